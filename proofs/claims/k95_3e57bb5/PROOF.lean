import PyProof.Rows.All
import Wide.All
import OpenK.AllK
import Wide.FinOn
import Lean
import PyProof.EqAt
import PyProof.EqKinds
import PyProof.TupleCall
import PySem.Challenge.RW_stepgrove_k95_whole_mirrored_rules
set_option Elab.async false
set_option linter.all false
set_option maxRecDepth 100000
abbrev BJ:=@List.length_map
abbrev A2:=@List.map_cons
abbrev CD:=@List.getElem?_map
abbrev Er:=@List.getD_eq_getElem?_getD
abbrev Dk:=@Bool.and_eq_true
abbrev Eb:=@List.size_toArray
abbrev Ep:=@List.map_append
abbrev Gf:=@List.length_append
abbrev F3:=@Option.bind_some
abbrev Ed:=@List.map_map
abbrev II:=@List.length_take
abbrev JB:=@List.take_length
abbrev Ii:=@PySem.Heap.size_push
abbrev Jz:=@List.length_cons
abbrev NT:=@List.zip_cons_cons
abbrev K1:=@List.sum_cons
abbrev OV:=@List.take_add_one
abbrev OM:=@PySem.Around.in1_units
abbrev QI:=@Int.toNat_natCast
abbrev X9:=@Array.getD_eq_getD_getElem?
abbrev SN:=@List.replicate_succ
abbrev Kz:=@Rat.mul_one
abbrev Sa:=@Array.forIn_toList
abbrev Qh:=@List.append_nil
abbrev P0:=@List.find?_cons
abbrev U4:=@List.filterMap_cons
abbrev QV:=@Int.natAbs_mul
abbrev NQ:=@Nat.pow_add
abbrev QA:=@Rat.mul_assoc
abbrev U7:=@List.flatten_cons
abbrev VI:=@List.append_assoc
abbrev MD:=List PySem.PyData->Option PySem.PyData
abbrev Fg:=PySem.W.Frag
abbrev Wb:=@PySem.wpAny_bind
abbrev PD:=PySem.PyData
abbrev SD:=PySem.Shared
abbrev VL:=PySem.Value
abbrev AD:=PySem.Addr
abbrev aA:=@PySem.wpAny_pure
abbrev aB:=@Option.bind_eq_some_iff
abbrev aC:=@Option.map_eq_some_iff
abbrev aD:=@List.getElem?_eq_some_iff
abbrev aE:=@PySem.Heap.get?_push_of_some
abbrev aF:=@PySem.Heap.lt_size
abbrev aG:=@List.getElem?_eq_getElem
abbrev aH:=@Nat.lt_of_lt_of_le
abbrev aI:=@Nat.ne_of_lt
abbrev aJ:=@Nat.le_refl
abbrev aK:=@Bool.false_ne_true
abbrev aL:=@List.all_eq_true
abbrev aM:=@List.mem_cons
abbrev aN:=@List.mem_of_getElem?
abbrev aO:=@PySem.Heap.get?_push_size
abbrev aP:=@of_decide_eq_true
abbrev aQ:=@List.mem_map
abbrev aR:=@PySem.PassesOwn.never
abbrev aS:=@List.mem_cons_of_mem
abbrev aT:=@PySem.wpAny_holding
abbrev aU:=@Nat.le_trans
abbrev aV:=@List.mem_append_right
abbrev aW:=@Nat.lt_of_le_of_lt
abbrev aX:=@List.mem_cons_self
abbrev aY:=@PySem.Heap.SameBut.update
abbrev aZ:=@Nat.pow_le_pow_right
abbrev aa:=@PySem.wpAny_call_entry
abbrev ae:=@PySem.wpAny_field
abbrev af:=@Option.some.inj
abbrev ag:=@List.mem_iff_getElem?
abbrev ah:=@List.map_congr_left
abbrev ai:=@Nat.ne_of_gt
abbrev aj:=@PySem.wpAny_callSpecial?_slot
abbrev ak:=@PySem.wpAny_seqItems
abbrev ao:=@PySem.wpAny_mono
abbrev aq:=@PySem.F.plainAttrs_list
abbrev ar:=@PyProof.Rows.callWith_type1
abbrev au:=@List.mem_map_of_mem
abbrev av:=@Nat.not_lt_zero
abbrev ax:=@PySem.wpAny_setField_rec
abbrev ay:=@List.mem_append
abbrev az:=@Nat.zero_le
abbrev bA:=@PySem.wpAny_newObj_type
abbrev bC:=@PySem.boot_len
abbrev bD:=@Nat.le_of_lt
abbrev bE:=@Nat.mul_le_mul_left
abbrev bF:=@decide_eq_false
abbrev bG:=@PySem.F.slot_zip_next
abbrev bH:=@PySem.wpAny_rule
abbrev bI:=@PySem.wpAny_setState_of
abbrev bJ:=@PySem.F.slot_list_append
abbrev bK:=@PySem.F.type_list_append
abbrev bL:=@PySem.W.kia_one
abbrev bM:=@congrArg
abbrev bN:=@List.mem_append_left
abbrev bO:=@Nat.lt_succ_self
abbrev bQ:=@List.eq_nil_of_length_eq_zero
abbrev bR:=@of_decide_eq_false
abbrev bS:=@List.idxOf_lt_length_iff
abbrev bT:=@List.mem_of_mem_take
abbrev bU:=@Nat.lt_succ_of_lt
abbrev bV:=@Bool.eq_false_iff
abbrev bW:=@Nat.lt_trans
abbrev bX:=@List.mem_range
abbrev bY:=@List.pairwise_cons
abbrev bZ:=@PyProof.Rows.KeyOrd.kle_refl
abbrev ba:=@List.length_map
abbrev bc:=@PyProof.Rows.boot_tuple
abbrev bf:=@decide_eq_true
abbrev bg:=@Nat.mul_le_mul
abbrev bh:=@List.find?_eq_none
abbrev bj:=@PyProof.Rows.boot_sum
abbrev bo:=@PySem.W.mg_of
set_option maxHeartbeats 0
abbrev yx:=List PD
abbrev yy:=List VL
abbrev yz:=VL->SD->Prop
abbrev y0:=PySem.Str->Option VL
abbrev y7:=Option PD
abbrev y9:=Array Nat
abbrev zA:=List Int
abbrev zC:=List PySem.Str
abbrev zD:=List PySem.Expr
abbrev zF:=Option Int
abbrev zG:=List Nat
abbrev zH:=List Rat
abbrev zL:=List AD
abbrev zM:=List PySem.Stmt
abbrev zN:=List PySem.Env
abbrev zO:=List (Option Nat)
abbrev F0a:=PySem.FuncData
abbrev F0b:=PySem.Program
abbrev F0c:=PySem.World
abbrev F0d:=PySem.Around
set_option hygiene false
local macro_rules
|`(AC)=>`(by lia)
|`(AS)=>`(model prog w)
|`(AT)=>`(by decide)
|`(As)=>`(Or.inl rfl)
|`(At)=>`(by simp)
|`(BY)=>`(Inv X pins σ H s)
|`(By)=>`(fC (.int 1))
|`(Ca)=>`((by have:=g.units;exact this))
|`(Ch)=>`(model X.prog X.w)
|`(Ci)=>`(AE (pv 0))
|`(Cl)=>`(BB X scope cl N C s₀ H₀ fp)
|`(Cu)=>`(List (AD×Obj))
|`(DR)=>`(fun _ _=>rfl)
|`(Da)=>`({s with heap:=h',toks:=tk})
|`(Db)=>`(AB (nm 0) AG)
|`(Do)=>`(.ref s.heap.objs.size)
|`(EL)=>`({ s with heap:=((s.heap.update a (Obj.mapSeq fun _ => #[])).push (seqObj "tuple" us.toArray 0)).push (seqObj "list" #[] 0) })
|`(EQ)=>`(.ListComp elt [⟨.Name x px,iter,ifs,0⟩] scope pos)
|`(EZ)=>`(kH w.params)
|`(Ev)=>`(["thing"])
|`(FB)=>`(Aq (AA AJ (AA AJ AF)))
|`(FS)=>`(∀(D C:AD) (s':SD) (H':Hp) m,s'.heap.Ns C m->Q (.ref D) H'->(∀h',Heap.SameBut C s'.heap h'->Inv X pins σ H' { s' with heap:=h'})->C≠D->(∀b o,s2.heap.get? b=some o->b≠C)->H' C=none->s2.heap.objs.size<=C->RR (.ref D) C (.ok .next) s')
|`(Fa)=>`(.head _)
|`(Fk)=>`(.type "tuple")
|`(Fr)=>`(AE (pv 1))
|`(GE)=>`(x==("__debug__" : Str))
|`(GM)=>`(Rw G0 H0 G H σ δ ts)
|`(Go)=>`((false,eval e X.env))
|`(Gr)=>`(((SetTable.insertAt ev (t.put j).2 (Ba x,Value.ref xa))[·]?))
|`(Hf)=>`(.ref a)
|`(Hk)=>`(by kernel_rfl)
|`(IF)=>`(["_law_one","_law_other"])
|`(IN)=>`(.Call (.Name x p) (e::es) [] pos)
|`(IO)=>`(X.A.units+64<cLine)
|`(IQ)=>`(["weighing"])
|`(IR)=>`(.lst ys)
|`(IS)=>`(fun cdv A outer s H vs Q E hr h=>?_)
|`(IW)=>`(["_law_tree"])
|`(IZ)=>`(List V)
|`(Id)=>`(IsPair s.heap TI (.ref i1) (.ref i2))
local macro_rules
|`(Iu)=>`(AE (pv 2))
|`(Iv)=>`(fC (.int 0))
|`(Ix)=>`(s.heap.objs.size+1)
|`(JJ)=>`(["one","other"])
|`(Jl)=>`(by rw[show A.in1.units=A.units+1 from rfl];lia)
|`(Jq)=>`(.bool true)
|`(KB)=>`(.lst xs)
|`(KF)=>`(by rw[sizeLine_eq];decide)
|`(KK)=>`(nm 1)
|`(KM)=>`(["tree"])
|`(KT)=>`(fun vs H Q E h=>?_)
|`(Ke)=>`(.tup xs)
|`(Kf)=>`(CA P w)
|`(Ki)=>`(Option Tr)
|`(Km)=>`(envOfC qual scope s.heap.objs.size f cd)
|`(LE)=>`(by decide +kernel)
|`(LJ)=>`((false,eval b X.env))
|`(LK)=>`(["_law_weighing","_law_trees_here","_law_tree"])
|`(LM)=>`(∀b∈ch,(b∈X.ex\/X.s₀.heap.objs.size<=b)/\b≠X.env.locals/\(∀x c,X.env.cells.lookup x=some c->c≠b)/\∀p∈X.pn++pins,p.1≠b)
|`(LQ)=>`(List VL)
|`(LT)=>`(bH (wpAny_updateDictKeys (hz:=by rw[Sz Y];exact hz) (s:={s with toks:=s.toks+DL k}) g hd (fin _ ⟨⟨_,_,ep+1,Heap.get?_update_self _ g (Obj.isFreed_of_dict (Obj.data_mapDictKeys hd _)),hc.mapDictKeys _,Obj.data_mapDictKeys hd _,?_⟩,fun y T=>?_,?_⟩ (aY ..))))
|`(L1)=>`(by rw[Du])
|`(L8)=>`(fun q=>decide (q.1=k))
|`(MR)=>`(((rest t).map fun c:OC=>FV (De b c.1) (c.2.map (Av a))).map Jo)
|`(MS)=>`(i+1)
|`(Mz)=>`(∀b o,h.get? b=some o->o.cls=.type "tuple" -> h'.get? b=some o)
|`(M0)=>`((·.1))
|`(M2)=>`(Builtin.SmallTypes.ownedTupleIsFree (.ref z)>>=_)
|`(M5)=>`(starEach es X.env)
|`(M9)=>`(bH (Wb (wpAny_updateDict (s:={s with toks:=s.toks+DL k}) g hd (wpAny_point (fin _ ⟨⟨_,_,ep,Heap.get?_update_self _ g (Obj.isFreed_of_dict (Obj.data_mapDict hd _)),hc.mapDict _,Obj.data_mapDict hd _,?_⟩,fun y T=>?_,?_⟩ (aY ..))))))
|`(ND)=>`((false,eval a X.env))
|`(NE)=>`((forIn scope.names [] (fun(x:Str×NameKind) (r:List (Str×AD))=>do if(x.2==NameKind.free)=true then do let a <-cellOf X.env x.1;pure (ForInStep.yield ((x.1,a)::r)) else pure (ForInStep.yield r)):Sem (List (Str×AD)))>>=fun cs=>pure cs)
|`(NF)=>`(.ref z)
|`(Na)=>`(s.heap.objs.size+2)
|`(Nb)=>`(s.heap.objs.size+3)
|`(No)=>`((e::es))
|`(Nu)=>`(I.ok.hd hc)
|`(Nv)=>`(A1 n (xW t) pX)
|`(Nz)=>`(Dv->Option PD)
|`(N8)=>`(.type "ValueError")
local macro_rules
|`(OF)=>`(ha pos pins s σ H _ I h)
|`(ON)=>`(BB X scope cl N Hq.objs.size s2 Z fp)
|`(OR)=>`(["_law_top","_law_bottom"])
|`(Of)=>`(Builtin.«zip.__next__» ⟨[.ref z],[]⟩)
|`(On)=>`((none::((AH n).take i).map some))
|`(Op)=>`({s with heap:=h'})
|`(Os)=>`(List (Option Tr))
|`(PN)=>`(AE (pv 3))
|`(PP)=>`({s with heap:=(s.heap.push (seqObj "list" #[] 0)).update s.heap.objs.size (Obj.mapSeq (· ++ vs.toArray))})
|`(PU)=>`(AB (nm 2) AG)
|`(PZ)=>`(.lst [])
|`(Pb)=>`((carry fr σ).set ix (some x))
|`(Ph)=>`(Option VL->SD->Prop)
|`(Pi)=>`(k+1)
|`(Qa)=>`(.Name x np)
|`(Qi)=>`(List (PD×V))
|`(Ql)=>`(aJ _)
|`(RH)=>`(Builtin.SmallTypes.nextOf (.ref i1)>>=_)
|`(RJ)=>`(Array (Int×VL))
|`(RN)=>`(["_law_number"])
|`(RW)=>`(ns.map V.int)
|`(Rb)=>`(.ref l)
|`(Rc)=>`(De b c.1)
|`(Re)=>`(aA ?_)
|`(Rj)=>`(IsZip s.heap z TI TO .none)
|`(Ro)=>`(SetTable.insertAt ev (t.put j).2 (Ba x,.ref xa))
|`(Rs)=>`(.inl rfl)
|`(Rz)=>`(B6 items.size items.size hi-B6 items.size 0 lo)
|`(SB)=>`(Draws prog w A.in1 i1 f1 n1 P1 S1)
|`(SC)=>`(Draws prog w A.in1 i2 f2 n2 P2 S2)
|`(SL)=>`(seqObj "list" us.toArray 0)
|`(ST)=>`(∀x∈xs,BI x.1=BI k->x.1=k)
|`(SZ)=>`(A.units+t.deep<cLine)
|`(Sc)=>`(PD->Dv->Option Dv)
|`(S7)=>`(Dv->Option (List PD))
|`(TD)=>`(fC (.bool false))
|`(TJ)=>`(.ref 24)
|`(TK)=>`(.builtin "ValueError.__new__")
|`(TN)=>`(["cut","ahead","behind"])
|`(TW)=>`(["_law_script","_law_k"])
local macro_rules
|`(Tk)=>`(["_law_script","_law_at","_law_most"])
|`(Tl)=>`(A5 _)
|`(Tm)=>`(Nat->Rat)
|`(To)=>`(.type "BaseException")
|`(Tt)=>`(EP X pins σ Q)
|`(Ty)=>`(List KR)
|`(T0)=>`(F8 rows.length)
|`(T1)=>`(.int (n:Nat))
|`(T9)=>`(fC (.int 2))
|`(UF)=>`(.tuple [.int ((t.AI:Int)-1),tD t])
|`(UJ)=>`(s.heap.objs.size+4)
|`(UV)=>`(fun z=>nomatch z)
|`(UW)=>`(Apart z TI TO i1 i2 f1 f2)
|`(Uf)=>`(VL->SD->Prop)
|`(Vx)=>`(Builtin.SmallTypes.nextOf (.ref i2)>>=_)
|`(WF)=>`(((boot_heap w.params).isNs mainGlobals&&(#[]:Array GenState).size==0,(boot_heap w.params).objs.size,(boot_heap w.params).nsMap mainGlobals "__annotations__"))
|`(WP)=>`(ys++[y])
|`(W1)=>`(Bool->SD->Prop)
|`(XN)=>`(BQ b1 T)
|`(XV)=>`(.builtin "sorted")
|`(ZB)=>`(fun _ _ _ _ _=>GP)
|`(al)=>`(fun _ _ _ _ _=>HC)
|`(am)=>`((∀c o,c≠z->c≠TO->c≠i1->c≠i2->s.heap.get? c=some o->h'.get? c=some o))
|`(bi)=>`(X.calm=true)
|`(bn)=>`(sV "stepgrove.errors" 187)
|`(bv)=>`(newFunctionEnv scope X.env.globals cl [] X.env.qual none .none (some X.env))
|`(ca)=>`(fun a b=>Ec a (FR rows b))
|`(ce)=>`(PD->PD->Option PD)
|`(cr)=>`(["most"])
|`(dO)=>`(Ap n)
|`(db)=>`({g with heap:=g.heap.push { cls:=.type "slice",data:=.fields #[U,R,.none]} })
|`(dl)=>`(AA Ci AF)
|`(eG)=>`(nm 0)
|`(fy)=>`(∀cl C s₀ H₀ fp,Pd Cl ifs tif)
|`(f8)=>`(∀cl C s₀ H₀ fp,PE Cl elt te)
|`(ge)=>`(ZT.Ef (prog:=X.prog) (w:=X.w) (A:=X.A.in1) Nu b1 i1 a1 us (e1 i1 At))
|`(gv)=>`(ZT.Ef (prog:=X.prog) (w:=X.w) (A:=X.A.in1) Nu b2 i2 a2 vs (e2 i2 At))
|`(iF)=>`(Ay (i:=2) sc.nd rfl As)
|`(iN)=>`(Bw Ci AJ DR)
|`(iS)=>`(AB KK AG)
local macro_rules
|`(ii)=>`(Bl I q At)
|`(im)=>`(∀D ys G' H',Rw G0 H0 G' H' σ δ ts->H' D=some IR->G' D=none->H0 D=none->(∀(j:Nat) (us:Oc),δ[j]? = some (L.own us)->σ[j]?≠some (some (V.ref D)))->An G' zs ys->Q (.ref D) H')
|`(io)=>`(∀(δ:Dv) (xs:yx),fs δ=some xs->∀(G0 H0 G H:Hp) (σ:St) (ts:Qi) (R:It->Hp->Prop),Rw G0 H0 G H σ δ ts->(∀J G' H',Rw G0 H0 G' H' σ δ ts->Mi J xs G'->R J H')->wi σ H R)
|`(jp)=>`(notedBy AS A env fun e s'=>R (.error e) s')
|`(kS)=>`(pv 1)
|`(ku)=>`(AU A8 (AB KK (AB (nm 2) (AB (nm 3) AG))))
|`(lX)=>`(fun r s'=>r=.ok (.ret Jq)/\OldK g.heap s'.heap/\s'.os=g.os/\AllBare s'.gens)
|`(lY)=>`(MF (IV rfl (B7 (Ay (i:=6) sc.nd rfl As) (B7 (Ay (i:=7) sc.nd rfl As) HE))))
namespace Opn
open PySem PySem.W PyProof.Rows PySem.Calls
noncomputable def q0:Pos:=⟨0,0,0,0⟩
noncomputable def v9:Obj:={ cls:=.type "tuple",data:=.seq #[]}
noncomputable def wC:Obj:={ cls:=.none,data:=.fields #[]}
noncomputable def wM:Obj:={ cls:=.type "code",data:=.fields #[.str (Str.ofString "<module>") 182,.str (Str.ofString "<module>") 183,.str (Str.ofString "/claim/cut.py") 184,.int 1 0,.int 0 0,.int 0 0,.int 0 0,.int 0 0,.ref 11,.bool false,.int 181 0,.ref 12,.none,.none,.none,.none,.int 185 0,.int 1 0,.str (Str.ofString "/claim/cut.py") 186]}
noncomputable def wZ:Obj:={ cls:=.type "frame",slots:=#[some (.ref 13),some (.ref 3),some (.ref 3),none,some (.str (Str.ofString "__main__") 164),none,some (.ref 0)]}
noncomputable def vT(P:Params):List Obj:=(boot_heap P).objs.toList++[v9,wC,wM,wZ]
noncomputable def nN(P:Params)(o:Params->Obj)(l r:BT):BT:=.node (o P) l r
noncomputable def lN(P:Params)(o:Params->Obj):BT:=.node (o P) .nil .nil
noncomputable def u5(P:Params):BT :=
 nN P boot_o_0 (nN P boot_o_1 (nN P boot_o_3 (lN P boot_o_7) (.node v9 .nil .nil)) (nN P boot_o_5 (lN P boot_o_9) (.node wM .nil .nil)))
  (nN P boot_o_2 (nN P boot_o_4 (lN P boot_o_8) (.node wC .nil .nil)) (nN P boot_o_6 (lN P boot_o_10) (.node wZ .nil .nil)))
noncomputable def lE:Life:=Life.mk [] [] [] 0 [] [] false #[] [] 0 false false false 0 [2000,10,10] false 0 true [] [] 0 false
noncomputable def sA(w:F0c)(os:OsState):SD:=⟨⟨⟨vT w.params⟩,lE⟩,#[],boot_drawn,187,os⟩
noncomputable def sB(w:F0c)(os:OsState):SharedT:=⟨u5 w.params,15,lE,#[],boot_drawn,187,os⟩
noncomputable def SQ(p:F0b):Env:={ scope:=p.main.scope,locals:=mainNs,globals:=mainNs,cells:=[],code:=.ref 13,frame:=some 14}
noncomputable def cB(p:F0b):Code:=.body (behindTheImports p) (SQ p)
noncomputable abbrev K2:Option VL:=some (.ref 6)
noncomputable abbrev bB:List Frame:=[topFrame q0]
noncomputable def dh(p:F0b)(M:Nat)(w:F0c)(os:OsState):Option (Flow×SharedT×Code×Pos) :=
 PySem.W.Fast.tw10110043849684766642 PySem.W.Fast.tw14364793385576792824 p w 11 K2 1 M (sB w os) (piecesOf (behindTheImports p) (SQ p) (cB p) q0 bB)
noncomputable def eA(p:F0b)(M:Nat)(w:F0c)(os:OsState):SharedT:=match dh p M w os with|some (_,s,_)=>s|none=>sB w os
def oE{p:F0b}{M:Nat}{w:F0c}{os:OsState}{r:Option (Flow×SharedT×Code×Pos)}(h:dh p M w os=r):segRunT treeTable p w 11 K2 1 M (sB w os) (piecesOf (behindTheImports p) (SQ p) (cB p) q0 bB)=r:=by
 have e:segRunT treeTable=PySem.W.Fast.tw10110043849684766642 PySem.W.Fast.tw14364793385576792824:=congr PySem.W.Fast.te10110043849684766642 PySem.W.Fast.te14364793385576792824;rw[e];exact h
def tV{p:F0b}{M T:Nat}{g:Pos}{w:F0c}{os:OsState} (pre:topGo treeTable p w 11 K2 12 ⟨boot_heap w.params,#[],boot_drawn,boot_toks,os⟩ (topStub p)=some (sA w os,⟨denote treeTable (cB p),cB p,q0,bB⟩)) (R:segRun treeTable p w 11 K2 1 1 (sA w os) (blockOf (behindTheImports p) (SQ p) (cB p) q0 bB)=some (.next,(sB w os).abs,cB p,q0)) (seg:dh p M w os=some (.next,eA p M w os,cB p,g)) (fin:∀s,topRun treeTable p w 11 K2 2 s (restOf [] (SQ p) (cB p) g bB)=some s)(U:T=12+(1+(M+2))):topRun treeTable p w 11 K2 T ⟨boot_heap w.params,#[],boot_drawn,boot_toks,os⟩ (topStub p)=some (eA p M w os).abs:=by
 subst U;refine go_top pre (piece_block R ?_);have h:=piece_app (rest:=[]) (segRun_of (oE seg)) (fin _);rw[(Qh)]at h;exact h
def nc{p q:F0b}{loose:zC}{Xt:SD->Bool}{α:Type}{Yf:SD->α}{Ya:F0c->α}{N M:Nat}{S:F0c->OsState->SD} (g:∀w:F0c,(fencedOpening treeTable p w N).map (fun s=>(s.heap,s.gens,s.drawn,s.toks))=some (boot_heap w.params,#[],boot_drawn,boot_toks)) (size:∀w:F0c,WF=(true,11,K2)) (run:∀w os,topRun treeTable p w 11 K2 M ⟨boot_heap w.params,#[],boot_drawn,boot_toks,os⟩ (topStub p)=some (S w os))(le:Nat.ble M N=true) (ok:∀w os,(staticsOk (importedModules p.main.body) (boot_heap w.params) (S w os).heap&&namesBound p (S w os).heap&&gensDone (S w os)&&laidKept (boot_heap w.params) (S w os).heap)=true) (seen:∀w os,openSeen q loose (importedModules p.main.body) Xt true (S w os)=openGood q loose) (Z:∀w os,Yf (S w os)=Ya w):LeftO p q loose Xt Yf Ya N:=fun w=>by
 obtain⟨⟨h,gs,d,k,os⟩,e,e'⟩:=aC.mp (g w);obtain⟨rfl,rfl,rfl,rfl⟩:h=boot_heap w.params/\gs=#[]/\d=boot_drawn/\k=boot_toks:=by simpa using e'
 obtain⟨U,T,R⟩:_/\_/\_:=by simpa only[Prod.mk.injEq]using size w
 have Y:=ok w os;have r:=topRun_mono (N-M) _ _ _ _ (run w os);rw[show M+(N-M)=N by have:=Nat.le_of_ble_eq_true le;lia]at r;have t:topFrom treeTable p w N ⟨boot_heap w.params,#[],boot_drawn,boot_toks,os⟩=some (S w os):=by
  unfold topFrom;dsimp only;rw[U,T,R,r];show(match staticsOk (importedModules p.main.body) (boot_heap w.params) (S w os).heap&&namesBound p (S w os).heap&&gensDone (S w os)&&laidKept (boot_heap w.params) (S w os).heap with|true=>_|false=>_)=_;rw[Y]
 unfold openEnds;rw[e];show(topFrom treeTable p w N _).map _=_;rw[t];exact bM some (Prod.ext (seen w os) (Z w os))
def uo(w:F0c):WF=(true,11,K2):=by kernel_rfl
end Opn
namespace Q95
open PySem
def top(i:Nat):Stmt:=PySem.Challenge.pw_stepgrove_k95_whole_mirrored_rules.main.body.getD i (.Pass ⟨0,0,0,0⟩)
end Q95
namespace L2
open PySem
def Hs(s:Stmt):Arguments:=match s with
 |.FunctionDef _ a _ _ _ _ _ _ _ _=>a
 |_=>{ posonlyargs:=[],args:=[],vararg:=none,kwonlyargs:=[],kw_defaults:=[],kwarg:=none,defaults:=[]}
def E9(s:Stmt):zM:=match s with
 |.FunctionDef _ _ b _ _ _ _ _ _ _=>b
 |_=>[]
def AO(s:Stmt):Scope:=match s with
 |.FunctionDef _ _ _ _ _ _ sc _ _ _=>sc
 |_=>{ kind:=.function,names:=[],isGenerator:=false,isCoroutine:=false}
end L2
namespace Q95
open PySem L2
section
open PySem.W PyProof.Rows PySem.Calls
abbrev Gw:F0b:=PySem.Challenge.pw_stepgrove_k95_whole_mirrored_rules
abbrev Bz:OpenLaw:=PySem.Challenge.rw_stepgrove_k95_whole_mirrored_rules
noncomputable abbrev dE(P:Params)(x:String)(t:Nat)(v:VL):DictEntry:=⟨PyData.keyHash P (Str.ofString x),.str (Str.ofString x) t,v⟩
noncomputable abbrev sV(x:String)(t:Nat):VL:=.str (Str.ofString x) t
noncomputable abbrev fO(n:String)(i:Nat)(m:String)(t c:Nat):Obj:=⟨.type "function",none,.func (fnOf n n (Hs (top i)) (E9 (top i)) (AO (top i)) .none .none .none (.str (Str.ofString m) t) none (.ref c) .none),#[]⟩
noncomputable abbrev cO(n:String)(t l a k r:Nat)(b:Bool)(Y:Nat)(U T R v4:VL)(g:Nat):Obj:=⟨.type "code",none,.fields #[sV n t,sV n (t+1),sV "/claim/cut.py" (t+2),.int l 0,.int a 0,.int 0 0,.int 0 0,.int k 0,.ref r,.bool b,.int 181 0,.ref Y,U,T,R,v4,.int g 0,.int l 0,sV "/claim/cut.py" (g+1)],#[]⟩
noncomputable def kH:Params->Frag:=fun P=>
 (nat_lit 2,⟨.none,none,(.dict #[] 0),#[]⟩) ::
 (nat_lit 3,⟨(.type "dict"),none,(.dict #[dE P "__name__" 165 (sV "law_stepgrove_k95_whole_mirrored_rules" 644),dE P "__doc__" 166 .none,dE P "__package__" 167 .none,dE P "__loader__" 168 (.builtin "__main__.__loader__#opaque"),dE P "__spec__" 169 .none,dE P "__annotations__" 170 (.ref 6),dE P "__builtins__" 171 (.ref 4),dE P "__file__" 173 (sV "/claim/cut.py" 172),dE P "__cached__" 174 .none,dE P "GroveError" 206 TJ,dE P "NoBottom" 222 (.ref 37),dE P "NoTree" 238 (.ref 49),dE P "NoTable" 254 (.ref 61),dE P "NoWeighing" 270 (.ref 73),dE P "NotAlike" 286 (.ref 85),dE P "TooMany" 302 (.ref 97),dE P "MOST_KNOTS" 306 (.int 7 305),dE P "is_tree" 315 (.ref 106),dE P "trees_of" 326 (.ref 113),dE P "trees_to" 335 (.ref 120),dE P "refuse_no_tree" 342 (.ref 127),dE P "in_falling_order" 349 (.ref 134),dE P "knots_within" 355 (.ref 139),dE P "density_within" 364 (.ref 146),dE P "trees_one_larger" 375 (.ref 153),dE P "tree_cuts" 384 (.ref 160),dE P "cuts_within" 390 (.ref 165),dE P "fraction_of" 401 (.ref 172),dE P "frac_times" 409 (.ref 179),dE P "is_fraction" 416 (.ref 186),dE P "are_fractions" 424 (.ref 193),dE P "is_whole" 431 (.ref 200),dE P "greatest_divisor" 442 (.ref 207),dE P "common_bottom" 451 (.ref 214),dE P "frac_total" 457 (.ref 219),dE P "power_of" 468 (.ref 226),dE P "MOST_ROWS" 472 (.int 40 471),dE P "is_table" 479 (.ref 233),dE P "refuse_no_table" 486 (.ref 240),dE P "are_rows" 495 (.ref 247),dE P "tops_over" 503 (.ref 252),dE P "table_bottom" 509 (.ref 257),dE P "WEIGHING_LENGTHS" 520 (.ref 258),dE P "table_weighing" 528 (.ref 265),dE P "true_weighing" 535 (.ref 272),dE P "weighing_reach" 542 (.ref 279),dE P "refuse_no_weighing" 549 (.ref 286),dE P "true_weights" 555 (.ref 291),dE P "weights_under" 561 (.ref 296),dE P "readings" 567 (.ref 301),dE P "read_by" 573 (.ref 306),dE P "weighing_composed" 581 (.ref 311),dE P "weighing_undone" 587 (.ref 316),dE P "weighing_turned" 593 (.ref 321),dE P "weighing_mirrored" 600 (.ref 328),dE P "cut_share" 612 (.ref 335),dE P "frac_power" 620 (.ref 342),dE P "weighing_order" 631 (.ref 349),dE P "first_unlike" 643 (.ref 356),dE P "_law_cell" 655 (.ref 363),dE P "_law_frac" 665 (.ref 370),dE P "_law_add" 673 (.ref 377),dE P "_law_mul" 681 (.ref 384),dE P "_law_kept" 687 (.ref 389),dE P "_law_longer" 693 (.ref 394),dE P "_law_trees" 705 (.ref 401),dE P "_law_knots" 711 (.ref 406),dE P "_law_density" 720 (.ref 413),dE P "_law_entry" 727 (.ref 420),dE P "_law_named" 734 (.ref 427),dE P "_law_table" 751 (.ref 434),dE P "_law_copied" 757 (.ref 439),dE P "_law_off" 767 (.ref 446),dE P "law" 783 (.ref 453)] 74),#[]⟩) ::
 (nat_lit 15,⟨Fk,none,(.seq #[N8] 0),#[]⟩) ::
 (nat_lit 22,⟨Fk,none,(.seq #[] 0),#[]⟩) ::
 (nat_lit 23,⟨(.type "dict"),none,(.dict #[dE P "__module__" 196 bn,dE P "__firstlineno__" 200 (.int 2 199),dE P "__static_attributes__" 201 (.ref 22),dE P "__weakref__" 203 (.ref 25),dE P "__doc__" 204 .none] 3),#[]⟩) ::
 (nat_lit 24,⟨(.type "type"),none,(.cls ⟨Str.ofString "GroveError",[N8],[TJ,N8,(.type "Exception"),To,(.type "object")],23,Str.ofString "GroveError",true,[],[(.ref 37),(.ref 49),(.ref 61),(.ref 73),(.ref 85),(.ref 97)],false,none,false⟩),#[some (.ref 15),none,some (sV "GroveError" 189),some (sV "GroveError" 197),some TK,some Jq]⟩) ::
 (nat_lit 25,⟨(.type "getset_descriptor"),none,(.fields #[(sV "__weakref__" 202),TJ,(.builtin "ExceptionGroup.__weakref__"),.none]),#[]⟩) ::
 (nat_lit 28,⟨Fk,none,(.seq #[TJ] 0),#[]⟩) ::
 (nat_lit 35,⟨Fk,none,(.seq #[] 0),#[]⟩) ::
 (nat_lit 36,⟨(.type "dict"),none,(.dict #[dE P "__module__" 214 bn,dE P "__firstlineno__" 218 (.int 4 217),dE P "__static_attributes__" 219 (.ref 35),dE P "__doc__" 220 .none] 2),#[]⟩) ::
 (nat_lit 37,⟨(.type "type"),none,(.cls ⟨Str.ofString "NoBottom",[TJ],[(.ref 37),TJ,N8,(.type "Exception"),To,(.type "object")],36,Str.ofString "NoBottom",true,[],[],false,none,false⟩),#[some (.ref 28),none,some (sV "NoBottom" 207),some (sV "NoBottom" 215),some TK,some Jq]⟩) ::
 (nat_lit 40,⟨Fk,none,(.seq #[TJ] 0),#[]⟩) ::
 (nat_lit 47,⟨Fk,none,(.seq #[] 0),#[]⟩) ::
 (nat_lit 48,⟨(.type "dict"),none,(.dict #[dE P "__module__" 230 bn,dE P "__firstlineno__" 234 (.int 6 233),dE P "__static_attributes__" 235 (.ref 47),dE P "__doc__" 236 .none] 2),#[]⟩) ::
 (nat_lit 49,⟨(.type "type"),none,(.cls ⟨Str.ofString "NoTree",[TJ],[(.ref 49),TJ,N8,(.type "Exception"),To,(.type "object")],48,Str.ofString "NoTree",true,[],[],false,none,false⟩),#[some (.ref 40),none,some (sV "NoTree" 223),some (sV "NoTree" 231),some TK,some Jq]⟩) ::
 (nat_lit 52,⟨Fk,none,(.seq #[TJ] 0),#[]⟩) ::
 (nat_lit 59,⟨Fk,none,(.seq #[] 0),#[]⟩) ::
 (nat_lit 60,⟨(.type "dict"),none,(.dict #[dE P "__module__" 246 bn,dE P "__firstlineno__" 250 (.int 8 249),dE P "__static_attributes__" 251 (.ref 59),dE P "__doc__" 252 .none] 2),#[]⟩) ::
 (nat_lit 61,⟨(.type "type"),none,(.cls ⟨Str.ofString "NoTable",[TJ],[(.ref 61),TJ,N8,(.type "Exception"),To,(.type "object")],60,Str.ofString "NoTable",true,[],[],false,none,false⟩),#[some (.ref 52),none,some (sV "NoTable" 239),some (sV "NoTable" 247),some TK,some Jq]⟩) ::
 (nat_lit 64,⟨Fk,none,(.seq #[TJ] 0),#[]⟩) ::
 (nat_lit 71,⟨Fk,none,(.seq #[] 0),#[]⟩) ::
 (nat_lit 72,⟨(.type "dict"),none,(.dict #[dE P "__module__" 262 bn,dE P "__firstlineno__" 266 (.int 10 265),dE P "__static_attributes__" 267 (.ref 71),dE P "__doc__" 268 .none] 2),#[]⟩) ::
 (nat_lit 73,⟨(.type "type"),none,(.cls ⟨Str.ofString "NoWeighing",[TJ],[(.ref 73),TJ,N8,(.type "Exception"),To,(.type "object")],72,Str.ofString "NoWeighing",true,[],[],false,none,false⟩),#[some (.ref 64),none,some (sV "NoWeighing" 255),some (sV "NoWeighing" 263),some TK,some Jq]⟩) ::
 (nat_lit 76,⟨Fk,none,(.seq #[TJ] 0),#[]⟩) ::
 (nat_lit 83,⟨Fk,none,(.seq #[] 0),#[]⟩) ::
 (nat_lit 84,⟨(.type "dict"),none,(.dict #[dE P "__module__" 278 bn,dE P "__firstlineno__" 282 (.int 12 281),dE P "__static_attributes__" 283 (.ref 83),dE P "__doc__" 284 .none] 2),#[]⟩) ::
 (nat_lit 85,⟨(.type "type"),none,(.cls ⟨Str.ofString "NotAlike",[TJ],[(.ref 85),TJ,N8,(.type "Exception"),To,(.type "object")],84,Str.ofString "NotAlike",true,[],[],false,none,false⟩),#[some (.ref 76),none,some (sV "NotAlike" 271),some (sV "NotAlike" 279),some TK,some Jq]⟩) ::
 (nat_lit 88,⟨Fk,none,(.seq #[TJ] 0),#[]⟩) ::
 (nat_lit 95,⟨Fk,none,(.seq #[] 0),#[]⟩) ::
 (nat_lit 96,⟨(.type "dict"),none,(.dict #[dE P "__module__" 294 bn,dE P "__firstlineno__" 298 (.int 14 297),dE P "__static_attributes__" 299 (.ref 95),dE P "__doc__" 300 .none] 2),#[]⟩) ::
 (nat_lit 97,⟨(.type "type"),none,(.cls ⟨Str.ofString "TooMany",[TJ],[(.ref 97),TJ,N8,(.type "Exception"),To,(.type "object")],96,Str.ofString "TooMany",true,[],[],false,none,false⟩),#[some (.ref 88),none,some (sV "TooMany" 287),some (sV "TooMany" 295),some TK,some Jq]⟩) ::
 (nat_lit 105,cO "is_tree" 307 18 1 3 100 true 101 .none (.ref 102) (.ref 103) (.ref 104) 313) ::
 (nat_lit 106,fO "is_tree" 10 "stepgrove.trees" 303 105) ::
 (nat_lit 112,cO "trees_of" 316 27 1 3 107 true 108 .none (.ref 109) (.ref 110) (.ref 111) 324) ::
 (nat_lit 113,fO "trees_of" 11 "stepgrove.trees" 303 112) ::
 (nat_lit 119,cO "trees_to" 327 37 1 3 114 true 115 .none (.ref 116) (.ref 117) (.ref 118) 333) ::
 (nat_lit 120,fO "trees_to" 12 "stepgrove.trees" 303 119) ::
 (nat_lit 126,cO "refuse_no_tree" 336 44 1 3 121 true 122 .none (.ref 123) (.ref 124) (.ref 125) 340) ::
 (nat_lit 127,fO "refuse_no_tree" 13 "stepgrove.trees" 303 126) ::
 (nat_lit 133,cO "in_falling_order" 343 47 1 3 128 true 129 .none (.ref 130) (.ref 131) (.ref 132) 347) ::
 (nat_lit 134,fO "in_falling_order" 14 "stepgrove.trees" 303 133) ::
 (nat_lit 138,cO "knots_within" 350 49 1 3 135 true 136 .none .none .none (.ref 137) 353) ::
 (nat_lit 139,fO "knots_within" 15 "stepgrove.trees" 303 138) ::
 (nat_lit 145,cO "density_within" 356 51 1 3 140 true 141 .none (.ref 142) (.ref 143) (.ref 144) 362) ::
 (nat_lit 146,fO "density_within" 16 "stepgrove.trees" 303 145) ::
 (nat_lit 152,cO "trees_one_larger" 365 56 1 3 147 true 148 .none (.ref 149) (.ref 150) (.ref 151) 373) ::
 (nat_lit 153,fO "trees_one_larger" 17 "stepgrove.trees" 303 152) ::
 (nat_lit 159,cO "tree_cuts" 378 63 1 3 154 true 155 .none (.ref 156) (.ref 157) (.ref 158) 382) ::
 (nat_lit 160,fO "tree_cuts" 19 "stepgrove.cuts" 376 159) ::
 (nat_lit 164,cO "cuts_within" 385 66 1 3 161 true 162 .none .none .none (.ref 163) 388) ::
 (nat_lit 165,fO "cuts_within" 20 "stepgrove.cuts" 376 164) ::
 (nat_lit 171,cO "fraction_of" 393 77 2 3 166 true 167 .none (.ref 168) (.ref 169) (.ref 170) 399) ::
 (nat_lit 172,fO "fraction_of" 22 "stepgrove.fracs" 391 171) ::
 (nat_lit 178,cO "frac_times" 402 84 2 3 173 true 174 .none (.ref 175) (.ref 176) (.ref 177) 407) ::
 (nat_lit 179,fO "frac_times" 23 "stepgrove.fracs" 391 178) ::
 (nat_lit 185,cO "is_fraction" 410 86 1 3 180 true 181 .none (.ref 182) (.ref 183) (.ref 184) 414) ::
 (nat_lit 186,fO "is_fraction" 24 "stepgrove.fracs" 391 185) ::
 (nat_lit 192,cO "are_fractions" 417 92 1 3 187 true 188 .none (.ref 189) (.ref 190) (.ref 191) 422) ::
 (nat_lit 193,fO "are_fractions" 25 "stepgrove.fracs" 391 192) ::
 (nat_lit 199,cO "is_whole" 425 99 1 3 194 true 195 .none (.ref 196) (.ref 197) (.ref 198) 429) ::
 (nat_lit 200,fO "is_whole" 26 "stepgrove.fracs" 391 199) ::
 (nat_lit 206,cO "greatest_divisor" 432 101 2 3 201 true 202 .none (.ref 203) (.ref 204) (.ref 205) 440) ::
 (nat_lit 207,fO "greatest_divisor" 27 "stepgrove.fracs" 391 206) ::
 (nat_lit 213,cO "common_bottom" 443 109 1 3 208 true 209 .none (.ref 210) (.ref 211) (.ref 212) 449) ::
 (nat_lit 214,fO "common_bottom" 28 "stepgrove.fracs" 391 213) ::
 (nat_lit 218,cO "frac_total" 452 114 1 3 215 true 216 .none .none .none (.ref 217) 455) ::
 (nat_lit 219,fO "frac_total" 29 "stepgrove.fracs" 391 218) ::
 (nat_lit 225,cO "power_of" 458 117 2 3 220 true 221 .none (.ref 222) (.ref 223) (.ref 224) 466) ::
 (nat_lit 226,fO "power_of" 30 "stepgrove.fracs" 391 225) ::
 (nat_lit 232,cO "is_table" 473 130 1 3 227 true 228 .none (.ref 229) (.ref 230) (.ref 231) 477) ::
 (nat_lit 233,fO "is_table" 33 "stepgrove.tables" 469 232) ::
 (nat_lit 239,cO "refuse_no_table" 480 134 1 3 234 true 235 .none (.ref 236) (.ref 237) (.ref 238) 484) ::
 (nat_lit 240,fO "refuse_no_table" 34 "stepgrove.tables" 469 239) ::
 (nat_lit 246,cO "are_rows" 487 137 1 3 241 true 242 .none (.ref 243) (.ref 244) (.ref 245) 493) ::
 (nat_lit 247,fO "are_rows" 35 "stepgrove.tables" 469 246) ::
 (nat_lit 251,cO "tops_over" 498 145 2 3 248 true 249 .none .none .none (.ref 250) 501) ::
 (nat_lit 252,fO "tops_over" 37 "stepgrove.wholes" 496 251) ::
 (nat_lit 256,cO "table_bottom" 504 147 1 3 253 true 254 .none .none .none (.ref 255) 507) ::
 (nat_lit 257,fO "table_bottom" 38 "stepgrove.wholes" 496 256) ::
 (nat_lit 258,⟨Fk,none,(.seq #[(.int 0 512),(.int 1 513),(.int 2 514),(.int 4 515),(.int 8 516),(.int 17 517),(.int 37 518),(.int 85 519)] 0),#[]⟩) ::
 (nat_lit 264,cO "table_weighing" 521 154 2 3 259 true 260 .none (.ref 261) (.ref 262) (.ref 263) 526) ::
 (nat_lit 265,fO "table_weighing" 41 "stepgrove.weights" 510 264) ::
 (nat_lit 271,cO "true_weighing" 529 157 1 3 266 true 267 .none (.ref 268) (.ref 269) (.ref 270) 533) ::
 (nat_lit 272,fO "true_weighing" 42 "stepgrove.weights" 510 271) ::
 (nat_lit 278,cO "weighing_reach" 536 159 1 3 273 true 274 .none (.ref 275) (.ref 276) (.ref 277) 540) ::
 (nat_lit 279,fO "weighing_reach" 43 "stepgrove.weights" 510 278) ::
 (nat_lit 285,cO "refuse_no_weighing" 543 162 1 3 280 true 281 .none (.ref 282) (.ref 283) (.ref 284) 547) ::
 (nat_lit 286,fO "refuse_no_weighing" 44 "stepgrove.weights" 510 285) ::
 (nat_lit 290,cO "true_weights" 550 165 1 3 287 true 288 .none .none .none (.ref 289) 553) ::
 (nat_lit 291,fO "true_weights" 45 "stepgrove.weights" 510 290) ::
 (nat_lit 295,cO "weights_under" 556 167 2 3 292 true 293 .none .none .none (.ref 294) 559) ::
 (nat_lit 296,fO "weights_under" 46 "stepgrove.weights" 510 295) ::
 (nat_lit 300,cO "readings" 562 175 3 3 297 true 298 .none .none .none (.ref 299) 565) ::
 (nat_lit 301,fO "readings" 47 "stepgrove.weights" 510 300) ::
 (nat_lit 305,cO "read_by" 568 182 2 3 302 true 303 .none .none .none (.ref 304) 571) ::
 (nat_lit 306,fO "read_by" 48 "stepgrove.weights" 510 305) ::
 (nat_lit 310,cO "weighing_composed" 576 185 2 3 307 true 308 .none .none .none (.ref 309) 579) ::
 (nat_lit 311,fO "weighing_composed" 50 "stepgrove.weighings" 574 310) ::
 (nat_lit 315,cO "weighing_undone" 582 194 1 3 312 true 313 .none .none .none (.ref 314) 585) ::
 (nat_lit 316,fO "weighing_undone" 51 "stepgrove.weighings" 574 315) ::
 (nat_lit 320,cO "weighing_turned" 588 202 2 3 317 true 318 .none .none .none (.ref 319) 591) ::
 (nat_lit 321,fO "weighing_turned" 52 "stepgrove.weighings" 574 320) ::
 (nat_lit 327,cO "weighing_mirrored" 594 205 1 3 322 true 323 .none (.ref 324) (.ref 325) (.ref 326) 598) ::
 (nat_lit 328,fO "weighing_mirrored" 53 "stepgrove.weighings" 574 327) ::
 (nat_lit 334,cO "cut_share" 601 207 3 3 329 true 330 .none (.ref 331) (.ref 332) (.ref 333) 610) ::
 (nat_lit 335,fO "cut_share" 54 "stepgrove.weighings" 574 334) ::
 (nat_lit 341,cO "frac_power" 613 214 2 3 336 true 337 .none (.ref 338) (.ref 339) (.ref 340) 618) ::
 (nat_lit 342,fO "frac_power" 55 "stepgrove.weighings" 574 341) ::
 (nat_lit 348,cO "weighing_order" 623 217 1 3 343 true 344 .none (.ref 345) (.ref 346) (.ref 347) 629) ::
 (nat_lit 349,fO "weighing_order" 57 "stepgrove.orders" 621 348) ::
 (nat_lit 355,cO "first_unlike" 632 223 3 3 350 true 351 .none (.ref 352) (.ref 353) (.ref 354) 641) ::
 (nat_lit 356,fO "first_unlike" 58 "stepgrove.orders" 621 355) ::
 (nat_lit 362,cO "_law_cell" 646 229 2 3 357 true 358 .none (.ref 359) (.ref 360) (.ref 361) 653) ::
 (nat_lit 363,fO "_law_cell" 60 "law_stepgrove_k95_whole_mirrored_rules" 644 362) ::
 (nat_lit 369,cO "_law_frac" 656 238 2 3 364 true 365 .none (.ref 366) (.ref 367) (.ref 368) 663) ::
 (nat_lit 370,fO "_law_frac" 61 "law_stepgrove_k95_whole_mirrored_rules" 644 369) ::
 (nat_lit 376,cO "_law_add" 666 246 2 3 371 true 372 .none (.ref 373) (.ref 374) (.ref 375) 671) ::
 (nat_lit 377,fO "_law_add" 62 "law_stepgrove_k95_whole_mirrored_rules" 644 376) ::
 (nat_lit 383,cO "_law_mul" 674 248 2 3 378 true 379 .none (.ref 380) (.ref 381) (.ref 382) 679) ::
 (nat_lit 384,fO "_law_mul" 63 "law_stepgrove_k95_whole_mirrored_rules" 644 383) ::
 (nat_lit 388,cO "_law_kept" 682 250 1 3 385 true 386 .none .none .none (.ref 387) 685) ::
 (nat_lit 389,fO "_law_kept" 64 "law_stepgrove_k95_whole_mirrored_rules" 644 388) ::
 (nat_lit 393,cO "_law_longer" 688 252 1 3 390 true 391 .none .none .none (.ref 392) 691) ::
 (nat_lit 394,fO "_law_longer" 65 "law_stepgrove_k95_whole_mirrored_rules" 644 393) ::
 (nat_lit 400,cO "_law_trees" 694 257 1 3 395 true 396 .none (.ref 397) (.ref 398) (.ref 399) 703) ::
 (nat_lit 401,fO "_law_trees" 66 "law_stepgrove_k95_whole_mirrored_rules" 644 400) ::
 (nat_lit 405,cO "_law_knots" 706 267 1 3 402 true 403 .none .none .none (.ref 404) 709) ::
 (nat_lit 406,fO "_law_knots" 67 "law_stepgrove_k95_whole_mirrored_rules" 644 405) ::
 (nat_lit 412,cO "_law_density" 712 269 1 3 407 true 408 .none (.ref 409) (.ref 410) (.ref 411) 718) ::
 (nat_lit 413,fO "_law_density" 68 "law_stepgrove_k95_whole_mirrored_rules" 644 412) ::
 (nat_lit 419,cO "_law_entry" 721 274 1 3 414 true 415 .none (.ref 416) (.ref 417) (.ref 418) 725) ::
 (nat_lit 420,fO "_law_entry" 69 "law_stepgrove_k95_whole_mirrored_rules" 644 419) ::
 (nat_lit 426,cO "_law_named" 728 276 1 3 421 true 422 .none (.ref 423) (.ref 424) (.ref 425) 732) ::
 (nat_lit 427,fO "_law_named" 70 "law_stepgrove_k95_whole_mirrored_rules" 644 426) ::
 (nat_lit 433,cO "_law_table" 735 286 3 3 428 true 429 .none (.ref 430) (.ref 431) (.ref 432) 749) ::
 (nat_lit 434,fO "_law_table" 71 "law_stepgrove_k95_whole_mirrored_rules" 644 433) ::
 (nat_lit 445,cO "_law_off" 758 311 3 3 440 true 441 .none (.ref 442) (.ref 443) (.ref 444) 765) ::
 (nat_lit 446,fO "_law_off" 73 "law_stepgrove_k95_whole_mirrored_rules" 644 445) ::
 (nat_lit 452,cO "law" 768 314 1 3 447 true 448 .none (.ref 449) (.ref 450) (.ref 451) 781) ::
 (nat_lit 453,fO "law" 74 "law_stepgrove_k95_whole_mirrored_rules" 644 452)::[]
abbrev qX:F0b:=view Gw [1,2,3,4,5,6,7,9,10,11,12,13,14,15,16,17,19,20,22,23,24,25,26,27,28,29,30,32,33,34,35,37,38,40,41,42,43,44,45,46,47,48,50,51,52,53,54,55,57,58,60,61,62,63,64,65,66,67,68,69,70,71,72,73,74]
noncomputable abbrev hX:Hook:=kHook kH [nat_lit 2,nat_lit 3,nat_lit 15,nat_lit 22,nat_lit 23,nat_lit 24,nat_lit 25,nat_lit 28,nat_lit 35,nat_lit 36,nat_lit 37,nat_lit 40,nat_lit 47,nat_lit 48,nat_lit 49,nat_lit 52,nat_lit 59,nat_lit 60,nat_lit 61,nat_lit 64,nat_lit 71,nat_lit 72,nat_lit 73,nat_lit 76,nat_lit 83,nat_lit 84,nat_lit 85,nat_lit 88,nat_lit 95,nat_lit 96,nat_lit 97,nat_lit 105,nat_lit 106,nat_lit 112,nat_lit 113,nat_lit 119,nat_lit 120,nat_lit 126,nat_lit 127,nat_lit 133,nat_lit 134,nat_lit 138,nat_lit 139,nat_lit 145,nat_lit 146,nat_lit 152,nat_lit 153,nat_lit 159,nat_lit 160,nat_lit 164,nat_lit 165,nat_lit 171,nat_lit 172,nat_lit 178,nat_lit 179,nat_lit 185,nat_lit 186,nat_lit 192,nat_lit 193,nat_lit 199,nat_lit 200,nat_lit 206,nat_lit 207,nat_lit 213,nat_lit 214,nat_lit 218,nat_lit 219,nat_lit 225,nat_lit 226,nat_lit 232,nat_lit 233,nat_lit 239,nat_lit 240,nat_lit 246,nat_lit 247,nat_lit 251,nat_lit 252,nat_lit 256,nat_lit 257,nat_lit 258,nat_lit 264,nat_lit 265,nat_lit 271,nat_lit 272,nat_lit 278,nat_lit 279,nat_lit 285,nat_lit 286,nat_lit 290,nat_lit 291,nat_lit 295,nat_lit 296,nat_lit 300,nat_lit 301,nat_lit 305,nat_lit 306,nat_lit 310,nat_lit 311,nat_lit 315,nat_lit 316,nat_lit 320,nat_lit 321,nat_lit 327,nat_lit 328,nat_lit 334,nat_lit 335,nat_lit 341,nat_lit 342,nat_lit 348,nat_lit 349,nat_lit 355,nat_lit 356,nat_lit 362,nat_lit 363,nat_lit 369,nat_lit 370,nat_lit 376,nat_lit 377,nat_lit 383,nat_lit 384,nat_lit 388,nat_lit 389,nat_lit 393,nat_lit 394,nat_lit 400,nat_lit 401,nat_lit 405,nat_lit 406,nat_lit 412,nat_lit 413,nat_lit 419,nat_lit 420,nat_lit 426,nat_lit 427,nat_lit 433,nat_lit 434,nat_lit 445,nat_lit 446,nat_lit 452,nat_lit 453] (fun _=>by kernel_rfl)
noncomputable def dX:DefRec:=⟨Str.ofString "law",Hs (top 74),E9 (top 74),AO (top 74),⟨314,0,332,113⟩⟩
def ug:Bz.wellSaid=true:=(congrFun PySem.W.Fast.te9446332074065402090 _).trans Hk
def xy(w:F0c)(os:OsState):topGo treeTable Gw w 11 Opn.K2 12 ⟨boot_heap w.params,#[],boot_drawn,boot_toks,os⟩ (topStub Gw)=some (Opn.sA w os,⟨denote treeTable (Opn.cB Gw),Opn.cB Gw,Opn.q0,Opn.bB⟩):=by kernel_rfl
def yA(w:F0c)(os:OsState):segRun treeTable Gw w 11 Opn.K2 1 1 (Opn.sA w os) (blockOf (behindTheImports Gw) (Opn.SQ Gw) (Opn.cB Gw) Opn.q0 Opn.bB)=some (.next,(Opn.sB w os).abs,Opn.cB Gw,Opn.q0):=by kernel_rfl
def xD(w:F0c)(s:SD):topRun treeTable Gw w 11 Opn.K2 2 s (restOf [] (Opn.SQ Gw) (Opn.cB Gw) ⟨314,0,332,113⟩ Opn.bB)=some s:=by kernel_rfl
def xc(w:F0c)(os:OsState):Opn.dh Gw 3219 w os=some (.next,Opn.eA Gw 3219 w os,Opn.cB Gw,⟨314,0,332,113⟩):=by kernel_rfl
noncomputable abbrev sX(w:F0c)(os:OsState):SD:=(Opn.eA Gw 3219 w os).abs
def xV(w:F0c)(os:OsState):(staticsOk (importedModules Gw.main.body) (boot_heap w.params) (sX w os).heap&&namesBound Gw (sX w os).heap&&gensDone (sX w os)&&laidKept (boot_heap w.params) (sX w os).heap)=true:=by kernel_rfl
def uq(w:F0c)(os:OsState):hX.obs (sX w os)=hX.val w:=by kernel_rfl
noncomputable abbrev pw:SD->Bool:=fun s=>xlAt qX [] s&&recOk (RowW.records Bz.row.toRowW) s
def uu(w:F0c)(os:OsState):openSeen qX [] (importedModules Gw.main.body) pw true (sX w os)=openGood qX []:=by kernel_rfl
def ub(w:F0c):(fencedOpening treeTable Gw w 6562).map (fun s=>(s.heap,s.gens,s.drawn,s.toks))=some (boot_heap w.params,#[],boot_drawn,boot_toks):=boot_open (p:=Gw) (N:=6562) Hk Hk (fun _=>by kernel_rfl) w
def vf:LeftO Gw qX [] pw hX.obs hX.val 6562:=Opn.nc (M:=3234) (S:=sX) ub Opn.uo (fun w os=>Opn.tV (xy w os) (yA w os) (xc w os) (xD w) Hk) Hk xV uu uq
def xo:defOf qX Bz.row.name=some (dX,[]):=by kernel_rfl
def x8:Gw.theDef Bz.row.name=some (dX.params,dX.body,dX.scope):=by kernel_rfl
def yh:kwWritten? dX.params.kwonlyargs dX.params.kw_defaults=some []:=by kernel_rfl
def xU:(chainsOk qX&&opensWell Bz.row.prog&&(frees Bz.row.toRowW&&Bz.row.within.isEmpty))=true:=by kernel_rfl
def vp:Gw.bare:=⟨rfl,rfl,rfl,rfl,rfl,by decide +kernel⟩
def openX(U:Bz.row.toRowW.promised)(Y:WalkO qX [] (XL qX []) hX.says Bz.row.toRowW dX [] (fun f vs=>PySem.call f vs)):Bz.Holds :=
 holds_law ug fun g=>holds_open (r:=Bz.row) (q:=qX) (loose:=[]) (Xt:=pw) (XP:=XL qX []) (Yf:=hX.obs) (Ya:=hX.val) (YP:=hX.says) (d:=dX) (kwd:=[]) (N:=6562) vf hX.of hX.keeps (fun s e=>xl_of s (Bool.and_eq_true_iff.mp e).1) XL.keeps xo x8 yh (fun s e=>recFacts_of (Bool.and_eq_true_iff.mp e).2) rfl g xU vp U Y
end
end Q95
namespace L2
open PySem PySem.Spec PyProof.Rows
abbrev Key:=Sum Int Str
def lO:Key->VL->Bool
 |.inl k,v=>Value.isInt k v
 |.inr x,v=>Value.isStrOf x v
def xM(w:F0c):Key->Int
 |.inl k=>hashInt k
 |.inr x=>hashStr w x
def EJ:∀ {k:Key} {v:VL},lO k v=true->(∃i t,k=Sum.inl i/\v=Value.int i t)\/(∃x t,k=Sum.inr x/\v=Value.str x t)
 |.inl i,v,h=>by
  obtain⟨t,e⟩:=Value.isInt_shape (k:=i) (v:=v) h;exact .inl ⟨i,t,rfl,e⟩
 |.inr x,v,h=>by
  obtain⟨t,e⟩:=Value.isStrOf_shape (x:=x) (v:=v) h;exact .inr ⟨x,t,rfl,e⟩
def q9(a b:Int):decide ((Sum.inl a:Key)=Sum.inl b)=(a==b):=by
 by_cases e:a=b
 .subst e;simp
 .have h:¬(Sum.inl a:Key)=Sum.inl b:=fun q=>e (Sum.inl.inj q);rw[decide_eq_false h];exact(beq_eq_false_iff_ne.mpr e).symm
def uA(a b:Str):decide ((Sum.inr a:Key)=Sum.inr b)=decide (a=b):=by
 by_cases e:a=b
 .subst e;simp
 .have h:¬(Sum.inr a:Key)=Sum.inr b:=fun q=>e (Sum.inr.inj q);rw[decide_eq_false h,decide_eq_false e]
def uG(a:Int)(b:Str):decide ((Sum.inl a:Key)=Sum.inr b)=false:=bF (fun q=>nomatch q)
def pI(a:Str)(b:Int):decide ((Sum.inr a:Key)=Sum.inl b)=false:=bF (fun q=>nomatch q)
def b9(prog:F0b)(w:F0c):PySem.KeyKind prog w Key where
 is:=lO
 hash:=xM w
 inj:=fun v a b ha hb=>by
  rcases EJ ha with ⟨i,t,rfl,rfl⟩|⟨x,t,rfl,rfl⟩
  .rcases EJ hb with ⟨j,u,rfl,e⟩|⟨y,u,rfl,e⟩
   .injection e with e1 _;rw[e1]
   .exact nomatch e
  .rcases EJ hb with ⟨j,u,rfl,e⟩|⟨y,u,rfl,e⟩
   .exact nomatch e
   .injection e with e1 _;rw[e1]
 byValue:=fun k v h=>by
  rcases EJ h with ⟨i,t,rfl,rfl⟩|⟨x,t,rfl,rfl⟩<;>rfl
 pyHash:=fun hv h=>by
  rcases EJ hv with ⟨i,t,rfl,rfl⟩|⟨x,t,rfl,rfl⟩
  .exact wpAny_pyHash_int h
  .exact wpAny_pyHash_str h
 eqBool:=fun hu hv h=>by
  rcases EJ hu with ⟨i,t,rfl,rfl⟩|⟨x,t,rfl,rfl⟩
  .rcases EJ hv with ⟨j,u,rfl,rfl⟩|⟨y,u,rfl,rfl⟩
   .rw[q9]at h;exact wpAny_eqBool_int h
   .rw[uG]at h;exact SeqAt.EqAt.int_str i t y u _ _ _ _ h
  .rcases EJ hv with ⟨j,u,rfl,rfl⟩|⟨y,u,rfl,rfl⟩
   .rw[pI]at h;exact SeqAt.EqAt.str_int x t j u _ _ _ _ h
   .rw[uA]at h;exact wpAny_eqBool_str h
 «strs»:=fun k x t v h=>by
  rcases EJ h with ⟨i,u,rfl,e⟩|⟨y,u,rfl,e⟩
  .exact nomatch e
  .injection e with e1 _
   subst e1;cases v<;>rfl
inductive V where
 |BP|bl (b:Bool)|int (i:Int)|str (x:Str)|QM (b:Array UInt8)|Zy (b:UInt64)|ref (a:Addr)|ty (n:String)
 deriving DecidableEq
abbrev zJ:=List V
def RelV:V->VL->Prop
 |.BP,u=>u=Value.none
 |.bl b,u=>u=Value.bool b
 |.int i,u=>∃t,u=Value.int i t
 |.str x,u=>∃t,u=Value.str x t
 |.QM b,u=>∃t,u=Value.bytes b t
 |.Zy b,u=>∃t,u=Value.float b t
 |.ref a,u=>u=Value.ref a
 |.ty n,u=>u=Value.type n
abbrev Vals:List V->List VL->Prop:=Paired RelV
def Vals.length{xs:zJ}{us:yy}(r:Vals xs us):xs.length=us.length:=Paired.length r
theorem Vals.get:∀ {xs:IZ} {us:LQ} {i:Nat} {x:V},Vals xs us->xs[i]? = some x->∃u,us[i]? = some u/\RelV x u
 |_,_,_,_,.nil,e=>by simp at e
 |_,_,0,_,.cons r _,e=>by simp at e;subst e;exact⟨_,rfl,r⟩
 |_,_,i+1,x,.cons _ t,e=>by
  obtain⟨u,R,g⟩:=Vals.get (i:=i) (x:=x) t (by simpa using e);exact⟨u,by simpa using R,g⟩
theorem Vals.set{x:V}{u:VL}(r:RelV x u):∀ {xs:IZ} {us:LQ} (i:Nat),Vals xs us->Vals (xs.set i x) (us.set i u)
 |_,_,_,.nil=>.nil
 |_,_,0,.cons _ t=>.cons r t
 |_,_,i+1,.cons q t=>.cons q (Vals.set r i t)
theorem Vals.append:∀ {xs ys:IZ} {us ws:LQ},Vals xs us->Vals ys ws->Vals (xs++ys) (us++ws)
 |_,_,_,_,.nil,s=>s
 |_,_,_,_,.cons r t,s=>.cons r (Vals.append t s)
theorem Vals.take:∀ {xs:IZ} {us:LQ} (n:Nat),Vals xs us->Vals (xs.take n) (us.take n)
 |_,_,0,_=>.nil
 |_,_,_+1,.nil=>.nil
 |_,_,n+1,.cons r t=>.cons r (Vals.take n t)
theorem Vals.drop:∀ {xs:IZ} {us:LQ} (n:Nat),Vals xs us->Vals (xs.drop n) (us.drop n)
 |_,_,0,r=>r
 |_,_,_+1,.nil=>.nil
 |_,_,n+1,.cons _ t=>Vals.drop n t
def jS:Option V->Option VL->Prop
 |some v,some u=>RelV v u
 |none,none=>True
 |_,_=>False
def KV{κ:Type}:List (κ×V)->List (κ×VL)->Prop:=Paired fun(p:κ×V) (q:κ×VL)=>p.1=q.1/\RelV p.2 q.2
def kV:Key->V
 |.inl i=>.int i
 |.inr x=>.str x
inductive HO where
 |lst (xs:IZ)
 |tup (xs:IZ)
 |dK (kvs:List (Key×V))|dT (kvs:List (List Key×V))
 |set (S:Int->Bool) (n:Nat)
 |ins (C dx:Addr) (fs:List (Str×V))
 |own (x:Addr)
 |xd (fs:List (Str×V))
 |met (f x:Addr)
 |uH (lo hi:Int)
 |GL (o:Obj) (u:HO)
 |UD (ps:Array Value)
 |ext (φ:Heap->Prop)
abbrev Hp:=AD->Option HO
def upd(H:Hp)(a:AD)(o:HO):Hp:=fun b=>if b=a then some o else H b
def AR{H:Hp}{a:AD}{o:HO}:upd H a o a=some o:=by unfold upd;rw[if_pos rfl]
def AN{H:Hp}{a b:AD}{o:HO}(h:b≠a):upd H a o b=H b:=by unfold upd;rw[if_neg h]
def dg{H:Hp}{a b:AD}{o u:HO}(h:H a=some o)(h':H b=some u)(d:o≠u):a≠b:=by
 intro e;subst e;rw[h]at h';exact d (af h')
def Am{H:Hp}{a b:AD}{o:HO}(h:H a=some o)(h':H b=none):a≠b:=by
 intro e;subst e;rw[h]at h';cases h'
section
variable(P:F0b)(w:F0c)
def EF(H:Hp)(h:Heap)(a:AD):HO->Prop
 |.lst xs=>xs.length<=sizeLine/\∃(g:LQ) (n:Nat),Vals xs g/\h.get? a=some { cls:=.type "list",data:=.seq g.toArray n}
 |.tup xs=>xs.length<=sizeLine/\∃g:List VL,Vals xs g/\IsTup h a g.toArray
 |.dK kvs=>kvs.length<=sizeLine/\(a==sysModules)=false/\∃vs,KV kvs vs/\h.DictOf (b9 P w) a vs
 |.dT kvs=>kvs.length<=sizeLine/\(a==sysModules)=false/\∃xs:List (List Key×AD×VL),
   Paired (fun(p:List Key×V) (q:List Key×AD×VL)=>p.1=q.1/\H q.2.1=some (.tup (p.1.map kV))/\RelV p.2 q.2.2) kvs xs /\
   ∃o es ep,h.get? a=some o/\o.ExactDict/\o.data=.dict es ep/\es.toList=xs.map (entryOfKey (tupleKind (b9 P w)))/\(xs.map M0).Nodup
 |.set S n=>h.SetOf (intKind P w) a S n
 |.ins C dx fs=>H dx=some (.own a)/\fs.length<=1000/\dx≠a/\h.get? a=some (PySem.W.instObj C dx) /\
   ∃mA,h.Ns1 dx mA/\(∀f,jS (fs.lookup f) (mA f))/\PySem.Within mA (fs.map M0)
 |.own _=>∃o,h.get? a=some o
 |.xd fs=>∃mA,h.Ns1 a mA/\∀f,jS (fs.lookup f) (mA f)
 |.uH lo hi=>∃t u v,h.get? a=some { cls:=.type "range",data:=.fields #[.int lo t,.int hi u,.int 1 v]}
 |.GL o u=>h.get? a=some o/\EF H h a u
 |.UD ps=>h.get? a=some { cls:=.none,data:=.fields ps}
 |.met f x=>h.get? a=some (PySem.W.methodObj (.ref f) (.ref x))
 |.ext φ=>φ h/\(∃o,h.get? a=some o)/\∀T R:Heap,φ T->(∀o,T.get? a=some o->R.get? a=some o)->φ R
def GH(H:Hp)(h:Heap):Prop:=∀a o,H a=some o->EF P w H h a o
end
section
variable{P:F0b}{w:F0c}{H H':Hp}{h h':Heap}{a:AD}{o:HO}
def EF.lt(x:EF P w H h a o):a<h.objs.size:=by
 cases o with
 |lst xs=>obtain⟨_,_,_,_,e⟩:=x;exact aF e
 |tup xs=>obtain⟨_,_,_,p⟩:=x;exact p.lt
 |dK kvs=>obtain⟨_,_,_,_,o,_,_,e,_⟩:=x;exact aF e
 |dT kvs=>obtain⟨_,_,_,_,o,_,_,e,_⟩:=x;exact aF e
 |set S n=>obtain⟨o,_,_,_,e,_⟩:=x;exact aF e
 |ins C dx fs=>obtain⟨_,_,_,e,_⟩:=x;exact aF e
 |own y=>obtain⟨_,e⟩:=x;exact aF e
 |xd fs=>obtain⟨_,⟨_,_,_,e,_⟩,_⟩:=x;exact aF e
 |uH lo hi=>obtain⟨_,_,_,e⟩:=x;exact aF e
 |GL ob u=>obtain⟨e,_⟩:=x;exact aF e
 |UD ps=>exact aF (show h.get? a=some _ from x)
 |met f y=>exact aF (show h.get? a=some _ from x)
 |ext φ=>obtain⟨_,⟨_,e⟩,_⟩:=x;exact aF e
theorem Paired.tL{α g:Type}{F G:α->g->Prop}:∀ {l₁:List α} {l₂:List g},Paired F l₁ l₂->(∀a b,F a b->G a b)->Paired G l₁ l₂
 |_,_,.nil,_=>.nil
 |_,_,.cons r t,f=>.cons (f _ _ r) (Paired.tL t f)
def EF.Ob(x:EF P w H h a o)(k:∀b u,(b=a\/H b=some (.own a))->h.get? b=some u->h'.get? b=some u) (U:∀b,H b=some (.own a)->H' b=some (.own a))(T:∀b xs,H b=some Ke->H' b=some Ke):EF P w H' h' a o:=by
 induction o with
 |lst xs=>obtain⟨z,g,n,r,e⟩:=x;exact⟨z,g,n,r,k _ _ Rs e⟩
 |tup xs=>obtain⟨z,g,r,ob,e,c⟩:=x;exact⟨z,g,r,ob,k _ _ Rs e,c⟩
 |dK kvs=>obtain⟨z,y,vs,r,ob,es,ep,e,c⟩:=x;exact⟨z,y,vs,r,ob,es,ep,k _ _ Rs e,c⟩
 |dT kvs=>
  obtain⟨z,y,xs,r,ob,es,ep,e,c⟩:=x;exact⟨z,y,xs,Paired.tL r fun p q z=>⟨z.1,T _ _ z.2.1,z.2.2⟩,ob,es,ep,k _ _ Rs e,c⟩
 |set S n=>obtain⟨ob,es,ep,t,e,c⟩:=x;exact⟨ob,es,ep,t,k _ _ Rs e,c⟩
 |ins C dx fs=>
  obtain⟨d,z,ne,e,mA,⟨od,es,ep,Y,c⟩,r⟩:=x;exact⟨U _ d,z,ne,k _ _ Rs e,mA,⟨od,es,ep,k _ _ (.inr d) Y,c⟩,r⟩
 |own y=>obtain⟨ob,e⟩:=x;exact⟨ob,k _ _ Rs e⟩
 |xd fs=>obtain⟨mA,⟨od,es,ep,e,c⟩,r⟩:=x;exact⟨mA,⟨od,es,ep,k _ _ Rs e,c⟩,r⟩
 |uH lo hi=>obtain⟨t,u,v,e⟩:=x;exact⟨t,u,v,k _ _ Rs e⟩
 |GL ob u R=>obtain⟨e,q⟩:=x;exact⟨k _ _ Rs e,R q⟩
 |UD ps=>
  have e:h.get? a=some { cls:=.none,data:=.fields ps}:=x;show h'.get? a=some { cls:=.none,data:=.fields ps};exact k a _ Rs e
 |met f y=>
  have e:h.get? a=some (PySem.W.methodObj (.ref f) (.ref y)):=x;show h'.get? a=some (PySem.W.methodObj (.ref f) (.ref y));exact k a _ Rs e
 |ext φ=>obtain⟨p,⟨o,e⟩,st⟩:=x;exact⟨st _ _ p fun o q=>k _ _ Rs q,⟨o,k _ _ Rs e⟩,st⟩
def GH.lt(x:GH P w H h)(e:H a=some o):a<h.objs.size:=(x a o e).lt
def GH.fresh(x:GH P w H h)(e:h.objs.size<=a):H a=none:=by
 cases q:H a with
 |none=>rfl
 |some u=>exact absurd (aH (x.lt q) e) (Nat.lt_irrefl _)
def GH.kept(x:GH P w H h)(k:∀b u,h.get? b=some u->h'.get? b=some u):GH P w H h':=fun a o e=>
 (x a o e).Ob (fun b u _ q=>k b u q) (fun _ q=>q) fun _ _ q=>q
def GH.laid(x:GH P w H h)(k:∀b u,h.get? b=some u->h'.get? b=some u)(R:h.objs.size<=a)(new:EF P w (upd H a o) h' a o):GH P w (upd H a o) h':=fun b u e=>by
 have hn:=x.fresh R;by_cases g:b=a
 .subst g;rw[AR]at e;cases e;exact new
 .rw[AN g]at e;exact(x b u e).Ob (fun c v _ q=>k c v q) (fun c q=>by rw[AN (Am q hn)];exact q) fun c xs q=>by rw[AN (Am q hn)];exact q
end
def Rd(H:Hp)(a:AD)(u:HO):Prop:=H a=some u\/∃o,H a=some (.GL o u)
def Rd.ok{P:F0b}{w:F0c}{H:Hp}{h:Heap}{a:AD}{u:HO}(r:Rd H a u)(x:GH P w H h):EF P w H h a u:=by
 rcases r with r|⟨o,r⟩
 .exact x a u r
 .obtain⟨_,q⟩:=x a _ r;exact q
def mI:Option HO->Prop
 |some (.lst _)=>True
 |some (.dK _)=>True
 |some (.dT _)=>True
 |some (.set _ _)=>True
 |some (.ins _ _ _)=>True
 |some (.ext _)=>True
 |_=>False
section
variable{P:F0b}{w:F0c}{H:Hp}{h h':Heap}{x e:AD}{o':HO}
def GH.write(ok:GH P w H h)(T:mI (H x))(he:e=x\/H e=some (.own x))(k:∀b u,b≠e->h.get? b=some u->h'.get? b=some u)(Z:∃u,h'.get? e=some u) (new:EF P w (upd H x o') h' x o'):GH P w (upd H x o') h':=fun b u q=>by
 have R:∀c y,H c=some (.own y)->c≠x:=fun c y r z=>by subst z;rw[r]at T;exact T
 have XM:∀c xs,H c=some Ke->c≠x:=fun c xs r z=>by subst z;rw[r]at T;exact T
 by_cases Y:b=x
 .subst Y;rw[AR]at q;cases q;exact new
 .rw[AN Y]at q;by_cases g:b=e
  .have q':H b=some (.own x):=by
    rcases he with z|z
    .exact absurd (g.trans z) Y
    .rw[g];exact z
   rw[q]at q';cases q';obtain⟨v,hv⟩:=Z;exact⟨v,by rw[g];exact hv⟩
  .refine(ok b u q).Ob (fun c v U r=>k c v ?_ r) (fun c r=>by rw[AN (R c b r)];exact r) fun c xs r=>by rw[AN (XM c xs r)];exact r
   rcases U with rfl|U
   .exact g
   .rintro rfl;rcases he with z|z
    .exact R c b U z
    .rw[U]at z;cases z;exact Y rfl
end
structure Un(fs ex:List Addr)(H H':Hp)(h h':Heap):Prop where
 keep:∀b o,h.get? b=some o->H b=none->b ∉ fs->b ∉ ex->h'.get? b=some o
 slot:∀b o,h.get? b=some o->H b=none->b∈fs->b ∉ ex->∃sl,h'.get? b=some {o with slots:=sl}
 free:∀b o,h.get? b=some o->H b=none->b ∉ ex->H' b=none
 there:∀b o,h.get? b=some o->b ∉ ex->∃o',h'.get? b=some o'
 BC:∀b xs,H b=some Ke->H' b=some Ke
 Im:∀b o u,H b=some (.GL o u)->H' b=some (.GL o u)
 KG:∀b ps,H b=some (.UD ps)->∃more,H' b=some (.UD (ps++more))
 J0:∀b xs o,H b=some Ke->h.get? b=some o->b ∉ ex->h'.get? b=some o
section
variable{fs ex:zL}{H H1:Hp}{h h1 h':Heap}{a x e:AD}{o:HO}
def Un.any(u:Un fs ex H H1 h h1){b:AD}{ob:Obj}(q:h.get? b=some ob)(n:H b=none)(g:b ∉ ex):∃sl,h1.get? b=some {ob with slots:=sl}:=by
 by_cases R:b∈fs
 .exact u.slot b ob q n R g
 .exact⟨ob.slots,u.keep b ob q n R g⟩
def Un.kept(k:∀b u,h.get? b=some u->h'.get? b=some u):Un fs ex H H h h' :=
 ⟨fun b ob q _ _ _=>k b ob q,fun b ob q _ _ _=>⟨ob.slots,k b ob q⟩,fun _ _ _ n _=>n,fun b ob q _=>⟨ob,k b ob q⟩,fun _ _ q=>q,fun _ _ _ q=>q,fun _ ps q=>⟨#[],by rw[q];simp⟩,fun _ _ ob _ e _=>k _ ob e⟩
def Un.refl:Un fs ex H H h h:=Un.kept fun _ _ q=>q
def Un.laid(k:∀b u,h.get? b=some u->h'.get? b=some u)(hp:h.objs.size<=a)(hn:H a=none):Un fs ex H (upd H a o) h h' where
 keep:=fun b u q _ _ _=>k b u q
 slot:=fun b u q _ _ _=>⟨u.slots,k b u q⟩
 free:=fun b u q n _=>by rw[AN (aI (aH (aF q) hp))];exact n
 there:=fun b u q _=>⟨u,k b u q⟩
 BC:=fun b xs q=>by rw[AN (Am q hn)];exact q
 Im:=fun b u xs q=>by rw[AN (Am q hn)];exact q
 KG:=fun b ps q=>⟨#[],by rw[AN (Am q hn),q];simp⟩
 J0:=fun b _ u _ e _=>k b u e
def Un.write(R:mI (H x))(Y:e=x\/H e=some (.own x))(k:∀b u,b≠e->h.get? b=some u->h'.get? b=some u)(T:∃u,h'.get? e=some u):Un fs ex H (upd H x o) h h':=by
 have U:∀b,H b=none->b≠x:=fun b n z=>by subst z;rw[n]at R;exact R
 have Z:∀b,H b=none->b≠e:=fun b n z=>by
  subst z;rcases Y with r|r
  .exact U b n r
  .rw[n]at r;cases r
 have hm:∀b u,H b=some u->¬mI (some u)->b≠x:=fun b u q nm z=>by subst z;rw[q]at R;exact nm R
 refine⟨fun b u q n _ _=>k b u (Z b n) q,fun b u q n _ _=>⟨u.slots,k b u (Z b n) q⟩,fun b u q n _=>by rw[AN (U b n)];exact n,fun b u q _=>?_,
  fun b xs q=>by rw[AN (hm b _ q fun z=>z)];exact q,fun b u xs q=>by rw[AN (hm b _ q fun z=>z)];exact q,fun b ps q=>⟨#[],by rw[AN (hm b _ q fun z=>z),q];simp⟩,fun b xs u q e _=>k b u (fun z=>by
   rcases Y with r|r
   .exact hm b _ q (fun z=>z) (z.trans r)
   .rw[<-z,q]at r;cases r) e⟩
 by_cases g:b=e
 .subst g;exact T
 .exact⟨u,k b u g q⟩
end
def RV(h:Heap)(H:Hp):zL:=(List.range h.objs.size).filter fun a=>(H a).isSome
def Ot(h:Heap)(H:Hp):Heap:=PySem.W.hideAll h (RV h H)
def gO(h:Heap)(H:Hp):(Ot h H).objs.size=h.objs.size:=PySem.W.hideAll_size _ _
def jg{h:Heap}{H:Hp}{b:AD}{o:Obj}(e:h.get? b=some o)(n:H b=none):(Ot h H).get? b=some o :=
 PySem.W.hideAll_get _ e fun hm=>by
  have q:(H b).isSome=true:=(List.mem_filter.mp hm).2;rw[n]at q;simp at q
def pC{h:Heap}{H:Hp}{b:AD}{o:Obj}(e:(Ot h H).get? b=some o):h.get? b=some o/\H b=none:=by
 have g:h.get? b=some o:=PySem.W.of_hideAll (RV h H) e;refine⟨g,?_⟩;cases q:H b with
 |none=>rfl
 |some x=>
  have hm:b∈RV h H:=List.mem_filter.mpr ⟨bX.mpr (aF g),by simp[q]⟩;have z:(Ot h H).get? b=none:=PySem.W.hideAll_none (RV h H) hm;rw[z]at e;cases e
structure Mod(K:Fg)(mg:Str->Option Value)(base:Heap):Prop where
 US:K.In base
 glob:base.Ns mainGlobals mg
 blt:∃mb,base.Ns builtinsNs mb/\∀x:Str,x ≠ "__name__" -> mb x=bootBuiltins x
 nolimit:base.NoLimit
def yV(d:Nat):List zJ:=[[],[.ref (d+1)],[.int 1,.int 1],[.ref (d+3)],[.ref (d+2),.ref (d+4)],[],[.int 1,.int 2],[.ref (d+7)],[.ref (d+6),.ref (d+8)],[.int 0,.int 1],[.int 1,.int 1],[.ref (d+10),.ref (d+11)],[.ref (d+9),.ref (d+12)],[],[.int 1,.int 1],[.ref (d+15)],[.ref (d+14),.ref (d+16)],[.int 1,.int 2],[.int 1,.int 2],[.ref (d+18),.ref (d+19)],[.ref (d+17),.ref (d+20)],[],[.int 1,.int 3],[.ref (d+23)],[.int 0,.int 1],[.int 2,.int 3],[.ref (d+25),.ref (d+26)],[.ref (d+22),.ref (d+24),.ref (d+27)],[.int 1,.int 4],[.int 0,.int 1],[.int 3,.int 4],[.ref (d+29),.ref (d+30),.ref (d+31)],[.ref (d+28),.ref (d+32)],[],[.int 1,.int 2],[.ref (d+35)],[.int 0,.int 1],[.int 1,.int 2],[.ref (d+37),.ref (d+38)],[.int 0,.int 1],[.int 0,.int 1],[.int 1,.int 1],[.ref (d+40),.ref (d+41),.ref (d+42)],[.ref (d+34),.ref (d+36),.ref (d+39),.ref (d+43)],[.int 1,.int 6],[.int 1,.int 3],[.int 1,.int 3],[.int 1,.int 6],[.ref (d+45),.ref (d+46),.ref (d+47),.ref (d+48)],[.ref (d+44),.ref (d+49)]]
def yP(d:Nat):List (Key×V):=[(.inr "plain",.ref (d+5)),(.inr "middle",.ref (d+13)),(.inr "heel",.ref (d+21)),(.inr "third",.ref (d+33)),(.inr "fourth",.ref (d+50))]
def KTb(mg:y0)(H:Hp):Prop:=∀d:AD,mg "NAMED_TABLES" = some (.ref d)->(∃o,H d=some (.GL o (.dK (yP d))))/\∀j xs,(yV d)[j]? = some xs->H (d+1+j)=some Ke
def KTb.un{mg:y0}{fs ex:zL}{H H':Hp}{h h':Heap}(k:KTb mg H)(u:Un fs ex H H' h h'):KTb mg H':=fun d e=>by
 obtain⟨⟨o,R⟩,g⟩:=k d e;exact⟨⟨o,u.Im _ _ _ R⟩,fun j xs q=>u.BC _ _ (g j xs q)⟩
structure Cx where
 prog:Program
 w:World
 K:Fg
 mg:Str->Option Value
 base:Heap
 A:Around
 N:List Str
 s₀:Shared
 H₀:Hp
 env:Env
 outer:List Env
 stack:List Env
 ex:List Addr
 fn:Str->Bool
 calm:Bool
 pn:List (Addr×Obj)
 xe:Value->Shared->Prop
def IB(l:zN):zL:=l.filterMap (·.frame)
abbrev Cx.fs(X:Cx):List AD:=IB X.outer
def pE(sc:Scope)(x:Str):Prop:=sc.names.lookup x=some .local\/sc.names.lookup x=some .cell\/sc.names.lookup x=some .free
def Loc(sc:Scope)(x:Str):Prop:=sc.names.lookup x=some .local\/sc.names.lookup x=some .cell
def Look(env:Env)(h:Heap)(m:y0)(x:Str)(u:VL):Prop :=
 (env.kindOf x=some .local/\m x=some u)\/((env.kindOf x=some .cell\/env.kindOf x=some .free)/\∃c,env.cells.lookup x=some c/\h.IsCell c (some u))
structure Cx.Ok(X:Cx):Prop where
 mod:Mod X.K X.mg X.base
 kind:X.env.scope.kind=.function
 glob:X.env.globals=mainGlobals
 blt:X.env.builtins=builtinsNs
 above:X.s₀.heap.objs.size<=X.env.locals
 inj:∀x y c,X.env.cells.lookup x=some c->X.env.cells.lookup y=some c->x=y
 has:∀x,(X.env.kindOf x=some .cell\/X.env.kindOf x=some .free)->∃c,X.env.cells.lookup x=some c
 cG:∀x c,X.fn x=true->X.env.cells.lookup x=some c->X.s₀.heap.objs.size<=c
 hd:X.calm=true->X.A.handled=none
 frames:X.A.frames=some X.stack
 mE:X.stack=X.outer\/(X.stack=X.env::X.outer/\X.env.frame=some X.env.locals)
 wd:∀b∈X.ex,b≠X.env.locals/\∀x c,X.env.cells.lookup x=some c->c≠b
 bs:∀b o,X.base.get? b=some o->X.s₀.heap.get? b=some o/\X.H₀ b=none
 Vb:X.base.objs.size<=X.s₀.heap.objs.size
 Y0:∀b o,X.base.get? b=some o->b ∉ X.ex
 Wy:∀b∈X.ex,b ∉ X.fs
 J5:X.s₀.heap.FunFrames X.base X.outer
 Vr:∀b∈X.fs,X.H₀ b=none
 kt:KTb X.mg X.H₀
structure Inv(X:Cx)(pins:List (Addr×Obj))(σ:List (Option V))(H:Hp)(s:Shared):Prop where
 ok:X.Ok
 os:s.os=X.s₀.os
 bare:AllBare s.gens
 base:Un X.fs X.ex X.H₀ H X.s₀.heap s.heap
 loc:∃m,s.heap.Ns X.env.locals m/\∀(i:Nat) (x:Str) (v:V),X.N[i]? = some x->σ[i]? = some (some v)->pE X.env.scope x->∃u,RelV v u/\Look X.env s.heap m x u
 cell:∀x c,X.env.cells.lookup x=some c->∃v,s.heap.IsCell c v
 free:H X.env.locals=none
 KZ:∀x c,X.env.cells.lookup x=some c->H c=none
 pin:∀p∈X.pn++pins,s.heap.get? p.1=some p.2/\H p.1=none/\p.1≠X.env.locals/\p.1 ∉ X.fs/\∀v,p.2.data≠.cell v
 A9:GH X.prog X.w H s.heap
 len:σ.length=X.N.length
def Inv.kt{X:Cx}{pins:Cu}{σ:List (Option V)}{H:Hp}{s:SD}(I:BY):KTb X.mg H:=I.ok.kt.un I.base
section
variable{X:Cx}{pins:Cu}{σ:List (Option V)}{H H':Hp}{s:SD}{h':Heap}
def Cx.Ok.xk(ok:X.Ok){b:AD}{o:Obj}(e:X.base.get? b=some o):b ∉ X.fs:=fun g=>by
 have:=(ok.J5.mem g).1;rw[e]at this;cases this
def Inv.bs(I:BY):∀b o,X.base.get? b=some o->s.heap.get? b=some o/\H b=none:=fun b o e=>
 ⟨I.base.keep b o (I.ok.bs b o e).1 (I.ok.bs b o e).2 (I.ok.xk e) (I.ok.Y0 b o e),I.base.free b o (I.ok.bs b o e).1 (I.ok.bs b o e).2 (I.ok.Y0 b o e)⟩
def Inv.bk(I:BY):∀b o,X.base.get? b=some o->s.heap.get? b=some o:=fun b o e=>(I.bs b o e).1
def Inv.mod(I:BY):Mod X.K X.mg X.base:=I.ok.mod
def Inv.Kn(I:BY):X.K.In s.heap:=I.ok.mod.US.keeps I.bk
def Inv.lt(I:BY):X.env.locals<s.heap.objs.size:=let⟨_,hn,_⟩:=I.loc;hn.lt
def Inv.sz(I:BY):X.s₀.heap.objs.size<=s.heap.objs.size:=aU I.ok.above (bD I.lt)
def Inv.wg(I:BY){a:AD}(h:s.heap.objs.size<=a):a ∉ X.fs:=fun R=>by
 obtain⟨_,o,g,_⟩:=I.ok.J5.mem R;exact absurd (aH (aF g) (aU I.sz h)) (Nat.lt_irrefl _)
def Inv.YC(I:BY):∀x c,X.env.cells.lookup x=some c->c≠X.env.locals:=fun x c e z=>by
 obtain⟨v,o,T,hd⟩:=I.cell x c e;obtain⟨m,⟨o',es,ep,g,R,_⟩,_⟩:=I.loc;rw[z,g]at T;cases T;rw[R]at hd;cases hd
def Inv.J5(I:BY):s.heap.FunFrames X.base X.outer:=by
 have all:∀(l:List Env),(∀b∈IB l,b∈X.fs)->X.s₀.heap.FunFrames X.base l->s.heap.FunFrames X.base l:=by
  intro l
  induction l with
  |nil=>intro _ _;trivial
  |cons env r Y=>
   intro U hl;obtain⟨hk,⟨L,o,g,hn,ho,hd⟩,Z⟩:=hl;have T:L∈X.fs:=U L (by unfold IB;rw[(U4),g];exact aX);obtain⟨sl,e⟩:=I.base.slot L o ho (I.ok.Vr L T) T fun z=>I.ok.Wy L z T;exact⟨hk,⟨L,_,g,hn,e,hd⟩,Y (fun b R=>U b (by unfold IB;rw[(U4),g];exact aS _ R)) Z⟩
 exact all X.outer (fun _ R=>R) I.ok.J5
def Inv.stack(I:BY):s.heap.FunFrames X.base X.stack:=by
 rcases I.ok.mE with e|⟨e,g⟩
 .rw[e];exact I.J5
 .rw[e];obtain⟨m,hn,_⟩:=I.loc;refine .cons (by rw[I.ok.kind];decide) g hn ?_ I.J5;exact Heap.get?_none_of_le (aU I.ok.Vb I.ok.above)
def Inv.Qq(I:BY):∀b∈IB X.stack,b∈X.env.locals::X.fs:=fun b g=>by
 rcases I.ok.mE with e|⟨e,R⟩
 .rw[e]at g;exact aS _ g
 .rw[e]at g;unfold IB at g;rw[(U4),R]at g;exact g
def Inv.VC(I:BY):∀b∈IB X.stack,H b=none:=fun b g=>by
 rcases aM.mp (I.Qq b g) with e|g
 .rw[e];exact I.free
 .obtain⟨_,o,R,_⟩:=I.ok.J5.mem g;exact I.base.free b o R (I.ok.Vr b g) fun z=>I.ok.Wy b z g
def Inv.step{g':Array GenState}{t':Nat}{d':Drawn}{ch:zL}(I:BY) (U:LM) (keep:∀b o,b≠X.env.locals->b ∉ X.fs->b ∉ ch->s.heap.get? b=some o->H b=none->h'.get? b=some o) (slot:∀b o,b≠X.env.locals->b∈X.fs->b ∉ ch->s.heap.get? b=some o->H b=none->∃sl,h'.get? b=some {o with slots:=sl})(free:∀b o,b ∉ ch->s.heap.get? b=some o->H b=none->H' b=none) (there:∀b o,b ∉ ch->s.heap.get? b=some o->∃o',h'.get? b=some o') (BC:∀b xs,H b=some Ke->H' b=some Ke)(Im:∀b o u,H b=some (.GL o u)->H' b=some (.GL o u))(KG:∀b ps,H b=some (.UD ps)->∃more,H' b=some (.UD (ps++more))) (J0:∀b xs o,b ∉ ch->H b=some Ke->s.heap.get? b=some o->h'.get? b=some o) (ns:∀m,s.heap.Ns X.env.locals m->h'.Ns X.env.locals m)(A9:GH X.prog X.w H' h')(hg:AllBare g'):Inv X pins σ H' {s with heap:=h',gens:=g',drawn:=d',toks:=t'}:=by
 have neL:∀b o,X.s₀.heap.get? b=some o->b≠X.env.locals:=fun b o e=>aI (aH (aF e) I.ok.above);have R:∀b o,X.s₀.heap.get? b=some o->b ∉ X.ex->b ∉ ch:=fun b o e g Z=>by
  rcases(U b Z).1 with z|z
  .exact g z
  .exact absurd (aH (aF e) z) (Nat.lt_irrefl _)
 have cellK:∀x c,X.env.cells.lookup x=some c->∀v,s.heap.IsCell c v->h'.IsCell c v:=fun x c e v ⟨o,ho,hd⟩=>by
  have T:c ∉ ch:=fun z=>(U c z).2.2.1 x c e rfl;by_cases hc:c∈X.fs
  .obtain⟨sl,q⟩:=slot c o (I.YC x c e) hc T ho (I.KZ x c e);exact⟨_,q,hd⟩
  .exact⟨o,keep c o (I.YC x c e) hc T ho (I.KZ x c e),hd⟩
 refine⟨I.ok,I.os,hg,⟨fun b o e n Z g=>?_,fun b o e n Z g=>?_,fun b o e n g=>?_,fun b o e g=>?_,fun b xs e=>BC b xs (I.base.BC b xs e),fun b o xs e=>Im b o xs (I.base.Im b o xs e),fun b ps e=>?_,fun b xs o q e g=>J0 b xs o (R b o e g) (I.base.BC b xs q) (I.base.J0 b xs o q e g)⟩,?_,fun x c e=>?_,?_,fun x c e=>?_,fun p hp=>?_,A9,I.len⟩
 .exact keep b o (neL b o e) Z (R b o e g) (I.base.keep b o e n Z g) (I.base.free b o e n g)
 .obtain⟨sl,Y⟩:=I.base.slot b o e n Z g;obtain⟨sl',e2⟩:=slot b _ (neL b o e) Z (R b o e g) Y (I.base.free b o e n g);exact⟨sl',e2⟩
 .obtain⟨o',Y⟩:=I.base.there b o e g;exact free b o' (R b o e g) Y (I.base.free b o e n g)
 .obtain⟨o',Y⟩:=I.base.there b o e g;exact there b o' (R b o e g) Y
 .obtain⟨m1,Y⟩:=I.base.KG b ps e;obtain⟨m2,e2⟩:=KG b _ Y;exact⟨m1++m2,by rw[e2,Array.append_assoc]⟩
 .obtain⟨m,hn,hl⟩:=I.loc;refine⟨m,ns m hn,fun i x v Y e2 e3=>?_⟩;obtain⟨u,r,l⟩:=hl i x v Y e2 e3;refine⟨u,r,?_⟩;rcases l with l|⟨k,c,e,z⟩
  .exact .inl l
  .exact .inr ⟨k,c,e,cellK x c e _ z⟩
 .obtain⟨v,z⟩:=I.cell x c e;exact⟨v,cellK x c e v z⟩
 .obtain⟨m,⟨o,_,_,ho,_⟩,_⟩:=I.loc;exact free _ o (fun z=>(U _ z).2.1 rfl) ho I.free
 .obtain⟨v,o,ho,hd⟩:=I.cell x c e;exact free c o (fun z=>(U c z).2.2.1 x c e rfl) ho (I.KZ x c e)
 .obtain⟨e,n,ne,nf,d⟩:=I.pin p hp;have T:p.1 ∉ ch:=fun z=>(U p.1 z).2.2.2 p hp rfl;exact⟨keep p.1 p.2 ne nf T e n,free p.1 p.2 T e n,ne,nf,d⟩
def Inv.un{t':Nat}(I:BY)(u:Un X.fs [] H H' s.heap h')(A9:GH X.prog X.w H' h'):Inv X pins σ H' {s with heap:=h',toks:=t'}:=by
 obtain⟨m,⟨o,es,ep,Y,r⟩,_⟩:=id I.loc;obtain⟨sl,hL⟩:=u.any Y I.free At;exact I.step (g':=s.gens) (d':=s.drawn) (ch:=[]) (fun _ z=>nomatch z) (fun b o _ R _ e n=>u.keep b o e n R At) (fun b o _ R _ e n=>u.slot b o e n R At) (fun b o _ e n=>u.free b o e n At) (fun b o _ e=>u.there b o e At) u.BC u.Im u.KG (fun b xs o _ q e=>u.J0 b xs o q e At) (fun m' hm=>by
  obtain⟨o',T,U,g,Z⟩:=hm;rw[Y]at g;cases g;exact⟨_,T,U,hL,Z⟩) A9 I.bare
def Inv.call{g':Array GenState}{t':Nat}{d':Drawn}{ch:zL}(I:BY)(u:Un (IB X.stack) ch H H' s.heap h')(A9:GH X.prog X.w H' h')(hg:AllBare g') (T:LM):Inv X pins σ H' {s with heap:=h',gens:=g',drawn:=d',toks:=t'}:=by
 obtain⟨m,⟨o,es,ep,ho,r⟩,_⟩:=id I.loc;obtain⟨sl,U⟩:=u.any ho I.free fun z=>(T _ z).2.1 rfl;exact I.step (ch:=ch) T (fun b o U hb g e n=>u.keep b o e n (fun z=>(aM.mp (I.Qq b z)).elim U hb) g) (fun b o _ _ g e n=>u.any e n g) (fun b o g e n=>u.free b o e n g) (fun b o g e=>u.there b o e g) u.BC u.Im u.KG (fun b xs o g q e=>u.J0 b xs o q e g) (fun m' hm=>by
  obtain⟨o',Y,Z,R,r'⟩:=hm;rw[ho]at R;cases R;exact⟨_,Y,Z,U,r'⟩) A9 hg
def Inv.turned{t':Nat}{it:AD}(I:BY)(k:∀b o,b≠it->s.heap.get? b=some o->h'.get? b=some o)(hn:H it=none)(T:it≠X.env.locals) (h1:it∈X.ex\/X.s₀.heap.objs.size<=it)(h2:∀x c,X.env.cells.lookup x=some c->c≠it)(Z:∀p∈X.pn++pins,p.1≠it):Inv X pins σ H {s with heap:=h',toks:=t'}:=by
 have R:∀b u,H b=some u->b≠it:=fun b u e z=>by rw[z,hn]at e;cases e
 refine I.step (g':=s.gens) (d':=s.drawn) (ch:=[it]) (fun b Y=>?_) (fun b o _ _ g e _=>k b o (fun z=>g (by simp[z])) e) (fun b o _ _ g e _=>⟨o.slots,k b o (fun z=>g (by simp[z])) e⟩) (fun _ _ _ _ n=>n)
  (fun b o g e=>⟨o,k b o (fun z=>g (by simp[z])) e⟩) (fun _ _ e=>e) (fun _ _ _ e=>e) (fun b ps e=>⟨#[],by rw[e];simp⟩) (fun b xs o g _ e=>k b o (fun z=>g (by simp[z])) e) (fun m hm=>?_) (fun b u e=>?_) I.bare
 .have e:b=it:=by simpa using Y
  subst e;exact⟨h1,T,h2,Z⟩
 .obtain⟨o,es,ep,U,r⟩:=hm;exact⟨o,es,ep,k _ o (Ne.symm T) U,r⟩
 .refine(I.A9 b u e).Ob (fun c v g q=>k c v ?_ q) (fun _ q=>q) fun _ _ q=>q;rcases g with z|z
  .rw[z];exact R b u e
  .exact R c _ z
def Inv.tok(I:BY)(t:Nat):Inv X pins σ H {s with toks:=t}:=I.un (h':=s.heap) (t':=t) Un.refl I.A9
def Inv.kept{t':Nat}(I:BY)(k:∀b u,s.heap.get? b=some u->h'.get? b=some u):Inv X pins σ H {s with heap:=h',toks:=t'}:=I.un (Un.kept k) (I.A9.kept k)
def Inv.laid{a:AD}{o:HO}{t':Nat}(I:BY)(k:∀b u,s.heap.get? b=some u->h'.get? b=some u)(g:s.heap.objs.size<=a)(new:EF X.prog X.w (upd H a o) h' a o):Inv X pins σ (upd H a o) {s with heap:=h',toks:=t'}:=I.un (Un.laid k g (I.A9.fresh g)) (I.A9.laid k g new)
def Inv.write{x e:AD}{o:HO}{t':Nat}(I:BY)(R:mI (H x))(T:e=x\/H e=some (.own x))(k:∀b u,b≠e->s.heap.get? b=some u->h'.get? b=some u)(g:∃u,h'.get? e=some u) (new:EF X.prog X.w (upd H x o) h' x o):Inv X pins σ (upd H x o) {s with heap:=h',toks:=t'}:=I.un (Un.write R T k g) (I.A9.write R T k g new)
def Inv.Zx{g:Cu}(I:BY)(h:∀p∈g,s.heap.get? p.1=some p.2/\H p.1=none/\p.1≠X.env.locals/\p.1 ∉ X.fs/\∀v,p.2.data≠.cell v):Inv X g σ H s :=
 ⟨I.ok,I.os,I.bare,I.base,I.loc,I.cell,I.free,I.KZ,fun p R=>(ay.mp R).elim (fun z=>I.pin p (bN _ z)) (h p),I.A9,I.len⟩
def YI{N:zC}(g:N.Nodup){i j:Nat}{x:Str}(a:N[i]? = some x)(b:N[j]? = some x):i=j:=by
 obtain⟨Y,T⟩:=aD.mp a;obtain⟨U,R⟩:=aD.mp b;exact(List.getElem_inj g).mp (T.trans R.symm)
def V0{M:Model}{A:F0d}{E:yz}{i:Nat}{x:Str}{v:V}{u:VL}{Q:Unit->SD->Prop}(I:BY)(hN:X.N.Nodup)(hi:X.N[i]? = some x)(R:Loc X.env.scope x)(r:RelV v u) (h:∀s',Inv X pins (σ.set i (some v)) H s'->(∃a,Heap.SameBut a s.heap s'.heap/\(a=X.env.locals\/X.env.cells.lookup x=some a))->Q () s')(hf:X.fn x=true\/X.env.scope.names.lookup x=some .local:=by first|exact .inl rfl|exact .inr rfl|assumption):wpAny M A (storeName X.env x u) Q E s:=by
 obtain⟨m,hn,hl⟩:=id I.loc;have hcls:(X.env.scope.kind==.class||(X.env.scope.kind==.module&&X.env.locals != X.env.globals))=false:=by rw[I.ok.kind];rfl
 have hiσ:i<σ.length:=by rw[I.len];exact(aD.mp hi).1
 have YC:=I.YC;have tracked:∀ {a:AD} {h':Heap},(∃o,s.heap.get? a=some o/\H a=none)->Heap.SameBut a s.heap h'->GH X.prog X.w H h':=fun {a h'} ha g b ob e=>by
  obtain⟨_,_,Y⟩:=ha;refine(I.A9 b ob e).Ob (fun c w' U q=>(g.2 c ?_).trans q) (fun _ q=>q) fun _ _ q=>q;rintro rfl;rcases U with rfl|U
  .rw[Y]at e;cases e
  .rw[Y]at U;cases U
 rcases R with hk|hk
 .refine wpAny_storeName_local hk hn (fun h' hn' g=>?_) hcls;obtain⟨oL,_,_,hoL,_⟩:=id hn;refine h _ ⟨I.ok,I.os,I.bare,⟨fun b o e n hb R=>?_,fun b o e n hb R=>?_,I.base.free,fun b o e R=>?_,I.base.BC,I.base.Im,I.base.KG,fun b xs o q e R=>(g.2 b (aI (aH (aF e) I.ok.above))).trans (I.base.J0 b xs o q e R)⟩,⟨_,hn',fun j y v' T e2 e3=>?_⟩,fun y c e=>?_,I.free,I.KZ,fun p hp=>?_,tracked ⟨oL,hoL,I.free⟩ g,by simpa using I.len⟩ ⟨_,g,.inl rfl⟩
  .exact(g.2 b (aI (aH (aF e) I.ok.above))).trans (I.base.keep b o e n hb R)
  .obtain⟨sl,T⟩:=I.base.slot b o e n hb R;exact⟨sl,(g.2 b (aI (aH (aF e) I.ok.above))).trans T⟩
  .obtain⟨o',T⟩:=I.base.there b o e R;exact⟨o',(g.2 b (aI (aH (aF e) I.ok.above))).trans T⟩
  .by_cases hj:j=i
   .subst hj;rw[hi]at T;cases T;rw[List.getElem?_set_self hiσ]at e2;cases e2;exact⟨u,r,.inl ⟨hk,by simp⟩⟩
   .rw[List.getElem?_set_ne (Ne.symm hj)]at e2;obtain⟨u',r',q⟩:=hl j y v' T e2 e3;refine⟨u',r',?_⟩;rcases q with ⟨k,e⟩|⟨k,c,e,z⟩
    .refine .inl ⟨k,?_⟩;have:y≠x:=fun e=>hj (YI hN T (e ▸ hi));simp[this,e]
    .exact .inr ⟨k,c,e,z.sameBut g (YC y c e)⟩
  .obtain⟨w',z⟩:=I.cell y c e;exact⟨w',z.sameBut g (YC y c e)⟩
  .obtain⟨e,n,ne,nf,d⟩:=I.pin p hp;exact⟨(g.2 p.1 ne).trans e,n,ne,nf,d⟩
 .have Z:X.fn x=true:=by
   rcases hf with z|z
   .exact z
   .rw[z]at hk;cases hk
  obtain⟨c,U⟩:=I.ok.has x (.inl hk);obtain⟨w',z⟩:=I.cell x c U;refine wpAny_storeName_cell I.ok.kind hk U z (fun h' hc' g=>?_);obtain⟨oc,hoc,hocd⟩:=id z;refine h Op ⟨I.ok,I.os,I.bare,⟨fun b o e n hb R=>?_,fun b o e n hb R=>?_,I.base.free,fun b o e R=>?_,I.base.BC,I.base.Im,I.base.KG,fun b xs o q e R=>(g.2 b (aI (aH (aF e) (I.ok.cG x c Z U)))).trans (I.base.J0 b xs o q e R)⟩,⟨m,hn.sameBut g (Ne.symm (YC x c U)),fun j y v' T e2 e3=>?_⟩,fun y c' e=>?_,I.free,I.KZ,fun p hp=>?_,tracked ⟨oc,hoc,I.KZ x c U⟩ g,by simpa using I.len⟩ ⟨c,g,.inr U⟩
  .exact(g.2 b (aI (aH (aF e) (I.ok.cG x c Z U)))).trans (I.base.keep b o e n hb R)
  .obtain⟨sl,T⟩:=I.base.slot b o e n hb R;exact⟨sl,(g.2 b (aI (aH (aF e) (I.ok.cG x c Z U)))).trans T⟩
  .obtain⟨o',T⟩:=I.base.there b o e R;exact⟨o',(g.2 b (aI (aH (aF e) (I.ok.cG x c Z U)))).trans T⟩
  .by_cases hj:j=i
   .subst hj;rw[hi]at T;cases T;rw[List.getElem?_set_self hiσ]at e2;cases e2;exact⟨u,r,.inr ⟨.inl hk,c,U,hc'⟩⟩
   .rw[List.getElem?_set_ne (Ne.symm hj)]at e2;obtain⟨u',r',q⟩:=hl j y v' T e2 e3;refine⟨u',r',?_⟩;rcases q with q|⟨k,c',e,z'⟩
    .exact .inl q
    .refine .inr ⟨k,c',e,z'.sameBut g ?_⟩;rintro rfl;exact hj (YI hN T (I.ok.inj _ _ _ e U ▸ hi))
  .by_cases hcc:c'=c
   .subst hcc;exact⟨_,hc'⟩
   .obtain⟨w2,z2⟩:=I.cell y c' e;exact⟨w2,z2.sameBut g hcc⟩
  .obtain⟨e,n,ne,nf,d⟩:=I.pin p hp;refine⟨(g.2 p.1 ?_).trans e,n,ne,nf,d⟩;intro q;rw[q,hoc]at e;have q':oc=p.2:=af e;exact d w' (by rw[<-q'];exact hocd)
def Ov{M:Model}{A:F0d}{E:yz}{i:Nat}{x:Str}{v:V}{u:VL}{Q:Unit->SD->Prop}(I:BY)(T:X.N.Nodup)(hi:X.N[i]? = some x)(g:Loc X.env.scope x)(r:RelV v u) (h:∀s',Inv X pins (σ.set i (some v)) H s'->Q () s')(R:X.fn x=true\/X.env.scope.names.lookup x=some .local:=by first|exact .inl rfl|exact .inr rfl|assumption):wpAny M A (storeName X.env x u) Q E s :=
 V0 I T hi g r (fun s' U _=>h s' U) R
def Inv.uj{s':SD}{ch:zL}(I:BY)(Y:s'.os=s.os)(u:Un (IB X.stack) ch H H' s.heap s'.heap)(A9:GH X.prog X.w H' s'.heap)(Z:AllBare s'.gens) (g:LM):Inv X pins σ H' s':=by
 obtain⟨h',T,U,R,o'⟩:=s';have e:o'=s.os:=Y;subst e;exact I.call (g':=T) (t':=R) (d':=U) u A9 Z g
end
abbrev XK:=VL->Option AD->Hp->Prop
abbrev St:=List (Option V)
abbrev VK:=V->Hp->Prop
abbrev TE:=St->Hp->VK->Prop
abbrev TT:=St->Hp->(Bool->Hp->Prop)->Prop
abbrev TA:=St->Hp->(List V->Hp->Prop)->Prop
structure Ends where
 nx:St->Hp->Prop
 rt:VK
 bk:St->Hp->Prop:=fun _ _=>False
 ct:St->Hp->Prop:=fun _ _=>False
abbrev TS:=Ends->St->Hp->Prop
def EP(X:Cx)(pins:Cu)(σ:St)(Q:VK)(u:VL)(s':SD):Prop:=∃v H',Inv X pins σ H' s'/\RelV v u/\Q v H'
def TP(X:Cx)(pins:Cu)(σ:St)(Q:Bool->Hp->Prop)(b:Bool)(s':SD):Prop:=∃H',Inv X pins σ H' s'/\Q b H'
def AP(X:Cx)(pins:Cu)(σ:St)(Q:List V->Hp->Prop)(us:yy)(s':SD):Prop:=∃vs H',Inv X pins σ H' s'/\Vals vs us/\Q vs H'
def SP(X:Cx)(pins:Cu)(D:Ends)(f:Flow)(s':SD):Prop :=
 match f with
 |.next=>∃g H',Inv X pins g H' s'/\D.nx g H'
 |.brk=>∃g H',Inv X pins g H' s'/\D.bk g H'
 |.cont=>∃g H',Inv X pins g H' s'/\D.ct g H'
 |.ret u=>∃v g H',Inv X pins g H' s'/\RelV v u/\D.rt v H'
def PE(X:Cx)(e:Expr)(t:TE):Prop :=
 ∀(pins:Cu) (s:SD) (σ:St) (H:Hp) (Q:VK),Inv X pins σ H s->t σ H Q->wpAny Ch X.A (eval e X.env) Tt X.xe s
def PT(X:Cx)(e:Expr)(t:TT):Prop :=
 ∀(pins:Cu) (s:SD) (σ:St) (H:Hp) (Q:Bool->Hp->Prop),Inv X pins σ H s->t σ H Q->wpAny Ch X.A (isTrue e X.env (eval e X.env)) (TP X pins σ Q) X.xe s
def PW(X:Cx)(e:Expr)(t:TT):Prop :=
 ∀(g:Sem VL) (pins:Cu) (s:SD) (σ:St) (H:Hp) (Q:Bool->Hp->Prop),Inv X pins σ H s->t σ H Q->wpAny Ch X.A (isTrue e X.env g) (TP X pins σ Q) X.xe s
def PW.pt{X:Cx}{e:Expr}{t:TT}(h:PW X e t):PT X e t:=h _
def PA(X:Cx)(es:zD)(t:TA):Prop :=
 ∀(pos:Pos) (pins:Cu) (s:SD) (σ:St) (H:Hp) (Q:List V->Hp->Prop),Inv X pins σ H s->t σ H Q->wpAny Ch X.A (spliced (backTo pos M5)) (AP X pins σ Q) X.xe s
def PS(X:Cx)(st:Stmt)(t:TS):Prop :=
 ∀(pins:Cu) (s:SD) (σ:St) (H:Hp) (D:Ends),Inv X pins σ H s->t D σ H->wpAny Ch X.A (exec st X.env) (SP X pins D) X.xe s
def Jp(X:Cx)(st:zM)(t:TS):Prop :=
 ∀(pins:Cu) (s:SD) (σ:St) (H:Hp) (D:Ends),Inv X pins σ H s->t D σ H->wpAny Ch X.A (execs st X.env) (SP X pins D) X.xe s
def BX{α:Type}{t:Sem α}{Q g:α->SD->Prop}{M:Model}{A:F0d}{E:yz}{s:SD}(h:wpAny M A t Q E s)(R:∀a s,Q a s->g a s):wpAny M A t g E s:=ao h R fun _ _ x=>x
section
variable{X:Cx}
def P6(i:Nat):TE:=fun σ H Q=>∃v,σ[i]? = some (some v)/\Q v H
def tC(v:V):TE:=fun _ H Q=>Q v H
def rY{i:Nat}{x:Str}{pos:Pos}(hN:X.N[i]? = some x)(Y:pE X.env.scope x)(hd:GE=false:=by decide)(T:(x==("__classdict__" : Str))=false:=by decide):PE X (.Name x pos) (P6 i):=by
 intro pins s σ H Q I h;obtain⟨v,e,h⟩:=h;obtain⟨m,hn,Z⟩:=I.loc;obtain⟨u,r,l⟩:=Z i x v hN e Y;have fin:EP X pins σ Q u s:=⟨v,H,I,r,h⟩;rcases l with ⟨R,hm⟩|⟨R,c,U,g⟩
 .exact wpAny_Name (wpAny_loadName_local I.ok.kind R hn hm fin) hd
 .rcases R with R|R
  .exact wpAny_Name (wpAny_loadName_cell I.ok.kind R U g fin) hd
  .exact wpAny_Name (wpAny_loadName_free I.ok.kind R U g fin T) hd
def Au{i j pos}:PE X (.Constant (.int i) j pos) (tC (.int i)):=fun _ _ _ H _ I h=>wpAny_Constant_int ⟨.int i,H,I.tok _,⟨_,rfl⟩,h⟩
def ux{b j pos}:PE X (.Constant (.bool b) j pos) (tC (.bl b)):=fun _ _ _ H _ I h=>Constant_bool ⟨.bl b,H,I,rfl,h⟩
def rF{j pos}:PE X (.Constant .none j pos) (tC .BP):=fun _ _ _ H _ I h=>Constant_none ⟨.BP,H,I,rfl,h⟩
def qC{x j pos}:PE X (.Constant (.str x) j pos) (tC (.str x)):=fun _ _ _ H _ I h=>Calls.Constant_str ⟨.str x,H,I.tok _,⟨_,rfl⟩,h⟩
def Gl(X:Cx)(x:Str):Prop:=X.env.kindOf x=some .globalImplicit
def Ug{E:yz}{pins:Cu}{s:SD}{σ:St}{H:Hp}{x:Str}{u:VL}{pos:Pos}{Q:yz}(I:BY)(g:Gl X x)(hm:X.mg x=some u)(h:Q u s) (hd:GE=false:=by decide):wpAny Ch X.A (eval (.Name x pos) X.env) Q E s :=
 Calls.Name_function_global I.ok.kind g (Calls.loadGlobal_global (by rw[I.ok.glob];exact I.mod.glob.keeps I.bk) hm h) hd
def Gx{E:yz}{pins:Cu}{s:SD}{σ:St}{H:Hp}{x:Str}{u:VL}{pos:Pos}{Q:yz}(I:BY)(R:Gl X x)(hm:X.mg x=none)(g:bootBuiltins x=some u)(h:Q u s) (hn:x ≠ "__name__":=by decide)(hd:GE=false:=by decide):wpAny Ch X.A (eval (.Name x pos) X.env) Q E s:=by
 obtain⟨mb,U,T⟩:=I.mod.blt;exact Calls.Name_function_global I.ok.kind R (Calls.loadGlobal_builtin (by rw[I.ok.glob];exact I.mod.glob.keeps I.bk) hm (by rw[I.ok.blt];exact U.keeps I.bk) ((T x hn).trans g) h) hd
def U5{x:Str}{v:V}{u:VL}{pos:Pos}(g:Gl X x)(hm:X.mg x=some u)(r:RelV v u)(hd:GE=false:=by decide):PE X (.Name x pos) (tC v) :=
 fun _ _ _ H _ I h=>Ug I g hm ⟨v,H,I,r,h⟩ hd
def mq{x:Str}{v:V}{u:VL}{pos:Pos}(R:Gl X x)(hm:X.mg x=none)(g:bootBuiltins x=some u)(r:RelV v u)(hn:x ≠ "__name__":=by decide)(hd:GE=false:=by decide):PE X (.Name x pos) (tC v) :=
 fun _ _ _ H _ I h=>Gx I R hm g ⟨v,H,I,r,h⟩ hn hd
variable{a b:Expr}{ta tb:TE}{pos:Pos}
def tB(t:TE):TT:=fun σ H Q=>t σ H fun x g=>∃c,x=.bl c/\Q c g
def sT{e : Expr}{t : TE}(h : PE X e t)(he : ∀ whole,isTrue e X.env whole = (do let v <- whole; standAt e.pos; holding [v] (truthy v)):=by intro _; rfl):PT X e (tB t):=by
  intro pins s σ H Q I hw
  refine isTrue_plain (BX (h pins s σ H _ I hw) fun v s1 ⟨x,H1,I1,r1,q1⟩ => ?_) (he _)
  obtain ⟨d,rfl,q⟩:=q1
  cases r1
  exact wpAny_truthy_bool ⟨H1,I1,q⟩
variable{tA tB':TT}{rest:zD}
def xX(t u:TT):TT:=fun σ H Q=>t σ H fun c g=>if c=true then u σ g Q else Q false g
def yX(t u:TT):TT:=fun σ H Q=>t σ H fun c g=>if c=true then Q true g else u σ g Q
def xR(t:TT):TT:=fun σ H Q=>t σ H fun c g=>Q (!c) g
def nM(ha:PT X a tA):PW X (.BoolOp .And [a] pos) tA:=by
 intro g pins s σ H Q I h;refine isTrue_and (BX (ha pins s σ H Q I h) fun c s1 e=>?_);cases c with
 |true=>exact isTrue_and_nil e
 |false=>exact e
def qq(ha:PT X a tA):PW X (.BoolOp .Or [a] pos) tA:=by
 intro g pins s σ H Q I h;refine isTrue_or (BX (ha pins s σ H Q I h) fun c s1 e=>?_);cases c with
 |false=>exact isTrue_or_nil e
 |true=>exact e
def tK(ha:PT X a tA)(U:PW X (.BoolOp .And (b::rest) pos) tB'):PW X (.BoolOp .And (a::b::rest) pos) (xX tA tB'):=by
 intro T pins s σ H Q I h;refine isTrue_and (BX (ha pins s σ H _ I h) fun c s1 ⟨R,g,q1⟩=>?_);cases c with
 |true=>exact U T pins s1 σ R Q g q1
 |false=>exact⟨R,g,q1⟩
def vC(ha:PT X a tA)(U:PW X (.BoolOp .Or (b::rest) pos) tB'):PW X (.BoolOp .Or (a::b::rest) pos) (yX tA tB'):=by
 intro T pins s σ H Q I h;refine isTrue_or (BX (ha pins s σ H _ I h) fun c s1 ⟨R,g,q1⟩=>?_);cases c with
 |true=>exact⟨R,g,q1⟩
 |false=>exact U T pins s1 σ R Q g q1
def uB(ha:PT X a tA):PT X (.UnaryOp .Not a pos) (xR tA):=by
 intro pins s σ H Q I h;exact isTrue_not (ha pins s σ H (fun c g=>Q (!c) g) I h)
def uw(ta tb:TE):TE:=fun σ H Q=>ta σ H fun x g=>∃c,x=.bl c/\if c=true then tb σ g Q else Q (.bl false) g
def uW(ta:TE):TE:=fun σ H Q=>ta σ H fun x g=>∃c,x=.bl c/\Q (.bl (!c)) g
def p7{op}{t:TE}(h:PE X a t):PE X (.BoolOp op [a] pos) t:=fun pins s σ H Q I g=>BoolOp_one (h pins s σ H Q I g)
def uO(ha:PE X a ta)(U:PE X (.BoolOp .And (b::rest) pos) tb):PE X (.BoolOp .And (a::b::rest) pos) (uw ta tb):=by
 intro pins s σ H Q I h;refine BoolOp_and (BX (ha pins s σ H _ I h) fun v s1 ⟨x,R,g,T,q1⟩=>?_);obtain⟨c,rfl,q1⟩:=q1;cases T;refine wpAny_truthy_bool ?_;cases c with
 |true=>exact U pins s1 σ R Q g q1
 |false=>exact⟨.bl false,R,g,rfl,q1⟩
def qE(ha:PE X a ta):PE X (.UnaryOp .Not a pos) (uW ta):=by
 intro pins s σ H Q I h;refine UnaryOp_ (BX (ha pins s σ H _ I h) fun v s1 ⟨x,T,R,g,q1⟩=>?_);obtain⟨c,rfl,q1⟩:=q1;cases g;exact not_of (wpAny_truthy_bool ⟨.bl (!c),T,R,rfl,q1⟩)
end
def Aw(K:Fg)(H:Hp)(a:AD)(xs:zJ):Prop :=
 Rd H a KB \/
  ∃(o:Obj) (g:Array VL) (n:Nat),K.lookup a=some o/\o.cls=.type "list" /\ o.dict=none/\o.data=.seq g n/\g.size<=sizeLine/\Vals xs g.toList
def BK(K:Fg)(H:Hp)(a:AD)(xs:zJ):Prop :=
 Rd H a Ke \/
  ∃(o:Obj) (g:Array VL) (n:Nat),K.lookup a=some o/\o.cls=.type "tuple" /\ o.data=.seq g n/\g.size<=sizeLine/\Vals xs g.toList
def Xc:VL->Option V
 |.none=>some .BP
 |.bool b=>some (.bl b)
 |.int i _=>some (.int i)
 |.str x _=>some (.str x)
 |.bytes b _=>some (.QM b)
 |.float b _=>some (.Zy b)
 |.ref a=>some Hf
 |.type n=>some (.ty n)
 |_=>none
def RelV.abs{x:V}{u:VL}(r:RelV x u):Xc u=some x:=by
 cases x with
 |BP=>cases r;rfl
 |bl _=>cases r;rfl
 |int _=>obtain⟨t,rfl⟩:=r;rfl
 |str _=>obtain⟨t,rfl⟩:=r;rfl
 |QM _=>obtain⟨t,rfl⟩:=r;rfl
 |Zy _=>obtain⟨t,rfl⟩:=r;rfl
 |ref _=>cases r;rfl
 |ty _=>cases r;rfl
def RelV.inj{x y:V}{u:VL}(r:RelV x u)(q:RelV y u):x=y:=af (r.abs.symm.trans q.abs)
theorem Vals.inj:∀ {xs ys:IZ} {us:LQ},Vals xs us->Vals ys us->xs=ys
 |_,_,_,.nil,.nil=>rfl
 |_,_,_,.cons r t,.cons R g=>by rw[r.inj R,Vals.inj t g]
section
variable{X:Cx}{pins:Cu}{σ:St}{H:Hp}{s:SD}{a:AD}{xs ys:zJ}
def Aw.of{K:Fg}(h:H a=some KB):Aw K H a xs:=.inl (.inl h)
def BK.of{K:Fg}(h:H a=some Ke):BK K H a xs:=.inl (.inl h)
def Inv.list(I:BY)(h:Aw X.K H a xs):∃g:yy,Vals xs g/\PlainL s.heap a g.toArray/\xs.length<=sizeLine:=by
 rcases h with h|⟨o,g,n,T,U,hd,R,Y,r⟩
 .obtain⟨z,g,n,r,e⟩:=h.ok I.A9;exact⟨g,r,⟨_,n,e,rfl,rfl,rfl⟩,z⟩
 .refine⟨g.toList,r,⟨o,n,I.Kn a o T,U,hd,by simpa using R⟩,?_⟩;have e:=r.length;simp only[Array.length_toList]at e
  lia
def Inv.tuple(I:BY)(h:BK X.K H a xs):∃g:yy,Vals xs g/\IsTup s.heap a g.toArray/\xs.length<=sizeLine:=by
 rcases h with h|⟨o,g,n,T,U,R,Y,r⟩
 .obtain⟨z,g,r,p⟩:=h.ok I.A9;exact⟨g,r,p,z⟩
 .refine⟨g.toList,r,⟨o,I.Kn a o T,U,n,by simpa using R⟩,?_⟩;have e:=r.length;simp only[Array.length_toList]at e
  lia
def Inv.YN(I:BY)(h:Aw X.K H a xs)(h':Aw X.K H a ys):xs=ys:=by
 obtain⟨R,r,⟨o,n,e,_,_,d⟩,_⟩:=I.list h;obtain⟨g,Y,⟨o',n',T,_,_,U⟩,_⟩:=I.list h';rw[e]at T;cases T;rw[d]at U
 injection U with Z _
 have:R=g:=by simpa using bM Array.toList Z
 subst this;exact r.inj Y
def Inv.WA(I:BY)(h:BK X.K H a xs)(h':BK X.K H a ys):xs=ys:=by
 obtain⟨R,r,⟨o,e,_,n,d⟩,_⟩:=I.tuple h;obtain⟨g,Y,⟨o',T,_,n',U⟩,_⟩:=I.tuple h';rw[e]at T;cases T;rw[d]at U
 injection U with Z _
 have:R=g:=by simpa using bM Array.toList Z
 subst this;exact r.inj Y
end
abbrev Cx.JV(X:Cx)(E:Uf):Cx:={X with xe:=E}
abbrev Cx.LG(X:Cx):Cx:=X.JV fun _ _=>False
def Cx.Ok.JV{X:Cx}(ok:X.Ok)(E:yz):(X.JV E).Ok :=
 ⟨ok.mod,ok.kind,ok.glob,ok.blt,ok.above,ok.inj,ok.has,ok.cG,ok.hd,ok.frames,ok.mE,ok.wd,ok.bs,ok.Vb,ok.Y0,ok.Wy,ok.J5,ok.Vr,ok.kt⟩
def Cx.Ok.Gu{X:Cx}{E:yz}(ok:(X.JV E).Ok):X.Ok :=
 ⟨ok.mod,ok.kind,ok.glob,ok.blt,ok.above,ok.inj,ok.has,ok.cG,ok.hd,ok.frames,ok.mE,ok.wd,ok.bs,ok.Vb,ok.Y0,ok.Wy,ok.J5,ok.Vr,ok.kt⟩
section
variable{X:Cx}{pins:Cu}{σ:St}{H:Hp}{s:SD}{E:yz}
def Inv.JV(I:BY)(E:yz):Inv (X.JV E) pins σ H s:=⟨I.ok.JV E,I.os,I.bare,I.base,I.loc,I.cell,I.free,I.KZ,I.pin,I.A9,I.len⟩
def Inv.Gu(I:Inv (X.JV E) pins σ H s):Inv X pins σ H s:=⟨I.ok.Gu,I.os,I.bare,I.base,I.loc,I.cell,I.free,I.KZ,I.pin,I.A9,I.len⟩
def SP.Gu{D:Ends}{f:Flow}{s':SD}(h:SP (X.JV E) pins D f s'):SP X pins D f s':=by
 cases f with
 |next=>obtain⟨g,H',I,q⟩:=h;exact⟨g,H',I.Gu,q⟩
 |brk=>obtain⟨g,H',I,q⟩:=h;exact⟨g,H',I.Gu,q⟩
 |cont=>obtain⟨g,H',I,q⟩:=h;exact⟨g,H',I.Gu,q⟩
 |ret u=>obtain⟨v,g,H',I,r,q⟩:=h;exact⟨v,g,H',I.Gu,r,q⟩
def Jp.LG{st:zM}{t:TS}(h:Jp X.LG st t):Jp X st t:=fun pins s σ H D I g=>
 ao (h pins s σ H D (I.JV _) g) (fun _ _ q=>q.Gu) fun _ _ z=>False.elim z
end
section
variable{X:Cx}{st:Stmt}{rest:zM}{t u:TS}{e:Expr}{te:TE}{pos:Pos}
def vM:TS:=fun D σ H=>D.nx σ H
def rO(t u:TS):TS:=fun D σ H=>t {D with nx:=u D} σ H
def GI:Jp X [] vM:=fun _ _ σ H _ I h=>wpAny_execs_nil ⟨σ,H,I,h⟩
def Ae(T:PS X st t)(R:Jp X rest u):Jp X (st::rest) (rO t u):=by
 intro pins s σ H D I h;refine wpAny_execs_cons (BX (T pins s σ H {D with nx:=u D} I h) fun f s1 q=>?_);cases f with
 |next=>
  obtain⟨g,H',U,q⟩:=q;exact R pins s1 g H' D U q
 |ret v=>exact q
 |brk=>exact q
 |cont=>exact q
def BE(g:PS X st t):Jp X [st] t:=by
 intro pins s σ H D I h;refine wpAny_execs_cons (BX (g pins s σ H D I h) fun f s1 q=>?_);cases f with
 |next=>exact wpAny_execs_nil q
 |ret v=>exact q
 |brk=>exact q
 |cont=>exact q
def vL:TS:=fun D σ H=>D.ct σ H
def ZO:PS X (.Continue pos) vL:=fun _ _ σ H _ I h=>wpAny_Continue ⟨σ,H,I,h⟩
def Inv.quiet{pins:Cu}{σ:St}{H:Hp}{s:SD}(I:BY):interactive X.env=false:=by simp[interactive,I.ok.kind]
def Wl(te:TE):TS:=fun D σ H=>te σ H fun _ g=>D.nx σ g
def E8(R:PE X e te)(g:swapsWith e none pos.line X.env=pure false:=by rfl):PS X (.Expr e pos) (Wl te):=by
 intro pins s σ H D I h;exact wpAny_Expr_any (BX (R pins s σ H _ I h) fun v s1 ⟨x,U,T,Y,q1⟩=>⟨σ,U,T,q1⟩) I.quiet g
def wt(te:TE):TS:=fun D σ H=>te σ H D.rt
def Cp(R:PE X e te):PS X (.Return (some e) pos) (wt te):=by
 intro pins s σ H D I h;exact wpAny_Return_some (BX (R pins s σ H _ I h) fun v s1 ⟨x,U,T,g,q1⟩=>⟨x,σ,U,T,g,q1⟩)
def x9(c:TT)(t u:TS):TS:=fun D σ H=>c σ H fun b g=>if b=true then t D σ g else u D σ g
def JR{c:Expr}{a b:zM}{g:TT}(U:PT X c g)(ha:Jp X a t)(Y:Jp X b u):PS X (.If c a b pos) (x9 g t u):=by
 intro pins s σ H D I h;refine wpAny_If (BX (U pins s σ H _ I h) fun d s1 ⟨T,R,q1⟩=>?_);cases d with
 |true=>exact ha pins s1 σ T D R q1
 |false=>exact Y pins s1 σ T D R q1
def qA:TS:=fun _ _ _=>False
def XD:PS X st qA:=fun _ _ _ _ _ _ h=>h.elim
end
abbrev TG:=V->St->Hp->(St->Hp->Prop)->Prop
abbrev Xa:=List V->St->Hp->(St->Hp->Prop)->Prop
def PG(X:Cx)(target:Expr)(t:TG):Prop :=
 ∀(pins:Cu) (s:SD) (σ:St) (H:Hp) (v:V) (u:VL) (Q:St->Hp->Prop),Inv X pins σ H s->RelV v u->t v σ H Q ->
  wpAny Ch X.A (assign target X.env u) (fun _ s'=>∃g H',Inv X pins g H' s'/\Q g H') X.xe s
def lW(X:Cx)(ts:zD)(t:Xa):Prop :=
 ∀(pins:Cu) (s:SD) (σ:St) (H:Hp) (vs:IZ) (us:LQ) (Q:St->Hp->Prop),Inv X pins σ H s->Vals vs us->t vs σ H Q ->
  wpAny Ch X.A (assignInOrder ((assignEach ts X.env).map (·.2)) us) (fun _ s'=>∃g H',Inv X pins g H' s'/\Q g H') X.xe s
abbrev dc:=V->V->V->Hp->(Hp->Prop)->Prop
def j5(X:Cx)(t:dc):Prop :=
 ∀(pins:Cu) (s:SD) (σ:St) (H:Hp) (o i v:V) (g R u:VL) (Q:Hp->Prop),Inv X pins σ H s->RelV o g->RelV i R->RelV v u->t o i v H Q ->
  wpAny Ch X.A (setItem g R u) (fun _ s'=>∃H',Inv X pins σ H' s'/\Q H') X.xe s
section
variable{X:Cx}{pos:Pos}
def F5(i:Nat):TG:=fun v σ H Q=>Q (σ.set i (some v)) H
def Ay{i:Nat}{x:Str}(T:X.N.Nodup)(hi:X.N[i]? = some x)(g:Loc X.env.scope x)(R:X.fn x=true\/X.env.scope.names.lookup x=some .local:=by first|exact .inl rfl|exact .inr rfl|assumption):PG X (.Name x pos) (F5 i):=by
 intro pins s σ H v u Q I r h;exact wpAny_assign_Name (Ov I T hi g r (fun s' U=>⟨_,H,U,h⟩) R)
def dG:Xa:=fun vs σ H Q=>vs=[]/\Q σ H
def Mu(t:TG)(u:Xa):Xa:=fun vs σ H Q=>∃v r,vs=v::r/\t v σ H fun g H'=>u r g H' Q
def HE:lW X [] dG:=by
 intro pins s σ H vs us Q I r h;obtain⟨e,h⟩:=h;subst e;cases r;exact assignInOrder_nil ⟨σ,H,I,h⟩
def B7{e:Expr}{es:zD}{t:TG}{u:Xa}(Y:PG X e t)(U:lW X es u) (T:(assignEach No X.env).map (·.2)=assign e X.env::(assignEach es X.env).map (·.2):=by rfl):lW X No (Mu t u):=by
 intro pins s σ H vs us Q I r h;obtain⟨v,vr,Z,h⟩:=h;subst Z;cases r with
 |cons r R=>
  rw[T];refine assignInOrder_cons (BX (Y pins s σ H _ _ _ I r h) fun _ s1 ⟨g,H1,I1,q1⟩=>?_);exact U pins s1 g H1 _ _ Q I1 R q1
def dj(K:Fg)(n:Nat)(t:Xa):TG:=fun v σ H Q=>∃a xs,v=.ref a/\BK K H a xs/\xs.length=n/\t xs σ H Q
def IV{es:zD}{k:Nat}{t:Xa}{n:Nat}(hc:bi)(h:lW X es t) (hn:(assignEach es X.env).length=n:=by rfl)(R:(assignEach es X.env).findIdx? M0=none:=by rfl):PG X (.Tuple es k pos) (dj X.K n t):=by
 intro pins s σ H v u Q I r g;obtain⟨a,xs,e1,hq,hl,g⟩:=g;subst e1;cases r;obtain⟨U,T,Z,hz⟩:=I.tuple hq;refine assign_Tuple_tuple Nu Z (by simp[hn,<-hl,T.length]) R fun h' Y=>?_;have I1:Inv X pins σ H Op:=I.kept (t':=s.toks) fun b o e=>Y b o (aI (aF e)) e;exact h pins _ σ H xs _ Q I1 (by simpa using T) g
def qm(g R:TE)(t:dc):TG:=fun v σ H Q=>g σ H fun o Y=>R σ Y fun i U=>t o i v U fun T=>Q σ T
def T6{o i:Expr}{to ti:TE}{t:dc}(ho:PE X o to)(hi:PE X i ti)(hs:j5 X t)
 (ha:∀v,assign (.Subscript o i pos) X.env v=(do
      let ov <-holding [v] (eval o X.env)
      let iv <-holding [v,ov] (eval i X.env)
      standAt pos
      holding [v,ov,iv] (setItem ov iv v)
      release [v,ov,iv] []):=by intro _;rfl):PG X (.Subscript o i pos) (qm to ti t):=by
  intro pins s σ H v u Q I r h
  rw[ha]
  refine Wb (aT (BX (ho pins s σ H _ I h) fun ov s1 ⟨x,H1,I1,r1,q1⟩=>?_))
  refine Wb (aT (BX (hi pins s1 σ H1 _ I1 q1) fun iv s2 ⟨y,H2,I2,r2,q2⟩=>?_))
  refine Wb (wpAny_standAt (Wb (aT (BX (hs pins s2 σ H2 x y v ov iv u _ I2 r1 r2 r q2) fun _ s3 ⟨H3,I3,q3⟩=>?_))))
  exact wpAny_release ⟨σ,H3,I3,q3⟩
def YV(R:TE)(g:TG):TS:=fun D σ H=>R σ H fun x T=>g x σ T D.nx
def N6{tg e:Expr}{R:TE}{g:TG}(he:PE X e R)(Z:PG X tg g)(Y:swapsWithSole [tg] e pos.line X.env=pure false:=by rfl)(U:swappedStores [tg] e X.env=pure none:=by rfl) (h1:(assignEach [tg] X.env).map (·.2)=[assign tg X.env]:=by rfl):PS X (.Assign [tg] e pos) (YV R g):=by
 intro pins s σ H D I h;refine wpAny_Assign_stores (BX (he pins s σ H _ I h) fun v s1 ⟨x,H1,I1,T,q1⟩=>?_) Y U;rw[h1];exact BX (Z pins s1 σ H1 x v _ I1 T q1) fun _ s2 q=>q
def BM{i:Nat}{x:Str}{e:Expr}{R:TE}{g:Pos}(hN:X.N.Nodup)(hi:X.N[i]? = some x)(U:Loc X.env.scope x)(he:PE X e R)(Y:swapsWith e (some (.Name x g)) pos.line X.env=pure false:=by rfl)(Z:X.fn x=true\/X.env.scope.names.lookup x=some .local:=by first|exact .inl rfl|exact .inr rfl|assumption):PS X (.Assign [.Name x g] e pos) (YV R (F5 i)):=by
 intro pins s σ H D I h;refine wpAny_Assign_Name (BX (he pins s σ H _ I h) fun v s1 ⟨y,H1,I1,T,q1⟩=>?_) Y;exact Ov I1 hN hi U T (fun s2 I2=>⟨_,H1,I2,q1⟩) Z
def wk(i j:Nat)(g:TA):TS:=fun D σ H=>g σ H fun vs R=>∃v w,vs=[v,w]/\D.nx ((σ.set i (some v)).set j (some w)) R
def tY{i j:Nat}{x y:Str}{a b:Expr}{ta:TA}{px Z pt:Pos}{kt k2 R}(hc:bi)(hN:X.N.Nodup)(hi:X.N[i]? = some x)(hj:X.N[j]? = some y)(hij:i≠j) (hx:X.env.scope.names.lookup x=some .local)(hy:X.env.scope.names.lookup y=some .local)(ha:PA X [a,b] ta) (hw:swappedStores [.Tuple [.Name x px,.Name y Z] kt pt] (.Tuple [a,b] k2 R) X.env=pure (some [x,y])) (hs:swapsWithSole [.Tuple [.Name x px,.Name y Z] kt pt] (.Tuple [a,b] k2 R) pos.line X.env=pure false:=by rfl):PS X (.Assign [.Tuple [.Name x px,.Name y Z] kt pt] (.Tuple [a,b] k2 R) pos) (wk i j ta):=by
 intro pins s σ H D I h;rw[exec_Assign_arm];refine Wb (wpAny_standAt ?_);rw[hs];refine Wb Re;rw[if_neg AT];refine Wb (Tuple_ (BX (ha _ pins s σ H _ I h) fun us s1 ⟨vs,H1,I1,r1,q1⟩=>?_));obtain⟨v,w,e1,q1⟩:=q1;subst e1;obtain⟨U,T,rfl,rv,Y⟩:∃U T,us=[U,T]/\RelV v U/\RelV w T:=by
  cases r1 with
  |cons p q=>
   cases q with
   |cons p' q'=>
    cases q';exact⟨_,_,rfl,p,p'⟩
 refine bA ?_ (by show 2<=sizeLine;decide);have I2:Inv X pins σ H1 {s1 with heap:=s1.heap.push { cls:=.type "tuple",data:=.seq [U,T].toArray} }:=I1.kept (t':=s1.toks) fun b o e=>aE _ e;rw[hw];refine Wb Re;show wpAny Ch X.A (do rule "assign.swapped-stores"; let g <-unpackItems (.ref s1.heap.objs.size) 2 none;assignInOrder [fun v=>bindName X.env y v,fun v=>bindName X.env x v] g.reverse;pure Flow.next) _ _ _;refine Wb (bH (Wb (unpackItems_tuple (items:=#[U,T]) Nu (IsTup.new s1.heap _) fun h' hx'=>?_)));have I3:=I2.kept (h':=h') (t':=s1.toks) fun b o e=>hx' b o (aI (aF e)) e;show wpAny _ _ (assignInOrder [fun v=>bindName X.env y v,fun v=>bindName X.env x v] [T,U]>>=fun _=>pure Flow.next) _ _ _;refine Wb (assignInOrder_cons (wpAny_bindName (Ov I3 hN hj (.inl hy) Y (fun s2 I4=>?_) (.inr hy))));refine assignInOrder_cons (wpAny_bindName (Ov I4 hN hi (.inl hx) rv (fun s3 I5=>assignInOrder_nil Re) (.inr hx)));rw[List.set_comm _ _ (Ne.symm hij)]at I5;exact⟨_,H1,I5,q1⟩
end
section
variable{X:Cx}{pos:Pos}
def iW(c:TT)(U:TS):TS:=fun D σ H=>∃W:Nat->St->Hp->Prop,(∃m,W m σ H)/\∀m σ H,W m σ H ->
 c σ H fun b T=>if b=true then ∃N:St->Hp->Prop,(∀g H',N g H'->∃R,R<m/\W R g H')/\U {D with nx:=N,ct:=N,bk:=D.nx} σ T else D.nx σ T
def SV{c:Expr}{T:zM}{tc:TT}{tb:TS}(hp:PassesOwn Ch X.A X.env X.xe)(hc:PT X c tc)(hb:Jp X T tb):PS X (.While c T [] pos) (iW tc tb):=by
 intro pins s σ H D I h;obtain⟨W,⟨m0,w0⟩,turn⟩:=h;refine wpAny_While (codeAny_whileLoop (fun n s'=>∃U H',Inv X pins U H' s'/\W n U H') ?_ m0 ⟨σ,H,I,w0⟩);rintro n s1 ⟨R,H1,I1,w1⟩;refine wpAny_passesOwn hp (BX (hc pins s1 R H1 _ I1 (turn n R H1 w1)) fun b s2 ⟨H2,I2,q2⟩=>?_);cases b with
 |true=>
  obtain⟨N,hN,q2⟩:=q2;rw[if_pos rfl];refine wpAny_passesOwn hp (BX (hb pins s2 R H2 _ I2 q2) fun f s3 Z=>?_);cases f with
  |next=>
   obtain⟨g,Y,I3,n3⟩:=Z;obtain⟨m',hm,w3⟩:=hN g Y n3;exact⟨m',hm,g,Y,I3,w3⟩
  |cont=>
   obtain⟨g,Y,I3,n3⟩:=Z;obtain⟨m',hm,w3⟩:=hN g Y n3;exact⟨m',hm,g,Y,I3,w3⟩
  |brk=>exact Z
  |ret v=>exact Z
 |false=>
  rw[if_neg aK];exact wpAny_execs_nil ⟨R,H2,I2,q2⟩
end
structure It where
 go:Nat->Hp->Prop
 Ge:Nat->Hp->V->Hp->Prop
 stop:Nat->Hp->Prop
def K6(X:Cx)(pins:Cu)(H:Hp)(b:AD):Prop :=
 H b=none/\b≠X.env.locals/\b ∉ X.fs/\(b∈X.ex\/X.s₀.heap.objs.size<=b)/\(∀x c,X.env.cells.lookup x=some c->c≠b)/\∀p∈X.pn++pins,p.1≠b
def Inv.Sd{X:Cx}{pins:Cu}{σ:St}{H H':Hp}{s:SD}{b:AD}(I:BY)(g:s.heap.objs.size<=b)(hn:H' b=none):K6 X pins H' b:=by
 refine⟨hn,Nat.ne_of_gt (aH I.lt g),I.wg g,.inr (aU I.sz g),fun x c e z=>?_,fun p R z=>?_⟩
 .obtain⟨v,q⟩:=I.cell x c e;exact absurd (aH q.lt (by rw[z];exact g)) (Nat.lt_irrefl _)
 .exact absurd (aH (aF (I.pin p R).1) (by rw[z];exact g)) (Nat.lt_irrefl _)
structure Turn(P:Program)(w:World)(K:Fg)(tg:Expr)(J:It)(fp:List Addr)(it:Addr)(tn:Nat->Heap->Prop):Prop where
 mem:it∈fp
 obj:∀i h,tn i h->∀b∈fp,∃o,h.get? b=some o/\∀v,o.data≠.cell v
 keep:∀i h h',tn i h->(∀b∈fp,∀o,h.get? b=some o->h'.get? b=some o)->tn i h'
 item:∀(X:Cx),X.prog=P->X.w=w->X.K=K->X.calm=true->∀(i:Nat) (pins:List (Addr×Obj)) (s:Shared) (σ:St) (H:Hp) (E:Value->Shared->Prop),Inv X pins σ H s->(∀b∈fp,K6 X pins H b)->tn i s.heap->J.go i H ->
  wpAny (model P w) X.A (pyNext (.ref it)) (fun r s1=>∃u,r=some u /\
   wpAny (model P w) X.A (letOwnedTupleGo tg (.ref it) u) (fun _ s2=>∃x H',Inv X pins σ H' s2/\RelV x u/\J.Ge i H x H'/\tn MS s2.heap/\∀b∈fp,H' b=none) E s1) E s
 done:∀(X:Cx),X.prog=P->X.w=w->X.K=K->X.calm=true->∀(i:Nat) (pins:List (Addr×Obj)) (s:Shared) (σ:St) (H:Hp) (E:Value->Shared->Prop),Inv X pins σ H s->(∀b∈fp,K6 X pins H b)->tn i s.heap->J.stop i H ->
  wpAny (model P w) X.A (pyNext (.ref it)) (fun r s1=>r=none/\Inv X pins σ H s1) E s
 self:∀(A:Around) (i:Nat) (s:Shared) (Q:Value->Shared->Prop) (E:Value->Shared->Prop),tn i s.heap->Q (.ref it) s->wpAny (model P w) A (pyIter (.ref it)) Q E s
abbrev TI:=St->Hp->(It->Hp->Prop)->Prop
def wN(X:Cx)(pins:Cu)(σ:St)(tg:Expr)(R:It->Hp->Prop)(g:VL)(s2:SD):Prop :=
 ∃(it:AD) (fp:List AD) (tn:Nat->Heap->Prop) (J:It) (H':Hp),g=.ref it/\Inv X pins σ H' s2/\Turn X.prog X.w X.K tg J fp it tn/\tn 0 s2.heap/\(∀b∈fp,K6 X pins H' b)/\R J H'
def PI(X:Cx)(tg iter:Expr)(g:TI):Prop :=
 ∀(pins:Cu) (s:SD) (σ:St) (H:Hp) (R:It->Hp->Prop),Inv X pins σ H s->g σ H R ->
  wpAny Ch X.A (eval iter X.env) (fun v s1=>wpAny Ch X.A (pyIter v) (wN X pins σ tg R) X.xe s1) X.xe s
def eY{M:Model}{A:F0d}{E:yz}{s:SD}{tg:Expr}{it:AD}{u:VL}{o:Obj}{n:String}{vs:Array VL}{Q:Unit->SD->Prop}(R:s.heap.get? it=some o)(T:o.cls=.type n)(hd:o.data=.fields vs) (hn:["enumerate","zip","dict_itemiterator","dict_reverseitemiterator","odict_iterator","itertools.zip_longest","itertools.pairwise"].contains n=false)(g:Q () s):wpAny M A (letOwnedTupleGo tg (.ref it) u) Q E s:=by
 unfold letOwnedTupleGo;cases tg<;>first
  |exact aA g
  |(cases u<;>first
    |exact aA g
    |(refine Wb (wpAny_load R ?_)
      rw[T,hd];show wpAny M A (if(["enumerate","zip","dict_itemiterator","dict_reverseitemiterator","odict_iterator","itertools.zip_longest","itertools.pairwise"].contains n&&vs[0]? == some (rawInt _))=true then _ else _) Q E s;rw[if_neg (by intro h;rw[hn,Bool.false_and]at h;cases h)];exact aA g))
def Zv(K:Fg)(a:AD):It :=
 ⟨fun i H=>∃xs x,Aw K H a xs/\xs[i]? = some x,fun i H x H'=>H'=H/\∀xs,Aw K H a xs->xs[i]? = some x,fun i H=>∃xs,Aw K H a xs/\xs.length<=i⟩
def b5(K:Fg)(a:AD):It :=
 ⟨fun i H=>∃xs x,BK K H a xs/\xs[i]? = some x,fun i H x H'=>H'=H/\∀xs,BK K H a xs->xs[i]? = some x,fun i H=>∃xs,BK K H a xs/\xs.length<=i⟩
def V3(lo:Int)(n:Nat):It:=⟨fun i _=>i<n,fun i H x H'=>H'=H/\x=.int (lo+i),fun i _=>n<=i⟩
def i7{P:F0b}{w:F0c}{K:Fg}{tg:Expr}(a it:AD):Turn P w K tg (Zv K a) [it] it (fun i h=>h.IsListIter it a i) where
 mem:=by simp
 obj:=fun i h st b hb=>by
  have e:b=it:=by simpa using hb
  subst e;obtain⟨o,e,c,d⟩:=st;exact⟨o,e,fun v z=>by rw[d]at z;cases z⟩
 keep:=fun i h h' st k=>st.at fun o e=>k it At o e
 item:=by
  intro X hP hw hK hc i pins s σ H E I hf st hg;subst hP hw hK;obtain⟨xs,x,hq,hx⟩:=hg;obtain⟨its,rv,p,hz⟩:=I.list hq;obtain⟨u,hu,ru⟩:=rv.get hx;obtain⟨f0,f1,f2,f3,f4,f5⟩:=hf it At;refine wpAny_pyNext_list_item st p.isList (x:=u) (by simpa using hu) fun h' st' sb=>?_;have I1:Inv X pins σ H Op:=I.turned (t':=s.toks) (fun b o hb e=>(sb.2 b hb).trans e) f0 f1 f3 f4 f5;obtain⟨o,e,c,d⟩:=id st';exact⟨u,rfl,eY (s:={s with heap:=h'}) e c d AT ⟨x,H,I1,ru,⟨rfl,fun ys hy=>by rw[I.YN hy hq];exact hx⟩,st',fun b hb=>(hf b hb).1⟩⟩
 done:=by
  intro X hP hw hK hc i pins s σ H E I hf st hg;subst hP hw hK;obtain⟨xs,hq,hx⟩:=hg;obtain⟨its,rv,p,hz⟩:=I.list hq;obtain⟨f0,f1,f2,f3,f4,f5⟩:=hf it At;have hl:=rv.length;exact wpAny_pyNext_list_end Nu st p.isList (by simp;lia) fun h' eb=>⟨rfl,I.turned (t':=s.toks) (fun b o hb e=>eb b o hb e) f0 f1 f3 f4 f5⟩
 self:=fun _ _ _ _ _ st h=>wpAny_pyIter_listiter st h
def dF{P:F0b}{w:F0c}{K:Fg}{tg:Expr}(a it:AD):Turn P w K tg (b5 K a) [it] it (fun i h=>h.IsTupleIter it a i) where
 mem:=by simp
 obj:=fun i h st b hb=>by
  have e:b=it:=by simpa using hb
  subst e;obtain⟨o,e,c,d⟩:=st;exact⟨o,e,fun v z=>by rw[d]at z;cases z⟩
 keep:=fun i h h' st k=>st.at fun o e=>k it At o e
 item:=by
  intro X hP hw hK hc i pins s σ H E I hf st hg;subst hP hw hK;obtain⟨xs,x,hq,hx⟩:=hg;obtain⟨its,rv,p,hz⟩:=I.tuple hq;obtain⟨u,hu,ru⟩:=rv.get hx;obtain⟨f0,f1,f2,f3,f4,f5⟩:=hf it At;refine wpAny_pyNext_tuple_item st (show s.heap.IsTuple a its.toArray from p) (x:=u) (by simpa using hu) fun h' st' sb=>?_;have I1:Inv X pins σ H Op:=I.turned (t':=s.toks) (fun b o hb e=>(sb.2 b hb).trans e) f0 f1 f3 f4 f5;obtain⟨o,e,c,d⟩:=id st';exact⟨u,rfl,eY (s:={s with heap:=h'}) e c d AT ⟨x,H,I1,ru,⟨rfl,fun ys hy=>by rw[I.WA hy hq];exact hx⟩,st',fun b hb=>(hf b hb).1⟩⟩
 done:=by
  intro X hP hw hK hc i pins s σ H E I hf st hg;subst hP hw hK;obtain⟨xs,hq,hx⟩:=hg;obtain⟨its,rv,p,hz⟩:=I.tuple hq;obtain⟨f0,f1,f2,f3,f4,f5⟩:=hf it At;have hl:=rv.length;exact wpAny_pyNext_tuple_end Nu st (show s.heap.IsTuple a its.toArray from p) (by simp;lia) fun h' eb=>⟨rfl,I.turned (t':=s.toks) (fun b o hb e=>eb b o hb e) f0 f1 f3 f4 f5⟩
 self:=fun _ _ _ _ _ st h=>wpAny_pyIter_tupleiter st h
def eO{P:F0b}{w:F0c}{K:Fg}{tg:Expr}(it:AD)(lo:Int)(n:Nat):Turn P w K tg (V3 lo n) [it] it (fun i h=>IsRangeIter h it (lo+(i:Nat)*1) ((n:Int)-(i:Nat)) 1) where
 mem:=by simp
 obj:=fun i h st b hb=>by
  have e:b=it:=by simpa using hb
  subst e;exact⟨_,st,fun v z=>by
   have z':Data.fields _=Data.cell v:=z;cases z'⟩
 keep:=fun i h h' st k=>k it At _ st
 item:=by
  intro X hP hw hK hc i pins s σ H E I hf st hg;subst hP hw hK;obtain⟨f0,f1,f2,f3,f4,f5⟩:=hf it At;have W:=Walks.range (prog:=X.prog) (w:=X.w) Nu it lo 1 n;refine W.item i s _ _ hg st fun v h' tk hv st' kk=>?_;obtain⟨t,rfl⟩:=hv;have I1:Inv X pins σ H Da:=I.turned (fun b o hb e=>kk b o (by simpa using hb) e) f0 f1 f3 f4 f5;refine⟨_,rfl,eY (s:={s with heap:=h',toks:=tk}) (n := "range_iterator") st' rfl rfl AT ⟨.int (lo+i),H,I1,⟨t,?_⟩,⟨rfl,rfl⟩,st',fun b hb=>(hf b hb).1⟩⟩;rw[Int.mul_one]
 done:=by
  intro X hP hw hK hc i pins s σ H E I hf st hg;subst hP hw hK;obtain⟨f0,f1,f2,f3,f4,f5⟩:=hf it At;exact wpAny_pyNext_range_end Nu st (by have:n<=i:=hg;lia) fun h' eb=>⟨rfl,I.turned (t':=s.toks) (fun b o hb e=>eb b o hb e) f0 f1 f3 f4 f5⟩
 self:=fun _ _ _ _ _ st h=>wpAny_pyIter_rangeiter st h
section
variable{X:Cx}{tg:Expr}
def u6(K:Fg)(T:TE):TI:=fun σ H R=>T σ H fun x g=>∃a,x=.ref a/\(∃xs,Aw K g a xs)/\R (Zv K a) g
def xu(K:Fg)(T:TE):TI:=fun σ H R=>T σ H fun x g=>∃a,x=.ref a/\(∃xs,BK K g a xs)/\R (b5 K a) g
def GD{l:Expr}{T:TE}(hl:PE X l T):PI X tg l (u6 X.K T):=by
 intro pins s σ H R I h;refine BX (hl pins s σ H _ I h) fun v s1 ⟨x,H1,g,U,q1⟩=>?_;obtain⟨a,e,⟨xs,Z⟩,q⟩:=q1;subst e;cases U;obtain⟨Y,rv,p,hz⟩:=g.list Z;refine wpAny_pyIter_list p.isList ?_;refine⟨s1.heap.objs.size,[s1.heap.objs.size],_,_,H1,rfl,g.kept (t':=s1.toks) fun b o e=>aE _ e,i7 a _,⟨_,Heap.get?_push_size _ rfl,rfl,rfl⟩,fun b hb=>?_,q⟩;have e:b=s1.heap.objs.size:=by simpa using hb
 subst e;exact g.Sd Ql (g.A9.fresh Ql)
def XR{l:Expr}{U:TE}(hl:PE X l U):PI X tg l (xu X.K U):=by
 intro pins s σ H R I h;refine BX (hl pins s σ H _ I h) fun v s1 ⟨x,H1,g,Y,q1⟩=>?_;obtain⟨a,e,⟨xs,Z⟩,q⟩:=q1;subst e;cases Y;obtain⟨T,rv,p,hz⟩:=g.tuple Z;refine wpAny_pyIter_tuple (show s1.heap.IsTuple a T.toArray from p) ?_;refine⟨s1.heap.objs.size,[s1.heap.objs.size],_,_,H1,rfl,g.kept (t':=s1.toks) fun b o e=>aE _ e,dF a _,⟨_,Heap.get?_push_size _ rfl,rfl,rfl⟩,fun b hb=>?_,q⟩;have e:b=s1.heap.objs.size:=by simpa using hb
 subst e;exact g.Sd Ql (g.A9.fresh Ql)
def X6{pins:Cu}{σ:St}{H:Hp}{s:SD}{R:It->Hp->Prop}{E:yz}{lo hi:Int}{t u v:Tok}{tk:Nat}(I:BY)(h1:-(2^62)<=lo)(Z:lo<2^62)(Y:-(2^62)<=hi)(U:hi<2^62) (q:R (V3 lo (hi-lo).toNat) H):wpAny Ch X.A (pyIter Do) (wN X pins σ tg R) E {s with heap:=s.heap.push { cls:=.type "range",data:=.fields #[.int lo t,.int hi u,.int 1 v]},toks:=tk}:=by
 refine wpAny_pyIter_range (IsRange.new ..) (small_one h1 Z Y U) ?_;have g:Inv X pins σ H {s with heap:=s.heap.push { cls:=.type "range",data:=.fields #[.int lo t,.int hi u,.int 1 v]},toks:=tk}:=I.kept fun b o e=>aE _ e;refine⟨(s.heap.push { cls:=.type "range",data:=.fields #[.int lo t,.int hi u,.int 1 v]}).objs.size,[(s.heap.push { cls:=.type "range",data:=.fields #[.int lo t,.int hi u,.int 1 v]}).objs.size],_,_,H,rfl,
  g.kept (t':=tk) fun b o e=>aE _ e,eO _ lo (hi-lo).toNat,?_,fun b T=>?_,q⟩
 .have e1:lo+((0:Nat):Int)*1=lo:=by simp
  have e2:(((hi-lo).toNat:Nat):Int)-((0:Nat):Int)=Builtin.Range.rangeSize lo hi 1:=by rw[rangeSize_one];split<;>lia
  show IsRangeIter _ _ (lo+((0:Nat):Int)*1) ((((hi-lo).toNat:Nat):Int)-((0:Nat):Int)) 1;rw[e1,e2];exact aO _ rfl
 .have e:b=(s.heap.push { cls:=.type "range",data:=.fields #[.int lo t,.int hi u,.int 1 v]}).objs.size:=by simpa using T
  subst e;exact g.Sd Ql (g.A9.fresh Ql)
def va(g:TA):TI:=fun σ H R=>g σ H fun vs T=>∃j:Int,vs=[.int j]/\-(2^62)<=j/\j<2^62/\R (V3 0 j.toNat) T
def vn(g:TA):TI:=fun σ H R=>g σ H fun vs T=>∃i j:Int,vs=[.int i,.int j]/\(-(2^62)<=i/\i<2^62/\-(2^62)<=j/\j<2^62)/\R (V3 i (j-i).toNat) T
def Qb{a:Expr}{g:TA}{p pos:Pos}(hg:Gl X "range")(hm:X.mg "range" = none)(ha:PA X [a] g)(Z:starEach [a] X.env=[ND]:=by rfl):PI X tg (.Call (.Name "range" p) [a] [] pos) (va g):=by
 intro pins s σ H R I h;refine Call_ (Gx I hg hm boot_range (ar (BX OF fun us s1 ⟨vs,H1,I1,U,q1⟩=>?_) Z rfl));obtain⟨j,e,q1,Y,q⟩:=q1;subst e;cases U with
 |cons r T=>
  cases T;obtain⟨t,rfl⟩:=r;exact call_range_1 (X6 I1 AC AC q1 Y (by simpa using q))
def iz{a b:Expr}{U:TA}{p pos:Pos}(hg:Gl X "range")(hm:X.mg "range" = none)(ha:PA X [a,b] U)(hs:starEach [a,b] X.env=[ND,LJ]:=by rfl)(g:starEach [b] X.env=[LJ]:=by rfl):PI X tg (.Call (.Name "range" p) [a,b] [] pos) (vn U):=by
 intro pins s σ H R I h;refine Call_ (Gx I hg hm boot_range (ar (BX OF fun us s1 ⟨vs,H1,I1,Y,q1⟩=>?_) (by rw[hs,g]) (by rw[g];rfl)));obtain⟨i,j,e,⟨q1,q2,q3,q4⟩,q⟩:=q1;subst e;cases Y with
 |cons r T=>
  cases T with
  |cons Z T=>
   cases T;obtain⟨t,rfl⟩:=r;obtain⟨t',rfl⟩:=Z;exact call_range_2 (X6 I1 q1 q2 q3 q4 q)
def xI(Y:TI)(g:TG)(Z:TS):TS:=fun D σ H=>Y σ H fun J H1=>∃W:Nat->Nat->St->Hp->Prop,(∃m,W 0 m σ H1)/\∀i m σ H,W i m σ H ->
 (J.stop i H/\D.nx σ H)\/(J.go i H/\∃N:St->Hp->Prop,(∀R H',N R H'->∃U,U<m/\W MS U R H')/\∀x H',J.Ge i H x H'->g x σ H' fun T H2=>Z {D with nx:=N,ct:=N,bk:=D.nx} T H2)
def QJ(fp:zL)(h:Heap):List (AD×Obj):=fp.filterMap fun b=>(h.get? b).map fun o=>(b,o)
def Lb{fp:zL}{h:Heap}{b:AD}{o:Obj}(g:b∈fp)(e:h.get? b=some o):(b,o)∈QJ fp h:=List.mem_filterMap.mpr ⟨b,g,by rw[e];rfl⟩
def gY{fp:zL}{h:Heap}{p:AD×Obj}(g:p∈QJ fp h):p.1∈fp/\h.get? p.1=some p.2:=by
 obtain⟨b,R,e⟩:=List.mem_filterMap.mp g;cases q:h.get? b with
 |none=>rw[q]at e;cases e
 |some o=>
  rw[q]at e;have T:(b,o)=p:=af e;subst T;exact⟨R,q⟩
def Inv.pinned{pins:Cu}{σ:St}{H:Hp}{s:SD}{fp:zL}(I:BY)(Y:∀b∈fp,K6 X pins H b)(U:∀b∈fp,∃o,s.heap.get? b=some o/\∀v,o.data≠.cell v):Inv X (pins++QJ fp s.heap) σ H s :=
 I.Zx fun p T=>(ay.mp T).elim (fun z=>I.pin p (aV _ z)) fun z=>by
  obtain⟨g,e⟩:=gY z;obtain⟨Z,f1,f2,_⟩:=Y p.1 g;obtain⟨o,R,d⟩:=U p.1 g;rw[e]at R;cases R;exact⟨e,Z,f1,f2,d⟩
def Inv.Om{pins g:Cu}{σ:St}{H:Hp}{s:SD}(I:Inv X (pins++g) σ H s):Inv X pins σ H s:=I.Zx fun p R=>I.pin p (aV _ (bN _ R))
def MO{iter:Expr}{body:zM}{wi:TI}{g:TG}{tb:TS}{pos:Pos}(hp:PassesOwn Ch X.A X.env X.xe)(hc:bi)(hi:PI X tg iter wi)(hg:PG X tg g)(hb:Jp X body tb) (hs:∀x,foldedSetIterable iter X.env x=pure x:=by intro _;rfl):PS X (.For tg iter body [] pos) (xI wi g tb):=by
 intro pins s σ H D I h;refine wpAny_For (BX (hi pins s σ H _ I h) fun v s1 h1=>BX h1 fun itv s2 h2=>?_) hs;obtain⟨it,fp,tn,J,H2,e,I2,T,st2,f2,W,⟨m0,w0⟩,turn⟩:=h2;subst e;have Z:∀ {H':Hp},(∀b∈fp,H' b=none)->∀b∈fp,K6 X pins H' b:=fun hn b hb=>⟨hn b hb,(f2 b hb).2⟩;refine codeAny_forLoop_any (fun n s'=>∃i Y H',Inv X pins Y H' s'/\tn i s'.heap/\(∀b∈fp,H' b=none)/\W i n Y H') ?_ m0 ⟨0,σ,H2,I2,st2,fun b hb=>(f2 b hb).1,w0⟩;rintro n s3 ⟨i,U,H3,I3,st3,fr3,w3⟩;rcases turn i n U H3 w3 with ⟨stop,qn⟩|⟨go,N,hN,step⟩
 .refine wpAny_passesOwn hp (BX (T.done X rfl rfl rfl hc i pins s3 U H3 X.xe I3 (Z fr3) st3 stop) fun r s4 ⟨hr,I4⟩=>?_);subst hr;exact wpAny_execs_nil ⟨U,H3,I4,qn⟩
 .refine wpAny_passesOwn hp (BX (T.item X rfl rfl rfl hc i pins s3 U H3 X.xe I3 (Z fr3) st3 go) fun r s4 ⟨u,hr,h4⟩=>?_);subst hr;refine wpAny_passesOwn hp (BX h4 fun _ s5 ⟨x,H5,I5,r5,y5,st5,fr5⟩=>?_);have I5':=I5.pinned (Z fr5) (T.obj _ _ st5);refine wpAny_passesOwn hp (BX (hg _ s5 U H5 x u _ I5' r5 (step x H5 y5)) fun _ s6 ⟨σ6,H6,I6,q6⟩=>?_);refine wpAny_passesOwn hp (BX (hb _ s6 σ6 H6 _ I6 q6) fun f s7 q7=>?_);have again:∀ {R:St} {H7:Hp},Inv X (pins++QJ fp s5.heap) R H7 s7->N R H7->∃m,m<n/\∃i Y H',Inv X pins Y H' s7/\tn i s7.heap/\(∀b∈fp,H' b=none)/\W i m Y H':=fun {R H7} I7 n7=>by
   obtain⟨m',hm,w7⟩:=hN R H7 n7;refine⟨m',hm,i+1,R,H7,I7.Om,T.keep _ _ _ st5 fun b hb o e=>(I7.pin (b,o) (aV _ (aV _ (Lb hb e)))).1,fun b hb=>?_,w7⟩;obtain⟨o,e,d⟩:=T.obj _ _ st5 b hb;exact(I7.pin (b,o) (aV _ (aV _ (Lb hb e)))).2.1
  cases f with
  |next=>obtain⟨R,H7,I7,n7⟩:=q7;exact again I7 n7
  |cont=>obtain⟨R,H7,I7,n7⟩:=q7;exact again I7 n7
  |brk=>obtain⟨R,H7,I7,q7⟩:=q7;exact⟨R,H7,I7.Om,q7⟩
  |ret v=>obtain⟨x7,R,H7,I7,r7,q7⟩:=q7;exact⟨x7,R,H7,I7.Om,r7,q7⟩
end
def SG{K:Fg}{a:AD}{xs:zJ}{g:TG}{Z:TS}{D:Ends}{σ:St}{H:Hp}(Pv:Nat->St->Hp->Prop)(h0:Pv 0 σ H)(hl:∀i σ H,i<=xs.length->Pv i σ H->Aw K H a xs) (hs:∀i x σ H,xs[i]? = some x->Pv i σ H->g x σ H fun R Y=>Z {D with nx:=Pv MS,ct:=Pv MS,bk:=D.nx} R Y)(hd:∀σ H,Pv xs.length σ H->D.nx σ H):∃W:Nat->Nat->St->Hp->Prop,(∃m,W 0 m σ H)/\∀i m σ H,W i m σ H ->((Zv K a).stop i H/\D.nx σ H)\/((Zv K a).go i H/\∃N:St->Hp->Prop,(∀T H',N T H'->∃m',m'<m/\W MS m' T H')/\∀x H',(Zv K a).Ge i H x H'->g x σ H' fun R Y=>Z {D with nx:=N,ct:=N,bk:=D.nx} R Y):=by
 refine⟨fun i m σ H=>m=xs.length-i/\i<=xs.length/\Pv i σ H,⟨xs.length,by simp,Nat.zero_le _,h0⟩,?_⟩;rintro i m σ H ⟨rfl,hi,p⟩;have q:=hl i σ H hi p;by_cases U:i<xs.length
 .refine .inr ⟨⟨xs,xs[i],q,by simp[U]⟩,Pv MS,fun T H' p'=>⟨xs.length-MS,by lia,rfl,U,p'⟩,fun x H' y=>?_⟩;obtain⟨e,y⟩:=y;subst e;exact hs i x σ _ (y xs q) p
 .have e:i=xs.length:=by lia
  subst e;exact .inl ⟨⟨xs,q,Nat.le_refl _⟩,hd σ H p⟩
def oq{K:Fg}{a:AD}{xs:zJ}{g:TG}{Z:TS}{D:Ends}{σ:St}{H:Hp}(Pv:Nat->St->Hp->Prop)(h0:Pv 0 σ H)(hl:∀i σ H,i<=xs.length->Pv i σ H->BK K H a xs) (hs:∀i x σ H,xs[i]? = some x->Pv i σ H->g x σ H fun R Y=>Z {D with nx:=Pv MS,ct:=Pv MS,bk:=D.nx} R Y)(hd:∀σ H,Pv xs.length σ H->D.nx σ H):∃W:Nat->Nat->St->Hp->Prop,(∃m,W 0 m σ H)/\∀i m σ H,W i m σ H ->((b5 K a).stop i H/\D.nx σ H)\/((b5 K a).go i H/\∃N:St->Hp->Prop,(∀T H',N T H'->∃m',m'<m/\W MS m' T H')/\∀x H',(b5 K a).Ge i H x H'->g x σ H' fun R Y=>Z {D with nx:=N,ct:=N,bk:=D.nx} R Y):=by
 refine⟨fun i m σ H=>m=xs.length-i/\i<=xs.length/\Pv i σ H,⟨xs.length,by simp,Nat.zero_le _,h0⟩,?_⟩;rintro i m σ H ⟨rfl,hi,p⟩;have q:=hl i σ H hi p;by_cases U:i<xs.length
 .refine .inr ⟨⟨xs,xs[i],q,by simp[U]⟩,Pv MS,fun T H' p'=>⟨xs.length-MS,by lia,rfl,U,p'⟩,fun x H' y=>?_⟩;obtain⟨e,y⟩:=y;subst e;exact hs i x σ _ (y xs q) p
 .have e:i=xs.length:=by lia
  subst e;exact .inl ⟨⟨xs,q,Nat.le_refl _⟩,hd σ H p⟩
def WH{lo:Int}{n:Nat}{g:TG}{Z:TS}{D:Ends}{σ:St}{H:Hp}(Pv:Nat->St->Hp->Prop)(h0:Pv 0 σ H) (hs:∀i σ H,i<n->Pv i σ H->g (.int (lo+i)) σ H fun R Y=>Z {D with nx:=Pv MS,ct:=Pv MS,bk:=D.nx} R Y)(hd:∀σ H,Pv n σ H->D.nx σ H):∃W:Nat->Nat->St->Hp->Prop,(∃m,W 0 m σ H)/\∀i m σ H,W i m σ H ->((V3 lo n).stop i H/\D.nx σ H)\/((V3 lo n).go i H/\∃N:St->Hp->Prop,(∀T H',N T H'->∃m',m'<m/\W MS m' T H')/\∀x H',(V3 lo n).Ge i H x H'->g x σ H' fun R Y=>Z {D with nx:=N,ct:=N,bk:=D.nx} R Y):=by
 refine⟨fun i m σ H=>m=n-i/\i<=n/\Pv i σ H,⟨n,by simp,Nat.zero_le _,h0⟩,?_⟩;rintro i m σ H ⟨rfl,hi,p⟩;by_cases U:i<n
 .refine .inr ⟨U,Pv MS,fun T H' p'=>⟨n-MS,by lia,rfl,U,p'⟩,fun x H' y=>?_⟩;obtain⟨e,y⟩:=y;subst e y;exact hs i σ _ U p
 .have e:i=n:=by lia
  subst e;exact .inl ⟨aJ _,hd σ H p⟩
def SI{c:TT}{U:TS}{D:Ends}{σ:St}{H:Hp}(Pv:St->Hp->Prop)(T:St->Hp->Nat)(h0:Pv σ H) (hs:∀σ H,Pv σ H->c σ H fun b R=>if b=true then U {D with nx:=fun g H'=>Pv g H'/\T g H'<T σ H,ct:=fun g H'=>Pv g H'/\T g H'<T σ H,bk:=D.nx} σ R else D.nx σ R) (mono:∀σ H Q Y,(∀b R,Q b R->Y b R)->c σ H Q->c σ H Y):iW c U D σ H:=by
 refine⟨fun m σ H=>m=T σ H/\Pv σ H,⟨_,rfl,h0⟩,?_⟩;rintro m σ H ⟨rfl,p⟩;refine mono σ H _ _ (fun b R q=>?_) (hs σ H p);cases b with
 |true=>exact⟨_,fun g H' ⟨Z,l⟩=>⟨_,l,rfl,Z⟩,q⟩
 |false=>exact q
abbrev R2:=V->V->Hp->VK->Prop
def Dd(X:Cx)(f:VL->VL->Sem VL)(r:R2):Prop :=
 ∀(pins:Cu) (s:SD) (σ:St) (H:Hp) (x y:V) (v u:VL) (Q:VK),Inv X pins σ H s->RelV x v->RelV y u->r x y H Q ->
  wpAny Ch X.A (f v u) Tt X.xe s
def rZ(X:Cx)(f:VL->Sem VL)(r:V->Hp->VK->Prop):Prop :=
 ∀(pins:Cu) (s:SD) (σ:St) (H:Hp) (x:V) (v:VL) (Q:VK),Inv X pins σ H s->RelV x v->r x H Q ->
  wpAny Ch X.A (f v) Tt X.xe s
def FZ(X:Cx)(f:VL)(r:List V->Hp->VK->Prop):Prop :=
 ∀(pins:Cu) (s:SD) (σ:St) (H:Hp) (xs:IZ) (us:LQ) (Q:VK),Inv X pins σ H s->Vals xs us->r xs H Q ->
  wpAny Ch X.A (call f us) Tt X.xe s
def fW(r:R2)(R g:TE):TE:=fun σ H Q=>R σ H fun x U=>g σ U fun y T=>r x y T Q
def yg(r:V->Hp->VK->Prop)(g:TE):TE:=fun σ H Q=>g σ H fun x R=>r x R Q
def rI(C:Int->Int->Prop)(g:Int->Int->V):R2:=fun x y H Q=>∃i j,x=.int i/\y=.int j/\C i j/\Q (g i j) H
def WL(g:Int->Int->V):R2:=fun x y H Q=>∃i j,x=.int i/\y=.int j/\Q (g i j) H
def rU(g:Int->V):V->Hp->VK->Prop:=fun x H Q=>∃i,x=.int i/\Q (g i) H
section
variable{X:Cx}{a b:Expr}{ta tb:TE}{pos:Pos}
def jh(ha:PE X a ta)(hb:PE X b tb){pins:Cu}{s:SD}{σ:St}{H:Hp}{R:V->V->Hp->Prop}(I:BY) (h:ta σ H fun x Y=>tb σ Y fun y g=>R x y g){Q:yz}{f:VL->VL->Sem VL} (hf:∀v u s2 x y g,Inv X pins σ g s2->RelV x v->RelV y u->R x y g->wpAny Ch X.A (f v u) Q X.xe s2):wpAny Ch X.A (eval a X.env) (fun v U=>wpAny Ch X.A (eval b X.env) (fun u T=>wpAny Ch X.A (f v u) Q X.xe T) X.xe U) X.xe s:=by
 refine BX (ha pins s σ H _ I h) fun v s1 ⟨x,Y,I1,r1,q1⟩=>?_;refine BX (hb pins s1 σ Y _ I1 q1) fun u s2 ⟨y,g,I2,Z,q2⟩=>?_;exact hf v u s2 x y g I2 r1 Z q2
def BW{op:Operator}{r:R2}(T:Dd X (binaryOp op) r)(ha:PE X a ta)(U:PE X b tb):PE X (.BinOp a op b pos) (fW r ta tb):=by
 intro pins s σ H Q I h;exact wpAny_BinOp (jh ha U I h fun v u s2 x y Z Y R g q=>T pins s2 σ Z x y v u Q Y R g q)
def ec{op:UnaryOp}{r:V->Hp->VK->Prop}(R:rZ X (unaryOp op) r)(ha:PE X a ta):PE X (.UnaryOp op a pos) (yg r ta):=by
 intro pins s σ H Q I h;exact UnaryOp_ (BX (ha pins s σ H _ I h) fun v s1 ⟨x,U,T,g,q1⟩=>R pins s1 σ U x v Q T g q1)
def cm{f:VL->VL->Sem VL}{C:Int->Int->Prop}{g:Int->Int->Int} (rule:∀(i j:Int) (t u:Tok) (s:SD) (Q:yz) (E:yz),C i j->Q (.int (g i j) s.toks) {s with toks:=s.toks+1}->wpAny Ch X.A (f (.int i t) (.int j u)) Q E s):Dd X f (rI C fun i j=>.int (g i j)):=by
 intro pins s σ H x y v u Q I U T h;obtain⟨i,j,rfl,rfl,Y,q⟩:=h;obtain⟨t,rfl⟩:=U;obtain⟨R,rfl⟩:=T;exact rule i j t R s _ _ Y ⟨.int (g i j),H,I.tok _,⟨_,rfl⟩,q⟩
def rq{f:VL->VL->Sem VL}{g:Int->Int->Int} (rule:∀(i j:Int) (t u:Tok) (s:SD) (Q:yz) (E:yz),Q (.int (g i j) s.toks) {s with toks:=s.toks+1}->wpAny Ch X.A (f (.int i t) (.int j u)) Q E s):Dd X f (WL fun i j=>.int (g i j)):=by
 intro pins s σ H x y v u Q I U T h;obtain⟨i,j,rfl,rfl,q⟩:=h;obtain⟨t,rfl⟩:=U;obtain⟨R,rfl⟩:=T;exact rule i j t R s _ _ ⟨.int (g i j),H,I.tok _,⟨_,rfl⟩,q⟩
def kE{f:VL->VL->Sem VL}{g:Int->Int->Bool} (rule:∀(i j:Int) (t u:Tok) (s:SD) (Q:yz) (E:yz),Q (.bool (g i j)) s->wpAny Ch X.A (f (.int i t) (.int j u)) Q E s):Dd X f (WL fun i j=>.bl (g i j)):=by
 intro pins s σ H x y v u Q I U T h;obtain⟨i,j,rfl,rfl,q⟩:=h;obtain⟨t,rfl⟩:=U;obtain⟨R,rfl⟩:=T;exact rule i j t R s _ _ ⟨.bl (g i j),H,I,rfl,q⟩
def xQ(i j:Int):Prop:=0<j/\j<1073741824
def yH(i j:Int):Prop:=0<=j/\j<=1000000/\i.natAbs<2^64
def Yd(i j:Int):Prop:=(-(2^64)<i/\i<2^64)\/(-(2^64)<j/\j<2^64)
def Yd.ok{i j:Int}(h:Yd i j):IntMulOk i j:=by
 rcases h with ⟨R,g⟩|⟨R,g⟩
 .exact .of_left (intBits_le_64 R g)
 .exact .of_right (intBits_le_64 R g)
def Qo:Dd X (binaryOp .Add) (WL fun i j=>.int (i+j)):=rq fun _ _ _ _ _ _ _ q=>add_int q
def XT:Dd X (binaryOp .Sub) (WL fun i j=>.int (i-j)):=rq fun _ _ _ _ _ _ _ q=>sub_int q
def Ht:Dd X (binaryOp .FloorDiv) (rI xQ fun i j=>.int (i / j)):=cm fun i j _ _ _ _ _ g q=>by
 have T:(0:Int)<j:=g.1;have R:j<1073741824:=g.2;exact floordiv_int AC (by rw[Int.fdiv_eq_ediv_of_nonneg i AC];exact q) (.inl (PyProof.noPylong_small AC))
def P5:Dd X (binaryOp .Mod) (rI (fun _ j=>0<j) fun i j=>.int (i % j)):=cm fun i j _ _ _ _ _ g q=>by
 have R:(0:Int)<j:=g;exact mod_int' AC (by rw[Int.fmod_eq_emod_of_nonneg i AC];exact q)
def Nf:Dd X (binaryOp .Mod) (rI (fun _ j=>j≠0) fun i j=>.int (i.fmod j)):=cm fun _ _ _ _ _ _ _ g q=>mod_int' g q
def p6:Dd X (binaryOp .Pow) (rI yH fun i j=>.int (i^j.toNat)):=cm fun _ _ _ _ _ _ _ g q=>pow_int_small g.1 g.2.1 g.2.2 q
def yn{f:VL->Sem VL}{g:Int->Int} (rule:∀(i:Int) (t:Tok) (s:SD) (Q:yz) (E:yz),Q (.int (g i) s.toks) {s with toks:=s.toks+1}->wpAny Ch X.A (f (.int i t)) Q E s):rZ X f (rU fun i=>.int (g i)):=by
 intro pins s σ H x v Q I R h;obtain⟨i,rfl,q⟩:=h;obtain⟨t,rfl⟩:=R;exact rule i t s _ _ ⟨.int (g i),H,I.tok _,⟨_,rfl⟩,q⟩
def Yj:rZ X (unaryOp .USub) (rU fun i=>.int (-i)):=yn fun _ _ _ _ _ q=>neg_int q
end
def so:V->V->Bool
 |.BP,.BP=>true|.BP,.int _=>true|.int _,.BP=>true|.BP,.bl _=>true|.bl _,.BP=>true|.BP,.str _=>true|.str _,.BP=>true
 |.int _,.int _=>true|.bl _,.bl _=>true|.str _,.str _=>true|.QM _,.QM _=>true
 |.int _,.str _=>true|.str _,.int _=>true|.bl _,.str _=>true|.str _,.bl _=>true
 |_,_=>false
def yq:R2:=fun x y H Q=>so x y=true/\Q (.bl (decide (x=y))) H
def yp:R2:=fun x y H Q=>so x y=true/\Q (.bl (!decide (x=y))) H
def cH{i j:Int}:decide (V.int i=V.int j)=(i==j):=by
 rw[Bool.eq_iff_iff];simp
def iZ{i j:Bool}:decide (V.bl i=V.bl j)=(i==j):=by
 rw[Bool.eq_iff_iff];simp
def cu{i j:Str}:decide (V.str i=V.str j)=(i==j):=by
 rw[Bool.eq_iff_iff];simp
def bq{i j:Array UInt8}:decide (V.QM i=V.QM j)=(i.toList==j.toList):=by
 rw[Bool.eq_iff_iff];cases i;cases j;simp
section
variable{X:Cx}{a b c:Expr}{ta tb:TE}{pos:Pos}
def Bl{pins:Cu}{σ:St}{H:Hp}{s:SD}{Q:VK}{k g:Bool}(I:BY)(q:Q (.bl k) H)(e:k=g):EP X pins σ Q (.bool g) s:=by
 subst e;exact⟨.bl k,H,I,rfl,q⟩
def Wx:Dd X (compareOp .Eq) yq:=by
 intro pins s σ H x y v u Q I U g h;obtain⟨T,q⟩:=h;cases x with
 |BP=>
  cases U;cases y with
  |BP=>cases g;exact PySem.EqNone.eq_none_none ii
  |bl j=>cases g;exact PySem.EqNone.eq_none_bool ii
  |int j=>obtain⟨R,rfl⟩:=g;exact PySem.EqNone.eq_none_int ii
  |str j=>obtain⟨R,rfl⟩:=g;exact PySem.EqNone.eq_none_str ii
  |_=>exact absurd (show false=true from T) aK
 |bl i=>
  cases U;cases y with
  |BP=>cases g;exact PySem.EqNone.eq_bool_none ii
  |bl j=>cases g;exact eq_bool (Bl I q iZ)
  |str j=>obtain⟨R,rfl⟩:=g;exact PySem.EqMixed.eq_bool_str ii
  |_=>exact absurd (show false=true from T) aK
 |int i=>
  obtain⟨t,rfl⟩:=U;cases y with
  |BP=>cases g;exact PySem.EqNone.eq_int_none ii
  |int j=>obtain⟨R,rfl⟩:=g;exact eq_int (Bl I q cH)
  |str j=>obtain⟨R,rfl⟩:=g;exact PySem.EqMixed.eq_int_str ii
  |_=>exact absurd (show false=true from T) aK
 |str i=>
  obtain⟨t,rfl⟩:=U;cases y with
  |BP=>cases g;exact PySem.EqNone.eq_str_none ii
  |bl j=>cases g;exact PySem.EqMixed.eq_str_bool ii
  |int j=>obtain⟨R,rfl⟩:=g;exact PySem.EqMixed.eq_str_int ii
  |str j=>obtain⟨R,rfl⟩:=g;exact eq_str (Bl I q cu)
  |_=>exact absurd (show false=true from T) aK
 |QM i=>
  obtain⟨t,rfl⟩:=U;cases y with
  |QM j=>obtain⟨R,rfl⟩:=g;exact PySem.W.eq_bytes (Bl I q bq)
  |_=>exact absurd (show false=true from T) aK
 |_=>cases y<;>exact absurd (show false=true from T) aK
def uZ:Dd X (compareOp .NotEq) yp:=by
 intro pins s σ H x y v u Q I U g h;obtain⟨T,q⟩:=h;cases x with
 |BP=>
  cases U;cases y with
  |BP=>cases g;exact PySem.EqNone.ne_none_none ii
  |bl j=>cases g;exact PySem.EqNone.ne_none_bool ii
  |int j=>obtain⟨R,rfl⟩:=g;exact PySem.EqNone.ne_none_int ii
  |str j=>obtain⟨R,rfl⟩:=g;exact PySem.EqNone.ne_none_str ii
  |_=>exact absurd (show false=true from T) aK
 |bl i=>
  cases U;cases y with
  |BP=>cases g;exact PySem.EqNone.ne_bool_none ii
  |bl j=>cases g;exact ne_bool (Bl I q (bM not iZ))
  |str j=>obtain⟨R,rfl⟩:=g;exact PySem.EqMixed.ne_bool_str ii
  |_=>exact absurd (show false=true from T) aK
 |int i=>
  obtain⟨t,rfl⟩:=U;cases y with
  |BP=>cases g;exact PySem.EqNone.ne_int_none ii
  |int j=>obtain⟨R,rfl⟩:=g;exact ne_int (Bl I q (bM not cH))
  |str j=>obtain⟨R,rfl⟩:=g;exact PySem.EqMixed.ne_int_str ii
  |_=>exact absurd (show false=true from T) aK
 |str i=>
  obtain⟨t,rfl⟩:=U;cases y with
  |BP=>cases g;exact PySem.EqNone.ne_str_none ii
  |bl j=>cases g;exact PySem.EqMixed.ne_str_bool ii
  |int j=>obtain⟨R,rfl⟩:=g;exact PySem.EqMixed.ne_str_int ii
  |str j=>obtain⟨R,rfl⟩:=g;exact ne_str (Bl I q (bM not cu))
  |_=>exact absurd (show false=true from T) aK
 |QM i=>
  obtain⟨t,rfl⟩:=U;cases y with
  |QM j=>obtain⟨R,rfl⟩:=g;exact PySem.W.ne_bytes (Bl I q (bM not bq))
  |_=>exact absurd (show false=true from T) aK
 |_=>cases y<;>exact absurd (show false=true from T) aK
def dY:Dd X (compareOp .Lt) (WL fun i j=>.bl (decide (i<j))):=kE fun _ _ _ _ _ _ _ q=>lt_int q
def UQ:Dd X (compareOp .Gt) (WL fun i j=>.bl (decide (j<i))):=kE fun _ _ _ _ _ _ _ q=>gt_int q
def vU:Dd X (compareOp .GtE) (WL fun i j=>.bl (decide (j<=i))):=kE fun _ _ _ _ _ _ _ q=>ge_int q
def uF:Dd X (compareOp .Is) (fun x y H Q=>y=.BP/\Q (.bl (decide (x=.BP))) H):=by
 intro pins s σ H x y v u Q I g R h;obtain⟨rfl,q⟩:=h;cases R;refine is_none_gen (Bl I q ?_);cases x<;>first
  |(cases g;rfl)
  |(obtain⟨t,rfl⟩:=g;rfl)
def nQ:Dd X (compareOp .IsNot) (fun x y H Q=>y=.BP/\Q (.bl (!decide (x=.BP))) H):=by
 intro pins s σ H x y v u Q I g R h;obtain⟨rfl,q⟩:=h;cases R;refine isnot_none_gen (Bl I q ?_);cases x<;>first
  |(cases g;rfl)
  |(obtain⟨t,rfl⟩:=g;rfl)
def Dd.or{f:VL->VL->Sem VL}{r T:R2}(h:Dd X f r)(h':Dd X f T):Dd X f (fun x y H Q=>r x y H Q\/T x y H Q):=by
 intro pins s σ H x y v u Q I R g q;rcases q with q|q
 .exact h pins s σ H x y v u Q I R g q
 .exact h' pins s σ H x y v u Q I R g q
def A5(b:Expr){op:CmpOp}(h:op≠.In:=by decide)(g:op≠.NotIn:=by decide):behindInMarks op b=false:=by
 have T:(op==CmpOp.In)=false:=by cases op<;>first|rfl|exact absurd rfl h
 have R:(op==CmpOp.NotIn)=false:=by cases op<;>first|rfl|exact absurd rfl g
 cases b<;>simp[behindInMarks,T,R]
def oM{op:CmpOp}{r:R2}(T:Dd X (compareOp op) r)(ha:PE X a ta)(U:PE X b tb)(hm:behindInMarks op b=false):PE X (.Compare a [op] [b] pos) (fW r ta tb):=by
 intro pins s σ H Q I h;exact wpAny_Compare1 (jh ha U I h fun v u s2 x y Z Y R g q=>T pins s2 σ Z x y v u Q Y R g q) hm
def vK(t:TE):TT:=fun σ H Q=>t σ H fun x H'=>∃k,x=.bl k/\Q k H'
def EY{op:CmpOp}{r:R2}(Z:Dd X (compareOp op) r)(ha:PE X a ta)(hb:PE X b tb)(hm:behindInMarks op b=false):PT X (.Compare a [op] [b] pos) (vK (fW r ta tb)):=by
 intro pins s σ H Q I h;refine wpAny_isTrue_Compare1 (BX (ha pins s σ H _ I h) fun v s1 ⟨x,H1,I1,T,q1⟩=>BX (hb pins s1 σ H1 _ I1 q1) fun u s2 ⟨y,H2,I2,R,Y⟩=>
  BX (Z pins s2 σ H2 x y v u _ I2 T R Y) fun c s3 ⟨z,H3,I3,g,k,e,U⟩=>?_) hm
 subst e;cases g;exact wpAny_truthy_bool ⟨H3,I3,U⟩
def NY:(sizeLine:Nat)<2^63:=by rw[sizeLine_eq];decide
def eg:Dd X (binaryOp .Add) (fun x y H Q=>∃i j,x=.str i/\y=.str j/\i.length+j.length<=sizeLine/\Q (.str (i++j)) H):=by
 intro pins s σ H x y v u Q I T R h;obtain⟨i,j,rfl,rfl,U,q⟩:=h;obtain⟨t,rfl⟩:=T;obtain⟨g,rfl⟩:=R;exact add_str (fun g tk=>⟨.str (i++j),H,I.tok _,⟨_,rfl⟩,q⟩) U
def vals1{x:V}{us:yy}(r:Vals [x] us):∃u,us=[u]/\RelV x u:=by
 cases r with
 |cons R g=>cases g;exact⟨_,rfl,R⟩
def Oo:FZ X (.builtin "abs") (fun xs H Q=>∃i,xs=[.int i]/\Q (.int (if i<0 then -i else i)) H):=by
 intro pins s σ H xs us Q I r h;obtain⟨i,rfl,q⟩:=h;obtain⟨u,rfl,t,rfl⟩:=vals1 r;exact call_abs_int fun u tk=>⟨.int (if i<0 then -i else i),H,I.tok _,⟨_,rfl⟩,q⟩
end
structure j7(h:Heap)(x dx C:Addr)(mA:Str->Option Value):Prop where
 obj:h.get? x=some (PySem.W.instObj C dx)
 ns:h.Ns1 dx mA
 ne:dx≠x
def il{h:Heap}{dx:AD}{mA:y0}(n:h.Ns1 dx mA):∃od,h.get? dx=some od/\∀name,PySem.W.lookIn name od=some (mA name):=by
 obtain⟨o,es,ep,T,hd,U,_,hm⟩:=n;refine⟨o,T,fun name=>?_⟩;have e:=hm name;unfold nsFind findBy at e;rw[<-Array.find?_toList]at e;unfold PySem.W.lookIn;rw[hd];dsimp only;split
 .rename_i y q;rw[q]at e;exact bM some e
 .rename_i q;rw[q]at e;have a:es.toList.any (·.refKey)=false:=by
   rw[List.any_eq_false];intro y R;obtain⟨z,t,g⟩:=U y (Array.mem_toList_iff.mp R);simp[DictEntry.refKey,g]
  have Y:¬es.toList.any (·.refKey)=true:=by rw[a];exact aK
  rw[if_neg Y];exact bM some e
def j7.look{h:Heap}{x dx C:AD}{mA:y0}(I:j7 h x dx C mA):∃od,PySem.W.InstAt h x (PySem.W.instObj C dx) C (some od)/\∀name,PySem.W.lookIn name od=some (mA name) :=
 let⟨od,g,R⟩:=il I.ns
 ⟨od,⟨I.obj,rfl,rfl,g⟩,R⟩
section
variable{P:F0b}{w:F0c}{H:Hp}{h:Heap}{a C dx:AD}{fs:List (Str×V)}
def oo(A9:GH P w H h)(e:H a=some (.ins C dx fs)):∃mA,j7 h a dx C mA/\(∀f,jS (fs.lookup f) (mA f))/\PySem.Within mA (fs.map M0)/\fs.length<=1000/\H dx=some (.own a):=by
 obtain⟨d,z,ne,ob,mA,n,r,q⟩:=(show EF P w H h a (.ins C dx fs) from A9 a _ e);exact⟨mA,⟨ob,n,ne⟩,r,q,z,d⟩
end
structure pP(K:Fg)(C:Addr):Prop where
 pg:PySem.W.plainGet K C Str.empty=true
 hd:PySem.W.hasDictIn K C=true
 po:PySem.W.plainOver K C=true
 sa:PySem.W.findIn K (.ref C) "__setattr__" = some (some (.builtin "object.__setattr__"))
def pP.get{K:Fg}{C:AD}(c:pP K C)(f:Str):PySem.W.plainGet K C f=true:=c.pg
section
variable{X:Cx}{pins:Cu}{σ:St}{H:Hp}{s:SD}{A:F0d}{E:yz}{Q:yz}{c:VL}{b:Bool}
inductive Jg(K:Fg)(H:Hp):V->Value->Prop where
 |BP:Jg K H .BP (.type "NoneType")
 |bl (x:Bool):Jg K H (.bl x) (.type "bool")
 |int (i:Int):Jg K H (.int i) (.type "int")
 |str (x:Str):Jg K H (.str x) (.type "str")
 |Zy (x:UInt64):Jg K H (.Zy x) (.type "float")
 |lst {a:Addr} {xs:IZ} (e:H a=some KB):Jg K H Hf (.type "list")
 |GL {a:Addr} {o:Obj} {xs:IZ} (e:H a=some (.GL o KB)):Jg K H Hf (.type "list")
 |tup {a:Addr} {xs:IZ} (e:H a=some Ke):Jg K H Hf Fk
 |dK {a:Addr} {kvs:List (Key×V)} (e:H a=some (.dK kvs)):Jg K H Hf (.type "dict")
 |dT {a:Addr} {kvs:List (List Key×V)} (e:H a=some (.dT kvs)):Jg K H Hf (.type "dict")
 |ins {a C dx:Addr} {fs:List (Str×V)} (e:H a=some (.ins C dx fs)) (cl:pP K C) (ha:PySem.W.findIn K (.ref C) "__class__" = some (some (.builtin "object.__class__")))
   (hn:PySem.W.specialIn K (.builtin "object.__class__") "__get__" = some (some (.builtin "getset_descriptor.__get__"))) (htk:PySem.W.takesIn K (.builtin "object.__class__")=some true)
   (hm:PySem.W.mroIn K C (.type "object")=some true):Jg K H Hf (.ref C)
def fT{x:V}{u t:VL}(I:BY)(g:RelV x u)(ty:Jg X.K H x t)(e:PySem.W.kitOne X.K t c=some b)(h:∀tk,Q (.bool b) {s with toks:=tk}):wpAny Ch A (call (.builtin "isinstance") [u,c]) Q E s:=by
 cases ty with
 |BP=>cases (show u=Value.none from g);exact bL PySem.W.kitx_none I.Kn True.intro e UV h
 |bl y=>cases (show u=Value.bool y from g);exact bL PySem.W.kitx_bool I.Kn True.intro e UV h
 |int i=>obtain⟨t,q⟩:=(show ∃t,u=Value.int i t from g);cases q;exact bL PySem.W.kitx_int I.Kn True.intro e UV h
 |str y=>obtain⟨t,q⟩:=(show ∃t,u=Value.str y t from g);cases q;exact bL PySem.W.kitx_str I.Kn True.intro e UV h
 |Zy y=>obtain⟨t,q⟩:=(show ∃t,u=Value.float y t from g);cases q;exact bL PySem.W.kitx_float I.Kn True.intro e UV h
 | @lst a xs ea=>
  cases (show u=Value.ref a from g);obtain⟨_,_,n,_,R⟩:=(show EF X.prog X.w H s.heap a KB from I.A9 a _ ea);exact bL PySem.W.kitx_list I.Kn ⟨_,R,rfl⟩ e UV h
 | @GL a ob xs ea=>
  cases (show u=Value.ref a from g);obtain⟨_,_,_,n,_,R⟩:=(show EF X.prog X.w H s.heap a (.GL ob KB) from I.A9 a _ ea);exact bL PySem.W.kitx_list I.Kn ⟨_,R,rfl⟩ e UV h
 | @tup a xs ea=>
  cases (show u=Value.ref a from g);obtain⟨_,_,_,p⟩:=(show EF X.prog X.w H s.heap a Ke from I.A9 a _ ea);obtain⟨o,R,T,_⟩:=p;exact bL PySem.W.kitx_tuple I.Kn ⟨o,R,T⟩ e UV h
 | @dK a kvs ea=>
  cases (show u=Value.ref a from g);obtain⟨_,_,vs,_,p⟩:=(show EF X.prog X.w H s.heap a (.dK kvs) from I.A9 a _ ea);obtain⟨o,es,ep,R,T,_⟩:=p;exact bL PySem.W.kitx_dict I.Kn ⟨o,R,T.1⟩ e UV h
 | @dT a kvs ea=>
  cases (show u=Value.ref a from g);obtain⟨_,_,xs,_,o,es,ep,R,T,_⟩:=(show EF X.prog X.w H s.heap a (.dT kvs) from I.A9 a _ ea);exact bL PySem.W.kitx_dict I.Kn ⟨o,R,T.1⟩ e UV h
 | @ins a C dx fs ea cl ha hn htk hm=>
  cases (show u=Value.ref a from g);obtain⟨mA,O,_⟩:=oo I.A9 ea;obtain⟨od,J,_⟩:=O.look;exact bL (PySem.W.kitx_own (cl.get _) cl.hd ha hn htk hm) I.Kn J e UV h
end
structure EN(k:Nat)(A:Around):Prop where
 hd:A.handled=none
 dp:A.depth+3*k+5<recursionLimit
 un:A.units+16*k+200<cLine
def EN.mono{j k:Nat}{A:F0d}(r:EN k A)(h:j<=k:=by decide):EN j A:=⟨r.hd,by have:=r.dp;lia,by have:=r.un;lia⟩
def EN.deeper{k:Nat}{A:F0d}(r:EN Pi A)(env:Env):EN k (A.deeper env) :=
 ⟨r.hd,by have:=r.dp;show A.depth+1+3*k+5<_;lia,by have:=r.un;show A.units+3+16*k+200<_;lia⟩
def EN.depth{k:Nat}{A:F0d}(r:EN k A):A.depth<recursionLimit:=by have:=r.dp;lia
def EN.units{k:Nat}{A:F0d}(r:EN k A):A.units+64<cLine:=by have:=r.un;lia
def xN:TA:=fun _ H Q=>Q [] H
def vw(R:TE)(g:TA):TA:=fun σ H Q=>R σ H fun x U=>g σ U fun xs T=>Q (x::xs) T
section
variable{X:Cx}{e:Expr}{es:zD}{te:TE}{t:TA}{pos:Pos}
def Ad:PA X [] xN:=fun _ _ _ _ H Q I h=>Calls.spliced_nil ⟨[],H,I,.nil,h⟩
def AM(ha:PE X e te)(Y:PA X es t)(U:starEach No X.env=Go::starEach es X.env:=by rfl):PA X No (vw te t):=by
 intro pos pins s σ H Q I h;rw[U];show wpAny _ _ (spliced (Go::backTo pos M5)) _ _ s;refine Calls.spliced_cons (BX (ha pins s σ H _ I h) fun u s1 ⟨x,H1,I1,R,q1⟩=>?_);exact BX (Y pos pins s1 σ H1 _ I1 q1) fun us s2 ⟨xs,H2,Z,g,T⟩=>⟨x::xs,H2,Z,.cons R g,T⟩
def xK(t:TA):TE:=fun σ H Q=>t σ H fun xs g=>xs.length<=sizeLine/\∀p,g p=none->Q (.ref p) (upd g p Ke)
def xP(t:TA):TE:=fun σ H Q=>t σ H fun xs g=>xs.length<=sizeLine/\∀p,g p=none->Q (.ref p) (upd g p KB)
def Kg{T}(h:PA X es t):PE X (.Tuple es T pos) (xK t):=by
 intro pins s σ H Q I U;refine wpAny_Tuple_spliced (BX (h pos pins s σ H _ I U) fun us s1 ⟨xs,R,g,r,z,q⟩=>⟨by rw[<-r.length];exact z,?_⟩);have Y:R s1.heap.objs.size=none:=g.A9.fresh Ql;refine⟨.ref s1.heap.objs.size,upd R s1.heap.objs.size Ke,g.laid (t':=s1.toks) (fun b u e=>aE _ e) Ql ?_,rfl,q _ Y⟩;exact⟨z,us,r,⟨_,Heap.get?_push_size _ rfl,rfl,_,rfl⟩⟩
def Hl(h:PA X es t):PE X (.List es pos) (xP t):=by
 intro pins s σ H Q I T;refine wpAny_List_spliced (BX (h pos pins s σ H _ I T) fun us s1 ⟨xs,R,g,r,z,q⟩=>⟨by rw[<-r.length];exact z,?_⟩);have U:R s1.heap.objs.size=none:=g.A9.fresh Ql;refine⟨.ref s1.heap.objs.size,upd R s1.heap.objs.size KB,g.laid (t':=s1.toks) (fun b u e=>aE _ e) Ql ?_,rfl,q _ U⟩;exact⟨z,us,0,r,Heap.get?_push_size _ rfl⟩
end
abbrev Sp:=List V->Hp->VK->XK->Prop
abbrev Iw:=List Env->Hp->SD->XK->VL->SD->Prop
structure eo(P:Program)(w:World)(K:Fg)(mg:Str->Option Value)(base:Heap)(A:Around)(outer:List Env)(s:Shared)(H:Hp):Prop where
 frames:A.frames=some outer
 mod:Mod K mg base
 bs:∀b o,base.get? b=some o->s.heap.get? b=some o/\H b=none
 Vb:base.objs.size<=s.heap.objs.size
 J5:s.heap.FunFrames base outer
 Vr:∀b∈IB outer,H b=none
 A9:GH P w H s.heap
 bare:AllBare s.gens
 kt:KTb mg H
def CE(outer:zN)(P:F0b)(w:F0c)(H:Hp)(s:SD)(Q:VK)(u:VL)(s':SD):Prop :=
 ∃v H',s'.os=s.os/\AllBare s'.gens/\Un (IB outer) [] H H' s.heap s'.heap/\GH P w H' s'.heap/\RelV v u/\Q v H'
def CR(CX:Iw)(outer:zN)(P:F0b)(w:F0c)(H:Hp)(s:SD)(Q:VK)(E:XK)(r:Result)(s':SD):Prop :=
 match r with
 |.ok (.ret u)=>CE outer P w H s Q u s'
 |.ok _=>False
 |.error e=>CX outer H s E e s'
structure AK(P:Program)(w:World)(K:Fg)(mg:Str->Option Value)(base:Heap)(CX:Iw)(k:Nat)(f:Addr)(fd:FuncData)(ps:List Str)(sp:Sp):Prop where
 len:∀vs H Q E,sp vs H Q E->vs.length=ps.length
 run:∀(A:Around) (outer:List Env) (s:Shared) (H:Hp) (args:Args) (us:List Value) (vs:IZ) (Q:VK) (E:XK),EN k A->eo P w K mg base A outer s H->BindsTo s fd args (ps.zip us)->Vals vs us->sp vs H Q E ->
  codeAny (model P w) A (.call (.ref f) args) (CR CX outer P w H s Q E) s
def AK.mono{P:F0b}{w:F0c}{K:Fg}{mg:y0}{base:Heap}{CX:Iw}{j k:Nat}{f:AD}{fd:F0a}{ps:zC}{sp:Sp}(F:AK P w K mg base CX j f fd ps sp)(h:j<=k:=by decide):AK P w K mg base CX k f fd ps sp:=⟨F.len,fun A outer s H args us vs Q E g=>F.run A outer s H args us vs Q E (g.mono h)⟩
def AK.imp{P:F0b}{w:F0c}{K:Fg}{mg:y0}{base:Heap}{CX:Iw}{k:Nat}{f:AD}{fd:F0a}{ps:zC}{sp g:Sp}(F:AK P w K mg base CX k f fd ps sp) (h:∀vs H Q E,g vs H Q E->sp vs H Q E):AK P w K mg base CX k f fd ps g :=
 ⟨fun vs H Q E q=>F.len vs H Q E (h _ _ _ _ q),fun A outer s H args us vs Q E U Y Z R T=>F.run A outer s H args us vs Q E U Y Z R (h _ _ _ _ T)⟩
section
variable{X:Cx}{pins:Cu}{σ:St}{H:Hp}{s s':SD}
def Inv.yM(I:BY):eo X.prog X.w X.K X.mg X.base X.A X.stack s H :=
 ⟨I.ok.frames,I.ok.mod,I.bs,Nat.le_trans I.ok.Vb I.sz,I.stack,I.VC,I.A9,I.bare,I.kt⟩
def Inv.after{Q:VK}{u:VL}(I:BY)(h:CE X.stack X.prog X.w H s Q u s'):EP X pins σ Q u s':=by
 obtain⟨v,H',os,bare,un,A9,r,q⟩:=h;obtain⟨T,g,d,t,R⟩:=s';obtain rfl:R=s.os:=os;exact⟨v,H',I.call (h':=T) (g':=g) (d':=d) (t':=t) (ch:=[]) un A9 bare (fun b z=>absurd z At),r,q⟩
end
def dy(sp:Sp)(g:zJ)(E:XK)(t:TA):TE:=fun σ H Q=>t σ H fun vs R=>sp (vs++g) R Q E
def Binds(K:Fg)(fd:F0a)(ps:zC)(ds:yy):Prop :=
 ∀(s:SD) (us:LQ),K.In s.heap->(us++ds).length=ps.length->BindsTo s fd ⟨us,[]⟩ (ps.zip (us++ds))
def Binds.all{K:Fg}{fd:F0a}{ps:zC}(h:∀us:yy,us.length=ps.length->bindArgs fd ⟨us,[]⟩=pure (ps.zip us)):Binds K fd ps []:=fun s us _ g=>by
 rw[(Qh)]at g ⊢;exact .of_eq (h us g)
def Passes(CX:Iw)(X:Cx)(E:XK):Prop:=∀(pins:Cu) (σ:St) (H:Hp) (s:SD) (e:VL) (s':SD),Inv X pins σ H s->CX X.stack H s E e s'->X.xe e s'
section
variable{X:Cx}{CX:Iw}{k:Nat}{f:AD}{fd:F0a}{ps:zC}{sp:Sp}{dvs:zJ}{ds:yy}{E:XK}{x:Str}{p pos:Pos}{e:Expr}{es:zD}{t:TA}
def tX{pins:Cu}{σ:St}{H:Hp}{s:SD}{Q:VK}{us:yy}{vs:zJ}(F:AK X.prog X.w X.K X.mg X.base CX k f fd ps sp)(U:EN k X.A)(Z:Binds X.K fd ps ds)(hd:Vals dvs ds)(T:Passes CX X E) (I:BY)(r:Vals vs us)(h:sp (vs++dvs) H Q E):wpAny Ch X.A (call (.ref f) us) Tt X.xe s:=by
 have R:Vals (vs++dvs) (us++ds):=r.append hd;have Y:(us++ds).length=ps.length:=by rw[<-R.length];exact F.len _ _ _ _ h
 refine wpAny_call (codeAny_mono (F.run X.A X.stack s H ⟨us,[]⟩ (us++ds) (vs++dvs) Q E U I.yM (Z s us I.Kn Y) R h) fun r s' g=>?_);cases r with
 |error e=>exact T pins σ H s e s' I g
 |ok fl=>
  cases fl with
  |ret u=>exact I.after g
  |next=>exact False.elim g
  |brk=>exact False.elim g
  |cont=>exact False.elim g
def Z1(F:AK X.prog X.w X.K X.mg X.base CX k f fd ps sp)(Y:EN k X.A)(hg:Gl X x)(hm:X.mg x=some (.ref f))(Z:PySem.W.keepIn X.K (.ref f)=true)(hb:Binds X.K fd ps ds)(hd:Vals dvs ds)(U:Passes CX X E) (ha:PA X No t)(R:GE=false:=by decide)(he:starEach No X.env=Go::starEach es X.env:=by rfl)(g:(backTo pos M5).any M0=false:=by rfl):PE X IN (dy sp dvs E t):=by
 intro pins s σ H Q I h;refine wpAny_Call_Name_kw (Ug I hg hm ?_ R);refine PySem.W.callWith_K (h₀:=X.base) I.ok.mod.US Z (BX OF fun us s1 ⟨vs,H1,T,r,q⟩=>⟨T.Kn,?_⟩) he g;exact tX F Y hb hd U T r q
end
structure Ac(N P:List Str)(sc:Scope):Prop where
 kind:sc.kind=.function
 co:sc.isCoroutine=false
 gen:sc.isGenerator=false
 nd:N.Nodup
 pre:N.take P.length=P
 par:∀x∈P,sc.names.lookup x=some .local\/sc.names.lookup x=some .cell
 su:∀y∈sc.names,y.2≠.free
def CG{N P:zC}{sc:Scope}(a:sc.kind=.function:=by rfl)(b:sc.isCoroutine=false:=by rfl)(c:sc.isGenerator=false:=by rfl)(d:N.Nodup:=by decide +kernel)(e:N.take P.length=P:=by rfl)(f:∀x ∈ P, sc.names.lookup x=some .local \/ sc.names.lookup x=some .cell:=by decide +kernel)(g:∀y ∈ sc.names, y.2 ≠ .free:=by decide +kernel):Ac N P sc:=⟨a, b, c, d, e, f, g⟩
theorem Vy{kindOf:Str->Option NameKind}{x:Str}:∀ {binds:List (Str×VL)} {m:Str->Option VL},(∀v,(x,v) ∉ binds)->bindL kindOf binds m x=m x
 |[],_,_=>rfl
 |(n,v)::r,m,h=>by
  unfold bindL;rw[Vy fun w g=>h w (aS _ g)];split
  .have:x≠n:=by rintro rfl;exact h v aX
   simp[this]
  .rfl
theorem V4{kindOf:Str->Option NameKind}{x:Str}:∀ {binds:List (Str×VL)} {m:Str->Option VL},(∀v,(x,v) ∉ binds)->bindC kindOf binds m x=m x
 |[],_,_=>rfl
 |(n,v)::r,m,h=>by
  unfold bindC;rw[V4 fun w g=>h w (aS _ g)];split
  .rfl
  .have:x≠n:=by rintro rfl;exact h v aX
   simp[this]
theorem Vj{kindOf:Str->Option NameKind}{x:Str}{v:VL}:∀ {P:List Str} {vs:LQ} {i:Nat} {m:Str->Option VL},P.Nodup->P[i]? = some x->vs[i]? = some v->kindOf x=some .local ->
  bindL kindOf (P.zip vs) m x=some v
 |[],_,_,_,_,h,_,_=>by simp at h
 |_::_,[],_,_,_,_,h,_=>by simp at h
 |p::P,w::vs,0,m,nd,R,g,T=>by
  simp at R g;subst R;subst g;show bindL kindOf ((p,w)::P.zip vs) m p=_;unfold bindL;rw[Vy fun v U=>(List.nodup_cons.mp nd).1 (List.of_mem_zip U).1,if_pos T];simp
 |p::P,w::vs,i+1,m,nd,R,g,T=>by
  show bindL kindOf ((p,w)::P.zip vs) m x=_;unfold bindL;exact Vj (i:=i) (List.nodup_cons.mp nd).2 (by simpa using R) (by simpa using g) T
theorem V5{kindOf:Str->Option NameKind}{x:Str}{v:VL}:∀ {P:List Str} {vs:LQ} {i:Nat} {m:Str->Option VL},P.Nodup->P[i]? = some x->vs[i]? = some v->kindOf x≠some .local ->
  bindC kindOf (P.zip vs) m x=some v
 |[],_,_,_,_,h,_,_=>by simp at h
 |_::_,[],_,_,_,_,h,_=>by simp at h
 |p::P,w::vs,0,m,nd,R,g,T=>by
  simp at R g;subst R;subst g;show bindC kindOf ((p,w)::P.zip vs) m p=_;unfold bindC;rw[V4 fun v U=>(List.nodup_cons.mp nd).1 (List.of_mem_zip U).1,if_neg T];simp
 |p::P,w::vs,i+1,m,nd,R,g,T=>by
  show bindC kindOf ((p,w)::P.zip vs) m x=_;unfold bindC;exact V5 (i:=i) (List.nodup_cons.mp nd).2 (by simpa using R) (by simpa using g) T
def start(N:zC)(vs:zJ):St:=vs.map some++List.replicate (N.length-vs.length) none
def DZ(CX:Iw)(P:F0b)(w:F0c)(K:Fg)(mg:y0)(base:Heap)(N:zC)(qual:Str)(scope:Scope)(f:AD)(cd:VL)(A:F0d)(outer:zN)(s:SD)(H:Hp)(E:XK):Cx where
 prog:=P
 w:=w
 K:=K
 mg:=mg
 base:=base
 A:=A.deeper Km
 N:=N
 s₀:=s
 H₀:=H
 env:=envOfC qual scope s.heap.objs.size f cd
 outer:=outer
 stack:=envOfC qual scope s.heap.objs.size f cd::outer
 ex:=[]
 calm:=true
 fn:=fun _=>true
 pn:=[]
 xe:=fun e s'=>wpAny (model P w) (A.deeper Km) (leaving Km e) (fun _ s''=>CX outer H s E e s'') (fun e' s''=>CX outer H s E e' s'') s'
def Xp{sc:Scope}{n:Nat}{x:Str}(h:sc.names.lookup x=some .cell):∃c,(cellsFrom n sc.names []).lookup x=some c:=by
 have q:=PySem.W.cellsFrom_some sc.names n [] (.inl h);exact Option.isSome_iff_exists.mp q
def gH{CX:Iw}{P:F0b}{w:F0c}{K:Fg}{mg:y0}{base:Heap}{N ps:zC}{qual:Str}{scope:Scope}{f:AD}{cd:VL}{A:F0d}{outer:zN}{s s1:SD}{H:Hp}{E:XK}{us:yy}{vs:zJ} (S:Ac N ps scope)(hd:A.handled=none)(R:eo P w K mg base A outer s H)(hl:vs.length=ps.length)(r:Vals vs us) (x:InCallC s s.heap.objs.size (bindL (envOfC qual scope s.heap.objs.size f cd).kindOf (ps.zip us) fun _=>none) (cellsFrom Ix scope.names []) (bindC (envOfC qual scope s.heap.objs.size f cd).kindOf (ps.zip us) fun _=>none) s1):Inv (DZ CX P w K mg base N qual scope f cd A outer s H E) [] (start N vs) H s1:=by
 have hpl:ps.length<=N.length:=by have:=bM List.length S.pre;rw[(II)]at this;lia
 obtain⟨h1,tk,rfl,hk⟩:=x.done;have T:∀b:AD,b ∉ (DZ CX P w K mg base N qual scope f cd A outer s H E).ex:=fun b z=>absurd (show b∈([]:List AD) from z) At;refine⟨⟨R.mod,S.kind,rfl,rfl,Nat.le_refl _,fun y z c h1 g=>?_,fun y U=>?_,fun y c _ h=>?_,fun _=>hd,Around.frames_deeper R.frames,.inr ⟨rfl,rfl⟩,fun b z=>absurd z (T b),R.bs,R.Vb,fun b _ _=>T b,fun b z=>absurd z (T b),R.J5,R.Vr,R.kt⟩,
  rfl,R.bare,Un.kept hk,⟨_,x.toInCall.ns,fun i y v h1 g h3=>?_⟩,fun y c h=>⟨_,x.cell y c h⟩,R.A9.fresh Ql,fun y c h=>?_,fun p Z=>absurd (show p∈([]:List (AD×Obj)) from Z) At,R.A9.kept hk,?_⟩
 .exact name_of_addr x.apart (PySem.mem_of_lookup h1) (PySem.mem_of_lookup g)
 .have U:scope.names.lookup y=some .cell\/scope.names.lookup y=some .free:=U;rcases U with U|U
  .exact Xp U
  .exact absurd rfl (S.su _ (PySem.mem_of_lookup U))
 .exact bD (x.above y c (PySem.mem_of_lookup h))
 .have hi:i<vs.length:=by
   unfold start at g;by_cases hi:i<vs.length
   .exact hi
   .rw[List.getElem?_append_right (by simpa using hi)]at g;rw[List.getElem?_replicate]at g;split at g<;>cases g
  have ha:vs[i]? = some v:=by
   unfold start at g;rw[List.getElem?_append_left (by simpa using hi),(CD)]at g;cases e:vs[i]? with
   |none=>rw[e]at g;cases g
   |some a=>rw[e]at g;cases g;rfl
  obtain⟨u,hu,rv⟩:=r.get ha;have Z:ps[i]? = some y:=by
   rw[<-S.pre,List.getElem?_take_of_lt AC];exact h1
  have Y:ps.Nodup:=by rw[<-S.pre];exact S.nd.sublist (List.take_sublist _ _)
  refine⟨u,rv,?_⟩;rcases S.par y (aN Z) with k|k
  .exact .inl ⟨k,Vj Y Z hu k⟩
  .obtain⟨c,e⟩:=Xp (n:=s.heap.objs.size+1) k;refine .inr ⟨.inl k,c,e,?_⟩;have q:=x.cell y c e;rw[V5 Y Z hu (by show scope.names.lookup y≠_;rw[k];decide)]at q;exact q
 .exact R.A9.fresh (bD (x.above y c (PySem.mem_of_lookup h)))
 .unfold start;show _=N.length;rw[(Gf),(BJ),List.length_replicate]
  lia
def lI{CX:Iw}{P:F0b}{w:F0c}{K:Fg}{mg:y0}{base:Heap}{k:Nat}{f:AD}{name qual:Str}{params:Arguments}{g:zM}{scope:Scope}{dV kV doc pm cdv ct oc:VL}{an od:Option AD} {osl:Array (Option VL)}{N ps:zC}{sp:Sp}(lk:K.lookup f=some ⟨oc,od,.func (PySem.W.fnOf name qual params g scope dV kV doc pm an cdv ct),osl⟩)(hcd:PySem.W.codeIn K cdv qual=true)(S:Ac N ps scope) (len:∀vs H Q E,sp vs H Q E->vs.length=ps.length) (U:∀(A:F0d) (outer:zN) (s:SD) (H:Hp) (vs:zJ) (Q:VK) (E:XK),EN k (A.deeper (envOfC qual scope s.heap.objs.size f cdv))->sp vs H Q E ->∃t,Jp (DZ CX P w K mg base N qual scope f cdv A outer s H E) g t/\t { nx:=fun _ H'=>Q .BP H',rt:=Q} (start N vs) H):AK P w K mg base CX Pi f (PySem.W.fnOf name qual params g scope dV kV doc pm an cdv ct) ps sp:=by
 refine⟨len,fun A outer s H args us vs Q E hr e0 hb r Z=>?_⟩;have hl:=len _ _ _ _ Z;have KX:K.In s.heap:=e0.mod.US.keeps fun b o e=>(e0.bs b o e).1;have lim:s.heap.NoLimit:=e0.mod.nolimit.keeps fun b o e=>(e0.bs b o e).1;have T:∀y∈ps.zip us,scope.names.lookup y.1=some .local\/(scope.names.lookup y.1=some .cell/\((cellsFrom Ix scope.names []).lookup y.1).isSome=true):=fun⟨n,v⟩ hy=>by
  rcases S.par n (List.of_mem_zip hy).1 with q|q
  .exact .inl q
  .exact .inr ⟨q,PySem.W.cellsFrom_some _ _ _ (.inl q)⟩
 refine codeAny_call_function hr.depth (KX _ _ lk) rfl S.co S.gen rfl (PySem.W.codeRec_of KX hcd) (hb _ _ _ _ ?_);refine wpAny_newFunctionEnv_cells S.kind T fun env he s1 x=>?_;subst he;refine⟨lim.keeps x.toInCall.keep,codeAny_func ?_⟩;obtain⟨t,ht,hq⟩:=U A outer s H vs Q E (hr.deeper _) Z;have I:Inv (DZ CX P w K mg base N qual scope f cdv A outer s H E) [] (start N vs) H s1:=gH S hr.hd e0 hl r x;refine ao (ht [] s1 (start N vs) H _ I hq) (fun fl s' Y=>?_) fun e s' Y=>Y;have fin:∀ {R:St} {H':Hp} {v:V} {u:VL},Inv (DZ CX P w K mg base N qual scope f cdv A outer s H E) [] R H' s'->RelV v u->Q v H'->CE outer P w H s Q u s' :=
  fun {R H' v u} J rv q=>⟨v,H',J.os,J.bare,J.base,J.A9,rv,q⟩
 cases fl with
 |ret u=>
  obtain⟨v,R,H',J,rv,q⟩:=Y;exact fin J rv q
 |next=>
  obtain⟨R,H',J,q⟩:=Y;exact fin (v:=V.BP) (u:=Value.none) J rfl q
 |brk=>
  obtain⟨_,_,_,q⟩:=Y;exact False.elim q
 |cont=>
  obtain⟨_,_,_,q⟩:=Y;exact False.elim q
section
variable{X:Cx}{x:Str}{p pos:Pos}{e:Expr}{es:zD}{t:TA}{id T:String}{r:List V->Hp->VK->Prop}
def wG(r:List V->Hp->VK->Prop)(t:TA):TE:=fun σ H Q=>t σ H fun vs g=>r vs g Q
def EA(hc:FZ X (.builtin id) r)(Z:Gl X x)(hm:X.mg x=none)(Y:bootBuiltins x=some (.builtin id))(ha:PA X No t)(hn:x ≠ "__name__":=by decide)(R:GE=false:=by decide) (he:starEach No X.env=Go::starEach es X.env:=by rfl)(g:(backTo pos M5).any M0=false:=by rfl):PE X IN (wG r t):=by
 intro pins s σ H Q I h;refine wpAny_Call_Name_kw (Gx I Z hm Y ?_ hn R);exact PyProof.Rows.callWith_builtin1 (BX OF fun us s1 ⟨vs,H1,I1,U,q1⟩=>hc pins s1 σ H1 vs us Q I1 U q1) he g
def V1(hc:FZ X (.type T) r)(Z:Gl X x)(hm:X.mg x=none)(Y:bootBuiltins x=some (.type T))(ha:PA X No t)(hn:x ≠ "__name__":=by decide)(R:GE=false:=by decide) (he:starEach No X.env=Go::starEach es X.env:=by rfl)(g:(backTo pos M5).any M0=false:=by rfl):PE X IN (wG r t):=by
 intro pins s σ H Q I h;refine wpAny_Call_Name_kw (Gx I Z hm Y ?_ hn R);exact ar (BX OF fun us s1 ⟨vs,H1,I1,U,q1⟩=>hc pins s1 σ H1 vs us Q I1 U q1) he g
end
end L2
namespace HT
open PySem PyProof.Rows
section
variable{prog:F0b}{w:F0c}{A:F0d}{E:yz}{s:SD}
def mf{t b:AD}{vs ws:yy}{Q:yz}(ht:IsTup s.heap t vs.toArray)(hb:IsTup s.heap b ws.toArray)(hv:vs≠[]) (h1:ws=[]->Q (.ref t) s)(h2:ws≠[]->Q Do {s with heap:=s.heap.push { cls:=.type "tuple",data:=.seq (vs++ws).toArray} }) (hsz:vs.length+ws.length<=sizeLine):wpAny AS A (binaryOp .Add (.ref t) (.ref b)) Q E s:=by
 obtain⟨⟨cls,dd,data,sl⟩,ho,hc,n,hd⟩:=id ht;obtain⟨⟨cls2,Y,data2,R⟩,g,U,n2,T⟩:=id hb;simp only at hc hd U T;subst hc hd U T;have e:vs.toArray++ws.toArray=(vs++ws).toArray:=by simp
 by_cases Z:ws=[]
 .exact concat_meets ⟨_,ho,rfl⟩ ⟨_,g,rfl⟩ noFill_tuple_add seq_tuple_add PySem.F.slot_tuple_add PySem.F.entry_tuple_add (PySem.F.args_tuple_add_2 _ _)
   (tuple_addW1 t b vs.toArray ws.toArray n n2 dd Y sl R (by simpa using hv) (by simp[Z])) ⟨ho,g,h1 Z⟩
 .refine concat_meets ⟨_,ho,rfl⟩ ⟨_,g,rfl⟩ noFill_tuple_add seq_tuple_add PySem.F.slot_tuple_add PySem.F.entry_tuple_add (PySem.F.args_tuple_add_2 _ _)
   (tuple_addW2 t b vs.toArray ws.toArray n n2 dd Y sl R (by simpa using hv) (by simpa using Z) (by rw[(Eb),(Eb)];exact hsz)) ⟨ho,g,?_⟩
  rw[e];exact h2 Z
def B6(n d:Nat):Option Int->Nat
 |none=>d
 |some v=>if v<0 then(v+(n:Int)).toNat else min v.toNat n
def xH(n d:Nat):B6 n d none=d:=rfl
def yN(n d k:Nat):B6 n d (some (k:Int))=min k n:=by
 show(if(k:Int)<0 then((k:Int)+(n:Int)).toNat else min (k:Int).toNat n)=min k n;rw[if_neg AC,(QI)]
def qg(n d:Nat)(hd:d<=n)(o:zF):B6 n d o<=n:=by
 cases o with
 |none=>exact hd
 |some v=>
  show(if v<0 then(v+(n:Int)).toNat else min v.toNat n)<=n;by_cases g:v<0
  .rw[if_pos g];lia
  .rw[if_neg g];exact Nat.min_le_right _ _
def Zu(v:Int)(n d:Nat):(if v<0 then max (v+(n:Int)) 0 else min v (n:Int))=((B6 n d (some v):Nat):Int):=by
 show(if v<0 then max (v+(n:Int)) 0 else min v (n:Int))=(((if v<0 then(v+(n:Int)).toNat else min v.toNat n):Nat):Int);by_cases g:v<0
 .simp only[if_pos g];lia
 .simp only[if_neg g];lia
def df(lo hi:zF)(n:Nat):Builtin.Slice.sliceAdjust lo hi 1 (n:Int)=(((B6 n 0 lo:Nat):Int),((B6 n n hi:Nat):Int)):=by
 have g:¬((1:Int)<0):=by lia
 unfold Builtin.Slice.sliceAdjust;simp only[g,if_false];refine Prod.ext ?_ ?_
 .cases lo with
  |none=>rfl
  |some v=>exact Zu v n 0
 .cases hi with
  |none=>rfl
  |some v=>exact Zu v n n
def er(i j:Nat):Builtin.Slice.slicePlaces (i:Int) (j:Int) 1=j-i:=by
 unfold Builtin.Slice.slicePlaces;have g:(1:Int) > 0:=by lia
 simp only[g,if_true,Int.ediv_one];split<;>lia
def UL{v:VL}{o:zF}{Q:Option Int->SD->Prop}(p:IsPart v o)(h:Q o s):wpAny AS A (Builtin.Slice.slicePartIndex v) Q E s:=by
 cases p with
 |none=>exact slicePart_none h
 |int i t=>exact slicePart_int h
def Sf{sl:AD}{U T:VL}{lo hi:zF}{n:Nat}{Q:Int×Int×Nat->SD->Prop}(hs:s.heap.IsSliceOf sl U T .none)(Z:IsPart U lo)(Y:IsPart T hi) (h:Q (((B6 n 0 lo:Nat):Int),1,B6 n n hi-B6 n 0 lo) s):wpAny AS A (Builtin.Slice.sliceApplied (.ref sl) (pure (n:Int))) Q E s:=by
 obtain⟨os,g,hcs,R⟩:=id hs;unfold Builtin.Slice.sliceApplied Builtin.Slice.sliceFields;refine Wb (Wb (ae g R (x:=U) rfl (Wb (ae g R (x:=T) rfl (Wb (ae g R (x:=.none) rfl Re))))));refine Wb (slicePart_none ?_);show wpAny _ _ (if((1:Int)==0)=true then _ else _) _ _ s;rw[if_neg AT];refine Wb (UL Z (Wb (UL Y (Wb Re))));show wpAny _ _ (match Builtin.Slice.sliceAdjust lo hi 1 (n:Int) with|(lo,hi)=>pure (lo,(1:Int),Builtin.Slice.slicePlaces lo hi 1)) _ _ s;rw[df lo hi n];show wpAny _ _ (pure (((B6 n 0 lo:Nat):Int),(1:Int),Builtin.Slice.slicePlaces ((B6 n 0 lo:Nat):Int) ((B6 n n hi:Nat):Int) 1)) _ _ s;rw[er];exact aA h
def kn(xs:Array VL)(i k:Nat):((List.range k).filterMap fun(m:Nat)=>xs[((i:Int)+(m:Int)*1).toNat]?).toArray=((xs.toList.drop i).take k).toArray:=by
 have e:(fun(m:Nat)=>xs[((i:Int)+(m:Int)*1).toNat]?)=fun m=>xs[i+m]? := by
  funext m
  have:((i:Int)+(m:Int)*1).toNat=i+m:=by lia
  rw[this]
 rw[e];have:=pick_run xs i k;rw[List.filterMap_map]at this;have g:((fun x=>xs[x]?) ∘ fun x=>i+x)=fun m=>xs[i+m]?:=rfl;rw[g]at this;rw[this]
def RA{t sl:AD}{items:Array VL}{vl vu:VL}{lo hi:zF}{Q:yz}(R:IsTup s.heap t items)(hs:s.heap.IsSliceOf sl vl vu .none)(pl:IsPart vl lo)(pu:IsPart vu hi) (hw:¬(B6 items.size 0 lo=0/\B6 items.size items.size hi=items.size)) (h:Q Do {s with heap:=s.heap.push { cls:=.type "tuple",data:=.seq ((items.toList.drop (B6 items.size 0 lo)).take Rz).toArray} }) (hsz:items.size<=sizeLine):wpAny AS A (getItem (.ref t) (.ref sl)) Q E s:=by
 have g:sizeOk (.seq ((items.toList.drop (B6 items.size 0 lo)).take Rz).toArray):=by
  show((items.toList.drop (B6 items.size 0 lo)).take Rz).toArray.size<=sizeLine;rw[(Eb),(II),List.length_drop,Array.length_toList]
  lia
 have hj:B6 items.size items.size hi<=items.size:=qg _ _ Ql hi;obtain⟨os,T,Y,hds⟩:=id hs;have Z:s.TypeIs (.ref sl) "slice" := ⟨os,T,Y⟩;unfold getItem
 try with_reducible refine aT ?_
 first|refine Wb Re|skip
 refine Wb (wpAny_sequenceKey R.typeIs AT ?_);refine Wb (aj (name:=Str.ofString "__getitem__") R.typeIs PyProof.Rows.slot_tuple_getitem
  (aa PyProof.Rows.slot_tuple_getitem R.typeIs entry_tuple_getitem ?_ (args_tuple_getitem _ _)))
 show wpAny _ _ (Builtin.Tuple.tupleItemsOf (.ref t)>>=_) _ _ s;refine Wb (tupleItemsOf_ R ?_);refine Wb (wpAny_typeOf Z ?_);rw[if_pos AT];refine Wb (Sf hs pl pu ?_);have U:¬((((B6 items.size 0 lo:Nat):Int)==0&&(1:Int)==1&&Rz==items.size)=true):=by
  intro q;rw[(Dk),(Dk)]at q;have q1:((B6 items.size 0 lo:Nat):Int)=0:=eq_of_beq q.1.1;have q2:B6 items.size items.size hi-B6 items.size 0 lo=items.size:=eq_of_beq q.2;exact hw ⟨by lia,by lia⟩
 show wpAny _ _ (if(((B6 items.size 0 lo:Nat):Int)==0&&(1:Int)==1&&Rz==items.size)=true then _ else _) _ _ s;rw[if_neg U,kn]
 first
  |exact Wb (m:=Builtin.Tuple.tupleExact _) (bA (aA ⟨_,rfl,wpAny_pure h⟩) g)
  |exact Wb (m:=Builtin.Tuple.tupleExact _) (bA (Wb (aA (aA ⟨_,rfl,wpAny_pure h⟩))) g)
  |exact Wb (Wb (m:=Builtin.Tuple.tupleExact _) (bA (aA (aA ⟨_,rfl,wpAny_pure h⟩)) g))
  |exact Wb (Wb (m:=Builtin.Tuple.tupleExact _) (bA (aA ⟨_,rfl,wpAny_pure h⟩) g))
end
end HT
namespace L2
open PySem PySem.Spec PyProof.Rows
abbrev TO:=St->Hp->(Option Int->Hp->Prop)->Prop
def PO(X:Cx)(e:Option Expr)(t:TO):Prop :=
 ∀(pins:Cu) (s:SD) (σ:St) (H:Hp) (Q:Option Int->Hp->Prop),Inv X pins σ H s->t σ H Q ->
  wpAny Ch X.A (evalPart e X.env) (fun u s'=>∃o H',Inv X pins σ H' s'/\IsPart u o/\Q o H') X.xe s
def mv:TO:=fun _ H Q=>Q none H
def uY(t:TE):TO:=fun σ H Q=>t σ H fun x g=>∃i,x=.int i/\Q (some i) g
def intsAre_of{ns:zA}:∀ {us:yy},Vals RW us->IntsAre us ns:=by
 induction ns with
 |nil=>intro us r;rw[List.map_nil]at r;cases r;exact .nil
 |cons n ns T=>
  intro us r;rw[(A2)]at r;cases r with
  |cons R g=>
   obtain⟨t,e⟩:=R;subst e;exact .cons n t (T g)
section
variable{X:Cx}{e:Expr}{te:TE}{lo hi:Option Expr}{tl th:TO}{pos p2:Pos}
def oC:PO X none mv:=by
 intro pins s σ H Q I h;rw[evalPart_none];exact aA ⟨none,H,I,.none,h⟩
def oP(h:PE X e te):PO X (some e) (uY te):=by
 intro pins s σ H Q I R;rw[evalPart_some];refine BX (h pins s σ H _ I R) fun u s1 ⟨x,U,T,g,q1⟩=>?_;obtain⟨i,rfl,q⟩:=q1;obtain⟨t,rfl⟩:=g;exact⟨some i,U,T,.int i t,q⟩
def XU(X:Cx)(r:V->Option Int->Option Int->Hp->VK->Prop):Prop :=
 ∀(pins:Cu) (s:SD) (σ:St) (H:Hp) (x:V) (v R g:VL) (lo hi:Option Int) (sl:AD) (Q:VK),Inv X pins σ H s->RelV x v->s.heap.IsSliceOf sl R g .none->IsPart R lo->IsPart g hi->r x lo hi H Q ->
  ∃T id,typeLookup (.type T) "__getitem__" = pure (some (.builtin id))/\s.TypeIs v T/\wpAny Ch X.A (getItem v (.ref sl)) Tt X.xe s
def XU.or{r U:V->Option Int->Option Int->Hp->VK->Prop}(h:XU X r)(h':XU X U):XU X (fun x lo hi H Q=>r x lo hi H Q\/U x lo hi H Q):=by
 intro pins s σ H x v R g lo hi sl Q I T hs Z Y q;rcases q with q|q
 .exact h pins s σ H x v R g lo hi sl Q I T hs Z Y q
 .exact h' pins s σ H x v R g lo hi sl Q I T hs Z Y q
def yS(r:V->Option Int->Option Int->Hp->VK->Prop)(te:TE)(tl th:TO):TE:=fun σ H Q=>te σ H fun x T=>tl σ T fun l R=>th σ R fun u g=>r x l u g Q
def jj{r:V->Option Int->Option Int->Hp->VK->Prop}(hr:XU X r)(he:PE X e te)(hl:PO X lo tl)(hu:PO X hi th):PE X (.Subscript e (.Slice lo hi none p2) pos) (yS r te tl th):=by
 intro pins s σ H Q I h;refine Subscript_ (BX (he pins s σ H _ I h) fun v s1 ⟨x,H1,I1,Z,q1⟩=>?_);refine wpAny_Slice (BX (hl pins s1 σ H1 _ I1 q1) fun U s2 ⟨l,H2,I2,pl,q2⟩=>BX (hu pins s2 σ H2 _ I2 q2) fun R g ⟨u,Y,I3,pu,q3⟩=>?_);rw[evalPart_none];refine aA ?_;have I4:Inv X pins σ Y db:=I3.kept (t':=g.toks) fun b ob q=>aE _ q;obtain⟨T,id,hT,ht,hg⟩:=hr pins db σ Y x v U R l u g.heap.objs.size Q I4 Z (Heap.IsSliceOf.new ..) pl pu q3;show wpAny Ch X.A (subscriptTail e (.Slice lo hi none p2) v (.ref g.heap.objs.size)) Tt X.xe db;exact tail_any (ops:=[.ref g.heap.objs.size,v]) ht hT hg (by with_unfolding_all rfl)
def QH(xs:zJ)(lo hi:zF):zJ:=(xs.drop (HT.B6 xs.length 0 lo)).take (HT.B6 xs.length xs.length hi-HT.B6 xs.length 0 lo)
def RY(xs:zJ)(lo hi:zF):(QH xs lo hi).length<=xs.length:=by
 unfold QH;rw[(II),List.length_drop]
 lia
def wj(K:Fg):V->Option Int->Option Int->Hp->VK->Prop:=fun x lo hi H Q=>∃a xs,x=.ref a/\BK K H a xs /\
 ¬(HT.B6 xs.length 0 lo=0/\HT.B6 xs.length xs.length hi=xs.length)/\∀p,H p=none->Q (.ref p) (upd H p (.tup (QH xs lo hi)))
def tF:XU X (wj X.K):=by
 intro pins s σ H x v vl vu lo hi sl Q I Y hs pl Z h;obtain⟨a,xs,rfl,hx,hw,q⟩:=h;cases Y;obtain⟨R,r,U,T⟩:=I.tuple hx;have g:R.toArray.size=xs.length:=by rw[(Eb)];exact r.length.symm
 refine⟨"tuple",_,PyProof.Rows.slot_tuple_getitem.lookup,U.typeIs,?_⟩;refine HT.RA U hs pl Z (by rw[g];exact hw) ?_ (by rw[g];exact T);rw[g];refine⟨.ref s.heap.objs.size,_,I.laid (t':=s.toks) (o:=.tup (QH xs lo hi)) (fun b ob q=>aE _ q) Ql ?_,rfl,q _ (I.A9.fresh Ql)⟩;exact⟨aU (RY xs lo hi) T,_,(r.drop (HT.B6 xs.length 0 lo)).take (HT.B6 xs.length xs.length hi-HT.B6 xs.length 0 lo),IsTup.new _ _⟩
def Vals.cQ{xs:zJ}{us:yy}(r:Vals xs us):us=[] ↔ xs=[]:=by
 cases r with
 |nil=>simp
 |cons _ _=>simp
end
def Rq(n:Nat)(i:Int):Option Nat:=if 0<=i then(if i<n then some i.toNat else none) else if -(n:Int)<=i then some (i+n).toNat else none
def ID{α:Type}(xs:List α)(i:Int):Option α:=(Rq xs.length i).bind fun j=>xs[j]?
def Z4{n:Nat}{i:Int}{j:Nat}(h:Rq n i=some j):seqIndex? i n=some j/\j<n/\-(n:Int)<=i/\i<n:=by
 unfold Rq at h;by_cases h0:0<=i
 .rw[if_pos h0]at h;by_cases g:i<n
  .rw[if_pos g]at h;have e:i.toNat=j:=af h;exact⟨by rw[seqIndex_of h0 g,e],by lia,by lia,g⟩
  .rw[if_neg g]at h;cases h
 .rw[if_neg h0]at h;by_cases g:-(n:Int)<=i
  .rw[if_pos g]at h;have e:(i+n).toNat=j:=af h;exact⟨by rw[seqIndex_neg AC g,e],by lia,g,by lia⟩
  .rw[if_neg g]at h;cases h
def Ui{α:Type}{xs:List α}{i:Int}{v:α}(h:ID xs i=some v):∃j,seqIndex? i xs.length=some j/\xs[j]? = some v/\j<xs.length/\-(xs.length:Int)<=i/\i<xs.length:=by
 unfold ID at h;cases e:Rq xs.length i with
 |none=>rw[e]at h;cases h
 |some j=>
  rw[e]at h;obtain⟨U,T,R,g⟩:=Z4 e;exact⟨j,U,h,T,R,g⟩
def Zw{α:Type}{xs:List α}{j:Nat}{v:α}(h:xs[j]? = some v):ID xs (j:Int)=some v:=by
 have g:j<xs.length:=(aD.mp h).1;have e:Rq xs.length (j:Int)=some j:=by
  unfold Rq;rw[if_pos AC,if_pos AC];simp
 unfold ID;rw[e];exact h
def jZ{α:Type}(xs:List α)(v:α):ID (xs++[v]) (-1)=some v:=by
 have g:(xs++[v]).length=xs.length+1:=by simp
 have e:Rq (xs++[v]).length (-1)=some xs.length:=by
  unfold Rq;rw[g,if_neg AT,if_pos AC]
  congr 1
  lia
 unfold ID;rw[e];show(xs++[v])[xs.length]? = some v;simp
def cD(b:Expr):Prop:=∀o i,subscripted b false o i=operate [o,i] (getItem o i)
def Rk(X:Cx)(r:R2):Prop :=
 ∀(value slice:Expr) (pins:Cu) (s:SD) (σ:St) (H:Hp) (x y:V) (v u:VL) (Q:VK),Inv X pins σ H s->RelV x v->RelV y u->r x y H Q ->
  subscripted slice false v u=operate [v,u] (getItem v u)->wpAny Ch X.A (subscriptTail value slice v u) Tt X.xe s
def rB(X:Cx)(id:String)(r:V->List V->Hp->VK->Prop):Prop :=
 ∀(pins:Cu) (s:SD) (σ:St) (H:Hp) (x:V) (xs:IZ) (v:VL) (us:LQ) (Q:VK),Inv X pins σ H s->RelV x v->Vals xs us->r x xs H Q ->
  wpAny Ch X.A (call (.builtin id) (v::us)) Tt X.xe s
section
variable{X:Cx}{a b:Expr}{ta tb:TE}{pos:Pos}
def Rk.or{r T:R2}(h:Rk X r)(h':Rk X T):Rk X (fun x y H Q=>r x y H Q\/T x y H Q):=by
 intro value slice pins s σ H x y v u Q I R g q U;rcases q with q|q
 .exact h value slice pins s σ H x y v u Q I R g q U
 .exact h' value slice pins s σ H x y v u Q I R g q U
def Fo{r:R2}(U:Rk X r)(ha:PE X a ta)(Y:PE X b tb)(T:cD b):PE X (.Subscript a b pos) (fW r ta tb):=by
 intro pins s σ H Q I h;exact Subscript_ (jh ha Y I h fun v u s2 x y H2 Z R g q=>U a b pins s2 σ H2 x y v u Q Z R g q (T _ _))
def qp(K:Fg):R2:=fun x y H Q=>∃p xs i v,x=.ref p/\y=.int i/\Aw K H p xs/\ID xs i=some v/\Q v H
def j9(K:Fg):R2:=fun x y H Q=>∃p xs i v,x=.ref p/\y=.int i/\BK K H p xs/\ID xs i=some v/\Q v H
def tq:R2:=fun x y H Q=>∃z i c,x=.str z/\y=.int i/\z.length<=sizeLine/\ID z.cps.toList i=some c/\Q (.str ⟨#[c]⟩) H
def Zr:Rk X (qp X.K):=by
 intro value slice pins s σ H x y v u Q I rx ry h Z;obtain⟨p,xs,i,z,rfl,rfl,hq,he,q⟩:=h;cases rx;obtain⟨t,rfl⟩:=ry;obtain⟨U,r,T,hz⟩:=I.list hq;obtain⟨j,g,h2,h3,h4,h5⟩:=Ui he;obtain⟨w,ew,R⟩:=r.get h2;have hl:=r.length;have hn:=NY;have fin:EP X pins σ Q w s:=⟨z,H,I,R,q⟩;by_cases h0:0<=i
 .have Y:i.toNat=j:=by
   rw[seqIndex_of h0 h5]at g;exact af g
  exact item_listR T.isList h0 AC (by rw[Y];simpa using ew) fin Z
 .have Y:(i+(U.toArray.size:Int)).toNat=j:=by
   rw[seqIndex_neg AC h4]at g;rw[(Eb),<-hl];exact af g
  exact subscriptTail_builtinR (x:=w) T.isList.typeIs slot_list_getitem.lookup
   (wpAny_getItem_list_neg (Q:=fun r s'=>r=w/\EP X pins σ Q r s') T.isList AC (by rw[(Eb)]<;>lia) AC (by rw[Y];simpa using ew) ⟨rfl,fin⟩) Z
def IT:Rk X (j9 X.K):=by
 intro value slice pins s σ H x y v u Q I U T h Z;obtain⟨p,xs,i,z,rfl,rfl,hq,he,q⟩:=h;cases U;obtain⟨t,rfl⟩:=T;obtain⟨Y,r,R,hz⟩:=I.tuple hq;obtain⟨j,h1,h2,h3,h4,h5⟩:=Ui he;obtain⟨w,ew,g⟩:=r.get h2;have hl:=r.length;have hn:=NY;have fin:EP X pins σ Q w s:=⟨z,H,I,g,q⟩;exact subscriptTail_builtinR (x:=w) R.typeIs slot_tuple_getitem.lookup
  (getItem_tuple (j:=j) (Q:=fun r s'=>r=w/\EP X pins σ Q r s') R AC AC (by rw[(Eb),<-hl];exact h1) (by simpa using ew) ⟨rfl,fin⟩) Z
def qB:Rk X tq:=by
 intro value slice pins s σ H x y v u Q I T R h U;obtain⟨z,i,c,rfl,rfl,hz,Z,q⟩:=h;obtain⟨t,rfl⟩:=T;obtain⟨t',rfl⟩:=R;obtain⟨j,g,h2,h3,h4,h5⟩:=Ui Z;have Y:z.cps.toList.length=z.length:=by simp[Str.length]
 rw[Y]at g h4 h5;have hn:=NY;exact tail_any (typeIs_str s z t) slot_str_getitem.lookup (getItem_str (c:=c) (by
  have e1:decide (i < -(2^63:Int))=false:=bF AC;have e2:decide (i >= 2^63)=false:=bF AC;rw[e1,e2,Bool.or_false]) (by rw[g];simpa using h2) ⟨.str ⟨#[c]⟩,H,I.tok _,⟨_,rfl⟩,q⟩) U
def yd(K:Fg):R2:=fun x y H Q=>qp K x y H Q\/j9 K x y H Q\/tq x y H Q
def sC:Rk X (yd X.K):=Zr.or (IT.or qB)
def dP(g:yy)(n j:Nat)(u:VL):Obj.mapSeq (·.setIfInBounds j u) { cls:=.type "list",data:=.seq g.toArray n}={ cls:=.type "list",data:=.seq (g.set j u).toArray n}:=by
 simp[Obj.mapSeq]
def Inv.lst{pins:Cu}{σ:St}{H:Hp}{s:SD}{p:AD}{xs:zJ}(I:BY)(h:H p=some KB):∃(g:yy) (n:Nat),Vals xs g/\s.heap.get? p=some { cls:=.type "list",data:=.seq g.toArray n}/\xs.length<=sizeLine:=by
 obtain⟨z,g,n,r,e⟩:=I.A9 p _ h;exact⟨g,n,r,e,z⟩
def Inv.uR{pins:Cu}{σ:St}{H:Hp}{s:SD}{p:AD}{xs ys:zJ}{g its':yy}{n R:Nat}{f:Obj->Obj}(I:BY)(h:H p=some KB) (U:s.heap.get? p=some { cls:=.type "list",data:=.seq g.toArray n})(T:f { cls:=.type "list",data:=.seq g.toArray n}={ cls:=.type "list",data:=.seq its'.toArray R})(r:Vals ys its')(hz:ys.length<=sizeLine)(t:Nat):Inv X pins σ (upd H p IR) {s with heap:=s.heap.update p f,toks:=t}:=by
 have e:(s.heap.update p f).get? p=some { cls:=.type "list",data:=.seq its'.toArray R}:=by
  rw[Heap.get?_update_self f U (by rw[T]<;>rfl),T]
 refine I.write (x:=p) (e:=p) (by rw[h];trivial) Rs (fun b u Y q=>(Heap.get?_update_other _ _ (Ne.symm Y)).trans q) ⟨_,e⟩ ?_;exact⟨hz,its',R,r,e⟩
def vh:V->V->V->Hp->(Hp->Prop)->Prop:=fun o i v H Q=>∃p xs k j,o=.ref p/\i=.int k/\H p=some KB/\Rq xs.length k=some j/\Q (upd H p (.lst (xs.set j v)))
def set_list:j5 X vh:=by
 intro pins s σ H o i v ov iv u Q I ro ri rv h;obtain⟨p,xs,k,j,rfl,rfl,Z,hj,q⟩:=h;cases ro;obtain⟨t,rfl⟩:=ri;obtain⟨g,n,r,T,hz⟩:=I.lst Z;obtain⟨R,h2,h3,h4⟩:=Z4 hj;have U:=r.length;have hn:=NY;have I':Inv X pins σ (upd H p (.lst (xs.set j v))) {s with heap:=s.heap.update p (Obj.mapSeq (·.setIfInBounds j u))} :=
  I.uR Z T (dP g n j u) (r.set rv j) (by rw[List.length_set];exact hz) s.toks
 by_cases h0:0<=k
 .have Y:k.toNat=j:=by
   rw[seqIndex_of h0 h4]at R;exact af R
  exact PySem.W.ki_setAt T h0 AC (by rw[(Eb),<-U];exact h4) (by rw[Y];exact⟨_,I',q⟩)
 .have Y:(k+(g.toArray.size:Int)).toNat=j:=by
   rw[seqIndex_neg AC h3]at R;rw[(Eb),<-U];exact af R
  exact PySem.W.ki_setBack T AC (by rw[(Eb),<-U];exact h3) AC (by rw[Y];exact⟨_,I',q⟩)
def XH(lo hi:zF)(n:Nat):(sliceBounds lo hi none n).1=((HT.B6 n 0 lo:Nat):Int)/\(sliceBounds lo hi none n).2.1=((HT.B6 n n hi:Nat):Int)/\(sliceBounds lo hi none n).2.2=1:=by
 refine⟨?_,?_,rfl⟩
 .cases lo with
  |none=>simp[sliceBounds,HT.B6]
  |some i=>
   simp only[sliceBounds,HT.B6,Option.getD_none,show(1:Int) > 0 by decide,if_true];by_cases h:i<0
   .simp only[h,if_true]<;>lia
   .simp only[h,if_false]<;>lia
 .cases hi with
  |none=>simp[sliceBounds,HT.B6]
  |some i=>
   simp only[sliceBounds,HT.B6,Option.getD_none,show(1:Int) > 0 by decide,if_true];by_cases h:i<0
   .simp only[h,if_true]<;>lia
   .simp only[h,if_false]<;>lia
def Wd(g:yy)(lo hi:zF):slicePick g.toArray lo hi none=((g.drop (HT.B6 g.length 0 lo)).take (HT.B6 g.length g.length hi-HT.B6 g.length 0 lo)).toArray:=by
 obtain⟨U,T,R⟩:=XH lo hi g.toArray.size;unfold slicePick;rw[U,T,R];simp only[sliceRange_one,pick_run,List.size_toArray]<;>rfl
def xj(K:Fg):V->Option Int->Option Int->Hp->VK->Prop:=fun x lo hi H Q=>∃a xs,x=.ref a/\Aw K H a xs/\∀p,H p=none->Q (.ref p) (upd H p (.lst (QH xs lo hi)))
def mx:XU X (xj X.K):=by
 intro pins s σ H x v vl vu lo hi sl Q I T hs Y U h;obtain⟨a,xs,rfl,hx,q⟩:=h;cases T;obtain⟨Z,r,R,hz⟩:=I.list hx;have g:=r.length;refine⟨"list",_,slot_list_getitem.lookup,R.isList.typeIs,?_⟩;refine wpAny_getItem_list_slice R.isList hs Y U .none At ?_ (by rw[(Eb)]<;>lia);rw[Wd,<-g];refine⟨.ref s.heap.objs.size,_,I.laid (t':=s.toks) (o:=.lst (QH xs lo hi)) (fun b ob q=>aE _ q) Ql ?_,rfl,q _ (I.A9.fresh Ql)⟩;exact⟨aU (RY xs lo hi) hz,_,0,(r.drop (HT.B6 xs.length 0 lo)).take (HT.B6 xs.length xs.length hi-HT.B6 xs.length 0 lo),Heap.get?_push_size _ rfl⟩
def LW:V->Bool
 |.BP=>true
 |.bl _=>true
 |.int _=>true
 |.str _=>true
 |_=>false
def Vu:V->V->Bool
 |.BP,.BP=>true
 |.bl a,.bl b=>a==b
 |.bl a,.int b=>(if a then 1 else 0)==b
 |.int a,.bl b=>a==(if b then 1 else 0)
 |.int a,.int b=>a==b
 |.str a,.str b=>a==b
 |_,_=>false
def rJ{A:F0d}{s:SD}{y x:V}{u v:VL}(T:RelV y u)(g:RelV x v)(Y:LW y=true)(U:LW x=true):SeqAt.EqAt A s u v (Vu y x):=by
 cases y with
 |BP=>
  cases T;cases x with
  |BP=>cases g;exact SeqAt.EqAt.same _
  |bl b=>cases g;exact SeqAt.EqAt.none_bool b
  |int b=>obtain⟨t,rfl⟩:=g;exact SeqAt.EqAt.none_int b t
  |str b=>obtain⟨t,rfl⟩:=g;exact SeqAt.EqAt.none_str b t
  |_=>exact absurd (show false=true from U) aK
 |bl a=>
  cases T;cases x with
  |BP=>cases g;exact SeqAt.EqAt.bool_none a
  |bl b=>cases g;exact SeqAt.EqAt.bool_bool a b
  |int b=>obtain⟨t,rfl⟩:=g;exact SeqAt.EqAt.bool_int a b t
  |str b=>obtain⟨t,rfl⟩:=g;exact SeqAt.EqAt.bool_str a b t
  |_=>exact absurd (show false=true from U) aK
 |int a=>
  obtain⟨R,rfl⟩:=T;cases x with
  |BP=>cases g;exact SeqAt.EqAt.int_none a R
  |bl b=>cases g;exact SeqAt.EqAt.int_bool a R b
  |int b=>obtain⟨t,rfl⟩:=g;exact SeqAt.EqAt.int_int a R b t
  |str b=>obtain⟨t,rfl⟩:=g;exact SeqAt.EqAt.int_str a R b t
  |_=>exact absurd (show false=true from U) aK
 |str a=>
  obtain⟨R,rfl⟩:=T;cases x with
  |BP=>cases g;exact SeqAt.EqAt.str_none a R
  |bl b=>cases g;exact SeqAt.EqAt.str_bool a R b
  |int b=>obtain⟨t,rfl⟩:=g;exact SeqAt.EqAt.str_int a R b t
  |str b=>obtain⟨t,rfl⟩:=g;exact SeqAt.EqAt.str_str a R b t
  |_=>exact absurd (show false=true from U) aK
 |_=>exact absurd (show false=true from Y) aK
def TX(x:V)(u:VL):Bool:=match u with
 |.none=>Vu .BP x
 |.bool b=>Vu (.bl b) x
 |.int i _=>Vu (.int i) x
 |.str z _=>Vu (.str z) x
 |_=>false
def gW{x y:V}{u:VL}(r:RelV y u)(f:LW y=true):TX x u=Vu y x:=by
 cases y with
 |BP=>cases r;rfl
 |bl b=>cases r;rfl
 |int i=>obtain⟨t,rfl⟩:=r;rfl
 |str z=>obtain⟨t,rfl⟩:=r;rfl
 |_=>exact absurd (show false=true from f) aK
theorem U6{x:V}:∀ {xs:IZ} {us:LQ},Vals xs us->xs.all LW=true->us.any (TX x)=xs.any fun y=>Vu y x
 |_,_,.nil,_=>rfl
 |y::xs,u::us,.cons r t,f=>by
  rw[List.all_cons,(Dk)]at f;rw[List.any_cons,List.any_cons,gW r f.1,U6 t f.2]
theorem Sl{A:F0d}{s:SD}{x:V}{v:VL}(R:RelV x v)(T:LW x=true):∀ {xs:IZ} {us:LQ},Vals xs us->xs.all LW=true->∀u∈us,SeqAt.EqAt A s u v (TX x u)
 |_,_,.nil,_=>fun u g=>by cases g
 |y::xs,u::us,.cons r t,f=>fun U g=>by
  rw[List.all_cons,(Dk)]at f;rcases aM.mp g with rfl|g
  .rw[gW r f.1];exact rJ r R f.1 T
  .exact Sl R T t f.2 U g
def lR(x:V)(xs:zJ):Bool:=xs.any fun y=>Vu y x
def wA(K:Fg)(neg:Bool):R2:=fun x y H Q=>∃p xs,y=.ref p/\(Aw K H p xs\/BK K H p xs)/\LW x=true/\xs.all LW=true/\Q (.bl (if neg then !lR x xs else lR x xs)) H
def YZ:Dd X (compareOp .NotIn) (wA X.K true):=by
 intro pins s σ H x y v u Q I Y ry h;obtain⟨p,xs,rfl,R,Z,fs,q⟩:=h;cases ry;rcases R with R|R
 .obtain⟨g,r,T,hz⟩:=I.list R;refine SeqAt.notIn_listAt (TX x) T.isList (fun w U=>Sl Y Z r fs w (by simpa using U)) ⟨.bl _,H,I,rfl,?_⟩;rw[show g.toArray.any (TX x)=g.any (TX x) by simp,U6 r fs];exact q
 .obtain⟨g,r,T,hz⟩:=I.tuple R;refine SeqAt.notIn_tupleAt (TX x) T (fun w U=>Sl Y Z r fs w (by simpa using U)) ⟨.bl _,H,I,rfl,?_⟩;rw[show g.toArray.any (TX x)=g.any (TX x) by simp,U6 r fs];exact q
def Jj:FZ X (.builtin "len") (fun xs H Q=>∃p ys,xs=[.ref p]/\(Aw X.K H p ys\/BK X.K H p ys)/\Q (.int ys.length) H):=by
 intro pins s σ H xs us Q I r h;obtain⟨p,ys,rfl,R,q⟩:=h;obtain⟨u,rfl,Z⟩:=vals1 r;cases Z;have hn:=NY;rcases R with R|R
 .obtain⟨Y,T,U,hz⟩:=I.list R;have g:=T.length;exact Calls.call_len_list U.isList (by simp only[List.size_toArray]<;>lia) ⟨.int ys.length,H,I.tok _,⟨s.toks+1,by rw[(Eb),g]⟩,q⟩
 .obtain⟨Y,T,U,hz⟩:=I.tuple R;have g:=T.length;exact len_tuple U (by simp only[List.size_toArray]<;>lia) ⟨.int ys.length,H,I.tok _,⟨s.toks+1,by rw[(Eb),g]⟩,q⟩
def FZ.or{f:VL}{r g:List V->Hp->VK->Prop}(h:FZ X f r)(h':FZ X f g):FZ X f (fun xs H Q=>r xs H Q\/g xs H Q):=by
 intro pins s σ H xs us Q I rs q;rcases q with q|q
 .exact h pins s σ H xs us Q I rs q
 .exact h' pins s σ H xs us Q I rs q
def WU:FZ X Fk (fun xs H Q=>∃p ys,xs=[.ref p]/\((Aw X.K H p ys/\∀l,H l=none->Q Rb (upd H l (.tup ys)))\/(BK X.K H p ys/\Q (.ref p) H))):=by
 intro pins s σ H xs us Q I r h;obtain⟨p,ys,rfl,h⟩:=h;obtain⟨u,rfl,rx⟩:=vals1 r;cases rx;rcases h with ⟨U,q⟩|⟨U,q⟩
 .obtain⟨g,R,T,Y⟩:=I.list U;have Z:=R.length;refine call_tuple_list T.isList (fun h' kp=>?_) (by simp only[List.size_toArray]<;>lia);have I1:Inv X pins σ H Op:=I.kept (t':=s.toks) kp;have I2:Inv X pins σ (upd H h'.objs.size (.tup ys)) {s with heap:=h'.push { cls:=.type "tuple",data:=.seq g.toArray} } :=
   I1.laid (t':=s.toks) (fun b o e=>aE _ e) Ql (show EF X.prog X.w _ _ _ (.tup ys) from⟨Y,g,R,IsTup.new _ _⟩)
  exact⟨.ref h'.objs.size,_,I2,rfl,q _ (I1.A9.fresh Ql)⟩
 .obtain⟨g,R,T,Y⟩:=I.tuple U;exact call_tuple_same T ⟨.ref p,H,I,rfl,q⟩
def wU(K:Fg)(T:String)(x:V)(H:Hp):Prop:=match x with
 |.str _=>T = "str"
 |.int _=>T = "int"
 |.ref p=>(T = "list" /\ ∃xs,Aw K H p xs)\/(T = "tuple" /\ ∃o,K.lookup p=some o/\o.cls=.type "tuple" /\ o.dict=none) \/
   (T = "dict" /\((∃kvs,H p=some (.dK kvs))\/∃kvs,H p=some (.dT kvs)))\/(T = "set" /\ ∃S n,H p=some (.set S n))
 |_=>False
def uQ{pins:Cu}{σ:St}{H:Hp}{s:SD}{T:String}{x:V}{v:VL}(I:BY)(r:RelV x v)(ty:wU X.K T x H):s.TypeIs v T/\∀a,v=.ref a->∃ob,s.heap.get? a=some ob/\ob.dict=none:=by
 cases x with
 |str z=>
  obtain⟨t,rfl⟩:=r;cases (show T = "str" from ty);exact⟨typeIs_str s z t,fun _ e=>nomatch e⟩
 |int i=>
  obtain⟨t,rfl⟩:=r;cases (show T = "int" from ty);exact⟨typeIs_int s i t,fun _ e=>nomatch e⟩
 |ref p=>
  cases r;rcases ty with ⟨rfl,xs,Z⟩|⟨rfl,o,g,hc,hd⟩|⟨rfl,g⟩|⟨rfl,S,n,g⟩
  .obtain⟨Y,_,U,_⟩:=I.list Z;refine⟨U.isList.typeIs,fun a e=>?_⟩;cases e;obtain⟨o,n,e,c,hd,_⟩:=U;exact⟨o,e,hd⟩
  .refine⟨⟨o,I.Kn p o g,hc⟩,fun a e=>?_⟩;cases e;exact⟨o,I.Kn _ o g,hd⟩
  .have z:∃o,s.heap.get? p=some o/\o.ExactDict:=by
    rcases g with ⟨kvs,g⟩|⟨kvs,g⟩
    .obtain⟨_,_,_,_,o,_,_,e,ex,_⟩:=I.A9 p _ g;exact⟨o,e,ex⟩
    .obtain⟨_,_,_,_,o,_,_,e,ex,_⟩:=I.A9 p _ g;exact⟨o,e,ex⟩
   obtain⟨o,e,ex⟩:=z;refine⟨⟨o,e,ex.1⟩,fun a R=>?_⟩;cases R;exact⟨o,e,ex.2.1⟩
  .obtain⟨o,_,_,_,e,ex,_⟩:=I.A9 p _ g;refine⟨⟨o,e,ex.1⟩,fun a R=>?_⟩;cases R;exact⟨o,e,ex.2.1⟩
 |_=>exact False.elim ty
def qO(K:Fg)(T:String)(r:V->List V->Hp->VK->Prop)(R:TE)(t:TA):TE:=fun σ H Q=>R σ H fun x g=>wU K T x g/\t σ g fun xs U=>r x xs U Q
variable{o e:Expr}{es:zD}{to:TE}{t:TA}{name:Str}{apos cpos:Pos}{T id:String}{r:V->List V->Hp->VK->Prop}
def Ic(pa:PlainAttrs T)(slot:Slot T name id)(Z:typeOf (.builtin id)=pure (.type "method_descriptor"))(hm:rB X id r)(ho:PE X o to)(ha:PA X No t) (U:attributeBase o name X.env (eval o X.env)=eval o X.env:=by rfl) (Y:((backTo cpos (starEach No X.env)).all (fun x=>!x.1)&&(backToKw cpos (keywordEach [] X.env)).all (fun x=>x.1.isSome) && decide ((e::es).length+([]:List Keyword).length+(if([]:List Keyword).isEmpty then 0 else 1)<30))=true:=by rfl) (R:(apos.endLine==cpos.line)=true:=by rfl)(hs:starEach No X.env=Go::starEach es X.env:=by rfl)(g:(backTo cpos M5).any M0=false:=by rfl):PE X (.Call (.Attribute o name apos) No [] cpos) (qO X.K T r to t):=by
 intro pins s σ H Q I h;refine wpAny_Call_method_late U Y R rfl (BX (ho pins s σ H _ I h) fun v s1 ⟨x,H1,I1,r1,ty,q1⟩=>?_);obtain⟨h1,h2⟩:=uQ I1 r1 ty;refine⟨T,id,pa,slot,Z,h1,h2,?_⟩;have hA:=ha cpos pins s1 σ H1 _ I1 q1;rw[hs]at hA ⊢;refine Calls.callWith_builtin (by show(false||(backTo cpos M5).any M0)=false;rw[g]<;>rfl) (Calls.evalArgs_plain ?_);exact BX hA fun us s2 ⟨vs,H2,I2,r2,q2⟩=>hm pins s2 σ H2 x vs v us Q I2 r1 r2 q2
end
def wB(X:Cx)(id:String)(r:V->List V->Hp->VK->Prop):Prop :=
 ∀(pins:Cu) (s:SD) (σ:St) (H:Hp) (x:V) (xs:IZ) (v:VL) (us:LQ) (Q:VK),Inv X pins σ H s->RelV x v->Vals xs us->r x xs H Q ->
  wpAny Ch X.A (call (.builtin id) (v::us)) Tt X.xe s
def Vals.one:∀ {x:V} {us:LQ},Vals [x] us->∃u,us=[u]/\RelV x u
 |_,_,.cons r .nil=>⟨_,rfl,r⟩
def Vals.two:∀ {x y:V} {us:LQ},Vals [x,y] us->∃u v,us=[u,v]/\RelV x u/\RelV y v
 |_,_,_,.cons r (.cons q .nil)=>⟨_,_,rfl,r,q⟩
def Vals.reverse{xs:zJ}{us:yy}(h:Vals xs us):Vals xs.reverse us.reverse:=by
 induction h with
 |nil=>exact .nil
 |cons r t g=>rw[List.reverse_cons,List.reverse_cons];exact Vals.append g (.cons r .nil)
theorem Vals.rep{xs:IZ}{us:LQ}(h:Vals xs us):∀k:Nat,Vals (List.replicate k xs).flatten (List.replicate k us).flatten
 |0=>.nil
 |k+1=>by
  rw[(SN),(SN),(U7),(U7)];exact Vals.append h (Vals.rep h k)
theorem foldl_rep(g:LQ):∀(k:Nat) (R:LQ),
  List.foldl (fun U T=>U++T) R.toArray (List.replicate k g.toArray)=(R++(List.replicate k g).flatten).toArray
 |0,R=>by simp
 |k+1,R=>by
  have e:R.toArray++g.toArray=(R++g).toArray:=by simp
  have Y:(R++g)++(List.replicate k g).flatten=R++(List.replicate Pi g).flatten:=by
   rw[(SN),(U7),(VI)]
  rw[<-Y,<-foldl_rep g k (R++g),<-e,(SN),List.foldl_cons]
section
variable{X:Cx}{pins:Cu}{σ:St}{H:Hp}{s:SD}{l:AD}{xs ys:zJ}
def Inv.qQ{g its':yy}{n:Nat}{f:Array VL->Array VL}{t':Nat}(I:BY)(Z:H l=some KB) (e:s.heap.get? l=some { cls:=.type "list",data:=.seq g.toArray n})(U:f g.toArray=its'.toArray)(R:Vals ys its')(hz:ys.length<=sizeLine):Inv X pins σ (upd H l IR) {s with heap:=s.heap.update l (Obj.mapSeq f),toks:=t'}:=by
 have q:=PySem.IsL.update e f;rw[U]at q;refine I.write (x:=l) (e:=l) (by rw[Z];exact trivial) Rs (fun b' u Y T=>(Heap.get?_update_other s.heap (Obj.mapSeq f) (Ne.symm Y)).trans T) ⟨_,q⟩ ?_;exact⟨hz,its',_,R,q⟩
def Inv.rh{g:yy}{t':Nat}(I:BY)(R:Vals ys g)(hz:ys.length<=sizeLine):Inv X pins σ (upd H s.heap.objs.size IR) {s with heap:=s.heap.push { cls:=.type "list",data:=.seq g.toArray},toks:=t'} :=
 I.laid (fun _ _ q=>aE _ q) Ql ⟨hz,g,0,R,Heap.get?_push_size _ rfl⟩
def Inv.fresh(I:BY):H s.heap.objs.size=none:=I.A9.fresh Ql
def Inv.Uu(I:BY)(R:H l=some KB):xs.length<=sizeLine/\∃(g:yy) (n:Nat),Vals xs g/\xs.length=g.length/\s.heap.get? l=some { cls:=.type "list",data:=.seq g.toArray n}:=by
 obtain⟨z,g,n,r,e⟩:=I.A9 l _ R;exact⟨z,g,n,r,r.length,e⟩
def Y4{n:Nat}(h:n<=sizeLine):Builtin.List.listTooLong n=false:=by
 unfold Builtin.List.listTooLong;exact bF AC
end
section
variable{X:Cx}
def cI:V->List V->Hp->VK->Prop:=fun x vs H Q=>∃l xs y,x=.ref l/\vs=[y]/\H l=some KB/\xs.length<sizeLine/\Q .BP (upd H l (.lst (xs++[y])))
def Gb:wB X "list.append" cI:=by
 intro pins s σ H x vs v us Q I U Y h;obtain⟨l,xs,y,rfl,rfl,T,hz,q⟩:=h;cases U;obtain⟨u,rfl,Z⟩:=Y.one;obtain⟨z,g,n,r,hl,e⟩:=I.Uu T;refine call_meets F.slot_list_append ⟨_,e,rfl⟩ F.entry_list_append (F.args_list_append_2 _ _) (PySem.list_append l g.toArray n u (by rw[(Eb)];lia)) ⟨e,?_⟩;refine⟨.BP,_,I.qQ (its':=g++[u]) T e At (r.append (.cons Z .nil)) ?_,rfl,q⟩;rw[(Gf),List.length_singleton]
 lia
def cN:V->List V->Hp->VK->Prop:=fun x vs H Q=>∃l b xs g,x=.ref l/\vs=[.ref b]/\H l=some KB/\H b=some (.lst g)/\xs.length+g.length<=sizeLine/\Q .BP (upd H l (.lst (xs++g)))
def QW:wB X "list.extend" cN:=by
 intro pins s σ H x vs v us Q I rx rv h;obtain⟨l,b,xs,zs,rfl,rfl,Z,hB,hz,q⟩:=h;cases rx;obtain⟨u,rfl,ru⟩:=rv.one;cases ru;obtain⟨z,R,n,r,hl,e⟩:=I.Uu Z;obtain⟨z2,g,n2,r2,hl2,e2⟩:=I.Uu hB;have U:R.toArray.size+g.toArray.size<=sizeLine:=by rw[(Eb),(Eb)];lia
 have T:¬(!R.toArray.isEmpty&&Builtin.List.listTooLong (R.toArray.size+g.toArray.size))=true:=by
  rw[Y4 U,Bool.and_false];exact aK
 refine call_meets F.slot_list_extend ⟨_,e,rfl⟩ F.entry_list_extend (F.args_list_extend_2 _ _)
  (AutoSeq1.list_extend_list_list_0 l R.toArray n b g.toArray n2 T (by rw[(Eb)];lia) AC) ⟨e,e2,?_⟩
 refine⟨.BP,_,I.qQ (its':=R++g) Z e At (r.append r2) ?_,rfl,q⟩;rw[(Gf)]
 lia
def xl:R2:=fun x y H Q=>∃l b xs g,x=.ref l/\y=.ref b/\H l=some KB/\H b=some (.lst g)/\xs.length+g.length<=sizeLine/\∀p,H p=none->Q (.ref p) (upd H p (.lst (xs++g)))
def jC:Dd X (binaryOp .Add) xl:=by
 intro pins s σ H x y v u Q I U T h;obtain⟨l,b,xs,zs,rfl,rfl,hH,hB,hz,q⟩:=h;cases U;cases T;obtain⟨z,R,n,r,hl,e⟩:=I.Uu hH;obtain⟨z2,g,n2,Y,Z,e2⟩:=I.Uu hB;refine PySem.P.add_list e e2 ?_ (by rw[(Eb),(Eb)];lia);have ea:R.toArray++g.toArray=(R++g).toArray:=by simp
 rw[ea];exact⟨.ref _,_,I.rh (t':=s.toks) (r.append Y) (by rw[(Gf)];lia),rfl,q _ I.fresh⟩
def yK:R2:=fun x y H Q=>∃l k xs,x=.ref l/\y=.int k/\H l=some KB/\-(2^63)<=k/\k<2^63/\xs.length*k.toNat<=sizeLine /\
 ∀p,H p=none->Q (.ref p) (upd H p (.lst (List.replicate k.toNat xs).flatten))
def len_rep{α:Type}(xs:List α)(k:Nat):(List.replicate k xs).flatten.length=k*xs.length:=by
 induction k with
 |zero=>simp
 |succ k g=>rw[(SN),(U7),(Gf),g,Nat.succ_mul,Nat.add_comm]
def iq:Dd X (binaryOp .Mult) yK:=by
 intro pins s σ H x y v u Q I rx ry h;obtain⟨l,k,xs,rfl,rfl,hH,h1,h2,hz,q⟩:=h;cases rx;obtain⟨t,rfl⟩:=ry;obtain⟨z,g,n,r,hl,e⟩:=I.Uu hH;have Z:g.toArray.size*k.toNat<=sizeLine:=by rw[(Eb),<-hl];exact hz
 have hcap:¬g.toArray.size*k.toNat > (2^63-1) / 8:=by
  have:(sizeLine:Nat)<=(2^63-1) / 8:=by decide
  lia
 have hfit:¬(!Builtin.List.listFitsIndex k)=true:=by
  rw[fitsIndex_both h1 h2];exact aK
 have R:¬Builtin.List.listTooLong (g.toArray.size*k.toNat)=true:=by
  rw[Y4 Z];exact aK
 have Y:List.foldl (fun x1 x2=>x1++x2) #[] (List.replicate (if g.toArray.isEmpty=true then 0 else k.toNat) g.toArray)=(List.replicate k.toNat g).flatten.toArray:=by
  have f0:∀m:Nat,List.foldl (fun x1 x2=>x1++x2) #[] (List.replicate m g.toArray)=(List.replicate m g).flatten.toArray:=fun m=>by
   have:=foldl_rep g m [];rw[List.nil_append]at this;exact this
  rw[f0];cases g with
  |nil=>simp
  |cons a r'=>rw[if_neg At]
 refine wpAny_binaryOp_repeat_ref (T := "list") (U := "int") AT ⟨_,e,rfl⟩ (fun s'=>typeIs_int s' k t) noFill_list_mul F.fills_int_mul F.slot_int_rmul repeat_list F.slot_int_index.lookup
  (call_meets F.slot_int_rmul (typeIs_int s k t) F.entry_int_rmul (F.args_int_rmul_2 _ _) (int___rmul___int_list k t l g.toArray n)
   ⟨e,rfl,⟨_,e,rfl⟩,call_meets F.slot_list_mul ⟨_,e,rfl⟩ F.entry_list_mul (F.args_list_mul_2 _ _) (AutoListH.list___mul___list_int_3 l g.toArray n k t hfit hcap R) ⟨e,?_⟩⟩)
 rw[Y];exact⟨.ref _,_,I.rh (t':=s.toks) (r.rep k.toNat) (by rw[len_rep,Nat.mul_comm];exact hz),rfl,q _ I.fresh⟩
end
end L2
namespace Att
open PySem PySem.W PySem.Calls PyProof.Rows
def Ti{P:Params}{h:Heap}:∀(ns:zA) (vs:yy),WellAll P h vs (ns.map WData.int)->IntsAre vs ns:=by
 intro ns
 induction ns with
 |nil=>
  intro vs w;rw[List.map_nil]at w;cases w;exact .nil
 |cons n ns g=>
  intro vs w;rw[(A2)]at w;cases w with
  |cons a b=>
   cases a;exact .cons _ _ (g _ b)
def gV{l:OpenLaw}{n:Nat}(hn:l.most=some n){P:Params}{h:Heap}{args:List WData}{vals:yy} (g:l.row.toRowW.claim.pre args=true)(Z:WellAll P h vals args):∃a vs ns,vals=[Value.ref a]/\args=[WData.list (ns.map WData.int)]/\h.get? a=some { cls:=.type "list",data:=.seq vs.toArray}/\IntsAre vs ns/\ns.length<=n:=by
 have hsh:WShape.hasAll [] args [.list .int]=true:=(pre_splitW g).1;have hc:l.pre.holds [] { args:=args}=true:=(pre_splitW g).2;obtain⟨d,r,rfl,h1,h2⟩:=hasAllW_cons hsh;obtain rfl:=hasAllW_nil h2;obtain⟨xs,rfl,h3⟩:=hasW_list h1;obtain⟨ns,rfl⟩:=items_int h3;have R:ns.length<=n:=by
  unfold OpenLaw.pre at hc;have Y:(WTm.not (.lt (.lit (.int (n:Int))) (.len (.arg 0)))).holds [] { args:=[.list (ns.map .int)]}=true:=by
   have Y:=(holds_andW hc).1;rw[hn]at Y;exact Y
  have U:=condW_of Y (w_not (w_lt w_lit (w_len_list (w_arg rfl))));rw[(BJ)]at U;refine Nat.le_of_not_lt fun q=>?_;have q':(n:Int)<((ns.length:Nat):Int):=by lia
  first
   |(rw[decide_eq_true q']at U;exact absurd U AT)
   |(simp at U;lia)
 cases Z with
 |cons w1 w2=>
  cases w2;cases w1 with
  |list ho T=>exact⟨_,_,ns,rfl,rfl,ho,Ti ns _ T,R⟩
def i5(l:OpenLaw)(args:List WData):l.row.toRowW.claim.post args Jq args=true :=
 postW_of (r:=l.row.toRowW) (X:=(true==true))
  (show WShape.has [] Jq .bool=true by first|rfl|decide|simp[WShape.has,WShape.arms,WShape.armsAll])
  (show(WTm.eq .res (.lit Jq)).value [] { args:=args,res:=some Jq,after:=args}=some (.bool (true==true)) from w_eq_bool (w_res rfl) w_lit) rfl
def ZY{l:OpenLaw}{n:Nat}{q:F0b}{loose:zC}{XP:(y0)->Heap->Prop}{YP:F0c->Heap->Prop}{d:DefRec} (hn:l.most=some n)(hdf:d.params.defaults=[]) (call:∀(w:F0c) (s₀ g:SD) (mg mb:y0) (Z:AD) (o:Obj) (pm cd doc:VL) (a:AD) (vs:yy) (ns:zA),Ground q loose [] XP w s₀ mg mb g.heap->YP w g.heap ->g.heap.get? Z=some o->o.data=.func (docDef d.name d.params d.body d.scope pm cd doc)->g.heap.CodeRec cd d.name->mg d.name=some (.ref Z) ->g.heap.get? a=some { cls:=.type "list",data:=.seq vs.toArray}->IntsAre vs ns->ns.length<=n->g.gens=#[] ->codeAny (model l.prog w) callerA (.call (.ref Z) ⟨[.ref a],[]⟩) lX g):WalkO q loose XP YP l.row.toRowW d [] (fun f vs=>PySem.call f vs):=by
 intro w s₀ g mg mb G Y Z o pm cd doc dV kV ho hd hcd hD hmg hg args vals as R hlay hrd hwl hlo;obtain rfl:dV=.none:=Dflts.none hD hdf;obtain rfl:kV=.none:=Dflts.noKw hD;obtain⟨a,vs,ns,rfl,rfl,T,hints,U⟩:=gV hn R hwl;refine enter_call (codeAny_mono (call w s₀ g mg mb Z o pm cd doc a vs ns G Y ho (fd_plain hd) hcd hmg T hints U hg) fun r s' hq=>?_);obtain⟨rfl,h2,h3,h4⟩:=hq;exact⟨.inl ⟨.bool true,.bool true,[],rfl,fun _=>rfl,.bool true,i5 l _,fun _=>⟨List.Pairwise.nil,fun _ hm=>(nomatch hm)⟩⟩,h2,h3,h4⟩
end Att
namespace L2
open PySem PySem.Spec PyProof.Rows
theorem V8:∀ {vs:LQ} {ns:List Int},IntsAre vs ns->Vals RW vs
 |_,_,.nil=>.nil
 |_,_,.cons n t h=>.cons ⟨t,rfl⟩ (V8 h)
def kP(H:Hp):Prop:=∀b,H b=none\/∃o xs,H b=some (.GL o KB)
def ju{P:F0b}{w:F0c}{K:Fg}{mg mb:y0}{CX:Iw}{k:Nat}{fa a:AD}{fd:F0a}{x:Str}{sp:Sp}{g:SD}{vs:yy}{ns:zA} (KX:K.In g.heap)(hns:g.heap.Ns mainGlobals mg)(R:g.heap.Ns builtinsNs mb)(hbb:∀x:Str,x ≠ "__name__" -> mb x=bootBuiltins x)(hlim:g.heap.NoLimit)(hg:g.gens=#[]) (ha:g.heap.get? a=some { cls:=.type "list",data:=.seq vs.toArray})(hi:IntsAre vs ns)(hl:ns.length<=sizeLine)(hr:EN k callerA)(hkt:∀H,KTb mg H) (F:∀base:Heap,K.In base->base.Ns mainGlobals mg->AK P w K mg base CX k fa fd [x] sp)(U:∀(s:SD) (u:VL),BindsTo s fd ⟨[u],[]⟩ [(x,u)]) (hsp:∀H:Hp,kP H->Aw K H a RW->sp [.ref a] H (fun v _=>v=.bl true) fun _ _ _=>False) (hCX:∀H e s',CX [] H g (fun _ _ _=>False) e s'->False):codeAny (model P w) callerA (.call (.ref fa) ⟨[.ref a],[]⟩) lX g:=by
 have rv:=V8 hi;have Z:=hi.length;have core:∀H:Hp,kP H->Aw K H a RW->GH P w H g.heap->(∀b,H b≠none->b=a)->(H a≠none->K.lookup a=none) ->
   codeAny (model P w) callerA (.call (.ref fa) ⟨[.ref a],[]⟩) lX g:=by
  intro H hO hS A9 hA hK;have base_of:∀ {b:AD} {o:Obj},g.heap.get? b=some o->H b=none->(Ot g.heap H).get? b=some o:=fun e n=>jg e n;have noA:∀ {b:AD} {o:Obj} {es:Array DictEntry} {ep:Nat},g.heap.get? b=some o->o.data=.dict es ep->H b=none:=fun {b o es ep} e d=>by
   cases q:H b with
   |none=>rfl
   |some u=>
    have e':b=a:=hA b (by rw[q];simp);subst e';rw[ha]at e;cases e;have d':Data.seq vs.toArray _=Data.dict es ep:=d;cases d'
  have T:∀ {b:AD} {m:Str->Option VL},g.heap.Ns b m->(Ot g.heap H).Ns b m:=fun {b m} ⟨o,es,ep,e,d,r⟩=>⟨o,es,ep,base_of e (noA e d),d,r⟩;have hKb:K.In (Ot g.heap H):=fun b o e=>base_of (KX b o e) (by
   cases q:H b with
   |none=>rfl
   |some u=>
    have e':b=a:=hA b (by rw[q];simp);subst e';rw[hK (by rw[q];simp)]at e;cases e)
  have hM:Mod K mg (Ot g.heap H):=⟨hKb,T hns,⟨mb,T R,hbb⟩,let⟨mc,h1,h2⟩:=hlim;⟨mc,T h1,h2⟩⟩;have e0:eo P w K mg (Ot g.heap H) callerA [] g H:=⟨rfl,hM,fun b o e=>pC e,Nat.le_of_eq (gO _ _),trivial,fun b R=>absurd (show b∈([]:List AD) from R) At,A9,.of_eq hg,hkt H⟩;refine codeAny_mono ((F _ hKb (T hns)).run callerA [] g H ⟨[.ref a],[]⟩ [.ref a] [.ref a] _ _ hr e0 (U g Hf) (.cons rfl .nil) (hsp H hO hS)) fun r s' h=>?_;cases r with
  |error e=>exact(hCX H e s' h).elim
  |ok fl=>
   cases fl with
   |next=>exact False.elim h
   |brk=>exact False.elim h
   |cont=>exact False.elim h
   |ret u=>
    obtain⟨v,H',os,bare,un,hok',r',q⟩:=h;have q':v=.bl true:=q;subst q';obtain rfl:u=Value.bool true:=r';refine⟨rfl,OldK.of_keep fun b o e=>?_,os,bare⟩;cases q:H b with
    |none=>exact un.keep b o e q (by intro z;exact absurd (show b∈([]:List AD) from z) At) At
    |some u=>
     rcases hO b with z|⟨ob,xs,z⟩
     .rw[q]at z;cases z
     .have z2:=un.Im b ob _ z;obtain⟨e1,_⟩:=A9 b _ z;obtain⟨e2,_⟩:=hok' b _ z2;rw[e]at e1;cases e1;exact e2
 cases hk:K.lookup a with
 |some o=>
  have e:=KX a o hk;rw[ha]at e;cases e;refine core (fun _=>none) (fun _=>.inl rfl) (.inr ⟨_,vs.toArray,_,hk,rfl,rfl,rfl,by rw[(Eb),Z];exact hl,by simpa using rv⟩) (fun b u z=>by have Y:(none:Option HO)=some u:=z;cases Y) (fun b z=>absurd rfl z) fun z=>absurd rfl z
 |none=>
  refine core (fun b=>if b=a then some (.GL { cls:=.type "list",data:=.seq vs.toArray} (.lst RW)) else none) (fun b=>?_) (.inl (.inr ⟨{ cls:=.type "list",data:=.seq vs.toArray},if_pos rfl⟩)) (fun b u z=>?_) (fun b z=>?_) fun _=>hk
  .by_cases R:b=a
   .exact .inr ⟨_,_,if_pos R⟩
   .exact .inl (if_neg R)
  .by_cases R:b=a
   .have Y:=(if_pos R).symm.trans z;cases Y;subst R;exact⟨ha,by rw[(BJ)];exact hl,vs,_,rv,ha⟩
   .have Y:=(if_neg R).symm.trans z;cases Y
  .by_cases R:b=a
   .exact R
   .exact absurd (if_neg R) z
def nk{l:PySem.W.OpenLaw}{n k:Nat}{q:F0b}{loose:zC}{XP:(y0)->Heap->Prop}{YP:F0c->Heap->Prop}{d:DefRec}{K:Params->Fg}{CX:F0c->Iw}{sp:F0c->Sp}{x:Str} (hn:l.most=some n)(hn2:n<=sizeLine)(hdf:d.params.defaults=[])(hr:EN k callerA)(hkt:∀(w:F0c) (mg:y0) (h:Heap),(K w.params).In h->h.Ns mainGlobals mg->∀H,KTb mg H) (hY:∀(w:F0c) (h:Heap),YP w h->(K w.params).In h) (F:∀(w:F0c) (mg:y0) (fa:AD) (h:Heap),(K w.params).In h->h.Ns mainGlobals mg->mg d.name=some (.ref fa) ->∃fd:F0a,(∀(s:SD) (u:VL),BindsTo s fd ⟨[u],[]⟩ [(x,u)]) /\∀base:Heap,(K w.params).In base->base.Ns mainGlobals mg->AK l.prog w (K w.params) mg base (CX w) k fa fd [x] (sp w)) (hsp:∀(w:F0c) (H:Hp) (a:AD) (ns:zA),ns.length<=n->kP H->Aw (K w.params) H a RW->sp w [.ref a] H (fun v _=>v=.bl true) fun _ _ _=>False) (hCX:∀(w:F0c) (H:Hp) (s:SD) (e:VL) (s':SD),CX w [] H s (fun _ _ _=>False) e s'->False):PySem.W.WalkO q loose XP YP l.row.toRowW d [] (fun f vs=>PySem.call f vs):=by
 refine Att.ZY hn hdf fun w s₀ U mg mb fa o pm cd doc a vs ns G Y ho hd hcd hmg Z hints R hg=>?_;have KX:=hY w _ Y;obtain⟨fd,hb,hF⟩:=F w mg fa _ KX G.T.g hmg;exact ju (hkt:=hkt w mg _ KX G.T.g) KX G.T.g G.T.b G.T.builtins G.T.nolimit hg Z hints (aU R hn2) hr hF hb (fun H hO hS=>hsp w H a ns R hO hS) fun H e s'=>hCX w H U e s'
abbrev Af:Iw:=fun _ _ _ _ _ _=>False
abbrev E0:XK:=fun _ _ _=>False
def uh{X:Cx}:Passes Af X E0:=fun _ _ _ _ _ _ _ h=>h.elim
structure Vf(K:Fg)(x qual:Str)(st:Stmt)(f:Addr)(fd:FuncData):Prop where
 ex:∃(oc:Value) (od:Option Addr) (kV doc pm:Value) (an:Option Addr) (cdv ct:Value) (osl:Array (Option Value)),
  fd=PySem.W.fnOf x qual (Hs st) (E9 st) (AO st) .none kV doc pm an cdv ct/\K.lookup f=some ⟨oc,od,.func fd,osl⟩/\PySem.W.codeIn K cdv qual=true
 kp:PySem.W.keepIn K (.ref f)=true
section
variable{P:F0b}{w:F0c}{K:Fg}{mg:y0}{base:Heap}
def Vf.ok{x qual:Str}{st:Stmt}{f:AD}{fd:F0a}{N ps:zC}{k:Nat}{sp:Sp}(F:Vf K x qual st f fd)(S:Ac N ps (AO st))(len:∀vs H Q E,sp vs H Q E->vs.length=ps.length) (g:∀(cdv:VL) (A:F0d) (outer:zN) (s:SD) (H:Hp) (vs:zJ) (Q:VK) (E:XK),EN k (A.deeper (envOfC qual (AO st) s.heap.objs.size f cdv))->sp vs H Q E ->∃t,Jp (DZ Af P w K mg base N qual (AO st) f cdv A outer s H E).LG (E9 st) t/\t { nx:=fun _ H'=>Q .BP H',rt:=Q} (start N vs) H):AK P w K mg base Af Pi f fd ps sp:=by
 obtain⟨oc,od,kV,doc,pm,an,cdv,ct,osl,rfl,lk,T⟩:=F.ex;refine lI lk T S len fun A outer s H vs Q E U R=>?_;obtain⟨t,h,q⟩:=g cdv A outer s H vs Q E U R;exact⟨t,h.LG,q⟩
def Vf.binds{x qual:Str}{st:Stmt}{f:AD}{fd:F0a}{ps:zC}(F:Vf K x qual st f fd) (h:∀(kV doc pm:VL) (an:Option AD) (cdv ct:VL) (us:yy),us.length=ps.length->bindArgs (PySem.W.fnOf x qual (Hs st) (E9 st) (AO st) .none kV doc pm an cdv ct) ⟨us,[]⟩=pure (ps.zip us)):Binds K fd ps []:=by
 obtain⟨oc,od,kV,doc,pm,an,cdv,ct,osl,rfl,lk,g⟩:=F.ex;exact .all (h kV doc pm an cdv ct)
def gI{x qual:Str}{st:Stmt}{f:AD}{oc:VL}{od an:Option AD}{osl:Array (Option VL)}{kV doc pm cdv ct:VL}(l:K.lookup f=some ⟨oc,od,.func (PySem.W.fnOf x qual (Hs st) (E9 st) (AO st) .none kV doc pm an cdv ct),osl⟩) (c:PySem.W.codeIn K cdv qual=true)(k:PySem.W.keepIn K (.ref f)=true):Vf K x qual st f (PySem.W.fnOf x qual (Hs st) (E9 st) (AO st) .none kV doc pm an cdv ct):=⟨⟨oc,od,kV,doc,pm,an,cdv,ct,osl,rfl,l,c⟩,k⟩
end
def Vw{n:Nat}(h:n<=1000):n<sizeLine:=aW h AT
section
variable{X:Cx}
def pv(i:Nat){x:Str}{pos:Pos}(T:X.N[i]? = some x:=by rfl)(R:pE X.env.scope x:=by first|exact Or.inl rfl|exact Or.inr As|exact Or.inr (Or.inr rfl))(hd:GE=false:=by decide) (g:(x==("__classdict__" : Str))=false:=by decide):PE X (.Name x pos) (P6 i):=rY T R hd g
end
def xB{A B:Prop}(h:B):if false=true then A else B:=by
 rw[if_neg aK];exact h
def L3{A B:Prop}(h:A):if true=true then A else B:=by
 rw[if_pos rfl];exact h
def MI{c A B:Prop}[Decidable c](R:c->A)(g:¬c->B):if c then A else B:=by
 by_cases h:c
 .rw[if_pos h];exact R h
 .rw[if_neg h];exact g h
def AL(H H':Hp):Prop:=∀b o,H b=some o->H' b=some o
def AL.refl(H:Hp):AL H H:=fun _ _ h=>h
def AL.trans{H R g:Hp}(a:AL H R)(b:AL R g):AL H g:=fun c o h=>b c o (a c o h)
section
variable{X:Cx}
def UX(i j:Int):Prop:=∃m:Nat,m<=1000000/\i.natAbs<2^m/\j.natAbs<2^m
def UX.ok{i j:Int}(h:UX i j):IntMulOk i j:=by
 obtain⟨m,hm,R,g⟩:=h;exact IntMulOk.of_le (intBits_le_iff.mpr R) (intBits_le_iff.mpr g) AC
def HA:Dd X (binaryOp .Mult) (rI (fun i j=>Yd i j\/UX i j) fun i j=>.int (i*j)) :=
 cm fun _ _ _ _ _ _ _ g q=>mul_int q (g.elim (fun z=>z.ok) fun z=>z.ok)
def uv(_i j:Int):Prop:=j≠0/\∃m:Nat,m<=9000/\j.natAbs<2^m
def Ip:Dd X (binaryOp .FloorDiv) (rI uv fun i j=>.int (i.fdiv j)):=cm fun i j _ _ _ _ _ R q=>by
 obtain⟨h0,m,hm,T⟩:=R;refine floordiv_int h0 q (.inl (PyProof.noPylong_of_log2 ?_));have g:j.natAbs≠0:=by lia
 have:j.natAbs.log2<m:=(Nat.log2_lt g).mpr T
 lia
mutual
def Br(K:Fg)(H:Hp):PD->V->Prop
 |.none,v=>v=.BP
 |.bool b,v=>v=.bl b
 |.int i,v=>v=.int i
 |.str x,v=>v=.str x
 |.tuple g,v=>∃a xs,v=.ref a/\BK K H a xs/\Hu K H g xs
 |.list g,v=>∃a xs,v=.ref a/\Aw K H a xs/\Hu K H g xs
 |.dict _,_=>False
def Hu(K:Fg)(H:Hp):List PD->List V->Prop
 |[],xs=>xs=[]
 |d::g,xs=>∃x r,xs=x::r/\Br K H d x/\Hu K H g r
end
mutual
theorem Br.reads{pins:Cu}{σ:St}{H:Hp}{s:SD}(I:BY):∀ {d:PD} {v:V} {u:VL},Br X.K H d v->RelV v u->∃as,Reads s.heap u d as
 |.none,_,u,h,r=>by rw[Br]at h;subst h;cases r;exact⟨_,.none⟩
 |.bool b,_,u,h,r=>by rw[Br]at h;subst h;cases r;exact⟨_,.bool b⟩
 |.int i,_,u,h,r=>by rw[Br]at h;subst h;obtain⟨t,rfl⟩:=r;exact⟨_,.int i t⟩
 |.str x,_,u,h,r=>by rw[Br]at h;subst h;obtain⟨t,rfl⟩:=r;exact⟨_,.str x t⟩
 |.tuple ds,_,u,h,r=>by
  rw[Br]at h;obtain⟨a,xs,Z,Y,U⟩:=h;subst Z;cases r;obtain⟨T,g,⟨o,e,c,n,hd⟩,_⟩:=I.tuple Y;obtain⟨as,R⟩:=Hu.reads I U g;exact⟨_,.tuple e c hd (by simpa using R)⟩
 |.list ds,_,u,h,r=>by
  rw[Br]at h;obtain⟨a,xs,Z,Y,U⟩:=h;subst Z;cases r;obtain⟨T,g,⟨o,n,e,c,_,hd⟩,_⟩:=I.list Y;obtain⟨as,R⟩:=Hu.reads I U g;exact⟨_,.list e c hd (by simpa using R)⟩
 |.dict _,_,_,h,_=>by rw[Br]at h;exact h.elim
theorem Hu.reads{pins:Cu}{σ:St}{H:Hp}{s:SD}(I:BY):∀ {ds:List PD} {xs:IZ} {us:LQ},Hu X.K H ds xs->Vals xs us->∃as,ReadsAll s.heap us ds as
 |[],_,us,h,r=>by rw[Hu]at h;subst h;cases r;exact⟨_,.nil⟩
 |_::_,_,us,h,r=>by
  rw[Hu]at h;obtain⟨x,q,e1,Z,Y⟩:=h;subst e1;cases r with
  |cons U T=>
   obtain⟨as,R⟩:=Br.reads I Z U;obtain⟨bs,g⟩:=Hu.reads I Y T;exact⟨_,.cons R g⟩
end
def ky(K:Fg)(neg:Bool):R2:=fun x y H Q=>∃d e,Br K H d x/\Br K H e y/\SeqAt.shaped d=true/\SeqAt.shaped e=true/\Q (.bl (if neg then !PyData.eqv d e else PyData.eqv d e)) H
def qd(Y:IO):Dd X (compareOp .Eq) (ky X.K false):=by
 intro pins s σ H x y v u Q I R g h;obtain⟨d,e,h1,Z,s1,s2,q⟩:=h;obtain⟨as,U⟩:=Br.reads I h1 R;obtain⟨bs,T⟩:=Br.reads I Z g;exact eq_dataH U T s1 s2 Y ⟨.bl _,H,I,rfl,q⟩
def qP(Y:IO):Dd X (compareOp .NotEq) (ky X.K true):=by
 intro pins s σ H x y v u Q I R g h;obtain⟨d,e,h1,Z,s1,s2,q⟩:=h;obtain⟨as,U⟩:=Br.reads I h1 R;obtain⟨bs,T⟩:=Br.reads I Z g;exact ne_dataH U T s1 s2 Y ⟨.bl _,H,I,rfl,q⟩
end
def Pd(X:Cx)(g:zD)(t:TT):Prop :=
 ∀(pins:Cu) (s:SD) (σ:St) (H:Hp) (Q:Bool->Hp->Prop),Inv X pins σ H s->t σ H Q ->
  wpAny Ch X.A (forIn g true fun c r=>if r=true then do let ok <-isTrue c X.env (eval c X.env);pure (ForInStep.yield ok) else pure (ForInStep.yield r)) (TP X pins σ Q) X.xe s
def Jh:TT:=fun _ H Q=>Q true H
def GP{X:Cx}:Pd X [] Jh:=fun _ _ σ H _ I h=>wpAny_tests_nil ⟨H,I,h⟩
def oQ{X:Cx}{c:Expr}{t:TT}(h:PT X c t):Pd X [c] t:=by
 intro pins s σ H Q I g;simp only[List.forIn_cons,List.forIn_nil,if_true];refine Wb (Wb (BX (h pins s σ H Q I g) fun b s1 q=>?_));exact aA (aA q)
def HI(N R:List Str)(sc g:Scope):List (Option Nat)->Nat->Bool
 |[],_=>true
 |none::r,i=>HI N R sc g r MS
 |some j::r,i=>(match N[i]?,R[j]? with
   |some n,some m=>n==m&&sc.names.lookup n==some .free&&g.names.lookup n==some .cell
   |_,_=>false)&&HI N R sc g r MS
theorem Sb{N U:List Str}{sc g:Scope}:∀ {fr:List (Option Nat)} {k:Nat},HI N U sc g fr k=true->∀ {i j:Nat},fr[i]? = some (some j) ->
  ∃n,N[k+i]? = some n/\U[j]? = some n/\sc.names.lookup n=some .free/\g.names.lookup n=some .cell
 |[],_,_,i,j,e=>by simp at e
 |none::r,k,h,0,j,e=>by simp at e
 |none::r,k,h,i+1,j,e=>by
  have q:=Sb (fr:=r) (k:=k+1) h (i:=i) (j:=j) (by simpa using e);have z:k+MS=k+1+i:=by lia
  rw[z];exact q
 |some T::r,k,h,0,j,e=>by
  have e':T=j:=by simpa using e
  subst e';rw[HI,(Dk)]at h;have R:=h.1;split at R
  .rename_i n m hn hm;simp only[Bool.and_eq_true,beq_iff_eq]at R;obtain⟨⟨rfl,Z⟩,Y⟩:=R;exact⟨n,by simpa using hn,hm,Z,Y⟩
  .cases R
 |some T::r,k,h,i+1,j,e=>by
  rw[HI,(Dk)]at h;have q:=Sb (fr:=r) (k:=k+1) h.2 (i:=i) (j:=j) (by simpa using e);have z:k+MS=k+1+i:=by lia
  rw[z];exact q
def carry(fr:zO)(σ:St):St:=fr.map fun o=>match o with
 |some j=>(σ[j]?).join
 |none=>none
def iC{fr:zO}{σ:St}{i:Nat}{v:V}(h:(carry fr σ)[i]? = some (some v)):∃j,fr[i]? = some (some j)/\σ[j]? = some (some v):=by
 unfold carry at h;rw[(CD)]at h;cases e:fr[i]? with
 |none=>rw[e]at h;cases h
 |some o=>
  rw[e]at h;cases o with
  |none=>simp at h
  |some j=>
   refine⟨j,rfl,?_⟩;simp only[Option.map_some,Option.some.injEq]at h;cases q:σ[j]? with
   |none=>rw[q]at h;cases h
   |some w=>rw[q]at h;simp at h;rw[h]
theorem JZ{env:Env}:∀(names:List (Str×NameKind)) (cs:List (Str×AD)),(∀x∈names,x.2=NameKind.free->∃c,env.cells.lookup x.1=some c)->(∀x c,cs.lookup x=some c->env.cells.lookup x=some c) ->
  ∃cl,(forIn names cs (fun(x:Str×NameKind) (r:List (Str×AD))=>do if(x.2==NameKind.free)=true then do let a <-cellOf env x.1;pure (ForInStep.yield ((x.1,a)::r)) else pure (ForInStep.yield r)):Sem (List (Str×AD)))=pure cl /\
   (∀x c,cl.lookup x=some c->env.cells.lookup x=some c)/\(∀x,(∃c,cs.lookup x=some c)->∃c,cl.lookup x=some c)/\∀x∈names,x.2=NameKind.free->∃c,cl.lookup x.1=some c
 |[],cs,_,Z=>⟨cs,rfl,Z,fun _ q=>q,fun _ z=>(by cases z)⟩
 |(n,k)::r,cs,h1,Z=>by
  rw[List.forIn_cons];by_cases U:(k==NameKind.free)=true
  .obtain⟨c,hc⟩:=h1 (n,k) aX (by simpa using U);have h2':∀x R,((n,c)::cs).lookup x=some R->env.cells.lookup x=some R:=fun x R e=>by
    rw[List.lookup_cons]at e;cases g:x==n with
    |true=>rw[g]at e;have:=beq_iff_eq.mp g;subst this;simp at e;rw[<-e];exact hc
    |false=>rw[g]at e;exact Z x R e
   obtain⟨cl,q1,q2,T,q4⟩:=JZ r ((n,c)::cs) (fun x g=>h1 x (aS _ g)) h2';have hn:∃R,cl.lookup n=some R:=T n ⟨c,by rw[List.lookup_cons,beq_self_eq_true]⟩;refine⟨cl,?_,q2,fun x g=>?_,fun x g Y=>?_⟩
   .simp only[U,if_true];unfold cellOf;rw[hc];exact q1
   .refine T x ?_;rw[List.lookup_cons];cases hxn:x==n with
    |true=>exact⟨c,rfl⟩
    |false=>exact g
   .rcases aM.mp g with e|g
    .subst e;exact hn
    .exact q4 x g Y
  .obtain⟨cl,q1,q2,T,q4⟩:=JZ r cs (fun x g=>h1 x (aS _ g)) Z;refine⟨cl,?_,q2,T,fun x g Y=>?_⟩
   .simp only[U];exact q1
   .rcases aM.mp g with e|g
    .subst e;exact absurd (by simpa using Y) U
    .exact q4 x g Y
def BB(X:Cx)(scope:Scope)(cl:List (Str×AD))(N:zC)(C:AD)(s₀:SD)(H₀:Hp)(fp:zL):Cx where
 prog:=X.prog
 w:=X.w
 K:=X.K
 mg:=X.mg
 base:=X.base
 A:=X.A
 N:=N
 s₀:=s₀
 H₀:=H₀
 env:=compEnvC scope cl C X.env
 outer:=X.stack
 stack:=X.stack
 ex:=fp
 fn:=fun _=>false
 calm:=X.calm
 pn:=[]
 xe:=fun _ _=>False
def Qu(Z:TI)(fr:zO)(ix:Nat)(R:TT)(te:TE):TE:=fun σ H Q=>Z σ H fun J Y=>∀D,Y D=none->∃W:Nat->Nat->List V->Hp->Prop,(∃m,W 0 m [] (upd Y D PZ)) /\
 ∀i m ys H,W i m ys H->H D=some IR/\((J.stop i H/\Q (.ref D) H)\/(J.go i H/\ys.length<sizeLine/\∀x H',J.Ge i H x H' ->
  R Pb H' fun b U=>if b=true then te Pb U fun y T=>T D=some IR/\∃g,g<m/\W MS g WP (upd T D (.lst WP))
   else ∃g,g<m/\W MS g ys U))
structure Fl(scope:Scope)(N:List Str)(x:Str)(ix:Nat):Prop where
 kind:scope.kind=.function
 cell:∀y∈scope.names,y.2≠.cell
 names:∀y∈scope.names,y.2=.local->scope.names.lookup y.1=some .local
 free:∀y∈scope.names,y.2=.free->scope.names.lookup y.1=some .free
 loc:scope.names.lookup x=some .local
 nd:N.Nodup
 at_:N[ix]? = some x
def lookup_mem{names:List (Str×NameKind)}{n:Str}{k:NameKind}:names.lookup n=some k->(n,k)∈names:=by
 induction names with
 |nil=>intro h;cases h
 |cons y r g=>
  intro h;obtain⟨m,j⟩:=y;rw[List.lookup_cons]at h;cases e:n==m with
  |true=>rw[e]at h;have:=beq_iff_eq.mp e;subst this;simp at h;subst h;exact aX
  |false=>rw[e]at h;exact aS _ (g h)
def Xb{scope:Scope}{env:Env}(hc:∀y∈scope.names,y.2≠.cell){n:Str}(h:(relabel scope env).names.lookup n=some .cell\/(relabel scope env).names.lookup n=some .free):∃k,(n,k)∈scope.names/\k=NameKind.free:=by
 have key:∀R,(relabel scope env).names.lookup n=some R->(R=.cell\/R=.free)->∃k,(n,k)∈scope.names/\k=NameKind.free:=fun R h Z=>by
  have hm:=lookup_mem h;unfold relabel at hm;obtain⟨⟨m,k⟩,T,e⟩:=aQ.mp hm;dsimp only at e;by_cases g:(k==NameKind.free&&env.scope.kind==.function&&env.kindOf m==some .cell)=true
  .rw[if_pos g]at e
   injection e with U Y
   subst U;refine⟨k,T,?_⟩;simp only[Bool.and_eq_true,beq_iff_eq]at g;exact g.1.1
  .rw[if_neg g]at e
   injection e with U Y
   subst U Y;rcases Z with rfl|rfl
   .exact absurd rfl (hc _ T)
   .exact⟨_,T,rfl⟩
 rcases h with h|h
 .exact key _ h Rs
 .exact key _ h (.inr rfl)
section
variable{X:Cx}{elt iter:Expr}{x:Str}{px pos:Pos}{ifs:zD}{scope:Scope}{wi:TI}{fr:zO}{ix:Nat}{tif:TT}{te:TE}{N:zC}
def Mj{prog:F0b}{w:F0c}{A:F0d}{R:Result->SD->Prop}{s:SD}{elt target iter:Expr}{ifs:zD}{scope:Scope}{pos:Pos}{it acc:VL}{env:Env}(I:Nat->SD->Prop)
 (turn:∀n s,I n s->wpAny AS A (pyNext it) (fun r g=>match r with
   |none=>R (.ok .next) g
   |some v=>wpAny AS A (letOwnedTupleGo target it v>>=fun _=>assign target env v) (fun _ Z=>
     wpAny AS A (forIn ifs true fun c r=>if r=true then do let ok <-isTrue c env (eval c env);pure (ForInStep.yield ok) else pure (ForInStep.yield r)) (fun ok T=>
      if ok=true then wpAny AS A (eval elt env) (fun x Y=>
       wpAny AS A (call (.builtin "list.append") [acc,x]) (fun _ U=>∃m,m<n/\I m U) jp Y) jp T
      else ∃m,m<n/\I m T) jp Z) jp g) jp s)
 (n:Nat)(h:I n s) :
  codeAny AS A (.compLoop (.ListComp elt [⟨target,iter,ifs,0⟩] scope pos) 0 it acc env) R s:=by
 refine codeAny_loop rfl I (fun n s hI=>?_) n h;show wpAny _ A ((compTurn (.ListComp elt [⟨target,iter,ifs,0⟩] scope pos) 0 it acc env).onRaise (fun x=>do noteFrame x env;theTreesLotGoes x)) _ _ s;refine wpAny_noted ?_;rw[compTurn_list];refine Wb (wpAny_standAt (Wb (ao (turn n s hI) (fun r g h₁=>?_) fun _ _ h'=>h')));cases r with
 |none=>exact aA h₁
 |some v=>
  show wpAny AS A (letOwnedTupleGo target it v>>=fun _=>assign target env v>>=_) _ _ g;rw[<-bind_assoc];refine Wb (ao h₁ (fun _ Z h₂=>Wb (ao h₂ (fun ok T h₃=>?_) fun _ _ h'=>h')) fun _ _ h'=>h');cases ok with
  |false=>exact aA ⟨rfl,h₃⟩
  |true=>
   exact Wb (Wb (ao h₃ (fun x Y h₄=>Wb (ao h₄ (fun _ U h₅=>aA (aA ⟨rfl,h₅⟩)) fun _ _ h'=>h')) fun _ _ h'=>h'))
def Rp{pins:Cu}{σ:St}{Z:Hp}{s2:SD}{Q:VK}{it:AD}{fp:zL}{tn:Nat->Heap->Prop}{J:It}{cl:List (Str×AD)}{E:yz}{RR:VL->AD->Result->SD->Prop} (S:Fl scope N x ix)(hcalm:bi){tgE:Expr}{g:TG}(Rv:St->Prop)(r0:Rv (carry fr σ))(hpg:∀C,PG (BB X scope cl N C s2 Z fp) tgE g)(hfr:HI N X.N scope X.env.scope fr 0=true)(hlen:fr.length=N.length) (hif:fy)(he:f8) (Y:Inv X pins σ Z s2)(T:Turn X.prog X.w X.K tgE J fp it tn)(st2:tn 0 s2.heap)(f2:∀b∈fp,K6 X pins Z b) (c1:∀x c,cl.lookup x=some c->X.env.cells.lookup x=some c)(c2:∀x∈scope.names,x.2=NameKind.free->∃c,cl.lookup x.1=some c) (W:∀D,Z D=none->∃W:Nat->Nat->List V->Hp->Prop,(∃m,W 0 m [] (upd Z D PZ)) /\∀i m ys H,W i m ys H->H D=some IR/\((J.stop i H/\Q (.ref D) H)\/(J.go i H/\ys.length<sizeLine/\∀x H',J.Ge i H x H'->∀σ',Rv σ'->g x σ' H' fun σ6 H6=>Rv σ6 /\tif σ6 H6 fun b Z=>if b=true then te σ6 Z fun y H3=>H3 D=some IR/\∃m',m'<m/\W MS m' WP (upd H3 D (.lst WP)) else ∃m',m'<m/\W MS m' ys Z))) (fin:FS):wpAny Ch X.A (newList []) (fun acc s₃=>wpAny Ch X.A bv (fun cenv s₄ => codeAny Ch X.A (.compStart (.ListComp elt [⟨tgE,iter,ifs,0⟩] scope pos) 0 (.ref it) acc {cenv with scope:=relabel scope X.env}) (RR acc cenv.locals) s₄) E s₃) E s2:=by
 refine bA (wpAny_newFunctionEnv S.cell (by intro y hy;simp at hy) (fun h₁ hns₁ U=>?_) S.kind);dsimp only at hns₁ U ⊢;generalize hHp:s2.heap.push { cls:=.type "list",dict:=none,data:=.seq ([]:List VL).toArray}=Hq at hns₁ U ⊢;have hC:Hq.objs.size=s2.heap.objs.size+1:=by rw[<-hHp,(Ii)]
 have hDC:s2.heap.objs.size≠Hq.objs.size:=by rw[hC];exact aI (bO _)
 have below:∀b,b<s2.heap.objs.size->b≠Hq.objs.size/\b≠s2.heap.objs.size:=fun b R=>⟨by rw[hC];exact aI (bU R),Nat.ne_of_lt R⟩;have old:∀b o,s2.heap.get? b=some o->h₁.get? b=some o:=fun b o e=>U.extBut b o (below b (aF e)).1 (aE _ (hHp ▸ aE _ e));have hacc:h₁.get? s2.heap.objs.size=some { cls:=.type "list",data:=.seq ([]:List VL).toArray}:=U.extBut _ _ hDC (aE _ (hHp ▸ aO _ rfl));have hD2:Z s2.heap.objs.size=none:=Y.A9.fresh Ql;have hC2:Z Hq.objs.size=none:=Y.A9.fresh (by rw[hC];exact Nat.le_succ _);have fpo:∀b∈fp,b<s2.heap.objs.size:=fun b R=>by
  obtain⟨o,e,_⟩:=T.obj _ _ st2 b R;exact aF e
 obtain⟨W,⟨m0,w0⟩,turn⟩:=W s2.heap.objs.size hD2;have ok:(BB X scope cl N Hq.objs.size s2 Z fp).Ok:=by
  refine⟨Y.ok.mod,S.kind,Y.ok.glob,Y.ok.blt,by show s2.heap.objs.size<=Hq.objs.size;rw[hC];exact Nat.le_succ _,?_,?_,?_,fun _=>Y.ok.hd hcalm,Y.ok.frames,.inl rfl,?_,Y.bs,Nat.le_trans Y.ok.Vb Y.sz,?_,?_,Y.stack,Y.VC,Y.kt⟩
  .exact fun a b c h1 h2=>Y.ok.inj a b c (c1 _ _ h1) (c1 _ _ h2)
  .intro y hy;obtain⟨k,hm,rfl⟩:=Xb S.cell hy;exact c2 _ hm rfl
  .intro y c hf;cases hf
  .intro b R;refine⟨(below b (fpo b R)).1,fun y c e=>?_⟩;obtain⟨_,_,_,_,f5,_⟩:=f2 b R;exact f5 y c (c1 _ _ e)
  .intro b o e R;obtain⟨_,_,_,f4,_,_⟩:=f2 b R;rcases f4 with z|z
   .exact Y.ok.Y0 b o e z
   .exact absurd (aH (aF e) (aU Y.ok.Vb z)) (Nat.lt_irrefl _)
  .intro b R hs;obtain⟨_,f1,f3,_⟩:=f2 b R;rcases aM.mp (Y.Qq b hs) with z|z
   .exact f1 z
   .exact f3 z
 have I4:Inv ON [] (carry fr σ) (upd Z s2.heap.objs.size PZ) {s2 with heap:=h₁,toks:=s2.toks+([]:List (Str×VL)).length}:=by
  refine⟨ok,rfl,Y.bare,Un.laid old Ql hD2,⟨_,hns₁,fun i y v h1 h2 h3=>?_⟩,fun y c e=>?_,?_,fun y c e=>?_,fun p hp=>(by cases hp),Y.A9.laid old Ql ⟨az _,[],0,.nil,hacc⟩,?_⟩
  .obtain⟨j,e1,e2⟩:=iC h2;obtain⟨n,n1,n2,n3,n4⟩:=Sb hfr e1;rw[Nat.zero_add]at n1;have:y=n:=by
    have h1':N[i]? = some y:=h1;rw[h1']at n1;exact af n1
   subst this;obtain⟨m,hn,hl⟩:=Y.loc;obtain⟨u,ru,lk⟩:=hl j y v n2 e2 (.inr (.inl n4));refine⟨u,ru,?_⟩;obtain⟨c,hc⟩:=c2 _ (lookup_mem n3) rfl;rcases lk with ⟨k1,_⟩|⟨_,c',hc',hcell⟩
   .have k1':X.env.scope.names.lookup y=some .local:=k1;rw[n4]at k1';cases k1'
   .have:=c1 _ _ hc;rw[hc']at this;cases this;refine .inr ⟨?_,c,hc,hcell.keeps old⟩;rcases h3 with z|z|z
    .obtain⟨k,hm⟩:∃k,(y,k)∈scope.names/\k=NameKind.local:=by
      have hm:=lookup_mem z;have hm':(y,NameKind.local)∈(relabel scope X.env).names:=hm;unfold relabel at hm';obtain⟨⟨m',k⟩,hy,e⟩:=aQ.mp hm';dsimp only at e;by_cases hcond:(k==NameKind.free&&X.env.scope.kind==.function&&X.env.kindOf m'==some .cell)=true
      .rw[if_pos hcond]at e;injection e with _ e2';cases e2'
      .rw[if_neg hcond]at e;injection e with e1' e2';subst e1' e2';exact⟨_,hy,rfl⟩
     obtain⟨hm,rfl⟩:=hm;have:=S.names _ hm rfl;rw[n3]at this;cases this
    .exact .inl z
    .exact .inr z
  .obtain⟨v,z⟩:=Y.cell y c (c1 _ _ e);exact⟨v,z.keeps old⟩
  .show upd Z s2.heap.objs.size _ Hq.objs.size=none;rw[AN (Ne.symm hDC)];exact hC2
  .obtain⟨v,o,ho,_⟩:=Y.cell y c (c1 _ _ e);rw[AN (below c (aF ho)).2];exact Y.KZ y c (c1 _ _ e)
  .show(carry fr σ).length=N.length;unfold carry;rw[(BJ)];exact hlen
 have fpX:∀(p:Cu) (H':Hp),(∀q∈p,q.1∈fp->False)->(∀b∈fp,H' b=none)->∀b∈fp,K6 ON p H' b:=fun p H' hp hn b R=>by
  obtain⟨_,f1,f3,f4,f5,_⟩:=f2 b R;refine⟨hn b R,(below b (fpo b R)).1,fun hs=>ok.Wy b R hs,.inl R,fun y c e=>f5 y c (c1 _ _ e),fun q hq e=>?_⟩;exact hp q hq (e ▸ R)
 have hxv:(relabel scope X.env).names.lookup x=some .local:=lookup_relabel_local S.loc;have loop:∀s₃:SD,s₃={s2 with heap:=h₁,toks:=s2.toks+([]:List (Str×VL)).length} ->
   codeAny Ch X.A (.compLoop (.ListComp elt [⟨tgE,iter,ifs,0⟩] scope pos) 0 (.ref it) (.ref s2.heap.objs.size) (compEnvC scope cl Hq.objs.size X.env)) (RR (.ref s2.heap.objs.size) Hq.objs.size) s₃:=by
  rintro s₃ rfl;refine Mj (fun n s'=>∃i ys σ' H',Inv ON [] σ' H' s'/\Rv σ'/\tn i s'.heap/\(∀b∈fp,H' b=none)/\W i n ys H') ?_ m0
   ⟨0,[],carry fr σ,_,I4,r0,T.keep _ _ _ st2 fun b _ o e=>old b o e,fun b R=>by rw[AN (below b (fpo b R)).2];exact(f2 b R).1,w0⟩
  rintro n s3 ⟨i,ys,σ3,H3,I3,hσ,st3,fr3,w3⟩;obtain⟨hD3,way⟩:=turn i n ys H3 w3;rcases way with ⟨stop,qn⟩|⟨go,hsz,step⟩
  .refine ao (T.done ON rfl rfl rfl hcalm i [] s3 σ3 H3 (fun _ _=>False) I3 (fpX [] H3 (fun _ z=>by cases z) fr3) st3 stop) (fun r s4 ⟨hr,I5⟩=>?_) fun _ _ z=>z.elim;subst hr;obtain⟨m,hn,_⟩:=id I5.loc;refine fin _ _ s4 H3 m hn qn (fun h' hs'=>?_) (Ne.symm hDC) (fun b o e=>(below b (aF e)).1) I5.free (by rw[hC];exact Nat.le_succ _);have nC:∀b u,H3 b=some u->b≠Hq.objs.size:=fun b u e z=>by
    have:=I5.free;rw[show(BB X scope cl N Hq.objs.size s2 Z fp).env.locals=Hq.objs.size from rfl,<-z,e]at this;cases this
   have keepU:Un (IB X.stack) fp Z H3 s2.heap h':=by
    have u:=I5.base;refine⟨fun b o e n R hx=>?_,fun b o e n R hx=>?_,fun b o e n hx=>u.free b o e n hx,fun b o e hx=>?_,u.BC,u.Im,u.KG,fun b xs o q e hx=>(hs'.2 b (below b (aF e)).1).trans (u.J0 b xs o q e hx)⟩
    .exact(hs'.2 b (below b (aF e)).1).trans (u.keep b o e n R hx)
    .obtain⟨sl,e1⟩:=u.slot b o e n R hx;exact⟨sl,(hs'.2 b (below b (aF e)).1).trans e1⟩
    .obtain⟨o',e1⟩:=u.there b o e hx;exact⟨o',(hs'.2 b (below b (aF e)).1).trans e1⟩
   have hok':GH X.prog X.w H3 h':=fun b u e=>(I5.A9 b u e).Ob (fun c v hc q=>(hs'.2 c (by
    rcases hc with rfl|hc
    .exact nC _ _ e
    .exact nC _ _ hc)).trans q) (fun _ q=>q) fun _ _ q=>q
   refine Y.uj (s':={s4 with heap:=h'}) (ch:=fp) I5.os keepU hok' I5.bare fun b R=>?_;obtain⟨_,f1,_,f4,f5,f6⟩:=f2 b R;exact⟨f4,f1,f5,f6⟩
  .refine ao (T.item ON rfl rfl rfl hcalm i [] s3 σ3 H3 (fun _ _=>False) I3 (fpX [] H3 (fun _ z=>by cases z) fr3) st3 go) (fun r s4 ⟨u,hr,h4⟩=>?_) fun _ _ z=>z.elim;subst hr;show wpAny Ch X.A (letOwnedTupleGo tgE (.ref it) u>>=fun _=>assign tgE (compEnvC scope cl Hq.objs.size X.env) u) _ _ s4;refine Wb (ao h4 (fun _ s5 ⟨xv,H5,I5,r5,y5,st5,fr5⟩=>?_) fun _ _ z=>z.elim);have I5':=I5.pinned (fpX [] H5 (fun _ z=>by cases z) fr5) (T.obj _ _ st5);refine ao (hpg _ _ s5 σ3 H5 xv u _ I5' r5 (step xv H5 y5 σ3 hσ)) (fun _ s6 ⟨σ6,H6,I6,rv6,step5⟩=>?_) fun _ _ z=>z.elim;refine ao (hif _ _ _ _ _ _ s6 _ H6 _ I6 step5) (fun b s7 ⟨H7,I7,q7⟩=>?_) fun _ _ z=>z.elim;have again:∀ {s8:SD} {H8:Hp} {k:Nat} {zs:IZ},Inv ON ([]++QJ fp s5.heap) σ6 H8 s8->W MS k zs H8->k<n ->
     ∃m,m<n/\∃i ys σ' H',Inv ON [] σ' H' s8/\Rv σ'/\tn i s8.heap/\(∀b∈fp,H' b=none)/\W i m ys H':=fun {s8 H8 k zs} I8 w8 hk=>by
    refine⟨k,hk,i+1,zs,_,H8,I8.Om,rv6,T.keep _ _ _ st5 fun b R o e=>(I8.pin (b,o) (aV _ (aV _ (Lb R e)))).1,fun b R=>?_,w8⟩;obtain⟨o,e,d⟩:=T.obj _ _ st5 b R;exact(I8.pin (b,o) (aV _ (aV _ (Lb R e)))).2.1
   cases b with
   |false=>
    rw[if_neg aK]at q7 ⊢;obtain⟨k,hk,w7⟩:=q7;exact again I7 w7 hk
   |true=>
    rw[if_pos rfl]at q7 ⊢;refine ao (he _ _ _ _ _ _ s7 _ H7 _ I7 q7) (fun yv s8 ⟨y,H8,I8,r8,hD8,k,hk,w8⟩=>?_) fun _ _ z=>z.elim;refine ao (Gb (X:=BB X scope cl N Hq.objs.size s2 Z fp) _ s8 _ H8 (.ref s2.heap.objs.size) [y] (.ref s2.heap.objs.size) [yv] (fun _ H9=>H9=upd H8 s2.heap.objs.size (.lst WP)) I8 rfl (.cons r8 .nil) ⟨_,ys,y,rfl,rfl,hD8,hsz,rfl⟩) (fun _ s9 ⟨_,H9,I9,_,e9⟩=>?_) fun _ _ z=>z.elim;subst e9;exact again I9 w8 hk
 exact codeAny_compStart_list (loop _ rfl) (T.self X.A 0 _ _ _ (T.keep _ _ _ st2 fun b _ o e=>old b o e) (loop _ rfl))
def Tw{pins:Cu}{σ:St}{R:Hp}{s2:SD}{Q:VK}{it:AD}{fp:zL}{tn:Nat->Heap->Prop}{J:It}{cl:List (Str×AD)}{E:yz}{RR:VL->AD->Result->SD->Prop} (S:Fl scope N x ix)(U:bi)(hfr:HI N X.N scope X.env.scope fr 0=true)(hlen:fr.length=N.length) (hif:fy)(he:f8) (I2:Inv X pins σ R s2)(T:Turn X.prog X.w X.K (.Name x px) J fp it tn)(st2:tn 0 s2.heap)(f2:∀b∈fp,K6 X pins R b) (c1:∀x c,cl.lookup x=some c->X.env.cells.lookup x=some c)(c2:∀x∈scope.names,x.2=NameKind.free->∃c,cl.lookup x.1=some c) (W:∀D,R D=none->∃W:Nat->Nat->List V->Hp->Prop,(∃m,W 0 m [] (upd R D PZ)) /\∀i m ys H,W i m ys H->H D=some IR/\((J.stop i H/\Q (.ref D) H)\/(J.go i H/\ys.length<sizeLine/\∀x H',J.Ge i H x H' ->tif Pb H' fun b R=>if b=true then te Pb R fun y H3=>H3 D=some IR/\∃m',m'<m/\W MS m' WP (upd H3 D (.lst WP)) else ∃m',m'<m/\W MS m' ys R))) (fin:FS):wpAny Ch X.A (newList []) (fun acc s₃=>wpAny Ch X.A bv (fun g Z => codeAny Ch X.A (.compStart EQ 0 (.ref it) acc {g with scope:=relabel scope X.env}) (RR acc g.locals) Z) E s₃) E s2:=by
 have hxv:(relabel scope X.env).names.lookup x=some .local:=lookup_relabel_local S.loc;refine Rp S U (fun Y=>∀v,Y.set ix v=(carry fr σ).set ix v) (fun _=>rfl) (fun C=>Ay (X:=BB X scope cl N C s2 R fp) S.nd S.at_ (.inl hxv) (.inr hxv)) hfr hlen hif he I2 T st2 f2 c1 c2 (fun D hD=>?_) fin;obtain⟨W,w0,st⟩:=W D hD;refine⟨W,w0,fun i m ys H w=>?_⟩;obtain⟨h1,h2|⟨h2,h3,h4⟩⟩:=st i m ys H w
 .exact⟨h1,.inl h2⟩
 .refine⟨h1,.inr ⟨h2,h3,fun x H' hy Y hr=>?_⟩⟩;have:=h4 x H' hy;rw[<-hr]at this;exact⟨fun v=>by rw[List.set_set,hr],this⟩
def oj(S:Fl scope N x ix)(Y:bi)(hfr:HI N X.N scope X.env.scope fr 0=true)(Z:fr.length=N.length)(R:∀y∈scope.names,y.2=.free->X.env.scope.names.lookup y.1=some .cell\/X.env.scope.names.lookup y.1=some .free) (hi:PI X (.Name x px) iter wi)(hif:fy)(he:f8) (hs:∀x,foldedSetIterable iter X.env x=pure x:=by intro _;rfl):PE X EQ (Qu wi fr ix tif te):=by
 intro pins s σ H Q I hw;obtain⟨cl,U,c1,_,c2⟩:=JZ (env:=X.env) scope.names [] (fun y hy hf=>I.ok.has y.1 (R y hy hf)) (fun y c z=>by cases z);have g:closureFor scope X.env=pure cl:=by
  have e:closureFor scope X.env=NE:=rfl;rw[e,U]
  rfl
 rw[eval_ListComp];refine wpAny_comprehension_free (use:=none) rfl hs g S.kind S.names (BX (hi pins s σ H _ I hw) fun v s1 h1=>BX h1 fun itv s2 h2=>?_);obtain⟨it,fp,tn,J,H2,e,I2,T,st2,f2,W⟩:=h2;subst e;refine Tw (RR:=fun acc C=>compPost Ch X.A X.xe none Tt acc C) S Y hfr Z hif he I2 T st2 f2 c1 c2 W ?_;intro D C s' H' m hn q hI _ _ _ _;exact⟨m,hn,fun h' hs'=>⟨.ref D,H',hI h' hs',rfl,q⟩⟩
def de{i : Nat}{y : Str}{py spos : Pos}(hN : X.N.Nodup)(hy : X.N[i]? = some y)(hly : X.env.scope.names.lookup y = some .local)(S : Fl scope N x ix)(hcalm : X.calm = true)(hfr : HI N X.N scope X.env.scope fr 0 = true)(hlen : fr.length = N.length) (hfree : ∀ y∈scope.names,y.2 = .free->X.env.scope.names.lookup y.1 = some .cell\/X.env.scope.names.lookup y.1 = some .free) (hi : PI X (.Name x px) iter wi)(hif : ∀ cl C s₀ H₀ fp,Pd Cl ifs tif)(he : ∀ cl C s₀ H₀ fp,PE Cl elt te) (hsw : swapsWith EQ (some (.Name y py)) spos.line X.env = pure true:=by rfl) (hs : ∀ x,foldedSetIterable iter X.env x = pure x:=by intro _; rfl):PS X (.Assign [.Name y py] EQ spos) (YV (Qu wi fr ix tif te) (F5 i)):=by
  intro pins s σ H D I hw
  obtain ⟨cl,hclos,c1,_,c2⟩:=JZ (env:=X.env) scope.names [] (fun y hy hf => I.ok.has y.1 (hfree y hy hf)) (fun y c z => by cases z)
  have hclos' : closureFor scope X.env = pure cl:=by
    have e : closureFor scope X.env = ((forIn scope.names [] (fun (x : Str×NameKind) (r : List (Str×AD)) => do if (x.2 == NameKind.free) = true then do let a <- cellOf X.env x.1; pure (ForInStep.yield ((x.1,a) :: r)) else pure (ForInStep.yield r)):Sem (List (Str×AD))) >>= fun cs => pure cs):=rfl
    rw [e,hclos]
    rfl
  rw [exec_Assign_Name_used _ _ _ _ hsw]
  refine Wb (wpAny_standAt (Wb ?_))
  show wpAny _ X.A (do let _ <- comprehension EQ scope X.env _ (newList []) false (eval iter X.env) (some (assign (.Name y py) X.env))) _ _ s
  refine Wb (ao (wpAny_comprehension_free (use:=some (assign (.Name y py) X.env)) (Q:=fun _ s' => SP X pins D .next s') rfl hs hclos' S.kind S.names
    (BX (hi pins s σ H _ I hw) fun v s1 h1 => BX h1 fun itv s2 h2 => ?_)) (fun _ s' hq => aA (aA hq)) fun _ _ e => e)
  obtain ⟨it,fp,tn,J,H2,e,I2,T,st2,f2,W⟩:=h2
  subst e
  refine Tw (Q:=fun x H1 => F5 i x σ H1 D.nx) (RR:=fun acc C => compPost Ch X.A X.xe (some (assign (.Name y py) X.env)) (fun _ s' => SP X pins D .next s') acc C) S hcalm hfr hlen hif he I2 T st2 f2 c1 c2 W ?_
  intro D' C s' H' m hn q hI hCD hold hfreeC hsz
  have I5 : Inv X pins σ H' s':=hI s'.heap (Heap.SameBut.refl ..)
  refine wpAny_assign_Name (V0 I5 hN hy (.inl hly) (v:=.ref D') rfl (fun s'' I6 ⟨a,hsb,ha⟩ => ?_) (.inr hly))
  have hL : C≠X.env.locals:=fun z => by
    obtain ⟨_,⟨o,_,_,e,_⟩,_⟩:=I2.loc
    exact hold _ _ e z.symm
  have hcl : ∀ z c,X.env.cells.lookup z = some c->c≠C:=fun z c e => by
    obtain ⟨_,o,ho,_⟩:=I2.cell z c e
    exact hold _ _ ho
  have hCa : C≠a:=by
    rcases ha with z | z
    . rw [z]; exact hL
    . exact Ne.symm (hcl _ _ z)
  refine ⟨m,hn.sameBut hsb hCa,fun h' hs' => ⟨_,H',I6.turned (t':=s''.toks) (it:=C) (fun b o hb e => (hs'.2 b hb).trans e) hfreeC hL (.inr (aU I2.sz hsz)) hcl fun p hp => ?_,q⟩⟩
  obtain ⟨e,_⟩:=I2.pin p hp
  exact hold _ _ e
end
end L2
namespace FM
def gi(a b:Int):Int:=(Int.gcd a b:Int)
def XQ(a b:Int):Int.gcd b (a.fmod b)=Int.gcd a b:=by
 have e:a.fmod b=a-b*a.fdiv b:=Int.fmod_def a b;rw[e,Int.gcd_comm a b];exact Int.gcd_sub_mul_left_right b a (a.fdiv b)
def Vi(a b:Int)(g:b≠0):(a.fmod b).natAbs<b.natAbs:=by
 rcases Int.lt_or_gt_of_ne g with h|h
 .have U:-(a.fmod b)=(-a).fmod (-b):=by
   rw[Int.fmod_def,Int.fmod_def,Int.neg_fdiv_neg];have:-b*a.fdiv b=-(b*a.fdiv b):=Int.neg_mul _ _
   lia
  have T:=Int.fmod_nonneg_of_pos (-a) (show 0 < -b by lia);have R:=Int.fmod_lt_of_pos (-a) (show 0 < -b by lia)
  lia
 .have T:=Int.fmod_nonneg_of_pos a h;have R:=Int.fmod_lt_of_pos a h
  lia
def N9{a b:Int}(g:b≠0):0<gi a b:=by
 have:0<Int.gcd a b:=Int.gcd_pos_of_ne_zero_right a g;unfold gi;lia
def mL{a b:Int}(R:b≠0):(gi a b).natAbs<=b.natAbs:=by
 have h:Int.gcd a b ∣ b.natAbs:=by
  have:=Int.gcd_dvd_right a b;exact Int.natAbs_dvd_natAbs.mpr this
 have g:0<b.natAbs:=by lia
 have:=Nat.le_of_dvd g h;unfold gi;lia
def gs(t b:Int):Int:=if b<0 then -gi t b else gi t b
def lH{t b:Int}(g:b≠0):gs t b≠0:=by
 have:=N9 (a:=t) g;unfold gs;split<;>lia
def lG{t b:Int}(g:b≠0):(gs t b).natAbs<=b.natAbs:=by
 have:=mL (a:=t) g;unfold gs;split<;>lia
def Gj{g x k:Int}(R:g≠0)(e:x=g*k):x.fdiv g=k:=by
 subst e;exact Int.mul_fdiv_cancel_left k R
def NS(a b:Int):gi a b ∣ a:=Int.gcd_dvd_left a b
def QE(a b:Int):gi a b ∣ b:=Int.gcd_dvd_right a b
def ZD{t b:Int}(T:b≠0):t.fdiv (gs t b)=(Rat.divInt t b).num:=by
 have U:=N9 (a:=t) T;obtain⟨k,R⟩:=NS t b;rw[Rat.num_divInt,Int.gcd_comm b t];show t.fdiv (gs t b)=b.sign*t / gi t b;unfold gs;generalize gi t b=g at U R ⊢;rcases Int.lt_or_gt_of_ne T with h|h
 .rw[if_pos h,Int.sign_eq_neg_one_of_neg h,Gj (k:=-k) AC (by rw[R];simp[Int.mul_neg,Int.neg_mul])];have:-1*t=g*(-k):=by rw[R];simp[Int.mul_neg]
  rw[this,Int.mul_ediv_cancel_left _ AC]
 .rw[if_neg AC,Int.sign_eq_one_of_pos h,Gj (k:=k) AC R,Int.one_mul,R,Int.mul_ediv_cancel_left _ AC]
def YG{t b:Int}(T:b≠0):b.fdiv (gs t b)=((Rat.divInt t b).den:Int):=by
 have U:=N9 (a:=t) T;obtain⟨k,R⟩:=QE t b;rw[Rat.den_divInt,if_neg T,Int.gcd_comm b t];have e:(((b.natAbs / Int.gcd t b:Nat)):Int)=(b.natAbs:Int) / gi t b:=by unfold gi;simp
 rw[e];unfold gs;generalize gi t b=g at U R ⊢;rcases Int.lt_or_gt_of_ne T with h|h
 .rw[if_pos h,Gj (k:=-k) AC (by rw[Int.neg_mul_neg];exact R)];have:(b.natAbs:Int)=g*(-k):=by rw[Int.mul_neg,<-R];lia
  rw[this,Int.mul_ediv_cancel_left _ AC]
 .rw[if_neg AC,Gj (k:=k) AC R];have:(b.natAbs:Int)=g*k:=by rw[<-R];lia
  rw[this,Int.mul_ediv_cancel_left _ AC]
def Fh(a b:Int):(a.fdiv b).natAbs<=a.natAbs:=by
 cases a with
 |ofNat n=>
  cases n with
  |zero=>
   have e:Int.fdiv (.ofNat 0) b=0:=Int.zero_fdiv b;rw[e];exact az _
  |succ k=>
   cases b with
   |ofNat j=>exact Nat.div_le_self Pi j
   |negSucc j=>exact Nat.succ_le_succ (Nat.div_le_self k (j+1))
 |negSucc k=>
  cases b with
  |ofNat j=>
   cases j with
   |zero=>exact az _
   |succ j=>exact Nat.succ_le_succ (Nat.div_le_self k (j+1))
  |negSucc j=>exact Nat.div_le_self Pi (j+1)
def rX{t b:Int}(g:b≠0):(Rat.divInt t b).num.natAbs<=t.natAbs:=by
 rw[<-ZD g];exact Fh _ _
def ij{t b:Int}(g:b≠0):(Rat.divInt t b).den<=b.natAbs:=by
 have h:=Fh b (gs t b);rw[YG g]at h
 simpa using h
def Nr(p:Rat):(p.den:Int)≠0:=by
 have:=p.den_nz
 lia
def Dg(p:Rat):Rat.divInt p.num p.den=p:=Rat.num_divInt_den p
def tT(p q:Rat):Rat.divInt (p.num*q.den+q.num*p.den) (p.den*q.den)=p+q:=by
 rw[<-Rat.divInt_add_divInt _ _ (Nr p) (Nr q),Dg,Dg]
def mn(p q:Rat):Rat.divInt (p.num*q.den-q.num*p.den) (p.den*q.den)=p-q:=by
 rw[<-Rat.divInt_sub_divInt _ _ (Nr p) (Nr q),Dg,Dg]
def Sh(p q:Rat):Rat.divInt (p.num*q.num) (p.den*q.den)=p*q:=by
 rw[<-Rat.divInt_mul_divInt,Dg,Dg]
def Nt(p q:Rat):(p.den:Int)*q.den≠0:=Int.mul_ne_zero (Nr p) (Nr q)
def mz{p q:Rat}(g:p.num=q.num)(R:(p.den:Int)=(q.den:Int)):p=q:=Rat.ext g AC
def I0{x y:Int}{m n:Nat}(R:x.natAbs<2^m)(g:y.natAbs<2^n):(x*y).natAbs<2^(m+n):=by
 rw[(QV),(NQ)];exact Nat.mul_lt_mul'' R g
def sL{x y:Int}{n:Nat}(R:x.natAbs<2^n)(g:y.natAbs<2^n):(x-y).natAbs<2^(n+1):=by
 rw[Nat.pow_succ];lia
def Nm{x:Nat}{m n:Nat}(g:x<2^m)(h:m<=n):x<2^n:=aH g (aZ AT h)
def Fits(p:Rat)(n:Nat):Prop:=p.num.natAbs<2^n/\p.den<2^n
def Fits.mono{p:Rat}{m n:Nat}(h:Fits p m)(l:m<=n:=by decide):Fits p n:=⟨Nm h.1 l,Nm h.2 l⟩
def Fits.d{p:Rat}{n:Nat}(h:Fits p n):((p.den:Int)).natAbs<2^n:=by simpa using h.2
def Fits.UU{t b:Int}{n:Nat}(g:b≠0)(T:t.natAbs<2^n)(R:b.natAbs<2^n):Fits (Rat.divInt t b) n :=
 ⟨aW (rX g) T,Nat.lt_of_le_of_lt (ij g) R⟩
def ja{p q:Rat}{m n:Nat}(h:Fits p m)(k:Fits q n):(p.num*q.den-q.num*p.den).natAbs<2^(m+n+1) :=
 sL (I0 h.1 k.d) (by have:=I0 k.1 h.d;rwa [Nat.add_comm n m]at this)
def dd{p q:Rat}{m n:Nat}(h:Fits p m)(k:Fits q n):((p.den:Int)*q.den).natAbs<2^(m+n):=I0 h.d k.d
def nn{p q:Rat}{m n:Nat}(h:Fits p m)(k:Fits q n):(p.num*q.num).natAbs<2^(m+n):=I0 h.1 k.1
def Fits.less{p q:Rat}{m n:Nat}(h:Fits p m)(k:Fits q n):Fits (p-q) (m+n+1):=by
 rw[<-mn];exact .UU (Nt p q) (ja h k) (Nm (dd h k) AC)
def Fits.times{p q:Rat}{m n:Nat}(h:Fits p m)(k:Fits q n):Fits (p*q) (m+n):=by
 rw[<-Sh];exact .UU (Nt p q) (nn h k) (dd h k)
end FM
namespace FM
def Z7(a b:Int):Int.gcd (if a<0 then -a else a) (if b<0 then -b else b)=Int.gcd a b:=by
 split<;>split<;>simp[Int.gcd_neg,Int.neg_gcd]
def abs_nonneg(a:Int):0<=(if a<0 then -a else a):=by split<;>lia
def fc{g a b:Int}(h:Int.gcd g 0=Int.gcd a b)(h0:0<=g):g=gi a b:=by
 unfold gi;rw[<-h,Int.gcd_zero_right]
 lia
def fmod_nonneg{g l:Int}(R:l≠0)(h:0<=l):0<=g.fmod l:=Int.fmod_nonneg_of_pos g AC
end FM
namespace L2
open PySem PySem.Spec PyProof.Rows
structure Fn(K:Fg)(mg:Str->Option Value)(x:Str)(st:Stmt)(ps:List Str)(f:Addr)(fd:FuncData):Prop where
 F:Vf K x x st f fd
 b:Binds K fd ps []
 m:mg x=some (.ref f)
section
variable{X:Cx}{k:Nat}{f:AD}{fd:F0a}{ps:zC}{sp:Sp}{x:Str}{st:Stmt}{p pos:Pos}{e:Expr}{es:zD}{t:TA}
def Dq(T:Fn X.K X.mg x st ps f fd)(G:AK X.prog X.w X.K X.mg X.base Af k f fd ps sp)(U:EN k X.A)(Y:Gl X x)(ha:PA X No t) (R:GE=false:=by decide)(Z:starEach No X.env=Go::starEach es X.env:=by rfl)(g:(backTo pos M5).any M0=false:=by rfl):PE X IN (dy sp [] E0 t):=Z1 G U Y T.m T.F.kp T.b .nil uh ha R Z g
end
def R8{t u:TS}{D:Ends}{σ:St}{H:Hp}(P:St->Hp->Prop)(T:∀nx:St->Hp->Prop,(∀g H',P g H'->nx g H')->t {D with nx:=nx} σ H)(R:∀g H',P g H'->u D g H'):rO t u D σ H:=T _ R
def RE:2<=sizeLine:=by decide
def Ag{H:Hp}{p:AD}(h:H p=none)(o:HO):AL H (upd H p o):=fun b u q=>by rw[AN (Am q h)];exact q
def SameBut(l:AD)(H H':Hp):Prop:=∀b o,b≠l->H b=some o->H' b=some o
def SameBut.of{l:AD}{H H':Hp}(h:AL H H'):SameBut l H H':=fun b o _ q=>h b o q
theorem SameBut.upd{l:AD}{H:Hp}{o:HO}:SameBut l H (upd H l o):=fun b u n q=>by rw[AN n];exact q
def Kv(p:Rat):zJ:=[.int p.num,.int (p.den:Int)]
def Rt(K:Fg)(H:Hp)(p:Rat)(v:V):Prop:=∃a,v=.ref a/\BK K H a (Kv p)
def Rt.of{K:Fg}{H:Hp}{p:Rat}{a:AD}(h:H a=some (.tup (Kv p))):Rt K H p Hf:=⟨a,rfl,.of h⟩
def AW(p:Rat):PD:=.tuple [.int p.num,.int (p.den:Int)]
def SW{i j:Int}{m n:Nat}(R:i.natAbs<2^m)(g:j.natAbs<2^n)(h:m+n<=1000000):Yd i j\/UX i j :=
 .inr ⟨m+n,h,FM.Nm R (Nat.le_add_right _ _),FM.Nm g (Nat.le_add_left _ _)⟩
structure yB(P:Program)(w:World)(outer:List Env)(H:Hp)(s:Shared)(ea:Addr)(cls a0:Value)(H':Hp)(s':Shared)(B:Heap):Prop where
 os:s'.os=s.os
 bare:AllBare s'.gens
 yf:Heap.FlyingW B outer ea cls a0 s'.heap
 keep:∀b o,s.heap.get? b=some o->H b=none->b ∉ IB outer->B.get? b=some o
 there:∀b o,s.heap.get? b=some o->b ∉ IB outer->∃o',B.get? b=some o'
 slot:∀b o,s.heap.get? b=some o->b∈IB outer->∃sl,s'.heap.get? b=some {o with slots:=sl}
 free:∀b o,s.heap.get? b=some o->H b=none->H' b=none
 BC:∀b xs,H b=some Ke->H' b=some Ke
 Im:∀b o u,H b=some (.GL o u)->H' b=some (.GL o u)
 KG:∀b ps,H b=some (.UD ps)->∃more,H' b=some (.UD (ps++more))
 J0:∀b xs o,H b=some Ke->s.heap.get? b=some o->B.get? b=some o
 A9:GH P w H' B
 new:s.heap.get? ea=none
def CA(P:F0b)(w:F0c):Iw:=fun outer H s E e s'=>∃ea cls a0 H' B,e=.ref ea/\yB P w outer H s ea cls a0 H' s' B/\E cls none H'
def YO{base h:Heap}{l:zN}(F:h.FunFrames base l){b:AD}(g:b∈IB l):∃o,h.get? b=some o/\∀vs,o.data≠.fields vs:=(F.mem g).2
section
variable{P:F0b}{w:F0c}{K:Fg}{mg:y0}{base:Heap}{N:zC}{qual:Str}{scope:Scope}{f:AD}{cd:VL}{A:F0d}{outer:zN}{s:SD}{H:Hp}{E:XK}
def nH{pins:Cu}{σ:St}{Z:Hp}{s1:SD}{h':Heap}{ea:AD}{cls:VL}{args:yy}(I:Inv (DZ Kf P w K mg base N qual scope f cd A outer s H E) pins σ Z s1) (hx:Heap.MadeExcOf s1.heap h' ea cls args)(hE:E cls none Z):(DZ Kf P w K mg base N qual scope f cd A outer s H E).xe (.ref ea) {s1 with heap:=h'}:=by
 show wpAny (model P w) (A.deeper Km) (leaving Km (.ref ea)) _ _ _;have FF:=I.stack;have hfr:(A.deeper Km).frames=some (envOfC qual scope s.heap.objs.size f cd::outer):=I.ok.frames;have hin:∀env∈(envOfC qual scope s.heap.objs.size f cd::outer),∀b,env.frame=some b->b∈(envOfC qual scope s.heap.objs.size f cd::outer).filterMap (·.frame):=fun env he b R=>List.mem_filterMap.mpr ⟨env,he,R⟩;have T:∀b o,s.heap.get? b=some o->b≠s.heap.objs.size:=fun b o e=>aI (aF e);have out:∀b,b≠s.heap.objs.size->b ∉ IB outer->b ∉ (envOfC qual scope s.heap.objs.size f cd::outer).filterMap (·.frame):=fun b h1 h2 hm=>by
  rcases aM.mp (I.Qq b hm) with z|z
  .exact h1 z
  .exact h2 z
 have g:∀b u,Z b=some u->b ∉ (envOfC qual scope s.heap.objs.size f cd::outer).filterMap (·.frame):=fun b u e hm=>by
  have:=I.VC b hm;rw[e]at this;cases this
 refine wpAny_leaves_madeW (base:=PySem.W.hideAll s1.heap ((envOfC qual scope s.heap.objs.size f cd::outer).filterMap (·.frame))) hfr rfl (fun b o q=>PySem.W.of_hideAll _ q) (PySem.W.funFrames_hide FF hin) hx fun h2 t fl _ _ up=>?_;have Y:GH P w Z (PySem.W.hideAll s1.heap ((envOfC qual scope s.heap.objs.size f cd::outer).filterMap (·.frame))):=fun b u e=>
  (I.A9 b u e).Ob (fun c v hc q=>PySem.W.hideAll_get _ q (by
   rcases hc with rfl|hc
   .exact g _ _ e
   .exact g _ _ hc)) (fun _ q=>q) fun _ _ q=>q
 refine⟨ea,cls,.ref t,Z,_,rfl,⟨I.os,I.bare,fl,fun b o e n R=>?_,fun b o e R=>?_,fun b o e R=>?_,fun b o e n=>I.base.free b o e n (by simp[DZ]),I.base.BC,I.base.Im,I.base.KG,fun b xs o q e=>PySem.W.hideAll_get _ (I.base.J0 b xs o q e (by simp[DZ])) (g b _ (I.base.BC b xs q)),Y,?_⟩,hE⟩
 .exact PySem.W.hideAll_get _ (I.base.keep b o e n R (by simp[DZ])) (out b (T b o e) R)
 .obtain⟨o',U⟩:=I.base.there b o e (by simp[DZ]);exact⟨o',PySem.W.hideAll_get _ U (out b (T b o e) R)⟩
 .obtain⟨sl,U⟩:=I.base.slot b o e (I.ok.Vr b R) R (by simp[DZ]);obtain⟨o',e2,hd⟩:=YO I.J5 R;rw[U]at e2;cases e2;obtain⟨sl',e3⟩:=up b _ (hx.keeps _ _ U) hd;exact⟨sl',e3⟩
 .cases q:s.heap.get? ea with
  |none=>rfl
  |some o=>
   obtain⟨o',U⟩:=I.base.there ea o q (by simp[DZ]);have:=hx.new;rw[U]at this;cases this
def uc{E':XK}(hE:∀c a H',E' c a H'->E c a H'):Passes Kf (DZ Kf P w K mg base N qual scope f cd A outer s H E) E':=by
 intro pins σ H1 s1 e s2 I ⟨ea,cls,a0,H2,B,ee,F,hq⟩;subst ee;show wpAny (model P w) (A.deeper Km) (leaving Km (.ref ea)) _ _ _;have T:∀b o,s.heap.get? b=some o->b≠s.heap.objs.size:=fun b o e=>aI (aF e);have out:∀b,b≠s.heap.objs.size->b ∉ IB outer->b ∉ IB (DZ Kf P w K mg base N qual scope f cd A outer s H E).stack:=fun b h1 h2 hm=>by
  rcases aM.mp (I.Qq b hm) with z|z
  .exact h1 z
  .exact h2 z
 refine wpAny_leaves_onW I.ok.frames rfl F.yf fun h3 fl up=>?_;refine⟨ea,cls,a0,H2,B,rfl,⟨F.os.trans I.os,F.bare,fl,fun b o e n R=>?_,fun b o e R=>?_,fun b o e R=>?_,fun b o e n=>?_,fun b xs q=>F.BC b xs (I.base.BC b xs q),fun b o u q=>F.Im b o u (I.base.Im b o u q),fun b ps q=>?_,fun b xs o q e=>F.J0 b xs o (I.base.BC b xs q) (I.base.J0 b xs o q e (by simp[DZ])),F.A9,?_⟩,hE _ _ _ hq⟩
 .exact F.keep b o (I.base.keep b o e n R (by simp[DZ])) (I.base.free b o e n (by simp[DZ])) (out b (T b o e) R)
 .obtain⟨o',g⟩:=I.base.there b o e (by simp[DZ]);exact F.there b o' g (out b (T b o e) R)
 .obtain⟨sl,g⟩:=I.base.slot b o e (I.ok.Vr b R) R (by simp[DZ]);have Y:b∈IB (DZ Kf P w K mg base N qual scope f cd A outer s H E).stack:=by
   show b∈IB (envOfC qual scope s.heap.objs.size f cd::outer);unfold IB;rw[(U4)];exact aS _ R
  obtain⟨sl2,Z⟩:=F.slot b _ g Y;obtain⟨o',e3,hd⟩:=YO I.J5 R;rw[g]at e3;cases e3;obtain⟨U,e4⟩:=up b _ Z hd;exact⟨U,e4⟩
 .obtain⟨o',g⟩:=I.base.there b o e (by simp[DZ]);exact F.free b o' g (I.base.free b o e n (by simp[DZ]))
 .obtain⟨m1,g⟩:=I.base.KG b ps q;obtain⟨m2,Z⟩:=F.KG b _ g;exact⟨m1++m2,by rw[Z,Array.append_assoc]⟩
 .cases q:s.heap.get? ea with
  |none=>rfl
  |some o=>
   obtain⟨o',g⟩:=I.base.there ea o q (by simp[DZ]);have:=F.new;rw[g]at this;cases this
def Vf.yl{x:Str}{st:Stmt}{fd:F0a}{ps:zC}{k:Nat}{sp:Sp}(F:Vf K x x st f fd)(S:Ac N ps (AO st))(len:∀vs H Q E,sp vs H Q E->vs.length=ps.length) (g:∀(cdv:VL) (A:F0d) (outer:zN) (s:SD) (H:Hp) (vs:zJ) (Q:VK) (E:XK),EN k (A.deeper (envOfC x (AO st) s.heap.objs.size f cdv))->sp vs H Q E ->∃t,Jp (DZ Kf P w K mg base N x (AO st) f cdv A outer s H E) (E9 st) t/\t { nx:=fun _ H'=>Q .BP H',rt:=Q} (start N vs) H):AK P w K mg base Kf Pi f fd ps sp:=by
 obtain⟨oc,od,kV,doc,pm,an,cdv,ct,osl,rfl,lk,T⟩:=F.ex;exact lI lk T S len fun A outer s H vs Q E U R=>g cdv A outer s H vs Q E U R
def AK.yU{fd:F0a}{ps:zC}{k:Nat}{sp:Sp}(F:AK P w K mg base Af k f fd ps sp):AK P w K mg base Kf k f fd ps sp :=
 ⟨F.len,fun A outer s H args us vs Q E T U Y g R=>codeAny_mono (F.run A outer s H args us vs Q E T U Y g R) fun r s' h=>by
  cases r with
  |ok Z=>cases Z<;>exact h
  |error e=>exact False.elim h⟩
end
structure Exc(K:Fg)(mg:Str->Option Value)(x:Str)(C:Addr):Prop where
 m:mg x=some (.ref C)
 q:PySem.W.excIn K C [.type "ValueError",.type "Exception",.type "BaseException",.type "object"] "ValueError.__new__" = true
def nh{K:Fg}{h:Heap}{C:AD}{bB:yy}{R:String}(US:K.In h)(g:PySem.W.excIn K C bB R=true):∃T N nm Y bs hd sn sub ab col dd k0 k1 k2 k3 k5 mN,h.get? C=some (excClassObj nm Y C N bs T hd sn sub ab col dd k0 k1 k2 k3 k5 R)/\h.Ns N mN/\mN "__init__" = none/\OwnTail h bB T:=by
 unfold PySem.W.excIn at g;split at g
 .rename_i dd cd sl lk;split at g
  .rename_i C1 T k0 k1 k2 k3 n1 k5 e1 e2;simp only[Bool.and_eq_true,beq_iff_eq,Bool.not_eq_true']at g;obtain⟨⟨⟨⟨⟨y1,y2⟩,y3⟩,y4⟩,U⟩,Z⟩:=g;subst y1 y2;obtain⟨nm,bs,mro,N,Y,hd,sn,sub,ab,col,del⟩:=cd;dsimp only at e1 y3 U Z;subst e1 y3;have e3:sl=#[k0,k1,k2,k3,some (.builtin n1),k5]:=by
    cases sl with
    |mk l=>simp only at e2;rw[e2]
   subst e3;exact⟨T,N,nm,Y,bs,hd,sn,sub,ab,col,dd,k0,k1,k2,k3,k5,_,US _ _ lk,.of_isNs (PySem.W.isNs_of_in US U),PySem.W.nsMap_none_of_in US U Z,PySem.W.tail_of_in US y4⟩
  .cases g
 .cases g
section
variable{X:Cx}{x:Str}{C:AD}{np cpos pos:Pos}{e:Expr}{te:TE}{E:XK}
def Lets(X:Cx)(E:XK):Prop:=∀(pins:Cu) (σ:St) (H:Hp) (s:SD) (h':Heap) (ea:AD) (cls:VL) (args:LQ),Inv X pins σ H s->Heap.MadeExcOf s.heap h' ea cls args->E cls none H->X.xe (.ref ea) Op
def sP(C:AD)(E:XK)(te:TE):TS:=fun _ σ H=>te σ H fun _ g=>E (.ref C) none g
def je(T:Exc X.K X.mg x C)(hL:Lets X E)(R:bi)(hg:Gl X x)(he:PE X e te)(hd:GE=false:=by decide) (U:starEach [e] X.env=[Go]:=by rfl):PS X (.Raise (some (.Call Qa [e] [] cpos)) none pos) (sP C E te):=by
 intro pins s σ H D I h;obtain⟨tl,N,nm,qn,bs,g,sn,sub,ab,col,dd,k0,k1,k2,k3,k5,mN,hC,hN,Z,TL⟩:=nh I.ok.mod.US T.q;refine wpAny_Raise_call_subT (C:=C) (nm:=nm) (q:=qn) (N:=N) (bs:=bs) (bm:=tl) (hdct:=g) (sn:=sn) (sub:=sub) (ab:=ab) (col:=col) (dd:=dd) (k0:=k0) (k1:=k1) (k2:=k2) (k3:=k3) (k5:=k5)
  PySem.F.excBase_ValueError (mN:=mN) (TL.hasType AT) (I.ok.hd R) (by rw[U];rfl) Z (Ug I hg T.m ⟨rfl,?_⟩ hd)
 rw[U];refine Calls.evalArgs_plain (Calls.spliced_cons (BX (he pins s σ H _ I h) fun u s1 ⟨v,H1,Y,r1,q1⟩=>Calls.spliced_nil ?_));exact⟨rfl,by show 1<=sizeLine;decide,Y.bk _ _ hC,hN.keeps Y.bk,TL.keeps Y.bk,fun h' ea hm=>hL pins σ H1 s1 h' ea _ _ Y hm q1⟩
end
def wm(ea:AD)(cls:VL):HO:=.ext fun h=>∃o vs,h.get? ea=some o/\o.cls=cls/\o.data=.fields vs
structure Q0(K:Fg)(C G:Addr)(b:Bool):Prop where
 cl:(PySem.W.clsIn K G).isSome=true
 ty:PySem.W.typeIn K (.ref G)=some (.type "type")
 ex:PySem.W.subIn K (.ref G) To=some true
 sub:PySem.W.subIn K (.ref C) (.ref G)=some b
open PySem PySem.Spec PyProof.Rows PySem.Builtin.ObjectAttr PySem.Builtin.Getset_descriptor
structure ed(K:Fg)(C:Addr):Prop where
 cl:(PySem.W.clsIn K C).isSome=true
 ga:PySem.W.findIn K (.ref C) "__getattribute__" = some (some (.builtin "BaseException.__getattribute__"))
 gh:PySem.W.findIn K (.ref C) "__getattr__" = some none
 at_:PySem.W.findIn K (.ref C) "__class__" = some (some (.builtin "object.__class__"))
 gt:PySem.W.specialIn K (.builtin "object.__class__") "__get__" = some (some (.builtin "getset_descriptor.__get__"))
 tk:PySem.W.takesIn K (.builtin "object.__class__")=some true
 ob:PySem.W.mroIn K C (.type "object")=some true
 be:PySem.W.mroIn K C To=some true
def Xw:V->VL
 |.ref C=>.ref C
 |.ty n=>.type n
 |_=>.none
def nW{c:V}{u:VL}(r:RelV c u)(h:Xw c≠.none):u=Xw c:=by
 cases c with
 |ref C=>exact r
 |ty n=>exact r
 |_=>exact absurd rfl h
section
variable{X:Cx}
def xF(K:Fg):List V->Hp->VK->Prop:=fun xs H Q=>∃x c t b,xs=[x,c]/\Xw c≠.none/\Jg K H x t/\PySem.W.kitOne K t (Xw c)=some b/\Q (.bl b) H
def kj:FZ X (.builtin "isinstance") (xF X.K):=by
 intro pins s σ H xs us Q I r h;obtain⟨x,c,t,b,rfl,T,ty,e,q⟩:=h;obtain⟨u,v,rfl,R,g⟩:=r.two;rw[nW g T];exact fT I R ty e fun tk=>⟨.bl b,H,I.tok tk,rfl,q⟩
end
def sR(K:Fg):PySem.W.kitOne K Fk Fk=some true:=rfl
def pf(K:Fg):PySem.W.kitOne K (.type "int") (.type "int")=some true:=rfl
def qx(K:Fg):PySem.W.kitOne K (.type "bool") (.type "bool")=some true:=rfl
def qj(K:Fg):PySem.W.kitOne K (.type "int") (.type "bool")=some false:=by kernel_rfl
def sm(K:Fg):PySem.W.kitOne K (.type "bool") (.type "int")=some true:=by kernel_rfl
def pJ(K:Fg):PySem.W.kitOne K (.type "list") Fk=some false:=by kernel_rfl
def qZ(K:Fg):PySem.W.kitOne K Fk (.type "list")=some false:=by kernel_rfl
def sO(K:Fg):PySem.W.kitOne K (.type "list") (.type "list")=some true:=rfl
def qJ(K:Fg):PySem.W.kitOne K (.type "int") Fk=some false:=by kernel_rfl
def qu(K:Fg):PySem.W.kitOne K (.type "bool") Fk=some false:=by kernel_rfl
def t9(K:Fg):PySem.W.kitOne K (.type "NoneType") Fk=some false:=by kernel_rfl
def rH(K:Fg):PySem.W.kitOne K (.type "str") Fk=some false:=by kernel_rfl
def pY(K:Fg):PySem.W.kitOne K Fk (.type "int")=some false:=by kernel_rfl
def uE(K:Fg):PySem.W.kitOne K (.type "list") (.type "int")=some false:=by kernel_rfl
def rz(K:Fg):PySem.W.kitOne K (.type "NoneType") (.type "int")=some false:=by kernel_rfl
def sG(K:Fg):PySem.W.kitOne K (.type "str") (.type "int")=some false:=by kernel_rfl
def pR(K:Fg):PySem.W.kitOne K (.type "int") (.type "list")=some false:=by kernel_rfl
def sQ(K:Fg):PySem.W.kitOne K (.type "bool") (.type "list")=some false:=by kernel_rfl
def uJ(K:Fg):PySem.W.kitOne K (.type "NoneType") (.type "list")=some false:=by kernel_rfl
def sI(K:Fg):PySem.W.kitOne K (.type "str") (.type "list")=some false:=by kernel_rfl
def freeOk(g:Scope)(names:List (Str×NameKind)):Bool:=names.all fun y=>y.2 != .free||g.names.lookup y.1==some .cell||g.names.lookup y.1==some .free
def Qg{g:Scope}{names:List (Str×NameKind)}(h:freeOk g names=true):∀y∈names,y.2=.free->g.names.lookup y.1=some .cell\/g.names.lookup y.1=some .free:=fun y R T=>by
 have q:=aL.mp h y R;rw[T]at q;simp only[bne_self_eq_false,Bool.false_or,Bool.or_eq_true,beq_iff_eq]at q;exact q
def C7(scope:Scope)(N:zC)(x:Str)(ix:Nat):Bool :=
 scope.kind==.function&&(scope.names.all fun y=>y.2 != .cell&&(y.2 != .local||scope.names.lookup y.1==some .local)&&(y.2 != .free||scope.names.lookup y.1==some .free))&&scope.names.lookup x==some .local&&decide N.Nodup&&N[ix]? == some x
def Jc{scope:Scope}{N:zC}{x:Str}{ix:Nat}(h:C7 scope N x ix=true):Fl scope N x ix:=by
 unfold C7 at h;simp only[Bool.and_eq_true,beq_iff_eq,decide_eq_true_eq,List.all_eq_true,bne_iff_ne,Bool.or_eq_true]at h;obtain⟨⟨⟨⟨h1,T⟩,Z⟩,Y⟩,U⟩:=h;exact⟨h1,fun y g=>(T y g).1.1,fun y g R=>(T y g).1.2.resolve_left fun z=>z R,fun y g R=>(T y g).2.resolve_left fun z=>z R,Z,Y,U⟩
section
variable{X:Cx}{elt iter:Expr}{x:Str}{px pos:Pos}{ifs:zD}{scope:Scope}{wi:TI}{tif:TT}{te:TE}
def HY(N:zC)(ix:Nat)(fr:zO)(hi:PI X (.Name x px) iter wi)(g:fy)(T:f8) (h1:C7 scope N x ix=true:=by decide +kernel)(h2:X.calm=true:=by rfl)(Z:HI N X.N scope X.env.scope fr 0=true:=by rfl)(Y:fr.length=N.length:=by rfl)(U:freeOk X.env.scope scope.names=true:=by rfl) (R:∀x,foldedSetIterable iter X.env x=pure x:=by intro _;rfl):PE X EQ (Qu wi fr ix tif te) :=
 oj (Jc h1) h2 Z Y (Qg U) hi g T R
def NJ{i:Nat}{y:Str}{Y g:Pos}(N:zC)(ix:Nat)(fr:zO)(hN:X.N.Nodup)(Z:X.N[i]? = some y)(T:X.env.scope.names.lookup y=some .local) (hi:PI X (.Name x px) iter wi)(U:fy)(he:f8) (h1:C7 scope N x ix=true:=by decide +kernel)(h2:X.calm=true:=by rfl)(h3:HI N X.N scope X.env.scope fr 0=true:=by rfl)(h4:fr.length=N.length:=by rfl)(h5:freeOk X.env.scope scope.names=true:=by rfl) (R:swapsWith EQ (some (.Name y Y)) g.line X.env=pure true:=by rfl) (hs:∀x,foldedSetIterable iter X.env x=pure x:=by intro _;rfl):PS X (.Assign [.Name y Y] EQ g) (YV (Qu wi fr ix tif te) (F5 i)) :=
 de hN Z T (Jc h1) h2 h3 h4 (Qg h5) hi U he R hs
end
section
variable{X:Cx}{k:Nat}{f:AD}{fd:F0a}{ps:zC}{sp:Sp}{x:Str}{st:Stmt}{p pos:Pos}{e:Expr}{es:zD}{t:TA}{E:XK}
def YH(T:Fn X.K X.mg x st ps f fd)(G:AK X.prog X.w X.K X.mg X.base (CA X.prog X.w) k f fd ps sp)(U:EN k X.A)(Y:Gl X x)(hP:Passes (CA X.prog X.w) X E)(ha:PA X No t) (R:GE=false:=by decide)(Z:starEach No X.env=Go::starEach es X.env:=by rfl)(g:(backTo pos M5).any M0=false:=by rfl):PE X IN (dy sp [] E t):=Z1 G U Y T.m T.F.kp T.b .nil hP ha R Z g
end
end L2
inductive Tr where
 |nil
 |cons (b r:Tr)
 deriving DecidableEq
abbrev zK:=List Tr
namespace Tr
def bs:Tr->List Tr
 |.nil=>[]
 |.cons b r=>b::r.bs
def of:List Tr->Tr
 |[]=>.nil
 |b::r=>.cons b (of r)
theorem Wo:∀t:Tr,of t.bs=t
 |.nil=>rfl
 |.cons b r=>by rw[bs,of,Wo r]
theorem Tp:∀l:List Tr,(of l).bs=l
 |[]=>rfl
 |b::r=>by rw[of,bs,Tp r]
def iH{t u:Tr}(h:t.bs=u.bs):t=u:=by rw[<-Wo t,h,Wo]
def len:Tr->Nat
 |.nil=>0
 |.cons _ r=>r.len+1
theorem Ft:∀t:Tr,t.bs.length=t.len
 |.nil=>rfl
 |.cons _ r=>by rw[bs,(Jz),Ft r,len]
def AI:Tr->Nat
 |.nil=>1
 |.cons b r=>b.AI+r.AI
def deep:Tr->Nat
 |.nil=>0
 |.cons b r=>max (b.deep+1) r.deep
def lt:Tr->Tr->Bool
 |.nil,.nil=>false
 |.nil,.cons _ _=>true
 |.cons _ _,.nil=>false
 |.cons b r,.cons c q=>if b=c then lt r q else lt b c
theorem lt_irrefl:∀t:Tr,lt t t=false
 |.nil=>rfl
 |.cons b r=>by rw[lt,if_pos rfl];exact lt_irrefl r
theorem lt_trans:∀a b c:Tr,lt a b=true->lt b c=true->lt a c=true
 |.nil,.nil,_,h,_=>by cases h
 |.nil,.cons _ _,.nil,_,h=>by cases h
 |.nil,.cons _ _,.cons _ _,_,_=>rfl
 |.cons _ _,.nil,_,h,_=>by cases h
 |.cons _ _,.cons _ _,.nil,_,h=>by cases h
 |.cons a r,.cons b s,.cons c t,R,g=>by
  rw[lt]at R g ⊢;by_cases Y:a=b
  .subst Y;rw[if_pos rfl]at R;by_cases T:a=c
   .subst T;rw[if_pos rfl]at g ⊢;exact lt_trans r s t R g
   .rw[if_neg T]at g ⊢;exact g
  .rw[if_neg Y]at R;by_cases T:b=c
   .subst T;rw[if_neg Y];exact R
   .rw[if_neg T]at g;have U:=lt_trans a b c R g;by_cases Z:a=c
    .subst Z;rw[lt_irrefl]at U;cases U
    .rw[if_neg Z];exact U
theorem Mh:∀a b:Tr,lt a b=false->lt b a=false->a=b
 |.nil,.nil,_,_=>rfl
 |.nil,.cons _ _,h,_=>by cases h
 |.cons _ _,.nil,_,h=>by cases h
 |.cons a r,.cons b s,R,g=>by
  rw[lt]at R g;by_cases e:a=b
  .subst e;rw[if_pos rfl]at R g;rw[Mh r s R g]
  .rw[if_neg e]at R;rw[if_neg (Ne.symm e)]at g;exact absurd (Mh a b R g) e
def RZ(a b c:Tr)(h:lt a c=true):lt a b=true\/lt b c=true:=by
 cases R:lt a b with
 |true=>exact .inl rfl
 |false=>
  right
  cases g:lt b a with
  |true=>exact lt_trans b a c g h
  |false=>rw[<-Mh a b R g];exact h
def lt_asymm{a b:Tr}(h:lt a b=true):lt b a=false:=by
 cases g:lt b a with
 |false=>rfl
 |true=>have:=lt_trans a b a h g;rw[lt_irrefl]at this;cases this
def Qk:List Tr->List Tr->Bool
 |[],[]=>false
 |[],_::_=>true
 |_::_,[]=>false
 |b::r,c::q=>if b=c then Qk r q else lt b c
theorem mK:∀t u:Tr,lt t u=Qk t.bs u.bs
 |.nil,.nil=>rfl
 |.nil,.cons _ _=>rfl
 |.cons _ _,.nil=>rfl
 |.cons b r,.cons c q=>by
  rw[lt,bs,bs,Qk,mK r q]
def kO:Tr->Bool
 |.nil=>true
 |.cons b r=>b.kO&&r.kO&&(match r with
  |.nil=>true
  |.cons c _=>!lt b c)
def ins(x:Tr):List Tr->List Tr
 |[]=>[x]
 |y::r=>if lt x y=true then y::ins x r else x::y::r
def Eh:List Tr->List Tr
 |[]=>[]
 |x::r=>ins x (Eh r)
end Tr
namespace TH
open PySem PyProof.Rows PySem.SeqAt
def Vs(h:Heap):Tr->List VL->Prop
 |.nil,us=>us=[]
 |.cons b r,us=>∃(a:AD) (g rest:LQ),us=.ref a::rest/\h.IsTuple a g.toArray/\Vs h b g/\Vs h r rest
theorem Vs.length{h:Heap}:∀ {t:Tr} {us:LQ},Vs h t us->us.length=t.len
 |.nil,us,e=>by rw[Vs]at e;rw[e];rfl
 |.cons b r,us,e=>by
  rw[Vs]at e;obtain⟨a,g,rest,rfl,_,_,q⟩:=e;rw[(Jz),Tr.len,Vs.length q]
def JL{h:Heap}{a:AD}{x y:Array VL}(U:h.IsTuple a x)(T:h.IsTuple a y):x=y:=by
 obtain⟨o,e,_,n,d⟩:=U;obtain⟨o',g,_,Y,R⟩:=T;rw[e]at g;cases g;rw[d]at R;cases R;rfl
theorem Vs.inj{h:Heap}:∀ {t u:Tr} {us:LQ},Vs h t us->Vs h u us->t=u
 |.nil,.nil,_,_,_=>rfl
 |.nil,.cons _ _,us,e,f=>by
  rw[Vs]at e;rw[Vs]at f;obtain⟨_,_,_,f,_⟩:=f;rw[e]at f;cases f
 |.cons _ _,.nil,us,e,f=>by
  rw[Vs]at e;rw[Vs]at f;obtain⟨_,_,_,e,_⟩:=e;rw[f]at e;cases e
 |.cons b r,.cons c q,us,e,f=>by
  rw[Vs]at e f;obtain⟨a,T,rest,rfl,h1,h2,h3⟩:=e;obtain⟨a',g,R,e',Z,Y,U⟩:=f;cases e';have:=JL h1 Z;have e2:T=g:=by simpa using this
  subst e2;rw[Vs.inj h2 Y,Vs.inj h3 U]
theorem Ww{s:SD}:∀(t u:Tr) (A:F0d) (us vs:LQ),Vs s.heap t us->Vs s.heap u vs->A.units+t.deep<=cLine ->
  ∀j (Z:j<us.length) (Y:j<vs.length),EqAt A s us[j] vs[j] (decide (t.bs[j]? = u.bs[j]?))
 |.nil,u,A,us,vs,e,f,_,j,Z,Y=>by
  rw[Vs]at e;subst e;exact absurd Z (av _)
 |.cons b r,.nil,A,us,vs,e,f,_,j,Z,Y=>by
  rw[Vs]at f;subst f;exact absurd Y (av _)
 |.cons b r,.cons c q,A,us,vs,e,f,hu,j,Z,Y=>by
  rw[Vs]at e f;obtain⟨a,R,rest,rfl,k1,k2,k3⟩:=e;obtain⟨a',g,T,rfl,l1,l2,l3⟩:=f;have hd:(Tr.cons b r).deep=max (b.deep+1) r.deep:=rfl;cases j with
  |zero=>
   show EqAt A s Hf (.ref a') (decide (some b=some c));by_cases ea:a=a'
   .subst ea;have:=JL k1 l1;have e2:R=g:=by simpa using this
    subst e2;rw[Vs.inj k2 l2,decide_eq_true rfl];exact EqAt.same _
   .refine EqAt.of_refs ea ?_;have key:=RcAt.tuples (s:=s) (A:=A) (e:=fun j=>decide (b.bs[j]? = c.bs[j]?)) k1 l1 AC fun j x1 x2=>by
     have:=Ww b c A.in1 R g k2 l2 Jl j (by simpa using x1) (by simpa using x2)
     simpa using this
    have ev:((List.range (min R.toArray.size g.toArray.size)).all (fun j=>decide (b.bs[j]? = c.bs[j]?))&&R.toArray.size==g.toArray.size)=decide (some b=some c):=by
     have z1:R.toArray.size=b.bs.length:=by rw[Tr.Ft,<-Vs.length k2];simp
     have z2:g.toArray.size=c.bs.length:=by rw[Tr.Ft,<-Vs.length l2];simp
     rw[z1,z2];by_cases U:b=c
     .subst U;simp
     .rw[decide_eq_false (fun z=>U (af z))];cases hl:b.bs.length==c.bs.length with
      |false=>rw[Bool.and_false]
      |true=>
       rw[Bool.and_true];have hl':b.bs.length=c.bs.length:=by simpa using hl
       refine bV.mpr fun z=>U (Tr.iH (List.ext_getElem? fun i=>?_));by_cases hi:i<b.bs.length
       .have:=aL.mp z i (bX.mpr AC)
        simpa using this
       .rw[List.getElem?_eq_none AC,List.getElem?_eq_none AC]
    rw[ev]at key;exact key
  |succ j=>
   exact Ww r q A rest T k3 l3 AC j (by simpa using Z) (by simpa using Y)
def OG{s:SD}{t u:Tr}{A:F0d}{a b:AD}{g its':yy}(T:s.heap.IsTuple a g.toArray)(k1:Vs s.heap t g)(R:s.heap.IsTuple b its'.toArray)(k2:Vs s.heap u its')(U:SZ):EqAt A s Hf (.ref b) (decide (t=u)):=by
 have:=Ww (.cons t .nil) (.cons u .nil) A [.ref a] [.ref b] ⟨a,g,[],rfl,T,k1,by rw[Vs]⟩ ⟨b,its',[],rfl,R,k2,by rw[Vs]⟩ (by show A.units+max (t.deep+1) 0<=cLine;lia) 0 At At
 simpa[Tr.bs]using this
section
open PySem.AutoSeq1 (wpAny_loadPart')
open PySem.MeetsSeq PySem.MeetsSeq2 PySem.MeetsSeq3
def YL(n0:Nat)(ih:∀(t u:Tr) (A:F0d) (s:SD) (a b:AD) (its its':yy),t.deep<n0->s.heap.IsTuple a its.toArray->Vs s.heap t its->s.heap.IsTuple b its'.toArray->Vs s.heap u its'->A.units+t.deep<cLine ->∀(prog:F0b) (w:F0c) (E:yz) (Q:yz),Q (.bool (Tr.lt t u)) s->wpAny AS A (richCompare .Lt Hf (.ref b)) Q E s) (l b:AD)(items T:Array VL)(n n2:Nat)(dd dd2:Option AD)(sl sl2:Array (Option VL))(t u:Tr)(ht:t.deep<=n0):Meets (Builtin.«tuple.__lt__» ⟨[.ref l,.ref b],[]⟩) (fun A R s=>s.heap.get? l=some { cls:=.type "tuple",dict:=dd,data:=.seq items n,slots:=sl}/\s.heap.get? b=some { cls:=.type "tuple",dict:=dd2,data:=.seq T n2,slots:=sl2} /\Vs s.heap t items.toList/\Vs s.heap u T.toList/\A.units+t.deep<cLine/\R (.ok (.ret (.bool (Tr.lt t u)))) s) :=
 .of_wp fun prog w A R s h=>by
  obtain⟨hp,g,d,tk,os⟩:=s;obtain⟨hl,hb,hi,hj,hun,h⟩:=h;have f2:=AutoSeq1.sub_tuple_tuple;have z1:items.size=t.len:=by rw[<-Vs.length hi];simp
  have z2:T.size=u.len:=by rw[<-Vs.length hj];simp
  wp_walk using wpAny_loadPart' hl,wpAny_loadPart' hb,wpAny_forIn_list _ (fun rest b s'=>b.1=none/\s'=⟨hp,g,d,tk,os⟩/\∃(vs ws:LQ) (t' u':Tr),rest=vs.zip ws /\
   Vs hp t' vs/\Vs hp u' ws/\t'.deep<=t.deep/\t'.len+T.size=u'.len+items.size/\R (.ok (.ret (.bool (Tr.lt t' u')))) ⟨hp,g,d,tk,os⟩) _
  case turn=>
   rintro⟨y,x⟩ rest b s' ⟨hb',rfl,vs,ws,t',u',hz,Z,Y,hdp,U,hR⟩;cases t' with
   |nil=>rw[Vs]at Z;subst Z;rw[List.zip_nil_left]at hz;cases hz
   |cons bt rt=>
    cases u' with
    |nil=>rw[Vs]at Y;subst Y;rw[List.zip_nil_right]at hz;cases hz
    |cons bu ru=>
     rw[Vs]at Z Y;obtain⟨a1,i1,v1,rfl,p1,p2,p3⟩:=Z;obtain⟨a2,i2,v2,rfl,q1,q2,q3⟩:=Y;rw[(NT)]at hz
     injection hz with hyx hrest
     injection hyx with hy hx
     subst hy hx;have hdd:(Tr.cons bt rt).deep=max (bt.deep+1) rt.deep:=rfl;rw[Tr.lt]at hR;simp only[Tr.len]at U;have he:=OG (s:=⟨hp,g,d,tk,os⟩) (A:=A.in1) p1 p2 q1 q2 Jl;refine Wb (he prog w _ _ ?_);cases hc:decide (bt=bu) with
     |true=>
      rw[if_pos (aP hc)]at hR
      wp_walk
      exact⟨rfl,rfl,_,_,_,_,hrest,p3,q3,by lia,by lia,hR⟩
     |false=>
      rw[if_neg (bR hc)]at hR;have hri:=ih bt bu A.in1 ⟨hp,g,d,tk,os⟩ a1 a2 i1 i2 AC p1 p2 q1 q2 Jl prog w
      wp_walk using hri
      exact⟨_,rfl,by simpa using hR⟩
  case fin=>
   rintro⟨b1,b2⟩ s' ⟨hb',rfl,vs,ws,t',u',hz,Z,Y,hdp,U,hR⟩;simp only at hb';subst hb';have hv:Tr.lt t' u'=decide (items.size<T.size):=by
    cases t' with
    |nil=>
     cases u' with
     |nil=>
      simp only[Tr.len]at U;exact(bF AC).symm
     |cons c q=>
      simp only[Tr.len]at U;exact(bf AC).symm
    |cons bt rt=>
     cases u' with
     |nil=>
      simp only[Tr.len]at U;exact(bF AC).symm
     |cons c q=>
      rw[Vs]at Z Y;obtain⟨_,_,_,rfl,_⟩:=Z;obtain⟨_,_,_,rfl,_⟩:=Y;rw[(NT)]at hz;cases hz
   rw[hv]at hR
   wp_walk
   exact⟨_,rfl,by simpa[Builtin.Tuple.tupleCompareSizes]using hR⟩
  case h=>
   exact⟨rfl,rfl,items.toList,T.toList,t,u,rfl,hi,hj,Nat.le_refl _,by lia,h⟩
theorem Wj:∀(Z:Nat) (t u:Tr) (A:F0d) (s:SD) (a b:AD) (g its':LQ),t.deep<Z->s.heap.IsTuple a g.toArray->Vs s.heap t g->s.heap.IsTuple b its'.toArray->Vs s.heap u its'->A.units+t.deep<cLine ->
   ∀(prog:F0b) (w:F0c) (E:Uf) (Q:Uf),Q (.bool (Tr.lt t u)) s->wpAny AS A (richCompare .Lt Hf (.ref b)) Q E s
 |0,_,_,_,_,_,_,_,_,h,_,_,_,_,_=>absurd h (av _)
 |Z+1,t,u,A,s,a,b,g,its',hd,hl,ht,hb,hu',hun=>fun prog w E Q h=>by
  obtain⟨⟨cls,dd,data,sl⟩,ho,hc,n,U⟩:=id hl;obtain⟨⟨cls2,dd2,data2,sl2⟩,T,Y,n2,R⟩:=id hb;simp only at hc U Y R;subst hc U Y R;exact richCompare_meets_room (op:=.Lt) ⟨_,ho,rfl⟩ ⟨_,T,rfl⟩ PySem.F.slot_tuple_lt PySem.F.entry_tuple_lt (PySem.F.args_tuple_lt_2 _ _) (YL Z (Wj Z) a b g.toArray its'.toArray n n2 dd dd2 sl sl2 t u AC)
   ⟨ho,T,by simpa using ht,by simpa using hu',hun,show Value.bool (Tr.lt t u)≠Value.notImplemented/\Q (.bool (Tr.lt t u)) s from⟨(fun x=>nomatch x),h⟩⟩ AC
end
section
open PySem.AutoSeq1 (wpAny_loadPart')
open PySem.MeetsSeq PySem.MeetsSeq2 PySem.MeetsSeq3
def jn(n0:Nat)(ih:∀(t u:Tr) (A:F0d) (s:SD) (a b:AD) (its its':yy),t.deep<n0->s.heap.IsTuple a its.toArray->Vs s.heap t its->s.heap.IsTuple b its'.toArray->Vs s.heap u its'->A.units+t.deep<cLine ->∀(prog:F0b) (w:F0c) (E:yz) (Q:yz),Q (.bool (Tr.lt u t)) s->wpAny AS A (richCompare .Gt Hf (.ref b)) Q E s) (l b:AD)(items T:Array VL)(n n2:Nat)(dd dd2:Option AD)(sl sl2:Array (Option VL))(t u:Tr)(ht:t.deep<=n0):Meets (Builtin.«tuple.__gt__» ⟨[.ref l,.ref b],[]⟩) (fun A R s=>s.heap.get? l=some { cls:=.type "tuple",dict:=dd,data:=.seq items n,slots:=sl}/\s.heap.get? b=some { cls:=.type "tuple",dict:=dd2,data:=.seq T n2,slots:=sl2} /\Vs s.heap t items.toList/\Vs s.heap u T.toList/\A.units+t.deep<cLine/\R (.ok (.ret (.bool (Tr.lt u t)))) s) :=
 .of_wp fun prog w A R s h=>by
  obtain⟨hp,g,d,tk,os⟩:=s;obtain⟨hl,hb,hi,hj,hun,h⟩:=h;have f2:=AutoSeq1.sub_tuple_tuple;have z1:items.size=t.len:=by rw[<-Vs.length hi];simp
  have z2:T.size=u.len:=by rw[<-Vs.length hj];simp
  wp_walk using wpAny_loadPart' hl,wpAny_loadPart' hb,wpAny_forIn_list _ (fun rest b s'=>b.1=none/\s'=⟨hp,g,d,tk,os⟩/\∃(vs ws:LQ) (t' u':Tr),rest=vs.zip ws /\
   Vs hp t' vs/\Vs hp u' ws/\t'.deep<=t.deep/\t'.len+T.size=u'.len+items.size/\R (.ok (.ret (.bool (Tr.lt u' t')))) ⟨hp,g,d,tk,os⟩) _
  case turn=>
   rintro⟨y,x⟩ rest b s' ⟨hb',rfl,vs,ws,t',u',hz,Z,Y,hdp,U,hR⟩;cases t' with
   |nil=>rw[Vs]at Z;subst Z;rw[List.zip_nil_left]at hz;cases hz
   |cons bt rt=>
    cases u' with
    |nil=>rw[Vs]at Y;subst Y;rw[List.zip_nil_right]at hz;cases hz
    |cons bu ru=>
     rw[Vs]at Z Y;obtain⟨a1,i1,v1,rfl,p1,p2,p3⟩:=Z;obtain⟨a2,i2,v2,rfl,q1,q2,q3⟩:=Y;rw[(NT)]at hz
     injection hz with hyx hrest
     injection hyx with hy hx
     subst hy hx;have hdd:(Tr.cons bt rt).deep=max (bt.deep+1) rt.deep:=rfl;rw[Tr.lt]at hR;simp only[Tr.len]at U;have he:=OG (s:=⟨hp,g,d,tk,os⟩) (A:=A.in1) p1 p2 q1 q2 Jl;refine Wb (he prog w _ _ ?_);cases hc:decide (bt=bu) with
     |true=>
      rw[if_pos (aP hc).symm]at hR
      wp_walk
      exact⟨rfl,rfl,_,_,_,_,hrest,p3,q3,by lia,by lia,hR⟩
     |false=>
      rw[if_neg (fun z=>bR hc z.symm)]at hR;have hri:=ih bt bu A.in1 ⟨hp,g,d,tk,os⟩ a1 a2 i1 i2 AC p1 p2 q1 q2 Jl prog w
      wp_walk using hri
      exact⟨_,rfl,by simpa using hR⟩
  case fin=>
   rintro⟨b1,b2⟩ s' ⟨hb',rfl,vs,ws,t',u',hz,Z,Y,hdp,U,hR⟩;simp only at hb';subst hb';have hv:Tr.lt u' t'=decide (T.size<items.size):=by
    cases t' with
    |nil=>
     cases u' with
     |nil=>
      simp only[Tr.len]at U;exact(bF AC).symm
     |cons c q=>
      simp only[Tr.len]at U;exact(bF AC).symm
    |cons bt rt=>
     cases u' with
     |nil=>
      simp only[Tr.len]at U;exact(bf AC).symm
     |cons c q=>
      rw[Vs]at Z Y;obtain⟨_,_,_,rfl,_⟩:=Z;obtain⟨_,_,_,rfl,_⟩:=Y;rw[(NT)]at hz;cases hz
   rw[hv]at hR
   wp_walk
   exact⟨_,rfl,by simpa[Builtin.Tuple.tupleCompareSizes]using hR⟩
  case h=>
   exact⟨rfl,rfl,items.toList,T.toList,t,u,rfl,hi,hj,Nat.le_refl _,by lia,h⟩
theorem lJ:∀(Z:Nat) (t u:Tr) (A:F0d) (s:SD) (a b:AD) (g its':LQ),t.deep<Z->s.heap.IsTuple a g.toArray->Vs s.heap t g->s.heap.IsTuple b its'.toArray->Vs s.heap u its'->A.units+t.deep<cLine ->
   ∀(prog:F0b) (w:F0c) (E:Uf) (Q:Uf),Q (.bool (Tr.lt u t)) s->wpAny AS A (richCompare .Gt Hf (.ref b)) Q E s
 |0,_,_,_,_,_,_,_,_,h,_,_,_,_,_=>absurd h (av _)
 |Z+1,t,u,A,s,a,b,g,its',hd,hl,ht,hb,hu',hun=>fun prog w E Q h=>by
  obtain⟨⟨cls,dd,data,sl⟩,ho,hc,n,U⟩:=id hl;obtain⟨⟨cls2,dd2,data2,sl2⟩,T,Y,n2,R⟩:=id hb;simp only at hc U Y R;subst hc U Y R;exact richCompare_meets_room (op:=.Gt) ⟨_,ho,rfl⟩ ⟨_,T,rfl⟩ PySem.F.slot_tuple_gt PySem.F.entry_tuple_gt (PySem.F.args_tuple_gt_2 _ _) (jn Z (lJ Z) a b g.toArray its'.toArray n n2 dd dd2 sl sl2 t u AC)
   ⟨ho,T,by simpa using ht,by simpa using hu',hun,show Value.bool (Tr.lt u t)≠Value.notImplemented/\Q (.bool (Tr.lt u t)) s from⟨(fun x=>nomatch x),h⟩⟩ AC
end
end TH
namespace SM
open PySem.W PyProof.Rows
def Wp{α:Type}(lt:Nat->Nat->Bool)(n:Nat):KasT α->(α->Prop)->Prop
 |.ret a,Q=>Q a
 |.ask i j k,Q=>i<n/\j<n/\Wp lt n (k (lt i j)) Q
theorem Wp.mono{α:Type}{lt:Nat->Nat->Bool}{n:Nat}{Q R:α->Prop}(g:∀a,Q a->R a):∀t:KasT α,Wp lt n t Q->Wp lt n t R
 |.ret a,h=>g a h
 |.ask i j k,h=>⟨h.1,h.2.1,Wp.mono g (k (lt i j)) h.2.2⟩
theorem Wp.bind{α g:Type}{lt:Nat->Nat->Bool}{n:Nat}{f:α->KasT g}{Q:g->Prop}:∀t:KasT α,Wp lt n t (fun a=>Wp lt n (f a) Q)->Wp lt n (t.bind f) Q
 |.ret _,h=>h
 |.ask i j k,h=>⟨h.1,h.2.1,Wp.bind (k (lt i j)) h.2.2⟩
def Lx{p:y9}{i j:Nat}(g:j<=p.size)(k:Nat):(kas_rev p i j).getD k 0=if i<=k/\k<j then p.getD (i+j-1-k) 0 else p.getD k 0:=by
 have e:=getElem?_mirror_all (i:=i) g k;unfold kas_rev;rw[(X9),(X9),(X9),e];split<;>rfl
def Zf{p:y9}{src d:Nat}(g:src<p.size)(hd:d<=src)(k:Nat):(bubble p src d).getD k 0=if k=src-d then p.getD src 0 else if src-d<k/\k<=src then p.getD (k-1) 0 else p.getD k 0:=by
 have e:=getElem?_bubble g d hd k;simp only[Array.getD_eq_getD_getElem?,e];split
 .rfl
 .split<;>rfl
section
variable{O:KeyOrd}{key:Nat->O.α}{n:Nat}
def Key(key:Nat->O.α)(p:y9)(i:Nat):O.α:=key (p.getD i 0)
def Up(key:Nat->O.α)(p:y9)(m:Nat):Prop:=∀i j,i<=j->j<m->O.kle (Key key p i) (Key key p j)
def Dn(key:Nat->O.α)(p:y9)(m:Nat):Prop:=∀i j,i<=j->j<m->O.kle (Key key p j) (Key key p i)
structure Pm(n:Nat)(p:Array Nat):Prop where
 perm:p.Perm (List.toArray (List.range n))
 pos:0<n
def Pm.size{p:y9}(h:Pm n p):p.size=n:=by rw[h.perm.size_eq];simp
def Pm.lt{p:y9}(h:Pm n p)(i:Nat):p.getD i 0<n:=by
 rw[(X9)];by_cases hi:i<p.size
 .rw[Array.getElem?_eq_getElem hi];have hm:p[i]∈p:=Array.getElem_mem hi;have:=(h.perm.mem_iff).mp hm
  simpa using this
 .rw[Array.getElem?_eq_none AC];exact h.pos
def Pm.rev{p:y9}(h:Pm n p)(i j:Nat):Pm n (kas_rev p i j):=⟨(mirror_perm _ _ _ _).trans h.perm,h.pos⟩
theorem Pm.bubble{p:y9}(h:Pm n p)(i j:Nat):Pm n (bubble p i j):=⟨(bubble_perm _ _ _).trans h.perm,h.pos⟩
abbrev Ir(key:Nat->O.α):Nat->Nat->Bool:=fun i j=>O.blt (key i) (key j)
def Up.one{p:y9}:Up key p 1:=fun i j R g=>by
 have:i=j:=by lia
 subst this;exact bZ _
def Up.more{p:y9}{m:Nat}(h:Up key p m)(Y:1<=m)(R:O.kle (Key key p (m-1)) (Key key p m)):Up key p (m+1):=fun i j g U=>by
 by_cases e:j=m
 .subst e;by_cases T:i=j
  .subst T;exact bZ _
  .exact KeyOrd.kle_trans (h i (j-1) AC AC) R
 .exact h i j g AC
def Dn.more{p:y9}{m:Nat}(h:Dn key p m)(Y:1<=m)(R:O.kle (Key key p m) (Key key p (m-1))):Dn key p (m+1):=fun i j g U=>by
 by_cases e:j=m
 .subst e;by_cases T:i=j
  .subst T;exact bZ _
  .exact KeyOrd.kle_trans R (h i (j-1) AC AC)
 .exact h i j g AC
theorem asc{p:Array Nat}(g:Pm n p):∀(f m:Nat),1<=m->Up key p m->Wp (Ir key) n (kas_asc p f m) fun r=>m<=r/\r<=m+f/\Up key p r/\(r=m+f\/O.klt (Key key p r) (Key key p (r-1)))
 |0,m,_,h=>⟨aJ _,Nat.le_refl _,h,.inl rfl⟩
 |f+1,m,T,h=>by
  refine⟨g.lt _,g.lt _,?_⟩;cases c:Ir key (p.getD m 0) (p.getD (m-1) 0) with
  |true=>exact⟨aJ _,by lia,h,.inr c⟩
  |false=>
   simp only[Bool.false_eq_true,if_false];refine Wp.mono (fun r R=>?_) _ (asc g f (m+1) AC (h.more T c));exact⟨by lia,by lia,R.2.2.1,R.2.2.2.elim (fun z=>.inl AC) .inr⟩
def Eq(key:Nat->O.α)(p:y9)(m q:Nat):Prop:=q<m/\∀k,m-(q+1)<=k->k<m->Key key p k=Key key p (m-1)
def rev_eq{p:y9}{m q:Nat}(h:Eq key p m q)(hm:m<=p.size)(k:Nat):Key key (kas_rev p (m-(q+1)) m) k=Key key p k:=by
 unfold Key;rw[Lx hm];split
 .have a:=h.2 (m-(q+1)+m-1-k) (by have:=h.1;lia) (by have:=h.1;lia);have b:=h.2 k AC AC;exact a.trans b.symm
 .rfl
theorem desc:∀(f:Nat) (p:Array Nat) (m q:Nat),Pm n p->1<=m->m+f<=n->Dn key p m->Eq key p m q->Wp (Ir key) n (kas_desc f p m q) fun r=>Pm n r.1/\m<=r.2.1/\r.2.1<=m+f/\Dn key r.1 r.2.1/\Eq key r.1 r.2.1 r.2.2
 |0,p,m,q,g,_,_,h,e=>⟨g,Nat.le_refl _,Nat.le_refl _,h,e⟩
 |f+1,p,m,q,g,Z,hf,h,e=>by
  refine⟨g.lt _,g.lt _,?_⟩;have hm:m<=p.size:=by rw[g.size];lia
  cases c:Ir key (p.getD m 0) (p.getD (m-1) 0) with
  |true=>
   have ck:O.klt (Key key p m) (Key key p (m-1)):=c;simp only[if_true];have fin:∀R:Array Nat,Pm n R->(∀k,Key key R k=Key key p k)->Wp (Ir key) n (kas_desc f R (m+1) 0) fun r=>Pm n r.1/\m<=r.2.1/\r.2.1<=m+(f+1)/\Dn key r.1 r.2.1/\Eq key r.1 r.2.1 r.2.2:=fun R U hk=>by
    have hd:Dn key R (m+1):=fun i j Y hj=>by rw[hk,hk];exact h.more Z (KeyOrd.kle_of_klt ck) i j Y hj
    have he:Eq key R (m+1) 0:=⟨by lia,fun k Z h2=>by rw[show k=m+1-1 by lia]⟩;exact Wp.mono (fun r T=>⟨T.1,by lia,by lia,T.2.2.2.1,T.2.2.2.2⟩) _ (desc f R (m+1) 0 U AC AC hd he)
   split
   .exact fin _ (g.rev _ _) (rev_eq e hm)
   .exact fin _ g fun _=>rfl
  |false=>
   simp only[Bool.false_eq_true,if_false];refine⟨g.lt _,g.lt _,?_⟩;cases d:Ir key (p.getD (m-1) 0) (p.getD m 0) with
   |true=>
    simp only[if_true];exact⟨g,Nat.le_refl _,Nat.le_add_right _ _,h,e⟩
   |false=>
    simp only[Bool.false_eq_true,if_false];have ek:Key key p m=Key key p (m-1):=KeyOrd.kle_antisymm (show O.kle (Key key p m) (Key key p (m-1)) from d) (show O.kle (Key key p (m-1)) (Key key p m) from c);refine Wp.mono (fun r T=>⟨T.1,by lia,by lia,T.2.2.2.1,T.2.2.2.2⟩) _ (desc f p (m+1) (q+1) g AC AC (h.more Z (by rw[ek];exact bZ _)) ⟨by have:=e.1;lia,fun k h2 h3=>?_⟩);rw[show m+1-1=m by lia,ek];by_cases z:k=m
    .rw[z,ek]
    .exact e.2 k AC AC
def rG{p:y9}{m:Nat}(h:Dn key p m)(hm:m<=p.size):Up key (kas_rev p 0 m) m:=fun i j g R=>by
 unfold Key;rw[Lx hm,Lx hm,if_pos ⟨az _,by lia⟩,if_pos ⟨az _,by lia⟩];exact h (0+m-1-j) (0+m-1-i) AC AC
def tail3{p:y9}{m:Nat}(g:Pm n p)(T:1<=m)(hm:m<=n)(h:Dn key p m):Wp (Ir key) n (kas_tail3 m n p) fun r=>Pm n r.2/\1<=r.1/\r.1<=n/\Up key r.2 r.1:=by
 unfold kas_tail3;refine Wp.bind _ (Wp.mono (fun r R=>?_) _ (asc (g.rev 0 m) (n-m) m T (rG h (by rw[g.size];exact hm))));exact⟨g.rev 0 m,by lia,by lia,R.2.2.1⟩
def descPart{p:y9}{m:Nat}(U:Pm n p)(Z:1<=m)(hm:m+1<=n)(h:Dn key p (m+1)):Wp (Ir key) n (kas_descPart m n p) fun r=>Pm n r.2/\1<=r.1/\r.1<=n/\Up key r.2 r.1:=by
 unfold kas_descPart;refine Wp.bind _ (Wp.mono (fun r T=>?_) _ (desc (n-(m+1)) p (m+1) 0 U AC AC h ⟨by lia,fun k Z h2=>by rw[show k=m+1-1 by lia]⟩));obtain⟨a,b,c,d,e⟩:=T;have R:r.2.1<=r.1.size:=by rw[a.size];lia
 split
 .refine tail3 (a.rev _ _) AC AC fun i j g Y=>?_;rw[rev_eq e R,rev_eq e R];exact d i j g Y
 .exact tail3 a AC AC d
def count{p:y9}(g:Pm n p):Wp (Ir key) n (kas_count n p) fun r=>Pm n r.2/\1<=r.1/\r.1<=n/\Up key r.2 r.1:=by
 have hn:=g.pos;unfold kas_count;refine Wp.bind _ (Wp.mono (fun m hm=>?_) _ (asc g (n-1) 1 Ql Up.one));obtain⟨Y,h2,U,h4⟩:=hm;split
 .exact⟨g,Y,by lia,U⟩
 .rename_i Z;have T:m≠n:=by simpa using Z
  have hk:O.klt (Key key p m) (Key key p (m-1)):=by
   rcases h4 with z|z
   .exact absurd AC T
   .exact z
  have hz:m<=p.size:=by rw[g.size];lia
  split
  .refine⟨g.lt _,g.lt _,?_⟩;cases c:Ir key (p.getD 0 0) (p.getD (m-1) 0) with
   |true=>simp only[if_true];exact⟨g,Y,by lia,U⟩
   |false=>
    simp only[Bool.false_eq_true,if_false];have all:∀k,k<m->Key key p k=Key key p (m-1):=fun k R=>KeyOrd.kle_antisymm (U k (m-1) AC AC) (KeyOrd.kle_trans (show O.kle (Key key p (m-1)) (Key key p 0) from c) (U 0 k AC R));have ek:∀k,Key key (kas_rev p 0 m) k=Key key p k:=fun k=>by
     by_cases R:k<m
     .have:Key key (kas_rev p 0 m) k=Key key p (0+m-1-k):=by
       unfold Key;rw[Lx hz,if_pos ⟨az _,R⟩]
      rw[this,all _ AC,all k R]
     .unfold Key;rw[Lx hz,if_neg AC]
    refine descPart (g.rev _ _) Y AC fun i j hij hj=>?_;rw[ek,ek];by_cases e:j=m
    .subst e;by_cases e2:i=j
     .subst e2;exact bZ _
     .rw[all i AC];exact KeyOrd.kle_of_klt hk
    .rw[all i AC,all j AC];exact bZ _
  .have:m=1:=by lia
   subst this;refine descPart g Y AC fun i j hij hj=>?_;by_cases e:i=j
   .subst e;exact bZ _
   .rw[show i=0 by lia,show j=1 by lia];exact KeyOrd.kle_of_klt hk
theorem place{p:Array Nat}{k:Nat}(R:Pm n p)(g:Up key p k):∀(f l r:Nat),l<=r->r<=k->r-l<=f->(∀i,i<l->O.kle (Key key p i) (Key key p k))->(∀i,r<=i->i<k->O.klt (Key key p k) (Key key p i)) ->
  Wp (Ir key) n (kas_place p k f l r) fun x=>x<=k/\(∀i,i<x->O.kle (Key key p i) (Key key p k))/\∀i,x<=i->i<k->O.klt (Key key p k) (Key key p i)
 |0,l,r,h1,T,Z,a,b=>by
  have:l=r:=by lia
  subst this;exact⟨T,a,b⟩
 |f+1,l,r,h1,T,Z,a,b=>by
  unfold kas_place;split
  .have:l=r:=by lia
   subst this;exact⟨T,a,b⟩
  .refine⟨R.lt _,R.lt _,?_⟩;cases c:Ir key (p.getD k 0) (p.getD ((l+r) / 2) 0) with
   |true=>
    simp only[if_true];exact place R g f l ((l+r) / 2) AC AC AC a fun i U Y=>KeyOrd.klt_of_klt_of_kle (show O.klt (Key key p k) (Key key p ((l+r) / 2)) from c) (g _ _ U Y)
   |false=>
    simp only[Bool.false_eq_true,if_false];exact place R g f ((l+r) / 2+1) r AC T AC (fun i U=>KeyOrd.kle_trans (g i ((l+r) / 2) AC AC) (show O.kle (Key key p ((l+r) / 2)) (Key key p k) from c)) b
theorem bin:∀(f:Nat) (p:Array Nat) (k:Nat),Pm n p->1<=k->k+f=n->Up key p k->Wp (Ir key) n (kas_bin f p k) fun r=>Pm n r/\Up key r n
 |0,p,k,g,_,hk,h=>by
  have:k=n:=by lia
  subst this;exact⟨g,h⟩
 |f+1,p,k,g,h1,hk,h=>by
  have T:k<p.size:=by rw[g.size];lia
  refine Wp.bind _ (Wp.mono (fun l hl=>?_) _ (place g h k 0 k (az _) Ql AC (fun i z=>absurd z AC) fun i Z z2=>absurd Z AC));obtain⟨hlk,R,U⟩:=hl;refine bin f _ Pi (g.bubble _ _) AC AC fun i j hij hj=>?_;have Y:∀x,Key key (PyProof.Rows.bubble p k (k-l)) x=if x=l then Key key p k else if l<x/\x<=k then Key key p (x-1) else Key key p x:=fun x=>by
   unfold Key;rw[Zf T AC,show k-(k-l)=l by lia];split
   .rfl
   .split<;>rfl
  rw[Y,Y]
  repeat' split
  all_goals first
   |(exfalso;lia)
   |exact bZ _
   |exact R _ AC
   |exact KeyOrd.kle_of_klt (U _ AC AC)
   |exact h _ _ AC AC
def sort(hn:0<n):Wp (Ir key) n (kas_sort n) fun p=>Pm n p/\Up key p n:=by
 have R:Pm n (List.toArray (List.range n)):=⟨Array.Perm.refl _,hn⟩;unfold kas_sort;refine Wp.bind _ (Wp.mono (fun r g=>?_) _ (count R));obtain⟨a,b,c,d⟩:=g;split
 .rw[show max r.1 1=r.1 by lia];exact bin _ _ _ a b AC d
 .have:r.1=n:=by lia
  rw[this]at d;exact⟨a,d⟩
end
end SM
namespace Tr
theorem Sk(x:Tr):∀l:List Tr,(ins x l).Perm (x::l)
 |[]=>.refl _
 |y::r=>by
  rw[ins];split
  .exact((Sk x r).cons y).trans (.swap x y r)
  .exact .refl _
theorem Oa:∀l:List Tr,(Eh l).Perm l
 |[]=>.refl _
 |x::r=>by
  rw[Eh];exact(Sk x (Eh r)).trans ((Oa r).cons x)
abbrev Ux(l:List Tr):Prop:=l.Pairwise fun a b=>lt a b=false
theorem Yv(x:Tr):∀l:List Tr,Ux l->Ux (ins x l)
 |[],_=>List.pairwise_singleton _ _
 |y::r,h=>by
  obtain⟨R,U⟩:=bY.mp h;rw[ins];split
  .rename_i c;refine bY.mpr ⟨fun z g=>?_,Yv x r U⟩;rcases aM.mp ((Sk x r).mem_iff.mp g) with rfl|g
   .exact lt_asymm c
   .exact R z g
  .rename_i c;have T:lt x y=false:=by simpa using c
   refine bY.mpr ⟨fun z g=>?_,h⟩;rcases aM.mp g with rfl|g
   .exact T
   .cases e:lt x z with
    |false=>rfl
    |true=>
     rcases RZ x y z e with q|q
     .rw[T]at q;cases q
     .rw[R z g]at q;cases q
theorem OY:∀l:List Tr,Ux (Eh l)
 |[]=>List.Pairwise.nil
 |x::r=>by rw[Eh];exact Yv x _ (OY r)
theorem NV:∀ {l m:List Tr},Ux l->Ux m->l.Perm m->l=m
 |[],m,_,_,p=>(List.nil_perm.mp p).symm
 |x::r,[],_,_,p=>absurd p.length_eq At
 |x::r,y::q,U,T,p=>by
  obtain⟨a1,a2⟩:=bY.mp U;obtain⟨b1,b2⟩:=bY.mp T;have R:x∈y::q:=p.mem_iff.mp aX;have g:y∈x::r:=p.mem_iff.mpr aX;have e:x=y:=by
   rcases aM.mp R with e|R
   .exact e
   .rcases aM.mp g with e|g
    .exact e.symm
    .exact Mh x y (a1 y g) (b1 x R)
  subst e;rw[NV a2 b2 (List.Perm.cons_inv p)]
def gC{l m:zK}(h:Ux m)(p:m.Perm l):m=Eh l:=NV h (OY l) (p.trans (Oa l).symm)
def Ow{l m:zK}(h:m.Pairwise fun a b=>lt b a=false)(p:m.Perm l):m=(Eh l).reverse:=by
 have:m.reverse=Eh l:=gC (List.pairwise_reverse.mpr h) ((List.reverse_perm m).trans p);rw[<-this,List.reverse_reverse]
theorem cX(n:Nat):∀l:List Tr,(of l).deep<=n ↔ ∀c∈l,c.deep+1<=n
 |[]=>by simp[of,deep]
 |b::r=>by
  rw[of,deep,List.forall_mem_cons,<-cX n r]
  lia
def ord:PyProof.Rows.KeyOrd where
 α:=Tr
 blt:=lt
 irrefl:=lt_irrefl
 trans:=lt_trans
 negTrans:=RZ
 total:=Mh
end Tr
namespace TH
open PySem PySem.W PyProof.Rows PySem.SeqAt
theorem Vs.at{h:Heap}:∀ {t:Tr} {us:LQ} {i:Nat},Vs h t us->i<us.length->∃(a:AD) (g:LQ) (c:Tr),us.getD i Value.none=.ref a/\h.IsTuple a g.toArray/\Vs h c g/\t.bs[i]? = some c/\c.deep<t.deep
 |.nil,us,i,e,hi=>by rw[Vs]at e;subst e;exact absurd hi (av _)
 |.cons b r,us,i,e,hi=>by
  rw[Vs]at e;obtain⟨a,g,rest,rfl,h1,h2,Z⟩:=e;have hd:(Tr.cons b r).deep=max (b.deep+1) r.deep:=rfl;cases i with
  |zero=>exact⟨a,g,b,rfl,h1,h2,rfl,by lia⟩
  |succ i=>
   obtain⟨a',R,c,q1,Y,U,T,q5⟩:=Vs.at (i:=i) Z (by simpa using hi);exact⟨a',R,c,by simpa using q1,Y,U,by simpa[Tr.bs]using T,by lia⟩
section
variable{prog:F0b}{w:F0c}{A:F0d}{E:yz}{s:SD}{t u:Tr}{a b:AD}{its its':yy}{Q:W1}
def Uk(T:s.heap.IsTuple a its.toArray)(k1:Vs s.heap t its)(R:s.heap.IsTuple b its'.toArray)(k2:Vs s.heap u its')(g:SZ)(h:Q (Tr.lt t u) s):wpAny AS A (oneLt' false Hf (.ref b)) Q E s:=by
 rw[oneLt'_eq];simp only[Bool.false_eq_true,if_false];exact Wb (Wj (t.deep+1) t u A s a b its its' (bO _) T k1 R k2 g prog w E _ (wpAny_truthy_bool h))
def oy(h1:s.heap.IsTuple a its.toArray)(k1:Vs s.heap t its)(h2:s.heap.IsTuple b its'.toArray)(k2:Vs s.heap u its')(hu:SZ)(h:Q (Tr.lt t u) s):wpAny AS A (oneLt' true Hf (.ref b)) Q E s:=by
 rw[oneLt'_eq];simp only[if_true];refine Wb (wpAny_cRoomFor AC ?_);obtain⟨⟨cls,dd,data,sl⟩,ho,hc,n,R⟩:=id h1;obtain⟨⟨cls2,dd2,data2,Y⟩,Z,U,n2,g⟩:=id h2;simp only at hc R U g;subst hc R U g;refine Wb (wpAny_callSpecialIfBound?_slot (T := "tuple") ⟨_,ho,rfl⟩ PySem.F.slot_tuple_lt (call_meets PySem.F.slot_tuple_lt ⟨_,ho,rfl⟩ PySem.F.entry_tuple_lt (PySem.F.args_tuple_lt_2 _ _)
  (YL t.deep (Wj t.deep) a b its.toArray its'.toArray n n2 dd dd2 sl Y t u Ql) ⟨ho,Z,by simpa using k1,by simpa using k2,hu,?_⟩))
 exact wpAny_truthy_bool h
theorem bw:∀(t u:Tr) (us vs:LQ) (i:Nat),Vs s.heap t us->Vs s.heap u vs->A.units+t.deep<=cLine->Q (Tr.lt t u) s->KatLex prog w A false (decide (t.len<u.len)) Q (us.zip vs) i s
 |.nil,.nil,us,vs,i,e,f,_,h=>by
  rw[Vs]at e;subst e;rw[List.zip_nil_left];exact kat_nil h
 |.nil,.cons c q,us,vs,i,e,f,_,h=>by
  rw[Vs]at e;subst e;rw[List.zip_nil_left];refine kat_nil ?_;rw[show decide (Tr.nil.len<(Tr.cons c q).len)=true from bf (Nat.zero_lt_succ _)];exact h
 |.cons b r,.nil,us,vs,i,e,f,_,h=>by
  rw[Vs]at f;subst f;rw[List.zip_nil_right];refine kat_nil ?_;rw[show decide ((Tr.cons b r).len<Tr.nil.len)=false from bF (av _)];exact h
 |.cons b r,.cons c q,us,vs,i,e,f,hu,h=>by
  rw[Vs]at e f;obtain⟨a,its,rest,rfl,Z,Y,k3⟩:=e;obtain⟨a',its',R,rfl,U,T,l3⟩:=f;have hd:(Tr.cons b r).deep=max (b.deep+1) r.deep:=rfl;rw[(NT),show decide ((Tr.cons b r).len<(Tr.cons c q).len)=decide (r.len<q.len) from by simp[Tr.len]];rw[Tr.lt]at h;refine kat_cons (OG Z Y U T AC prog w _ _ ?_);by_cases g:b=c
  .rw[decide_eq_true g];rw[if_pos g]at h;exact kat_yes (bw r q rest R MS k3 l3 AC h)
  .rw[decide_eq_false g];rw[if_neg g]at h;exact kat_no (by rw[Bool.false_and];exact Uk Z Y U T AC h)
def pA(h1:s.heap.IsTuple a its.toArray)(k1:Vs s.heap t its)(h2:s.heap.IsTuple b its'.toArray)(k2:Vs s.heap u its')(hu:SZ)(h:Q (Tr.lt t u) s):wpAny AS A (keyLt' (tuples' false) Hf (.ref b)) Q E s:=by
 obtain⟨o,Y,hc,n,hd⟩:=id h1;obtain⟨o2,g,Z,n2,R⟩:=id h2;refine kat_lt Y hd g R ?_;have U:its.toArray.size=t.len:=by rw[<-Vs.length k1];simp
 have T:its'.toArray.size=u.len:=by rw[<-Vs.length k2];simp
 rw[U,T];exact bw t u its its' 0 k1 k2 AC h
def XI(κ:SortKind):Prop:=κ=general'\/κ=oneType'\/κ=tuples' false
def mY{κ:SortKind}(g:XI κ)(U:s.heap.IsTuple a its.toArray)(k1:Vs s.heap t its)(T:s.heap.IsTuple b its'.toArray)(k2:Vs s.heap u its')(R:SZ)(h:Q (Tr.lt t u) s):wpAny AS A (keyLt' κ Hf (.ref b)) Q E s:=by
 rcases g with rfl|rfl|rfl
 .exact Uk U k1 T k2 R h
 .rw[keyLt'_oneType];exact oy U k1 T k2 R h
 .exact pA U k1 T k2 R h
def NP{M:Model}{h:Heap}{a:AD}{x:Array VL}(T:h.IsTuple a x):Looks M h (typeOf Hf) Fk:=by
 obtain⟨o,g,R,_⟩:=T;exact R ▸ (Looks.ld g).andThen .now
theorem WC{M:Model}:∀(t:Tr) (us:LQ) {Q:List (Option VL)->SD->Prop},Vs s.heap t us->(∀fs:List (Option VL),(∀v,some v∈fs->Looks M s.heap (typeOf v) Fk)->Q fs s)->wpAny M A (us.mapM firstOfTuple') Q E s
 |.nil,us,Q,e,h=>by
  rw[Vs]at e;subst e;rw[List.mapM_nil];exact aA (h [] fun _ z=>by cases z)
 |.cons b r,us,Q,e,h=>by
  rw[Vs]at e;obtain⟨a,its,rest,rfl,h1,g,h3⟩:=e;obtain⟨o,U,hc,n,hd⟩:=id h1;rw[List.mapM_cons];refine Wb ?_;rw[kas_first_eq];refine Wb (Looks.here (show Looks M s.heap (typeOf Hf) o.cls from(Looks.ld U).andThen .now) ?_);rw[hc,if_neg (by first|decide|simp)];refine Wb (listItems_at U hd (aA ?_));refine Wb (WC r rest (Q:=fun bs s'=>wpAny M A (pure (its.toArray[0]? :: bs)) Q E s') h3 fun fs T=>aA (h _ fun v Z=>?_));rcases aM.mp Z with z|z
  .cases b with
   |nil=>rw[Vs]at g;subst g;simp at z
   |cons c q=>
    rw[Vs]at g;obtain⟨a',its',R,rfl,Y,_⟩:=g;simp at z;subst z;exact NP Y
  .exact T v z
def U9{M:Model}{vs:yy}{Q:Ph}(U:∀v∈vs,Looks M s.heap (typeOf v) Fk)(h0:vs=[]->Q none s)(Y:Q (some Fk) s):wpAny M A (oneTypeOnly' vs.toArray) Q E s:=by
 rw[oneTypeOnly'_eq,List.mapM_toArray,map_eq_pure_bind];refine Wb (Wb (kas_mapM (r:=Value.type "tuple") _ (fun v R Q' T=>(U v R).here T) Re));cases vs with
 |nil=>exact aA (h0 rfl)
 |cons f r=>
  have g:((List.map (fun _=>Value.type "tuple") (f::r)).toArray.all fun x=>x==Value.type "tuple")=true:=by
   simp only[List.all_toArray,List.all_map,List.all_eq_true];intro _ _
   rfl
  have Z:(List.map (fun _=>Value.type "tuple") (f::r)).toArray[0]? = some (Value.type "tuple"):=by simp
  rw[Z];simp only[g,if_true];exact aA Y
def og{M:Model}{t:Tr}{us:yy}{Q:SortKind->SD->Prop}(e:Vs s.heap t us)(h:∀κ,XI κ->Q κ s):wpAny M A (keyKind' us.toArray) Q E s:=by
 rw[kat_kind_eq,List.mapM_toArray,map_eq_pure_bind];refine Wb (Wb (WC t us e fun fs T=>aA ?_));split
 .refine Wb (bH ?_);have Y:fs.toArray.filterMap id=(fs.filterMap id).toArray:=by simp
  rw[Y];have R:∀v∈fs.filterMap id,Looks M s.heap (typeOf v) Fk:=fun v g=>T v (by simpa using g);refine Wb (U9 R (fun _=>?_) ?_)
  .exact aA (h _ (.inr (.inr rfl)))
  .exact aA (h _ (.inr (.inr rfl)))
 .split
  .exact aA (h _ Rs)
  .have R:∀v∈us,Looks M s.heap (typeOf v) Fk:=fun v g=>by
    obtain⟨i,hi,rfl⟩:=List.getElem_of_mem g;obtain⟨a,its,c,q1,U,_⟩:=e.at hi;rw[(Er),List.getElem?_eq_getElem hi]at q1;simp at q1;rw[q1];exact NP U
   refine Wb (U9 R (fun _=>?_) ?_)
   .exact aA (h _ Rs)
   .exact aA (h _ (.inr Rs))
theorem X4{α:Type}{cmp:Nat->Nat->(Bool->SD->Prop)->SD->Prop}{lt:Nat->Nat->Bool}{n:Nat}{R:α->Prop}(g:∀i j C,i<n->j<n->C (lt i j) s->cmp i j C s):∀T:KasT α,SM.Wp lt n T R->T.kasWp cmp (fun a s'=>s'=s/\R a) s
 |.ret a,h=>⟨rfl,h⟩
 |.ask i j k,h=>g i j _ h.1 h.2.1 (X4 g (k (lt i j)) h.2.2)
end
end TH
namespace TH
open PySem PySem.W PyProof.Rows PySem.SeqAt
def Vs.keeps{h h':Heap}(k:Mz):∀ {t:Tr} {us:LQ},Vs h t us->Vs h' t us
 |.nil,us,e=>by rw[Vs]at e ⊢;exact e
 |.cons b r,us,e=>by
  rw[Vs]at e ⊢;obtain⟨a,g,rest,rfl,⟨o,T,R,hd⟩,Y,U⟩:=e;exact⟨a,g,rest,rfl,⟨o,k _ _ T R,R,hd⟩,Y.keeps k,U.keeps k⟩
def map_getD{α:Type}(d:α)(l:List α):(List.range l.length).map (fun i=>l.getD i d)=l:=by
 refine List.ext_getElem At fun i R g=>?_;simp[g]
section
def gN(b:Bool)(us:yy)(hz:us.length<2):(if b=true then((if b=true then(us.toArray.zip us.toArray).reverse else us.toArray.zip us.toArray).map (·.2)).reverse else(if b=true then(us.toArray.zip us.toArray).reverse else us.toArray.zip us.toArray).map (·.2))=us.toArray:=by
 match us,hz with
 |[],_=>cases b<;>simp
 |[x],_=>cases b<;>simp
end
end TH
namespace ET
open PySem
section
variable{prog:F0b}{w:F0c}{A:F0d}{E:yz}{s:SD}
def next_item{it t:AD}{i:Nat}{items}{x:VL}{Q:yz}(hit:s.heap.IsTupleIter it t i)(Y:s.heap.IsTuple t items)(U:items[i]? = some x) (hQ:∀h',h'.IsTupleIter it t MS->Heap.SameBut it s.heap h'->Q x Op):wpAny AS A (Builtin.SmallTypes.nextOf (.ref it)) Q E s:=by
 obtain⟨o,g,Z,hd⟩:=id hit;obtain⟨ol,R,_,nl,T⟩:=Y;unfold Builtin.SmallTypes.nextOf;refine Wb (aj (name:=Str.ofString "__next__") hit.typeIs F.slot_tuple_iterator_next
  (aa F.slot_tuple_iterator_next hit.typeIs F.entry_tuple_iterator_next ?_ (F.args_tuple_iterator_next_1 _)))
 show wpAny _ _ (field (.ref it) 0>>=_) _ _ s;refine Wb (ae g hd (x:=.ref t) rfl ?_);show wpAny _ _ (if(Value.ref t==Value.none)=true then _ else _) _ _ s;rw[if_neg (show ¬((Value.ref t==Value.none)=true) from aK)];show wpAny _ _ (field (.ref it) 1>>=_) _ _ s;refine Wb (ae g hd (x:=.int i 0) rfl ?_);show wpAny _ _ (seqItems? (.ref t)>>=_) _ _ s;refine Wb (ak R T ?_);simp only[Int.toNat_natCast,U];refine Wb (wpAny_setField g hd At (aA ⟨x,rfl,wpAny_pure (hQ _ ?_ (aY ..))⟩));exact⟨_,Heap.get?_update_self _ g (Obj.isFreed_of_fields (Obj.data_mapFields hd _)),(Obj.cls_mapFields ..).trans Z,by
  rw[Obj.data_mapFields hd];simp[rawInt]⟩
def next_end{it t:AD}{i:Nat}{items}{Q:yz}(U:A.handled=none)(hit:s.heap.IsTupleIter it t i)(Z:s.heap.IsTuple t items)(Y:items[i]? = none) (hE:∀h' e,Heap.ExtBut it s.heap h'->(∃o,h'.get? e=some o/\o.cls=.type "StopIteration")->E (.ref e) Op):wpAny AS A (Builtin.SmallTypes.nextOf (.ref it)) Q E s:=by
 obtain⟨o,R,hc,hd⟩:=id hit;obtain⟨ol,g,_,nl,T⟩:=Z;unfold Builtin.SmallTypes.nextOf;refine Wb (aj (name:=Str.ofString "__next__") hit.typeIs F.slot_tuple_iterator_next
  (aa F.slot_tuple_iterator_next hit.typeIs F.entry_tuple_iterator_next ?_ (F.args_tuple_iterator_next_1 _)))
 show wpAny _ _ (field (.ref it) 0>>=_) _ _ s;refine Wb (ae R hd (x:=.ref t) rfl ?_);show wpAny _ _ (if(Value.ref t==Value.none)=true then _ else _) _ _ s;rw[if_neg (show ¬((Value.ref t==Value.none)=true) from aK)];show wpAny _ _ (field (.ref it) 1>>=_) _ _ s;refine Wb (ae R hd (x:=.int i 0) rfl ?_);show wpAny _ _ (seqItems? (.ref t)>>=_) _ _ s;refine Wb (ak g T ?_);simp only[Int.toNat_natCast,Y];refine Wb (bH (Wb (wpAny_setField R hd At ?_)));show wpAny _ _ (newExc (.type "StopIteration") []>>=_) _ _ _;refine Wb ?_;simp only[newExc,newTuple];refine Wb (bA ?_ (by size_fits));refine Wb (m:=firstArgMember _ _) (wpAny_of_eq (a:=Value.none) (by first|rfl|(simp only[firstArgMember];rfl)) ?_);refine bA ?_ (by size_fits);simp only[raiseNew];refine Wb (wpAny_handled ?_)
 first|rw[show A.in1.handled=none from U]|rw[U]
 refine Wb (aA (wpAny_throw ?_));exact hE _ _ (((aY ..).extBut.push _).push _) ⟨_,Heap.get?_push_size _ rfl,rfl⟩
end
section
open AutoSeq1 (wpAny_loadPart')
def fL(l:AD)(items:Array VL)(n:Nat)(Y:Option AD)(sl:Array (Option VL)):Meets (Builtin.«enumerate.__new__» ⟨[.type "enumerate",.ref l],[]⟩) (fun _ R s=>s.heap.get? l=some { cls:=.type "tuple",dict:=Y,data:=.seq items n,slots:=sl} /\R (.ok (.ret (.ref (s.heap.push { cls:=.type "tuple_iterator",data:=.fields #[.ref l,.int 0 0]}).objs.size))) {s with heap:=(s.heap.push { cls:=.type "tuple_iterator",data:=.fields #[.ref l,.int 0 0]}).push { cls:=.type "enumerate",data:=.fields #[.none,.bool false,.ref s.heap.objs.size,rawInt 0,.none,.none]} }) :=
 .of_wp fun prog w A R s h=>by
  obtain⟨hp,g,d,tk,os⟩:=s;obtain⟨T,h⟩:=h;have Z:=sub_enumerate;have U:Heap.IsTuple (Shared.heap ⟨hp,g,d,tk,os⟩) l items:=⟨_,T,rfl,n,rfl⟩
  wp_walk using wpAny_loadPart' T
  refine wpAny_stack_any fun st=>aA ?_;split
  .rename_i c _ _ _ _ _;cases (c==Value.type "enumerate")
   .wp_walk using wpAny_loadPart' T,wpAny_pyIter_tuple U
    exact⟨_,rfl,h⟩
   .wp_walk using wpAny_loadPart' T,wpAny_pyIter_tuple U
    exact⟨_,rfl,h⟩
  .wp_walk using wpAny_loadPart' T,wpAny_pyIter_tuple U
   exact⟨_,rfl,h⟩
def iI{prog:F0b}{w:F0c}{A:F0d}{E:yz}{s:SD}{l:AD}{items:Array VL}{Q:yz}(Z:s.heap.IsTuple l items) (h:∀h',IsEnum h' Ix s.heap.objs.size 0 .none->h'.IsTupleIter s.heap.objs.size l 0->h'.objs.size=s.heap.objs.size+2 ->(∀b o,s.heap.get? b=some o->h'.get? b=some o)->Q (.ref Ix) Op):wpAny AS A (call (.type "enumerate") [.ref l]) Q E s:=by
 obtain⟨⟨c,T,dt,sl⟩,Y,R,n,hd⟩:=Z
 replace R:c=.type "tuple" := R
 replace hd:dt=.seq items n:=hd
 subst R hd;refine callType_new F.called_enumerate AT (F.typeCall_enumerate_1 _) (F.newCall_enumerate_1 _) (fun obj=>F.args_object_init_2 obj _) F.entry_enumerate_new
  (fL l items n T sl) ⟨Y,?_⟩
 have g:(s.heap.push { cls:=.type "tuple_iterator",data:=.fields #[.ref l,.int 0 0]}).objs.size=s.heap.objs.size+1:=Heap.size_push ..;show _/\_;rw[g];have U:IsEnum ((s.heap.push { cls:=.type "tuple_iterator",data:=.fields #[.ref l,.int 0 0]}).push
   { cls:=.type "enumerate",data:=.fields #[.none,.bool false,.ref s.heap.objs.size,rawInt 0,.none,.none]}) Ix s.heap.objs.size 0 .none:=by
  have:=aO (s.heap.push { cls:=.type "tuple_iterator",data:=.fields #[.ref l,.int 0 0]})
   (o:={ cls:=.type "enumerate",data:=.fields #[.none,.bool false,.ref s.heap.objs.size,rawInt 0,.none,.none]}) rfl
  rw[g]at this;exact this
 refine⟨⟨_,U,rfl⟩,h _ U ⟨_,Heap.get?_push_of_some _ (aO _ rfl),rfl,rfl⟩ (by rw[(Ii),g]) fun b o x=>aE _ (aE _ x)⟩
end
def draws{prog:F0b}{w:F0c}{A:F0d}(hh:A.handled=none)(it a:AD)(its:yy)(hne:a≠it) :
  Draws prog w A it [it,a] its.length (fun i x=>its[i]? = some x) (fun i h=>h.IsTupleIter it a i/\h.IsTuple a its.toArray) where
 live:=fun i h st=>let⟨o,e,_⟩:=st.1;⟨o,e⟩
 frame:=fun i h h' st k=>by
  obtain⟨⟨o,e,r⟩,o2,e2,r2⟩:=st;exact⟨⟨o,k it At o e,r⟩,o2,k a At o2 e2,r2⟩
 item:=fun i s Q E hi st hQ=>next_item st.1 st.2 (x:=its[i]) (by simp[hi]) fun h' st' sb=>
  hQ _ h' s.toks (by simp[hi]) ⟨st',let⟨o,e,r⟩:=st.2;⟨o,(sb.2 a hne).trans e,r⟩⟩ sb
 done:=fun s Q E st hE=>next_end hh st.1 st.2 At hE
end ET
namespace L2
open PySem PySem.Spec PyProof.Rows
section
variable{X:Cx}{pins:Cu}{σ:St}{H:Hp}{s:SD}{h':Heap}{tk:Nat}{ch:zL}
def Inv.turn(I:BY)(T:∀b∈ch,K6 X pins H b)(keep:∀b o,b ∉ ch->s.heap.get? b=some o->h'.get? b=some o):Inv X pins σ H Da:=by
 have RV:∀b o,H b=some o->b ∉ ch:=fun b o q R=>by rw[(T b R).1]at q;cases q
 show Inv X pins σ _ {s with heap:=h',gens:=s.gens,drawn:=s.drawn,toks:=tk};refine I.step (h':=h') (g':=s.gens) (d':=s.drawn) (t':=tk) (ch:=ch) (fun b R=>?_) (fun b o _ _ g q _=>keep b o g q) (fun b o _ _ g q _=>⟨o.slots,keep b o g q⟩)
  (fun b o _ q n=>n) (fun b o g q=>⟨o,keep b o g q⟩) (fun b ys q=>q) (fun b o u q=>q)
  (fun b ps q=>⟨#[],by rw[q];simp⟩) (fun b _ o g _ q=>keep b o g q) (fun m hm=>?_) (fun b o q=>?_) I.bare
 .obtain⟨_,f1,_,f3,Z,Y⟩:=T b R;exact⟨f3,f1,Z,Y⟩
 .obtain⟨o,es,ep,U,r⟩:=hm;exact⟨o,es,ep,keep _ o (fun R=>(T _ R).2.1 rfl) U,r⟩
 .refine(I.A9 b o q).Ob (fun c w g r=>keep c w ?_ r) (fun c r=>r) fun c ys r=>r;rcases g with rfl|g
  .exact RV _ _ q
  .exact RV _ _ g
def Inv.UZ(I:BY)(U:∀b∈ch,K6 X pins H b)(keep:∀b o,b ∉ ch->s.heap.get? b=some o->h'.get? b=some o){xs:zJ}{us:yy}(hz:xs.length<=sizeLine)(Y:Vals xs us) (hT:h'.get? s.heap.objs.size=some { cls:=.type "tuple",data:=.seq us.toArray}):Inv X pins σ (upd H s.heap.objs.size Ke) Da:=by
 have R:H s.heap.objs.size=none:=I.A9.fresh Ql;have neT:∀b o,s.heap.get? b=some o->b≠s.heap.objs.size:=fun b o q=>aI (aF q);have RV:∀b o,H b=some o->b ∉ ch:=fun b o q T=>by rw[(U b T).1]at q;cases q
 show Inv X pins σ _ {s with heap:=h',gens:=s.gens,drawn:=s.drawn,toks:=tk};refine I.step (h':=h') (g':=s.gens) (d':=s.drawn) (t':=tk) (ch:=ch) (fun b T=>?_) (fun b o _ _ g q _=>keep b o g q) (fun b o _ _ g q _=>⟨o.slots,keep b o g q⟩)
  (fun b o _ q n=>by rw[AN (neT b o q)];exact n) (fun b o g q=>⟨o,keep b o g q⟩) (fun b ys q=>by rw[AN (Am q R)];exact q) (fun b o u q=>by rw[AN (Am q R)];exact q)
  (fun b ps q=>⟨#[],by rw[AN (Am q R),q];simp⟩) (fun b _ o g _ q=>keep b o g q) (fun m hm=>?_) (fun b o q=>?_) I.bare
 .obtain⟨_,f1,_,f3,f4,f5⟩:=U b T;exact⟨f3,f1,f4,f5⟩
 .obtain⟨o,es,ep,Z,r⟩:=hm;exact⟨o,es,ep,keep _ o (fun T=>(U _ T).2.1 rfl) Z,r⟩
 .by_cases T:b=s.heap.objs.size
  .subst T;rw[AR]at q;cases q;exact⟨hz,us,Y,_,hT,rfl,_,rfl⟩
  .rw[AN T]at q;refine(I.A9 b o q).Ob (fun c w g r=>keep c w ?_ r) (fun c r=>by rw[AN (Am r R)];exact r) fun c ys r=>by rw[AN (Am r R)];exact r
   rcases g with rfl|g
   .exact RV _ _ q
   .exact RV _ _ g
end
def Ts(H:Hp):Tr->List V->Prop
 |.nil,xs=>xs=[]
 |.cons b r,xs=>∃(a:AD) (ys g:IZ),xs=.ref a::g/\H a=some (.tup ys)/\Ts H b ys/\Ts H r g
def Tv(H:Hp)(t:Tr)(v:V):Prop:=∃(a:AD) (ys:IZ),v=.ref a/\H a=some (.tup ys)/\Ts H t ys
def Ts.same{H H':Hp}(e:AL H H'):∀ {t:Tr} {xs:IZ},Ts H t xs->Ts H' t xs
 |.nil,xs,h=>by rw[Ts]at h ⊢;exact h
 |.cons b r,xs,h=>by
  rw[Ts]at h ⊢;obtain⟨a,ys,g,Y,U,T,R⟩:=h;exact⟨a,ys,g,Y,e _ _ U,T.same e,R.same e⟩
def Tv.same{H H':Hp}{t:Tr}{v:V}(h:Tv H t v)(e:AL H H'):Tv H' t v:=let⟨a,ys,T,R,g⟩:=h;⟨a,ys,T,e _ _ R,g.same e⟩
def ME(H H':Hp):Prop:=∀b xs,H b=some Ke->H' b=some Ke
def ME.of{H H':Hp}(e:AL H H'):ME H H':=fun b xs h=>e b _ h
theorem ME.upd{H:Hp}{l:AD}{ys:zJ}{o:HO}(g:H l=some IR):ME H (upd H l o):=fun b xs h=>by
 rw[AN (dg h g (by intro z;cases z))];exact h
def Ts.BC{H H':Hp}(e:ME H H'):∀ {t:Tr} {xs:IZ},Ts H t xs->Ts H' t xs
 |.nil,xs,h=>by rw[Ts]at h ⊢;exact h
 |.cons b r,xs,h=>by
  rw[Ts]at h ⊢;obtain⟨a,ys,g,Y,U,T,R⟩:=h;exact⟨a,ys,g,Y,e _ _ U,T.BC e,R.BC e⟩
def Tv.BC{H H':Hp}{t:Tr}{v:V}(h:Tv H t v)(e:ME H H'):Tv H' t v:=let⟨a,ys,T,R,g⟩:=h;⟨a,ys,T,e _ _ R,g.BC e⟩
def Ts.length{H:Hp}:∀ {t:Tr} {xs:IZ},Ts H t xs->xs.length=t.len
 |.nil,xs,h=>by rw[Ts]at h;rw[h];rfl
 |.cons b r,xs,h=>by
  rw[Ts]at h;obtain⟨a,ys,R,rfl,_,_,g⟩:=h;rw[(Jz),Tr.len,g.length]
def Ts.len{H:Hp}{t:Tr}{xs:zJ}(h:Ts H t xs):xs.length=t.bs.length:=by rw[h.length,Tr.Ft]
def Ts.get{H:Hp}:∀ {t:Tr} {xs:IZ} {i:Nat} {v:V},Ts H t xs->xs[i]? = some v->∃c,t.bs[i]? = some c/\Tv H c v
 |.nil,xs,i,v,h,e=>by rw[Ts]at h;subst h;simp at e
 |.cons b r,xs,i,v,h,e=>by
  rw[Ts]at h;obtain⟨a,ys,Y,rfl,U,T,R⟩:=h;cases i with
  |zero=>simp at e;subst e;exact⟨b,rfl,a,ys,rfl,U,T⟩
  |succ i=>
   obtain⟨c,q1,g⟩:=R.get (i:=i) (v:=v) (by simpa using e);exact⟨c,by simpa[Tr.bs]using q1,g⟩
theorem Ts.fj{H:Hp}:∀(ts:List Tr) (xs:IZ),xs.length=ts.length->(∀(i:Nat) (v:V),xs[i]? = some v->∃c,ts[i]? = some c/\Tv H c v)->Ts H (Tr.of ts) xs
 |[],xs,g,_=>by
  rw[Tr.of,Ts];exact bQ (by simpa using g)
 |t::ts,[],g,_=>by simp at g
 |t::ts,x::xs,g,h=>by
  rw[Tr.of,Ts];obtain⟨c,R,a,ys,rfl,Y,U⟩:=h 0 x rfl;simp at R;subst R;exact⟨a,ys,xs,rfl,Y,U,Ts.fj ts xs (by simpa using g) fun i v e=>by
   obtain⟨c,q1,T⟩:=h MS v (by simpa using e);exact⟨c,by simpa using q1,T⟩⟩
def Ts.pick{H:Hp}{t:Tr}{xs:zJ}(h:Ts H t xs)(ix:zG)(hi:∀i∈ix,i<xs.length):Ts H (Tr.of (ix.map fun i=>t.bs.getD i .nil)) (ix.map fun i=>xs.getD i .BP):=by
 refine Ts.fj _ _ At fun i v e=>?_;rw[(CD)]at e ⊢;cases q:ix[i]? with
 |none=>rw[q]at e;cases e
 |some k=>
  rw[q]at e;have R:k<xs.length:=hi k (aN q);simp only[Option.map_some,Option.some.injEq]at e;obtain⟨c,q1,g⟩:=h.get (i:=k) (v:=v) (by rw[<-e,(Er),List.getElem?_eq_getElem R];rfl);refine⟨c,?_,g⟩;simp only[Option.map_some,List.getD_eq_getElem?_getD,q1]
  rfl
section
variable{X:Cx}{pins:Cu}{σ:St}{H:Hp}{s:SD}
theorem Ts.vs(I:BY):∀ {t:Tr} {xs:IZ} {us:LQ},Ts H t xs->Vals xs us->TH.Vs s.heap t us
 |.nil,xs,us,h,r=>by
  rw[Ts]at h;subst h;cases r;rw[TH.Vs]
 |.cons b rr,xs,us,h,r=>by
  rw[Ts]at h;obtain⟨a,ys,zs,rfl,h1,Z,Y⟩:=h;cases r with
  |cons U T=>
   cases U;obtain⟨g,R,p,_⟩:=I.tuple (BK.of (K:=X.K) h1);rw[TH.Vs];exact⟨a,g,_,rfl,p,Ts.vs I Z R,Ts.vs I Y T⟩
def Tv.at(I:BY){t:Tr}{v:V}{u:VL}(h:Tv H t v)(r:RelV v u):∃(a:AD) (g:yy),u=.ref a/\s.heap.IsTuple a g.toArray/\TH.Vs s.heap t g:=by
 obtain⟨a,ys,rfl,U,T⟩:=h;cases r;obtain⟨g,R,p,_⟩:=I.tuple (BK.of (K:=X.K) U);exact⟨a,g,rfl,p,Ts.vs I T R⟩
def uz:R2:=fun x y H Q=>∃t u,Tv H t x/\Tv H u y/\t.deep<=60/\Q (.bl (Tr.lt u t)) H
def nP(hu:IO):Dd X (compareOp .Gt) uz:=by
 intro pins s σ H x y v u' Q I U T h;obtain⟨t,u,h1,h2,hd,q⟩:=h;obtain⟨a,R,rfl,Z,k1⟩:=h1.at I U;obtain⟨b,g,rfl,Y,k2⟩:=h2.at I T;exact TH.lJ (t.deep+1) t u X.A s a b R g (bO _) Z k1 Y k2 AC X.prog X.w X.xe _ ⟨.bl _,H,I,rfl,q⟩
end
def p9(K:Fg)(a:AD):It :=
 ⟨fun i H=>∃xs x,BK K H a xs/\xs[i]? = some x,fun i H v H'=>∃p x,v=.ref p/\H p=none/\H'=upd H p (.tup [.int i,x])/\∀xs,BK K H a xs->xs[i]? = some x,fun i H=>∃xs,BK K H a xs/\xs.length=i⟩
def fQ{P:F0b}{w:F0c}{K:Fg}{elts:zD}{x1}{pos:Pos}(a e it:AD)(hne:e≠it) :
  Turn P w K (.Tuple elts x1 pos) (p9 K a) [e,it] e (fun i h=>(∃old,IsEnum h e it (i:Nat) old)/\h.IsTupleIter it a i) where
 mem:=by simp
 obj:=fun i h st b hb=>by
  rcases aM.mp hb with rfl|hb
  .obtain⟨⟨old,q⟩,_⟩:=st;exact⟨_,q,fun v z=>by cases z⟩
  .have e2:b=it:=by simpa using hb
   subst e2;obtain⟨_,o,q,c,d⟩:=st;exact⟨o,q,fun v z=>by rw[d]at z;cases z⟩
 keep:=fun i h h' st k=>by
  obtain⟨⟨old,q⟩,o,q2,r⟩:=st;exact⟨⟨old,k e At _ q⟩,o,k it At _ q2,r⟩
 item:=by
  intro X hP hw hK hc i pins s σ H E I hf st hg;subst hP hw hK;obtain⟨xs,x,hq,hx⟩:=hg;obtain⟨its,rv,p,hz⟩:=I.tuple hq;obtain⟨u,hu,ru⟩:=rv.get hx;obtain⟨⟨old,he⟩,hit⟩:=st;have hai:a≠it:=fun z=>by
   obtain⟨o,e1,c1,_⟩:=p;obtain⟨o2,e2,c2,_⟩:=hit;rw[z,e2]at e1;cases e1;rw[c1]at c2;exact absurd c2 AT
  have hae:a≠e:=fun z=>by
   obtain⟨o,e1,c1,_⟩:=p;rw[z,he]at e1;cases e1;exact absurd (show Value.type "enumerate" = Value.type "tuple" from c1) AT
  have hlt:i<its.length:=(aD.mp hu).1;have hE0:=hf e At;have hI0:=hf it At;refine wpAny_pyNext_enum_itemD (ET.draws (prog:=X.prog) (w:=X.w) (A:=X.A.in1) Nu it a its hai) he ⟨hit,p⟩ hlt hne (by simp[hne,Ne.symm hae]) fun y h' tk hy ho hs' hT hsz hk=>⟨_,rfl,wpAny_letOwnedTupleGo_enum (s:={s with heap:=h',toks:=tk+1}) ho fun h'' he'' sb=>?_⟩;have hyu:y=u:=by rw[hu]at hy;exact(af hy).symm
  subst hyu;have keep:∀b o,b≠e->b≠it->s.heap.get? b=some o->h''.get? b=some o:=fun b o h1 h2 q=>(sb.2 b h1).trans (hk b o h1 h2 q);have hTe:s.heap.objs.size≠e:=ai (aF he);have hTi:s.heap.objs.size≠it:=let⟨_,q,_⟩:=hit;ai (aF q);have hT'':h''.get? s.heap.objs.size=some { cls:=.type "tuple",data:=.seq #[.int i tk,y]}:=(sb.2 _ hTe).trans hT;have hTn:H s.heap.objs.size=none:=I.A9.fresh Ql;refine⟨.ref s.heap.objs.size,upd H s.heap.objs.size (.tup [.int i,x]),?_,rfl,⟨_,x,rfl,hTn,rfl,fun ys hy=>by rw[I.WA hy hq];exact hx⟩,⟨⟨_,by simpa using he''⟩,?_⟩,fun b hb=>?_⟩
  .exact I.UZ (ch:=[e,it]) hf (fun b o hb q=>keep b o (fun z=>hb (by simp[z])) (fun z=>hb (by simp[z])) q) RE (.cons ⟨tk,rfl⟩ (.cons ru .nil)) hT''
  .obtain⟨⟨o,q,r⟩,_⟩:=hs';exact⟨o,(sb.2 it (Ne.symm hne)).trans q,r⟩
  .rcases aM.mp hb with rfl|hb
   .rw[AN (Ne.symm hTe)];exact hE0.1
   .have e2:b=it:=by simpa using hb
    subst e2;rw[AN (Ne.symm hTi)];exact hI0.1
 done:=by
  intro X hP hw hK hc i pins s σ H E I hf st hg;subst hP hw hK;obtain⟨xs,hq,hx⟩:=hg;obtain⟨its,rv,p,hz⟩:=I.tuple hq;obtain⟨⟨old,he⟩,hit⟩:=st;have hai:a≠it:=fun z=>by
   obtain⟨o,e1,c1,_⟩:=p;obtain⟨o2,e2,c2,_⟩:=hit;rw[z,e2]at e1;cases e1;rw[c1]at c2;exact absurd c2 AT
  have hl:its.length=i:=by rw[<-rv.length];exact hx
  subst hl;obtain⟨f0,f1,f2,f3,f4,f5⟩:=hf it At;exact wpAny_pyNext_enum_endD (ET.draws (prog:=X.prog) (w:=X.w) (A:=X.A.in1) Nu it a its hai) he ⟨hit,p⟩ fun h' eb=>⟨rfl,I.turned (t':=s.toks) (fun b o hb q=>eb b o hb q) f0 f1 f3 f4 f5⟩
 self:=fun _ _ _ _ _ st h=>by
  obtain⟨⟨old,he⟩,_⟩:=st;exact wpAny_pyIter_enum he h
def uV(K:Fg)(T:TA):TI:=fun σ H R=>T σ H fun vs g=>∃a,vs=[.ref a]/\(∃xs,BK K g a xs)/\R (p9 K a) g
def mZ{X:Cx}{elts:zD}{x1}{g:Pos}{a:Expr}{ta:TA}{p pos:Pos}(hg:Gl X "enumerate")(hm:X.mg "enumerate" = none)(ha:PA X [a] ta)(hs:starEach [a] X.env=[ND]:=by rfl):PI X (.Tuple elts x1 g) (.Call (.Name "enumerate" p) [a] [] pos) (uV X.K ta):=by
 intro pins s σ H R I h;refine Call_ (Gx I hg hm boot_enumerate (ar (BX OF fun us s1 ⟨vs,H1,U,r1,q1⟩=>?_) hs rfl));obtain⟨t,e,⟨xs,hq⟩,q⟩:=q1;subst e;cases r1 with
 |cons r rr=>
  cases rr;cases r;obtain⟨Y,rv,p',hz⟩:=U.tuple hq;refine ET.iI (show s1.heap.IsTuple t Y.toArray from p') fun h' he hit hsz hk=>wpAny_pyIter_enum he ?_;have I2:Inv X pins σ H1 {s1 with heap:=h'}:=U.kept (t':=s1.toks) hk;have hn:s1.heap.objs.size+1≠s1.heap.objs.size:=by lia
  refine⟨s1.heap.objs.size+1,[s1.heap.objs.size+1,s1.heap.objs.size],_,_,H1,rfl,I2,fQ t _ _ hn,⟨⟨_,he⟩,hit⟩,fun b hb=>?_,q⟩;have T:s1.heap.objs.size<=b:=by
   have Z:b=s1.heap.objs.size+1\/b=s1.heap.objs.size:=by simpa using hb
   rcases Z with z|z
   .rw[z];exact Nat.le_succ _
   .rw[z];exact aJ _
  exact U.Sd T (U.A9.fresh T)
end L2
namespace TH
open PySem PySem.W PyProof.Rows PySem.SeqAt
section
variable{prog:F0b}{w:F0c}{A:F0d}{E:yz}{s:SD}
def Nc(a:AD):Builtin.«list.sort» ⟨[.ref a],[]⟩=Builtin.«list.sort» ⟨[.ref a],[(Str.ofString "reverse",.bool false)]⟩:=by
 rw[list_sort_rev,list_sort_plain]
 rfl
def Rn{l:AD}{vs:yy}{Q:List VL->SD->Prop}(hl:s.heap.IsTuple l vs.toArray) (h:Q vs PP)(hsz:vs.length<=sizeLine):wpAny AS A (collect Rb) Q E s:=by
  obtain⟨o,ho,hc,n,hd⟩:=id hl
  unfold collect
  refine Wb (wpAny_runValue (codeAny_builtin entry_proto_collect' ?_))
  show wpAny _ _ (do again (.builtin "list.__iadd__" ⟨[<-newList [],.ref l],[]⟩)) _ _ s
  refine Wb (wpAny_newList (aA ⟨Code.quiet_builtin _ LE,codeAny_builtin entry_list_iadd' ?_⟩))
  show wpAny _ _ (Builtin.List.listExtendWith Do Rb Do) _ _ {s with heap:=s.heap.push (seqObj "list" #[] 0)}
  unfold Builtin.List.listExtendWith
  have ho':(s.heap.push (seqObj "list" #[] 0)).get? l=some o:=aE _ ho
  refine Wb (wpAny_typeOf (T := "tuple") ⟨o,ho',hc⟩ ?_)
  have ht:(Value.type "tuple" == Value.type "tuple")=true:=by rfl
  rw[if_pos (by rw[ht];simp)]
  refine Wb (listItems_at ho' hd ?_)
  refine Wb (listItems_at (xs:=#[]) (n:=0) (aO _ rfl) rfl ?_)
  rw[if_neg At]
  refine Wb (listUpdate_at (xs:=#[]) (n:=0) (aO _ rfl) rfl ?_ (az _) (by show(#[]++vs.toArray).size<=sizeLine+1;simp only[Array.size_append,List.size_toArray,List.length_nil];lia))
  refine aA ?_
  show wpAny AS A (do
      let o <-load s.heap.objs.size
      match o.data with
      |.seq xs _=>pure xs.toList
      |_=>unsupported "internal:collect") Q E PP
  refine Wb (wpAny_load (get?_update_seq (aO _ rfl) _) ?_)
  show wpAny _ _ (pure ((#[]:Array VL)++vs.toArray).toList) Q E _
  rw[show((#[]:Array VL)++vs.toArray).toList=vs by simp]
  exact aA h
def uS{l:AD}{vs:yy}{Q:List VL->SD->Prop}(g:s.heap.IsList l vs.toArray\/s.heap.IsTuple l vs.toArray) (h:Q vs PP)(hsz:vs.length<=sizeLine):wpAny AS A (collect Rb) Q E s:=g.elim (fun z=>collect_list z h hsz) fun z=>Rn z h hsz
end
end TH
namespace Tim
open PySem PyProof.Rows
section pure
end pure
section
section pure
end pure
section pure
end pure
end
end Tim
namespace GS
open PySem PySem.W PyProof.Rows PySem.SeqAt
abbrev Ext(h0 h:Heap):Prop:=∀c o,h0.get? c=some o->h.get? c=some o
def VG(O:KeyOrd)(prog:F0b)(w:F0c)(κ:SortKind)(A:F0d)(s:SD)(ks:List O.α)(us:yy):Prop :=
 ∀(E:Uf) (i j:Nat) (x y:O.α) (u v:VL) (Q:W1),us[i]? = some u->us[j]? = some v->ks[i]? = some x->ks[j]? = some y->Q (O.blt x y) s->wpAny AS A (keyLt' κ u v) Q E s
structure W9(O:KeyOrd)(prog:Program)(w:World)(h0:Heap)(r:Nat)(ks:List O.α)(us:List Value):Prop where
 len:us.length=ks.length
 go:∃ok:SortKind->Prop,(∀(A:Around) (E:Value->Shared->Prop) (s:Shared) (Q:SortKind->Shared->Prop),Ext h0 s.heap->(∀κ,ok κ->Q κ s)->wpAny AS A (keyKind' us.toArray) Q E s) /\
  ∀(A:Around) (s:Shared) (κ:SortKind),Ext h0 s.heap->A.units+r<cLine->ok κ->VG O prog w κ A s ks us
def Runs(O:KeyOrd)(prog:F0b)(w:F0c)(ks:List O.α):Prop :=
 ∀(d:O.α) (A:F0d) (E:Uf) (s:SD) (κ:SortKind) (g:LQ),g.length=ks.length->2<=g.length->VG O prog w κ A s ks g ->
  wpAny AS A ((sortRuns').run (SortSt.mk' κ (g.toArray.zip g.toArray) #[] 7 none)) (fun r s'=>s'=s/\failedOf r.2=none/\∃ix:List Nat,ix.Perm (List.range g.length) /\
   (arrOf r.2).map (·.2)=(ix.map fun i=>g.getD i Value.none).toArray/\(ix.map fun i=>ks.getD i d).Pairwise O.kle) E s
def Lf{O:KeyOrd}{prog:F0b}{w:F0c}{ks:List O.α}(Y:ks.length<64):Runs O prog w ks:=by
 intro d A E s κ g hl h2 ask;have Y:g.length<64:=by lia
 refine kat_run (Q:=fun R s'=>s'=s/\failedOf R=none/\∃ix:List Nat,ix.Perm (List.range g.length)/\(arrOf R).map (·.2)=(ix.map fun i=>g.getD i Value.none).toArray/\(ix.map fun i=>ks.getD i d).Pairwise O.kle)
  (G:=fun p s'=>s'=s/\SM.Pm g.length p/\SM.Up (O:=O) (fun i=>ks.getD i d) p g.length) rfl h2 Y (fun p R s' hp har hf hG=>?_)
  (TH.X4 (lt:=SM.Ir (O:=O) fun i=>ks.getD i d) (n:=g.length) (fun i j C hi U Z=>?_) _ (SM.sort AC))
 .obtain⟨rfl,hpm,hup⟩:=hG;have h1:p.toList.Perm (List.range g.length):=by simpa using Array.perm_iff_toList_perm.mp hpm.perm
  refine⟨rfl,hf,p.toList,h1,kat_snds rfl har,?_⟩;refine List.pairwise_iff_getElem.mpr fun i j hi U hij=>?_;rw[(BJ),Array.length_toList,hp]at hi U;have:=hup i j AC U;have e1:∀k,k<g.length->∀T,(p.toList.map fun i=>ks.getD i d)[k]' T=ks.getD (p.getD k 0) d:=fun k T hk'=>by
   rw[List.getElem_map,Array.getElem_toList,Array.getD,dif_pos AC]
   rfl
  rw[e1 i hi,e1 j U];exact this
 .have gi:∀k,k<g.length->∃u x,g[k]? = some u/\ks[k]? = some x/\g.getD k Value.none=u/\ks.getD k d=x:=fun k T=>by
   refine⟨g[k],ks[k]' AC,List.getElem?_eq_getElem T,List.getElem?_eq_getElem AC,?_,?_⟩
   .rw[(Er),List.getElem?_eq_getElem T];rfl
   .rw[(Er),List.getElem?_eq_getElem AC];rfl
  obtain⟨u,x,q1,q2,q3,q4⟩:=gi i hi;obtain⟨v,y,r1,r2,r3,r4⟩:=gi j U;unfold kas_ask;rw[q3,r3];refine ask _ i j x y u v C q1 r1 q2 r2 ?_;have Z:C (O.blt (ks.getD i d) (ks.getD j d)) s:=Z;rw[q4,r4]at Z;exact Z
section
variable{O:KeyOrd}{prog:F0b}{w:F0c}{A:F0d}{E:yz}{s:SD}{h0:Heap}{r:Nat}{ks:List O.α}{us:yy}
def VG.rev{κ:SortKind}(Y:us.length=ks.length)(a:VG O prog w κ A s ks us):VG O prog w κ A s ks.reverse us.reverse:=fun E i j x y u v Q U T R g q=>by
 have b1:=(aD.mp U).1;have b2:=(aD.mp T).1;rw[List.length_reverse]at b1 b2;rw[List.getElem?_reverse AC]at U T R g;rw[<-Y]at R g;exact a E _ _ x y u v Q U T R g q
def kI{α:Type}{R:α->α->Prop}:∀ {l:List α},l.length<2->l.Pairwise R
 |[],_=>.nil
 |[_],_=>List.pairwise_singleton ..
 |_::_::_,h=>by simp at h;lia
def Qf(d : O.α){a : AD}{n : Nat}{b : Bool}{P : PySem.Fin->SD->Prop}(C : W9 O prog w h0 r ks us)(hx : Ext h0 s.heap)(ha0 : h0.objs.size<=a)(ho : s.heap.get? a = some (seqObj "list" us.toArray n))(hsz : us.length<=1000)(hr : Runs O prog w (if b then ks.reverse else ks))(hu : A.units + r < cLine) (h : ∀ ix : zG,ix.Perm (List.range us.length)->(ix.map fun i => ks.getD i d).Pairwise (fun x y => if b = true then O.kle y x else O.kle x y)->P (.done (.ret .none)) { s with heap:=sortedHeap s.heap a us (ix.map fun i => us.getD i Value.none).toArray }):wpAny AS A (Builtin.«list.sort» ⟨[.ref a],[(Str.ofString "reverse",.bool b)]⟩) P E s:=by
  rw [list_sort_rev]
  have ha : a < s.heap.objs.size:=aF ho
  refine Wb (listItems_at ho rfl ?_)
  refine Wb (listUpdate_at ho rfl ?_ (by rw [(Eb),sizeLine_eq]; lia) (az _))
  obtain ⟨e1,ho1⟩ : ∃ e1,(s.heap.update a (Obj.mapSeq fun _ => #[])).get? a = some (seqObj "list" #[] e1):=⟨_,get?_update_seq ho (fun _ => #[])⟩
  refine Wb (seqEpoch_at ho1 rfl ?_)
  refine Wb (wpAny_newTuple ?_ (by show us.length<=_; rw [sizeLine_eq]; lia))
  refine Wb (wpAny_newList ?_ (az _))
  refine aT ?_
  have ho6 : (((s.heap.update a (Obj.mapSeq fun _ => #[])).push (seqObj "tuple" us.toArray 0)).push (seqObj "list" #[] 0)).get? a = some (seqObj "list" #[] e1):=by
    rw [Heap.get?_push_ne _ _ _ (by rw [size_push',Heap.size_update]; exact aI (bU ha)),Heap.get?_push_ne _ _ _ (by rw [Heap.size_update]; exact aI ha)]
    exact ho1
  have keep : Ext h0 (((s.heap.update a (Obj.mapSeq fun _ => #[])).push (seqObj "tuple" us.toArray 0)).push (seqObj "list" #[] 0)):=fun c o hc => by
    have hlt : c < h0.objs.size:=aF hc
    have hne : c≠a:=fun z => Nat.not_lt.mpr ha0 (z ▸ hlt)
    refine aE _ (aE _ ?_)
    rw [Heap.get?_update_ne _ _ _ _ hne]
    exact hx c o hc
  show wpAny AS A _ P E EL
  dsimp only
  have step : ∀ T : Sem PySem.Fin,wpAny AS A T P E EL ->
      wpAny AS A (if b = true then (do let _ <- rule "list.sort.reverse"; T) else T) P E EL:=by
    intro T hT
    split
    . exact Wb (bH hT)
    . exact hT
  refine step _ ?_
  obtain ⟨ok,hkind,hask⟩:=C.go
  have hl:=C.len
  by_cases h2 : us.toArray.size < 2
  . rw [if_pos h2,if_pos h2]
    refine Wb Re
    rw [StateT.run_pure]
    refine Wb Re
    dsimp only
    have hz : us.length < 2:=by simpa using h2
    have hout:=TH.gN b us hz
    refine Wb (seqEpoch_at ho6 rfl ?_)
    refine Wb (listUpdate_at ho6 rfl ?_ (az _) (by
      refine aU (Nat.le_of_eq (bM Array.size hout)) ?_
      rw [(Eb),sizeLine_eq]; lia))
    simp only [bne_self_eq_false,Bool.false_eq_true,if_false]
    have fin:=h (List.range us.length) (.refl _) (kI (by simpa using hz))
    rw [TH.map_getD] at fin
    rw [<- hout] at fin
    exact aA fin
  . rw [if_neg h2,if_neg h2]
    have hz : 2<=us.length:=by simpa using h2
    refine Wb (hkind A E EL _ keep fun κ hκ => ?_)
    have ask:=hask A EL κ keep hu hκ
    obtain ⟨ws,kw,aw,hwl,hwk,hws,hrw,pick⟩ : ∃ (ws : List VL) (kw : List O.α),VG O prog w κ A { s with heap:=((s.heap.update a (Obj.mapSeq fun _ => #[])).push (seqObj "tuple" us.toArray 0)).push (seqObj "list" #[] 0) } kw ws/\ws.length = us.length/\ws.length = kw.length /\
        (if b = true then (us.toArray.zip us.toArray).reverse else us.toArray.zip us.toArray) = ws.toArray.zip ws.toArray/\Runs O prog w kw /\
        ∀ ix : List Nat,ix.Perm (List.range ws.length)->(ix.map fun i => kw.getD i d).Pairwise O.kle->∃ iy : List Nat,iy.Perm (List.range us.length)/\(iy.map fun i => ks.getD i d).Pairwise (fun x y => if b = true then O.kle y x else O.kle x y) /\
          (if b = true then ((ix.map fun i => ws.getD i Value.none).toArray).reverse else (ix.map fun i => ws.getD i Value.none).toArray) = (iy.map fun i => us.getD i Value.none).toArray:=by
      cases b with
      | false => exact ⟨us,ks,ask,rfl,hl,rfl,hr,fun ix h1 h2 => ⟨ix,h1,by simpa using h2,rfl⟩⟩
      | true=>
        refine ⟨us.reverse,ks.reverse,ask.rev hl,by simp,by simp [hl],kat_pairs (ks:=us) (vs:=us) true rfl,hr,fun ix h1 h2 => ⟨(ix.map fun i => us.length - 1 - i).reverse,?_,?_,?_⟩⟩
        . rw [List.length_reverse] at h1
          refine (List.reverse_perm _).trans ((h1.map fun i => us.length - 1 - i).trans ?_)
          have : (List.range us.length).map (fun i => us.length - 1 - i) = (List.range us.length).reverse:=by
            refine List.ext_getElem At fun i a1 a2 => ?_
            simp
          rw [this]
          exact List.reverse_perm _
        . have hb : ∀ i∈ix,i < us.length:=fun i hi => by simpa using h1.mem_iff.mp hi
          have e : ((ix.map fun i => us.length - 1 - i).reverse.map fun i => ks.getD i d) = (ix.map fun i => ks.reverse.getD i d).reverse:=by
            rw [List.map_reverse,(Ed)]
            congr 1
            exact ah fun i hi => by
              have:=hb i hi
              show ks.getD (us.length - 1 - i) d = _
              rw [(Er),(Er),List.getElem?_reverse AC,hl]
          rw [e,List.pairwise_reverse]
          simpa using h2
        . have hb : ∀ i∈ix,i < us.length:=fun i hi => by simpa using h1.mem_iff.mp hi
          rw [if_pos rfl,List.map_reverse,(Ed),List.reverse_toArray]
          congr 2
          exact ah fun i hi => by
            have:=hb i hi
            show us.reverse.getD i Value.none = us.getD (us.length - 1 - i) Value.none
            rw [(Er),(Er),List.getElem?_reverse AC]
    rw [hws]
    refine Wb (ao (hrw d A E EL κ ws hwk AC aw) ?_ fun _ _ z => z)
    rintro ⟨⟨⟩,st'⟩ s' ⟨rfl,hf,ix,hix,hout,hst⟩
    dsimp only
    refine Wb (seqEpoch_at ho6 rfl ?_)
    obtain ⟨iy,y1,y2,hfin⟩ : ∃ iy : List Nat,iy.Perm (List.range us.length)/\(iy.map fun i => ks.getD i d).Pairwise (fun x y => if b = true then O.kle y x else O.kle x y) /\
        (if b = true then ((arrOf st').map (·.2)).reverse else (arrOf st').map (·.2)) = (iy.map fun i => us.getD i Value.none).toArray:=by
      rw [show (arrOf st').map (·.2) = _ from hout]
      exact pick ix hix hst
    refine Wb (listUpdate_at ho6 rfl ?_ (az _) (by
      refine aU (Nat.le_of_eq (bM Array.size hfin)) ?_
      have:=y1.length_eq
      rw [List.length_range] at this
      rw [(Eb),(BJ),this,sizeLine_eq]; lia))
    rw [show failedOf st' = none from hf]
    simp only [bne_self_eq_false,Bool.false_eq_true,if_false]
    have fin:=h iy y1 y2
    rw [<- hfin] at fin
    exact aA fin
def Lo(prog:F0b)(w:F0c)(A:F0d)(E:yz)(s:SD)(v:VL)(us:yy):Prop :=
 ∀Q:List VL->SD->Prop,(∀(g:Heap) (tk:Nat),Ext s.heap g->s.heap.objs.size<=g.objs.size->Q us {s with heap:=g,toks:=tk})->wpAny AS A (collect v) Q E s
def MH{l:AD}(R:s.heap.IsList l us.toArray)(hz:us.length<=1000):Lo prog w A E s Rb us:=fun Q h=>by
 refine collect_list R (h _ _ (fun c o q=>?_) ?_) (by rw[sizeLine_eq];lia)
 .have g:c<s.heap.objs.size:=aF q;rw[Heap.get?_update_ne _ _ _ _ (aI g),Heap.get?_push_ne _ _ _ (aI g)];exact q
 .rw[Heap.size_update,size_push']
  lia
def Rr{l:AD}(R:s.heap.IsTuple l us.toArray)(hz:us.length<=1000):Lo prog w A E s Rb us:=fun Q h=>by
 refine TH.Rn R (h _ _ (fun c o q=>?_) ?_) (by rw[sizeLine_eq];lia)
 .have g:c<s.heap.objs.size:=aF q;rw[Heap.get?_update_ne _ _ _ _ (aI g),Heap.get?_push_ne _ _ _ (aI g)];exact q
 .rw[Heap.size_update,size_push']
  lia
def RF(d:O.α){b:Bool}{Q:yz}{g:Heap}{tk:Nat}{T:Sem PySem.Fin}(C:W9 O prog w s.heap r ks us)(hsz:us.length<=1000)(hr:Runs O prog w (if b then ks.reverse else ks))(R:Ext s.heap g)(z1:s.heap.objs.size<=g.objs.size) (h:∀(h':Heap) (D tk:Nat) (ix:zG) (Y:Nat),s.heap.objs.size<=D->Ext s.heap h'->h'.get? D=some (seqObj "list" (ix.map fun i=>us.getD i Value.none).toArray Y)->ix.Perm (List.range us.length)->(ix.map fun i=>ks.getD i d).Pairwise (fun x y=>if b=true then O.kle y x else O.kle x y)->Q (.ref D) Da):(g.push SL).get? g.objs.size=some SL/\Ext s.heap (g.push SL) /\∀ix:zG,ix.Perm (List.range us.length)->(ix.map fun i=>ks.getD i d).Pairwise (fun x y=>if b=true then O.kle y x else O.kle x y)->Q (.ref g.objs.size) {s with heap:=sortedHeap (g.push SL) g.objs.size us (ix.map fun i=>us.getD i Value.none).toArray,toks:=tk}:=by
 have g1:(g.push SL).get? g.objs.size=some SL:=aO _ rfl;refine⟨g1,fun b u e=>aE _ (R b u e),fun ix p1 p2=>?_⟩;obtain⟨Y,U⟩:=sortedHeap_at (vs:=us) (out:=(ix.map fun i=>us.getD i Value.none).toArray) g1;refine h _ g.objs.size tk ix Y z1 (fun b u e=>?_) U p1 p2;have Z:b<g.objs.size:=aF (R b u e);rw[sortedHeap_old (aI Z) (by rw[(Ii)];exact bU Z)];exact aE _ (R b u e)
def XO(d:O.α){v:VL}{Q:yz}(G:Lo prog w A.in1 E s v us)(C:W9 O prog w s.heap r ks us)(hsz:us.length<=1000)(U:Runs O prog w ks)(hu:A.units+2+r<cLine) (h:∀(h':Heap) (D tk:Nat) (ix:zG) (g:Nat),s.heap.objs.size<=D->Ext s.heap h'->h'.get? D=some (seqObj "list" (ix.map fun i=>us.getD i Value.none).toArray g)->ix.Perm (List.range us.length)->(ix.map fun i=>ks.getD i d).Pairwise O.kle->Q (.ref D) Da):wpAny AS A (call XV [v]) Q E s:=by
 refine Calls.call_function_entry kind_sorted plain_sorted entry_sorted (args_sorted1 _) ?_;unfold Builtin.«sorted»;refine Wb (m:=checkCount "sorted" 1 1 _) Re;refine Wb (G _ fun h1 tk x1 R=>?_);refine Wb (wpAny_newList ?_ (by rw[sizeLine_eq];lia));obtain⟨Y,Z,fin⟩:=RF (T:=pure (.done (.ret .none))) (tk:=tk) (b:=false) d C hsz (by simpa using U) x1 R (fun h' D tk ix g a1 a2 a3 a4 a5=>h h' D tk ix g a1 a2 a3 a4 (by simpa using a5));refine Wb (aT (aa slot_list_sort ⟨_,Y,rfl⟩ entry_list_sort ?_ (args_list_sort _)));rw[TH.Nc];refine Qf (s:={s with heap:=h1.push SL,toks:=tk}) d C Z R Y hsz (by simpa using U) (by rw[show A.in1.in1.units=A.units+2 from rfl];lia) fun ix p1 p2=>⟨_,rfl,?_⟩;exact aA ⟨_,rfl,fin ix p1 p2⟩
def jd(d:O.α){v:VL}{b:Bool}{Q:yz}(G:Lo prog w A.in1 E s v us)(C:W9 O prog w s.heap r ks us)(hsz:us.length<=1000)(R:Runs O prog w (if b then ks.reverse else ks))(hu:A.units+2+r<cLine) (h:∀(h':Heap) (D tk:Nat) (ix:zG) (e1:Nat),s.heap.objs.size<=D->Ext s.heap h'->h'.get? D=some (seqObj "list" (ix.map fun i=>us.getD i Value.none).toArray e1)->ix.Perm (List.range us.length)->(ix.map fun i=>ks.getD i d).Pairwise (fun x y=>if b=true then O.kle y x else O.kle x y)->Q (.ref D) Da):wpAny AS A (call XV [v] [(Str.ofString "reverse",.bool b)]) Q E s:=by
 refine call_function_entry_kw kind_sorted plain_sorted entry_sorted (args_sorted_rev _ _) ?_;unfold Builtin.«sorted»;refine Wb (m:=checkCount "sorted" 1 1 _) Re;refine Wb (G _ fun h1 tk Z g=>?_);refine Wb (wpAny_newList ?_ (by rw[sizeLine_eq];lia));obtain⟨U,Y,fin⟩:=RF (T:=pure (.done (.ret .none))) (tk:=tk) (b:=b) d C hsz R Z g h;refine Wb (aT (wpAny_call_entry_kw slot_list_sort ⟨_,U,rfl⟩ entry_list_sort ?_ (args_list_sort_rev _ _)));refine Qf (s:={s with heap:=h1.push SL,toks:=tk}) d C Y g U hsz R (by rw[show A.in1.in1.units=A.units+2 from rfl];lia) fun ix p1 p2=>⟨_,rfl,?_⟩;exact aA ⟨_,rfl,fin ix p1 p2⟩
end
end GS
namespace TH
open PySem PySem.W PyProof.Rows PySem.SeqAt
section
variable{prog:F0b}{w:F0c}{A:F0d}{E:yz}{s:SD}
def XY{h0:Heap}{t:Tr}{us:yy}(e:Vs h0 t us):GS.W9 Tr.ord prog w h0 t.deep t.bs us:=by
 have hl:=e.length.trans (Tr.Ft t).symm;refine⟨hl,XI,fun A E s Q x k=>og (e.keeps fun b o q _=>x b o q) k,fun A s κ x hu T E i j y z u v Q R h2 U h4 q=>?_⟩;have e':=e.keeps fun b o q _=>x b o q;have get:∀ {i:Nat} {u:VL} {y:Tr},us[i]? = some u->t.bs[i]? = some y->∃(a:AD) (g:LQ),u=.ref a/\s.heap.IsTuple a g.toArray/\Vs s.heap y g/\y.deep<t.deep:=fun {i u y} R U=>by
  have hi:=(aD.mp R).1;obtain⟨a,g,c,q1,q2,q3,Y,q5⟩:=e'.at hi;rw[(Er),R]at q1;rw[U]at Y;cases Y;exact⟨a,g,q1,q2,q3,q5⟩
 obtain⟨a,g,rfl,a2,a3,a4⟩:=get R U;obtain⟨b,Z,rfl,b2,b3,b4⟩:=get h2 h4;exact mY T a2 a3 b2 b3 AC q
def dW{t:Tr}{n:Nat}(g:n=t.bs.length){ix:zG}(p:ix.Perm (List.range n)):ix.length=n/\(∀i∈ix,i<n)/\(ix.map fun i=>t.bs.getD i .nil).Perm t.bs:=by
 refine⟨by rw[p.length_eq,List.length_range],fun i hi=>bX.mp (p.mem_iff.mp hi),?_⟩;have:=p.map fun i=>t.bs.getD i Tr.nil;rw[g,map_getD]at this;exact this
def Wa{h0:Heap}{a:AD}{us:yy}{t:Tr}{n:Nat}{P:PySem.Fin->SD->Prop}(Z:∀c o,h0.get? c=some o->s.heap.get? c=some o)(ha:h0.objs.size<=a)(ho:s.heap.get? a=some (seqObj "list" us.toArray n))(e:Vs h0 t us)(h64:us.length<64)(hu:SZ) (h:∀ix:zG,ix.length=us.length->(∀i∈ix,i<us.length)->(ix.map fun i=>t.bs.getD i .nil)=(Tr.Eh t.bs).reverse->P (.done (.ret .none)) {s with heap:=sortedHeap s.heap a us (ix.map fun i=>us.getD i Value.none).toArray}):wpAny AS A (Builtin.«list.sort» ⟨[.ref a],[]⟩) P E s:=by
 have hl:=e.length.trans (Tr.Ft t).symm;rw[Nc];refine GS.Qf (b:=false) Tr.nil (XY e) Z ha ho AC (GS.Lf (by show t.bs.length<64;lia)) hu fun ix Y U=>?_;obtain⟨T,R,g⟩:=dW hl Y;exact h ix T R (Tr.Ow (List.Pairwise.imp (S:=fun a b=>Tr.lt b a=false) (fun {x y} z=>by first|exact z|(rw[if_neg aK]at z;exact z)) U) g)
def Rl{v:VL}{us:yy}{t:Tr}{Q:yz}(G:GS.Lo prog w A.in1 E s v us)(e:Vs s.heap t us)(h64:us.length<64)(hu:A.units+2+t.deep<cLine) (h:∀(h':Heap) (D tk:Nat) (ix:zG) (g:Nat),ix.length=us.length->(∀i∈ix,i<us.length)->(ix.map fun i=>t.bs.getD i .nil)=(Tr.Eh t.bs).reverse->s.heap.objs.size<=D->(∀c o,s.heap.get? c=some o->h'.get? c=some o) ->h'.get? D=some (seqObj "list" (ix.map fun i=>us.getD i Value.none).toArray g)->Q (.ref D) Da):wpAny AS A (call XV [v]) Q E s:=by
 have hl:=e.length.trans (Tr.Ft t).symm;refine GS.XO Tr.nil G (XY e) AC (GS.Lf (by show t.bs.length<64;lia)) hu fun h' D tk ix g a1 a2 a3 Z Y=>?_;obtain⟨U,T,R⟩:=dW hl Z;exact h h' D tk ix g U T (Tr.Ow (List.Pairwise.imp (S:=fun a b=>Tr.lt b a=false) (fun {x y} z=>by first|exact z|(rw[if_neg aK]at z;exact z)) Y) R) a1 a2 a3
def Qc{v:VL}{us:yy}{t:Tr}{Q:yz}(G:GS.Lo prog w A.in1 E s v us)(e:Vs s.heap t us)(h64:us.length<64)(hu:A.units+2+t.deep<cLine) (h:∀(h':Heap) (D tk:Nat) (ix:zG) (g:Nat),ix.length=us.length->(∀i∈ix,i<us.length)->(ix.map fun i=>t.bs.getD i .nil)=Tr.Eh t.bs->s.heap.objs.size<=D->(∀c o,s.heap.get? c=some o->h'.get? c=some o) ->h'.get? D=some (seqObj "list" (ix.map fun i=>us.getD i Value.none).toArray g)->Q (.ref D) Da):wpAny AS A (call XV [v] [(Str.ofString "reverse",.bool true)]) Q E s:=by
 have hl:=e.length.trans (Tr.Ft t).symm;refine GS.jd (b:=true) Tr.nil G (XY e) AC (GS.Lf (by show t.bs.reverse.length<64;rw[List.length_reverse];lia)) hu fun h' D tk ix g a1 a2 a3 Z Y=>?_;obtain⟨U,T,R⟩:=dW hl Z;exact h h' D tk ix g U T (Tr.gC (List.Pairwise.imp (S:=fun a b=>Tr.lt a b=false) (fun {x y} z=>by rw[if_pos rfl]at z;exact z) Y) R) a1 a2 a3
end
end TH
namespace L2
open PySem PySem.Spec PyProof.Rows
theorem Vals.pick{xs:IZ}{us:LQ}(r:Vals xs us):∀ix:List Nat,(∀i∈ix,i<xs.length)->Vals (ix.map fun i=>xs.getD i .BP) (ix.map fun i=>us.getD i Value.none)
 |[],_=>.nil
 |i::ix,h=>by
  refine .cons ?_ (Vals.pick r ix fun k g=>h k (aS _ g));have hi:=h i aX;obtain⟨u,T,R⟩:=r.get (i:=i) (x:=xs[i]) (by simp[hi]);show RelV (xs.getD i .BP) (us.getD i Value.none);rw[(Er),(Er),T,List.getElem?_eq_getElem hi];exact R
section
variable{X:Cx}
def vE(K:Fg):List V->Hp->VK->Prop:=fun xs H Q=>∃(p:AD) (ys:IZ) (t:Tr),xs=[.ref p]/\(Aw K H p ys\/BK K H p ys)/\Ts H t ys/\ys.length<64/\t.deep<=60 /\
 ∀(l:AD) (g:IZ),H l=none->Ts H (Tr.of (Tr.Eh t.bs).reverse) g->Q Rb (upd H l (.lst g))
def fM(K:Fg):List V->Hp->VK->Prop:=fun xs H Q=>∃(p:AD) (ys:IZ) (t:Tr),xs=[.ref p]/\(Aw K H p ys\/BK K H p ys)/\Ts H t ys/\ys.length<64/\t.deep<=60 /\
 ∀(l:AD) (g:IZ),H l=none->Ts H (Tr.of (Tr.Eh t.bs)) g->Q Rb (upd H l (.lst g))
def PL{pins:Cu}{σ:St}{H:Hp}{s:SD}{Q:VK}{t:Tr}{ts:zK}{ys:zJ}{g:yy}{h':Heap}{D tk:Nat}{ix:zG}{e1:Nat}(I:BY)(ht:Ts H t ys)(U:Vals ys g)(T:ys.length<64) (a1:ix.length=g.length)(a2:∀i∈ix,i<g.length)(a3:(ix.map fun i=>t.bs.getD i .nil)=ts)(Y:s.heap.objs.size<=D)(keep:∀c o,s.heap.get? c=some o->h'.get? c=some o) (hD:h'.get? D=some (seqObj "list" (ix.map fun i=>g.getD i Value.none).toArray e1))(q:∀(l:AD) (zs:zJ),H l=none->Ts H (Tr.of ts) zs->Q Rb (upd H l (.lst zs))):EP X pins σ Q (.ref D) Da:=by
 have Z:=U.length;have R:∀i∈ix,i<ys.length:=fun i hi=>by rw[Z];exact a2 i hi
 refine⟨.ref D,upd H D (.lst (ix.map fun i=>ys.getD i .BP)),I.laid (t':=tk) keep Y ⟨?_,_,e1,U.pick ix R,hD⟩,rfl,q _ _ (I.A9.fresh Y) ?_⟩
 .rw[(BJ),a1,<-Z];exact bD (aH T KF)
 .rw[<-a3];exact ht.pick ix R
def gK(hu:IO):FZ X XV (vE X.K):=by
 intro pins s σ H xs us Q I r h;obtain⟨p,ys,t,rfl,T,Y,U,hd,q⟩:=h;obtain⟨u,rfl,r1⟩:=r.one;cases r1;rcases T with T|T
 .obtain⟨R,g,Z,hz⟩:=I.list T;have hl:=g.length;exact TH.Rl (GS.MH Z.isList AC) (Y.vs I g) AC AC fun h' D tk ix e1 a1 a2 a3 lD keep hD=>PL I Y g U a1 a2 a3 lD keep hD q
 .obtain⟨R,g,Z,hz⟩:=I.tuple T;have hl:=g.length;exact TH.Rl (GS.Rr (show s.heap.IsTuple p R.toArray from Z) AC) (Y.vs I g) AC AC fun h' D tk ix e1 a1 a2 a3 lD keep hD=>PL I Y g U a1 a2 a3 lD keep hD q
def Yz{e:Expr}{t:TA}{p pos kp kp2:Pos}{j}(hu:IO)(hg:Gl X "sorted")(hm:X.mg "sorted" = none)(ha:PA X [e] t) (he:backTo pos (starEach [e] X.env)=Go::backTo pos (starEach [] X.env):=by rfl)(g:(backTo pos (starEach [e] X.env)).any M0=false:=by rfl):PE X (.Call (.Name "sorted" p) [e] [⟨some "reverse",.Constant Jq j kp2,kp⟩] pos) (fun σ H Q=>t σ H fun vs H1=>fM X.K vs H1 Q):=by
 intro pins s σ H Q I h;refine wpAny_Call_Name_kw (Gx I hg hm boot_sorted ?_ AT AT);refine callWith_kw (BX OF fun us s1 ⟨vs,H1,T,r1,q1⟩=>kws_cons (Constant_bool (kws_nil ?_))) he g;obtain⟨p,ys,t,rfl,Y,ht,Z,hd,q⟩:=q1;obtain⟨u,rfl,r2⟩:=r1.one;cases r2;rcases Y with Y|Y
 .obtain⟨U,R,pl,hz⟩:=T.list Y;have hl:=R.length;exact TH.Qc (GS.MH pl.isList AC) (ht.vs T R) AC AC fun h' D tk ix e1 a1 a2 a3 lD keep hD=>PL T ht R Z a1 a2 a3 lD keep hD q
 .obtain⟨U,R,pl,hz⟩:=T.tuple Y;have hl:=R.length;exact TH.Qc (GS.Rr (show s1.heap.IsTuple p U.toArray from pl) AC) (ht.vs T R) AC AC fun h' D tk ix e1 a1 a2 a3 lD keep hD=>PL T ht R Z a1 a2 a3 lD keep hD q
def qT{e k:Expr}{te tk:TE}{pos p2:Pos}(he:PE X e te)(hk:PE X k tk):PE X (.Subscript e (.Slice none none (some k) p2) pos) (fun σ H Q=>te σ H fun x H1=>tk σ H1 fun z Z=>∃(a:AD) (xs:zJ),x=.ref a/\z=.int (-1)/\Aw X.K Z a xs/\∀p,Z p=none->Q (.ref p) (upd Z p (.lst xs.reverse))):=by
 intro pins s σ H Q I h;refine Subscript_ (BX (he pins s σ H _ I h) fun v s1 ⟨x,H1,I1,r1,q1⟩=>?_);refine wpAny_Slice ?_;rw[evalPart_none];refine aA ?_;refine aA ?_;rw[evalPart_some];refine BX (hk pins s1 σ H1 _ I1 q1) fun vk g ⟨z,H3,I3,r3,q3⟩=>?_;obtain⟨a,xs,rfl,rfl,hq,q⟩:=q3;cases r1;obtain⟨R,rfl⟩:=r3;have Y:Inv X pins σ H3 {g with heap:=g.heap.push { cls:=.type "slice",data:=.fields #[.none,.none,.int (-1) R]} }:=I3.kept (t':=g.toks) fun b ob q=>aE _ q;obtain⟨U,rv,pl,hz⟩:=Y.list hq;have hlen:=rv.length;show wpAny Ch X.A (subscriptTail e (.Slice none none (some k) p2) Hf (.ref g.heap.objs.size)) Tt X.xe {g with heap:=g.heap.push { cls:=.type "slice",data:=.fields #[.none,.none,.int (-1) R]} };refine tail_any (ops:=[.ref a,.ref g.heap.objs.size]) (T := "list") pl.isList.typeIs slot_list_getitem.lookup ?_ (by with_unfolding_all rfl);refine wpAny_getItem_list_slice pl.isList (Heap.IsSliceOf.new ..) .none .none (.int (-1) R) AT ?_ (by rw[(Eb)]<;>lia);rw[PySem.W.krv_pick];refine⟨.ref _,_,Y.laid (t':=g.toks) (o:=.lst xs.reverse) (fun b ob q=>aE _ q) Ql ?_,rfl,q _ (Y.A9.fresh Ql)⟩;exact⟨by rw[List.length_reverse];exact hz,U.reverse,0,rv.reverse,Heap.get?_push_size _ rfl⟩
end
def CW(Pv:Nat->List V->Hp->Prop)(n:Nat)(D:AD):Nat->Nat->List V->Hp->Prop:=fun i m ys H=>m=n-i/\i<=n/\H D=some IR/\Pv i ys H
def FW{Pv:Nat->List V->Hp->Prop}{n i:Nat}{D:AD}{ys:zJ}{y:V}{H:Hp}(hi:i<n)(p:Pv MS WP (upd H D (.lst WP))):∃g,g<n-i/\CW Pv n D MS g WP (upd H D (.lst WP)) :=
 ⟨n-MS,by lia,rfl,hi,AR,p⟩
def Z6{Pv:Nat->List V->Hp->Prop}{n i:Nat}{D:AD}{ys:zJ}{H:Hp}(hi:i<n)(R:H D=some IR)(p:Pv MS ys H):∃g,g<n-i/\CW Pv n D MS g ys H:=⟨n-MS,by lia,rfl,hi,R,p⟩
def Hv{J:It}{n:Nat}{D:AD}{H1:Hp}{fr:zO}{σ:St}{ix:Nat}{T:TT}{te:TE}{G:Hp->Prop}(Pv:Nat->List V->Hp->Prop)(h0:Pv 0 [] (upd H1 D PZ)) (hgo:∀i ys H,i<n->Pv i ys H->H D=some IR->J.go i H/\ys.length<sizeLine/\∀x H',J.Ge i H x H' ->T Pb H' fun b Y=>if b=true then te Pb Y fun y U=>U D=some IR/\∃g,g<n-i/\CW Pv n D MS g WP (upd U D (.lst WP)) else ∃g,g<n-i/\CW Pv n D MS g ys Y) (R:∀ys H,Pv n ys H->H D=some IR->J.stop n H/\G H):∃W:Nat->Nat->List V->Hp->Prop,(∃m,W 0 m [] (upd H1 D PZ)) /\∀i m ys H,W i m ys H->H D=some IR/\((J.stop i H/\G H)\/(J.go i H/\ys.length<sizeLine/\∀x H',J.Ge i H x H' ->T Pb H' fun b Y=>if b=true then te Pb Y fun y U=>U D=some IR/\∃g,g<m/\W MS g WP (upd U D (.lst WP)) else ∃g,g<m/\W MS g ys Y)):=by
 refine⟨CW Pv n D,⟨n,by simp,Nat.zero_le _,AR,h0⟩,?_⟩;rintro i m ys H ⟨rfl,hi,hH,p⟩;refine⟨hH,?_⟩;by_cases Z:i<n
 .exact .inr (hgo i ys H Z p hH)
 .have e:i=n:=by lia
  subst e;exact .inl (R ys H p hH)
section
variable{X:Cx}
def O4(hc:bi):FZ X (.builtin "sum") (fun xs H Q=>∃(p:AD) (ns:zA),xs=[.ref p]/\Aw X.K H p RW/\Q (.int ns.sum) H):=by
 intro pins s σ H xs us Q I r h;obtain⟨p,ns,rfl,hq,q⟩:=h;obtain⟨u,rfl,Z⟩:=r.one;cases Z;obtain⟨g,Y,pl,hz⟩:=I.list hq;have hi:=intsAre_of Y;obtain⟨xs,U⟩:=hi.allInts.items;have R:s.heap.IsList p (intItems xs):=U ▸ pl.isList
 refine sum_intListG Nu R fun h' tk T hk=>?_;have e1:ns=xs.toList.map M0:=by
  rw[<-nums_intItems,<-U];exact(show numsOf g.toArray.toList=ns from hi.numsOf).symm
 have e2:preSum (numAt xs) xs.size=ns.sum:=by
  rw[preSum_eq,List.take_of_length_le At,e1]
 rw[e2];exact⟨.int _,H,I.kept (t':=tk) hk,⟨T,rfl⟩,q⟩
end
section
variable{X:Cx}{scope:Scope}{cl:List (Str×AD)}{N:zC}{C:AD}{s₀:SD}{H₀:Hp}{fp:zL}
def Jw:Rk Cl (j9 X.K):=IT
end
mutual
def Dt(l:AD)(H:Hp):PD->V->Prop
 |.none,v=>v=.BP
 |.bool b,v=>v=.bl b
 |.int i,v=>v=.int i
 |.str x,v=>v=.str x
 |.tuple g,v=>∃(a:AD) (xs:IZ),v=.ref a/\a≠l/\H a=some Ke/\BR l H g xs
 |.list g,v=>∃(a:AD) (xs:IZ),v=.ref a/\a≠l/\H a=some KB/\BR l H g xs
 |.dict _,_=>False
def BR(l:AD)(H:Hp):List PD->List V->Prop
 |[],xs=>xs=[]
 |d::g,xs=>∃x r,xs=x::r/\Dt l H d x/\BR l H g r
end
mutual
theorem Dt.but{l:AD}{H H':Hp}(e:SameBut l H H'):∀ {d:PD} {v:V},Dt l H d v->Dt l H' d v
 |.none,_,h=>by rw[Dt]at h ⊢;exact h
 |.bool _,_,h=>by rw[Dt]at h ⊢;exact h
 |.int _,_,h=>by rw[Dt]at h ⊢;exact h
 |.str _,_,h=>by rw[Dt]at h ⊢;exact h
 |.tuple _,_,h=>by
  rw[Dt]at h ⊢;obtain⟨a,xs,T,n,R,g⟩:=h;exact⟨a,xs,T,n,e _ _ n R,BR.but e g⟩
 |.list _,_,h=>by
  rw[Dt]at h ⊢;obtain⟨a,xs,T,n,R,g⟩:=h;exact⟨a,xs,T,n,e _ _ n R,BR.but e g⟩
 |.dict _,_,h=>by rw[Dt]at h;exact h.elim
theorem BR.but{l:AD}{H H':Hp}(e:SameBut l H H'):∀ {ds:List PD} {xs:IZ},BR l H ds xs->BR l H' ds xs
 |[],_,h=>by rw[BR]at h ⊢;exact h
 |_::_,_,h=>by
  rw[BR]at h ⊢;obtain⟨x,r,T,R,g⟩:=h;exact⟨x,r,T,Dt.but e R,BR.but e g⟩
end
def Dt.same{l:AD}{H H':Hp}{d:PD}{v:V}(h:Dt l H d v)(e:AL H H'):Dt l H' d v:=Dt.but (.of e) h
def BR.same{l:AD}{H H':Hp}{d:yx}{v:zJ}(h:BR l H d v)(e:AL H H'):BR l H' d v:=BR.but (.of e) h
theorem BR.len{l:AD}{H:Hp}:∀ {ds:List PD} {xs:IZ},BR l H ds xs->xs.length=ds.length
 |[],_,h=>by rw[BR]at h;rw[h];rfl
 |_::_,_,h=>by
  rw[BR]at h;obtain⟨x,r,rfl,_,g⟩:=h;rw[(Jz),(Jz),BR.len g]
def BR.get{l:AD}{H:Hp}:∀ {ds:List PD} {xs:IZ} {i:Nat} {v:V},BR l H ds xs->xs[i]? = some v->∃d,ds[i]? = some d/\Dt l H d v
 |[],_,i,v,h,e=>by rw[BR]at h;subst h;simp at e
 |d::ds,_,i,v,h,e=>by
  rw[BR]at h;obtain⟨x,r,rfl,T,R⟩:=h;cases i with
  |zero=>simp at e;subst e;exact⟨d,rfl,T⟩
  |succ i=>
   obtain⟨c,q1,g⟩:=R.get (i:=i) (v:=v) (by simpa using e);exact⟨c,by simpa using q1,g⟩
def BR.nil{l:AD}{H:Hp}:BR l H [] []:=by rw[BR]
def BR.cons{l:AD}{H:Hp}{d:PD}{ds:yx}{x:V}{xs:zJ}(h:Dt l H d x)(k:BR l H ds xs):BR l H (d::ds) (x::xs):=by
 rw[BR];exact⟨x,xs,rfl,h,k⟩
def Dt.int{l:AD}{H:Hp}{i:Int}:Dt l H (.int i) (.int i):=by rw[Dt]
def Dt.bool{l:AD}{H:Hp}{b:Bool}:Dt l H (.bool b) (.bl b):=by rw[Dt]
def Dt.BP{l:AD}{H:Hp}:Dt l H .none .BP:=by rw[Dt]
def Dt.str{l:AD}{H:Hp}{x:Str}:Dt l H (.str x) (.str x):=by rw[Dt]
def Dt.tup{l a:AD}{H:Hp}{ds:yx}{xs:zJ}(n:a≠l)(h:H a=some Ke)(k:BR l H ds xs):Dt l H (.tuple ds) Hf:=by rw[Dt];exact⟨a,xs,rfl,n,h,k⟩
def Dt.lst{l a:AD}{H:Hp}{ds:yx}{xs:zJ}(n:a≠l)(h:H a=some KB)(k:BR l H ds xs):Dt l H (.list ds) Hf:=by rw[Dt];exact⟨a,xs,rfl,n,h,k⟩
def Ok(n:Nat)(d:PD):Prop:=d.canLay0=true/\d.depth<=n
def eW(n:Nat)(ds:yx):Prop:=PyData.canLayAll0 ds=true/\PyData.depthAll ds<=n
def Ok.shaped{n:Nat}{d:PD}(h:Ok n d)(hn:n<=64):SeqAt.shaped d=true:=by
 unfold SeqAt.shaped;rw[h.1,Bool.true_and];exact bf (aU h.2 hn)
def Ok.tup{n:Nat}{ds:yx}(h:eW n ds):Ok (n+1) (.tuple ds):=⟨by simp only[PyData.canLay0];exact h.1,by simp only[PyData.depth];exact Nat.succ_le_succ h.2⟩
def Ok.lst{n:Nat}{ds:yx}(h:eW n ds):Ok (n+1) (.list ds):=⟨by simp only[PyData.canLay0];exact h.1,by simp only[PyData.depth];exact Nat.succ_le_succ h.2⟩
def Ok.int{n:Nat}{i:Int}:Ok n (.int i):=⟨by simp[PyData.canLay0],by simp[PyData.depth]⟩
mutual
theorem OW:∀d:PD,d.canLay0=true->PyData.eqv d d=true
 |.none,_=>by simp[PyData.eqv]
 |.bool _,_=>by simp[PyData.eqv]
 |.int _,_=>by simp[PyData.eqv]
 |.str _,_=>by simp[PyData.eqv]
 |.tuple g,h=>by simp only[PyData.eqv];exact NX g (by simpa only[PyData.canLay0]using h)
 |.list g,h=>by simp only[PyData.eqv];exact NX g (by simpa only[PyData.canLay0]using h)
 |.dict _,h=>by simp[PyData.canLay0]at h
theorem NX:∀ds:List PD,PyData.canLayAll0 ds=true->PyData.eqvAll ds ds=true
 |[],_=>by simp[PyData.eqvAll]
 |d::ds,h=>by
  simp only[PyData.canLayAll0,Bool.and_eq_true]at h;simp only[PyData.eqvAll,OW d h.1,NX ds h.2,Bool.and_self]
end
def VD:PD->String
 |.none => "NoneType"
 |.bool _ => "bool"
 |.int _ => "int"
 |.str _ => "str"
 |.tuple _ => "tuple"
 |.list _ => "list"
 |.dict _ => "dict"
def UT:PD->Bool
 |.tuple _=>true
 |_=>false
def Xi:PD->Bool
 |.list _=>true
 |_=>false
def gU:PD->Bool
 |.int _=>true
 |.bool _=>true
 |_=>false
def Zh:PD->Bool
 |.bool _=>true
 |_=>false
def SU(K:Fg):∀d:PD,(∀g,d≠.dict g)->PySem.W.kitOne K (.type (VD d)) Fk=some (UT d)
 |.none,_=>t9 K
 |.bool _,_=>qu K
 |.int _,_=>qJ K
 |.str _,_=>rH K
 |.tuple _,_=>sR K
 |.list _,_=>pJ K
 |.dict g,h=>absurd rfl (h g)
def Y1(K:Fg):∀d:PD,(∀g,d≠.dict g)->PySem.W.kitOne K (.type (VD d)) (.type "list")=some (Xi d)
 |.none,_=>uJ K
 |.bool _,_=>sQ K
 |.int _,_=>pR K
 |.str _,_=>sI K
 |.tuple _,_=>qZ K
 |.list _,_=>sO K
 |.dict g,h=>absurd rfl (h g)
def rR(K:Fg):PySem.W.kitOne K (.type "NoneType") (.type "bool")=some false:=by kernel_rfl
def uM(K:Fg):PySem.W.kitOne K (.type "str") (.type "bool")=some false:=by kernel_rfl
def qr(K:Fg):PySem.W.kitOne K Fk (.type "bool")=some false:=by kernel_rfl
def qR(K:Fg):PySem.W.kitOne K (.type "list") (.type "bool")=some false:=by kernel_rfl
def jQ(K:Fg):∀d:PD,(∀g,d≠.dict g)->PySem.W.kitOne K (.type (VD d)) (.type "int")=some (gU d)
 |.none,_=>rz K
 |.bool _,_=>sm K
 |.int _,_=>pf K
 |.str _,_=>sG K
 |.tuple _,_=>pY K
 |.list _,_=>uE K
 |.dict g,h=>absurd rfl (h g)
def fm(K:Fg):∀d:PD,(∀g,d≠.dict g)->PySem.W.kitOne K (.type (VD d)) (.type "bool")=some (Zh d)
 |.none,_=>rR K
 |.bool _,_=>qx K
 |.int _,_=>qj K
 |.str _,_=>uM K
 |.tuple _,_=>qr K
 |.list _,_=>qR K
 |.dict g,h=>absurd rfl (h g)
end L2
namespace Tr
def SK{t c:Tr}(h:c∈t.bs):c.deep<t.deep:=by
 induction t with
 |nil=>cases h
 |cons b r _ g=>
  rw[bs]at h;have hd:(cons b r).deep=max (b.deep+1) r.deep:=rfl;rcases aM.mp h with rfl|h
  .lia
  .have:=g h;lia
theorem EO:∀t:Tr,0<t.AI
 |.nil=>Nat.one_pos
 |.cons b r=>by rw[AI];have:=EO b;lia
def M7{t c:Tr}(h:c∈t.bs):c.AI<t.AI:=by
 induction t with
 |nil=>cases h
 |cons b r _ g=>
  rw[bs]at h;have R:(cons b r).AI=b.AI+r.AI:=rfl;have U:=EO b;have T:=EO r;rcases aM.mp h with rfl|h
  .lia
  .have:=g h;lia
theorem WM:∀t:Tr,1+(t.bs.map fun c=>(c.AI:Int)).sum=(t.AI:Int)
 |.nil=>rfl
 |.cons b r=>by
  rw[bs,(A2),(K1),AI];have:=WM r
  lia
theorem Qp:∀t:Tr,t.bs.length<t.AI
 |.nil=>Nat.one_pos
 |.cons b r=>by
  rw[bs,(Jz),AI];have:=Qp r;have:=EO b
  lia
def dp:Tr->Nat
 |.nil=>1
 |.cons b r=>b.AI*b.dp*r.dp
def Kx(t:Tr):Nat:=t.AI*t.dp
end Tr
namespace L2
open PySem PySem.Spec PyProof.Rows
mutual
def FJ:PD->Option Tr
 |.tuple g=>EH g
 |_=>none
def EH:List PD->Option Tr
 |[]=>some .nil
 |d::g=>(FJ d).bind fun b=>(EH g).map fun r=>.cons b r
end
section
variable{X:Cx}
def vx:R2:=fun x y H Q=>∃a b xs ys,x=.ref a/\y=.ref b/\H a=some Ke/\H b=some (.tup ys)/\xs.length+ys.length<=sizeLine/\∀p H',AL H H'->H' p=some (.tup (xs++ys))->Q (.ref p) H'
def oA:Dd X (binaryOp .Add) vx:=by
 intro pins s σ H x y v u Q I rx ry h;obtain⟨a,b,xs,ys,rfl,rfl,ha,hb,hz,q⟩:=h;cases rx;cases ry;obtain⟨its,Z,p1,_⟩:=I.tuple (BK.of (K:=X.K) ha);obtain⟨its2,Y,p2,_⟩:=I.tuple (BK.of (K:=X.K) hb);by_cases hv:its=[]
 .have hx:=Z.cQ.mp hv;subst hv hx;obtain⟨⟨cls,dd,data,sl⟩,ho,hc,n,hd⟩:=id p1;obtain⟨⟨cls2,dd2,data2,U⟩,g,T,n2,R⟩:=id p2;simp only at hc hd T R;subst hc hd T R;exact concat_meets ⟨_,ho,rfl⟩ ⟨_,g,rfl⟩ noFill_tuple_add seq_tuple_add PySem.F.slot_tuple_add PySem.F.entry_tuple_add (PySem.F.args_tuple_add_2 _ _)
   (tuple_addW0 a b _ _ n n2 dd dd2 sl U At) ⟨ho,g,⟨.ref b,H,I,rfl,q b H (.refl H) (by simpa using hb)⟩⟩
 .refine HT.mf p1 p2 hv (fun z=>?_) (fun z=>?_) (by rw[<-Z.length,<-Y.length];exact hz)
  .have hy:=Y.cQ.mp z;subst hy;exact⟨.ref a,H,I,rfl,q a H (.refl H) (by simpa using ha)⟩
  .refine⟨.ref s.heap.objs.size,_,I.laid (t':=s.toks) (o:=.tup (xs++ys)) (fun b ob q=>aE _ q) Ql ?_,rfl,q _ _ (Ag (I.A9.fresh Ql) _) AR⟩;exact⟨by rw[(Gf)];exact hz,_,Z.append Y,IsTup.new _ _⟩
end
end L2
namespace Tr
def pr(x:Tr×Tr):Tr:=.cons x.1 (.cons x.2 .nil)
end Tr
namespace TH
open PySem PySem.W PyProof.Rows PySem.SeqAt
def iL{h:Heap}{a:AD}{x y:Array VL}(U:h.IsList a x)(T:h.IsList a y):x=y:=by
 obtain⟨o,e,_,n,d⟩:=U;obtain⟨o',g,_,Y,R⟩:=T;rw[e]at g;cases g;rw[d]at R;cases R;rfl
def vm{s:SD}{t u:Tr}{A:F0d}{a b:AD}{g its':yy}(U:s.heap.IsList a g.toArray)(k1:Vs s.heap t g)(T:s.heap.IsList b its'.toArray)(k2:Vs s.heap u its')(hu:SZ):EqAt A s Hf (.ref b) (decide (t=u)):=by
 have Y:g.toArray.size=t.bs.length:=by rw[Tr.Ft,<-Vs.length k1];simp
 have z2:its'.toArray.size=u.bs.length:=by rw[Tr.Ft,<-Vs.length k2];simp
 by_cases ea:a=b
 .subst ea;have:=iL U T;have e2:g=its':=by simpa using this
  subst e2;rw[Vs.inj k1 k2,decide_eq_true rfl];exact EqAt.same _
 .refine EqAt.of_refs ea ?_;by_cases Z:t.bs.length=u.bs.length
  .have key:=RcAt.lists (s:=s) (A:=A) (e:=fun j=>decide (t.bs[j]? = u.bs[j]?)) U T AC AC fun j x1 x2=>by
    have:=Ww t u A.in1 g its' k1 k2 Jl j (by simpa using x1) (by simpa using x2)
    simpa using this
   have ev:(List.range g.toArray.size).all (fun j=>decide (t.bs[j]? = u.bs[j]?))=decide (t=u):=by
    rw[Y];by_cases R:t=u
    .subst R;simp
    .rw[decide_eq_false R];refine bV.mpr fun z=>R (Tr.iH (List.ext_getElem? fun i=>?_));by_cases hi:i<t.bs.length
     .have:=aL.mp z i (bX.mpr AC)
      simpa using this
     .rw[List.getElem?_eq_none AC,List.getElem?_eq_none AC]
   rw[ev]at key;exact key
  .rw[decide_eq_false (fun z=>Z (by rw[z]))];exact RcAt.lists_lengths U T (by simpa[Y,z2]using Z) AC
section
open PySem.AutoSeq1 (wpAny_loadPart')
open PySem.MeetsSeq PySem.MeetsSeq2 PySem.MeetsSeq3
def oh{t u:zK}{i:Nat}(R:i<t.length)(g:i<u.length):Tr.Qk (t.drop i) (u.drop i)=if t[i]=u[i] then Tr.Qk (t.drop MS) (u.drop MS) else Tr.lt t[i] u[i]:=by
 rw[List.drop_eq_getElem_cons R,List.drop_eq_getElem_cons g,Tr.Qk]
def fX{t u:zK}{i:Nat}(h:t.length<=i\/u.length<=i)(R:i<=t.length)(g:i<=u.length):Tr.Qk (t.drop i) (u.drop i)=decide (t.length<u.length):=by
 by_cases a:t.length<=i
 .rw[List.drop_of_length_le a];by_cases b:u.length<=i
  .rw[List.drop_of_length_le b,decide_eq_false AC]
   rfl
  .rw[List.drop_eq_getElem_cons AC,decide_eq_true AC]
   rfl
 .have b:u.length<=i:=by lia
  rw[List.drop_of_length_le b,List.drop_eq_getElem_cons AC,decide_eq_false AC]
  rfl
def ng(l b:AD)(items T:Array VL)(n n2:Nat)(dd dd2:Option AD)(sl sl2:Array (Option VL))(t u:Tr)(k:Nat):∀i:Nat,items.size-i=k->i<=items.size->i<=T.size->Meets (Builtin.«list.__eq__.loop» ⟨[.ref l,.ref b,rawInt i,rawInt 0],[]⟩) (fun A R s=>s.heap.get? l=some { cls:=.type "list",dict:=dd,data:=.seq items n,slots:=sl}/\s.heap.get? b=some { cls:=.type "list",dict:=dd2,data:=.seq T n2,slots:=sl2} /\Vs s.heap t items.toList/\Vs s.heap u T.toList/\A.units+t.deep<cLine /\R (.ok (.ret (.bool (Tr.Qk (t.bs.drop i) (u.bs.drop i))))) s):=by
 induction k with
 |zero=>
  intro i hk hi1' hi2' prog w A R s h;obtain⟨hp,g,d,tk,os⟩:=s;obtain⟨hl,hb,hi,hj,hun,h⟩:=h;have z1:items.size=t.bs.length:=by rw[Tr.Ft,<-Vs.length hi];simp
  have z2:T.size=u.bs.length:=by rw[Tr.Ft,<-Vs.length hj];simp
  wp_walk using wpAny_loadPart' hl,wpAny_loadPart' hb
  have Y:items[((i:Nat):Int).toNat]? = none:=by simp;lia
  rw[Y]
  wp_walk using wpAny_loadPart' hl,wpAny_loadPart' hb
  show R (.ok (.ret (.bool (decide (items.size<T.size))))) _;rw[fX (.inl AC) AC AC,<-z1,<-z2]at h;exact h
 |succ k ih=>
  intro i hk hi1' hi2' prog w A R s h;obtain⟨hp,g,d,tk,os⟩:=s;obtain⟨hl,hb,hi,hj,hun,h⟩:=h;have z1:items.size=t.bs.length:=by rw[Tr.Ft,<-Vs.length hi];simp
  have z2:T.size=u.bs.length:=by rw[Tr.Ft,<-Vs.length hj];simp
  wp_walk using wpAny_loadPart' hl,wpAny_loadPart' hb
  have hlt:i<items.size:=by lia
  have Y:items[((i:Nat):Int).toNat]? = some items[i]:=by simp[hlt]
  by_cases U:i<T.size
  .have Z:T[((i:Nat):Int).toNat]? = some T[i]:=by simp[U]
   have hc:((i:Int)+1)=((i+1:Nat):Int):=by push_cast;rfl
   rw[Y,Z];obtain⟨a1,i1,c1,q1,q2,q3,q4,q5⟩:=hi.at (i:=i) (by simpa using hlt);obtain⟨a2,i2,c2,r1,r2,r3,r4,r5⟩:=hj.at (i:=i) (by simpa using U);have e1:items[i]=.ref a1:=by rw[<-q1];simp[hlt]
   have e2:T[i]=.ref a2:=by rw[<-r1];simp[U]
   have t1:t.bs[i]' AC=c1:=by
    have:=aG (l:=t.bs) (i:=i) AC;rw[q4]at this;exact(af this).symm
   have t2:u.bs[i]' AC=c2:=by
    have:=aG (l:=u.bs) (i:=i) AC;rw[r4]at this;exact(af this).symm
   rw[oh AC AC,t1,t2]at h;have he:=OG (s:=⟨hp,g,d,tk,os⟩) (A:=A.in1) q2 q3 r2 r3 Jl;rw[e1,e2];refine Wb (he prog w _ _ ?_);cases hb':decide (c1=c2) with
   |true=>
    rw[if_pos (aP hb')]at h
    wp_walk
    rw[hc];exact⟨plainId_quiet plain_eq_loop _,codeAny_builtin entry_eq_loop (by
     rw[Around.under_plainId plain_eq_loop _];exact ih MS AC AC AC prog w A R _ ⟨hl,hb,hi,hj,hun,h⟩)⟩
   |false=>
    rw[if_neg (bR hb')]at h
    wp_walk using wpAny_loadPart' hl,wpAny_loadPart' hb
    rw[Y,Z,e1,e2];have hri:=Wj (c1.deep+1) c1 c2 A.in1 ⟨hp,g,d,tk,os⟩ a1 a2 i1 i2 (bO _) q2 q3 r2 r3 Jl prog w
    wp_walk using hri
    exact h
  .have Z:T[((i:Nat):Int).toNat]? = none:=by simp;lia
   rw[Y,Z]
   wp_walk using wpAny_loadPart' hl,wpAny_loadPart' hb
   show R (.ok (.ret (.bool (decide (items.size<T.size))))) _;rw[fX (.inr AC) AC AC,<-z1,<-z2]at h;exact h
def nV(l b:AD)(items T:Array VL)(n n2:Nat)(dd Y:Option AD)(sl U:Array (Option VL))(t u:Tr):Meets (Builtin.«list.__lt__» ⟨[.ref l,.ref b],[]⟩) (fun A R s=>s.heap.get? l=some { cls:=.type "list",dict:=dd,data:=.seq items n,slots:=sl}/\s.heap.get? b=some { cls:=.type "list",dict:=Y,data:=.seq T n2,slots:=U} /\Vs s.heap t items.toList/\Vs s.heap u T.toList/\A.units+t.deep<cLine /\R (.ok (.ret (.bool (Tr.lt t u)))) s):=by
 intro prog w A R s h;obtain⟨hp,g,d,tk,os⟩:=s;obtain⟨hl,hb,hi,hj,Z,h⟩:=h;have f3:=AutoSeq1.sub_list_list
 wp_walk using wpAny_loadPart' hl,wpAny_loadPart' hb
 exact⟨plainId_quiet plain_eq_loop _,codeAny_builtin entry_eq_loop (by
  rw[Around.under_plainId plain_eq_loop _];exact ng l b items T n n2 dd Y sl U t u _ 0 rfl (az _) (az _) prog w A R _ ⟨hl,hb,hi,hj,Z,by rw[Tr.mK]at h;simpa using h⟩)⟩
end
end TH
namespace TH
open PySem PySem.W PyProof.Rows PySem.SeqAt
def Oz(h:Heap)(k:Tr)(v:VL):Prop:=∃(a b l:AD) (R g:LQ) (t u:Tr),k=Tr.pr (t,u)/\v=.ref a/\h.IsTuple a [.ref b,.ref l].toArray/\h.IsTuple b R.toArray/\Vs h t R/\h.IsList l g.toArray/\Vs h u g
def Vs.ext{h h':Heap}(k:GS.Ext h h'){t:Tr}{us:yy}(e:Vs h t us):Vs h' t us:=e.keeps fun b o e _=>k b o e
def cR{h h':Heap}(k:GS.Ext h h'){a:AD}{x:Array VL}(e:h.IsTuple a x):h'.IsTuple a x:=let⟨o,g,c,n,d⟩:=e;⟨o,k _ _ g,c,n,d⟩
def jM{h h':Heap}(k:GS.Ext h h'){a:AD}{x:Array VL}(e:h.IsList a x):h'.IsList a x:=let⟨o,g,c,n,d⟩:=e;⟨o,k _ _ g,c,n,d⟩
def Oz.ext{h h':Heap}(k:GS.Ext h h'){x:Tr}{v:VL}:Oz h x v->Oz h' x v:=fun⟨a,b,l,i1,i2,t,u,e1,Z,Y,U,T,R,g⟩=>
 ⟨a,b,l,i1,i2,t,u,e1,Z,cR k Y,cR k U,T.ext k,jM k R,g.ext k⟩
section
open PySem.MeetsSeq PySem.MeetsSeq2 PySem.MeetsSeq3
variable{prog:F0b}{w:F0c}{A:F0d}{E:yz}{s:SD}
def jY{t u:Tr}{a b:AD}{R its':yy}{Q:W1}(h1:s.heap.IsList a R.toArray)(k1:Vs s.heap t R)(h2:s.heap.IsList b its'.toArray)(k2:Vs s.heap u its')(hu:SZ)(h:Q (Tr.lt t u) s):wpAny AS A (oneLt' false Hf (.ref b)) Q E s:=by
 rw[oneLt'_eq];simp only[Bool.false_eq_true,if_false];obtain⟨⟨cls,dd,data,sl⟩,ho,hc,n,U⟩:=id h1;obtain⟨⟨cls2,dd2,data2,Z⟩,T,Y,n2,g⟩:=id h2;simp only at hc U Y g;subst hc U Y g;refine Wb (richCompare_meets_room (op:=.Lt) ⟨_,ho,rfl⟩ ⟨_,T,rfl⟩ PySem.F.slot_list_lt PySem.F.entry_list_lt (PySem.F.args_list_lt_2 _ _) (nV a b R.toArray its'.toArray n n2 dd dd2 sl Z t u)
   ⟨ho,T,by simpa using k1,by simpa using k2,hu,show Value.bool (Tr.lt t u)≠Value.notImplemented/\_ from⟨(fun x=>nomatch x),wpAny_truthy_bool h⟩⟩ AC)
def nB{x y:Tr}{u v:VL}{Q:W1}(h1:Oz s.heap x u)(h2:Oz s.heap y v)(hu:A.units+x.deep<cLine)(h:Q (Tr.lt x y) s):wpAny AS A (keyLt' (tuples' false) u v) Q E s:=by
 obtain⟨a,b,l,i1,i2,t1,g,rfl,rfl,k1,k2,k3,k4,k5⟩:=h1;obtain⟨a',b',l',j1,j2,T,R,rfl,rfl,m1,m2,m3,m4,m5⟩:=h2;obtain⟨o,ho,hc,n,hd⟩:=id k1;obtain⟨o2,Z,hc2,n2,hd2⟩:=id m1;have hdp:(Tr.pr (t1,g)).deep=max (t1.deep+1) (max (g.deep+1) 0):=rfl;refine kat_lt ho hd Z hd2 ?_;have hlt:Tr.lt (Tr.pr (t1,g)) (Tr.pr (T,R))=if t1=T then(if g=R then false else Tr.lt g R) else Tr.lt t1 T:=by
  unfold Tr.pr;rw[Tr.lt,Tr.lt]
  rfl
 rw[hlt]at h;show KatLex prog w A false (decide (2<2)) Q [(.ref b,.ref b'),(.ref l,.ref l')] 0 s;refine kat_cons (OG k2 k3 m2 m3 AC prog w _ _ ?_);by_cases Y:t1=T
 .rw[decide_eq_true Y];rw[if_pos Y]at h;refine kat_yes (kat_cons (vm k4 k5 m4 m5 AC prog w _ _ ?_));by_cases U:g=R
  .rw[decide_eq_true U];rw[if_pos U]at h;exact kat_yes (kat_nil h)
  .rw[decide_eq_false U];rw[if_neg U]at h;exact kat_no (by rw[Bool.false_and];exact jY k4 k5 m4 m5 AC h)
 .rw[decide_eq_false Y];rw[if_neg Y]at h;exact kat_no (by rw[Bool.false_and];exact Uk k2 k3 m2 m3 AC h)
def Y2(h:Heap)(v:VL):Prop:=∃(a b:AD) (xs:Array VL) (g:LQ),v=.ref a/\h.IsTuple a ((.ref b::g).toArray)/\h.IsTuple b xs
theorem Vm{M:Model}:∀(us:LQ) {Q:List (Option VL)->SD->Prop},(∀v∈us,Y2 s.heap v)->(∀fs:List VL,fs.length=us.length->(∀v∈fs,Looks M s.heap (typeOf v) Fk)->Q (fs.map some) s)->wpAny M A (us.mapM firstOfTuple') Q E s
 |[],Q,_,h=>by
  rw[List.mapM_nil];exact aA (h [] rfl fun _ z=>by cases z)
 |v::us,Q,e,h=>by
  obtain⟨a,b,xs,R,rfl,h1,h2⟩:=e v aX;obtain⟨o,U,Z,n,hd⟩:=id h1;rw[List.mapM_cons];refine Wb ?_;rw[kas_first_eq];refine Wb (Looks.here (show Looks M s.heap (typeOf Hf) o.cls from(Looks.ld U).andThen .now) ?_);rw[Z,if_neg (by first|decide|simp)];refine Wb (listItems_at U hd (aA ?_));refine Wb (Vm us (Q:=fun bs s'=>wpAny M A (pure ((.ref b::R).toArray[0]? :: bs)) Q E s') (fun v g=>e v (aS _ g)) fun fs Y T=>aA ?_);have:=h (.ref b::fs) (by simp[Y]) fun v g=>by
   rcases aM.mp g with rfl|g
   .exact NP h2
   .exact T v g
  simpa using this
def my{M:Model}{us:yy}{Q:SortKind->SD->Prop}(e:∀v∈us,Y2 s.heap v)(h:Q (tuples' false) s):wpAny M A (keyKind' us.toArray) Q E s:=by
 rw[kat_kind_eq,List.mapM_toArray,map_eq_pure_bind];refine Wb (Wb (Vm us e fun fs T g=>aA ?_));rw[if_pos At];refine Wb (bH ?_);have R:((fs.map some).toArray.filterMap id)=fs.toArray:=by simp
 rw[R];exact Wb (U9 g (fun _=>aA h) (aA h))
def Oz.tt{h:Heap}{x:Tr}{v:VL}:Oz h x v->Y2 h v:=fun⟨a,b,l,i1,i2,t,u,e1,T,R,g,Z,Y,U⟩=>⟨a,b,_,[.ref l],T,R,g⟩
def mr{h0:Heap}{r:Nat}{ks:zK}{us:yy}(Y:us.length=ks.length)(T:∀(i:Nat) (x:Tr) (u:VL),ks[i]? = some x->us[i]? = some u->Oz h0 x u/\x.deep<=r):GS.W9 Tr.ord prog w h0 r ks us :=
 ⟨Y,fun κ=>κ=tuples' false,fun A E s Q g h=>my (fun v U=>by
  obtain⟨i,hi,rfl⟩:=List.getElem_of_mem U;exact((T i _ _ (aG AC) (aG hi)).1.ext g).tt) (h _ rfl),
  fun A s κ g hr R E i j x y u v Q h1 h2 h3 Z q=>by
  subst R;obtain⟨c1,d1⟩:=T i x u h3 h1;obtain⟨c2,d2⟩:=T j y v Z h2;exact nB (c1.ext g) (c2.ext g) AC q⟩
end
end TH
namespace Tr
open PySem PyProof.Rows
def vo(prog:F0b)(w:F0c)(ks:zK):Prop:=GS.Runs Tr.ord prog w ks
def Zc{prog:F0b}{w:F0c}{ks:zK}(h:ks.length<64):vo prog w ks:=GS.Lf (O:=Tr.ord) h
end Tr
namespace L2
open PySem PySem.Spec PyProof.Rows
def Cv(B:AD->Prop)(H:Hp)(k:Tr)(v:V):Prop:=∃(a l:AD) (t u:Tr) (g:V) (xs:IZ),k=Tr.pr (t,u)/\v=.ref a/\¬B l/\H a=some (.tup [g,.ref l])/\Tv H t g/\H l=some KB/\Ts H u xs
def Cv.same{B:AD->Prop}{H H':Hp}{k:Tr}{v:V}(e:AL H H'):Cv B H k v->Cv B H' k v:=fun⟨a,l,t,u,g,xs,h1,Z,h0,Y,U,T,R⟩=>⟨a,l,t,u,g,xs,h1,Z,h0,e _ _ Y,U.same e,e _ _ T,R.same e⟩
structure yj(B:Addr->Prop)(H:Hp)(ks:List Tr)(ys:IZ):Prop where
 len:ys.length=ks.length
 at_:∀(i:Nat) (k:Tr) (v:V),ks[i]? = some k->ys[i]? = some v->Cv B H k v
variable{B:AD->Prop}
section
variable{X:Cx}{pins:Cu}{σ:St}{H:Hp}{s:SD}
def Cv.raw(I:BY){k:Tr}{v:V}{u:VL}(h:Cv B H k v)(r:RelV v u):TH.Oz s.heap k u:=by
 obtain⟨a,l,t,w,vt,xs,rfl,rfl,_,h1,h2,h3,h4⟩:=h;cases r;obtain⟨its,rv,pl,hz⟩:=I.tuple (BK.of (K:=X.K) h1);obtain⟨i2,U,Z,hz2⟩:=I.list (Aw.of (K:=X.K) h3);obtain⟨T,g,rfl,r1,Y⟩:∃T g,its=T::g/\RelV vt T/\Vals [V.ref l] g:=by
  cases rv with
  |cons r t=>exact⟨_,_,rfl,r,t⟩
 obtain⟨u2,rfl,r2⟩:=Y.one;cases r2;obtain⟨b,R,rfl,hb1,hb2⟩:=h2.at I r1;exact⟨a,b,l,R,i2,t,w,rfl,rfl,pl,hb1,hb2,Z.isList,h4.vs I U⟩
end
abbrev iY(x y:Str)(T R:Pos)(tk:Nat)(g:Pos):Expr:=.Tuple [.Name x T,.Name y R] tk g
def oH{ix g:Nat}(h:ix≠g)(σ:St)(a b c d:Option V):((((σ.set ix a).set g b).set ix c).set g d)=(σ.set ix c).set g d:=by
 rw[List.set_comm _ _ h.symm,List.set_set,List.set_set]
def XB(K:Fg)(wi:TI)(fr:zO)(ix Y:Nat)(U:TT)(te:TE):TE:=fun σ H Q=>wi σ H fun J H1=>∀D,H1 D=none->∃W:Nat->Nat->List V->Hp->Prop,(∃m,W 0 m [] (upd H1 D PZ)) /\
 ∀i m ys H,W i m ys H->H D=some IR/\((J.stop i H/\Q (.ref D) H)\/(J.go i H/\ys.length<sizeLine/\∀x H',J.Ge i H x H'->∃a T R,x=.ref a/\BK K H' a [T,R] /\
  U (((carry fr σ).set ix (some T)).set Y (some R)) H' fun b H2=>if b=true then te (((carry fr σ).set ix (some T)).set Y (some R)) H2 fun y Z=>Z D=some IR/\∃g,g<m/\W MS g WP (upd Z D (.lst WP))
   else ∃g,g<m/\W MS g ys H2))
section
variable{X:Cx}{elt iter:Expr}{x y:Str}{px py tp pos:Pos}{tk:Nat}{ifs:zD}{scope:Scope}{wi:TI}{fr:zO}{ix iy:Nat}{tif:TT}{te:TE}{N:zC}
def ZZ{pins:Cu}{σ:St}{U:Hp}{s2:SD}{Q:VK}{it:AD}{fp:zL}{tn:Nat->Heap->Prop}{J:It}{cl:List (Str×AD)}{E:yz}{RR:VL->AD->Result->SD->Prop} (S:Fl scope N x ix)(S2:Fl scope N y iy)(hxy:ix≠iy)(R:bi)(hfr:HI N X.N scope X.env.scope fr 0=true)(hlen:fr.length=N.length) (hif:fy)(he:f8) (I2:Inv X pins σ U s2)(T:Turn X.prog X.w X.K (iY x y px py tk tp) J fp it tn)(st2:tn 0 s2.heap)(f2:∀b∈fp,K6 X pins U b) (c1:∀x c,cl.lookup x=some c->X.env.cells.lookup x=some c)(c2:∀x∈scope.names,x.2=NameKind.free->∃c,cl.lookup x.1=some c) (W:∀D,U D=none->∃W:Nat->Nat->List V->Hp->Prop,(∃m,W 0 m [] (upd U D PZ)) /\∀i m ys H,W i m ys H->H D=some IR/\((J.stop i H/\Q (.ref D) H)\/(J.go i H/\ys.length<sizeLine/\∀x H',J.Ge i H x H'->∃a v1 Z,x=.ref a/\BK X.K H' a [v1,Z] /\tif (((carry fr σ).set ix (some v1)).set iy (some Z)) H' fun b U=>if b=true then te (((carry fr σ).set ix (some v1)).set iy (some Z)) U fun y H3=>H3 D=some IR/\∃m',m'<m/\W MS m' WP (upd H3 D (.lst WP)) else ∃m',m'<m/\W MS m' ys U))) (fin:FS):wpAny Ch X.A (newList []) (fun acc s₃=>wpAny Ch X.A bv (fun Y s₄ => codeAny Ch X.A (.compStart (.ListComp elt [⟨iY x y px py tk tp,iter,ifs,0⟩] scope pos) 0 (.ref it) acc {Y with scope:=relabel scope X.env}) (RR acc Y.locals) s₄) E s₃) E s2:=by
 have hxv:(relabel scope X.env).names.lookup x=some .local:=lookup_relabel_local S.loc;have hyv:(relabel scope X.env).names.lookup y=some .local:=lookup_relabel_local S2.loc;refine Rp (g:=dj X.K 2 (Mu (F5 ix) (Mu (F5 iy) dG))) S R (fun σ'=>∀v w,(σ'.set ix v).set iy w=((carry fr σ).set ix v).set iy w) DR (fun C=>IV (X:=BB X scope cl N C s2 U fp) R (B7 (Ay (X:=BB X scope cl N C s2 U fp) S.nd S.at_ (.inl hxv) (.inr hxv)) (B7 (Ay (X:=BB X scope cl N C s2 U fp) S2.nd S2.at_ (.inl hyv) (.inr hyv)) HE))) hfr hlen hif he I2 T st2 f2 c1 c2 (fun D hD=>?_) fin;obtain⟨W,w0,st⟩:=W D hD;refine⟨W,w0,fun i m ys H w=>?_⟩;obtain⟨h1,h2|⟨h2,h3,h4⟩⟩:=st i m ys H w
 .exact⟨h1,.inl h2⟩
 .refine⟨h1,.inr ⟨h2,h3,fun x H' hy σ' hr=>?_⟩⟩;obtain⟨a,v1,Z,rfl,hs,q⟩:=h4 x H' hy;rw[<-hr]at q;exact⟨a,[v1,Z],rfl,hs,rfl,v1,[Z],rfl,Z,[],rfl,rfl,fun v w=>by rw[oH hxy,hr],q⟩
def jF(S:Fl scope N x ix)(S2:Fl scope N y iy)(hxy:ix≠iy)(Y:bi)(hfr:HI N X.N scope X.env.scope fr 0=true)(Z:fr.length=N.length)(R:∀y∈scope.names,y.2=.free->X.env.scope.names.lookup y.1=some .cell\/X.env.scope.names.lookup y.1=some .free) (hi:PI X (iY x y px py tk tp) iter wi)(hif:fy)(he:f8) (hs:∀x,foldedSetIterable iter X.env x=pure x:=by intro _;rfl):PE X (.ListComp elt [⟨iY x y px py tk tp,iter,ifs,0⟩] scope pos) (XB X.K wi fr ix iy tif te):=by
 intro pins s σ H Q I hw;obtain⟨cl,U,c1,_,c2⟩:=JZ (env:=X.env) scope.names [] (fun y hy hf=>I.ok.has y.1 (R y hy hf)) (fun y c z=>by cases z);have g:closureFor scope X.env=pure cl:=by
  have e:closureFor scope X.env=NE:=rfl;rw[e,U]
  rfl
 rw[eval_ListComp];refine wpAny_comprehension_free (use:=none) rfl hs g S.kind S.names (BX (hi pins s σ H _ I hw) fun v s1 h1=>BX h1 fun itv s2 h2=>?_);obtain⟨it,fp,tn,J,H2,e,I2,T,st2,f2,W⟩:=h2;subst e;refine ZZ (RR:=fun acc C=>compPost Ch X.A X.xe none Tt acc C) S S2 hxy Y hfr Z hif he I2 T st2 f2 c1 c2 W ?_;intro D C s' H' m hn q hI _ _ _ _;exact⟨m,hn,fun h' hs'=>⟨.ref D,H',hI h' hs',rfl,q⟩⟩
end
section
variable{X:Cx}{elt iter:Expr}{x y:Str}{px py tp pos:Pos}{tk:Nat}{ifs:zD}{scope:Scope}{wi:TI}{tif:TT}{te:TE}
def QQ(N:zC)(ix g:Nat)(fr:zO)(hi:PI X (iY x y px py tk tp) iter wi)(T:fy)(Z:f8) (h1:C7 scope N x ix=true:=by decide +kernel)(U:C7 scope N y g=true:=by decide +kernel)(R:ix≠g:=by decide)(h2:X.calm=true:=by rfl)(h3:HI N X.N scope X.env.scope fr 0=true:=by rfl)(h4:fr.length=N.length:=by rfl)(h5:freeOk X.env.scope scope.names=true:=by rfl) (Y:∀x,foldedSetIterable iter X.env x=pure x:=by intro _;rfl):PE X (.ListComp elt [⟨.Tuple [.Name x px,.Name y py] tk tp,iter,ifs,0⟩] scope pos) (XB X.K wi fr ix g tif te) :=
 jF (Jc h1) (Jc U) R h2 h3 h4 (Qg h5) hi T Z Y
end
def SE{K:Fg}{J:It}{n:Nat}{D:AD}{H1:Hp}{fr:zO}{σ:St}{ix iy:Nat}{Y:TT}{te:TE}{G:Hp->Prop}(Pv:Nat->List V->Hp->Prop)(h0:Pv 0 [] (upd H1 D PZ)) (hgo:∀i ys H,i<n->Pv i ys H->H D=some IR->J.go i H/\ys.length<sizeLine/\∀x H',J.Ge i H x H'->∃a T R,x=.ref a/\BK K H' a [T,R] /\Y (((carry fr σ).set ix (some T)).set iy (some R)) H' fun b H2=>if b=true then te (((carry fr σ).set ix (some T)).set iy (some R)) H2 fun y Z=>Z D=some IR/\∃g,g<n-i/\CW Pv n D MS g WP (upd Z D (.lst WP)) else ∃g,g<n-i/\CW Pv n D MS g ys H2) (U:∀ys H,Pv n ys H->H D=some IR->J.stop n H/\G H):∃W:Nat->Nat->List V->Hp->Prop,(∃m,W 0 m [] (upd H1 D PZ)) /\∀i m ys H,W i m ys H->H D=some IR/\((J.stop i H/\G H)\/(J.go i H/\ys.length<sizeLine/\∀x H',J.Ge i H x H'->∃a T R,x=.ref a/\BK K H' a [T,R] /\Y (((carry fr σ).set ix (some T)).set iy (some R)) H' fun b H2=>if b=true then te (((carry fr σ).set ix (some T)).set iy (some R)) H2 fun y Z=>Z D=some IR/\∃g,g<m/\W MS g WP (upd Z D (.lst WP)) else ∃g,g<m/\W MS g ys H2)):=by
 refine⟨CW Pv n D,⟨n,by simp,Nat.zero_le _,AR,h0⟩,?_⟩;rintro i m ys H ⟨rfl,hi,hH,p⟩;refine⟨hH,?_⟩;by_cases hlt:i<n
 .exact .inr (hgo i ys H hlt p hH)
 .have:i=n:=by lia
  subst this;exact .inl (U ys H p hH)
end L2
namespace ZT
open PySem PyProof.Rows
structure Apart(z TI TO i1 i2:Addr)(f1 f2:List Addr):Prop where
 a1:TI≠z/\TI≠TO/\TI≠i1/\TI≠i2
 a2:TO≠z/\TO≠i1/\TO≠i2
 a3:i1≠z/\i2≠z/\i1≠i2
 b1:z ∉ f1/\TO ∉ f1/\i2 ∉ f1
 b2:z ∉ f2/\TO ∉ f2/\i1 ∉ f2
section
variable{prog:F0b}{w:F0c}{A:F0d}{E:yz}{s:SD}{z TI TO i1 i2:AD}{f1 f2:zL}{n1 n2 k:Nat}{P1 P2:Nat->VL->Prop}{S1 S2:Nat->Heap->Prop}{a b:VL}
def A4{f:zL}{x:AD}{h h':Heap}(g:x ∉ f)(e:Heap.SameBut x h h'):∀c∈f,∀o,h.get? c=some o->h'.get? c=some o:=fun c R o q=>(e.2 c fun y=>g (y ▸ R)).trans q
def item{Q:yz}(D1:Draws prog w A i1 f1 n1 P1 S1)(D2:Draws prog w A i2 f2 n2 P2 S2)(ap:UW)(hz:Rj)(hI:Id)(hO:IsPair s.heap TO a b) (t1:S1 k s.heap)(t2:S2 k s.heap)(l1:k<n1)(l2:k<n2) (q:∀x y h' tk,P1 k x->P2 k y->IsZip h' z TI TO (rawInt s.heap.objs.size)->IsPair h' TO x y->S1 Pi h'->S2 Pi h'->IsPair h' s.heap.objs.size x y->h'.objs.size=s.heap.objs.size+1 ->(∀c o,c≠z->c≠TO->c≠i1->c≠i2->s.heap.get? c=some o->h'.get? c=some o)->Q Do Da):wpAny AS A Of (fun fin s'=>∃v,fin=.done (.ret v)/\Q v s') E s:=by
 obtain⟨⟨c1,c2,c3,c4⟩,⟨c5,c6,c7⟩,⟨c8,c9,c10⟩,⟨d1,d2,d3⟩,d4,d5,d6⟩:=ap;show wpAny _ _ (field NF 2>>=_) _ _ _;refine Wb (ae hz rfl (x:=.bool false) rfl ?_);show wpAny _ _ (field NF 3>>=_) _ _ _;refine Wb (ae hz rfl (x:=.ref TI) rfl (Wb (ak hI rfl ?_)));show wpAny _ _ M2 _ _ _;unfold Builtin.SmallTypes.ownedTupleIsFree;refine Wb (Wb (ae hz rfl (x:=.none) rfl Re));simp only[if_true];refine Wb (bH (Wb (ae hz rfl (x:=.ref TO) rfl (Wb (ax hz At fun g1 z1 Z=>Wb ?_)))));have Z:Heap.SameBut z s.heap g1:=Z;have z1:IsZip g1 z TI TO .ellipsis:=z1;simp only[List.zipIdx_cons,List.zipIdx_nil,List.forIn_cons,List.forIn_nil];refine Wb (Wb (wpAny_onRaise ?_));show wpAny _ _ RH _ _ _;refine Wb (D1.item k _ _ _ l1 (D1.frame _ _ _ t1 (A4 d1 Z)) fun x g2 tk2 p1 u1 Y=>aA ?_);have o2:IsPair g2 TO a b:=(Y.2 _ c6).trans ((Z.2 _ c5).trans hO);refine Wb (ak o2 rfl (Wb (wpAny_updateSeq_pair o2 fun g3 o3 U=>Wb (wpAny_letGo Re))));have o3:IsPair g3 TO x b:=o3;have t2':S2 k g3:=D2.frame _ _ _ (D2.frame _ _ _ (D2.frame _ _ _ t2 (A4 d4 Z)) (A4 d6 Y)) (A4 d5 U);refine Wb (Wb (wpAny_onRaise ?_));show wpAny _ _ Vx _ _ _;refine Wb (D2.item k _ _ _ l2 t2' fun y g4 tk4 p2 u2 T=>aA ?_);have U:Heap.SameBut TO g2 g3:=U;have T:Heap.SameBut i2 g3 g4:=T;have o4:IsPair g4 TO x b:=(T.2 _ c7).trans o3;refine Wb (ak o4 rfl (Wb (wpAny_updateSeq_pair o4 fun g o5 R=>Wb (wpAny_letGo (aA Re)))));have R:Heap.SameBut TO g4 g:=R;have o5:IsPair g TO x y:=o5;refine Wb (ak o5 rfl (Wb (wpAny_newTuple ?_)));have Y:Heap.SameBut i1 g1 g2:=Y;have sz:g.objs.size=s.heap.objs.size:=by rw[R.1,T.1,U.1,Y.1,Z.1]
 have z5:IsZip g z TI TO .ellipsis:=(R.2 _ c5.symm).trans ((T.2 _ c9.symm).trans ((U.2 _ c5.symm).trans ((Y.2 _ c8.symm).trans z1)));have kp:∀c o,c≠z->c≠TO->c≠i1->c≠i2->s.heap.get? c=some o->g.get? c=some o:=fun c o e1 e2 e3 e4 e=>(R.2 _ e2).trans ((T.2 _ e4).trans ((U.2 _ e2).trans ((Y.2 _ e3).trans ((Z.2 _ e1).trans e))));have v1:S1 Pi g:=D1.frame _ _ _ (D1.frame _ _ _ (D1.frame _ _ _ u1 (A4 d2 U)) (A4 d3 T)) (A4 d2 R);have v2:S2 Pi g:=D2.frame _ _ _ u2 (A4 d5 R);show wpAny _ _ (Builtin.SmallTypes.ownedTupleHandOut NF (.ref g.objs.size)>>=_) _ _ _;unfold Builtin.SmallTypes.ownedTupleHandOut;have z6:IsZip (g.push { cls:=.type "tuple",data:=.seq #[x,y]}) z TI TO .ellipsis:=aE _ z5;refine Wb (Wb (ax z6 At fun g7 z7 m7=>ax (show IsZip g7 z TI TO (rawInt g.objs.size) from z7) At fun g8 z8 m8=>?_));have z8:IsZip g8 z TI TO (rawInt g.objs.size):=z8;have up:∀c o,c≠z->(g.push { cls:=.type "tuple",data:=.seq #[x,y]}).get? c=some o->g8.get? c=some o:=fun c o e1 e=>(m8.2 _ e1).trans ((m7.2 _ e1).trans e);have zl:z<g.objs.size:=aF z5;refine aA ⟨_,rfl,?_⟩;show Q (.ref g.objs.size) _;have fin:=q x y g8 tk4 p1 p2 (by rw[<-sz];exact z8) (up _ _ c5 (aE _ o5)) (D1.frame _ _ _ v1 fun c hc o e=>up c o (fun y=>d1 (y ▸ hc)) (aE _ e)) (D2.frame _ _ _ v2 fun c hc o e=>up c o (fun y=>d4 (y ▸ hc)) (aE _ e))
  (by rw[<-sz];exact up _ _ (ai zl) (aO _ rfl)) (by rw[<-sz,m8.1,m7.1,(Ii)]) fun c o e1 e2 e3 e4 e=>up c o e1 (aE _ (kp c o e1 e2 e3 e4 e))
 rw[sz];exact fin
def ended{Q:Fin->SD->Prop}(D1:Draws prog w A i1 f1 n1 P1 S1)(D2:Draws prog w A i2 f2 n2 P2 S2)(ap:UW)(hz:Rj)(hI:Id)(hO:IsPair s.heap TO a b) (t1:S1 k s.heap)(t2:S2 k s.heap)(he:k=n1\/(k<n1/\k=n2)) (q:∀h' e tk,am->(∃o,h'.get? e=some o/\o.cls=.type "StopIteration")->E (.ref e) Da):wpAny AS A Of Q E s:=by
 obtain⟨⟨c1,c2,c3,c4⟩,⟨c5,c6,c7⟩,⟨c8,c9,c10⟩,⟨d1,d2,d3⟩,d4,d5,d6⟩:=ap;show wpAny _ _ (field NF 2>>=_) _ _ _;refine Wb (ae hz rfl (x:=.bool false) rfl ?_);show wpAny _ _ (field NF 3>>=_) _ _ _;refine Wb (ae hz rfl (x:=.ref TI) rfl (Wb (ak hI rfl ?_)));show wpAny _ _ M2 _ _ _;unfold Builtin.SmallTypes.ownedTupleIsFree;refine Wb (Wb (ae hz rfl (x:=.none) rfl Re));simp only[if_true];refine Wb (bH (Wb (ae hz rfl (x:=.ref TO) rfl (Wb (ax hz At fun g1 z1 Y=>Wb ?_)))));have Y:Heap.SameBut z s.heap g1:=Y;have z1:IsZip g1 z TI TO .ellipsis:=z1;simp only[List.zipIdx_cons,List.zipIdx_nil,List.forIn_cons,List.forIn_nil];refine Wb (Wb (wpAny_onRaise ?_));show wpAny _ _ RH _ _ _;have U:=D1.frame _ _ _ t1 (A4 d1 Y);rcases he with he|⟨he1,he2⟩
 .rw[he]at U;refine Wb (D1.done _ _ _ U fun g2 e R g=>?_);obtain⟨o,g,hc⟩:=g;have z2:IsZip g2 z TI TO .ellipsis:=R _ _ c8.symm z1;have ez:e≠z:=fun y=>by subst y;rw[z2]at g;cases g;simp at hc
  exact ax z2 At fun g3 _ T=>q g3 e _ (fun c o e1 e2 e3 e4 y=>(T.2 _ e1).trans (R _ _ e3 ((Y.2 _ e1).trans y))) ⟨o,(T.2 _ ez).trans g,hc⟩
 .refine Wb (D1.item k _ _ _ he1 U fun x g2 tk2 p1 u1 R=>aA ?_);have o2:IsPair g2 TO a b:=(R.2 _ c6).trans ((Y.2 _ c5).trans hO);refine Wb (ak o2 rfl (Wb (wpAny_updateSeq_pair o2 fun g3 o3 T=>Wb (wpAny_letGo Re))));have Z:S2 k g3:=D2.frame _ _ _ (D2.frame _ _ _ (D2.frame _ _ _ t2 (A4 d4 Y)) (A4 d6 R)) (A4 d5 T);rw[he2]at Z;have R:Heap.SameBut i1 g1 g2:=R;have T:Heap.SameBut TO g2 g3:=T;refine Wb (Wb (wpAny_onRaise ?_));show wpAny _ _ Vx _ _ _;refine Wb (D2.done _ _ _ Z fun g4 e m4 g=>?_);obtain⟨o,g,hc⟩:=g;have z4:IsZip g4 z TI TO .ellipsis:=m4 _ _ c9.symm ((T.2 _ c5.symm).trans ((R.2 _ c8.symm).trans z1));have ez:e≠z:=fun y=>by subst y;rw[z4]at g;cases g;simp at hc
  exact ax z4 At fun g5 _ m5=>q g5 e _ (fun c o e1 e2 e3 e4 y=>(m5.2 _ e1).trans (m4 _ _ e4 ((T.2 _ e2).trans ((R.2 _ e3).trans ((Y.2 _ e1).trans y))))) ⟨o,(m5.2 _ ez).trans g,hc⟩
def next_item{Q:Ph}(D1:SB)(D2:SC)(ap:UW)(hz:Rj)(hI:Id)(hO:IsPair s.heap TO a b) (t1:S1 k s.heap)(R:S2 k s.heap)(l1:k<n1)(l2:k<n2) (q:∀x y h' tk,P1 k x->P2 k y->IsZip h' z TI TO (rawInt s.heap.objs.size)->IsPair h' TO x y->S1 Pi h'->S2 Pi h'->IsPair h' s.heap.objs.size x y->h'.objs.size=s.heap.objs.size+1 ->(∀c o,c≠z->c≠TO->c≠i1->c≠i2->s.heap.get? c=some o->h'.get? c=some o)->Q (some Do) Da):wpAny AS A (pyNext NF) Q E s:=by
 have g:s.TypeIs NF "zip" := ⟨_,hz,rfl⟩;unfold pyNext;exact Wb (wpAny_attempt (aj (name:=Str.ofString "__next__") g bG
  (aa bG g F.entry_zip_next (item D1 D2 ap hz hI hO t1 R l1 l2 fun x y h' tk r1 r2 r3 r4 r5 Z Y U T=>aA (q x y h' tk r1 r2 r3 r4 r5 Z Y U T)) (F.args_zip_next_1 _))))
def next_end{Q:Ph}(D1:SB)(D2:SC)(ap:UW)(hz:Rj)(hI:Id)(hO:IsPair s.heap TO a b) (t1:S1 k s.heap)(U:S2 k s.heap)(Y:k=n1\/(k<n1/\k=n2)) (q:∀h' tk,am->Q none Da):wpAny AS A (pyNext NF) Q E s:=by
 have R:s.TypeIs NF "zip" := ⟨_,hz,rfl⟩;unfold pyNext;refine Wb (wpAny_attempt (aj (name:=Str.ofString "__next__") R bG
  (aa bG R F.entry_zip_next (ended D1 D2 ap hz hI hO t1 U Y fun h' e tk kp g=>?_) (F.args_zip_next_1 _))))
 obtain⟨o,g,Z⟩:=g;exact Wb (wpAny_isInstance (T := "StopIteration") (b:=true) ⟨o,g,Z⟩ isSubtype_stop (aA (q _ _ kp)))
end
end ZT
namespace ZT
open PySem PyProof.Rows
def Sq(b:Bool)(h:Heap)(l:AD)(xs:yy):Prop:=if b then h.IsTuple l xs.toArray else h.IsList l xs.toArray
def BQ(b:Bool)(l:AD):Obj:=if b then { cls:=.type "tuple_iterator",data:=.fields #[.ref l,.int 0 0]} else { cls:=.type "list_iterator",data:=.fields #[.ref l,.int 0 0]}
def Jk(b:Bool)(h:Heap)(it l:AD)(k:Nat):Prop:=if b then h.IsTupleIter it l k else h.IsListIter it l k
def Sq.push{b:Bool}{h:Heap}{l:AD}{xs:yy}(o:Obj)(x:Sq b h l xs):Sq b (h.push o) l xs:=by
 cases b with
 |true=>obtain⟨u,e,r⟩:=(show h.IsTuple l xs.toArray from x);exact(show(h.push o).IsTuple l xs.toArray from⟨u,Heap.get?_push_of_some _ e,r⟩)
 |false=>obtain⟨u,e,r⟩:=(show h.IsList l xs.toArray from x);exact(show(h.push o).IsList l xs.toArray from⟨u,Heap.get?_push_of_some _ e,r⟩)
def Sq.keep{b:Bool}{h h':Heap}{l:AD}{xs:yy}(x:Sq b h l xs)(k:∀o,h.get? l=some o->h'.get? l=some o):Sq b h' l xs:=by
 cases b with
 |true=>obtain⟨u,e,r⟩:=(show h.IsTuple l xs.toArray from x);exact(show h'.IsTuple l xs.toArray from⟨u,k _ e,r⟩)
 |false=>obtain⟨u,e,r⟩:=(show h.IsList l xs.toArray from x);exact(show h'.IsList l xs.toArray from⟨u,k _ e,r⟩)
def Sq.lt{b:Bool}{h:Heap}{l:AD}{xs:yy}(x:Sq b h l xs):l<h.objs.size:=by
 cases b with
 |true=>obtain⟨u,e,r⟩:=(show h.IsTuple l xs.toArray from x);exact aF e
 |false=>obtain⟨u,e,r⟩:=(show h.IsList l xs.toArray from x);exact aF e
section
variable{prog:F0b}{w:F0c}{A:F0d}{E:yz}{s:SD}
def N3{b:Bool}{l:AD}{xs:yy}{Q:yz}(x:Sq b s.heap l xs)(h:Q Do {s with heap:=s.heap.push (BQ b l)}):wpAny AS A (pyIter Rb) Q E s:=by
 cases b with
 |true=>exact wpAny_pyIter_tuple x h
 |false=>exact wpAny_pyIter_list x h
def Ef(R:A.handled=none)(b:Bool)(it l:AD)(xs:yy)(g:l≠it):Draws prog w A it [it,l] xs.length (fun i v=>xs[i]? = some v) (fun i h=>Jk b h it l i/\Sq b h l xs):=by
 cases b with
 |true=>exact ET.draws R it l xs g
 |false=>
  have:=Draws.list (prog:=prog) (w:=w) R it l g xs.toArray
  simpa[Jk,Sq]using this
def zh(b1 b2:Bool)(h:Heap)(g R:AD):Heap :=
 ((((h.push (BQ b1 g)).push (BQ b2 R)).push { cls:=.type "tuple",data:=.seq #[.ref h.objs.size,.ref (h.push (BQ b1 g)).objs.size]}).push { cls:=.type "tuple",data:=.seq #[.none,.none]}).push
  { cls:=.type "zip",data:=.fields #[.none,.bool false,.bool false,.ref ((h.push (BQ b1 g)).push (BQ b2 R)).objs.size,.ref (((h.push (BQ b1 g)).push (BQ b2 R)).push { cls:=.type "tuple",data:=.seq #[.ref h.objs.size,.ref (h.push (BQ b1 g)).objs.size]}).objs.size]}
def mw(b1 b2:Bool)(T Y:AD)(xs ys:yy):Meets (Builtin.«zip.__new__» ⟨[.type "zip",.ref T,.ref Y],[]⟩) (fun _ R s=>Sq b1 s.heap T xs/\Sq b2 s.heap Y ys /\R (.ok (.ret (.ref ((((s.heap.push XN).push (BQ b2 Y)).push { cls:=.type "tuple",data:=.seq #[.ref s.heap.objs.size,.ref (s.heap.push XN).objs.size]}).push { cls:=.type "tuple",data:=.seq #[.none,.none]}).objs.size)) ) {s with heap:=zh b1 b2 s.heap T Y}) :=
 .of_wp fun prog w A R s h=>by
  obtain⟨U,g,d,tk,os⟩:=s;obtain⟨h1,h2,h⟩:=h;have Z:=sub_zip;have i1:∀(A:F0d) (E:Uf) (Q:Uf),Q (.ref U.objs.size) ⟨U.push XN,g,d,tk,os⟩->wpAny AS A (pyIter (.ref T)) Q E ⟨U,g,d,tk,os⟩:=fun A E Q q=>N3 (s:=⟨U,g,d,tk,os⟩) h1 q;have i2:∀(A:F0d) (E:Uf) (Q:Uf),Q (.ref (U.push XN).objs.size) ⟨(U.push XN).push (BQ b2 Y),g,d,tk,os⟩->wpAny AS A (pyIter (.ref Y)) Q E ⟨U.push XN,g,d,tk,os⟩:=fun A E Q q=>N3 (s:=⟨U.push XN,g,d,tk,os⟩) (h2.push _) q
  wp_walk using i1,i2
  exact⟨_,rfl,h⟩
def ZG{b1 b2:Bool}{T R:AD}{xs ys:yy}{Q:yz}(h1:Sq b1 s.heap T xs)(h2:Sq b2 s.heap R ys) (h:∀h',IsZip h' UJ Na Nb .none->IsPair h' Na Do (.ref Ix)->IsPair h' Nb .none .none ->Jk b1 h' s.heap.objs.size T 0->Jk b2 h' Ix R 0->(∀c o,s.heap.get? c=some o->h'.get? c=some o)->Q (.ref UJ) Op):wpAny AS A (call (.type "zip") [.ref T,.ref R]) Q E s:=by
 refine callType_new F.called_zip AT (F.typeCall_zip_2 _ _) (F.newCall_zip_2 _ _) (fun obj=>F.args_object_init_3 obj _ _) F.entry_zip_new (mw b1 b2 T R xs ys) ⟨h1,h2,?_⟩;have Z:(s.heap.push XN).objs.size=s.heap.objs.size+1:=Heap.size_push ..;have up:∀(g:Heap) (o:Obj) (c:AD) (u:Obj),g.get? c=some u->(g.push o).get? c=some u:=fun g o c u e=>aE _ e;have a0:(s.heap.push XN).get? s.heap.objs.size=some XN:=aO _ (by cases b1<;>rfl);generalize hg1:s.heap.push XN=g1 at Z a0;have k1:∀c o,s.heap.get? c=some o->g1.get? c=some o:=fun c o e=>by rw[<-hg1];exact up _ _ _ _ e
 have n2:(g1.push (BQ b2 R)).objs.size=s.heap.objs.size+2:=by rw[(Ii),Z]
 have a1:(g1.push (BQ b2 R)).get? Ix=some (BQ b2 R):=by rw[<-Z];exact aO _ (by cases b2<;>rfl)
 generalize hg2:g1.push (BQ b2 R)=g2 at n2 a1;have k2:∀c o,g1.get? c=some o->g2.get? c=some o:=fun c o e=>by rw[<-hg2];exact up _ _ _ _ e
 have n3:(g2.push { cls:=.type "tuple",data:=.seq #[.ref s.heap.objs.size,.ref Ix]}).objs.size=s.heap.objs.size+3:=by rw[(Ii),n2]
 have a2:IsPair (g2.push { cls:=.type "tuple",data:=.seq #[.ref s.heap.objs.size,.ref Ix]}) Na Do (.ref Ix):=by rw[<-n2];exact aO _ rfl
 generalize Y:g2.push { cls:=.type "tuple",data:=.seq #[.ref s.heap.objs.size,.ref Ix]}=g3 at n3 a2;have k3:∀c o,g2.get? c=some o->g3.get? c=some o:=fun c o e=>by rw[<-Y];exact up _ _ _ _ e
 have n4:(g3.push { cls:=.type "tuple",data:=.seq #[.none,.none]}).objs.size=s.heap.objs.size+4:=by rw[(Ii),n3]
 have a3:IsPair (g3.push { cls:=.type "tuple",data:=.seq #[.none,.none]}) Nb .none .none:=by rw[<-n3];exact aO _ rfl
 generalize U:g3.push { cls:=.type "tuple",data:=.seq #[.none,.none]}=g4 at n4 a3;have k4:∀c o,g3.get? c=some o->g4.get? c=some o:=fun c o e=>by rw[<-U];exact up _ _ _ _ e
 have ez:zh b1 b2 s.heap T R=g4.push { cls:=.type "zip",data:=.fields #[.none,.bool false,.bool false,.ref Na,.ref Nb]}:=by
  unfold zh;rw[hg1,hg2,Z,Y,U,n2,n3]
 have a4:IsZip (g4.push { cls:=.type "zip",data:=.fields #[.none,.bool false,.bool false,.ref Na,.ref Nb]}) UJ Na Nb .none:=by rw[<-n4];exact aO _ rfl
 rw[Z,Y,U,n4,ez];show _/\_;have k5:∀c o,g4.get? c=some o->(g4.push { cls:=.type "zip",data:=.fields #[.none,.bool false,.bool false,.ref Na,.ref Nb]}).get? c=some o:=fun c o e=>up _ _ _ _ e;refine⟨⟨_,a4,rfl⟩,h _ a4 (k5 _ _ (k4 _ _ a2)) (k5 _ _ a3) ?_ ?_ fun c o e=>k5 _ _ (k4 _ _ (k3 _ _ (k2 _ _ (k1 _ _ e))))⟩
 .have:=k5 _ _ (k4 _ _ (k3 _ _ (k2 _ _ a0)));cases b1 with
  |true=>exact⟨_,this,rfl,rfl⟩
  |false=>exact⟨_,this,rfl,rfl⟩
 .have:=k5 _ _ (k4 _ _ (k3 _ _ a1));cases b2 with
  |true=>exact⟨_,this,rfl,rfl⟩
  |false=>exact⟨_,this,rfl,rfl⟩
end
end ZT
namespace L2
open PySem PySem.Spec PyProof.Rows
def Cc(b:Bool)(H:Hp)(a:AD)(xs:zJ):Prop:=if b then H a=some Ke else H a=some KB
def Cc.inj{b:Bool}{H:Hp}{a:AD}{xs ys:zJ}(h:Cc b H a xs)(k:Cc b H a ys):xs=ys:=by
 cases b with
 |true=>have h:H a=some Ke:=h;have k:H a=some (.tup ys):=k;rw[h]at k;cases k;rfl
 |false=>have h:H a=some KB:=h;have k:H a=some IR:=k;rw[h]at k;cases k;rfl
theorem Cc.none{b:Bool}{H:Hp}{a c:AD}{xs:zJ}(h:Cc b H a xs)(k:H c=none):a≠c:=fun z=>by
 subst z;cases b with
 |true=>have h:H a=some Ke:=h;rw[k]at h;cases h
 |false=>have h:H a=some KB:=h;rw[k]at h;cases h
def Cc.raw{X:Cx}{pins:Cu}{σ:St}{H:Hp}{s:SD}(I:BY){b:Bool}{a:AD}{xs:zJ}(h:Cc b H a xs):∃g,Vals xs g/\ZT.Sq b s.heap a g:=by
 cases b with
 |true=>
  obtain⟨g,R,p,_⟩:=I.tuple (BK.of (K:=X.K) (show H a=some Ke from h));exact⟨g,R,p⟩
 |false=>
  obtain⟨g,R,p,_⟩:=I.list (Aw.of (K:=X.K) (show H a=some KB from h));exact⟨g,R,p.isList⟩
def rQ(b1 b2:Bool)(a1 a2:AD):It :=
 ⟨fun i H=>∃xs x ys y,Cc b1 H a1 xs/\Cc b2 H a2 ys/\xs[i]? = some x/\ys[i]? = some y,
  fun i H v H'=>∃p x y,v=.ref p/\H p=none/\H'=upd H p (.tup [x,y])/\(∀xs,Cc b1 H a1 xs->xs[i]? = some x)/\∀ys,Cc b2 H a2 ys->ys[i]? = some y,
  fun i H=>∃xs ys,Cc b1 H a1 xs/\Cc b2 H a2 ys/\(i=xs.length\/(i<xs.length/\i=ys.length))⟩
def yT(b1 b2:Bool)(a1 a2 z TI TO i1 i2:AD):Nat->Heap->Prop:=fun i h=>IsZip h z TI TO .none/\IsPair h TI (.ref i1) (.ref i2)/\(∃a b,IsPair h TO a b)/\ZT.Jk b1 h i1 a1 i/\ZT.Jk b2 h i2 a2 i
def HB{b:Bool}{h:Heap}{it l:AD}{k:Nat}(x:ZT.Jk b h it l k):∃o,h.get? it=some o/\∀v,o.data≠.cell v:=by
 cases b with
 |true=>obtain⟨o,e,_,d⟩:=(show h.IsTupleIter it l k from x);exact⟨o,e,fun v z=>by rw[d]at z;cases z⟩
 |false=>obtain⟨o,e,_,d⟩:=(show h.IsListIter it l k from x);exact⟨o,e,fun v z=>by rw[d]at z;cases z⟩
def Fz{b:Bool}{h h':Heap}{it l:AD}{k:Nat}(x:ZT.Jk b h it l k)(e:∀o,h.get? it=some o->h'.get? it=some o):ZT.Jk b h' it l k:=by
 cases b with
 |true=>obtain⟨o,q,r⟩:=(show h.IsTupleIter it l k from x);exact(show h'.IsTupleIter it l k from⟨o,e _ q,r⟩)
 |false=>obtain⟨o,q,r⟩:=(show h.IsListIter it l k from x);exact(show h'.IsListIter it l k from⟨o,e _ q,r⟩)
def kY{P:F0b}{w:F0c}{K:Fg}{elts:zD}{x1}{pos:Pos}{b1 b2:Bool}{a1 a2 z TI TO i1 i2:AD}(ne:[z,TI,TO,i1,i2].Nodup) :
  Turn P w K (.Tuple elts x1 pos) (rQ b1 b2 a1 a2) [z,TI,TO,i1,i2] z (yT b1 b2 a1 a2 z TI TO i1 i2) where
 mem:=by simp
 obj:=fun i h st b hb=>by
  obtain⟨h1,h2,⟨u,v,h3⟩,h4,h5⟩:=st;have hb:b=z\/b=TI\/b=TO\/b=i1\/b=i2:=by simpa using hb
  rcases hb with rfl|rfl|rfl|rfl|rfl
  .exact⟨_,h1,fun v y=>by cases y⟩
  .exact⟨_,h2,fun v y=>by cases y⟩
  .exact⟨_,h3,fun v y=>by cases y⟩
  .exact HB h4
  .exact HB h5
 keep:=fun i h h' st k=>by
  obtain⟨h1,h2,⟨u,v,h3⟩,h4,h5⟩:=st;exact⟨k z At _ h1,k TI At _ h2,⟨u,v,k TO At _ h3⟩,Fz h4 fun o e=>k i1 At o e,Fz h5 fun o e=>k i2 At o e⟩
 item:=by
  intro X hP hw hK hc i pins s σ H E I hf st hg;subst hP hw hK;obtain⟨xs,x,ys,y,q1,q2,hx,hy⟩:=hg;obtain⟨us,rv1,p1⟩:=q1.raw I;obtain⟨vs,rv2,p2⟩:=q2.raw I;obtain⟨u,hu,ru⟩:=rv1.get hx;obtain⟨v,hv,rv⟩:=rv2.get hy;obtain⟨t1,t2,⟨ta,tb,t3⟩,t4,t5⟩:=st;have e1:∀b∈[z,TI,TO,i1,i2],a1≠b:=fun b hb=>q1.none (hf b hb).1;have e2:∀b∈[z,TI,TO,i1,i2],a2≠b:=fun b hb=>q2.none (hf b hb).1;simp only[List.nodup_cons,List.mem_cons,List.not_mem_nil,or_false,not_or]at ne;obtain⟨⟨n1,n2,n3,n4⟩,⟨n5,n6,n7⟩,⟨n8,n9⟩,n10,_⟩:=ne;have ap:ZT.Apart z TI TO i1 i2 [i1,a1] [i2,a2]:=⟨⟨Ne.symm n1,n5,n6,n7⟩,⟨Ne.symm n2,n8,n9⟩,⟨Ne.symm n3,Ne.symm n4,n10⟩,
   ⟨by simp[n3,Ne.symm (e1 z At)],by simp[n8,Ne.symm (e1 TO At)],by simp[Ne.symm n10,Ne.symm (e1 i2 At)]⟩,⟨by simp[n4,Ne.symm (e2 z At)],by simp[n9,Ne.symm (e2 TO At)],by simp[n10,Ne.symm (e2 i1 At)]⟩⟩
  refine ZT.next_item ge gv ap t1 t2 t3 ⟨t4,p1⟩ ⟨t5,p2⟩ (aD.mp hu).1 (aD.mp hv).1
   fun u' v' h' tk r1 r2 r3 r4 r5 r6 r7 r8 r9=>⟨_,rfl,wpAny_letOwnedTupleGo_zip (s:={s with heap:=h',toks:=tk}) r3 fun h'' z'' sb=>?_⟩
  rw[hu]at r1;rw[hv]at r2;cases r1;cases r2;have keep:∀b o,b ∉ [z,TI,TO,i1,i2]->s.heap.get? b=some o->h''.get? b=some o:=fun b o hb q=>by
   simp only[List.mem_cons,List.not_mem_nil,or_false,not_or]at hb;exact(sb.2 b hb.1).trans (r9 b o hb.1 hb.2.2.1 hb.2.2.2.1 hb.2.2.2.2 q)
  have lt:∀b∈[z,TI,TO,i1,i2],b<s.heap.objs.size:=fun b hb=>by
   have hb:b=z\/b=TI\/b=TO\/b=i1\/b=i2:=by simpa using hb
   rcases hb with rfl|rfl|rfl|rfl|rfl
   .exact aF t1
   .exact aF t2
   .exact aF t3
   .obtain⟨o,e,_⟩:=HB t4;exact aF e
   .obtain⟨o,e,_⟩:=HB t5;exact aF e
  have hTn:H s.heap.objs.size=none:=I.A9.fresh Ql;have hT'':h''.get? s.heap.objs.size=some { cls:=.type "tuple",data:=.seq #[u,v]}:=(sb.2 _ (ai (lt z At))).trans r7;refine⟨.ref s.heap.objs.size,upd H s.heap.objs.size (.tup [x,y]),?_,rfl,⟨_,x,y,rfl,hTn,rfl,fun zs hz=>by rw[hz.inj q1];exact hx,fun zs hz=>by rw[hz.inj q2];exact hy⟩,⟨z'',?_,⟨u,v,?_⟩,?_,?_⟩,fun b hb=>?_⟩
  .exact I.UZ hf keep RE (.cons ru (.cons rv .nil)) hT''
  .exact(sb.2 _ (Ne.symm n1)).trans (r9 _ _ (Ne.symm n1) n5 n6 n7 t2)
  .exact(sb.2 _ (Ne.symm n2)).trans r4
  .exact Fz r5.1 fun o e=>(sb.2 _ (Ne.symm n3)).trans e
  .exact Fz r6.1 fun o e=>(sb.2 _ (Ne.symm n4)).trans e
  .rw[AN (aI (lt b hb))];exact(hf b hb).1
 done:=by
  intro X hP hw hK hc i pins s σ H E I hf st hg;subst hP hw hK;obtain⟨xs,ys,q1,q2,he⟩:=hg;obtain⟨us,rv1,p1⟩:=q1.raw I;obtain⟨vs,rv2,p2⟩:=q2.raw I;obtain⟨t1,t2,⟨ta,tb,t3⟩,t4,t5⟩:=st;have e1:∀b∈[z,TI,TO,i1,i2],a1≠b:=fun b hb=>q1.none (hf b hb).1;have e2:∀b∈[z,TI,TO,i1,i2],a2≠b:=fun b hb=>q2.none (hf b hb).1;simp only[List.nodup_cons,List.mem_cons,List.not_mem_nil,or_false,not_or]at ne;obtain⟨⟨n1,n2,n3,n4⟩,⟨n5,n6,n7⟩,⟨n8,n9⟩,n10,_⟩:=ne;have ap:ZT.Apart z TI TO i1 i2 [i1,a1] [i2,a2]:=⟨⟨Ne.symm n1,n5,n6,n7⟩,⟨Ne.symm n2,n8,n9⟩,⟨Ne.symm n3,Ne.symm n4,n10⟩,
   ⟨by simp[n3,Ne.symm (e1 z At)],by simp[n8,Ne.symm (e1 TO At)],by simp[Ne.symm n10,Ne.symm (e1 i2 At)]⟩,⟨by simp[n4,Ne.symm (e2 z At)],by simp[n9,Ne.symm (e2 TO At)],by simp[n10,Ne.symm (e2 i1 At)]⟩⟩
  have he':i=us.length\/(i<us.length/\i=vs.length):=by rw[<-rv1.length,<-rv2.length];exact he
  refine ZT.next_end ge gv ap t1 t2 t3 ⟨t4,p1⟩ ⟨t5,p2⟩ he' fun h' tk kp=>⟨rfl,?_⟩;have keep:∀b o,b ∉ [z,TI,TO,i1,i2]->s.heap.get? b=some o->h'.get? b=some o:=fun b o hb q=>by
   simp only[List.mem_cons,List.not_mem_nil,or_false,not_or]at hb;exact kp b o hb.1 hb.2.2.1 hb.2.2.2.1 hb.2.2.2.2 q
  exact I.turn hf keep
 self:=fun _ _ _ _ _ st h=>wpAny_pyIter_zip st.1 h
def xg(T:TA):TI:=fun σ H R=>T σ H fun vs g=>∃(b1 b2:Bool) (a1 a2:AD),vs=[.ref a1,.ref a2]/\(∃xs,Cc b1 g a1 xs)/\(∃ys,Cc b2 g a2 ys)/\R (rQ b1 b2 a1 a2) g
def YQ{X:Cx}{elts:zD}{x1}{g:Pos}{a b:Expr}{ta:TA}{p pos:Pos}(hg:Gl X "zip")(hm:X.mg "zip" = none)(ha:PA X [a,b] ta)(hs:starEach [a,b] X.env=[ND,LJ]:=by rfl)(T:starEach [b] X.env=[LJ]:=by rfl):PI X (.Tuple elts x1 g) (.Call (.Name "zip" p) [a,b] [] pos) (xg ta):=by
 intro pins s σ H R I h;refine Call_ (Gx I hg hm boot_zip (ar (BX OF fun us s1 ⟨vs,H1,Y,r1,q1⟩=>?_) (by rw[hs,T]) (by rw[T];rfl)));obtain⟨b1,b2,l1,l2,e,⟨xs,h1⟩,⟨ys,h2⟩,q⟩:=q1;subst e;cases r1 with
 |cons r Z=>
  cases Z with
  |cons r' Z=>
   cases Z;cases r;cases r';obtain⟨us,_,p1⟩:=h1.raw Y;obtain⟨vs,_,p2⟩:=h2.raw Y;refine ZT.ZG p1 p2 fun h' z1 z2 z3 z4 z5 hk=>wpAny_pyIter_zip z1 ?_;have I2:Inv X pins σ H1 {s1 with heap:=h'}:=Y.kept (t':=s1.toks) hk;refine⟨_,[s1.heap.objs.size+4,s1.heap.objs.size+2,s1.heap.objs.size+3,s1.heap.objs.size,s1.heap.objs.size+1],_,_,H1,rfl,I2,kY ?_,⟨z1,z2,⟨_,_,z3⟩,z4,z5⟩,fun b hb=>?_,q⟩
   .simp
   have U:s1.heap.objs.size<=b:=by
    have hb2:b=s1.heap.objs.size+4\/b=s1.heap.objs.size+2\/b=s1.heap.objs.size+3\/b=s1.heap.objs.size\/b=s1.heap.objs.size+1:=by simpa using hb
    rcases hb2 with h|h|h|h|h<;>rw[h]<;>first|exact aJ _|exact Nat.le_add_right _ _
   exact Y.Sd U (Y.A9.fresh U)
def sE(K:Fg)(a:AD):It :=
 ⟨fun i H=>∃xs x,Aw K H a xs/\xs[i]? = some x,fun i H v H'=>∃p x,v=.ref p/\H p=none/\H'=upd H p (.tup [.int i,x])/\∀xs,Aw K H a xs->xs[i]? = some x,fun i H=>∃xs,Aw K H a xs/\xs.length=i⟩
def eN{P:F0b}{w:F0c}{K:Fg}{elts:zD}{x1}{pos:Pos}(a e it:AD)(hne:e≠it) :
  Turn P w K (.Tuple elts x1 pos) (sE K a) [e,it] e (fun i h=>(∃old,IsEnum h e it (i:Nat) old)/\h.IsListIter it a i) where
 mem:=by simp
 obj:=fun i h st b hb=>by
  rcases aM.mp hb with rfl|hb
  .obtain⟨⟨old,q⟩,_⟩:=st;exact⟨_,q,fun v z=>by cases z⟩
  .have e2:b=it:=by simpa using hb
   subst e2;obtain⟨_,o,q,c,d⟩:=st;exact⟨o,q,fun v z=>by rw[d]at z;cases z⟩
 keep:=fun i h h' st k=>by
  obtain⟨⟨old,q⟩,o,q2,r⟩:=st;exact⟨⟨old,k e At _ q⟩,o,k it At _ q2,r⟩
 item:=by
  intro X hP hw hK hc i pins s σ H E I hf st hg;subst hP hw hK;obtain⟨xs,x,hq,hx⟩:=hg;obtain⟨its,rv,pL,hz⟩:=I.list hq;have p:=pL.isList;obtain⟨u,hu,ru⟩:=rv.get hx;obtain⟨⟨old,he⟩,hit⟩:=st;have hai:a≠it:=fun z=>by
   obtain⟨o,e1,c1,_⟩:=p;obtain⟨o2,e2,c2,_⟩:=hit;rw[z,e2]at e1;cases e1;rw[c1]at c2;exact absurd c2 AT
  have hae:a≠e:=fun z=>by
   obtain⟨o,e1,c1,_⟩:=p;rw[z,he]at e1;cases e1;exact absurd (show Value.type "enumerate" = Value.type "list" from c1) AT
  have hlt:i<its.length:=(aD.mp hu).1;have hE0:=hf e At;have hI0:=hf it At;refine wpAny_pyNext_enum_itemD (Draws.list (prog:=X.prog) (w:=X.w) (A:=X.A.in1) Nu it a hai its.toArray) he ⟨hit,p⟩ (by simpa using hlt) hne (by simp[hne,Ne.symm hae]) fun y h' tk hy ho hs' hT hsz hk=>⟨_,rfl,wpAny_letOwnedTupleGo_enum (s:={s with heap:=h',toks:=tk+1}) ho fun h'' he'' sb=>?_⟩;have hyu:y=u:=by
   have hy:its[i]? = some y:=by simpa using hy
   rw[hu]at hy;exact(af hy).symm
  subst hyu;have keep:∀b o,b≠e->b≠it->s.heap.get? b=some o->h''.get? b=some o:=fun b o h1 h2 q=>(sb.2 b h1).trans (hk b o h1 h2 q);have hTe:s.heap.objs.size≠e:=ai (aF he);have hTi:s.heap.objs.size≠it:=let⟨_,q,_⟩:=hit;ai (aF q);have hT'':h''.get? s.heap.objs.size=some { cls:=.type "tuple",data:=.seq #[.int i tk,y]}:=(sb.2 _ hTe).trans hT;have hTn:H s.heap.objs.size=none:=I.A9.fresh Ql;refine⟨.ref s.heap.objs.size,upd H s.heap.objs.size (.tup [.int i,x]),?_,rfl,⟨_,x,rfl,hTn,rfl,fun ys hy=>by rw[I.YN hy hq];exact hx⟩,⟨⟨_,by simpa using he''⟩,?_⟩,fun b hb=>?_⟩
  .exact I.UZ (ch:=[e,it]) hf (fun b o hb q=>keep b o (fun z=>hb (by simp[z])) (fun z=>hb (by simp[z])) q) RE (.cons ⟨tk,rfl⟩ (.cons ru .nil)) hT''
  .obtain⟨⟨o,q,r⟩,_⟩:=hs';exact⟨o,(sb.2 it (Ne.symm hne)).trans q,r⟩
  .rcases aM.mp hb with rfl|hb
   .rw[AN (Ne.symm hTe)];exact hE0.1
   .have e2:b=it:=by simpa using hb
    subst e2;rw[AN (Ne.symm hTi)];exact hI0.1
 done:=by
  intro X hP hw hK hc i pins s σ H E I hf st hg;subst hP hw hK;obtain⟨xs,hq,hx⟩:=hg;obtain⟨its,rv,pL,hz⟩:=I.list hq;have p:=pL.isList;obtain⟨⟨old,he⟩,hit⟩:=st;have hai:a≠it:=fun z=>by
   obtain⟨o,e1,c1,_⟩:=p;obtain⟨o2,e2,c2,_⟩:=hit;rw[z,e2]at e1;cases e1;rw[c1]at c2;exact absurd c2 AT
  have hl:its.length=i:=by rw[<-rv.length];exact hx
  subst hl;obtain⟨f0,f1,f2,f3,f4,f5⟩:=hf it At;exact wpAny_pyNext_enum_endD (Draws.list (prog:=X.prog) (w:=X.w) (A:=X.A.in1) Nu it a hai its.toArray) he ⟨hit,p⟩ fun h' eb=>⟨rfl,I.turned (t':=s.toks) (fun b o hb q=>eb b o hb q) f0 f1 f3 f4 f5⟩
 self:=fun _ _ _ _ _ st h=>by
  obtain⟨⟨old,he⟩,_⟩:=st;exact wpAny_pyIter_enum he h
def ql(K:Fg)(T:TA):TI:=fun σ H R=>T σ H fun vs g=>∃a,vs=[.ref a]/\(∃xs,Aw K g a xs)/\R (sE K a) g
def jL{X:Cx}{elts:zD}{x1}{g:Pos}{a:Expr}{ta:TA}{p pos:Pos}(hg:Gl X "enumerate")(hm:X.mg "enumerate" = none)(ha:PA X [a] ta)(hs:starEach [a] X.env=[ND]:=by rfl):PI X (.Tuple elts x1 g) (.Call (.Name "enumerate" p) [a] [] pos) (ql X.K ta):=by
 intro pins s σ H R I h;refine Call_ (Gx I hg hm boot_enumerate (ar (BX OF fun us s1 ⟨vs,H1,U,r1,q1⟩=>?_) hs rfl));obtain⟨t,e,⟨xs,hq⟩,q⟩:=q1;subst e;cases r1 with
 |cons r rr=>
  cases rr;cases r;obtain⟨Y,rv,p',hz⟩:=U.list hq;refine call_enumerate_list (show s1.heap.IsList t Y.toArray from p'.isList) fun h' he hit hsz hk=>wpAny_pyIter_enum he ?_;have I2:Inv X pins σ H1 {s1 with heap:=h'}:=U.kept (t':=s1.toks) hk;have hn:s1.heap.objs.size+1≠s1.heap.objs.size:=by lia
  refine⟨s1.heap.objs.size+1,[s1.heap.objs.size+1,s1.heap.objs.size],_,_,H1,rfl,I2,eN t _ _ hn,⟨⟨_,he⟩,hit⟩,fun b hb=>?_,q⟩;have T:s1.heap.objs.size<=b:=by
   have Z:b=s1.heap.objs.size+1\/b=s1.heap.objs.size:=by simpa using hb
   rcases Z with z|z
   .rw[z];exact Nat.le_succ _
   .rw[z];exact aJ _
  exact U.Sd T (U.A9.fresh T)
def ko(i:Expr):Prop:=∀g R,subscripted i false g R=operate [g,R] (getItem g R)
def oY{prog:F0b}{w:F0c}{A:F0d}{E:yz}{s:SD}{env:Env}{value slice:Expr}{pos:Pos}{T id:String}{Q:yz} (hl:typeLookup (.type T) "__getitem__" = pure (some (.builtin id)))(hs:ko slice) (h:wpAny AS A (eval value env) (fun o Y=>wpAny AS A (eval slice env) (fun i g=>g.TypeIs o T/\wpAny AS A (getItem o i) Q E g) E Y) E s):wpAny AS A (eval (.Subscript value slice pos) env) Q E s:=by
 refine Subscript_ (ao h (fun o Y h₁=>ao h₁ (fun i g R=>?_) fun _ _ x=>x) fun _ _ x=>x);obtain⟨hT,R⟩:=R;unfold subscriptTail;refine Wb ?_;rw[getitemInPython_of_ne hT.not_modules];refine Wb (wpAny_specialOf hT hl ?_);have fin:wpAny AS A (subscripted slice false o i) (fun r U=>wpAny AS A (letTemporaryGo value o r>>=fun _=>pure r) Q E U) E g:=by
  rw[hs o i];exact wpAny_operating (ao R (fun r U Z=>Wb (wpAny_letTemporaryGo (aA Z))) fun _ _ x=>x)
 first
  |exact aA (Wb fin)
  |exact Wb (aA (Wb fin))
  |exact Wb fin
end L2
namespace TH
open PySem PyProof.Rows PySem.SeqAt
def La:Tr->List Int
 |.nil=>[]
 |.cons b r=>reduceHash (Builtin.Tuple.tupleHashOf (La b))::La r
def Ba(t:Tr):Int:=reduceHash (Builtin.Tuple.tupleHashOf (La t))
section
variable{prog:F0b}{w:F0c}{E:yz}
def IsTuple.ty{h:Heap}{a:AD}{x:Array VL}{s:SD}(e:s.heap=h)(k:h.IsTuple a x):s.TypeIs Hf "tuple" := by
 subst e;obtain⟨o,g,R,_⟩:=k;exact⟨o,g,R⟩
def Zn(prog:F0b)(w:F0c)(E:yz)(t:Tr):Prop:=∀(us:LQ) (A:F0d) (s:SD) (b:Array Int) (Q:Array Int->SD->Prop),Vs s.heap t us->A.units+t.deep<=cLine ->
 (∀tk g,g.toList=b.toList++La t->Q g {s with toks:=tk})->wpAny AS A (forIn us b fun x r=>do let h <-pyHash x;pure PUnit.unit;pure (ForInStep.yield (r.push h))) Q E s
def Ru{t:Tr}(row:Zn prog w E t){a:AD}{g:yy}{A:F0d}{s:SD}{Q:Int->SD->Prop}(R:s.heap.IsTuple a g.toArray)(h2:Vs s.heap t g)(hu:SZ) (h:∀tk,Q (Ba t) {s with toks:=tk}):wpAny AS A (pyHash Hf) Q E s:=by
 have Z:=IsTuple.ty rfl R;obtain⟨o,U,hc,n,hd⟩:=id R;refine PySem.W.pyHash_slot (T := "tuple") Z F.slot_tuple_hash F.entry_tuple_hash (F.args_tuple_hash_1 _) (beq_builtin_none _) (.inr AC) ?_;show wpAny _ _ (Builtin.Tuple.tupleItemsOf Hf>>=_) _ _ s;refine Wb (wpAny_tupleItemsOf U hd ?_);refine Wb ?_;rw[<-(Sa)];refine row g A.in1 s #[] _ h2 (by rw[(OM)];lia) fun tk b Y=>?_;show wpAny _ _ (retInt (Builtin.Tuple.tupleHashOf b.toList)) _ _ _;rw[Y];exact Wb (wpAny_mkInt (aA ⟨_,_,rfl,h _⟩))
theorem SH:∀t:Tr,Zn prog w E t
 |.nil=>fun us A s b Q e _ h=>by rw[Vs]at e;subst e;exact aA (h s.toks b (by simp[La]))
 |.cons c r=>fun us A s b Q e hu h=>by
  rw[Vs]at e;obtain⟨a,R,rest,rfl,Z,Y,U⟩:=e;have hd:(Tr.cons c r).deep=max (c.deep+1) r.deep:=rfl;rw[List.forIn_cons];refine Wb (Wb (Ru (SH c) Z Y AC fun tk=>?_));refine Wb (aA Re);exact SH r rest A _ _ Q U AC fun g b' T=>h g b' (by simp[T,La,Ba])
def om{t:Tr}{a:AD}{g:yy}{A:F0d}{s:SD}{Q:Int->SD->Prop}(U:s.heap.IsTuple a g.toArray)(T:Vs s.heap t g)(R:SZ) (h:∀tk,Q (Ba t) {s with toks:=tk}):wpAny AS A (pyHash Hf) Q E s:=Ru (SH t) U T R h
def Good(h:Heap)(n:Nat)(v:VL):Prop:=∃a g t,v=.ref a/\h.IsTuple a g.toArray/\Vs h t g/\t.deep<n
theorem OU{h:Heap}:∀ {t:Tr} {us:LQ} {n:Nat},Vs h t us->t.deep<=n->∀v∈us,Good h n v
 |.nil,us,n,e,_,v,g=>by rw[Vs]at e;subst e;cases g
 |.cons c r,us,n,e,hd,v,g=>by
  rw[Vs]at e;obtain⟨a,R,rest,rfl,Y,U,T⟩:=e;rw[Tr.deep]at hd;rcases aM.mp g with rfl|g
  .exact⟨a,R,c,rfl,Y,U,by lia⟩
  .exact OU T AC v g
theorem Ym:∀(n:Nat) {v:VL} {A:F0d} {s:SD} {Q:W1},Good s.heap n v->Q true s->wpAny AS A (hashByValue n v) Q E s
 |0,v,A,s,Q,⟨_,_,_,_,_,_,z⟩,_=>absurd z (av _)
 |n+1,v,A,s,Q,⟨a,R,t,e,Z,h2,hd⟩,h=>by
  subst e;have hT:=IsTuple.ty rfl Z;obtain⟨o,ho,hc,k,Y⟩:=id Z;unfold hashByValue;refine Wb (wpAny_specialOf hT F.slot_tuple_hash.lookup ?_);refine Wb (ak ho Y ?_);refine Wb ?_;show wpAny _ _ (forIn R.toArray _ _) _ _ s;rw[<-(Sa)];refine wpAny_forIn_list _ (fun rest r s'=>r.1=none/\s'=s/\∀v∈rest,Good s.heap n v) _ ?_ ?_ _ _ ⟨rfl,rfl,OU h2 AC⟩
  .rintro v rest r s' ⟨U,rfl,g⟩;refine Wb (Ym n (g v aX) ?_);simp only[Bool.not_true,Bool.false_eq_true,if_false];exact aA ⟨rfl,rfl,fun u T=>g u (aS _ T)⟩
  .rintro⟨r1,r2⟩ s' ⟨U,rfl,_⟩;simp only at U;subst U;exact aA h
theorem quiet:∀(n:Nat) {v:VL} {A:F0d} {s:SD} {Q:W1},Good s.heap n v->Q true s->wpAny AS A (eqIsQuiet n v) Q E s
 |0,v,A,s,Q,⟨_,_,_,_,_,_,z⟩,_=>absurd z (av _)
 |n+1,v,A,s,Q,⟨a,R,t,e,h1,h2,hd⟩,h=>by
  subst e;have Z:=IsTuple.ty rfl h1;obtain⟨o,ho,hc,k,Y⟩:=id h1;unfold eqIsQuiet;refine Wb (wpAny_specialOf Z F.slot_tuple_eq.lookup ?_);show wpAny _ _ (isInstance Hf Fk>>=_) _ _ s;refine Wb (wpAny_isInstance Z isSubtype_tuple_tuple ?_);simp only[Bool.not_true,Bool.false_eq_true,if_false];refine Wb (ak ho Y ?_);refine Wb ?_;show wpAny _ _ (forIn R.toArray _ _) _ _ s;rw[<-(Sa)];refine wpAny_forIn_list _ (fun rest r s'=>r.1=none/\s'=s/\∀v∈rest,Good s.heap n v) _ ?_ ?_ _ _ ⟨rfl,rfl,OU h2 AC⟩
  .rintro v rest r s' ⟨U,rfl,g⟩;refine Wb (quiet n (g v aX) ?_);simp only[Bool.not_true,Bool.false_eq_true,if_false];exact aA ⟨rfl,rfl,fun u T=>g u (aS _ T)⟩
  .rintro⟨r1,r2⟩ s' ⟨U,rfl,_⟩;simp only at U;subst U;exact aA h
theorem Sr:∀(n:Nat) {v:VL} {A:F0d} {s:SD} {Q:W1},Good s.heap n v->Q false s->wpAny AS A (ofAClassStatement n v) Q E s
 |0,v,A,s,Q,⟨_,_,_,_,_,_,z⟩,_=>absurd z (av _)
 |n+1,v,A,s,Q,⟨a,Z,t,e,Y,h2,hd⟩,h=>by
  subst e;have hT:=IsTuple.ty rfl Y;obtain⟨o,ho,hc,k,U⟩:=id Y;unfold ofAClassStatement;refine Wb (wpAny_typeOf hT ?_);have ht:("tuple" == "tuple")=true:=by rfl
  dsimp only;rw[if_pos ht];refine Wb Re;simp only[Bool.not_true,Bool.false_eq_true,if_false];refine Wb (ak ho U ?_);refine Wb ?_;rw[<-(Sa)];refine wpAny_forIn_list _ (fun rest r s'=>r.1=none/\s'=s/\∀v∈rest,Good s.heap n v) _ ?_ ?_ _ _ ⟨rfl,rfl,OU h2 AC⟩
  .rintro v rest r s' ⟨T,rfl,g⟩;refine Wb (Sr n (g v aX) ?_);simp only[Bool.false_eq_true,if_false];exact aA ⟨rfl,rfl,fun u R=>g u (aS _ R)⟩
  .rintro⟨r1,r2⟩ s' ⟨T,rfl,_⟩;simp only at T;subst T;exact aA h
def kX{x:VL}{l:yy}{A:F0d}{s:SD}{Q:W1}(hx:Good s.heap 8 x)(hl:∀y∈l,Good s.heap 8 y)(h:Q false s):wpAny AS A (searchCouldBeSeen x l) Q E s:=by
  unfold searchCouldBeSeen
  refine Wb ?_
  refine wpAny_forIn_list _ (fun rest r s'=>r.1=none/\s'=s/\∀v∈rest,Good s.heap 8 v) _ ?_ ?_ _ _ ⟨rfl,rfl,hl⟩
  . rintro v rest r s' ⟨hr,rfl,hall⟩
    have go:∀b:Bool,wpAny AS A (if b=true then pure (ForInStep.yield (none,())) else do
        let q <-eqIsQuiet 8 x
        if(!q)=true then pure (ForInStep.done (some true,())) else do
          let q <-eqIsQuiet 8 v
          if(!q)=true then pure (ForInStep.done (some true,())) else do
            let q <-ofAClassStatement 8 x
            if q=true then pure (ForInStep.done (some true,())) else do
              let q <-ofAClassStatement 8 v
              if q=true then pure (ForInStep.done (some true,())) else pure (ForInStep.yield (none,())))
        (fun st s''=>match st with
          |ForInStep.yield r=>r.1=none/\s''=s'/\∀v∈rest,Good s'.heap 8 v
          |ForInStep.done r=>False) E s':=fun b=>by
      cases b with
      |true=>rw[if_pos rfl];exact aA ⟨rfl,rfl,fun u hu'=>hall u (aS _ hu')⟩
      |false=>
        rw[if_neg aK]
        refine Wb (quiet 8 hx ?_)
        simp only[Bool.not_true,Bool.false_eq_true,if_false]
        refine Wb (quiet 8 (hall v aX) ?_)
        simp only[Bool.not_true,Bool.false_eq_true,if_false]
        refine Wb (Sr 8 hx ?_)
        simp only[Bool.false_eq_true,if_false]
        refine Wb (Sr 8 (hall v aX) ?_)
        simp only[Bool.false_eq_true,if_false]
        exact aA ⟨rfl,rfl,fun u hu'=>hall u (aS _ hu')⟩
    refine ao (go _) (fun st s'' z=>?_) fun _ _ z=>z
    cases st with
    |yield r=>exact z
    |done r=>exact z.elim
  . rintro⟨r1,r2⟩ s' ⟨hr,rfl,_⟩
    simp only at hr
    subst hr
    exact aA h
end
end TH
namespace TH
open PySem PyProof.Rows PySem.SeqAt
abbrev ES:=Array (Int×Tr)
def Rm(g:ES)(i:Nat):Int:=(g[i]?.map M0).getD 0
def eX(g:ES)(t:SetTable)(x:Tr)(h:Int):Option (Option Nat) :=
 if t.gaveWay then none else
 match t.probe (Rm g) h (t.probeStart h) with
 |some (.empty j none)=>some (some j)
 |some (.candidate _ i _)=>match g[i]? with
  |some (_,y)=>if y=x then some none else none
  |none=>none
 |_=>none
def KC(st:ES×SetTable)(x:Tr):Option (ES×SetTable) :=
 if(st.2.fits st.1.size&&decide (st.1.size<=1000)&&st.2.plain)=false then none else
 match eX st.1 st.2 x (Ba x) with
 |none=>none
 |some none=>some st
 |some (some slot)=>
  if(st.2.put slot).1.tooFull=false then some (SetTable.insertAt st.1 (st.2.put slot).2 (Ba x,x),(st.2.put slot).1) else
  if((st.2.put slot).1.fits (SetTable.insertAt st.1 (st.2.put slot).2 (Ba x,x)).size&&decide (SetTable.sizeAbove (SetTable.grown (st.1.size+1))<=100000))=false then none else
  match (st.2.put slot).1.relaid ((SetTable.insertAt st.1 (st.2.put slot).2 (Ba x,x)).map M0) (SetTable.grown (st.1.size+1)) with
  |none=>none
  |some (g,order)=>
   if(order.filterMap ((SetTable.insertAt st.1 (st.2.put slot).2 (Ba x,x))[·]?)).size=(SetTable.insertAt st.1 (st.2.put slot).2 (Ba x,x)).size then
    some (order.filterMap ((SetTable.insertAt st.1 (st.2.put slot).2 (Ba x,x))[·]?),g) else none
def Sg(G:VL->Tr->Prop)(h:Heap)(p:Int×VL)(q:Int×Tr):Prop:=p.1=q.1/\q.2.deep<8/\G p.2 q.2/\∃a g,p.2=.ref a/\h.IsTuple a g.toArray/\Vs h q.2 g
abbrev Em(G:VL->Tr->Prop)(h:Heap)(ev:RJ)(g:ES):Prop:=Paired (Sg G h) ev.toList g.toList
variable{G:VL->Tr->Prop}
section
variable{α β:Type}{F:α->β->Prop}
theorem Paired.get:∀ {l:List α} {m:List β},Paired F l m->∀ {i:Nat} {y:β},m[i]? = some y->∃x,l[i]? = some x/\F x y
 |_,_,.nil,i,y,h=>by simp at h
 |_,_,.cons g r,0,y,h=>by simp at h;subst h;exact⟨_,rfl,g⟩
 |_,_,.cons g r,i+1,y,h=>Paired.get r (by simpa using h)
def Paired.none:∀ {l:List α} {m:List β},Paired F l m->∀ {i:Nat},m[i]? = Option.none->l[i]? = Option.none:=fun {l m} r i h=>by
 have:=r.length;rw[List.getElem?_eq_none_iff]at h ⊢
 lia
theorem Paired.app{R:List α}{g:List β}(k:Paired F R g):∀ {l:List α} {m:List β},Paired F l m->Paired F (l++R) (m++g)
 |_,_,.nil=>k
 |_,_,.cons h r=>.cons h (Paired.app k r)
theorem Paired.take:∀ {l:List α} {m:List β} (n:Nat),Paired F l m->Paired F (l.take n) (m.take n)
 |_,_,0,_=>by simpa using Paired.nil
 |_,_,n+1,.nil=>by simpa using Paired.nil
 |_,_,n+1,.cons h r=>.cons h (Paired.take n r)
theorem Paired.drop:∀ {l:List α} {m:List β} (n:Nat),Paired F l m->Paired F (l.drop n) (m.drop n)
 |_,_,0,h=>h
 |_,_,n+1,.nil=>by simpa using Paired.nil
 |_,_,n+1,.cons h r=>Paired.drop n r
theorem Paired.pick{l:List α}{m:List β}(r:Paired F l m):∀(o:List Nat),Paired F (o.filterMap (l[·]?)) (o.filterMap (m[·]?))
 |[]=>.nil
 |i::o=>by
  rw[(U4),(U4)];cases e:m[i]? with
  |none=>rw[Paired.none r e];exact Paired.pick r o
  |some y=>
   obtain⟨x,g,h⟩:=Paired.get r e;rw[g];exact .cons h (Paired.pick r o)
theorem Paired.imp{G:α->β->Prop}(h:∀a b,F a b->G a b):∀ {l:List α} {m:List β},Paired F l m->Paired G l m
 |_,_,.nil=>.nil
 |_,_,.cons k r=>.cons (h _ _ k) (Paired.imp h r)
end
def K0{α:Type}(xs:Array α)(p:Nat)(x:α):(SetTable.insertAt xs p x).toList=xs.toList.take p++x::xs.toList.drop p:=by
 unfold SetTable.insertAt;simp[List.extract];rw[List.take_of_length_le At]
def Em.fst{h:Heap}{ev:RJ}{g:ES}(r:Em G h ev g):ev.map M0=g.map M0:=by
 have key:∀ {l:List (Int×VL)} {m:List (Int×Tr)},Paired (Sg G h) l m->l.map M0=m.map M0:=fun r=>by
  induction r with
  |nil=>rfl
  |cons k _ R=>rw[(A2),(A2),R,k.1]
 apply Array.toList_inj.mp
 simpa using key r
def Em.size{h:Heap}{ev:RJ}{g:ES}(r:Em G h ev g):ev.size=g.size:=by simpa using Paired.length r
theorem Em.Rm{h:Heap}{ev:RJ}{g:ES}(r:Em G h ev g)(i:Nat):(ev[i]?.map M0).getD 0=Rm g i:=by
 have:=bM (fun a:Array Int=>a[i]?) r.fst;simp only[Array.getElem?_map]at this;rw[TH.Rm,this]
def Em.good{h:Heap}{ev:RJ}{Z:ES}(r:Em G h ev Z):∀p∈ev.toList,Good h 8 p.2:=by
 have key:∀ {l:List (Int×VL)} {m:List (Int×Tr)},Paired (Sg G h) l m->∀p∈l,Good h 8 p.2:=fun r=>by
  induction r with
  |nil=>intro p g;cases g
  |cons k _ T=>
   intro p g;rcases aM.mp g with rfl|g
   .obtain⟨_,hd,_,a,R,e,Y,U⟩:=k;exact⟨a,R,_,e,Y,U,hd⟩
   .exact T p g
 exact key r
def Em.at{h:Heap}{ev:RJ}{U:ES}(r:Em G h ev U){i:Nat}{z:Int}{y:Tr}(e:U[i]? = some (z,y)):∃a g,ev[i]? = some (z,.ref a)/\h.IsTuple a g.toArray/\Vs h y g/\y.deep<8:=by
 obtain⟨⟨Y,v⟩,h1,R,hd,_,a,g,T,h3,Z⟩:=Paired.get r (by simpa using e);have R:Y=z:=R;have T:v=.ref a:=T;subst R T;exact⟨a,g,by simpa using h1,h3,Z,hd⟩
def Em.keeps{h h':Heap}{ev:RJ}{U:ES}(k:Mz)(r:Em G h ev U):Em G h' ev U :=
 Paired.imp (fun p q ⟨e,hd,Z,a,g,e2,h1,h2⟩=>⟨e,hd,Z,a,g,e2,(by obtain⟨o,Y,T,n,R⟩:=h1;exact⟨o,k _ _ Y T,T,n,R⟩),h2.keeps k⟩) r
section
variable{prog:F0b}{w:F0c}{E:yz}{A:F0d}{s:SD}{a xa:AD}{o:Obj}{ev:RJ}{et:ES}{ep:Nat}{t:SetTable}{x:Tr}{its:yy}{h:Int}
def gA{r:Option Nat}{Q:SetFound->SD->Prop}(ho:s.heap.get? a=some o)(hd:o.data=.set ev ep t)(hf:t.fits et.size=true)(R:Em G s.heap ev et)(U:s.heap.IsTuple xa its.toArray)(T:Vs s.heap x its)(hxd:x.deep<8) (hu:A.units+8<cLine)(g:eX et t x h=some r)(h0:r=none->Q (.there none) s)(h1:∀j,r=some j->Q (.free j false) s):wpAny AS A (setSearch a (.ref xa) h true) Q E s:=by
 have Y:t.fits ev.size=true:=by rw[R.size];exact hf
 unfold eX at g;by_cases hg:t.gaveWay=true
 .rw[if_pos hg]at g;cases g
 rw[if_neg hg]at g;unfold setSearch;rw[show(100000:Nat)=99999+1 from rfl,setSearchFrom];refine Wb (bI ho hd Y ?_);dsimp only;rw[if_neg hg];have hpr:∀f:Nat->Int,(∀i,f i=Rm et i)->t.probe f h ((none:Option SetTable.Probe).getD (t.probeStart h))=t.probe (Rm et) h (t.probeStart h):=fun f hf=>by
  rw[show f=Rm et from funext hf];rfl
 generalize Z:t.probe _ h ((none:Option SetTable.Probe).getD (t.probeStart h))=pr;have hpr':pr=t.probe (Rm et) h (t.probeStart h):=Z.symm.trans (hpr _ fun i=>R.Rm i);clear Z hpr;subst hpr';cases hp:t.probe (Rm et) h (t.probeStart h) with
 |none=>rw[hp]at g;cases g
 |some met=>
  rw[hp]at g;cases met with
  |empty j dummy=>
   cases dummy with
   |none=>cases g;exact aA (h1 j rfl)
   |some d=>cases g
  |candidate j i next=>
   cases he:et[i]? with
   |none=>simp only[he]at g;cases g
   |some zy=>
    obtain⟨z,y⟩:=zy;simp only[he]at g;by_cases hy:y=x
    .rw[if_pos hy]at g;cases g;subst hy;obtain⟨b,its2,e1,e2,e3,e4⟩:=R.at he;cases hl:t.led with
     |true=>
      simp only[Bool.not_true,Bool.false_eq_true,if_false];rw[e1];refine Wb (aT (OG e2 e3 U T AC prog w E _ ?_));rw[decide_eq_true rfl];refine Wb (bI ho hd Y ?_);exact aA (h0 rfl)
     |false=>
      simp only[Bool.not_false,if_true];refine Wb (kX ⟨xa,its,_,rfl,U,T,hxd⟩ (fun v hv=>?_) ?_)
      .obtain⟨p,hp1,rfl⟩:=aQ.mp hv;exact R.good p (Array.mem_toList_iff.mpr (Array.mem_filter.mp (Array.mem_toList_iff.mp hp1)).1)
      simp only[Bool.false_eq_true,if_false];rw[e1];refine Wb (aT (OG e2 e3 U T AC prog w E _ ?_));rw[decide_eq_true rfl];refine Wb (bI ho hd Y ?_);exact aA (h0 rfl)
    .rw[if_neg hy]at g;cases g
def Jf{n:Nat}(h:n<=100000):n<=sizeLine:=aU h KF
def cc{R:Heap}(T:R.get? a=some o)(hd:o.data=.set ev ep t)(g:RJ)(t':SetTable):(R.update a (Obj.putSet g t')).get? a=some {o with data:=.set g (ep+1) t'}:=by
 have:=Heap.get?_update_self (Obj.putSet g t') T (by rw[putSet_of g t' hd];rfl);rw[putSet_of g t' hd]at this;exact this
def W2{R:Heap}(U:R.get? a=some o)(Y:o.cls=.type "set")(g:Obj->Obj):∀b u,R.get? b=some u->u.cls=.type "tuple" ->(R.update a g).get? b=some u:=fun b u q T=>by
 have:a≠b:=fun z=>by
  subst z;rw[U]at q;cases q;rw[Y]at T
  injection T with z
  exact absurd z AT
 rw[Heap.get?_update_other _ _ this];exact q
def qk{et' : ES}{t' : SetTable}{Q : W1}(ho : s.heap.get? a = some o)(hc : o.cls = .type "set")(hd : o.data = .set ev ep t)(R : Em G s.heap ev et)(hx1 : s.heap.IsTuple xa its.toArray)(hx2 : Vs s.heap x its)(hxd : x.deep < 8)(hxg : G (.ref xa) x) (hu : A.units + 8 < cLine)(hs : KC (et,t) x = some (et',t')) (k : ∀ (b : Bool) (h' : Heap) (tk : Nat) (ev' : RJ) (ep' : Nat),Heap.SameBut a s.heap h'->h'.get? a = some { o with data:=.set ev' ep' t' }->Em G h' ev' et'->Q b { s with heap:=h',toks:=tk }):wpAny AS A (setAdd a (.ref xa)) Q E s:=by
  unfold setAdd
  refine aT (Wb (om hx1 hx2 AC fun tk => ?_))
  unfold setAddHashed
  refine aT ?_
  unfold KC at hs
  by_cases h1 : (t.fits et.size && decide (et.size<=1000) && t.plain) = false
  . rw [if_pos h1] at hs; cases hs
  rw [if_neg h1] at hs
  simp only [Bool.not_eq_false,Bool.and_eq_true,decide_eq_true_eq] at h1
  obtain ⟨⟨hf,hz⟩,hpl⟩:=h1
  have hf' : t.fits ev.size = true:=by rw [R.size]; exact hf
  cases hsr : eX et t x (Ba x) with
  | none => simp only [hsr] at hs; cases hs
  | some r=>
    simp only [hsr] at hs
    rw [show (100000 : Nat) = 99999 + 1 from rfl,setAddHashedIn]
    refine Wb (bI (s:={ s with toks:=tk }) ho hd hf' ?_)
    dsimp only
    have hbs : byScan (.ref xa) ev = false:=rfl
    rw [hbs,if_neg aK]
    refine Wb (gA (s:={ s with toks:=tk }) ho hd hf R hx1 hx2 hxd hu hsr (fun hr => ?_) fun j hr => ?_)
    . subst hr
      cases hs
      exact aA (k _ s.heap tk ev ep (Heap.SameBut.refl ..) (by rw [ho,<- hd]) R)
    . subst hr
      dsimp only at hs ⊢
      refine Wb (bI (s:={ s with toks:=tk }) ho hd hf' ?_)
      dsimp only
      have hpl2 : (t.put j).1.plain = true:=hpl
      rw [if_pos hpl2]
      refine Wb (Ym 8 (s:={ s with toks:=tk }) ⟨xa,its,x,rfl,hx1,hx2,hxd⟩ ?_)
      simp only [if_true]
      have R1 : Em G s.heap Ro (SetTable.insertAt et (t.put j).2 (Ba x,x)):=by
        unfold Em
        rw [K0,K0]
        exact Paired.app (.cons ⟨rfl,hxd,hxg,xa,its,rfl,hx1,hx2⟩ (Paired.drop _ R)) (Paired.take _ R)
      have hz1 : (SetTable.insertAt ev (t.put j).2 (Ba x,Value.ref xa)).size<=1001:=by
        have h2:=bM List.length (K0 ev (t.put j).2 (Ba x,Value.ref xa))
        simp only [Array.length_toList,List.length_append,List.length_take,List.length_cons,List.length_drop] at h2
        have:=R.size
        lia
      have hz2 : (SetTable.insertAt et (t.put j).2 (Ba x,x)).size = (SetTable.insertAt ev (t.put j).2 (Ba x,Value.ref xa)).size:=R1.size.symm
      refine Wb (wpAny_storeSet_of (s:={ s with toks:=tk }) ho hd ?_ (Jf AC))
      have g1:=cc ho hd Ro (t.put j).1
      have k1:=W2 ho hc (Obj.putSet Ro (t.put j).1)
      have sb1:=aY s.heap a (Obj.putSet Ro (t.put j).1)
      by_cases hfull : (t.put j).1.tooFull = false
      . rw [if_pos hfull] at hs
        cases hs
        rw [hfull]
        simp only [Bool.and_false,Bool.false_eq_true,if_false]
        exact aA (k _ _ tk _ _ sb1 g1 (R1.keeps k1))
      . rw [if_neg hfull] at hs
        have hfull : (t.put j).1.tooFull = true:=by simpa using hfull
        rw [hfull]
        simp only [Bool.not_false,Bool.and_true,if_true]
        by_cases h2 : ((t.put j).1.fits (SetTable.insertAt et (t.put j).2 (Ba x,x)).size && decide (SetTable.sizeAbove (SetTable.grown (et.size + 1))<=100000)) = false
        . rw [if_pos h2] at hs; cases hs
        rw [if_neg h2] at hs
        simp only [Bool.not_eq_false,Bool.and_eq_true,decide_eq_true_eq] at h2
        obtain ⟨hfit,hsa⟩:=h2
        cases hrl : (t.put j).1.relaid ((SetTable.insertAt et (t.put j).2 (Ba x,x)).map M0) (SetTable.grown (et.size + 1)) with
        | none => simp only [hrl] at hs; cases hs
        | some to=>
          obtain ⟨t2,order⟩:=to
          simp only [hrl] at hs
          by_cases h3 : (order.filterMap ((SetTable.insertAt et (t.put j).2 (Ba x,x))[·]?)).size = (SetTable.insertAt et (t.put j).2 (Ba x,x)).size
          . rw [if_pos h3] at hs
            cases hs
            have R2 : Em G s.heap (order.filterMap Gr) (order.filterMap ((SetTable.insertAt et (t.put j).2 (Ba x,x))[·]?)):=by
              unfold Em
              have:=Paired.pick R1 order.toList
              simpa using this
            have g2:=cc g1 rfl (order.filterMap Gr) t'
            have k2:=W2 g1 hc (Obj.putSet (order.filterMap Gr) t')
            have sb2:=aY (s.heap.update a (Obj.putSet Ro (t.put j).1)) a (Obj.putSet (order.filterMap Gr) t')
            refine Wb ?_
            unfold setRelay
            refine Wb (bI g1 rfl (by rw [<- hz2]; exact hfit) ?_)
            dsimp only
            rw [R.size,if_neg (Nat.not_lt.mpr (Jf hsa))]
            refine Wb ?_
            rw [R1.fst,hrl]
            have hsz : (order.filterMap Gr).size = (SetTable.insertAt ev (t.put j).2 (Ba x,Value.ref xa)).size:=by rw [R2.size,h3,hz2]
            have hne : ¬ ((order.filterMap Gr).size != (SetTable.insertAt ev (t.put j).2 (Ba x,Value.ref xa)).size) = true:=by simp [hsz]
            show wpAny _ _ (do if (order.filterMap Gr).size != (SetTable.insertAt ev (t.put j).2 (Ba x,Value.ref xa)).size then unsupported "internal:set-table-lost-an-element"
                               pure (order.filterMap Gr,t')) _ _ _
            rw [if_neg hne]
            refine aA ?_
            refine wpAny_storeSet_of g1 rfl ?_ (Jf (by rw [hsz]; lia))
            exact aA (k _ _ tk _ _ (sb1.trans sb2) g2 ((R2.keeps k1).keeps k2))
          . rw [if_neg h3] at hs; cases hs
end
end TH
namespace TH
open PySem
def grow:List Tr->Tr->List Tr
 |_,.nil=>[]
 |pre,.cons b r=>((Tr.of (Tr.Eh (b.bs++[.nil]))::grow [] b).map fun g=>Tr.of (Tr.Eh (pre++g::r.bs)))++grow (pre++[b]) r
def wo(t:Tr):zK:=Tr.of (Tr.Eh (t.bs++[.nil]))::grow [] t
def ups(l:zK):zK:=l.flatMap wo
def Qr(st:ES×SetTable):List Tr->Option (ES×SetTable)
 |[]=>some st
 |x::r=>(KC st x).bind fun g=>Qr g r
def Nx(led:Bool):ES×SetTable:=(#[],.fresh 0 0 led)
def T3(st:ES×SetTable):zK:=st.1.toList.map (·.2)
def tz:Nat->List Tr
 |0=>[.nil]
 |n+1=>(Tr.Eh ((ups (tz n)).eraseDups)).reverse
end TH
namespace TH
open PySem PyProof.Rows PySem.SeqAt
def Wk(G:VL->Tr->Prop)(h:Heap)(v:VL)(x:Tr):Prop:=x.deep<8/\G v x/\∃a g,v=.ref a/\h.IsTuple a g.toArray/\Vs h x g
abbrev Ln(G:VL->Tr->Prop)(h:Heap)(vs:LQ)(xs:List Tr):Prop:=Paired (Wk G h) vs xs
variable{G:VL->Tr->Prop}
def Wk.keeps{h h':Heap}(k:Mz){v:VL}{x:Tr}(r:Wk G h v x):Wk G h' v x:=by
 obtain⟨hd,Y,a,g,e,h1,Z⟩:=r;exact⟨hd,Y,a,g,e,(by obtain⟨o,U,T,n,R⟩:=h1;exact⟨o,k _ _ U T,T,n,R⟩),Z.keeps k⟩
def Ln.keeps{h h':Heap}(k:Mz){vs:yy}{xs:zK}(r:Ln G h vs xs):Ln G h' vs xs:=Paired.imp (fun _ _ z=>z.keeps k) r
def Oh(G:VL->Tr->Prop)(h:Heap)(S:AD)(st:ES×SetTable):Prop:=∃o ev ep,h.get? S=some o/\o.ExactSet/\o.data=.set ev ep st.2/\Em G h ev st.1
def Oh.keeps{h h':Heap}{S:AD}{st:ES×SetTable}(x:Oh G h S st)(g:∀o,h.get? S=some o->h'.get? S=some o)(k:Mz):Oh G h' S st:=by
 obtain⟨o,ev,ep,Y,U,T,R⟩:=x;exact⟨o,ev,ep,g _ Y,U,T,R.keeps k⟩
section
variable{prog:F0b}{w:F0c}{A:F0d}{R:Result->SD->Prop}{I S:AD}{fp wr:zL}{St:Nat->Heap->Prop}{items:Array VL}{xs:zK}{st':ES×SetTable}
def oe(W:Walks prog w A.in1 I fp wr items.size (fun i v=>items[i]? = some v) St)(hSf:S ∉ fp)(hcl:∀i h b o,St i h->b∈wr->h.get? b=some o->o.cls≠.type "tuple")(hu:A.units+10<cLine):∀(k i:Nat) (s:SD) (st:ES×SetTable),items.size-i=k->i<=items.size->St i s.heap->Oh G s.heap S st->Ln G s.heap items.toList xs->Qr st (xs.drop i)=some st' ->(∀(h':Heap) (tk:Nat),(∀b o,b≠S->b ∉ wr->s.heap.get? b=some o->h'.get? b=some o)->(∀b o,s.heap.get? b=some o->o.cls=.type "tuple" -> h'.get? b=some o)->Oh G h' S st'->R (.ok (.ret .none)) Da) ->codeAny AS A (.builtin "set.update.loop" ⟨[.ref S,.ref I],[]⟩) R s:=by
 have hSw:S ∉ wr:=fun h=>hSf (W.sub _ h);intro k
 induction k with
 |zero=>
  intro i s st hk hi U hS hT g hR;have hin:i=items.size:=by lia
  subst hin;have Y:=Paired.length hT;rw[List.drop_of_length_le (by rw[<-Y];simp)]at g;cases g;refine codeAny_builtin F.entry_set_update_loop ?_;rw[Around.under_plainId F.plain_set_update_loop _];show wpAny _ A.in1 (pyNext (.ref I)>>=_) _ _ s;refine Wb (W.done s _ _ U fun h' tk hm=>?_);show wpAny _ A.in1 (ret Value.none) _ _ _;have kt:∀b o,s.heap.get? b=some o->o.cls=.type "tuple" -> h'.get? b=some o:=fun b o e T=>hm b o (fun hb=>hcl _ _ b o U hb e T) e;exact aA (hR h' tk (fun b o _ hb e=>hm b o hb e) kt (hS.keeps (fun o e=>hm S o hSw e) kt))
 |succ k ih=>
  intro i s st hk hi U hS hT g hR;have hlt:i<items.size:=by lia
  refine codeAny_builtin F.entry_set_update_loop ?_;rw[Around.under_plainId F.plain_set_update_loop _];show wpAny _ A.in1 (pyNext (.ref I)>>=_) _ _ s;refine Wb (W.item i s _ _ hlt U fun v h1 tk hP hst' hm=>?_);have kt:∀b o,s.heap.get? b=some o->o.cls=.type "tuple" -> h1.get? b=some o:=fun b o e T=>hm b o (fun hb=>hcl _ _ b o U hb e T) e;have hS1:=hS.keeps (fun o e=>hm S o hSw e) kt;have hT1:=hT.keeps kt;have Y:=Paired.length hT;have hxi:i<xs.length:=by rw[<-Y];simpa using hlt
  have hx:xs[i]? = some xs[i]:=aG hxi;obtain⟨v',hv',hxd,hxg,xa,its,e1,e2,e3⟩:=Paired.get hT1 hx;have hvv:v'=v:=by
   have h2:items.toList[i]? = some v:=by simpa using hP
   rw[h2]at hv';exact(af hv').symm
  subst hvv;subst e1;rw[List.drop_eq_getElem_cons hxi,Qr]at g;cases Z:KC st xs[i]with
  |none=>rw[Z]at g;cases g
  |some st1=>
   rw[Z]at g;obtain⟨o,ev,ep,g1,g2,g3,g4⟩:=hS1;obtain⟨et,t⟩:=st;obtain⟨et1,t1⟩:=st1;show wpAny _ A.in1 (holding [Value.ref xa] (setAdd S (.ref xa))>>=_) _ _ _;refine Wb (aT (qk (s:={s with heap:=h1,toks:=tk}) g1 g2.1 g3 g4 e2 e3 hxd hxg (by rw[(OM)];lia) Z fun b h2 tk2 ev2 ep2 sb gS R2=>?_));have kt2:∀b o,h1.get? b=some o->o.cls=.type "tuple" -> h2.get? b=some o:=fun b o' e T=>by
    rw[sb.2 b fun z=>?_]
    .exact e
    .subst z;rw[g1]at e;cases e;rw[g2.1]at T
     injection T with T
     exact absurd T AT
   refine aA ⟨plainId_quiet F.plain_set_update_loop _,ih MS {s with heap:=h2,toks:=tk2} (et1,t1) AC hlt (W.frame _ _ _ hst' fun b hb o' e=>?_) ⟨_,ev2,ep2,gS,g2,rfl,R2⟩ (hT1.keeps kt2) g fun h3 tk3 m3 kt3 S3=>?_⟩
   .rw[sb.2 b fun z=>hSf (z ▸ hb)];exact e
   .refine hR h3 tk3 (fun b o' hbS hb e=>?_) (fun b o' e T=>kt3 b o' (kt2 b o' (kt b o' e T) T) T) S3;refine m3 b o' hbS hb ?_;show h2.get? b=some o';rw[sb.2 b hbS];exact hm b o' hb e
end
end TH
namespace TH
open PySem PyProof.Rows PySem.SeqAt
section
variable{G:VL->Tr->Prop}{prog:F0b}{w:F0c}{A:F0d}{E:yz}{s:SD}{l:AD}{us:yy}{xs:zK}
abbrev Ho(led:Bool):Obj:={ cls:=.type "set",dict:=none,data:=.set #[] 0 (.fresh 0 0 led)}
def dZ(v:VL){Q1:yz}(k:Q1 Do {s with heap:=s.heap.push (Ho (!w.params.followText "set-order"))}):codeAny AS A (.call (.builtin "set.__new__") ⟨[.type "set",v],[]⟩) (wants Q1 E) s:=by
 refine codeAny_of_tree (show wpAny _ A.in1 (checkBuiltinCall "set.__new__" ⟨[.type "set",v],[]⟩>>=fun _=>again (.builtin "set.__new__" ⟨[.type "set",v],[]⟩)) _ _ s from ?_);refine Wb (wpAny_of_eq (F.newCall_set_1 v) (aA ⟨plainId_quiet F.plain_set_new _,codeAny_builtin F.entry_set_new ?_⟩));rw[Around.under_plainId F.plain_set_new _];unfold Builtin.«set.__new__»;unfold Builtin.Frozenset.newClass;have q:=sub_set_self;obtain⟨h0,g,R,t0,o0⟩:=s;dsimp only
 wp_walk
 refine wpAny_askSetting Re;dsimp only;simp only[newObj];exact Wb (wpAny_alloc (aA (aA k)))
def ZW{Q:yz}(hA:A.handled=none)(hL:s.heap.IsList l us.toArray)(hT:Ln G s.heap us xs)(hu:A.units+20<cLine){st:ES×SetTable}(Y:Qr (Nx (!w.params.followText "set-order")) xs=some st) (k:∀(R:Heap) (tk:Nat),Oh G R s.heap.objs.size st->(∀b u,s.heap.get? b=some u->R.get? b=some u)->Q Do {s with heap:=R,toks:=tk}):wpAny AS A (call (.type "set") [.ref l]) Q E s:=by
 obtain⟨mc,mt,hmro⟩:=F.called_set.mro;have q1:=F.called_set.made;have q2:=F.called_set.sub;have q3:=F.called_set.notType;have q4:=F.called_set.canCreate;have q5:=F.typeCall_set_1 Rb;refine wpAny_call (codeAny_of_tree (show wpAny _ _ (callAny (.type "set") _) _ _ _ from ?_));refine aA ⟨Code.quiet_builtin _ LE,codeAny_builtin F.entry_type_call ?_⟩;rw[Around.under_plain (weight_type_call_type "set" [.ref l] []) rfl]
 repeat (any_goals (first|assumption|wp_step))
 have hnew:=dZ (prog:=prog) (w:=w) (s:=s) (A:=A.in1) (E:=E) Rb (Q1:=fun v s1=>v=.ref s.heap.objs.size/\s1={s with heap:=s.heap.push (Ho (!w.params.followText "set-order"))}) ⟨rfl,rfl⟩;refine codeAny_mono hnew fun r s1 Z=>?_;cases r with
 |error e=>exact Z
 |ok fl=>
  cases fl with
  |next=>exact Z.elim
  |brk=>exact Z.elim
  |cont=>exact Z.elim
  |ret obj=>
   obtain⟨rfl,rfl⟩:=Z;generalize (!w.params.followText "set-order")=led at Y;have gS:(s.heap.push (Ho led)).get? s.heap.objs.size=some (Ho led):=aO _ rfl;have tS:Shared.TypeIs {s with heap:=s.heap.push (Ho led)} Do "set" := ⟨_,gS,rfl⟩;have q6:=F.called_set.init.lookup;have q7:=F.called_set.init.bind Do
   repeat (any_goals (first|assumption|wp_step))
   have T:codeAny AS A.in1 (.call (.builtin "set.__init__") ⟨[.ref s.heap.objs.size,.ref l],[]⟩)
     (wants (fun v s2=>v=.none/\∃R tk,s2={s with heap:=R,toks:=tk}/\Oh G R s.heap.objs.size st/\∀b u,s.heap.get? b=some u->R.get? b=some u) E) {s with heap:=s.heap.push (Ho led)}:=by
    refine codeAny_call_builtin F.called_set.init.plain F.entry_set_init (check_set_init_1 tS ?_);obtain⟨⟨c0,d0,dt0,sl0⟩,gl,c1,n0,dt1⟩:=id hL;simp only at c1 dt1;subst c1 dt1;have gl1:(s.heap.push (Ho led)).get? l=some ⟨.type "list",d0,.seq us.toArray n0,sl0⟩:=aE _ gl;have U:(s.heap.push (Ho led)).IsList l us.toArray:=⟨_,gl1,rfl,n0,rfl⟩;have s1:=F.sub_list_set;have s2:=F.sub_list_frozenset;have s3:(Value.type "list" == Value.type "dict")=false:=by decide
    unfold Builtin.«set.__init__» noKeywords Builtin.Frozenset.updateFrom;generalize ePI:pyIter=PI
    wp_walk
    subst ePI;refine wpAny_pyIter_list U (Wb (wpAny_runValue ?_));have ll:l<s.heap.objs.size:=aF gl;have zI:(s.heap.push (Ho led)).objs.size=s.heap.objs.size+1:=Heap.size_push ..;have neI:l≠(s.heap.push (Ho led)).objs.size:=by rw[zI];exact aI (bU ll)
    have nfp:s.heap.objs.size ∉ [(s.heap.push (Ho led)).objs.size,l]:=by
     simp only[List.mem_cons,List.not_mem_nil,or_false,not_or];exact⟨by rw[zI];exact aI (bO _),Nat.ne_of_gt ll⟩
    have hA3:A.in1.in1.in1.handled=none:=by simp[hA]
    refine oe (G:=G) (xs:=xs) (st':=st) (Walks.list hA3 _ l neI us.toArray) nfp (fun i h b o hit hb e hc=>?_) (by simp only[Around.in1_units];lia) _ 0 _ (Nx led) rfl (az _) ⟨⟨_,Heap.get?_push_size _ rfl,rfl,rfl⟩,U.push _⟩ ?_ ?_ Y fun R tk m2 kt2 S2=>?_
    .obtain⟨⟨oi,gi,ci,_⟩,_⟩:=hit;have:b=(s.heap.push (Ho led)).objs.size:=by simpa using hb
     subst this;rw[gi]at e;cases e;rw[ci]at hc
     injection hc with hc
     exact absurd hc AT
    .exact⟨Ho led,#[],0,Heap.get?_push_of_some _ gS,⟨rfl,rfl,rfl⟩,rfl,.nil⟩
    .exact hT.keeps fun b o e _=>aE _ (aE _ e)
    .refine aA ?_;show wpAny _ _ (ret Value.none) _ _ _;refine aA ⟨rfl,R,tk,rfl,S2,fun b u e=>?_⟩;have lb:b<s.heap.objs.size:=aF e;refine m2 b u (aI lb) ?_ (aE _ (aE _ e));simp only[List.mem_cons,List.not_mem_nil,or_false];rw[zI];exact aI (bU lb)
   refine codeAny_mono T fun r2 s2 g=>?_;cases r2 with
   |error e=>exact g
   |ok f2=>
    cases f2 with
    |next=>exact g.elim
    |brk=>exact g.elim
    |cont=>exact g.elim
    |ret v2=>
     obtain⟨rfl,R,tk,rfl,S2,k2⟩:=g
     repeat (any_goals (first|assumption|wp_step))
     exact k R tk S2 k2
end
end TH
namespace TH
open PySem PyProof.Rows PySem.SeqAt
def VW:entryFor table "set.__iter__" = some Builtin.«frozenset.__iter__» :=
 entryFor_alias (id' := "frozenset.__iter__") Hk rfl LE Hk
def FY:Slot "set_iterator" "__next__" "set_iterator.__next__" :=
 .of (owner := "set_iterator") (n := "__next__") (by rw[typeLookup_type,builtinLookup_eq_fast];kernel_rfl) LE
  (by decide +kernel) LE (by first|exact .inl LE|exact .inr LE) (by rw[isSubtype_type];kernel_rfl)
def N1:entryFor table "set_iterator.__next__" = some Builtin.«set_iterator.__next__»:=entryFor_of_fast Hk
def Pj(a:VL):argsOk "set_iterator.__next__" ⟨[a],[]⟩:=by unfold argsOk;kernel_rfl
def Pg:Slot "set_iterator" "__iter__" "set_iterator.__iter__" :=
 .of (owner := "set_iterator") (n := "__iter__") (by rw[typeLookup_type,builtinLookup_eq_fast];kernel_rfl) LE
  (by decide +kernel) LE (by first|exact .inl LE|exact .inr LE) (by rw[isSubtype_type];kernel_rfl)
def VF:entryFor table "set_iterator.__iter__" = some Builtin.«dict_keyiterator.__iter__» :=
 entryFor_alias (id' := "dict_keyiterator.__iter__") Hk rfl LE Hk
def WR(a:VL):argsOk "set_iterator.__iter__" ⟨[a],[]⟩:=by unfold argsOk;kernel_rfl
section
variable{α:Type}{next:Nat->Nat}
theorem Zp:∀(n k:Nat) (left:List α) (out:Array α),left.length=n->(pickOrder.go next n k left out).toList.Perm (out.toList++left)
 |0,k,left,out,h=>by
  have:left=[]:=bQ h;subst this;rw[pickOrder.go];simp
 |n+1,k,left,out,h=>by
  rw[pickOrder.go];have g:next k % left.length<left.length:=Nat.mod_lt _ AC;rw[List.getElem?_eq_getElem g];refine(Zp n Pi _ _ (by rw[List.length_eraseIdx_of_lt g];lia)).trans ?_;rw[Array.toList_push,(VI)];refine List.Perm.append_left _ ?_;rw[List.eraseIdx_eq_take_drop_succ];have e:left.take (next k % left.length)++left[next k % left.length]::left.drop (next k % left.length+1)=left:=by rw[<-List.drop_eq_getElem_cons g,List.take_append_drop]
  have p:=List.perm_middle (a:=left[next k % left.length]) (l₁:=left.take (next k % left.length)) (l₂:=left.drop (next k % left.length+1));rw[e]at p;exact p.symm
def iJ(xs:Array α):(pickOrder next xs).toList.Perm xs.toList:=by
 unfold pickOrder
 simpa using Zp xs.size 0 xs.toList #[] At
end
end TH
namespace TH
open PySem PyProof.Rows PySem.SeqAt
def Hg(w:F0c)(S:AD)(ep:Nat)(ev:RJ):Array (Int×VL):=if w.params.followText "set-order" = true then pickOrder (w.params.setOrder S ep) ev else ev
def V9(w:F0c)(S:AD)(ep:Nat)(ev:RJ):(Hg w S ep ev).toList.Perm ev.toList:=by
 unfold Hg;split
 .exact iJ ev
 .exact .refl _
def M3(w:F0c)(S:AD)(ep:Nat)(ev:RJ):(Hg w S ep ev).size=ev.size:=by simpa using (V9 w S ep ev).length_eq
def Kh(t:SetTable):Nat->Nat
 |0=>0
 |i+1=>t.place.getD i 0+1
def Fj(w:F0c)(t:SetTable)(i:Nat):Nat:=if w.params.followText "set-order" = true then 0 else Kh t i
def Qe(t:SetTable)(n:Nat):Bool:=(List.range (n+1)).all fun i=>decide (SetTable.below t.place (Kh t i)=i)
abbrev NI(w:F0c)(S:AD)(t:SetTable)(ep n i:Nat):Obj:={ cls:=.type "set_iterator",data:=.fields #[rawInt ((Fj w t i:Nat):Int),rawInt (i:Int),.ref S,rawInt (n:Int),rawInt (ep:Int)]}
structure Gs(w:World)(o:Obj)(ev:Array (Int×Value))(ep:Nat)(t:SetTable):Prop where
 ex:o.ExactSet
 dat:o.data=.set ev ep t
 fit:t.fits ev.size=true
 plain:t.plain=true
 led:t.led=!w.params.followText "set-order"
 walk:Qe t ev.size=true
section
variable{prog:F0b}{w:F0c}{A:F0d}{E:yz}{s:SD}{S I:AD}{o:Obj}{ev:RJ}{ep i:Nat}{t:SetTable}
def Ul{Q:W1}(h:Q (w.params.followText "set-order") s):wpAny AS A setsByText Q E s:=by
 unfold setsByText;exact Wb (wpAny_askSetting (aA h))
def Gs.jB(W:Gs w o ev ep t):(!t.plain&&decide (ev.size > 1))=false:=by rw[W.plain];rfl
def Gs.place(W:Gs w o ev ep t):t.place.size=ev.size:=by
 have:=W.fit;unfold SetTable.fits at this;simp only[Bool.and_eq_true,beq_iff_eq]at this;exact this.1
def XG{Q:Option (VL×Nat)->SD->Prop}(W:Gs w o ev ep t)(ho:s.heap.get? S=some o)(hi:i<=ev.size)(h:Q ((Hg w S ep ev)[i]?.map fun e=>(e.2,Fj w t MS)) s):wpAny AS A (setNext S (Fj w t i) i ep) Q E s:=by
 unfold setNext;refine Wb (bI ho W.dat W.fit ?_);refine Wb (Ul ?_);cases g:w.params.followText "set-order" with
 |true=>
  rw[if_pos rfl];have U:¬(ep != ep)=true:=by simp
  rw[if_neg U];unfold setWalk;refine Wb (Wb (bI ho W.dat W.fit ?_));refine Wb (Ul ?_);rw[if_pos g];refine Wb (wpAny_askSetting Re);refine aA ?_;have e:Hg w S ep ev=pickOrder (w.params.setOrder S ep) ev:=by unfold Hg;rw[if_pos g]
  rw[e]at h;have Y:Fj w t i=Fj w t MS:=by unfold Fj;rw[if_pos g,if_pos g]
  rw[Y];exact h
 |false=>
  rw[if_neg aK];refine wpAny_ite_split (fun hd=>?_) fun _=>?_
  .have:(!t.plain&&decide (ev.size > 1))=true:=hd;rw[W.jB]at this;cases this
  .refine Wb ?_;have hl:t.led=true:=by rw[W.led,g];rfl
   have hn:¬(!t.led && !ev.isEmpty)=true:=by rw[hl];simp
   show wpAny _ _ (if(!t.led && !ev.isEmpty)=true then unsupported "set:maker-not-led" else pure ()) _ _ _;rw[if_neg hn];refine aA Re;have R:=W.walk;unfold Qe at R;have R:=aL.mp R i (bX.mpr AC);have R:SetTable.below t.place (Kh t i)=i:=by simpa using R
   have e1:Fj w t i=Kh t i:=by unfold Fj;rw[g];rfl
   have Y:Fj w t MS=Kh t MS:=by unfold Fj;rw[g];rfl
   have e3:Hg w S ep ev=ev:=by unfold Hg;rw[g];rfl
   rw[Y,e3]at h;rw[e1,R];by_cases T:i<ev.size
   .have Z:i<t.place.size:=by rw[W.place];exact T
    rw[Array.getElem?_eq_getElem T]at h ⊢;rw[Array.getElem?_eq_getElem Z];have e4:Kh t MS=t.place[i]+1:=by
     rw[Kh,(X9),Array.getElem?_eq_getElem Z]
     rfl
    rw[e4]at h;exact h
   .rw[Array.getElem?_eq_none AC]at h ⊢;exact h
def jv{Q:Ph}{z:Int}{v:VL}(W:Gs w o ev ep t)(U:s.heap.get? S=some o)(g:s.heap.get? I=some (NI w S t ep ev.size i))(T:(Hg w S ep ev)[i]? = some (z,v)) (h:∀h',h'.get? I=some (NI w S t ep ev.size MS)->Heap.SameBut I s.heap h'->Q (some v) Op):wpAny AS A (pyNext (.ref I)) Q E s:=by
 have Y:s.TypeIs (.ref I) "set_iterator" := ⟨_,g,rfl⟩;have hlt:i<ev.size:=by
  have:=(Array.getElem?_eq_some_iff.mp T).1;rw[M3]at this;exact this
 unfold pyNext;refine Wb (wpAny_attempt (aj (name:=Str.ofString "__next__") Y FY (aa FY Y N1 ?_ (Pj _))));unfold Builtin.«set_iterator.__next__»;refine Wb (wpAny_of_eq (a:=(Value.ref I,[])) rfl ?_);refine Wb (wpAny_fieldsOf g rfl ?_);show wpAny _ _ (setEntries S>>=_) _ _ s;refine Wb (wpAny_setEntries_of U W.dat W.fit ?_);have R:¬((ev.size:Int) != (ev.size:Int))=true:=by simp
 dsimp only;rw[if_neg R];refine Wb ?_;show wpAny _ _ (setNext S (Fj w t i) i ep) _ _ _;refine XG W U AC ?_;rw[T];show wpAny _ _ (setField (.ref I) 0 (rawInt ((Fj w t MS:Nat):Int))>>=_) _ _ _;refine Wb (wpAny_setField g rfl At ?_);have Z:(s.heap.update I (Obj.mapFields (·.setIfInBounds 0 (rawInt ((Fj w t MS:Nat):Int))))).get? I=some { cls:=.type "set_iterator",data:=.fields #[rawInt ((Fj w t MS:Nat):Int),rawInt (i:Int),.ref S,rawInt (ev.size:Int),rawInt (ep:Int)]} :=
  Heap.get?_update_self _ g rfl
 refine Wb (wpAny_setField Z rfl At ?_);refine aA ⟨_,rfl,wpAny_pure (h _ ?_ ((aY ..).trans (aY ..)))⟩;exact Heap.get?_update_self _ Z rfl
def km{Q:Ph}(hh:A.handled=none)(W:Gs w o ev ep t)(Y:s.heap.get? S=some o)(U:s.heap.get? I=some (NI w S t ep ev.size ev.size)) (h:∀h',Heap.ExtBut I s.heap h'->Q none Op):wpAny AS A (pyNext (.ref I)) Q E s:=by
 have Z:s.TypeIs (.ref I) "set_iterator" := ⟨_,U,rfl⟩;unfold pyNext;refine Wb (wpAny_attempt (aj (name:=Str.ofString "__next__") Z FY (aa FY Z N1 ?_ (Pj _))));unfold Builtin.«set_iterator.__next__»;refine Wb (wpAny_of_eq (a:=(Value.ref I,[])) rfl ?_);refine Wb (wpAny_fieldsOf U rfl ?_);show wpAny _ _ (setEntries S>>=_) _ _ s;refine Wb (wpAny_setEntries_of Y W.dat W.fit ?_);have g:¬((ev.size:Int) != (ev.size:Int))=true:=by simp
 dsimp only;rw[if_neg g];refine Wb ?_;show wpAny _ _ (setNext S (Fj w t ev.size) ev.size ep) _ _ _;refine XG W Y Ql ?_;rw[Array.getElem?_eq_none (by rw[M3];exact aJ _)];show wpAny _ _ (setField (.ref I) 2 Value.none>>=_) _ _ _;refine Wb (wpAny_setField U rfl At ?_);refine Wb ?_;simp only[newExc,newTuple];refine Wb (bA ?_ (by size_fits));refine Wb (m:=firstArgMember _ _) (wpAny_of_eq (a:=Value.none) (by first|rfl|(simp only[firstArgMember];rfl)) (bA ?_ (by size_fits)));simp only[raiseNew];refine Wb (wpAny_handled ?_);have R:A.in1.handled=none:=hh;rw[R];refine Wb (aA (wpAny_throw ?_));refine Wb (wpAny_isInstance (b:=true) (T := "StopIteration") ⟨_,Heap.get?_push_size _ rfl,rfl⟩ isSubtype_stop ?_);exact aA (h _ (((aY ..).extBut.push _).push _))
def jH{Q:yz}(R:s.heap.get? I=some (NI w S t ep ev.size i))(h:Q (.ref I) s):wpAny AS A (pyIter (.ref I)) Q E s:=by
 have g:s.TypeIs (.ref I) "set_iterator" := ⟨_,R,rfl⟩;refine wpAny_pyIter_slot g Pg (aa Pg g VF ?_ (WR _));show wpAny _ _ (ret (.ref I)) _ _ s;exact aA ⟨_,rfl, "set_iterator",_,g,FY.lookup,h⟩
def fS(hh:A.handled=none)(hne:S≠I)(W:Gs w o ev ep t) :
  Walks prog w A I [I,S] [I] ev.size (fun i v=>∃z,(Hg w S ep ev)[i]? = some (z,v)) (fun i h=>h.get? I=some (NI w S t ep ev.size i)/\h.get? S=some o) where
 sub:=fun b hb=>by simp at hb;simp[hb]
 frame:=fun _ _ _ x k=>⟨k I At _ x.1,k S At _ x.2⟩
 item:=fun i s Q E hi x hQ=>by
  have hi':i<(Hg w S ep ev).size:=by rw[M3];exact hi
  obtain⟨z,v,hx⟩:∃z v,(Hg w S ep ev)[i]? = some (z,v):=⟨(Hg w S ep ev)[i].1,(Hg w S ep ev)[i].2,by rw[Array.getElem?_eq_getElem hi']⟩;refine jv W x.2 x.1 hx fun h' g sb=>hQ v h' s.toks ⟨z,hx⟩ ⟨g,(sb.2 S hne).trans x.2⟩ fun b u hb e=>?_;rw[sb.2 b fun q=>hb (by simp[q])];exact e
 done:=fun s Q E x hQ=>km hh W x.2 x.1 fun h' eb=>hQ h' s.toks fun b u hb e=>eb b u (fun q=>hb (by simp[q])) e
 self:=fun _ _ _ _ x hQ=>jH x.1 hQ
def jz{Q:W1}(U:s.TypeIs (.ref S) "set")(h:Q false s):wpAny AS A (Builtin.List.listLengthHint (.ref S)) Q E s:=by
 unfold Builtin.List.listLengthHint;refine Wb (wpAny_specialOf U PySem.F.slot_set_len.lookup ?_);generalize g:("set.__len__" : String)=R
 wp_delta
 rw[show splitId R=some ("set","__len__") from by subst g;decide +kernel];subst g;refine Wb (wpAny_isInstance (b:=true) (T := "set") U (by rw[isSubtype_type];kernel_rfl) ?_);refine wpAny_ite_split (fun z=>absurd z AT) fun _=>?_;refine wpAny_ite_split (fun _=>?_) fun z=>absurd LE z;exact Wb (wpAny_typeOf U (aA h))
def jX{Q:yz}(W:Gs w o ev ep t)(g:s.heap.get? S=some o)(h:Q Do {s with heap:=s.heap.push (NI w S t ep ev.size 0)}):wpAny AS A (pyIter (.ref S)) Q E s:=by
 have R:s.TypeIs (.ref S) "set" := ⟨o,g,W.ex.1⟩;refine wpAny_pyIter_slot R PySem.F.slot_set_iter (aa PySem.F.slot_set_iter R VW ?_ (PySem.F.args_set_iter_1 _));unfold Builtin.«frozenset.__iter__»;refine Wb (wpAny_of_eq (a:=S) rfl ?_);unfold Builtin.Frozenset.sizeOf;refine Wb (Wb (wpAny_setEntries_of g W.dat W.fit Re));unfold setDrawn;refine Wb (Wb (bI g W.dat W.fit (Wb (Ul Re))));have hd:(!w.params.followText "set-order" && (!t.plain&&decide (ev.size > 1)))=false:=by rw[W.jB];simp
 refine wpAny_ite_split (fun z=>?_) fun _=>?_
 .have:(!w.params.followText "set-order" && (!t.plain&&decide (ev.size > 1)))=true:=z;rw[hd]at this;cases this
 refine Wb Re;unfold setEpoch;refine Wb (Wb (bI g W.dat W.fit Re));have T:Fj w t 0=0:=by unfold Fj Kh;split<;>rfl
 refine Wb (bA (aA ⟨_,rfl, "set_iterator",_,⟨_,Heap.get?_push_size _ rfl,rfl⟩,FY.lookup,?_⟩));unfold NI at h;rw[T]at h;exact h
def nv(W:Gs w o ev ep t):PySem.W.KdlSrc prog w "set" S S ev.size (fun i v=>∃z,(Hg w S ep ev)[i]? = some (z,v)) (fun h=>h.get? S=some o) where
 type:=fun _ ho=>⟨o,ho,W.ex.1⟩
 there:=fun _ ho=>⟨aF ho,Heap.lt_size ho⟩
 keep:=fun _ _ ho k=>k S Rs _ ho
 notList:=by decide
 notTuple:=by decide
 hint:=fun _ _ s _ ho h=>jz ⟨o,ho,W.ex.1⟩ h
 iter:=fun A s hh ho=>⟨NI w S t ep ev.size 0,_,(fun E Q h=>jX W ho h),fS hh (aI (aF ho)) W,⟨aO _ rfl,Heap.get?_push_of_some _ ho⟩⟩
end
end TH
namespace TH
open PySem PyProof.Rows PySem.SeqAt
def Paired.perm{α Z:Type}{F:α->Z->Prop}{l l':List α}(p:l'.Perm l):∀ {m:List Z},Paired F l m->∃g,g.Perm m/\Paired F l' g:=by
 induction p with
 |nil=>intro m r;exact⟨m,.refl _,r⟩
 |cons x _ ih=>
  intro m r;cases r with
  |cons h T=>
   obtain⟨g,p',q⟩:=ih T;exact⟨_::g,p'.cons _,.cons h q⟩
 |swap x y l=>
  intro m r;cases r with
  |cons h T=>
   cases T with
   |cons h' R=>exact⟨_::_::_,List.Perm.swap ..,.cons h' (.cons h R)⟩
 |trans _ _ Y U=>
  intro m r;obtain⟨m1,p1,q1⟩:=U r;obtain⟨m2,p2,q2⟩:=Y q1;exact⟨m2,p2.trans p1,q2⟩
variable{G:VL->Tr->Prop}
theorem Zq{h:Heap}:∀ {l:List (Int×VL)} {m:List (Int×Tr)},Paired (Sg G h) l m->Vs h (Tr.of (m.map (·.2))) (l.map (·.2))
 |_,_,.nil=>by rw[List.map_nil,List.map_nil,Tr.of,Vs]
 |_,_,.cons (a:=(z,v)) ⟨_,_,_,a,g,e,T,R⟩ r=>by
  have e:v=.ref a:=e;subst e;rw[(A2),(A2),Tr.of,Vs];exact⟨a,g,_,rfl,T,R,Zq r⟩
theorem WE{h:Heap}:∀ {l:List (Int×VL)} {m:List (Int×Tr)},Paired (Sg G h) l m->∀c∈m.map (·.2),c.deep<8
 |_,_,.nil,c,g=>by cases g
 |_,_,.cons ⟨_,hd,_⟩ r,c,g=>by
  rw[(A2)]at g;rcases aM.mp g with rfl|g
  .exact hd
  .exact WE r c g
theorem fG{h:Heap}:∀ {l:List (Int×VL)} {m:List (Int×Tr)},Paired (Sg G h) l m->Paired G (l.map (·.2)) (m.map (·.2))
 |_,_,.nil=>.nil
 |_,_,.cons ⟨_,_,g,_⟩ r=>.cons g (fG r)
theorem Paired.l9{α g:Type}{F:α->g->Prop}{l:List α}{m:List g}(r:Paired F l m)(d:α)(e:g):∀(ix:List Nat),(∀i∈ix,i<l.length)->Paired F (ix.map fun i=>l.getD i d) (ix.map fun i=>m.getD i e)
 |[],_=>.nil
 |i::ix,h=>by
  have Y:=r.length;have hi:=h i aX;have hm:m[i]? = some m[i]:=aG AC;obtain⟨x,U,T⟩:=Paired.get r hm;rw[(A2),(A2)];refine .cons ?_ (Paired.l9 r d e ix fun j R=>h j (aS _ R));rw[(Er),(Er),U,hm];exact T
def kW{l m:zK}(p:l.Perm m):Tr.Eh l=Tr.Eh m:=Tr.NV (Tr.OY l) (Tr.OY m) ((Tr.Oa l).trans (p.trans (Tr.Oa m).symm))
section
variable{prog:F0b}{w:F0c}{A:F0d}{E:yz}{s:SD}
def gather{T:String}{r d:AD}{n:Nat}{P:Nat->VL->Prop}{OK:Heap->Prop}{R:List VL->SD->Prop}(K:PySem.W.KdlSrc prog w T r d n P OK)(hA:A.handled=none)(A9:OK s.heap)(hn:n<=sizeLine) (k:∀(U:Heap) (tk:Nat) (g:Array VL),s.heap.objs.size<U.objs.size->(∀b u,s.heap.get? b=some u->U.get? b=some u)->ItemsOf P g n->R g.toList {s with heap:=U,toks:=tk}):wpAny AS A (collect (.ref r)) R E s:=by
 obtain⟨lr,ld⟩:=K.there _ A9;unfold collect;refine Wb (wpAny_runValue (codeAny_builtin entry_proto_collect' ?_));rw[Around.under_plainId PySem.F.plain_proto_collect _];show wpAny _ A.in1 (newList []>>=fun v=>again (.builtin "list.__iadd__" ⟨[v,.ref r],[]⟩)) _ _ s;refine Wb (bA (aA ⟨plainId_quiet PySem.F.plain_list_iadd _,codeAny_builtin entry_list_iadd' ?_⟩));rw[Around.under_plainId PySem.F.plain_list_iadd _];have g0:(s.heap.push { cls:=.type "list",data:=.seq ([]:List VL).toArray}).get? s.heap.objs.size=some { cls:=.type "list",data:=.seq #[]}:=aO _ rfl;have main:=PySem.W.kdl_extend (A:=A) (s:={s with heap:=s.heap.push { cls:=.type "list",data:=.seq ([]:List VL).toArray} }) K hA
  (K.keep _ _ A9 fun _ _ _ e=>aE _ e) s.heap.objs.size (ai lr) (ai ld) Do 0 g0
  (R:=fun q s1=>∃U tk g c,q=.ok (.ret Do)/\s1={s with heap:=U,toks:=tk}/\(∀b u,s.heap.get? b=some u->U.get? b=some u)/\U.get? s.heap.objs.size=some { cls:=.type "list",dict:=none,data:=.seq g c,slots:=#[]}/\ItemsOf P g n)
  (fun U tk g c Z Y ha=>⟨U,tk,g,c,rfl,rfl,fun b u e=>Z b u (aI (aF e)) (aE _ e),Y,ha⟩) hn
 refine ao main (fun fin s1 x=>?_) fun e s1 x=>?_
 .cases fin with
  |done f=>
   obtain⟨U,tk,g,c,e,rfl,Z,Y,ha⟩:=x;cases e;show wpAny _ A (load s.heap.objs.size>>=_) _ _ _;exact Wb (wpAny_load Y (aA (k U tk g (aF Y) Z ha)))
  |again c1=>
   refine⟨x.1,codeAny_mono x.2 fun q s2 y=>?_⟩;obtain⟨U,tk,g,c,rfl,rfl,Z,Y,ha⟩:=y;show wpAny _ A (load s.heap.objs.size>>=_) _ _ _;exact Wb (wpAny_load Y (aA (k U tk g (aF Y) Z ha)))
 .obtain⟨_,_,_,_,z,_⟩:=x;cases z
end
section
variable{prog:F0b}{w:F0c}{A:F0d}{E:yz}{s:SD}{S:AD}{o:Obj}{ev:RJ}{et:ES}{ep:Nat}{t:SetTable}
def eP{Q:yz}(hA:A.handled=none)(W:Gs w o ev ep t)(ho:s.heap.get? S=some o)(R:Em G s.heap ev et)(h64:et.size<64)(hu:A.units+20<cLine) (h:∀(h':Heap) (D tk Z:Nat) (us:yy),s.heap.objs.size<=D->(∀b u,s.heap.get? b=some u->h'.get? b=some u)->h'.get? D=some (seqObj "list" us.toArray Z)->Paired G us (Tr.Eh (et.toList.map (·.2))).reverse->us.length<64 ->Q (.ref D) Da):wpAny AS A (call XV [.ref S]) Q E s:=by
 have hsz:=R.size;refine Calls.call_function_entry kind_sorted plain_sorted entry_sorted (args_sorted1 _) ?_;unfold Builtin.«sorted»;refine Wb (m:=checkCount "sorted" 1 1 _) Re;refine Wb (gather (A:=A.in1) (nv W) hA ho (Jf AC) fun Y tk g z1 k1 T=>?_);have hal:g.toList=(Hg w S ep ev).toList.map (·.2):=by
  apply List.ext_getElem?;intro j;rw[(CD)];by_cases hj:j<g.size
  .have Z:g[j]? = some g[j]:=Array.getElem?_eq_getElem hj;obtain⟨z,e2⟩:=T.2 j _ Z;rw[Array.getElem?_toList,Z,Array.getElem?_toList,e2]
   rfl
  .have hj2:¬j<(Hg w S ep ev).size:=by rw[M3,<-T.1];exact hj
   rw[List.getElem?_eq_none (by simpa using hj),List.getElem?_eq_none (by simpa using hj2)]
   rfl
 obtain⟨m,pm,rm⟩:=Paired.perm (V9 w S ep ev) R;have hvs:=Zq rm;rw[<-hal]at hvs;have hd:(Tr.of (m.map (·.2))).deep<=8:=(Tr.cX 8 _).mpr fun c hc=>by have:=WE rm c hc;lia
 have U:g.toList.length<64:=by rw[Array.length_toList,T.1,hsz];exact h64
 refine Wb (wpAny_newList ?_ (Jf AC));have g1:(Y.push (seqObj "list" g.toList.toArray 0)).get? Y.objs.size=some (seqObj "list" g.toList.toArray 0):=aO _ rfl;have k2:∀b u,s.heap.get? b=some u->(Y.push (seqObj "list" g.toList.toArray 0)).get? b=some u:=fun b u e=>aE _ (k1 b u e);refine Wb (aT (aa slot_list_sort ⟨_,g1,rfl⟩ entry_list_sort (Wa (s:={s with heap:=Y.push (seqObj "list" g.toList.toArray 0),toks:=tk}) k2 (bD z1) g1 hvs U
  (by rw[show A.in1.in1.units=A.units+2 from rfl];lia) fun ix a1 a2 a3=>⟨_,rfl,?_⟩) (args_list_sort _)))
 obtain⟨Z,he1⟩:=sortedHeap_at (vs:=g.toList) (out:=(ix.map fun i=>g.toList.getD i Value.none).toArray) g1;refine aA ⟨_,rfl,h _ Y.objs.size tk Z (ix.map fun i=>g.toList.getD i Value.none) ?_ (fun b u e=>?_) he1 ?_ (by rw[(BJ),a1];exact U)⟩
 .exact bD z1
 .have lb:b<Y.objs.size:=aF (k1 b u e);rw[sortedHeap_old (aI lb) (by rw[(Ii)];exact bU lb)];exact k2 b u e
 .have hg:=fG rm;rw[<-hal]at hg;have:=Paired.l9 hg Value.none Tr.nil ix a2;rw[Tr.Tp]at a3;rw[a3,kW (pm.map (·.2))]at this;exact this
end
end TH
namespace TH
open PySem PyProof.Rows PySem.SeqAt
section
variable{prog:F0b}{w:F0c}{E:yz}
def YM(prog:F0b)(w:F0c)(E:yz)(t:Tr):Prop:=∀(us:LQ) (A:F0d) (s:SD) (b:Array Int) (Q:Array Int->SD->Prop),Vs s.heap t us->A.units+t.deep<=cLine ->
 (∀g,g.toList=b.toList++La t->Q g {s with toks:=s.toks+(t.AI-1)})->wpAny AS A (forIn us b fun x r=>do let h <-pyHash x;pure PUnit.unit;pure (ForInStep.yield (r.push h))) Q E s
def QF{t:Tr}(row:YM prog w E t){a:AD}{g:yy}{A:F0d}{s:SD}{Q:Int->SD->Prop}(R:s.heap.IsTuple a g.toArray)(h2:Vs s.heap t g)(hu:SZ) (h:Q (Ba t) {s with toks:=s.toks+t.AI}):wpAny AS A (pyHash Hf) Q E s:=by
 have hT:=IsTuple.ty rfl R;obtain⟨o,U,hc,n,hd⟩:=id R;refine PySem.W.pyHash_slot (T := "tuple") hT F.slot_tuple_hash F.entry_tuple_hash (F.args_tuple_hash_1 _) (beq_builtin_none _) (.inr AC) ?_;show wpAny _ _ (Builtin.Tuple.tupleItemsOf Hf>>=_) _ _ s;refine Wb (wpAny_tupleItemsOf U hd ?_);refine Wb ?_;rw[<-(Sa)];refine row g A.in1 s #[] _ h2 (by rw[(OM)];lia) fun b Z=>?_;show wpAny _ _ (retInt (Builtin.Tuple.tupleHashOf b.toList)) _ _ _;rw[Z];have Y:s.toks+(t.AI-1)+1=s.toks+t.AI:=by have:=Tr.EO t;lia
 refine Wb (wpAny_mkInt (aA ⟨_,_,rfl,?_⟩));rw[Y];exact h
theorem QO:∀t:Tr,YM prog w E t
 |.nil=>fun us A s b Q e _ h=>by rw[Vs]at e;subst e;exact aA (h b (by simp[La]))
 |.cons c r=>fun us A s b Q e hu h=>by
  rw[Vs]at e;obtain⟨a,g,rest,rfl,Z,Y,U⟩:=e;have hd:(Tr.cons c r).deep=max (c.deep+1) r.deep:=rfl;have hk:(Tr.cons c r).AI=c.AI+r.AI:=rfl;have hr:=Tr.EO r;rw[List.forIn_cons];refine Wb (Wb (QF (QO c) Z Y AC ?_));refine Wb (aA Re);refine QO r rest A _ _ Q U AC fun b' T=>?_;have R:s.toks+c.AI+(r.AI-1)=s.toks+((Tr.cons c r).AI-1):=by lia
  have:=h b' (by simp[T,La,Ba]);rw[<-R]at this;exact this
def L7(prog:F0b)(w:F0c):HeapKind prog w Tr where
 is:=fun h t a=>t.deep<8/\∃its,h.IsTuple a its.toArray/\Vs h t its
 hash:=Ba
 draws:=Tr.AI
 room:=fun A=>A.units+8<cLine
 inj:=fun⟨_,i1,a1,a2⟩ ⟨_,i2,b1,b2⟩=>by
  have:=JL a1 b1;have e:i1=i2:=by simpa using this
  subst e;exact Vs.inj a2 b2
 keeps:=fun {h h' k a d o es ep} ⟨hd,its,h1,h2⟩ ho hdt sb=>by
  have kt:∀b u,h.get? b=some u->u.cls=.type "tuple" ->(∃x n,u.data=.seq x n)->h'.get? b=some u:=fun b u e _ ⟨x,n,hx⟩=>by
   rw[sb.2 b fun z=>?_]
   .exact e
   .subst z;rw[ho]at e;cases e;rw[hdt]at hx;cases hx
  have kv:∀ {t:Tr} {us:LQ},Vs h t us->Vs h' t us:=fun {t}=>by
   induction t with
   |nil=>intro us e;rw[Vs]at e ⊢;exact e
   |cons b r ih1 ih2=>
    intro us e;rw[Vs]at e ⊢;obtain⟨a,its,rest,e1,⟨u,hu,hc,n,hx⟩,e3,e4⟩:=e;exact⟨a,its,rest,e1,⟨u,kt _ _ hu hc ⟨_,n,hx⟩,hc,n,hx⟩,ih1 e3,ih2 e4⟩
  obtain⟨u,hu,hc,n,hx⟩:=h1;exact⟨hd,its,⟨u,kt _ _ hu hc ⟨_,n,hx⟩,hc,n,hx⟩,kv h2⟩
 pyHash:=fun hr ⟨hd,its,h1,h2⟩ h=>QF (QO _) h1 h2 AC h
 eqBool:=fun {A E s x y a b Q} hr ⟨hd,its,h1,h2⟩ ⟨_,its2,k1,k2⟩ h=>OG h1 h2 k1 k2 AC prog w E Q h
 quiet:=fun⟨hd,its,h1,h2⟩ h=>quiet 8 ⟨_,its,_,rfl,h1,h2,hd⟩ h
end
end TH
namespace TH
open PySem PyProof.Rows
def BI:Option Tr->Int
 |none=>4238894112
 |some t=>Ba t
def DL:Option Tr->Nat
 |none=>1
 |some t=>t.AI
def HQ(h:Heap):Option Tr->VL->Prop
 |none,v=>v=.none
 |some t,v=>∃a,v=.ref a/\t.deep<8/\∃g,h.IsTuple a g.toArray/\Vs h t g
abbrev KE:=Option Tr×VL×VL
def Ea(x:KE):DictEntry:=⟨BI x.1,x.2.1,x.2.2⟩
theorem TF{p:Nat->Bool}{j:Nat}:∀ {n:Nat},j<n->p j=true->(∀i,i<n->p i=true->i=j)->(List.range n).filter p=[j]
 |0,h,_,_=>absurd h (av _)
 |n+1,h,T,g=>by
  rw[List.range_succ,List.filter_append];by_cases e:j=n
  .subst e;have:(List.range j).filter p=[]:=List.filter_eq_nil_iff.mpr fun i hi R=>by
    have:=bX.mp hi;have:=g i AC R
    lia
   rw[this];simp[T]
  .have hn:p n=false:=by
    cases q:p n with
    |false=>rfl
    |true=>exact absurd (g n AC q).symm e
   rw[TF (show j<n by lia) T fun i hi=>g i AC];simp[hn]
section
variable{prog:F0b}{w:F0c}{A:F0d}{E:yz}{s:SD}{d:AD}{o:Obj}{es:Array DictEntry}{ep:Nat}{xs:List KE}{k:Ki}{kv:VL}
def Ni(g:es.toList=xs.map Ea)(j:Nat):es[j]? = (xs[j]?).map Ea:=by rw[<-Array.getElem?_toList,g,(CD)]
def Sz(g:es.toList=xs.map Ea):es.size=xs.length:=by rw[<-Array.length_toList,g,(BJ)]
def Vc(Y:es.toList=xs.map Ea)(T:ST)(R:∀x∈xs,x.1≠k):placesWithHash es.size (fun i=>es[i]?.map (·.hash)) (BI k)=[]:=by
 unfold placesWithHash;refine List.filter_eq_nil_iff.mpr fun i hi g=>?_;dsimp only at g;rw[Ni Y]at g;cases q:xs[i]? with
 |none=>rw[q]at g;simp at g
 |some x=>
  rw[q]at g;have U:=aN q;have:BI x.1=BI k:=by simpa[Ea]using g
  exact R x U (T x U this)
def UC(T:es.toList=xs.map Ea)(U:ST)(hn:(xs.map M0).Nodup){j:Nat}{x:KE}(R:xs[j]? = some x)(Y:x.1=k):placesWithHash es.size (fun i=>es[i]?.map (·.hash)) (BI k)=[j]:=by
 unfold placesWithHash;have hl:j<xs.length:=(aD.mp R).1;refine TF (by rw[Sz T];exact hl) (by dsimp only;rw[Ni T,R,<-Y];simp[Ea]) fun i hi g=>?_;dsimp only at g;rw[Ni T]at g;cases q:xs[i]? with
 |none=>rw[q]at g;simp at g
 |some y=>
  rw[q]at g;have hy:=U y (aN q) (by simpa[Ea]using g);have Z:(xs.map M0)[i]? = some k:=by rw[(CD),q];show some y.1=_;rw[hy]
  have h2:(xs.map M0)[j]? = some k:=by rw[(CD),R];show some x.1=_;rw[Y]
  exact(List.getElem?_inj (aD.mp Z).1 hn).mp (Z.trans h2.symm)
def oT{Q:W1}(h:Q true s):wpAny AS A (eqBool .none .none) Q E s:=by
 unfold eqBool;rw[if_pos (by rfl)];exact Wb (bH (aA h))
def HQ.inj{h:Heap}{x y:Ki}{v:VL}(a:HQ h x v)(b:HQ h y v):x=y:=by
 cases x with
 |none=>
  cases y with
  |none=>rfl
  |some t=>
   obtain⟨_,e,_⟩:=b;rw[show v=.none from a]at e;cases e
 |some u=>
  cases y with
  |none=>
   obtain⟨_,e,_⟩:=a;rw[show v=.none from b]at e;cases e
  |some t=>
   obtain⟨a1,U,T⟩:=a;obtain⟨a2,g,R⟩:=b;rw[U]at g;cases g;obtain⟨_,i1,b1,b2⟩:=T;obtain⟨_,i2,Z,Y⟩:=R;have:i1=i2:=by simpa using JL b1 Z
   subst this;rw[Vs.inj b2 Y]
def Yn{Q:Option Nat->SD->Prop}(hu:A.units+8<cLine)(hk:HQ s.heap k kv)(ho:s.heap.get? d=some o)(hd:o.data=.dict es ep)(he:es.toList=xs.map Ea)(his:∀x∈xs,HQ s.heap x.1 x.2.1)(hn:(xs.map M0).Nodup)(U:ST) (hno:(∀x∈xs,x.1≠k)->Q none s)(Y:∀(j:Nat) (x:KE),xs[j]? = some x->x.1=k->Q (some j) s):wpAny AS A (dictFind d kv (BI k)) Q E s:=by
 unfold dictFind
 try with_reducible refine aT ?_
 refine Wb (wpAny_dictEntries ho hd ?_);cases k with
 |none=>
  have hk:kv=.none:=hk;subst hk;dsimp only;by_cases g:∃x∈xs,x.1=none
  .obtain⟨x,hm,g⟩:=g;obtain⟨j,hj⟩:=ag.mp hm;have hp:=UC (k:=none) he U hn hj g;have R:es[j]? = some ⟨BI none,.none,x.2.2⟩:=by
    rw[Ni he,hj];have h1:=his x hm;rw[g]at h1;show some (Ea x)=_;unfold Ea;rw[g,show x.2.1=Value.none from h1]
   rw[hp];rw[if_pos (by simp[R,carriedByValue])];unfold dictWalkPlain;simp only[List.forIn_cons,List.forIn_nil,R];refine Wb (Wb ?_);rw[if_pos At];refine Wb (wpAny_dictEpoch ho hd (Wb (oT (Wb (wpAny_dictEpoch ho hd ?_)))));rw[if_neg At,if_pos rfl];exact Wb (bH (aA (aA (aA (Y j x hj g)))))
  .have hp:=Vc (k:=none) he U fun x hm z=>g ⟨x,hm,z⟩;rw[hp,if_pos (by simp[carriedByValue])];unfold dictWalkPlain;simp only[List.forIn_nil];exact Wb (aA (aA (hno fun x hm z=>g ⟨x,hm,z⟩)))
 |some t=>
  obtain⟨a,rfl,T⟩:=hk;dsimp only;have hany:¬(es.any fun e=>e.key==Value.ref a&&e.hash != BI (some t))=true:=by
   intro z;rw[<-Array.any_toList,he,List.any_eq_true]at z;obtain⟨e,hm,z⟩:=z;obtain⟨x,g,rfl⟩:=aQ.mp hm;rw[(Dk)]at z;have h1:x.2.1=.ref a:=by simpa[Ea]using z.1
   have h2:=his x g;rw[h1]at h2;have h3:=h2.inj (show HQ s.heap (some t) Hf from⟨a,rfl,T⟩);have h4:=z.2;rw[Ea,h3]at h4;simp at h4
  by_cases g:∃x∈xs,x.1=some t
  .obtain⟨x,hm,g⟩:=g;obtain⟨j,hj⟩:=ag.mp hm;have hp:=UC (k:=some t) he U hn hj g;have h1:=his x hm;rw[g]at h1;obtain⟨b,hb,htb⟩:=h1;have R:es[j]? = some ⟨BI (some t),.ref b,x.2.2⟩:=by
    rw[Ni he,hj];show some (Ea x)=_;unfold Ea;rw[g,hb]
   have hst:([j].filterMap fun i=>es[i]?.map (·.key))=[.ref b]:=by simp[R]
   rw[hp,hst,if_neg (by simp[carriedByValue]),if_neg hany];by_cases Z:(([Value.ref b]:List VL)==[Value.ref a])=true<;>(first|rw[if_pos Z]|rw[if_neg Z])<;>(first|refine Wb (aA ?_)|refine Wb (wpAny_tableMayTell_quiet (knd:=L7 prog w) T (fun v hv=>⟨t,b,List.mem_singleton.mp hv,htb⟩) ?_))<;>(
    rw[if_neg At];simp only[List.forIn_cons,List.forIn_nil,R];refine Wb (Wb ?_);rw[if_pos At];refine Wb (wpAny_dictEpoch ho hd (Wb ((L7 prog w).eqBool (x:=t) (y:=t) hu htb T (Wb (wpAny_dictEpoch ho hd ?_)))));rw[if_neg At,if_pos At,if_neg At];refine Wb (bH ?_);rw[if_pos At];exact aA (aA (aA (Y j x hj g))))
  .have hp:=Vc (k:=some t) he U fun x hm z=>g ⟨x,hm,z⟩;rw[hp,if_neg (by simp[carriedByValue]),if_neg hany];rw[if_neg At];refine Wb (wpAny_tableMayTell_quiet (knd:=L7 prog w) T (fun v hv=>by cases hv) ?_);rw[if_neg At];simp only[List.forIn_nil];exact Wb (aA (aA (hno fun x hm z=>g ⟨x,hm,z⟩)))
def X2{Q:Int->SD->Prop}(Y:A.units+8<cLine)(R:HQ s.heap k kv)(h:Q (BI k) {s with toks:=s.toks+DL k}):wpAny AS A (pyHash kv) Q E s:=by
 cases k with
 |some t=>
  obtain⟨a,rfl,T⟩:=R;exact(L7 prog w).pyHash Y T h
 |none=>
  have R:kv=.none:=R;subst R;have g:s.TypeIs .none "NoneType" := rfl;unfold pyHash pyHashByItsType;have U:[Value.none].any Value.onHeap=false:=rfl;refine Wb ?_;rw[cRoomFor,if_neg (by rw[U];exact aK)];refine aA ?_;refine Wb (wpAny_specialOf g F.slot_NoneType_hash.lookup ?_);show wpAny _ _ (if(some (Value.builtin "NoneType.__hash__")==some Value.none)=true then _ else _) Q E s;rw[if_neg (by rw[beq_builtin_none];exact aK)];refine Wb (wpAny_specialOf g F.slot_NoneType_hash.lookup ?_);show wpAny _ _ (callSpecialIfBoundUnlessNone? .none "__hash__" _>>=_) Q E s;refine Wb (wpAny_callSpecialIfBoundUnlessNone?_slot g F.slot_NoneType_hash
   (aa F.slot_NoneType_hash g F.entry_NoneType_hash
    (show wpAny _ _ (do ret (<-mkInt 4238894112)) _ _ s from wpAny_ret_mkInt ?_) (F.args_NoneType_hash_1 _)))
  show wpAny _ _ (if(decide (-(2:Int)^63<=4238894112)&&decide ((4238894112:Int)<2^63))=true then _ else _) Q E _;rw[if_pos AT];exact aA h
def HS(xs:List KE)(k:Ki):Option KE:=xs.find? fun x=>decide (x.1=k)
def Oi(hn:(xs.map M0).Nodup){j:Nat}{x:KE}(g:xs[j]? = some x)(R:x.1=k):HS xs k=some x:=by
 unfold HS;cases q:xs.find? (fun x=>decide (x.1=k)) with
 |none=>exact absurd (bf R) (bh.mp q x (aN g))
 |some y=>
  have U:y.1=k:=by simpa using List.find?_some q
  obtain⟨i,hi⟩:=ag.mp (List.mem_of_find?_eq_some q);have T:(xs.map M0)[i]? = some k:=by rw[(CD),hi];show some y.1=_;rw[U]
  have Y:(xs.map M0)[j]? = some k:=by rw[(CD),g];show some x.1=_;rw[R]
  have:=(List.getElem?_inj (aD.mp T).1 hn).mp (T.trans Y.symm);subst this;rw[hi]at g;exact g
def Ld(h:∀x∈xs,x.1≠k):HS xs k=none:=bh.mpr fun x g=>by simpa using h x g
structure FO(h:Heap)(d:Addr)(xs:List KE):Prop where
 ob:∃o es ep,h.get? d=some o/\o.ExactDict/\o.data=.dict es ep/\es.toList=xs.map Ea
 ks:∀x∈xs,HQ h x.1 x.2.1
 nd:(xs.map M0).Nodup
def FO.ty(hm:FO s.heap d xs):s.TypeIs (.ref d) "dict" := let⟨o,_,_,g,R,_⟩:=hm.ob;⟨o,g,R.1⟩
def lZ{Q:Ph}(T:A.units+8<cLine)(Y:HQ s.heap k kv)(hm:FO s.heap d xs)(R:ST)(h:Q ((HS xs k).map (·.2.2)) {s with toks:=s.toks+DL k}):wpAny AS A (dictGet d kv) Q E s:=by
 obtain⟨o,es,ep,U,_,hd,he⟩:=hm.ob;unfold dictGet
 try with_reducible refine aT ?_
 refine Wb (X2 T Y (Wb (Yn (s:={s with toks:=s.toks+DL k}) T Y U hd he hm.ks hm.nd R (fun g=>?_) fun j x Z hx=>?_)))
 .rw[Ld g]at h;exact aA h
 .rw[Oi hm.nd Z hx]at h;refine Wb (wpAny_dictEntries (s:={s with toks:=s.toks+DL k}) U hd ?_);rw[Ni he j,Z];exact aA h
def qt{x:KE}{Q:yz}(T:A.in1.units+8<cLine)(U:HQ s.heap k kv)(hm:FO s.heap d xs)(g:ST)(R:HS xs k=some x)(h:Q x.2.2 {s with toks:=s.toks+DL k}):wpAny AS A (getItem (.ref d) kv) Q E s:=by
 unfold getItem
 try with_reducible refine aT ?_
 refine Wb (wpAny_sequenceKey hm.ty AT ?_);refine Wb (aj (name:=Str.ofString "__getitem__") hm.ty slot_dict_getitem (aa slot_dict_getitem hm.ty entry_dict_getitem ?_ (args_dict_getitem _ _)));show wpAny _ _ (dictGet d kv>>=_) _ _ s;refine Wb (lZ T U hm g ?_);rw[R];exact aA ⟨x.2.2,rfl,wpAny_pure h⟩
def yF{Q:yz}(T:A.in1.units+8<cLine)(U:HQ s.heap k kv)(hd:(d==sysModules)=false)(hm:FO s.heap d xs)(g:ST)(neg:Bool) (h:Q (.bool (if neg then !(HS xs k).isSome else(HS xs k).isSome)) {s with toks:=s.toks+DL k}):wpAny AS A (compareOp (if neg then .NotIn else .In) kv (.ref d)) Q E s:=by
 have key:∀ {Q:W1},Q (HS xs k).isSome {s with toks:=s.toks+DL k}->wpAny AS A (contains (.ref d) kv) Q E s:=fun {Q} h=>by
  unfold contains
  try with_reducible refine aT ?_
  refine Wb (wpAny_specialOf hm.ty slot_dict_contains.lookup ?_);show wpAny _ _ (if(some (Value.builtin "dict.__contains__")==some Value.none)=true then _ else _) _ E s;rw[if_neg (by rw[beq_builtin_none];exact aK)];refine Wb (wpAny_callSpecialUnlessNone?_slot (name:=Str.ofString "__contains__") hm.ty slot_dict_contains (aa slot_dict_contains hm.ty entry_dict_contains ?_ (args_dict_contains _ _)));show wpAny _ _ (dictGet d kv>>=_) _ _ s;refine Wb (lZ T U hm g ?_);cases R:HS xs k with
  |some p=>
   rw[R]at h;show wpAny _ _ (ret Jq) _ _ _;exact aA ⟨_,rfl,wpAny_truthy_bool h⟩
  |none=>
   rw[R]at h;show wpAny _ _ (Builtin.Dict.pendingKey? d kv>>=_) _ _ _;exact Wb (wpAny_pendingKey_other hd (aA ⟨_,rfl,wpAny_truthy_bool h⟩))
 cases neg with
 |false=>
  show wpAny _ _ (do return .bool (<-contains (.ref d) kv)) Q E s;exact Wb (key (aA h))
 |true=>
  show wpAny _ _ (do return .bool (!(<-contains (.ref d) kv))) Q E s;exact Wb (key (aA h))
def putN(k:Ki)(v:VL)(x:KE):KE:=if x.1=k then(x.1,x.2.1,v) else x
def EB(xs:List KE)(k:Ki)(kv v:VL):List KE:=if(HS xs k).isSome then xs.map (putN k v) else xs++[(k,kv,v)]
theorem R6(v:VL):∀xs:List KE,(xs.map (putN k v)).map M0=xs.map M0
 |[]=>rfl
 |x::xs=>by
  rw[(A2),(A2),(A2),R6 v xs]
  congr 1
  unfold putN;split<;>rfl
theorem O9{v:VL}:∀ {xs:List KE} {j:Nat} {x:KE},(xs.map M0).Nodup->xs[j]? = some x->x.1=k->(xs.map Ea).modify j (fun e=>{e with val:=v})=(xs.map (putN k v)).map Ea
 |[],_,_,_,h,_=>by simp at h
 |y::ys,0,x,hn,h,g=>by
  have:y=x:=by simpa using h
  subst this;rw[(A2),List.nodup_cons]at hn;rw[(A2),(A2),(A2)];have R:ys.map (putN k v)=ys:=by
   refine(ah fun z T=>?_).trans (List.map_id _);unfold putN;rw[if_neg fun e=>hn.1 (by rw[g,<-e];exact au T)]
   rfl
  rw[R];show { Ea y with val:=v}::ys.map Ea=_
  congr 1
  unfold putN;rw[if_pos g]
  rfl
 |y::ys,j+1,x,hn,h,g=>by
  have h':ys[j]? = some x:=by simpa using h
  rw[(A2),List.nodup_cons]at hn;rw[(A2),(A2),(A2)];have U:putN k v y=y:=by
   unfold putN;rw[if_neg fun e=>hn.1 (by rw[e,<-g];exact au (aN h'))]
  rw[U];show Ea y::(ys.map Ea).modify j _=_;rw[O9 hn.2 h' g]
def HQ.keep{h h':Heap}{k:Ki}{v:VL}{o:Obj}{es ep}(a:HQ h k v)(prog:F0b)(w:F0c)(T:h.get? d=some o)(hd:o.data=.dict es ep)(g:Heap.SameBut d h h'):HQ h' k v:=by
 cases k with
 |none=>exact a
 |some t=>
  obtain⟨a1,U,R⟩:=a;exact⟨a1,U,(L7 prog w).keeps R T hd g⟩
def v5{v:VL}{Q:Unit->SD->Prop}(hu:A.in1.units+8<cLine)(hk:HQ s.heap k kv)(hm:FO s.heap d xs)(hap:ST)(hz:xs.length<=sizeLine) (hQ:∀h',FO h' d (EB xs k kv v)->Heap.SameBut d s.heap h'->Q () {s with heap:=h',toks:=s.toks+DL k}):wpAny AS A (setItem (.ref d) kv v) Q E s:=by
 unfold setItem
 try with_reducible refine aT ?_
 refine Wb (wpAny_sequenceKey hm.ty AT ?_);refine Wb (aj (name:=Str.ofString "__setitem__") hm.ty slot_dict_setitem (aa slot_dict_setitem hm.ty entry_dict_setitem ?_ (args_dict_setitem _ _ _)));show wpAny _ _ (Builtin.Dict.notOrdered "__setitem__" ⟨[.ref d,kv,v],[]⟩>>=_) _ _ s;refine Wb (wpAny_notOrdered_dict hm.ty ?_);show wpAny _ _ (dictSet d kv v>>=_) _ _ s;refine Wb ?_;have fin:∀h',FO h' d (EB xs k kv v)->Heap.SameBut d s.heap h'->wpAny AS A.in1 (ret .none) (fun fin s'=>∃v,fin=.done (.ret v)/\wpAny AS A (pure ()) Q E s') E {s with heap:=h',toks:=s.toks+DL k}:=fun h' h1 h2=>aA ⟨.none,rfl,wpAny_pure (hQ h' h1 h2)⟩;obtain⟨o,es,ep,g,hc,hd,Y⟩:=hm.ob;unfold dictSet
 try with_reducible refine aT ?_
 refine Wb (X2 hu hk ?_);unfold dictSetHashed
 try with_reducible refine aT ?_
 refine Wb (Yn (s:={s with toks:=s.toks+DL k}) hu hk g hd Y hm.ks hm.nd hap (fun U=>?_) fun j x hj hx=>?_)
 .have R:EB xs k kv v=xs++[(k,kv,v)]:=by unfold EB;rw[Ld U];rfl
  rw[R]at fin;refine Wb LT
  .simp[Y,Ea]
  .rcases ay.mp T with h|h
   .exact(hm.ks y h).keep prog w g hd (aY ..)
   .rw[List.mem_singleton.mp h];exact hk.keep prog w g hd (aY ..)
  .rw[(Ep),List.nodup_append];refine⟨hm.nd,by simp,fun a ha b hb=>?_⟩;have:b=k:=by simpa using hb
   subst this;obtain⟨y,T,rfl⟩:=aQ.mp ha;exact U y T
 .have R:EB xs k kv v=xs.map (putN k v):=by unfold EB;rw[Oi hm.nd hj hx];rfl
  rw[R]at fin;refine Wb M9
  .have:=O9 (v:=v) hm.nd hj hx;rw[<-Y]at this;obtain⟨l⟩:=es
   simpa using this
  .obtain⟨z,Z,rfl⟩:=aQ.mp T;unfold putN;split<;>exact(hm.ks z Z).keep prog w g hd (aY ..)
  .rw[R6];exact hm.nd
end
end TH
namespace L2
open PySem PySem.Spec PyProof.Rows
abbrev KR:=Option Tr×V×V
def SA(q:KR)(x:TH.KE):Prop:=x.1=q.1/\RelV q.2.1 x.2.1/\RelV q.2.2 x.2.2
def dN(d:AD)(r:Ty):HO:=.ext fun h=>(d==sysModules)=false/\∃o es ep xs,h.get? d=some o/\o.ExactDict/\o.data=.dict es ep/\es.toList=xs.map TH.Ea/\PySem.Paired SA r xs
def Hi(H:Hp):Option Tr->V->Prop
 |none,v=>v=.BP
 |some t,v=>t.deep<8/\Tv H t v
def Hi.same{H H':Hp}{k:Ki}{v:V}(h:Hi H k v)(e:AL H H'):Hi H' k v:=by
 cases k with
 |none=>exact h
 |some t=>exact⟨h.1,h.2.same e⟩
structure SY(H:Hp)(d:Addr)(r:Ty)(k:Ki):Prop where
 at_:H d=some (dN d r)
 ks:∀q∈r,Hi H q.1 q.2.1
 nd:(r.map M0).Nodup
 ap:∀q∈r,TH.BI q.1=TH.BI k->q.1=k
def Lc{α T:Type}{R:α->T->Prop}{l:List α}{m:List T}(h:PySem.Paired R l m):∀x∈m,∃q∈l,R q x:=by
 induction h with
 |nil=>intro x g;cases g
 |cons a _ U=>
  intro x g;rcases aM.mp g with rfl|g
  .exact⟨_,.head _,a⟩
  .obtain⟨q,Z,Y⟩:=U x g;exact⟨q,.tail _ Z,Y⟩
def Vn{r:Ty}{xs:List TH.KE}(h:PySem.Paired SA r xs):xs.map M0=r.map M0:=by
 induction h with
 |nil=>rfl
 |cons a _ g=>rw[(A2),(A2),g,a.1]
section
variable{X:Cx}{pins:Cu}{σ:St}{H:Hp}{s:SD}{pos:Pos}
def Hi.raw(I:BY){k:Ki}{v:V}{u:VL}(h:Hi H k v)(r:RelV v u):TH.HQ s.heap k u:=by
 cases k with
 |none=>
  have h:v=.BP:=h;subst h;exact r
 |some t=>
  obtain⟨Y,a,ys,rfl,U,T⟩:=h;obtain⟨g,R,p,_⟩:=I.tuple (BK.of (K:=X.K) U);exact⟨a,r,Y,g,p,T.vs I R⟩
def Tx(I:BY){d:AD}{r:Ty}{k:Ki}(h:SY H d r k):(d==sysModules)=false/\∃xs,TH.FO s.heap d xs/\PySem.Paired SA r xs/\∀x∈xs,TH.BI x.1=TH.BI k->x.1=k:=by
 obtain⟨Y,o,es,ep,xs,g1,g2,g3,g4,g⟩:=(show EF X.prog X.w H s.heap d (dN d r) from I.A9 d _ h.at_).1;refine⟨Y,xs,⟨⟨o,es,ep,g1,g2,g3,g4⟩,fun x R=>?_,by rw[Vn g];exact h.nd⟩,g,fun x R=>?_⟩
 .obtain⟨q,U,T,Z,_⟩:=Lc g x R;rw[T];exact(h.ks q U).raw I Z
 .obtain⟨q,U,T,_⟩:=Lc g x R;rw[T];exact h.ap q U
def Sx{r:Ty}{xs:List TH.KE}(h:PySem.Paired SA r xs)(k:Ki):match r.find? L8 with
  |some q=>∃x,TH.HS xs k=some x/\RelV q.2.2 x.2.2
  |none=>TH.HS xs k=none:=by
 induction h with
 |nil=>exact rfl
 | @cons q x l m a _ g=>
  unfold TH.HS at g ⊢;rw[(P0),(P0),a.1];by_cases z:q.1=k
  .simp only[decide_eq_true z];exact⟨x,rfl,a.2.2⟩
  .simp only[decide_eq_false z];exact g
def yD:R2:=fun x y H Q=>∃d r k q,x=.ref d/\Hi H k y/\SY H d r k/\r.find? L8=some q/\Q q.2.2 H
def iB{o i:Expr}{T ty:TE}(hu:IO)(ho:PE X o T)(hi:PE X i ty)(hs:ko i):PE X (.Subscript o i pos) (fW yD T ty):=by
 intro pins s σ H Q I h;refine oY PySem.F.slot_dict_getitem.lookup hs (BX (ho pins s σ H _ I h) fun u s1 ⟨x,H1,I1,Z,q1⟩=>BX (hi pins s1 σ H1 _ I1 q1) fun iv s2 ⟨y,H2,R,Y,q2⟩=>?_);obtain⟨d,r,k,q,rfl,hk,hD,hf,q3⟩:=q2;obtain rfl:u=Value.ref d:=Z;obtain⟨hsm,xs,hm,hp,g⟩:=Tx R hD;have U:=Sx hp k;rw[hf]at U;obtain⟨x,h1,h2⟩:=U;exact⟨hm.ty,TH.qt (by show X.A.in1.units+8<cLine;rw[(OM)];lia) (hk.raw R Y) hm g h1 ⟨q.2.2,H2,R.tok _,h2,q3⟩⟩
def xr(neg:Bool):R2:=fun x y H Q=>∃d r k,y=.ref d/\Hi H k x/\SY H d r k/\Q (.bl (if neg then !(r.find? L8).isSome else(r.find? L8).isSome)) H
def qF(hu:IO)(neg:Bool):Dd X (compareOp (if neg then .NotIn else .In)) (xr neg):=by
 intro pins s σ H x y v u Q I Y U h;obtain⟨d,r,k,rfl,hk,hD,q⟩:=h;obtain rfl:u=Value.ref d:=U;obtain⟨g,xs,hm,Z,T⟩:=Tx I hD;have R:=Sx Z k;have e:(TH.HS xs k).isSome=(r.find? L8).isSome:=by
  split at R
  .rename_i q e;obtain⟨x,h1,_⟩:=R;rw[h1,e];rfl
  .rename_i e;rw[R,e];rfl
 refine TH.yF (by show X.A.in1.units+8<cLine;rw[(OM)];lia) (hk.raw I Y) g hm T neg ?_;rw[e];exact⟨.bl _,H,I.tok _,rfl,q⟩
def Fv(r:Ty)(k:Ki)(g v:V):List KR:=if(r.find? L8).isSome then r.map (fun q=>if q.1=k then(q.1,q.2.1,v) else q) else r++[(k,g,v)]
def oX{r:Ty}{xs:List TH.KE}{k:Ki}{R v:V}{T u:VL}(h:PySem.Paired SA r xs)(Y:RelV R T)(U:RelV v u):PySem.Paired SA (Fv r k R v) (TH.EB xs k T u):=by
 have g:=Sx h k;unfold Fv TH.EB;split at g
 .rename_i q e;obtain⟨x,Z,_⟩:=g;rw[Z,e];simp only[Option.isSome_some,if_true];clear e Z Y
  induction h with
  |nil=>exact .nil
  | @cons q x l m a _ ih=>
   rw[(A2),(A2)];refine .cons ?_ ih;unfold TH.putN;rw[a.1];by_cases z:q.1=k
   .rw[if_pos z,if_pos z];exact⟨rfl,a.2.1,U⟩
   .rw[if_neg z,if_neg z];exact a
 .rename_i e;rw[g,e];exact h.snoc ⟨rfl,Y,U⟩
def lA:dc:=fun o i v H Q=>∃d r k,o=.ref d/\Hi H k i/\SY H d r k/\r.length<=1000/\Q (upd H d (dN d (Fv r k i v)))
def YT(hu:IO):j5 X lA:=by
 intro pins s σ H o i v ov iv u Q I ro Y rv h;obtain⟨d,r,k,rfl,hk,hD,hl,q⟩:=h;obtain rfl:ov=Value.ref d:=ro;obtain⟨g,xs,hm,Z,T⟩:=Tx I hD;have hle:xs.length=r.length:=by have:=bM List.length (Vn Z);simpa using this
 refine TH.v5 (by show X.A.in1.units+8<cLine;rw[(OM)];lia) (hk.raw I Y) hm T (aU (by lia:xs.length<=1000) KF) fun h' R sb=>?_;obtain⟨o',es,ep,U,g2,g3,g4⟩:=R.ob;refine⟨_,I.write (x:=d) (e:=d) (o:=dN d (Fv r k i v)) (t':=s.toks+TH.DL k) (by rw[hD.at_];exact trivial) Rs (fun b w' hb e=>(sb.2 b hb).trans e) ⟨o',U⟩ ?_,q⟩;exact⟨⟨g,o',es,ep,_,U,g2,g3,g4,oX Z Y rv⟩,⟨o',U⟩,fun h1 h2 ⟨a,o,es,ep,xs,q,r⟩ k=>⟨a,o,es,ep,xs,k _ q,r⟩⟩
def si:TE:=fun _ H Q=>∀p,H p=none->Q (.ref p) (upd H p (dN p []))
def jm:PE X (.Dict [] [] pos) si:=fun pins s σ H Q I h=>by
 refine wpAny_Dict_empty ⟨.ref s.heap.objs.size,_,I.laid (a:=s.heap.objs.size) (o:=dN s.heap.objs.size []) (t':=s.toks) (fun _ _ q=>aE _ q) Ql ?_,rfl,h _ (I.A9.fresh Ql)⟩;have g:sysModules<s.heap.objs.size:=bW AT (I.mod.glob.keeps I.bk).lt;have hn:(s.heap.objs.size==sysModules)=false:=beq_eq_false_iff_ne.mpr (Ne.symm (aI g));exact⟨⟨hn,_,#[],0,[],Heap.get?_push_size _ rfl,⟨rfl,rfl,rfl⟩,rfl,rfl,.nil⟩,⟨_,Heap.get?_push_size _ rfl⟩,fun U T ⟨a,o,es,ep,xs,q,r⟩ k=>⟨a,o,es,ep,xs,k _ q,r⟩⟩
def find_key{r:Ty}{k:Ki}{q:KR}(h:r.find? L8=some q):q∈r/\q.1=k:=⟨List.mem_of_find?_eq_some h,by simpa using List.find?_some h⟩
end
section
variable{X:Cx}
def fU(hc:bi):FZ X (.builtin "sum") (fun xs H Q=>∃(p:AD) (ns:zA),xs=[.ref p]/\BK X.K H p RW/\Q (.int ns.sum) H):=by
 intro pins s σ H xs us Q I r h;obtain⟨p,ns,rfl,hq,q⟩:=h;obtain⟨u,rfl,r1⟩:=r.one;cases r1;obtain⟨U,rv,pl,hz⟩:=I.tuple hq;have hi:=intsAre_of rv;obtain⟨xs,Z⟩:=hi.allInts.items;have g:s.heap.IsTuple p (intItems xs):=Z ▸ pl
 have T:p<s.heap.objs.size:=by obtain⟨_,e,_⟩:=g;exact aF e
 have e1:ns=xs.toList.map M0:=by
  rw[<-nums_intItems,<-Z];exact(show numsOf U.toArray.toList=ns from hi.numsOf).symm
 have e2:preSum (numAt xs) xs.size=ns.sum:=by
  rw[preSum_eq,List.take_of_length_le At,e1]
 refine call_sum_walkG (wpAny_pyIter_tuple g ?_);refine⟨_,[_,p],[_],_,_,_,numAt xs,rfl,Walks.tuple (A:=X.A.in1) Nu _ p (aI T) (intItems xs),
  ⟨⟨_,Heap.get?_push_size _ rfl,rfl,rfl⟩,g.push _⟩,fun c R=>?_,(fun _ _=>intItems_at),fun h' tk Y hk=>?_⟩
 .show c<(s.heap.push _).objs.size;rw[(Ii)];rcases aM.mp R with rfl|R
  .exact bO _
  .rw[List.mem_singleton.mp R];exact bU T
 .have e3:preSum (numAt xs) (intItems xs).size=ns.sum:=by
   rw[<-e2];simp[intItems]
  rw[e3];exact⟨.int _,H,I.kept (t':=tk) (PyProof.Rows.LSm.kept_iter hk),⟨Y,rfl⟩,q⟩
end
end L2
namespace L2
open PySem PySem.Spec PyProof.Rows
def Rd.same{H H':Hp}{a:AD}{u:HO}(e:AL H H')(h:Rd H a u):Rd H' a u:=by
 rcases h with h|⟨o,h⟩
 .exact .inl (e _ _ h)
 .exact .inr ⟨o,e _ _ h⟩
def BN:Tr->List PD
 |.nil=>[]
 |.cons b r=>.tuple (BN b)::BN r
def Cq:Option Tr->PD
 |none=>.none
 |some t=>.tuple (BN t)
mutual
def Du(H:Hp):PD->V->Prop
 |.none,v=>v=.BP
 |.bool b,v=>v=.bl b
 |.int i,v=>v=.int i
 |.str x,v=>v=.str x
 |.tuple R,v=>∃a xs,v=.ref a/\H a=some Ke/\An H R xs
 |.list R,v=>∃a xs,v=.ref a/\H a=some KB/\An H R xs
 |.dict g,v=>(∃ea C:AD,g=[(.int (C:Nat),.none)]/\v=.ref ea/\H ea=some (wm ea (.ref C)))\/(∃(a:AD) (ns:List Int),g=[(.none,.list (ns.map .int))]/\v=.ref a/\Rd H a (.lst RW))\/LN H g v
def An(H:Hp):List PD->List V->Prop
 |[],xs=>xs=[]
 |d::g,xs=>∃x r,xs=x::r/\Du H d x/\An H g r
def LN(H:Hp):List (PD×PD)->V->Prop
 |[],_=>False
 |(g,R)::t,v=>g=.bool true/\R=.none/\∃a r,v=.ref a/\H a=some (dN a r)/\(r.map M0).Nodup/\HZ H t r
def HZ(H:Hp):List (PD×PD)->List KR->Prop
 |[],r=>r=[]
 |(k,d)::t,r=>∃q g,r=q::g/\k=Cq q.1/\Hi H q.1 q.2.1/\Du H d q.2.2/\HZ H t g
end
mutual
theorem Du.same{H H':Hp}(e:AL H H'):∀ {d:PD} {v:V},Du H d v->Du H' d v
 |.none,_,h=>by rw[Du]at h ⊢;exact h
 |.bool _,_,h=>by rw[Du]at h ⊢;exact h
 |.int _,_,h=>by rw[Du]at h ⊢;exact h
 |.str _,_,h=>by rw[Du]at h ⊢;exact h
 |.tuple _,_,h=>by
  rw[Du]at h ⊢;obtain⟨a,xs,R,g,T⟩:=h;exact⟨a,xs,R,e _ _ g,An.same e T⟩
 |.list _,_,h=>by
  rw[Du]at h ⊢;obtain⟨a,xs,R,g,T⟩:=h;exact⟨a,xs,R,e _ _ g,An.same e T⟩
 |.dict _,_,h=>by
  rw[Du]at h ⊢;rcases h with ⟨ea,C,R,U,g⟩|⟨a,ns,R,U,g⟩|h
  .exact .inl ⟨ea,C,R,U,e _ _ g⟩
  .exact .inr (.inl ⟨a,ns,R,U,g.same e⟩)
  .exact .inr (.inr (LN.same e h))
theorem An.same{H H':Hp}(e:AL H H'):∀ {ds:List PD} {xs:IZ},An H ds xs->An H' ds xs
 |[],_,h=>by rw[An]at h ⊢;exact h
 |_::_,_,h=>by
  rw[An]at h ⊢;obtain⟨x,r,T,R,g⟩:=h;exact⟨x,r,T,Du.same e R,An.same e g⟩
theorem LN.same{H H':Hp}(e:AL H H'):∀ {g:List (PD×PD)} {v:V},LN H g v->LN H' g v
 |[],_,h=>by rw[LN]at h;exact h.elim
 |(_,_)::_,_,h=>by
  rw[LN]at h ⊢;obtain⟨h1,Z,a,r,Y,U,T,R⟩:=h;exact⟨h1,Z,a,r,Y,e _ _ U,T,HZ.same e R⟩
theorem HZ.same{H H':Hp}(e:AL H H'):∀ {g:List (PD×PD)} {r:Ty},HZ H g r->HZ H' g r
 |[],_,h=>by rw[HZ]at h ⊢;exact h
 |(_,_)::_,_,h=>by
  rw[HZ]at h ⊢;obtain⟨q,R,h1,Z,Y,U,T⟩:=h;exact⟨q,R,h1,Z,Y.same e,Du.same e U,HZ.same e T⟩
end
mutual
theorem Du.br{K:Fg}{H:Hp}:∀ {d:PD} {v:V},d.canLay0=true->Du H d v->Br K H d v
 |.none,_,_,h=>by rw[Du]at h;rw[Br];exact h
 |.bool _,_,_,h=>by rw[Du]at h;rw[Br];exact h
 |.int _,_,_,h=>by rw[Du]at h;rw[Br];exact h
 |.str _,_,_,h=>by rw[Du]at h;rw[Br];exact h
 |.tuple _,_,c,h=>by
  rw[Du]at h;rw[Br];obtain⟨a,xs,T,R,g⟩:=h;exact⟨a,xs,T,BK.of R,An.br (by simp only[PyData.canLay0,Bool.and_eq_true]at c;first|exact c|exact c.2|exact c.1) g⟩
 |.list _,_,c,h=>by
  rw[Du]at h;rw[Br];obtain⟨a,xs,T,R,g⟩:=h;exact⟨a,xs,T,Aw.of R,An.br (by simp only[PyData.canLay0,Bool.and_eq_true]at c;first|exact c|exact c.2|exact c.1) g⟩
 |.dict _,_,c,h=>by simp[PyData.canLay0]at c
theorem An.br{K:Fg}{H:Hp}:∀ {ds:List PD} {xs:IZ},PyData.canLayAll0 ds=true->An H ds xs->Hu K H ds xs
 |[],_,_,h=>by rw[An]at h;rw[Hu];exact h
 |_::_,_,c,h=>by
  rw[An]at h;rw[Hu];obtain⟨x,r,T,R,g⟩:=h;simp only[PyData.canLayAll0,Bool.and_eq_true]at c;exact⟨x,r,T,Du.br c.1 R,An.br c.2 g⟩
end
def An.nil{H:Hp}:An H [] []:=by rw[An]
def An.cons{H:Hp}{d:PD}{ds:yx}{x:V}{xs:zJ}(h:Du H d x)(k:An H ds xs):An H (d::ds) (x::xs):=by rw[An];exact⟨x,xs,rfl,h,k⟩
def An.un{H:Hp}{d:PD}{ds:yx}{xs:zJ}(h:An H (d::ds) xs):∃x r,xs=x::r/\Du H d x/\An H ds r:=by rw[An]at h;exact h
def An.nil_eq{H:Hp}{xs:zJ}(h:An H [] xs):xs=[]:=by rw[An]at h;exact h
def An.len{H:Hp}:∀ {ds:List PD} {xs:IZ},An H ds xs->xs.length=ds.length
 |[],_,h=>by rw[h.nil_eq];rfl
 |_::_,_,h=>by obtain⟨x,r,rfl,_,g⟩:=h.un;simp[g.len]
def An.get{H:Hp}:∀ {ds:List PD} {xs:IZ} {i:Nat} {d:PD},An H ds xs->ds[i]? = some d->∃v,xs[i]? = some v/\Du H d v
 |[],_,i,_,_,e=>by simp at e
 |_::_,_,0,_,h,e=>by
  obtain⟨x,r,rfl,U,_⟩:=h.un;simp at e;subst e;exact⟨x,rfl,U⟩
 |_::_,_,i+1,_,h,e=>by
  obtain⟨x,r,rfl,_,T⟩:=h.un;obtain⟨v,R,g⟩:=T.get (i:=i) (by simpa using e);exact⟨v,by simpa using R,g⟩
def An.back{H:Hp}{ds:yx}{xs:zJ}{i:Nat}{v:V}(h:An H ds xs)(e:xs[i]? = some v):∃d,ds[i]? = some d/\Du H d v:=by
 have T:=h.len;have hi:i<ds.length:=by rw[<-T];exact(aD.mp e).1
 have hd:ds[i]? = some ds[i]:=by simp[hi]
 obtain⟨w,g,R⟩:=h.get hd;rw[e]at g;cases g;exact⟨_,hd,R⟩
def An.app{H:Hp}:∀ {ds es:List PD} {xs ys:IZ},An H ds xs->An H es ys->An H (ds++es) (xs++ys)
 |[],_,_,_,h,k=>by rw[h.nil_eq];exact k
 |_::_,_,_,_,h,k=>by obtain⟨x,r,rfl,R,g⟩:=h.un;exact .cons R (g.app k)
def An.take{H:Hp}:∀ {ds:List PD} {xs:IZ} (i:Nat),An H ds xs->An H (ds.take i) (xs.take i)
 |_,_,0,_=>by rw[List.take_zero,List.take_zero];exact .nil
 |[],_,i+1,h=>by rw[h.nil_eq];exact .nil
 |_::_,_,i+1,h=>by obtain⟨x,r,rfl,R,g⟩:=h.un;exact .cons R (g.take i)
def An.drop{H:Hp}:∀ {ds:List PD} {xs:IZ} (i:Nat),An H ds xs->An H (ds.drop i) (xs.drop i)
 |_,_,0,h=>h
 |[],_,i+1,h=>by rw[h.nil_eq];exact .nil
 |_::_,_,i+1,h=>by obtain⟨x,r,rfl,R,g⟩:=h.un;exact g.drop i
def An.rev{H:Hp}:∀ {ds:List PD} {xs:IZ},An H ds xs->An H ds.reverse xs.reverse
 |[],_,h=>by rw[h.nil_eq];exact .nil
 |_::_,_,h=>by
  obtain⟨x,r,rfl,R,g⟩:=h.un;rw[List.reverse_cons,List.reverse_cons];exact g.rev.app (.cons R .nil)
inductive Oc where
 |lst (xs:List PyData)|la (kvs:List (List Key×PyData))|GZ (kvs:List (Option Tr×PyData))
inductive L where
 |no|d (x:PyData)|own (c:Oc)
abbrev Dv:=List L
abbrev yt:=Dv->Option (List PD)
abbrev yu:=Dv->Option PD
abbrev yw:=Dv->Option Bool
def Uc(G:Hp):List (List Key×PD)->List (List Key×V)->Prop
 |[],r=>r=[]
 |q::t,r=>∃v g,r=(q.1,v)::g/\Du G q.2 v/\Uc G t g
theorem Uc.same{G g:Hp}(e:AL G g):∀ {t:List (List Key×PD)} {r:List (List Key×V)},Uc G t r->Uc g t r
 |[],r,h=>h
 |q::t,r,h=>by
  obtain⟨v,R,rfl,U,T⟩:=h;exact⟨v,R,rfl,U.same e,Uc.same e T⟩
abbrev KS(kvs:List (Option Tr×PD)):List (PD×PD):=kvs.map fun q=>(Cq q.1,q.2)
abbrev Bh(kvs:List (Option Tr×PD)):PD:=.dict ((.bool true,.none)::KS kvs)
def Kw(G:Hp)(a:AD):Oc->HO->Prop
 |.lst xs,o=>∃ys,o=.lst ys/\An G xs ys
 |.la kvs,o=>∃r,o=.dT r/\Uc G kvs r
 |.GZ kvs,o=>∃r,o=dN a r/\(r.map M0).Nodup/\HZ G (KS kvs) r
def Kw.same{G T:Hp}{a:AD}{c:Oc}{o:HO}(h:Kw G a c o)(e:AL G T):Kw T a c o:=by
 cases c with
 |GZ kvs=>obtain⟨r,R,g,U⟩:=h;exact⟨r,R,g,HZ.same e U⟩
 |lst xs=>obtain⟨ys,R,g⟩:=h;exact⟨ys,R,g.same e⟩
 |la kvs=>obtain⟨ys,R,g⟩:=h;exact⟨ys,R,g.same e⟩
def Kw.XM{G:Hp}{a:AD}{c:Oc}{xs:zJ}(h:Kw G a c Ke):False:=by
 cases c with
 |GZ kvs=>obtain⟨r,g,R,T⟩:=h;unfold dN at g;cases g
 |lst xs=>obtain⟨ys,g,R⟩:=h;cases g
 |la kvs=>obtain⟨ys,g,R⟩:=h;cases g
def Nw(G0 H0 G:Hp):Prop:=∀a o,G a=some o->G0 a=some o\/H0 a=none\/∃xs,o=HO.tup xs
structure Rw(G0 H0 G H:Hp)(σ:St)(δ:Dv)(ts:List (PyData×V)):Prop where
 ext:AL G0 G
 new:Nw G0 H0 G
 ins:AL G H
 keep:AL H0 H
 len:σ.length=δ.length
 dat:∀(i:Nat) (x:PyData),δ[i]? = some (L.d x)->∃v,σ[i]? = some (some v)/\Du G x v
 own:∀(i:Nat) (xs:Oc),δ[i]? = some (L.own xs)->∃(a:Addr) (ys:HO),σ[i]? = some (some (V.ref a))/\G a=none/\H0 a=none/\H a=some ys/\Kw G a xs ys
 apart:∀(i j:Nat) (xs ys:Oc),i≠j->δ[i]? = some (L.own xs)->δ[j]? = some (L.own ys)->σ[i]?≠σ[j]?
 B5:∀p∈ts,Du G p.1 p.2
def DE(X:Cx)(e:Expr)(f:yu):Prop:=∃t,PE X e t/\∀δ x,f δ=some x->∀G0 H0 G H σ ts (Q:VK),Rw G0 H0 G H σ δ ts->(∀v g H',Rw G0 H0 g H' σ δ ((x,v)::ts)->Q v H')->t σ H Q
def DA(X:Cx)(es:zD)(f:yt):Prop:=∃t,PA X es t/\∀δ xs,f δ=some xs->∀G0 H0 G H σ ts (Q:List V->Hp->Prop),Rw G0 H0 G H σ δ ts->(∀vs g H',Rw G0 H0 g H' σ δ (xs.zip vs++ts)->vs.length=xs.length->Q vs H')->t σ H Q
def DT(X:Cx)(e:Expr)(f:yw):Prop:=∃t,PT X e t/\∀δ b,f δ=some b->∀G0 H0 G H σ ts (Q:Bool->Hp->Prop),Rw G0 H0 G H σ δ ts->(∀g H',Rw G0 H0 g H' σ δ ts->Q b H')->t σ H Q
section
variable{G0 H0 G H:Hp}{σ:St}{δ:Dv}{ts:Qi}
def Rw.drop{p:PD×V}(r:Rw G0 H0 G H σ δ (p::ts)):Rw G0 H0 G H σ δ ts:={r with B5:=fun q g=>r.B5 q (.tail _ g)}
def Rw.less{us:Qi}(r:GM)(h:∀p∈us,p∈ts):Rw G0 H0 G H σ δ us:={r with B5:=fun q g=>r.B5 q (h q g)}
def Rw.put{x:PD}{v:V}(r:GM)(h:Du G x v):Rw G0 H0 G H σ δ ((x,v)::ts):={r with B5:=fun q g=>by rcases aM.mp g with rfl|g;exact h;exact r.B5 q g}
def Rw.newObj{p:AD}{o:HO}(r:GM)(g:H p=none):Rw G0 H0 (upd G p o) (upd H p o) σ δ ts:=by
 have hG:G p=none:=by
  cases q:G p with
  |none=>rfl
  |some u=>rw[r.ins _ _ q]at g;cases g
 have h0:H0 p=none:=by
  cases q:H0 p with
  |none=>rfl
  |some u=>rw[r.keep _ _ q]at g;cases g
 have e:AL G (upd G p o):=Ag hG o;refine⟨r.ext.trans e,fun a u h=>?_,fun a u h=>?_,r.keep.trans (Ag g o),r.len,fun i x h=>?_,fun i xs h=>?_,r.apart,fun q hq=>(r.B5 q hq).same e⟩
 .by_cases ha:a=p
  .subst ha;exact .inr (.inl h0)
  .rw[AN ha]at h;exact r.new _ _ h
 .by_cases ha:a=p
  .subst ha;rw[AR]at h ⊢;exact h
  .rw[AN ha]at h ⊢;exact r.ins _ _ h
 .obtain⟨v,T,R⟩:=r.dat i x h;exact⟨v,T,R.same e⟩
 .obtain⟨a,ys,T,R,Z,U,Y⟩:=r.own i xs h;have ha:a≠p:=fun z=>by subst z;rw[U]at g;cases g
  exact⟨a,ys,T,by rw[AN ha];exact R,Z,by rw[AN ha];exact U,Y.same e⟩
def Rw.sU{p:AD}{xs:zJ}{H':Hp}(r:GM)(e:AL H H')(g:H' p=some Ke):Rw G0 H0 (upd G p Ke) H' σ δ ts:=by
 have R:AL G (upd G p Ke):=fun a o h=>by
  by_cases ha:a=p
  .subst ha;have:=e _ _ (r.ins _ _ h);rw[g]at this;rw[AR];exact this
  .rw[AN ha];exact h
 refine⟨r.ext.trans R,fun a u h=>?_,fun a u h=>?_,r.keep.trans e,r.len,fun i x h=>?_,fun i xs h=>?_,r.apart,fun q hq=>(r.B5 q hq).same R⟩
 .by_cases ha:a=p
  .subst ha;rw[AR]at h;cases h;exact .inr (.inr ⟨_,rfl⟩)
  .rw[AN ha]at h;exact r.new _ _ h
 .by_cases ha:a=p
  .subst ha;rw[AR]at h;rw[g];exact h
  .rw[AN ha]at h;exact e _ _ (r.ins _ _ h)
 .obtain⟨v,U,T⟩:=r.dat i x h;exact⟨v,U,T.same R⟩
 .obtain⟨a,ys,U,T,k3,Z,Y⟩:=r.own i xs h;have ha:a≠p:=fun z=>by subst z;rw[e _ _ Z]at g;cases g;exact Y.XM
  exact⟨a,ys,U,by rw[AN ha];exact T,k3,e _ _ Z,Y.same R⟩
def Rw.lift{g H':Hp}(r:GM)(R:AL G g)(h2:Nw G H g)(h3:AL g H')(Z:AL H H'):Rw G0 H0 g H' σ δ ts:=by
 refine⟨r.ext.trans R,fun a o h=>?_,h3,r.keep.trans Z,r.len,fun i x h=>?_,fun i xs h=>?_,r.apart,fun q hq=>(r.B5 q hq).same R⟩
 .rcases h2 a o h with k|k|k
  .exact r.new a o k
  .right;left
   cases q:H0 a with
   |none=>rfl
   |some u=>rw[r.keep _ _ q]at k;cases k
  .exact .inr (.inr k)
 .obtain⟨v,Y,U⟩:=r.dat i x h;exact⟨v,Y,U.same R⟩
 .obtain⟨a,ys,Y,U,k3,T,k5⟩:=r.own i xs h;refine⟨a,ys,Y,?_,k3,Z _ _ T,k5.same R⟩;cases q:g a with
  |none=>rfl
  |some u=>
   rcases h2 a u q with z|z|⟨xs',z⟩
   .rw[U]at z;cases z
   .rw[T]at z;cases z
   .have:=h3 _ _ q;rw[Z _ _ T,z]at this;cases this;exact k5.XM.elim
end
section
variable{X:Cx}{a b e:Expr}{f g h:yu}{pos:Pos}
def AJ{i j pos}:DE X (.Constant (.int i) j pos) (fun _=>some (.int i)):=⟨_,Au,fun δ x h G0 H0 G H σ ts Q r k=>by cases h;exact k _ _ _ (r.put L1)⟩
def F6{i j pos}:DE X (.Constant (.bool i) j pos) (fun _=>some (.bool i)):=⟨_,ux,fun δ x h G0 H0 G H σ ts Q r k=>by cases h;exact k _ _ _ (r.put L1)⟩
def Lp{j pos}:DE X (.Constant .none j pos) (fun _=>some .none):=⟨_,rF,fun δ x h G0 H0 G H σ ts Q r k=>by cases h;exact k _ _ _ (r.put L1)⟩
def Pt{i j pos}:DE X (.Constant (.str i) j pos) (fun _=>some (.str i)):=⟨_,qC,fun δ x h G0 H0 G H σ ts Q r k=>by cases h;exact k _ _ _ (r.put L1)⟩
def nm(i:Nat)(δ:Dv):y7:=match δ[i]? with|some (.d x)=>some x|_=>none
def eu{i:Nat}{δ:Dv}{x:PD}(h:nm i δ=some x):δ[i]? = some (.d x):=by
 unfold nm at h;split at h
 .rename_i y e;cases h;exact e
 .cases h
def AE{i:Nat}{x:Str}(h:PE X (.Name x pos) (P6 i)):DE X (.Name x pos) (nm i):=⟨_,h,fun δ y R G0 H0 G H σ ts Q r k=>by
 obtain⟨v,U,T⟩:=r.dat _ _ (eu R);exact⟨v,U,k _ _ _ (r.put T)⟩⟩
def Ai(o:ce)(f g:yu)(δ:Dv):y7:=(f δ).bind fun x=>(g δ).bind fun y=>o x y
def Fb(X:Cx)(m:VL->VL->Sem VL)(o:ce):Prop:=∃r:R2,Dd X m r/\∀x y z,o x y=some z->∀G0 H0 G H σ δ ts u v (Q:VK),Rw G0 H0 G H σ δ ts->Du G x u->Du G y v->(∀w R H',Rw G0 H0 R H' σ δ ((z,w)::ts)->Q w H')->r u v H Q
def two{x y:PD}{f g:yu}{δ:Dv}{o:ce}{z:PD}(h:Ai o f g δ=some z):∃x y,f δ=some x/\g δ=some y/\o x y=some z:=by
 unfold Ai at h;obtain⟨x,Y,U⟩:=aB.mp h;obtain⟨y,T,R⟩:=aB.mp U;exact⟨x,y,Y,T,R⟩
def A3{op:Operator}{o:ce}(ho:Fb X (binaryOp op) o)(ha:DE X a f)(hb:DE X b g):DE X (.BinOp a op b pos) (Ai o f g):=by
 obtain⟨r,hr,U⟩:=ho;obtain⟨ta,T,Z⟩:=ha;obtain⟨tb,R,Y⟩:=hb;refine⟨_,BW hr T R,fun δ z hz G0 H0 G H σ ts Q R0 k=>?_⟩;obtain⟨x,y,h1,h2,h3⟩:=two (x:=.none) (y:=.none) hz;refine Z δ x h1 G0 H0 G H σ ts _ R0 fun u G1 H1 R1=>?_;refine Y δ y h2 G0 H0 G1 H1 σ _ _ R1 fun v G2 H2 R2=>?_;exact U x y z h3 G0 H0 G2 H2 σ δ ts u v Q (R2.drop.drop) (R2.B5 (x,u) (.tail _ Fa)) (R2.B5 (y,v) Fa) k
def Tz{op:CmpOp}{o:ce}(ho:Fb X (compareOp op) o)(ha:DE X a f)(hb:DE X b g)(hm:behindInMarks op b=false):DE X (.Compare a [op] [b] pos) (Ai o f g):=by
 obtain⟨r,hr,U⟩:=ho;obtain⟨ta,T,Z⟩:=ha;obtain⟨tb,R,Y⟩:=hb;refine⟨_,oM hr T R hm,fun δ z hz G0 H0 G H σ ts Q R0 k=>?_⟩;obtain⟨x,y,h1,h2,h3⟩:=two (x:=.none) (y:=.none) hz;refine Z δ x h1 G0 H0 G H σ ts _ R0 fun u G1 H1 R1=>?_;refine Y δ y h2 G0 H0 G1 H1 σ _ _ R1 fun v G2 H2 R2=>?_;exact U x y z h3 G0 H0 G2 H2 σ δ ts u v Q (R2.drop.drop) (R2.B5 (x,u) (.tail _ Fa)) (R2.B5 (y,v) Fa) k
end
section
variable{X:Cx}
def Vk(o o':ce)(x y:PD):y7:=match o x y with|some z=>some z|none=>o' x y
def Fb.or{m:VL->VL->Sem VL}{o o':ce}(h:Fb X m o)(h':Fb X m o'):Fb X m (Vk o o'):=by
 obtain⟨r,hr,kr⟩:=h;obtain⟨r',T,R⟩:=h';refine⟨_,Dd.or hr T,fun x y z g G0 H0 G H σ δ ts u v Q Z Y U k=>?_⟩;unfold Vk at g;split at g
 .rename_i z' e;cases g;exact .inl (kr x y z e G0 H0 G H σ δ ts u v Q Z Y U k)
 .exact .inr (R x y z g G0 H0 G H σ δ ts u v Q Z Y U k)
def VM{m:VL->VL->Sem VL}{C:Int->Int->Prop}{R:Int->Int->V}{o:Int->Int->Option PD}(Y:Dd X m (rI C R))(Z:∀i j z,o i j=some z->C i j/\∀H,Du H z (R i j)) :
  Fb X m (fun x y=>match x,y with|.int i,.int j=>o i j|_,_=>none):=by
 refine⟨_,Y,fun x y z g G0 H0 G H σ δ ts u v Q R0 U T k=>?_⟩;dsimp only at g;split at g
 .rename_i i j;rw[Du]at U T;obtain⟨h1,h2⟩:=Z i j z g;exact⟨i,j,U,T,h1,k _ _ _ (R0.put (h2 _))⟩
 .cases g
def MN{m:VL->VL->Sem VL}{R:Int->Int->V}{o:Int->Int->PD}(Y:Dd X m (WL R))(Z:∀i j H,Du H (o i j) (R i j)) :
  Fb X m (fun x y=>match x,y with|.int i,.int j=>some (o i j)|_,_=>none):=by
 refine⟨_,Y,fun x y z g G0 H0 G H σ δ ts u v Q R0 U T k=>?_⟩;dsimp only at g;split at g
 .rename_i i j;cases g;rw[Du]at U T;exact⟨i,j,U,T,k _ _ _ (R0.put (Z _ _ _))⟩
 .cases g
def D0:Nat:=1000
def Uv{n:Nat}(h:n<=D0):n<sizeLine:=Vw h
def Hn{n:Nat}(h:n<=D0):n<=sizeLine:=bD (Vw h)
def p0:PD->PD->Option PD:=fun x y=>match x,y with|.int i,.int j=>some (.int (i+j))|_,_=>none
def YW:PD->PD->Option PD:=fun x y=>match x,y with|.int i,.int j=>some (.int (i-j))|_,_=>none
def NO(n:Nat)(i:Int):Bool:=decide (i.natAbs<2^n)
def Ox(i j:Int):Bool:=NO 64 i||NO 64 j||(NO 9000 i&&NO 9000 j)
def dH:PD->PD->Option PD:=fun x y=>match x,y with|.int i,.int j=>(if Ox i j=true then some (.int (i*j)) else none)|_,_=>none
def Ih:PD->PD->Option PD:=fun x y=>match x,y with|.int i,.int j=>(if j≠0 then some (.int (i.fmod j)) else none)|_,_=>none
def Px:PD->PD->Option PD:=fun x y=>match x,y with|.int i,.int j=>(if 0<=j/\j<=1000/\NO 64 i=true then some (.int (i^j.toNat)) else none)|_,_=>none
def nq:Fb X (binaryOp .Add) p0:=MN Qo fun _ _ _=>by rw[Du]
def Q5:Fb X (binaryOp .Sub) YW:=MN XT fun _ _ _=>by rw[Du]
def lS{i:Int}(h:NO 64 i=true):-(2^64)<i/\i<2^64:=by
 have:=aP h
 lia
def nI:Fb X (binaryOp .Mult) dH:=VM (o:=fun i j=>if Ox i j=true then some (.int (i*j)) else none) HA fun i j z h=>by
 split at h
 .rename_i q;cases h;refine⟨?_,fun _=>by rw[Du]⟩;unfold Ox at q;rw[Bool.or_eq_true,Bool.or_eq_true,(Dk)]at q;rcases q with (q|q)|q
  .exact .inl (.inl (lS q))
  .exact .inl (.inr (lS q))
  .exact .inr ⟨9000,by decide,of_decide_eq_true q.1,of_decide_eq_true q.2⟩
 .cases h
def GU:Fb X (binaryOp .Mod) Ih:=VM (o:=fun i j=>if j≠0 then some (.int (i.fmod j)) else none) Nf fun i j z h=>by
 split at h
 .rename_i q;cases h;exact⟨q,fun _=>by rw[Du]⟩
 .cases h
def Ue:Fb X (binaryOp .Pow) Px:=VM (o:=fun i j=>if 0<=j/\j<=1000/\NO 64 i=true then some (.int (i^j.toNat)) else none) p6 fun i j z h=>by
 split at h
 .rename_i q;cases h;exact⟨⟨q.1,by lia,of_decide_eq_true q.2.2⟩,fun _=>by rw[Du]⟩
 .cases h
def Hj(p:Int->Int->Bool):PD->PD->Option PD:=fun x y=>match x,y with|.int i,.int j=>some (.bool (p i j))|_,_=>none
def Wt:Fb X (compareOp .Lt) (Hj fun i j=>decide (i<j)):=MN (o:=fun i j=>.bool (decide (i<j))) dY fun _ _ _=>by rw[Du]
def TU:Fb X (compareOp .Gt) (Hj fun i j=>decide (j<i)):=MN (o:=fun i j=>.bool (decide (j<i))) UQ fun _ _ _=>by rw[Du]
def mG:Fb X (compareOp .GtE) (Hj fun i j=>decide (j<=i)):=MN (o:=fun i j=>.bool (decide (j<=i))) vU fun _ _ _=>by rw[Du]
def j8:PD->PD->Option PD:=fun x y=>match x,y with|.list a,.list b=>(if a.length+b.length<=D0 then some (.list (a++b)) else none)|_,_=>none
def oG:Fb X (binaryOp .Add) j8:=by
 refine⟨_,jC,fun x y z g G0 H0 G H σ δ ts u v Q T du Z k=>?_⟩;unfold j8 at g;split at g
 .rename_i a b;split at g
  .rename_i hl;cases g;rw[Du]at du Z;obtain⟨p,xs,rfl,h1,Y⟩:=du;obtain⟨q,ys,rfl,h3,U⟩:=Z;refine⟨p,q,xs,ys,rfl,rfl,T.ins _ _ h1,T.ins _ _ h3,Hn (by rw[Y.len,U.len];exact hl),fun l R=>?_⟩;have R1:=T.newObj (o:=.lst (xs++ys)) R;refine k _ _ _ (R1.put ?_);rw[Du];have e:AL G (upd G l (.lst (xs++ys))):=fun a o h=>by
    have:=T.ins _ _ h;rw[AN (Am this R)];exact h
   exact⟨l,xs++ys,rfl,AR,(Y.same e).app (U.same e)⟩
  .cases g
 .cases g
def eE:PD->PD->Option PD:=fun x y=>match x,y with|.tuple a,.tuple b=>(if a.length+b.length<=D0 then some (.tuple (a++b)) else none)|_,_=>none
def nK:Fb X (binaryOp .Add) eE:=by
 refine⟨_,oA,fun x y z g G0 H0 G H σ δ ts u v Q R du dv k=>?_⟩;unfold eE at g;split at g
 .rename_i a b;split at g
  .rename_i hl;cases g;rw[Du]at du dv;obtain⟨p,xs,rfl,h1,Y⟩:=du;obtain⟨q,ys,rfl,h3,U⟩:=dv;refine⟨p,q,xs,ys,rfl,rfl,R.ins _ _ h1,R.ins _ _ h3,Hn (by rw[Y.len,U.len];exact hl),fun l H' e T=>?_⟩;have R1:=R.sU e T;refine k _ _ _ (R1.put ?_);rw[Du];have Z:AL G (upd G l (.tup (xs++ys))):=fun a o h=>by
    by_cases ha:a=l
    .subst ha;have:=e _ _ (R.ins _ _ h);rw[T]at this;rw[AR];exact this
    .rw[AN ha];exact h
   exact⟨l,xs++ys,rfl,AR,(Y.same Z).app (U.same Z)⟩
  .cases g
 .cases g
def kd:PD->PD->Option PD:=fun x y=>match x,y with|.str a,.str b=>(if a.length+b.length<=D0 then some (.str (a++b)) else none)|_,_=>none
def oz:Fb X (binaryOp .Add) kd:=by
 refine⟨_,eg,fun x y z g G0 H0 G H σ δ ts u v Q Y T R k=>?_⟩;unfold kd at g;split at g
 .rename_i a b;split at g
  .rename_i U;cases g;rw[Du]at T R;exact⟨a,b,T,R,Hn U,k _ _ _ (Y.put L1)⟩
  .cases g
 .cases g
def Ek:PD->PD->Option PD:=Vk p0 (Vk j8 (Vk eE kd))
def Ck:Fb X (binaryOp .Add) Ek:=nq.or (oG.or (nK.or oz))
def dS:PD->PD->Option PD:=fun x y=>match x,y with|.list a,.int k=>(if a.length*k.toNat<=D0/\-1000000<=k/\k<=1000000 then some (.list (List.replicate k.toNat a).flatten) else none)|_,_=>none
def An.rep{H:Hp}{ds:List PD}{xs:IZ}(h:An H ds xs):∀n,An H (List.replicate n ds).flatten (List.replicate n xs).flatten
 |0=>.nil
 |n+1=>by rw[(SN),(SN),(U7),(U7)];exact h.app (h.rep n)
def oa:Fb X (binaryOp .Mult) dS:=by
 refine⟨_,iq,fun x y z g G0 H0 G H σ δ ts u v Q T Z Y k=>?_⟩;unfold dS at g;split at g
 .rename_i a n;split at g
  .rename_i hl;cases g;rw[Du]at Z;rw[Du]at Y;obtain⟨p,xs,rfl,h1,U⟩:=Z;subst Y;refine⟨p,n,xs,rfl,rfl,T.ins _ _ h1,by lia,by lia,Hn (by rw[U.len];exact hl.1),fun l R=>?_⟩;have R1:=T.newObj (o:=.lst (List.replicate n.toNat xs).flatten) R;refine k _ _ _ (R1.put ?_);rw[Du];have e:AL G (upd G l (.lst (List.replicate n.toNat xs).flatten)):=fun a o h=>by
    have:=T.ins _ _ h;rw[AN (Am this R)];exact h
   exact⟨l,_,rfl,AR,(U.same e).rep _⟩
  .cases g
 .cases g
def Gg:PD->PD->Option PD:=Vk dH dS
def Fq:Fb X (binaryOp .Mult) Gg:=nI.or oa
def Ve{d:PD}(h:SeqAt.shaped d=true):d.canLay0=true:=by unfold SeqAt.shaped at h;rw[(Dk)]at h;exact h.1
def EU(neg:Bool):PD->PD->Option PD:=fun x y=>if SeqAt.shaped x=true/\SeqAt.shaped y=true then some (.bool (if neg then !PyData.eqv x y else PyData.eqv x y)) else none
def gr{m:VL->VL->Sem VL}{neg:Bool}(U:Dd X m (ky X.K neg)):Fb X m (EU neg):=by
 refine⟨_,U,fun x y z g G0 H0 G H σ δ ts u v Q T Z Y k=>?_⟩;unfold EU at g;split at g
 .rename_i R;cases g;exact⟨x,y,(Z.same T.ins).br (Ve R.1),(Y.same T.ins).br (Ve R.2),R.1,R.2,k _ _ _ (T.put L1)⟩
 .cases g
def KQ(g:IO):Fb X (compareOp .Eq) (EU false):=gr (qd g)
def Mp(g:IO):Fb X (compareOp .NotEq) (EU true):=gr (qP g)
def PyData.kC:PD->Bool
 |.none=>true
 |_=>false
def ir{H:Hp}:∀ {x:PD} {u:V},Du H x u->decide (u=.BP)=PyData.kC x
 |.none,u,h=>by rw[Du]at h;subst h;rfl
 |.bool _,u,h=>by rw[Du]at h;subst h;rfl
 |.int _,u,h=>by rw[Du]at h;subst h;rfl
 |.str _,u,h=>by rw[Du]at h;subst h;rfl
 |.tuple _,u,h=>by rw[Du]at h;obtain⟨a,xs,rfl,_⟩:=h;rfl
 |.list _,u,h=>by rw[Du]at h;obtain⟨a,xs,rfl,_⟩:=h;rfl
 |.dict [],u,h=>by rw[Du,LN]at h;rcases h with ⟨ea,C,_,rfl,_⟩|⟨a,ns,_,rfl,_⟩|h;rfl;rfl;exact h.elim
 |.dict ((_,_)::_),u,h=>by rw[Du,LN]at h;rcases h with ⟨ea,C,_,rfl,_⟩|⟨a,ns,_,rfl,_⟩|⟨_,_,a,r,rfl,_⟩<;>rfl
def WG(neg:Bool):PD->PD->Option PD:=fun x y=>match y with
 |.none=>some (.bool (if neg then !PyData.kC x else PyData.kC x))
 |_=>none
def mR:Fb X (compareOp .Is) (WG false):=by
 refine⟨_,uF,fun x y z g G0 H0 G H σ δ ts u v Q U T R k=>?_⟩;unfold WG at g;split at g
 .cases g;rw[Du]at R;refine⟨R,?_⟩;rw[ir T];exact k _ _ _ (U.put (by rw[Du];rfl))
 .cases g
def j4:Fb X (compareOp .IsNot) (WG true):=by
 refine⟨_,nQ,fun x y z g G0 H0 G H σ δ ts u v Q U T R k=>?_⟩;unfold WG at g;split at g
 .cases g;rw[Du]at R;refine⟨R,?_⟩;rw[ir T];exact k _ _ _ (U.put (by rw[Du];rfl))
 .cases g
end
section
variable{X:Cx}{a b c e:Expr}{es:zD}{f g h:yu}{pos p:Pos}
def Ny:PD->Option Bool
 |.bool b=>some b
 |_=>none
def Zz:PD->Option Int
 |.int b=>some b
 |_=>none
def Pu{x:PD}{b:Bool}(h:Ny x=some b):x=.bool b:=by
 unfold Ny at h;split at h
 .cases h;rfl
 .cases h
def iO{x:PD}{b:Int}(h:Zz x=some b):x=.int b:=by
 unfold Zz at h;split at h
 .cases h;rfl
 .cases h
def QS(ha:DE X a f):DE X (.UnaryOp .USub a pos) (fun δ=>(f δ).bind fun x=>(Zz x).map fun i=>.int (-i)):=by
 obtain⟨ta,T,U⟩:=ha;refine⟨_,ec Yj T,fun δ z Y G0 H0 G H σ ts Q R0 k=>?_⟩;obtain⟨x,h1,h2⟩:=aB.mp Y;obtain⟨i,Z,rfl⟩:=aC.mp h2;have:=iO Z;subst this;refine U δ _ h1 G0 H0 G H σ ts _ R0 fun u G1 H1 R=>?_;have:=R.B5 _ Fa;rw[Du]at this;exact⟨i,this,k _ _ _ (R.drop.put L1)⟩
def rp(ha:DE X a f):DE X (.UnaryOp .Not a pos) (fun δ=>(f δ).bind fun x=>(Ny x).map fun i=>.bool (!i)):=by
 obtain⟨ta,T,U⟩:=ha;refine⟨_,qE T,fun δ z Y G0 H0 G H σ ts Q R0 k=>?_⟩;obtain⟨x,h1,h2⟩:=aB.mp Y;obtain⟨i,Z,rfl⟩:=aC.mp h2;have:=Pu Z;subst this;refine U δ _ h1 G0 H0 G H σ ts _ R0 fun u G1 H1 R=>?_;have:=R.B5 _ Fa;rw[Du]at this;exact⟨i,this,k _ _ _ (R.drop.put L1)⟩
def Xl{op}(ha:DE X a f):DE X (.BoolOp op [a] pos) f:=by
 obtain⟨U,R,T⟩:=ha;exact⟨_,p7 R,T⟩
def UO{rest:zD}(ha:DE X a f)(hb:DE X (.BoolOp .And (b::rest) pos) g):DE X (.BoolOp .And (a::b::rest) pos) (fun δ=>(f δ).bind fun x=>(Ny x).bind fun c=>if c=true then g δ else some (.bool false)):=by
 obtain⟨ta,pa,ka⟩:=ha;obtain⟨tb,Z,kb⟩:=hb;refine⟨_,uO pa Z,fun δ z hz G0 H0 G H σ ts Q R0 k=>?_⟩;obtain⟨x,h1,h2⟩:=aB.mp hz;obtain⟨i,h3,R⟩:=aB.mp h2;have:=Pu h3;subst this;refine ka δ _ h1 G0 H0 G H σ ts _ R0 fun u G1 H1 U=>?_;have Y:=U.B5 _ Fa;rw[Du]at Y;refine⟨i,Y,?_⟩;split
 .rename_i T;rw[if_pos T]at R;exact kb δ z R G0 H0 G1 H1 σ ts Q U.drop k
 .rename_i T;rw[if_neg T]at R;cases R;exact k _ _ _ (U.drop.put L1)
variable{fa fb:yw}
def DW(X:Cx)(e:Expr)(f:yw):Prop:=∃t,PW X e t/\∀δ b,f δ=some b->∀G0 H0 G H σ ts (Q:Bool->Hp->Prop),Rw G0 H0 G H σ δ ts->(∀R H',Rw G0 H0 R H' σ δ ts->Q b H')->t σ H Q
def DW.dt(h:DW X e fa):DT X e fa:=let⟨t,p,k⟩:=h;⟨t,p.pt,k⟩
def B3{op:CmpOp}{o:ce}(ho:Fb X (compareOp op) o)(ha:DE X a f)(hb:DE X b g)(hm:behindInMarks op b=false):DT X (.Compare a [op] [b] pos) (fun δ=>(Ai o f g δ).bind Ny):=by
 obtain⟨r,hr,Z⟩:=ho;obtain⟨ta,Y,ka⟩:=ha;obtain⟨tb,U,kb⟩:=hb;refine⟨_,EY hr Y U hm,fun δ z hz G0 H0 G H σ ts Q R0 k=>?_⟩;obtain⟨q,h0,h4⟩:=aB.mp hz;have:=Pu h4;subst this;obtain⟨x,y,h1,h2,h3⟩:=two (x:=.none) (y:=.none) h0;refine ka δ x h1 G0 H0 G H σ ts _ R0 fun u G1 H1 R1=>?_;refine kb δ y h2 G0 H0 G1 H1 σ _ _ R1 fun v G2 H2 R2=>?_;refine Z x y _ h3 G0 H0 G2 H2 σ δ ts u v _ (R2.drop.drop) (R2.B5 (x,u) (.tail _ Fa)) (R2.B5 (y,v) Fa) fun w G3 H3 T=>?_;have R:=T.B5 _ Fa;rw[Du]at R;exact⟨z,R,k _ _ T.drop⟩
def GJ(ha : DE X e f)(he : ∀ whole,isTrue e X.env whole = (do let v <- whole; standAt e.pos; holding [v] (truthy v)):=by intro _; rfl):DT X e (fun δ => (f δ).bind Ny):=by
  obtain ⟨ta,pa,ka⟩:=ha
  refine ⟨_,sT pa he,fun δ z hz G0 H0 G H σ ts Q R0 k => ?_⟩
  obtain ⟨q,h0,h4⟩:=aB.mp hz
  have:=Pu h4; subst this
  refine ka δ _ h0 G0 H0 G H σ ts _ R0 fun u G1 H1 R1 => ?_
  have hu:=R1.B5 _ Fa
  rw [Du] at hu
  exact ⟨z,hu,k _ _ R1.drop⟩
def GC(ha:DT X a fa):DT X (.UnaryOp .Not a pos) (fun δ=>(fa δ).map fun c=>!c):=by
 obtain⟨ta,R,T⟩:=ha;refine⟨_,uB R,fun δ z U G0 H0 G H σ ts Q R0 k=>?_⟩;obtain⟨i,Y,rfl⟩:=aC.mp U;exact T δ _ Y G0 H0 G H σ ts _ R0 fun G1 H1 Z=>k _ _ Z
def GY{op:BoolOp}(ha:DT X a fa):DW X (.BoolOp op [a] pos) fa:=by
 obtain⟨U,R,T⟩:=ha;cases op
 .exact⟨_,nM R,T⟩
 .exact⟨_,qq R,T⟩
def Xs{rest:zD}(ha:DT X a fa)(hb:DW X (.BoolOp .And (b::rest) pos) fb):DW X (.BoolOp .And (a::b::rest) pos) (fun δ=>(fa δ).bind fun c=>if c=true then fb δ else some false):=by
 obtain⟨ta,Z,ka⟩:=ha;obtain⟨tb,Y,kb⟩:=hb;refine⟨_,tK Z Y,fun δ z hz G0 H0 G H σ ts Q R0 k=>?_⟩;obtain⟨i,h3,R⟩:=aB.mp hz;refine ka δ _ h3 G0 H0 G H σ ts _ R0 fun G1 H1 U=>?_;split
 .rename_i T;rw[if_pos T]at R;exact kb δ z R G0 H0 G1 H1 σ ts Q U k
 .rename_i T;rw[if_neg T]at R;cases R;exact k _ _ U
def JG{rest:zD}(ha:DT X a fa)(hb:DW X (.BoolOp .Or (b::rest) pos) fb):DW X (.BoolOp .Or (a::b::rest) pos) (fun δ=>(fa δ).bind fun c=>if c=true then some true else fb δ):=by
 obtain⟨ta,Z,ka⟩:=ha;obtain⟨tb,Y,kb⟩:=hb;refine⟨_,vC Z Y,fun δ z hz G0 H0 G H σ ts Q R0 k=>?_⟩;obtain⟨i,h3,R⟩:=aB.mp hz;refine ka δ _ h3 G0 H0 G H σ ts _ R0 fun G1 H1 U=>?_;split
 .rename_i T;rw[if_pos T]at R;cases R;exact k _ _ U
 .rename_i T;rw[if_neg T]at R;exact kb δ z R G0 H0 G1 H1 σ ts Q U k
variable{fs:yt}
def AF:DA X [] (fun _=>some []):=⟨_,Ad,fun δ xs h G0 H0 G H σ ts Q R k=>by cases h;exact k [] G H (by simpa using R) rfl⟩
def AA(ha:DE X e f)(hr:DA X es fs)(hs:starEach No X.env=Go::starEach es X.env:=by rfl):DA X No (fun δ=>(f δ).bind fun x=>(fs δ).map fun xs=>x::xs):=by
 obtain⟨ta,T,Y⟩:=ha;obtain⟨tr,pr,U⟩:=hr;refine⟨_,AM T pr hs,fun δ z Z G0 H0 G H σ ts Q R0 k=>?_⟩;obtain⟨x,h1,h2⟩:=aB.mp Z;obtain⟨xs,h3,rfl⟩:=aC.mp h2;refine Y δ x h1 G0 H0 G H σ ts _ R0 fun u G1 H1 R1=>?_;refine U δ xs h3 G0 H0 G1 H1 σ _ _ R1 fun vs G2 H2 R2 hl=>?_;refine k (u::vs) G2 H2 (R2.less fun q R=>?_) (by simp[hl]);simp only[List.zip_cons_cons,List.cons_append,List.mem_cons,List.mem_append]at R ⊢;rcases R with h|h|h
 .exact .inr (.inl h)
 .exact .inl h
 .exact .inr (.inr h)
theorem i0{G:Hp}:∀ {xs:List PD} {vs:IZ},vs.length=xs.length->(∀q∈xs.zip vs,Du G q.1 q.2)->An G xs vs
 |[],vs,R,_=>by rw[List.eq_nil_of_length_eq_zero R];exact .nil
 |x::xs,[],R,_=>by simp at R
 |x::xs,v::vs,R,h=>.cons (h (x,v) At) (i0 (by simpa using R) fun q T=>h q (by simp[T]))
def Rw.args{G0 H0 G H:Hp}{σ:St}{δ:Dv}{ts:Qi}{xs:yx}{vs:zJ}(r:Rw G0 H0 G H σ δ (xs.zip vs++ts))(T:vs.length=xs.length):An G xs vs/\Rw G0 H0 G H σ δ ts :=
 ⟨i0 T fun q R=>r.B5 q (bN _ R),r.less fun q R=>aV _ R⟩
def Rw.VR{G0 H0 G H:Hp}{σ:St}{δ:Dv}{ts:Qi}{xs:yx}{vs:zJ}{p:AD}(r:GM)(d:An G xs vs)(R:H p=none):Rw G0 H0 (upd G p (.lst vs)) (upd H p (.lst vs)) σ δ ((.list xs,.ref p)::ts):=by
 refine(r.newObj R).put ?_;have e:AL G (upd G p (.lst vs)):=fun a o h=>by rw[AN (Am (r.ins _ _ h) R)];exact h
 rw[Du];exact⟨p,vs,rfl,AR,d.same e⟩
def Rw.eL{G0 H0 G H:Hp}{σ:St}{δ:Dv}{ts:Qi}{xs:yx}{vs:zJ}{p:AD}(r:GM)(d:An G xs vs)(R:H p=none):Rw G0 H0 (upd G p (.tup vs)) (upd H p (.tup vs)) σ δ ((.tuple xs,.ref p)::ts):=by
 refine(r.newObj R).put ?_;have e:AL G (upd G p (.tup vs)):=fun a o h=>by rw[AN (Am (r.ins _ _ h) R)];exact h
 rw[Du];exact⟨p,vs,rfl,AR,d.same e⟩
def LB(xs:yx):Option yx:=if xs.length<=D0 then some xs else none
def QC{xs ys:yx}(h:LB xs=some ys):xs=ys/\xs.length<=D0:=by
 unfold LB at h;split at h
 .rename_i q;cases h;exact⟨rfl,q⟩
 .cases h
def Aq{T}(ha:DA X es fs):DE X (.Tuple es T pos) (fun δ=>((fs δ).bind LB).map .tuple):=by
 obtain⟨ta,U,Y⟩:=ha;refine⟨_,Kg U,fun δ z Z G0 H0 G H σ ts Q R0 k=>?_⟩;obtain⟨ys,h1,rfl⟩:=aC.mp Z;obtain⟨xs,h2,h3⟩:=aB.mp h1;obtain⟨rfl,hl⟩:=QC h3;refine Y δ _ h2 G0 H0 G H σ ts _ R0 fun vs G1 H1 R1 R=>?_;obtain⟨d,R2⟩:=R1.args R;exact⟨Hn (by rw[R];exact hl),fun q hq=>k _ _ _ (R2.eL d hq)⟩
def Bg(ha:DA X es fs):DE X (.List es pos) (fun δ=>((fs δ).bind LB).map .list):=by
 obtain⟨ta,T,U⟩:=ha;refine⟨_,Hl T,fun δ z Y G0 H0 G H σ ts Q R0 k=>?_⟩;obtain⟨ys,h1,rfl⟩:=aC.mp Y;obtain⟨xs,h2,h3⟩:=aB.mp h1;obtain⟨rfl,hl⟩:=QC h3;refine U δ _ h2 G0 H0 G H σ ts _ R0 fun vs G1 H1 R1 R=>?_;obtain⟨d,R2⟩:=R1.args R;exact⟨Hn (by rw[R];exact hl),fun q Z=>k _ _ _ (R2.VR d Z)⟩
theorem An.ID{H:Hp}{ds:yx}{xs:zJ}{i:Int}{d:PD}(h:An H ds xs)(e:ID ds i=some d):∃v,ID xs i=some v/\Du H d v:=by
 unfold L2.ID at e ⊢;rw[h.len];obtain⟨j,Y,U⟩:=aB.mp e;obtain⟨v,T,R⟩:=h.get U;exact⟨v,by rw[Y];exact T,R⟩
theorem WD{G:Hp}:∀ns:List Int,An G (ns.map .int) RW
 |[]=>.nil
 |n::ns=>.cons L1 (WD ns)
def DD:PD->PD->Option PD:=fun x y=>match x,y with
 |.list xs,.int i=>ID xs i
 |.tuple xs,.int i=>ID xs i
 |.dict [(.none,.list xs)],.int i=>ID xs i
 |.str z,.int i=>if z.length<=D0 then(ID z.cps.toList i).map fun c=>.str ⟨#[c]⟩ else none
 |_,_=>none
def Bw(ha:DE X a f)(hb:DE X b g)(hs:cD b):DE X (.Subscript a b pos) (Ai DD f g):=by
 obtain⟨ta,pa,ka⟩:=ha;obtain⟨tb,pb,kb⟩:=hb;refine⟨_,Fo sC pa pb hs,fun δ z hz G0 H0 G H σ ts Q R0 k=>?_⟩;obtain⟨x,y,h1,h2,R⟩:=two (x:=.none) (y:=.none) hz;refine ka δ x h1 G0 H0 G H σ ts _ R0 fun u G1 H1 R1=>?_;refine kb δ y h2 G0 H0 G1 H1 σ _ _ R1 fun v G2 H2 R2=>?_;have U:=R2.B5 (x,u) (.tail _ Fa);have T:=R2.B5 (y,v) Fa;unfold DD at R;split at R
 .rw[Du]at U;rw[Du]at T;obtain⟨p,xs,rfl,h4,h5⟩:=U;obtain⟨w,Y,Z⟩:=h5.ID R;exact .inl ⟨p,xs,_,w,rfl,T,Aw.of (R2.ins _ _ h4),Y,k _ _ _ (R2.drop.drop.put Z)⟩
 .rw[Du]at U;rw[Du]at T;obtain⟨p,xs,rfl,h4,h5⟩:=U;obtain⟨w,Y,Z⟩:=h5.ID R;exact .inr (.inl ⟨p,xs,_,w,rfl,T,BK.of (R2.ins _ _ h4),Y,k _ _ _ (R2.drop.drop.put Z)⟩)
 .rw[Du]at U;rw[Du]at T;rcases U with ⟨ea,C,e1,_⟩|⟨p,ns,e1,rfl,h4⟩|z
  rotate_left 2
  .rw[LN]at z;cases z.1
  .simp at e1
  .obtain rfl:_=ns.map PyData.int:=by simpa using e1
   obtain⟨w,Y,Z⟩:=(WD (G:=_) ns).ID R;exact .inl ⟨p,_,_,w,rfl,T,.inl (h4.same R2.ins),Y,k _ _ _ (R2.drop.drop.put Z)⟩
 .rw[Du]at U;rw[Du]at T;split at R
  .rename_i hl;obtain⟨ch,Y,rfl⟩:=aC.mp R;exact .inr (.inr ⟨_,_,ch,U,T,Hn hl,Y,k _ _ _ (R2.drop.drop.put L1)⟩)
  .cases R
 .cases R
end
def A6(g:MD):Sp:=fun vs H Q _=>∃T x G,g T=some x/\An G T vs/\AL G H/\∀v R H',AL G R->Nw G H R->AL R H'->AL H H'->Du R x v->Q v H'
section
variable{X:Cx}{a e:Expr}{es:zD}{f h:yu}{fs:yt}{pos p:Pos}
def Aa{k:Nat}{U:AD}{fd:F0a}{ps:zC}{m:MD}{x:Str}{st:Stmt}(T:Fn X.K X.mg x st ps U fd)(F:AK X.prog X.w X.K X.mg X.base Af k U fd ps (A6 m))(hr:EN k X.A)(hg:Gl X x)(ha:DA X No fs) (R:GE=false:=by decide)(he:starEach No X.env=Go::starEach es X.env:=by rfl)(g:(backTo pos M5).any M0=false:=by rfl):DE X IN (fun δ=>(fs δ).bind m):=by
 obtain⟨ta,Y,Z⟩:=ha;refine⟨_,Dq T F hr hg Y R he g,fun δ z hz G0 H0 G H σ ts Q R0 k=>?_⟩;obtain⟨xs,h1,h2⟩:=aB.mp hz;refine Z δ _ h1 G0 H0 G H σ ts _ R0 fun vs G1 H1 R1 hv=>?_;obtain⟨d,R2⟩:=R1.args hv;refine⟨xs,z,G1,h2,by rw[(Qh)];exact d,R2.ins,fun v G' H' h3 h4 h5 h6 h7=>?_⟩;exact k _ _ _ ((R2.lift h3 h4 h5 h6).put h7)
def O2(X:Cx)(v:VL)(o:MD):Prop:=∃r,FZ X v r/\∀xs z,o xs=some z->∀G0 H0 G H σ δ ts us (Q:VK),Rw G0 H0 G H σ δ ts->An G xs us->(∀w g H',Rw G0 H0 g H' σ δ ((z,w)::ts)->Q w H')->r us H Q
def DH{x:Str}{id:String}{o:MD}(hc:O2 X (.builtin id) o)(hg:Gl X x)(hm:X.mg x=none)(g:bootBuiltins x=some (.builtin id))(ha:DA X No fs)(hn:x ≠ "__name__":=by decide)(T:GE=false:=by decide) (he:starEach No X.env=Go::starEach es X.env:=by rfl)(R:(backTo pos M5).any M0=false:=by rfl):DE X IN (fun δ=>(fs δ).bind o):=by
 obtain⟨r,hr,Y⟩:=hc;obtain⟨ta,U,Z⟩:=ha;refine⟨_,EA hr hg hm g U hn T he R,fun δ z hz G0 H0 G H σ ts Q R0 k=>?_⟩;obtain⟨xs,h1,h2⟩:=aB.mp hz;refine Z δ _ h1 G0 H0 G H σ ts _ R0 fun vs G1 H1 R1 g=>?_;obtain⟨d,R2⟩:=R1.args g;exact Y xs z h2 G0 H0 G1 H1 σ δ ts vs Q R2 d k
def Vh{x:Str}{T:String}{o:MD}(hc:O2 X (.type T) o)(hg:Gl X x)(hm:X.mg x=none)(g:bootBuiltins x=some (.type T))(ha:DA X No fs)(hn:x ≠ "__name__":=by decide)(U:GE=false:=by decide) (he:starEach No X.env=Go::starEach es X.env:=by rfl)(R:(backTo pos M5).any M0=false:=by rfl):DE X IN (fun δ=>(fs δ).bind o):=by
 obtain⟨r,hr,Z⟩:=hc;obtain⟨ta,Y,ka⟩:=ha;refine⟨_,V1 hr hg hm g Y hn U he R,fun δ z hz G0 H0 G H σ ts Q R0 k=>?_⟩;obtain⟨xs,h1,h2⟩:=aB.mp hz;refine ka δ _ h1 G0 H0 G H σ ts _ R0 fun vs G1 H1 R1 g=>?_;obtain⟨d,R2⟩:=R1.args g;exact Z xs z h2 G0 H0 G1 H1 σ δ ts vs Q R2 d k
def An.Ks{H:Hp}{d:PD}{xs:zJ}(h:An H [d] xs):∃x,xs=[x]/\Du H d x:=by
 obtain⟨x,r,rfl,R,g⟩:=h.un;rw[g.nil_eq];exact⟨x,rfl,R⟩
def An.Mv{H:Hp}{d e:PD}{xs:zJ}(h:An H [d,e] xs):∃x y,xs=[x,y]/\Du H d x/\Du H e y:=by
 obtain⟨x,r,rfl,T,R⟩:=h.un;obtain⟨y,rfl,g⟩:=R.Ks;exact⟨x,y,rfl,T,g⟩
def IJ:MD
 |[.list xs]=>some (.int xs.length)
 |[.tuple xs]=>some (.int xs.length)
 |[.dict [(.none,.list xs)]]=>some (.int xs.length)
 |_=>none
def Hc:O2 X (.builtin "len") IJ:=by
 refine⟨_,Jj,fun xs z R G0 H0 G H σ δ ts us Q T d k=>?_⟩;unfold IJ at R;split at R
 .cases R;obtain⟨u,rfl,g⟩:=d.Ks;rw[Du]at g;obtain⟨p,ys,rfl,U,Y⟩:=g;refine⟨p,ys,rfl,.inl (Aw.of (T.ins _ _ U)),?_⟩;rw[Y.len];exact k _ _ _ (T.put L1)
 .cases R;obtain⟨u,rfl,g⟩:=d.Ks;rw[Du]at g;obtain⟨p,ys,rfl,U,Y⟩:=g;refine⟨p,ys,rfl,.inr (BK.of (T.ins _ _ U)),?_⟩;rw[Y.len];exact k _ _ _ (T.put L1)
 .cases R;obtain⟨u,rfl,g⟩:=d.Ks;rw[Du]at g;rcases g with ⟨ea,C,Z,_⟩|⟨p,ns,Z,rfl,U⟩|z
  rotate_left 2
  .rw[LN]at z;cases z.1
  .simp at Z
  .obtain rfl:_=ns.map PyData.int:=by simpa using Z
   refine⟨p,_,rfl,.inl (.inl (U.same T.ins)),?_⟩;rw[(BJ)]at k ⊢;exact k _ _ _ (T.put L1)
 .cases R
def PB:MD
 |[.list xs]=>some (.tuple xs)
 |[.tuple xs]=>some (.tuple xs)
 |_=>none
def Yp:O2 X Fk PB:=by
 refine⟨_,WU,fun xs z R G0 H0 G H σ δ ts us Q T d k=>?_⟩;unfold PB at R;split at R
 .cases R;obtain⟨u,rfl,g⟩:=d.Ks;rw[Du]at g;obtain⟨p,ys,rfl,U,Z⟩:=g;exact⟨p,ys,rfl,.inl ⟨Aw.of (T.ins _ _ U),fun l hl=>k _ _ _ (T.eL Z hl)⟩⟩
 .cases R;obtain⟨u,rfl,g⟩:=d.Ks;have Y:=g;rw[Du]at g;obtain⟨p,ys,rfl,U,Z⟩:=g;exact⟨p,ys,rfl,.inr ⟨BK.of (T.ins _ _ U),k _ _ _ (T.put Y)⟩⟩
 .cases R
def Du.ty{K:Fg}{H:Hp}:∀ {d:PD} {v:V},(∀g,d≠.dict g)->Du H d v->Jg K H v (.type (VD d))/\∀g,d≠.dict g
 |.none,_,_,h=>by rw[Du]at h;subst h;exact⟨.BP,by simp⟩
 |.bool _,_,_,h=>by rw[Du]at h;subst h;exact⟨.bl _,by simp⟩
 |.int _,_,_,h=>by rw[Du]at h;subst h;exact⟨.int _,by simp⟩
 |.str _,_,_,h=>by rw[Du]at h;subst h;exact⟨.str _,by simp⟩
 |.tuple _,_,_,h=>by rw[Du]at h;obtain⟨a,xs,rfl,R,_⟩:=h;exact⟨.tup R,by simp⟩
 |.list _,_,_,h=>by rw[Du]at h;obtain⟨a,xs,rfl,R,_⟩:=h;exact⟨.lst R,by simp⟩
 |.dict _,_,n,h=>absurd rfl (n _)
def eR(q:PD->Bool):PD->Option PD
 |.dict _=>none
 |x=>some (.bool (q x))
def oB{q:PD->Bool}{x z:PD}(h:eR q x=some z):(∀g,x≠.dict g)/\z=.bool (q x):=by
 unfold eR at h;split at h
 .cases h
 .rename_i n;cases h;exact⟨fun g e=>n g e,rfl⟩
def MC{T:String}{q:PD->Bool}{g:Str}{p1 R:Pos}(hk:∀d:PD,(∀kv,d≠.dict kv)->PySem.W.kitOne X.K (.type (VD d)) (.type T)=some (q d))(hg:Gl X "isinstance")(hm:X.mg "isinstance" = none)(hgT:Gl X g)(hmT:X.mg g=none)(Y:bootBuiltins g=some (.type T))(ha:DE X a f) (hnT:g ≠ "__name__":=by decide)(hdT:(g==("__debug__" : Str))=false:=by decide)(U:starEach [a,.Name g R] X.env=ND::starEach [.Name g R] X.env:=by rfl)(Z:(backTo pos (starEach [.Name g R] X.env)).any M0=false:=by rfl):DE X (.Call (.Name "isinstance" p1) [a,.Name g R] [] pos) (fun δ=>(f δ).bind (eR q)):=by
 obtain⟨ta,pa,ka⟩:=ha;have pT:PE X (.Name g R) (tC (.ty T)):=mq hgT hmT Y rfl hnT hdT;refine⟨_,EA kj hg hm PyProof.Rows.boot_isinstance (AM pa (AM pT Ad) U) AT AT U Z,fun δ z hz G0 H0 G H σ ts Q R0 k=>?_⟩;obtain⟨x,h1,h2⟩:=aB.mp hz;obtain⟨n1,rfl⟩:=oB h2;refine ka δ _ h1 G0 H0 G H σ ts _ R0 fun u G1 H1 R1=>?_;have du:=R1.B5 _ Fa;obtain⟨t1,t2⟩:=(du.same R1.ins).ty (K:=X.K) n1;exact⟨u,.ty T,_,q x,rfl,by simp[Xw],t1,hk x t2,k _ _ _ (R1.drop.put L1)⟩
end
inductive Ou where
 |nx (δ:Dv)|rt (x:PyData)|bk (δ:Dv)|ct (δ:Dv)|rn (xs:List PyData)
def Fin(G0 H0:Hp)(D:Ends):Ou->Prop
 |.nx δ=>∀σ G H,Rw G0 H0 G H σ δ []->D.nx σ H
 |.rt x=>∀v G H,AL G0 G->Nw G0 H0 G->AL G H->AL H0 H->Du G x v->D.rt v H
 |.bk δ=>∀σ G H,Rw G0 H0 G H σ δ []->D.bk σ H
 |.ct δ=>∀σ G H,Rw G0 H0 G H σ δ []->D.ct σ H
 |.rn xs=>∀a ys G H,AL G0 G->Nw G0 H0 G->AL G H->AL H0 H->H0 a=none->G a=none->H a=some IR->An G xs ys->D.rt Hf H
abbrev DF:=Dv->Option Ou
def DS(X:Cx)(st:Stmt)(F:DF):Prop:=∃t,PS X st t/\∀δ r,F δ=some r->∀G0 H0 G H σ D,Rw G0 H0 G H σ δ []->Fin G0 H0 D r->t D σ H
def T2(X:Cx)(st:zM)(F:DF):Prop:=∃t,Jp X st t/\∀δ r,F δ=some r->∀G0 H0 G H σ D,Rw G0 H0 G H σ δ []->Fin G0 H0 D r->t D σ H
def Ar(T R:DF)(δ:Dv):Option Ou:=match T δ with
 |some (.nx g)=>R g
 |o=>o
section
variable{X:Cx}{c e:Expr}{f h:yu}{fa:yw}{pos p:Pos}{st:Stmt}{sts sts':zM}{F1 F2:DF}
def CH:T2 X [] (fun δ=>some (.nx δ)):=⟨_,GI,fun δ r h G0 H0 G H σ D R k=>by cases h;exact k _ _ _ R⟩
def AQ(h1:DS X st F1)(h2:T2 X sts F2):T2 X (st::sts) (Ar F1 F2):=by
 obtain⟨t1,p1,Y⟩:=h1;obtain⟨t2,Z,k2⟩:=h2;refine⟨_,Ae p1 Z,fun δ r h G0 H0 G H σ D R k=>?_⟩;unfold Ar at h;split at h
 .rename_i g e1;exact Y δ _ e1 G0 H0 G H σ _ R fun T G' H' R'=>k2 g r h G0 H0 G' H' T D R' k
 .rename_i U;refine Y δ r h G0 H0 G H σ _ R ?_;cases r with
  |nx g=>exact absurd h (U g)
  |rt x=>exact k
  |bk g=>exact k
  |ct g=>exact k
  |rn xs=>exact k
def AV(T:DS X st F1):T2 X [st] F1:=by
 obtain⟨t1,g,R⟩:=T;exact⟨_,BE g,R⟩
def ni:DS X (.Continue pos) (fun δ=>some (.ct δ)):=⟨_,ZO,fun δ r h G0 H0 G H σ D R k=>by cases h;exact k _ _ _ R⟩
def kL:DS X st (fun _=>none):=⟨_,XD,fun _ _ h=>by cases h⟩
def A0(T:DE X e f):DS X (.Return (some e) pos) (fun δ=>(f δ).map .rt):=by
 obtain⟨t,p,k⟩:=T;refine⟨_,Cp p,fun δ r h G0 H0 G H σ D R q=>?_⟩;obtain⟨x,U,rfl⟩:=aC.mp h;exact k δ x U G0 H0 G H σ [] _ R fun v Y H' g=>q v Y H' g.ext g.new g.ins g.keep (g.B5 _ Fa)
def nE(T:DE X e f)(g:swapsWith e none pos.line X.env=pure false:=by rfl):DS X (.Expr e pos) (fun δ=>(f δ).map fun _=>.nx δ):=by
 obtain⟨t,p,k⟩:=T;refine⟨_,E8 p g,fun δ r h G0 H0 G H σ D R q=>?_⟩;obtain⟨x,U,rfl⟩:=aC.mp h;exact k δ x U G0 H0 G H σ [] _ R fun v Z H' Y=>q _ _ _ Y.drop
def Di(g:DT X c fa)(h1:T2 X sts F1)(h2:T2 X sts' F2):DS X (.If c sts sts' pos) (fun δ=>(fa δ).bind fun c=>if c=true then F1 δ else F2 δ):=by
 obtain⟨tc,pc,kc⟩:=g;obtain⟨t1,p1,k1⟩:=h1;obtain⟨t2,Z,k2⟩:=h2;refine⟨_,JR pc p1 Z,fun δ r h G0 H0 G H σ D R q=>?_⟩;obtain⟨i,h3,T⟩:=aB.mp h;refine kc δ i h3 G0 H0 G H σ [] _ R fun Y H' U=>?_;split
 .rename_i g;rw[if_pos g]at T;exact k1 δ r T G0 H0 Y H' σ D U q
 .rename_i g;rw[if_neg g]at T;exact k2 δ r T G0 H0 Y H' σ D U q
end
section
variable{G0 H0 G H:Hp}{σ:St}{δ:Dv}{ts:Qi}
def Rw.IE{i:Nat}{x:PD}{v:V}(r:Rw G0 H0 G H σ δ ((x,v)::ts)):Rw G0 H0 G H (σ.set i (some v)) (δ.set i (.d x)) ts:=by
 have hl:=r.len;refine⟨r.ext,r.new,r.ins,r.keep,by simp[hl],fun j y h=>?_,fun j ys h=>?_,fun j l ys zs Z T R=>?_,fun q hq=>r.B5 q (.tail _ hq)⟩
 .by_cases g:i=j
  .subst g;by_cases hi:i<δ.length
   .rw[List.getElem?_set_self hi]at h;cases h;exact⟨v,by rw[List.getElem?_set_self AC],r.B5 _ Fa⟩
   .rw[List.getElem?_eq_none (by simp;lia)]at h;cases h
  .rw[List.getElem?_set_ne g]at h;obtain⟨w,Y,U⟩:=r.dat j y h;exact⟨w,by rw[List.getElem?_set_ne g];exact Y,U⟩
 .by_cases g:i=j
  .subst g;by_cases hi:i<δ.length
   .rw[List.getElem?_set_self hi]at h;cases h
   .rw[List.getElem?_eq_none (by simp;lia)]at h;cases h
  .rw[List.getElem?_set_ne g]at h;obtain⟨w,Y,U,k3⟩:=r.own j ys h;exact⟨w,Y,by rw[List.getElem?_set_ne g];exact U,k3⟩
 .have nj:i≠j:=fun z=>by
   subst z;by_cases hi:i<δ.length
   .rw[List.getElem?_set_self hi]at T;cases T
   .rw[List.getElem?_eq_none (by simp;lia)]at T;cases T
  have nl:i≠l:=fun z=>by
   subst z;by_cases hi:i<δ.length
   .rw[List.getElem?_set_self hi]at R;cases R
   .rw[List.getElem?_eq_none (by simp;lia)]at R;cases R
  rw[List.getElem?_set_ne nj]at T ⊢;rw[List.getElem?_set_ne nl]at R ⊢;exact r.apart j l ys zs Z T R
end
section
variable{X:Cx}{e:Expr}{f:yu}{pos p:Pos}
def Bb{i:Nat}{x:Str}{g:Pos}(hN:X.N.Nodup)(hi:X.N[i]? = some x)(T:Loc X.env.scope x)(Z:DE X e f)(U:swapsWith e (some (.Name x g)) pos.line X.env=pure false:=by rfl)(Y:X.fn x=true\/X.env.scope.names.lookup x=some .local:=by first|exact .inl rfl|exact .inr rfl|assumption):DS X (.Assign [.Name x g] e pos) (fun δ=>(f δ).map fun y=>.nx (δ.set i (.d y))):=by
 obtain⟨t,p,k⟩:=Z;refine⟨_,BM hN hi T p U Y,fun δ r h G0 H0 G H σ D R q=>?_⟩;obtain⟨y,h1,rfl⟩:=aC.mp h;exact k δ y h1 G0 H0 G H σ [] _ R fun v G' H' R'=>q _ _ _ R'.IE
end
section
variable{G0 H0 G H:Hp}{σ:St}{δ:Dv}{ts:Qi}
def Rw.base(r:GM):Rw G H0 G H σ δ ts:={r with ext:=AL.refl G,new:=fun _ _ h=>.inl h}
def Nw.trans{R g:Hp}(a:Nw G0 H0 R)(b:Nw R H0 g):Nw G0 H0 g:=fun c o h=>by
 rcases b c o h with z|z|z
 .exact a c o z
 .exact .inr (.inl z)
 .exact .inr (.inr z)
def Rw.Yh{T H':Hp}{g:St}{δ':Dv}{R:Qi}(r:GM)(q:Rw G H0 T H' g δ' R):Rw G0 H0 T H' g δ' R:={q with ext:=r.ext.trans q.ext,new:=r.new.trans q.new}
def GL(i:Nat)(δ:Dv):Dv:=match δ[i]? with
 |some (.own (.lst xs))=>δ.set i (.d (.list xs))
 |some (.own (.GZ kvs))=>δ.set i (.d (Bh kvs))
 |_=>δ
def Rw.letGo{i:Nat}{c:Oc}{x:PD}(r:GM)(hi:δ[i]? = some (.own c))(hx:∀a o,G a=none->Kw G a c o->Du (upd G a o) x Hf):∃a o,σ[i]? = some (some Hf)/\G a=none/\H0 a=none/\H a=some o/\Kw G a c o/\Rw G0 H0 (upd G a o) H σ (δ.set i (.d x)) ts:=by
 obtain⟨a,o,k1,k2,k3,k4,k5⟩:=r.own i _ hi;have e:AL G (upd G a o):=Ag k2 _;have g:i<δ.length:=(aD.mp hi).1;refine⟨a,o,k1,k2,k3,k4,k5,r.ext.trans e,fun b o' h=>?_,fun b o' h=>?_,r.keep,by simp[r.len],fun j y h=>?_,fun j zs h=>?_,fun j l us ws hjl Z Y=>?_,fun q hq=>(r.B5 q hq).same e⟩
 .by_cases T:b=a
  .subst T;exact .inr (.inl k3)
  .rw[AN T]at h;exact r.new _ _ h
 .by_cases T:b=a
  .subst T;rw[AR]at h;rw[k4];exact h
  .rw[AN T]at h;exact r.ins _ _ h
 .by_cases R:i=j
  .subst R;rw[List.getElem?_set_self g]at h;cases h;exact⟨.ref a,k1,hx a o k2 k5⟩
  .rw[List.getElem?_set_ne R]at h;obtain⟨w,U,m2⟩:=r.dat j y h;exact⟨w,U,m2.same e⟩
 .by_cases R:i=j
  .subst R;rw[List.getElem?_set_self g]at h;cases h
  .rw[List.getElem?_set_ne R]at h;obtain⟨b,us,U,m2,m3,m4,m5⟩:=r.own j zs h;have nb:b≠a:=fun z=>by subst z;exact r.apart i j _ zs R hi h (by rw[k1,U])
   exact⟨b,us,U,by rw[AN nb];exact m2,m3,m4,m5.same e⟩
 .have nj:i≠j:=fun z=>by subst z;rw[List.getElem?_set_self g]at Z;cases Z
  have nl:i≠l:=fun z=>by subst z;rw[List.getElem?_set_self g]at Y;cases Y
  rw[List.getElem?_set_ne nj]at Z;rw[List.getElem?_set_ne nl]at Y;exact r.apart j l us ws hjl Z Y
def sD{a:AD}{o:HO}{xs:yx}(R:G a=none)(h:Kw G a KB o):Du (upd G a o) (.list xs) Hf:=by
 obtain⟨ys,rfl,g⟩:=h;rw[Du];exact⟨a,ys,rfl,AR,g.same (Ag R _)⟩
def fP{a:AD}{o:HO}{kvs:List (Option Tr×PD)}(R:G a=none)(h:Kw G a (.GZ kvs) o):Du (upd G a o) (Bh kvs) Hf:=by
 obtain⟨r,rfl,n,g⟩:=h;rw[Du,LN];exact .inr (.inr ⟨rfl,rfl,a,r,rfl,AR,n,HZ.same (Ag R _) g⟩)
def Rw.GL(i:Nat)(r:GM):∃g,Rw G0 H0 g H σ (L2.GL i δ) ts:=by
 unfold L2.GL;split
 .rename_i xs hi;obtain⟨a,o,_,_,_,_,_,R⟩:=r.letGo (x:=.list xs) hi fun a o h=>sD h;exact⟨_,R⟩
 .rename_i kvs hi;obtain⟨a,o,_,_,_,_,_,R⟩:=r.letGo (x:=Bh kvs) hi fun a o h=>fP h;exact⟨_,R⟩
 .exact⟨G,r⟩
def Rw.YJ{i:Nat}{xs:Oc}{ys:HO}{a:AD}(r:GM)(d:Kw G a xs ys)(ha:H a=none):Rw G0 H0 G (upd H a ys) (σ.set i (some Hf)) (δ.set i (.own xs)) ts:=by
 have hG:G a=none:=by
  cases q:G a with
  |none=>rfl
  |some u=>rw[r.ins _ _ q]at ha;cases ha
 have h0:H0 a=none:=by
  cases q:H0 a with
  |none=>rfl
  |some u=>rw[r.keep _ _ q]at ha;cases ha
 have e:AL H (upd H a ys):=Ag ha _;have hl:=r.len;have other:∀(j:Nat) (R:Oc),i≠j->(δ.set i (.own xs))[j]? = some (L.own R)->δ[j]? = some (L.own R):=fun j R g h=>by rw[List.getElem?_set_ne g]at h;exact h
 have T:∀(j:Nat) (R:Oc),δ[j]? = some (L.own R)->σ[j]?≠some (some (V.ref a)):=fun j R h z=>by
  obtain⟨b,us,Y,m2,m3,m4,m5⟩:=r.own j R h;rw[z]at Y;cases Y;rw[m4]at ha;cases ha
 refine⟨r.ext,r.new,r.ins.trans e,r.keep.trans e,by simp[hl],fun j y h=>?_,fun j R h=>?_,fun j l us ws hjl Z U=>?_,r.B5⟩
 .by_cases g:i=j
  .subst g;by_cases hi:i<δ.length
   .rw[List.getElem?_set_self hi]at h;cases h
   .rw[List.getElem?_eq_none (by simp;lia)]at h;cases h
  .rw[List.getElem?_set_ne g]at h;obtain⟨w,Y,m2⟩:=r.dat j y h;exact⟨w,by rw[List.getElem?_set_ne g];exact Y,m2⟩
 .by_cases g:i=j
  .subst g;by_cases hi:i<δ.length
   .rw[List.getElem?_set_self hi]at h;cases h;exact⟨a,ys,by rw[List.getElem?_set_self AC],hG,h0,AR,d⟩
   .rw[List.getElem?_eq_none (by simp;lia)]at h;cases h
  .have h:=other j R g h;obtain⟨b,us,Y,m2,m3,m4,m5⟩:=r.own j R h;exact⟨b,us,by rw[List.getElem?_set_ne g];exact Y,m2,m3,e _ _ m4,m5⟩
 .by_cases g:i=j
  .subst g;have hl2:i≠l:=hjl;have U:=other l ws hl2 U;by_cases hi:i<δ.length
   .rw[List.getElem?_set_self AC,List.getElem?_set_ne hl2];exact fun z=>T l ws U z.symm
   .rw[List.getElem?_eq_none (by simp;lia)]at Z;cases Z
  .have Z:=other j us g Z;by_cases hk:i=l
   .subst hk;by_cases hi:i<δ.length
    .rw[List.getElem?_set_self AC,List.getElem?_set_ne g];exact fun z=>T j us Z z
    .rw[List.getElem?_eq_none (by simp;lia)]at U;cases U
   .have U:=other l ws hk U;rw[List.getElem?_set_ne g,List.getElem?_set_ne hk];exact r.apart j l us ws hjl Z U
def Rw.eQ{i:Nat}{xs R:Oc}{ys:HO}{a:AD}(r:GM)(hi:δ[i]? = some (.own xs))(ha:σ[i]? = some (some Hf))(d:Kw G a R ys):Rw G0 H0 G (upd H a ys) σ (δ.set i (.own R)) ts:=by
 obtain⟨a',ys0,k1,k2,k3,k4,k5⟩:=r.own i xs hi;rw[ha]at k1;cases k1;have U:i<δ.length:=(aD.mp hi).1;have hl:=r.len;refine⟨r.ext,r.new,fun b o h=>?_,fun b o h=>?_,by simp[hl],fun j y h=>?_,fun j zs h=>?_,fun j l us ws Z h1 h2=>?_,r.B5⟩
 .rw[AN (fun z=>by subst z;rw[k2]at h;cases h)];exact r.ins _ _ h
 .rw[AN (fun z=>by subst z;rw[k3]at h;cases h)];exact r.keep _ _ h
 .by_cases g:i=j
  .subst g;rw[List.getElem?_set_self U]at h;cases h
  .rw[List.getElem?_set_ne g]at h;exact r.dat j y h
 .by_cases g:i=j
  .subst g;rw[List.getElem?_set_self U]at h;cases h;exact⟨a,ys,ha,k2,k3,AR,d⟩
  .rw[List.getElem?_set_ne g]at h;obtain⟨b,us,m1,m2,m3,m4,m5⟩:=r.own j zs h;have nb:b≠a:=fun z=>by subst z;exact r.apart i j xs zs g hi h (by rw[ha,m1])
   exact⟨b,us,m1,m2,m3,by rw[AN nb];exact m4,m5⟩
 .have f:∀(j:Nat) (us:Oc),(δ.set i (.own R))[j]? = some (L.own us)->∃T,δ[j]? = some (L.own T):=fun j us h=>by
   by_cases g:i=j
   .subst g;exact⟨xs,hi⟩
   .rw[List.getElem?_set_ne g]at h;exact⟨us,h⟩
  obtain⟨T,h1⟩:=f j us h1;obtain⟨Y,h2⟩:=f l ws h2;exact r.apart j l T Y Z h1 h2
end
section
variable{X:Cx}{a b e:Expr}{es:zD}{f h:yu}{fs:yt}{pos p:Pos}{st:Stmt}{F:DF}
def OD(i:Nat)(g:DS X st F):DS X st (fun δ=>F (GL i δ)):=by
 obtain⟨t,p,k⟩:=g;refine⟨t,p,fun δ r h G0 H0 G H σ D R q=>?_⟩;obtain⟨U,T⟩:=R.GL i;exact k _ r h G0 H0 U H σ D T q
def T5{i:Nat}{x:Str}{g U:Pos}(hN:X.N.Nodup)(hi:X.N[i]? = some x)(Z:Loc X.env.scope x)(ha:DA X es fs)(hs:swapsWith (.List es U) (some (.Name x g)) pos.line X.env=pure false:=by rfl)(hf:X.fn x=true\/X.env.scope.names.lookup x=some .local:=by first|exact .inl rfl|exact .inr rfl|assumption):DS X (.Assign [.Name x g] (.List es U) pos) (fun δ=>((fs δ).bind LB).map fun ys=>.nx (δ.set i (.own IR))):=by
 obtain⟨t,p,k⟩:=ha;refine⟨_,BM hN hi Z (Hl p) hs hf,fun δ r h G0 H0 G H σ D R q=>?_⟩;obtain⟨y,h1,rfl⟩:=aC.mp h;obtain⟨xs,h2,h3⟩:=aB.mp h1;obtain⟨rfl,hl⟩:=QC h3;refine k δ _ h2 G0 H0 G H σ [] _ R fun vs G1 H1 R1 Y=>?_;obtain⟨d,R2⟩:=R1.args Y;exact⟨Hn (by rw[Y];exact hl),fun l T=>q _ _ _ (R2.YJ ⟨_,rfl,d⟩ T)⟩
def ow(i:Nat)(δ:Dv):Option yx:=match δ[i]? with
 |some (.own (.lst xs))=>some xs
 |_=>none
def eh{i:Nat}{δ:Dv}{xs:yx}(h:ow i δ=some xs):δ[i]? = some (.own KB):=by
 unfold ow at h;split at h
 .rename_i y e;cases h;exact e
 .cases h
def QY{i:Nat}{x:Str}{np ap cp:Pos}(hv:PE X Qa (P6 i))(he:DE X e f) (hP:∀ {Z:TE} {t:TA},PE X Qa Z->PA X [e] t->PS X (.Expr (.Call (.Attribute Qa "append" ap) [e] [] cp) pos) (Wl (qO X.K "list" cI Z t)))(T:starEach [e] X.env=Go::starEach [] X.env:=by rfl):DS X (.Expr (.Call (.Attribute Qa "append" ap) [e] [] cp) pos) (fun δ=>(f δ).bind fun y=>(ow i δ).bind fun xs=>if xs.length<D0 then some (.nx (δ.set i (.own (.lst (xs++[y]))))) else none):=by
 obtain⟨t,p,k⟩:=he;refine⟨_,hP hv (AM p Ad T),fun δ r h G0 H0 G H σ D R q=>?_⟩;obtain⟨y,h1,h2⟩:=aB.mp h;obtain⟨xs,h3,U⟩:=aB.mp h2;split at U
 .rename_i hl;cases U;have hi:=eh h3;obtain⟨a,_,g,k2,k3,k4,⟨ys,rfl,k5⟩⟩:=R.own i _ hi;refine⟨.ref a,g,.inl ⟨rfl,ys,Aw.of k4⟩,?_⟩;refine k δ y h1 G0 H0 G H σ [] _ R fun u G1 H1 Y=>?_;obtain⟨a',_,m1,m2,m3,m4,⟨zs,rfl,m5⟩⟩:=Y.own i _ hi;rw[g]at m1;cases m1;refine⟨a,zs,u,rfl,rfl,m4,Uv (by rw[m5.len];lia),?_⟩;exact q _ _ _ (Y.drop.eQ hi g ⟨_,rfl,m5.app (.cons (Y.B5 _ Fa) .nil)⟩)
 .cases U
def Vt{i:Nat}{x:Str}{np ap cp:Pos}(hv:PE X Qa (P6 i))(he:DE X e f)
 (hP:∀ {Z:TE} {t:TA},PE X Qa Z->PA X [e] t->PS X (.Expr (.Call (.Attribute Qa "extend" ap) [e] [] cp) pos) (Wl (qO X.K "list" cN Z t)))(Y:starEach [e] X.env=Go::starEach [] X.env:=by rfl) :
  DS X (.Expr (.Call (.Attribute Qa "extend" ap) [e] [] cp) pos) (fun δ=>(f δ).bind fun y=>(ow i δ).bind fun xs=>match y with|.list zs=>(if xs.length+zs.length<=D0 then some (.nx (δ.set i (.own (.lst (xs++zs))))) else none)|_=>none):=by
 obtain⟨t,p,k⟩:=he;refine⟨_,hP hv (AM p Ad Y),fun δ r h G0 H0 G H σ D R q=>?_⟩;obtain⟨y,h1,h2⟩:=aB.mp h;obtain⟨xs,h3,g⟩:=aB.mp h2;split at g
 .rename_i zs;split at g
  .rename_i hl;cases g;have hi:=eh h3;obtain⟨a,_,U,k2,k3,k4,⟨ys,rfl,k5⟩⟩:=R.own i _ hi;refine⟨.ref a,U,.inl ⟨rfl,ys,Aw.of k4⟩,?_⟩;refine k δ _ h1 G0 H0 G H σ [] _ R fun u G1 H1 T=>?_;obtain⟨a',_,m1,m2,m3,m4,⟨us,rfl,m5⟩⟩:=T.own i _ hi;rw[U]at m1;cases m1;have du:=T.B5 _ Fa;rw[Du]at du;obtain⟨b,ws,rfl,n1,n2⟩:=du;refine⟨a,b,us,ws,rfl,rfl,m4,T.ins _ _ n1,Hn (by rw[m5.len,n2.len];exact hl),?_⟩;exact q _ _ _ (T.drop.eQ hi U ⟨_,rfl,m5.app n2⟩)
  .cases g
 .cases g
end
structure Mi(J:It)(xs:List PyData)(G:Hp):Prop where
 stop:∀H,AL G H->J.stop xs.length H
 go:∀(i:Nat) (d:PyData) H,xs[i]? = some d->AL G H->J.go i H
 Ge:∀(i:Nat) (d:PyData) H x H',xs[i]? = some d->AL G H->J.Ge i H x H'->∀Gc,AL G Gc->AL Gc H->∃Gc',AL Gc Gc'/\Nw Gc H Gc'/\AL Gc' H'/\AL H H'/\Du Gc' d x
def Nw.refl{G H:Hp}:Nw G H G:=fun _ _ h=>.inl h
def md{K:Fg}{G:Hp}{a:AD}{ys:zJ}{xs:yx}(ha:G a=some IR)(d:An G xs ys):Mi (Zv K a) xs G where
 stop:=fun H e=>⟨ys,Aw.of (e _ _ ha),by rw[d.len];exact aJ _⟩
 go:=fun i x H hx e=>by
  obtain⟨v,h1,_⟩:=d.get hx;exact⟨ys,v,Aw.of (e _ _ ha),h1⟩
 Ge:=fun i x H v H' hx e y Gc e1 e2=>by
  obtain⟨rfl,y⟩:=y;have h1:=y ys (Aw.of (e _ _ ha));obtain⟨x',h2,h3⟩:=d.back h1;rw[hx]at h2;cases h2;exact⟨Gc,AL.refl _,Nw.refl,e2,AL.refl _,h3.same e1⟩
def sr{K:Fg}{G:Hp}{a:AD}{ys:zJ}{xs:yx}(ha:G a=some (.tup ys))(d:An G xs ys):Mi (b5 K a) xs G where
 stop:=fun H e=>⟨ys,BK.of (e _ _ ha),by rw[d.len];exact aJ _⟩
 go:=fun i x H hx e=>by
  obtain⟨v,h1,_⟩:=d.get hx;exact⟨ys,v,BK.of (e _ _ ha),h1⟩
 Ge:=fun i x H v H' hx e y Gc e1 e2=>by
  obtain⟨rfl,y⟩:=y;have h1:=y ys (BK.of (e _ _ ha));obtain⟨x',h2,h3⟩:=d.back h1;rw[hx]at h2;cases h2;exact⟨Gc,AL.refl _,Nw.refl,e2,AL.refl _,h3.same e1⟩
def VJ(lo:Int)(n:Nat):yx:=(List.range n).map fun k=>.int (lo+(k:Nat))
def ff{G:Hp}{lo:Int}{n:Nat}:Mi (V3 lo n) (VJ lo n) G where
 stop:=fun H e=>by show n<=_;simp[VJ]
 go:=fun i x H hx e=>by
  have:=(aD.mp hx).1;show i<n
  simpa[VJ]using this
 Ge:=fun i x H v H' hx e y Gc e1 e2=>by
  obtain⟨rfl,rfl⟩:=y;unfold VJ at hx;rw[(CD)]at hx;obtain⟨k,h1,rfl⟩:=aC.mp hx;have hk:k=i:=by
   have:=(aD.mp h1).1;rw[List.getElem?_range (by simpa using this)]at h1;cases h1;rfl
  subst hk;exact⟨Gc,AL.refl _,Nw.refl,e2,AL.refl _,by rw[Du]⟩
def SS{Gc H:Hp}{p:AD}{Z Y:PD}{R g:V}(U:AL Gc H)(T:H p=none)(h1:Du Gc Z R)(h2:Du Gc Y g):∃Gc',AL Gc Gc'/\Nw Gc H Gc'/\AL Gc' (upd H p (.tup [R,g]))/\AL H (upd H p (.tup [R,g]))/\Du Gc' (.tuple [Z,Y]) (.ref p):=by
 have hG:Gc p=none:=by
  cases q:Gc p with
  |none=>rfl
  |some u=>rw[U _ _ q]at T;cases T
 have e:AL Gc (upd Gc p (.tup [R,g])):=Ag hG _;refine⟨upd Gc p (.tup [R,g]),e,fun a o h=>?_,fun a o h=>?_,Ag T _,?_⟩
 .by_cases ha:a=p
  .subst ha;exact .inr (.inl T)
  .rw[AN ha]at h;exact .inl h
 .by_cases ha:a=p
  .subst ha;rw[AR]at h ⊢;exact h
  .rw[AN ha]at h ⊢;exact U _ _ h
 .rw[Du];exact⟨p,[R,g],rfl,AR,.cons (h1.same e) (.cons (h2.same e) .nil)⟩
def Lh(xs:yx):yx:=xs.zipIdx.map fun q=>.tuple [.int (q.2:Nat),q.1]
def Kj{xs:yx}{i:Nat}{d:PD}(h:(Lh xs)[i]? = some d):∃x,xs[i]? = some x/\d=.tuple [.int (i:Nat),x]:=by
 unfold Lh at h;rw[(CD)]at h;obtain⟨q,g,rfl⟩:=aC.mp h;rw[List.getElem?_zipIdx]at g;obtain⟨x,R,rfl⟩:=aC.mp g;exact⟨x,R,by simp⟩
def jD{K:Fg}{G:Hp}{a:AD}{ys:zJ}{xs:yx}(ha:G a=some (.tup ys))(d:An G xs ys):Mi (p9 K a) (Lh xs) G where
 stop:=fun H e=>⟨ys,BK.of (e _ _ ha),by rw[d.len];simp[Lh]⟩
 go:=fun i x H hx e=>by
  obtain⟨x',h0,rfl⟩:=Kj hx;obtain⟨v,h1,_⟩:=d.get h0;exact⟨ys,v,BK.of (e _ _ ha),h1⟩
 Ge:=fun i x H v H' hx e y Gc e1 e2=>by
  obtain⟨x',h0,rfl⟩:=Kj hx;obtain⟨p,u,rfl,hp,rfl,y⟩:=y;have h1:=y ys (BK.of (e _ _ ha));obtain⟨x2,h2,h3⟩:=d.back h1;rw[h0]at h2;cases h2;exact SS e2 hp L1 (h3.same e1)
def kA{K:Fg}{G:Hp}{a:AD}{ys:zJ}{xs:yx}(ha:G a=some IR)(d:An G xs ys):Mi (sE K a) (Lh xs) G where
 stop:=fun H e=>⟨ys,Aw.of (e _ _ ha),by rw[d.len];simp[Lh]⟩
 go:=fun i x H hx e=>by
  obtain⟨x',h0,rfl⟩:=Kj hx;obtain⟨v,h1,_⟩:=d.get h0;exact⟨ys,v,Aw.of (e _ _ ha),h1⟩
 Ge:=fun i x H v H' hx e y Gc e1 e2=>by
  obtain⟨x',h0,rfl⟩:=Kj hx;obtain⟨p,u,rfl,hp,rfl,y⟩:=y;have h1:=y ys (Aw.of (e _ _ ha));obtain⟨x2,h2,h3⟩:=d.back h1;rw[h0]at h2;cases h2;exact SS e2 hp L1 (h3.same e1)
def Su(xs ys:yx):yx:=(xs.zip ys).map fun q=>.tuple [q.1,q.2]
def ZF{xs ys:yx}{i:Nat}{d:PD}(h:(Su xs ys)[i]? = some d):∃x y,xs[i]? = some x/\ys[i]? = some y/\d=.tuple [x,y]:=by
 unfold Su at h;rw[(CD)]at h;obtain⟨q,T,rfl⟩:=aC.mp h;obtain⟨R,g⟩:=List.getElem?_zip_eq_some.mp T;exact⟨q.1,q.2,R,g,rfl⟩
def rV{G:Hp}{b1 b2:Bool}{a1 a2:AD}{us vs:zJ}{xs ys:yx}(h1:G a1=some (if b1 then .tup us else .lst us))(h2:G a2=some (if b2 then .tup vs else .lst vs))(d1:An G xs us)(d2:An G ys vs):Mi (rQ b1 b2 a1 a2) (Su xs ys) G where
 stop:=fun H e=>by
  have k1:=e _ _ h1;have k2:=e _ _ h2;refine⟨us,vs,?_,?_,?_⟩
  .cases b1<;>simpa[Cc]using k1
  .cases b2<;>simpa[Cc]using k2
  .rw[d1.len,d2.len];simp[Su];lia
 go:=fun i x H hx e=>by
  obtain⟨x1,x2,k1,k2,rfl⟩:=ZF hx;obtain⟨v1,k3,_⟩:=d1.get k1;obtain⟨v2,k4,_⟩:=d2.get k2;have m1:=e _ _ h1;have m2:=e _ _ h2;refine⟨us,v1,vs,v2,?_,?_,k3,k4⟩
  .cases b1<;>simpa[Cc]using m1
  .cases b2<;>simpa[Cc]using m2
 Ge:=fun i x H v H' hx e y Gc e1 e2=>by
  obtain⟨x1,x2,k1,k2,rfl⟩:=ZF hx;obtain⟨p,v1,v2,rfl,hp,rfl,y1,y2⟩:=y;have m1:=e _ _ h1;have m2:=e _ _ h2;have z1:=y1 us (by cases b1<;>simpa[Cc]using m1);have z2:=y2 vs (by cases b2<;>simpa[Cc]using m2);obtain⟨w1,n1,n2⟩:=d1.back z1;obtain⟨w2,n3,n4⟩:=d2.back z2;rw[k1]at n1;cases n1;rw[k2]at n3;cases n3;exact SS e2 hp (n2.same e1) (n4.same e1)
def DI(X:Cx)(tg iter:Expr)(f:yt):Prop:=∃g,PI X tg iter g/\∀δ xs,f δ=some xs->∀G0 H0 G H σ ts (R:It->Hp->Prop),Rw G0 H0 G H σ δ ts->(∀J T H',Rw G0 H0 T H' σ δ ts->Mi J xs T->R J H')->g σ H R
section
variable{X:Cx}{tg a b e:Expr}{f g h:yu}{fs:yt}{pos p:Pos}{sts:zM}{F:DF}
def PI.or{U T:TI}(h:PI X tg e U)(h':PI X tg e T):PI X tg e (fun σ H R=>U σ H R\/T σ H R):=fun pins s σ H R I q=>by
 rcases q with q|q
 .exact h pins s σ H R I q
 .exact h' pins s σ H R I q
def GB:PD->Option (List PD)
 |.list xs=>some xs
 |.tuple xs=>some xs
 |_=>none
def C6(he:DE X e f):DI X tg e (fun δ=>(f δ).bind GB):=by
 obtain⟨t,p,k⟩:=he;refine⟨_,(GD p).or (XR p),fun δ xs h G0 H0 G H σ ts R R0 q=>?_⟩;obtain⟨x,h1,Y⟩:=aB.mp h;unfold GB at Y;split at Y
 .cases Y
  left
  refine k δ _ h1 G0 H0 G H σ ts _ R0 fun v G' H' T=>?_;have Z:=T.B5 _ Fa;rw[Du]at Z;obtain⟨a,ys,rfl,U,n2⟩:=Z;exact⟨a,rfl,⟨ys,Aw.of (T.ins _ _ U)⟩,q _ _ _ T.drop (md U n2)⟩
 .cases Y
  right
  refine k δ _ h1 G0 H0 G H σ ts _ R0 fun v G' H' T=>?_;have Z:=T.B5 _ Fa;rw[Du]at Z;obtain⟨a,ys,rfl,U,n2⟩:=Z;exact⟨a,rfl,⟨ys,BK.of (T.ins _ _ U)⟩,q _ _ _ T.drop (sr U n2)⟩
 .cases Y
def dI:List PD->Option (List PD)
 |[.int j]=>if -1000000<=j/\j<=1000000 then some (VJ 0 j.toNat) else none
 |_=>none
def ej:List PD->Option (List PD)
 |[.int i,.int j]=>if -1000000<=i/\i<=1000000/\-1000000<=j/\j<=1000000 then some (VJ i (j-i).toNat) else none
 |_=>none
def Va(hg:Gl X "range")(hm:X.mg "range" = none)(ha:DA X [a] fs)(Z:starEach [a] X.env=[ND]:=by rfl):DI X tg (.Call (.Name "range" p) [a] [] pos) (fun δ=>(fs δ).bind dI):=by
 obtain⟨t,p,k⟩:=ha;refine⟨_,Qb hg hm p Z,fun δ xs h G0 H0 G H σ ts R R0 q=>?_⟩;obtain⟨x,h1,T⟩:=aB.mp h;refine k δ _ h1 G0 H0 G H σ ts _ R0 fun vs G' H' R' Y=>?_;obtain⟨d,R2⟩:=R'.args Y;unfold dI at T;split at T
 .split at T
  .cases T;obtain⟨u,rfl,U⟩:=d.Ks;rw[Du]at U;subst U;exact⟨_,rfl,by lia,by lia,q _ _ _ R2 ff⟩
  .cases T
 .cases T
def WN(hg:Gl X "range")(hm:X.mg "range" = none)(ha:DA X [a,b] fs)(hs:starEach [a,b] X.env=[ND,LJ]:=by rfl)(U:starEach [b] X.env=[LJ]:=by rfl):DI X tg (.Call (.Name "range" p) [a,b] [] pos) (fun δ=>(fs δ).bind ej):=by
 obtain⟨t,p,k⟩:=ha;refine⟨_,iz hg hm p hs U,fun δ xs h G0 H0 G H σ ts R R0 q=>?_⟩;obtain⟨x,h1,T⟩:=aB.mp h;refine k δ _ h1 G0 H0 G H σ ts _ R0 fun vs G' H' R' hv=>?_;obtain⟨d,R2⟩:=R'.args hv;unfold ej at T;split at T
 .split at T
  .cases T;obtain⟨u,v,rfl,Z,Y⟩:=d.Mv;rw[Du]at Z Y;subst Z Y;exact⟨_,_,rfl,⟨by lia,by lia,by lia,by lia⟩,q _ _ _ R2 ff⟩
  .cases T
 .cases T
def UN:List PD->Option (List PD)
 |[.list xs]=>some (Lh xs)
 |[.tuple xs]=>some (Lh xs)
 |_=>none
def VA{elts:zD}{x1}{T:Pos}(hg:Gl X "enumerate")(hm:X.mg "enumerate" = none)(ha:DA X [a] fs)(hs:starEach [a] X.env=[ND]:=by rfl):DI X (.Tuple elts x1 T) (.Call (.Name "enumerate" p) [a] [] pos) (fun δ=>(fs δ).bind UN):=by
 obtain⟨t,p,k⟩:=ha;refine⟨_,(jL hg hm p hs).or (mZ hg hm p hs),fun δ xs h G0 H0 G H σ ts R R0 q=>?_⟩;obtain⟨x,h1,Y⟩:=aB.mp h;unfold UN at Y;split at Y
 .cases Y
  left
  refine k δ _ h1 G0 H0 G H σ ts _ R0 fun vs G' H' R' hv=>?_;obtain⟨d,R2⟩:=R'.args hv;obtain⟨u,rfl,Z⟩:=d.Ks;rw[Du]at Z;obtain⟨a,ys,rfl,U,n2⟩:=Z;exact⟨a,rfl,⟨ys,Aw.of (R2.ins _ _ U)⟩,q _ _ _ R2 (kA U n2)⟩
 .cases Y
  right
  refine k δ _ h1 G0 H0 G H σ ts _ R0 fun vs G' H' R' hv=>?_;obtain⟨d,R2⟩:=R'.args hv;obtain⟨u,rfl,Z⟩:=d.Ks;rw[Du]at Z;obtain⟨a,ys,rfl,U,n2⟩:=Z;exact⟨a,rfl,⟨ys,BK.of (R2.ins _ _ U)⟩,q _ _ _ R2 (jD U n2)⟩
 .cases Y
def zip2:List PD->Option (List PD)
 |[x,y]=>(GB x).bind fun xs=>(GB y).map fun ys=>Su xs ys
 |_=>none
def JE{G:Hp}{x:PD}{v:V}{xs:yx}(h:Du G x v)(e:GB x=some xs):∃(b:Bool) (a:AD) (ys:zJ),v=.ref a/\G a=some (if b then .tup ys else .lst ys)/\An G xs ys:=by
 unfold GB at e;split at e
 .cases e;rw[Du]at h;obtain⟨a,ys,rfl,T,R⟩:=h;exact⟨false,a,ys,rfl,T,R⟩
 .cases e;rw[Du]at h;obtain⟨a,ys,rfl,T,R⟩:=h;exact⟨true,a,ys,rfl,T,R⟩
 .cases e
def sd{elts:zD}{x1}{T:Pos}(hg:Gl X "zip")(hm:X.mg "zip" = none)(ha:DA X [a,b] fs)(hs:starEach [a,b] X.env=[ND,LJ]:=by rfl)(Y:starEach [b] X.env=[LJ]:=by rfl):DI X (.Tuple elts x1 T) (.Call (.Name "zip" p) [a,b] [] pos) (fun δ=>(fs δ).bind zip2):=by
 obtain⟨t,p,k⟩:=ha;refine⟨_,YQ hg hm p hs Y,fun δ xs h G0 H0 G H σ ts R R0 q=>?_⟩;obtain⟨x,h1,U⟩:=aB.mp h;refine k δ _ h1 G0 H0 G H σ ts _ R0 fun vs G' H' R' hv=>?_;obtain⟨d,R2⟩:=R'.args hv;unfold zip2 at U;split at U
 .obtain⟨xs1,h3,h4⟩:=aB.mp U;obtain⟨ys1,h5,rfl⟩:=aC.mp h4;obtain⟨u,v,rfl,du,dv⟩:=d.Mv;obtain⟨b1,a1,us,rfl,Z,n2⟩:=JE du h3;obtain⟨b2,a2,ws,rfl,m1,m2⟩:=JE dv h5;have s1:=R2.ins _ _ Z;have s2:=R2.ins _ _ m1;exact⟨b1,b2,a1,a2,rfl,⟨us,by cases b1<;>simpa[Cc]using s1⟩,⟨ws,by cases b2<;>simpa[Cc]using s2⟩,q _ _ _ R2 (rV Z m1 n2 m2)⟩
 .cases U
def DG(X:Cx)(tg:Expr)(set:Sc):Prop:=∃g,PG X tg g/\∀δ x T,set x δ=some T->∀G0 H0 G H σ v (Q:St->Hp->Prop),Rw G0 H0 G H σ δ [(x,v)]->(∀R U H',Rw G0 H0 U H' R T []->Q R H')->g v σ H Q
def FA{i:Nat}{x:Str}(h:PG X (.Name x pos) (F5 i)):DG X (.Name x pos) (fun y δ=>some (δ.set i (.d y))) :=
 ⟨_,h,fun δ y T e G0 H0 G H σ v Q R k=>by cases e;exact k _ _ _ R.IE⟩
def Fw(i j:Nat)(y:PD)(δ:Dv):Option Dv:=match y with
 |.tuple [u,v]=>some ((δ.set i (.d u)).set j (.d v))
 |_=>none
def MF{x y:Str}{i j:Nat}{Z Y:Pos}{k1}(h:PG X (.Tuple [.Name x Z,.Name y Y] k1 pos) (dj X.K 2 (Mu (F5 i) (Mu (F5 j) dG)))):DG X (.Tuple [.Name x Z,.Name y Y] k1 pos) (Fw i j):=by
 refine⟨_,h,fun δ z δ' e G0 H0 G H σ v Q R k=>?_⟩;unfold Fw at e;split at e
 .cases e;have du:=R.B5 _ Fa;rw[Du]at du;obtain⟨a,ys,rfl,n1,n2⟩:=du;obtain⟨U,T,rfl,m1,m2⟩:=n2.Mv;refine⟨a,[U,T],rfl,BK.of (R.ins _ _ n1),rfl,U,[T],rfl,T,[],rfl,rfl,?_⟩;exact k _ _ _ (((R.drop.put m2).put m1).IE.IE)
 .cases e
def Mb(set:Sc)(T:DF):List PD->Dv->Option Ou
 |[],δ=>some (.nx δ)
 |x::xs,δ=>match (set x δ).bind T with
  |some (.nx R)=>Mb set T xs R
  |some (.ct R)=>Mb set T xs R
  |some (.bk R)=>some (.nx R)
  |some (.rt v)=>some (.rt v)
  |some (.rn v)=>some (.rn v)
  |none=>none
def Dj{set:Sc}(hp:PassesOwn Ch X.A X.env X.xe)(hc:bi)(hi:DI X tg e fs)(hg:DG X tg set)(hb:T2 X sts F)(hs:∀x,foldedSetIterable e X.env x=pure x:=by intro _;rfl):DS X (.For tg e sts [] pos) (fun δ=>(fs δ).bind fun xs=>Mb set F xs δ):=by
 obtain⟨wi,pi,ki⟩:=hi;obtain⟨g,pg,kg⟩:=hg;obtain⟨tb,pb,kb⟩:=hb;refine⟨_,MO hp hc pi pg pb hs,fun δ r h G0 H0 G H σ D R q=>?_⟩;obtain⟨xs,h1,h2⟩:=aB.mp h;refine ki δ xs h1 G0 H0 G H σ [] _ R fun J Ga Ha Ra it=>?_;refine⟨fun i m U H'=>m=xs.length-i/\i<=xs.length/\∃T G',Mb set F (xs.drop i) T=some r/\Rw G0 H0 G' H' U T []/\AL Ga G',⟨xs.length,by simp,Nat.zero_le _,δ,Ga,by simpa using h2,Ra,AL.refl _⟩,?_⟩;rintro i m σ1 H1 ⟨rfl,hi,δ1,G1,f1,R1,s1⟩;have sH:AL Ga H1:=s1.trans R1.ins;by_cases Z:i<xs.length
 .right
  have hx:xs[i]? = some xs[i]:=by simp[Z]
  refine⟨it.go i _ H1 hx sH,fun U H'=>i+1<=xs.length/\∃T G',Mb set F (xs.drop MS) T=some r/\Rw G0 H0 G' H' U T []/\AL Ga G',fun U H' n=>⟨xs.length-MS,by lia,rfl,n⟩,fun x H' y=>?_⟩;obtain⟨G2,e1,e2,e3,e4,e5⟩:=it.Ge i _ H1 x H' hx sH y G1 s1 R1.ins;have R2:=(R1.lift e1 e2 e3 e4).put e5;have s2:=s1.trans e1;rw[List.drop_eq_getElem_cons Z]at f1;unfold Mb at f1;cases hb2:(set xs[i] δ1).bind F with
  |none=>rw[hb2]at f1;cases f1
  |some o=>
   obtain⟨δ2,k1,k2⟩:=aB.mp hb2;rw[hb2]at f1;have R2b:=R2.base;refine kg δ1 _ δ2 k1 G2 H0 G2 H' σ1 x _ R2b fun σ3 G3 H3 R3=>?_;refine kb δ2 o k2 G2 H0 G3 H3 σ3 _ R3 ?_;cases o with
   |nx Y=>exact fun σ4 G4 H4 R4=>⟨Z,Y,G4,f1,R2.drop.Yh R4,s2.trans R4.ext⟩
   |ct Y=>exact fun σ4 G4 H4 R4=>⟨Z,Y,G4,f1,R2.drop.Yh R4,s2.trans R4.ext⟩
   |bk Y=>cases f1;exact fun σ4 G4 H4 R4=>q σ4 G4 H4 (R2.drop.Yh R4)
   |rt v=>cases f1;exact fun w G4 H4 h1 h2 h3 h4 h5=>q w G4 H4 (R2.ext.trans h1) (R2.new.trans h2) h3 h4 h5
   |rn v=>cases f1;exact fun w ys G4 H4 h1 h2=>q w ys G4 H4 (R2.ext.trans h1) (R2.new.trans h2)
 .left
  have e:i=xs.length:=by lia
  subst e;refine⟨it.stop H1 sH,?_⟩;rw[List.drop_length]at f1;unfold Mb at f1;cases f1;exact q _ _ _ R1
end
def tD(f:yu):TE:=fun σ H Q=>∃δ x G0 H0 G ts,f δ=some x/\Rw G0 H0 G H σ δ ts/\∀v g H',Rw G0 H0 g H' σ δ ((x,v)::ts)->Q v H'
def fh(f:yw):TT:=fun σ H Q=>∃δ x G0 H0 G ts,f δ=some x/\Rw G0 H0 G H σ δ ts/\∀g H',Rw G0 H0 g H' σ δ ts->Q x H'
def DE.pe{X:Cx}{e:Expr}{f:yu}(h:DE X e f):PE X e (tD f):=by
 obtain⟨t,p,k⟩:=h;intro pins s σ H Q I q;obtain⟨δ,x,G0,H0,G,ts,T,R,g⟩:=q;exact p pins s σ H Q I (k δ x T G0 H0 G H σ ts Q R g)
def DT.pt{X:Cx}{e:Expr}{f:yw}(h:DT X e f):PT X e (fh f):=by
 obtain⟨t,p,k⟩:=h;intro pins s σ H Q I q;obtain⟨δ,x,G0,H0,G,ts,T,R,g⟩:=q;exact p pins s σ H Q I (k δ x T G0 H0 G H σ ts Q R g)
def Zm(X:Cx)(g:zD)(f:yw):Prop:=Pd X g (fh f)
def HC{X:Cx}:Zm X [] (fun _=>some true):=by
 intro pins s σ H Q I q;obtain⟨δ,x,G0,H0,G,ts,T,R,g⟩:=q;cases T;exact GP pins s σ H Q I (g _ _ R)
def mh{X:Cx}{c:Expr}{f:yw}(h:DT X c f):Zm X [c] f:=oQ h.pt
def B9(fr:zO)(δ:Dv):Dv:=fr.map fun o=>match o with
 |some j=>(match δ[j]? with|some (.d x)=>.d x|_=>.no)
 |none=>.no
def Rw.inner{G0 H0 G H:Hp}{σ:St}{δ:Dv}{ts:Qi}(fr:zO)(r:GM):Rw G H G H (carry fr σ) (B9 fr δ) ts:=by
 have key:∀(i:Nat) (l:L),(B9 fr δ)[i]? = some l->∃o,fr[i]? = some o/\l=(match o with|some j=>(match δ[j]? with|some (.d x)=>.d x|_=>.no)|none=>.no):=fun i l h=>by
  unfold B9 at h;rw[(CD)]at h;obtain⟨o,T,rfl⟩:=aC.mp h;exact⟨o,T,rfl⟩
 have g:∀(i:Nat) (xs:Oc),(B9 fr δ)[i]?≠some (L.own xs):=fun i xs h=>by
  obtain⟨o,_,R⟩:=key i _ h;split at R
  .split at R<;>cases R
  .cases R
 refine⟨AL.refl _,Nw.refl,r.ins,AL.refl _,by simp[carry,B9],fun i x h=>?_,fun i xs h=>absurd h (g i xs),fun i j xs ys _ h=>absurd h (g i xs),r.B5⟩;obtain⟨o,T,R⟩:=key i _ h;split at R
 .rename_i j;split at R
  .rename_i y Z;cases R;obtain⟨v,Y,U⟩:=r.dat j _ Z;refine⟨v,?_,U⟩;unfold carry;rw[(CD),T];simp[Y]
  .cases R
 .cases R
def Rw.other{G0 H0 G H:Hp}{σ:St}{δ:Dv}{ts:Qi}{D:AD}{o:HO}(r:GM)(hG:G D=none)(h0:H0 D=none)(Z:∀(i:Nat) (xs:Oc),δ[i]? = some (L.own xs)->σ[i]?≠some (some (V.ref D))):Rw G0 H0 G (upd H D o) σ δ ts:=by
 refine⟨r.ext,r.new,fun a u h=>?_,fun a u h=>?_,r.len,r.dat,fun i xs h=>?_,r.apart,r.B5⟩
 .rw[AN (fun z=>by subst z;rw[hG]at h;cases h)];exact r.ins _ _ h
 .rw[AN (fun z=>by subst z;rw[h0]at h;cases h)];exact r.keep _ _ h
 .obtain⟨a,ys,g,Y,U,T,R⟩:=r.own i xs h;exact⟨a,ys,g,Y,U,by rw[AN (fun z=>by subst z;exact Z i xs h g)];exact T,R⟩
def Rw.adopt{G0 H0 G H:Hp}{σ:St}{δ:Dv}{ts:Qi}{D:AD}{ys:zJ}(r:GM)(hD:H D=some IR)(hG:G D=none)(h0:H0 D=none)(ho:∀(i:Nat) (xs:Oc),δ[i]? = some (L.own xs)->σ[i]?≠some (some (V.ref D))):Rw G0 H0 (upd G D IR) H σ δ ts:=by
 have e:AL G (upd G D IR):=Ag hG _;refine⟨r.ext.trans e,fun a u h=>?_,fun a u h=>?_,r.keep,r.len,fun i x h=>?_,fun i xs h=>?_,r.apart,fun q hq=>(r.B5 q hq).same e⟩
 .by_cases ha:a=D
  .subst ha;exact .inr (.inl h0)
  .rw[AN ha]at h;exact r.new _ _ h
 .by_cases ha:a=D
  .subst ha;rw[AR]at h;rw[hD];exact h
  .rw[AN ha]at h;exact r.ins _ _ h
 .obtain⟨v,g,R⟩:=r.dat i x h;exact⟨v,g,R.same e⟩
 .obtain⟨a,T,g,R,Z,Y,U⟩:=r.own i xs h;have ha:a≠D:=fun z=>by subst z;exact ho i xs h g
  exact⟨a,T,g,by rw[AN ha];exact R,Z,Y,U.same e⟩
def Gq(set:Sc)(R:yw)(f:yu)(δ:Dv)(x:PD):Option y7 :=
 (set x δ).bind fun g=>(R g).bind fun b=>if b=true then(f g).map some else some none
def collect(one:PD->Option (Option PD)):List PD->Option (List PD)
 |[]=>some []
 |x::xs=>(one x).bind fun o=>(collect one xs).map fun r=>o.toList++r
def CV(set:Sc)(g:yw)(f:yu)(fr:zO)(fs:yt)(δ:Dv):Option yx :=
 (fs δ).bind fun xs=>(collect (Gq set g f (B9 fr δ)) xs).bind LB
def Hy(set:Sc)(g:yw)(f:yu)(fr:zO)(fs:yt)(δ:Dv):y7 :=
 (CV set g f fr fs δ).map .list
structure cU(G0 H0 Ga:Hp)(σ:St)(δ:Dv)(ts:List (PyData×V))(one:PyData->Option (Option PyData))(xs full:List PyData)(D:Addr)(i:Nat)(ys:IZ)(H:Hp):Prop where
 ex:∃G done rest,Rw G0 H0 G H σ δ ts/\AL Ga G/\G D=none/\collect one (xs.drop i)=some rest/\done++rest=full/\An G done ys
 h0:H0 D=none
 ap:∀(j:Nat) (us:Oc),δ[j]? = some (L.own us)->σ[j]?≠some (some (V.ref D))
def U8{G0 H0 G H:Hp}{D:AD}{ys:zJ}(R:G0 D=none)(g:H0 D=some IR)(n:Nw G0 H0 G)(e:AL G H)(k:AL H0 H):G D=none:=by
 cases q:G D with
 |none=>rfl
 |some o=>
  rcases n _ _ q with z|z|⟨us,z⟩
  .rw[R]at z;cases z
  .rw[g]at z;cases z
  .have:=e _ _ q;rw[k _ _ g,z]at this;cases this
section
variable{X:Cx}{elt iter:Expr}{x y:Str}{px pos:Pos}{ifs:zD}{scope:Scope}{fs:yt}{tif:yw}{f:yu}
def Cm(i:Nat)(y:PD)(δ:Dv):Option Dv:=some (δ.set i (.d y))
def Tg{wi:TI}{ix:Nat}{fr:zO}(ki:io){δ:Dv}{zs:yx}(hz:CV (Cm ix) tif f fr fs δ=some zs){G0 H0 G H:Hp}{σ:St}{ts:Qi}{Q:VK}(R0:GM)(k:im):Qu wi fr ix (fh tif) (tD f) σ H Q:=by
 unfold CV at hz;obtain⟨xs,m2,m3⟩:=aB.mp hz;obtain⟨full,m4,m5⟩:=aB.mp m3;obtain⟨rfl,hfew⟩:=QC m5;refine ki δ xs m2 G0 H0 G H σ ts _ R0 fun J Ga Ha Ra it D hD=>?_;have hGD:Ga D=none:=by
  cases q:Ga D with
  |none=>rfl
  |some u=>rw[Ra.ins _ _ q]at hD;cases hD
 have T:H0 D=none:=by
  cases q:H0 D with
  |none=>rfl
  |some u=>rw[Ra.keep _ _ q]at hD;cases hD
 have g:∀(j:Nat) (us:Oc),δ[j]? = some (L.own us)->σ[j]?≠some (some (V.ref D)):=fun j us h z=>by
  obtain⟨a,ys,k1,k2,k3,k4,k5⟩:=Ra.own j us h;rw[z]at k1;cases k1;rw[k4]at hD;cases hD
 refine Hv (n:=xs.length) (cU G0 H0 Ga σ δ ts (Gq (Cm ix) tif f (B9 fr δ)) xs full D) ⟨⟨Ga,[],full,Ra.other hGD T g,AL.refl _,hGD,by simpa using m4,rfl,.nil⟩,T,g⟩ ?_ ?_
 .rintro i ys H1 hlt ⟨⟨G1,done,rest,R1,s1,g1,c1,e1,d1⟩,_,_⟩ hD1;have hx:xs[i]? = some xs[i]:=by simp[hlt]
  have sH:=s1.trans R1.ins;have hyl:ys.length<sizeLine:=Uv (by
   rw[d1.len];have:done.length<=full.length:=by rw[<-e1];simp
   lia)
  refine⟨it.go i _ H1 hx sH,hyl,fun v H' y=>?_⟩;obtain⟨G2,n1,n2,n3,n4,n5⟩:=it.Ge i _ H1 v H' hx sH y G1 s1 R1.ins;have R2:=R1.lift n1 n2 n3 n4;have hD2:=n4 _ _ hD1;have g2:G2 D=none:=U8 g1 hD1 n2 n3 n4;rw[List.drop_eq_getElem_cons hlt]at c1;unfold collect at c1;obtain⟨o,c2,c3⟩:=aB.mp c1;obtain⟨U,c4,rfl⟩:=aC.mp c3;unfold Gq Cm at c2;simp only[Option.bind_some]at c2;obtain⟨b,c5,c6⟩:=aB.mp c2;have Ri:=((R2.inner fr).put n5).IE (i:=ix);have Ri0:Rw G2 H' G2 H' ((carry fr σ).set ix (some v)) ((B9 fr δ).set ix (.d xs[i])) []:=Ri.less fun q hq=>by cases hq
  refine⟨_,b,G2,H',G2,[],c5,Ri0,fun G3 H3 Z=>?_⟩;have R3o:=R2.lift Z.ext Z.new Z.ins Z.keep;have hD3:=Z.keep _ _ hD2;have g3:G3 D=none:=U8 g2 hD2 Z.new Z.ins Z.keep;dsimp only;split
  .rename_i hb;rw[if_pos hb]at c6;obtain⟨w,c7,rfl⟩:=aC.mp c6;refine⟨_,w,G2,H',G3,[],c7,Z,fun u G4 H4 Y=>?_⟩;have R4o:=R2.lift Y.ext Y.new Y.ins Y.keep;have hD4:=Y.keep _ _ hD2;have g4:G4 D=none:=U8 g2 hD2 Y.new Y.ins Y.keep;refine⟨hD4,FW hlt ⟨⟨G4,done++[w],U,R4o.other g4 T g,s1.trans (n1.trans Y.ext),g4,c4,by simpa using e1,(d1.same (n1.trans Y.ext)).app (.cons (Y.B5 _ Fa) .nil)⟩,T,g⟩⟩
  .rename_i hb;rw[if_neg hb]at c6;cases c6;exact Z6 hlt hD3 ⟨⟨G3,done,U,R3o,s1.trans (n1.trans Z.ext),g3,c4,by simpa using e1,d1.same (n1.trans Z.ext)⟩,T,g⟩
 .rintro ys H1 ⟨⟨G1,done,rest,R1,s1,g1,c1,e1,d1⟩,_,_⟩ hD1;refine⟨it.stop H1 (s1.trans R1.ins),?_⟩;rw[List.drop_length]at c1;cases c1;rw[(Qh)]at e1;subst e1;exact k _ _ _ _ R1 hD1 g1 T g d1
def Vv{Z:TI}{ix:Nat}{fr:zO}(ki:∀(δ:Dv) (xs:yx),fs δ=some xs->∀(G0 H0 G H:Hp) (σ:St) (ts:Qi) (R:It->Hp->Prop),Rw G0 H0 G H σ δ ts->(∀J g H',Rw G0 H0 g H' σ δ ts->Mi J xs g->R J H')->Z σ H R){δ:Dv}{z:PD}(hz:Hy (Cm ix) tif f fr fs δ=some z){G0 H0 G H:Hp}{σ:St}{ts:Qi}{Q:VK}(R0:GM)(k:∀v g H',Rw G0 H0 g H' σ δ ((z,v)::ts)->Q v H'):Qu Z fr ix (fh tif) (tD f) σ H Q:=by
 unfold Hy at hz;obtain⟨full,m1,rfl⟩:=aC.mp hz;refine Tg ki m1 R0 fun D ys G1 H1 R1 Y g1 U T d1=>?_;have e:AL G1 (upd G1 D IR):=Ag g1 _;have R2:=R1.adopt Y g1 U T;refine k _ _ _ (R2.put ?_);rw[Du];exact⟨D,ys,rfl,AR,d1.same e⟩
def N4(N:zC)(ix:Nat)(fr:zO)(hi:DI X (.Name x px) iter fs)(g:∀cl C s₀ H₀ fp,Zm Cl ifs tif)(Y:∀cl C s₀ H₀ fp,DE Cl elt f) (h1:C7 scope N x ix=true:=by decide +kernel)(h2:X.calm=true:=by rfl)(h3:HI N X.N scope X.env.scope fr 0=true:=by rfl)(h4:fr.length=N.length:=by rfl)(Z:freeOk X.env.scope scope.names=true:=by rfl) (U:∀x,foldedSetIterable iter X.env x=pure x:=by intro _;rfl):DE X EQ (Hy (Cm ix) tif f fr fs):=by
 obtain⟨wi,pi,R⟩:=hi;exact⟨_,HY N ix fr pi g (fun cl C s₀ H₀ fp=>(Y cl C s₀ H₀ fp).pe) h1 h2 h3 h4 Z U,fun δ z T G0 H0 G H σ ts Q R0 k=>Vv R T R0 k⟩
end
section
variable{X:Cx}{x y:Str}{fs:yt}{tif:yw}{f:yu}
def ZL{wi:TI}{ix iy:Nat}{fr:zO}(ki:io){δ:Dv}{zs:yx}(hz:CV (Fw ix iy) tif f fr fs δ=some zs){G0 H0 G H:Hp}{σ:St}{ts:Qi}{Q:VK}(R0:GM)(k:im):XB X.K wi fr ix iy (fh tif) (tD f) σ H Q:=by
 unfold CV at hz;obtain⟨xs,m2,m3⟩:=aB.mp hz;obtain⟨full,m4,m5⟩:=aB.mp m3;obtain⟨rfl,hfew⟩:=QC m5;refine ki δ xs m2 G0 H0 G H σ ts _ R0 fun J Ga Ha Ra it D hD=>?_;have hGD:Ga D=none:=by
  cases q:Ga D with
  |none=>rfl
  |some u=>rw[Ra.ins _ _ q]at hD;cases hD
 have T:H0 D=none:=by
  cases q:H0 D with
  |none=>rfl
  |some u=>rw[Ra.keep _ _ q]at hD;cases hD
 have g:∀(j:Nat) (us:Oc),δ[j]? = some (L.own us)->σ[j]?≠some (some (V.ref D)):=fun j us h z=>by
  obtain⟨a,ys,k1,k2,k3,k4,k5⟩:=Ra.own j us h;rw[z]at k1;cases k1;rw[k4]at hD;cases hD
 refine SE (n:=xs.length) (cU G0 H0 Ga σ δ ts (Gq (Fw ix iy) tif f (B9 fr δ)) xs full D) ⟨⟨Ga,[],full,Ra.other hGD T g,AL.refl _,hGD,by simpa using m4,rfl,.nil⟩,T,g⟩ ?_ ?_
 .rintro i ys H1 hlt ⟨⟨G1,done,rest,R1,s1,g1,c1,e1,d1⟩,_,_⟩ hD1;have hx:xs[i]? = some xs[i]:=by simp[hlt]
  have sH:=s1.trans R1.ins;have hyl:ys.length<sizeLine:=Uv (by
   rw[d1.len];have:done.length<=full.length:=by rw[<-e1];simp
   lia)
  refine⟨it.go i _ H1 hx sH,hyl,fun v H' y=>?_⟩;obtain⟨G2,n1,n2,n3,n4,n5⟩:=it.Ge i _ H1 v H' hx sH y G1 s1 R1.ins;have R2:=R1.lift n1 n2 n3 n4;have hD2:=n4 _ _ hD1;have g2:G2 D=none:=U8 g1 hD1 n2 n3 n4;rw[List.drop_eq_getElem_cons hlt]at c1;unfold collect at c1;obtain⟨o,c2,c3⟩:=aB.mp c1;obtain⟨U,c4,rfl⟩:=aC.mp c3;unfold Gq at c2;obtain⟨δ1,c8,c9⟩:=aB.mp c2;obtain⟨b,c5,c6⟩:=aB.mp c9;unfold Fw at c8;split at c8
  .rename_i u1 u2 hu;cases c8;rw[hu,Du]at n5;obtain⟨pa,ps,rfl,q1,q2⟩:=n5;obtain⟨w1,w2,rfl,q3,q4⟩:=q2.Mv;have Ri:=(((R2.inner fr).put q4).put q3).IE (i:=ix) |>.IE (i:=iy)
   have Ri0:Rw G2 H' G2 H' (((carry fr σ).set ix (some w1)).set iy (some w2)) (((B9 fr δ).set ix (.d u1)).set iy (.d u2)) []:=Ri.less fun q hq=>by cases hq
   refine⟨pa,w1,w2,rfl,BK.of (n3 _ _ q1),?_⟩;refine⟨_,b,G2,H',G2,[],c5,Ri0,fun G3 H3 Z=>?_⟩;have R3o:=R2.lift Z.ext Z.new Z.ins Z.keep;have hD3:=Z.keep _ _ hD2;have g3:G3 D=none:=U8 g2 hD2 Z.new Z.ins Z.keep;dsimp only;split
   .rename_i hb;rw[if_pos hb]at c6;obtain⟨w,c7,rfl⟩:=aC.mp c6;refine⟨_,w,G2,H',G3,[],c7,Z,fun u G4 H4 Y=>?_⟩;have R4o:=R2.lift Y.ext Y.new Y.ins Y.keep;have hD4:=Y.keep _ _ hD2;have g4:G4 D=none:=U8 g2 hD2 Y.new Y.ins Y.keep;refine⟨hD4,FW hlt ⟨⟨G4,done++[w],U,R4o.other g4 T g,s1.trans (n1.trans Y.ext),g4,c4,by simpa using e1,(d1.same (n1.trans Y.ext)).app (.cons (Y.B5 _ Fa) .nil)⟩,T,g⟩⟩
   .rename_i hb;rw[if_neg hb]at c6;cases c6;exact Z6 hlt hD3 ⟨⟨G3,done,U,R3o,s1.trans (n1.trans Z.ext),g3,c4,by simpa using e1,d1.same (n1.trans Z.ext)⟩,T,g⟩
  .cases c8
 .rintro ys H1 ⟨⟨G1,done,rest,R1,s1,g1,c1,e1,d1⟩,_,_⟩ hD1;refine⟨it.stop H1 (s1.trans R1.ins),?_⟩;rw[List.drop_length]at c1;cases c1;rw[(Qh)]at e1;subst e1;exact k _ _ _ _ R1 hD1 g1 T g d1
def Je(N:zC)(ds:yx):Dv:=ds.map .d++List.replicate (N.length-ds.length) .no
def Cf(ps N:zC)(F:DF)(ds:yx):y7:=if ds.length=ps.length then(match F (Je N ds) with
 |some (.rt x)=>some x
 |some (.nx _)=>some .none
 |some (.rn xs)=>some (.list xs)
 |_=>none) else none
theorem Rw.start{N:zC}{ds:yx}{vs:zJ}{G H:Hp}(d:An G ds vs)(e:AL G H):Rw G H G H (start N vs) (Je N ds) []:=by
 have U:=d.len;refine⟨AL.refl _,Nw.refl,e,AL.refl _,by simp[L2.start,Je,U],fun i x h=>?_,fun i xs h=>?_,fun i j xs ys _ h=>?_,fun q T=>by cases T⟩
 .unfold Je at h;by_cases hi:i<ds.length
  .rw[List.getElem?_append_left (by simpa using hi),(CD)]at h;obtain⟨y,R,g⟩:=aC.mp h;cases g;obtain⟨v,Z,Y⟩:=d.get R;refine⟨v,?_,Y⟩;unfold L2.start;rw[List.getElem?_append_left (by simp;lia),(CD),Z];rfl
  .rw[List.getElem?_append_right (by simpa using hi),List.getElem?_replicate]at h;split at h<;>cases h
 .unfold Je at h;by_cases hi:i<ds.length
  .rw[List.getElem?_append_left (by simpa using hi),(CD)]at h;obtain⟨y,R,g⟩:=aC.mp h;cases g
  .rw[List.getElem?_append_right (by simpa using hi),List.getElem?_replicate]at h;split at h<;>cases h
 .unfold Je at h;by_cases hi:i<ds.length
  .rw[List.getElem?_append_left (by simpa using hi),(CD)]at h;obtain⟨y,R,g⟩:=aC.mp h;cases g
  .rw[List.getElem?_append_right (by simpa using hi),List.getElem?_replicate]at h;split at h<;>cases h
def l7{G H g H':Hp}{a:AD}{ys:zJ}{xs:yx}(m1:AL G g)(m2:Nw G H g)(m3:AL g H')(Z:H a=none)(T:g a=none)(Y:H' a=some IR)(U:An g xs ys):AL G (upd g a IR)/\Nw G H (upd g a IR)/\AL (upd g a IR) H'/\Du (upd g a IR) (.list xs) Hf:=by
 refine⟨m1.trans (Ag T _),fun b o R=>?_,fun b o R=>?_,?_⟩
 .by_cases z:b=a
  .subst z;exact .inr (.inl Z)
  .rw[AN z]at R;exact m2 _ _ R
 .by_cases z:b=a
  .subst z;rw[AR]at R;rw[Y];exact R
  .rw[AN z]at R;exact m3 _ _ R
 .rw[Du];exact⟨a,ys,rfl,AR,U.same (Ag T _)⟩
def Fc{P:F0b}{w:F0c}{K:Fg}{mg:y0}{base:Heap}{x:Str}{st:Stmt}{Z:AD}{fd:F0a}{N ps:zC}{k:Nat}{F:DF}(T:Fn K mg x st ps Z fd)(S:Ac N ps (AO st)) (hb:∀(cdv:VL) (A:F0d) (outer:zN) (s:SD) (H:Hp) (E:XK),EN k (A.deeper (envOfC x (AO st) s.heap.objs.size Z cdv))->T2 (DZ Af P w K mg base N x (AO st) Z cdv A outer s H E).LG (E9 st) F):AK P w K mg base Af Pi Z fd ps (A6 (Cf ps N F)):=by
 refine T.F.ok S KT fun cdv A outer s H vs Q E hr h=>?_
 .obtain⟨ds,y,G,g,U,_⟩:=h;unfold Cf at g;split at g
  .rename_i hl;rw[U.len];exact hl
  .cases g
 .obtain⟨ds,y,G,g,U,h3,h4⟩:=h;obtain⟨t,p,kk⟩:=hb cdv A outer s H E hr;refine⟨t,p,?_⟩;unfold Cf at g;split at g
  .split at g
   .rename_i z Y;cases g;exact kk _ _ Y G H G H _ _ (Rw.start U h3) fun v G' H' m1 m2 m3 m4 m5=>h4 v G' H' m1 m2 m3 m4 m5
   .rename_i δ Y;cases g;exact kk _ _ Y G H G H _ _ (Rw.start U h3) fun σ' G' H' R=>h4 .BP G' H' R.ext R.new R.ins R.keep L1
   .rename_i xs Y;cases g;exact kk _ _ Y G H G H _ _ (Rw.start U h3) fun a ys G' H' m1 m2 m3 m4 m5 m6 m7 m8=>let⟨n1,n2,n3,n4⟩:=l7 m1 m2 m3 m5 m6 m7 m8;h4 _ _ H' n1 n2 n3 m4 n4
   .cases g
  .cases g
end
section
variable{X:Cx}{tg a e:Expr}{f g h:yu}{pos p p2:Pos}   
def SR{x:Str}{i:Int}{tk:Tok}(R:Gl X x)(hm:X.mg x=some (.int i tk))(hd:GE=false:=by decide):DE X (.Name x pos) (fun _=>some (.int i)) :=
 ⟨_,U5 (v:=.int i) R hm ⟨tk,rfl⟩ hd,fun δ x h G0 H0 G H σ ts Q r k=>by cases h;exact k _ _ _ (r.put L1)⟩
def gu{set:Sc}(he:DE X e f)(hg:DG X tg set)(hs:swapsWithSole [tg] e pos.line X.env=pure false:=by rfl)(hw:swappedStores [tg] e X.env=pure none:=by rfl) (h1:(assignEach [tg] X.env).map (·.2)=[assign tg X.env]:=by rfl):DS X (.Assign [tg] e pos) (fun δ=>(f δ).bind fun y=>(set y δ).map .nx):=by
 obtain⟨t,p,k⟩:=he;obtain⟨g,pg,kg⟩:=hg;refine⟨_,N6 p pg hs hw h1,fun δ r h G0 H0 G H σ D R q=>?_⟩;obtain⟨y,Z,Y⟩:=aB.mp h;obtain⟨T,U,rfl⟩:=aC.mp Y;exact k δ y Z G0 H0 G H σ [] _ R fun v G' H' R'=>kg δ y T U G0 H0 G' H' σ v _ R' q
def DO(X:Cx)(o:Option Expr)(f:Dv->Option zF):Prop:=∃t,PO X o t/\∀δ x,f δ=some x->∀G0 H0 G H σ ts (Q:Option Int->Hp->Prop),Rw G0 H0 G H σ δ ts->(∀R H',Rw G0 H0 R H' σ δ ts->Q x H')->t σ H Q
variable{fo fu:Dv->Option zF}{lo hi:Option Expr}
def Qy:DO X none (fun _=>some none):=⟨_,oC,fun δ x h G0 H0 G H σ ts Q r k=>by cases h;exact k _ _ r⟩
def Qz(U:DE X e f):DO X (some e) (fun δ=>(f δ).bind fun x=>(Zz x).map some):=by
 obtain⟨t,p,k⟩:=U;refine⟨_,oP p,fun δ z h G0 H0 G H σ ts Q r q=>?_⟩;obtain⟨x,h1,Z⟩:=aB.mp h;obtain⟨i,Y,rfl⟩:=aC.mp Z;have:=iO Y;subst this;refine k δ _ h1 G0 H0 G H σ ts _ r fun v G' H' T=>?_;have R:=T.B5 _ Fa;rw[Du]at R;exact⟨i,R,q _ _ T.drop⟩
def cutD(xs:yx)(lo hi:zF):yx:=(xs.drop (HT.B6 xs.length 0 lo)).take (HT.B6 xs.length xs.length hi-HT.B6 xs.length 0 lo)
def An.cut{H:Hp}{ds:yx}{xs:zJ}(h:An H ds xs)(lo hi:zF):An H (cutD ds lo hi) (QH xs lo hi):=by
 unfold cutD QH;rw[h.len];exact(h.drop _).take _
def j6(x:PD)(lo hi:zF):y7:=match x with
 |.list xs=>some (.list (cutD xs lo hi))
 |.tuple xs=>if ¬(HT.B6 xs.length 0 lo=0/\HT.B6 xs.length xs.length hi=xs.length) then some (.tuple (cutD xs lo hi)) else none
 |_=>none
def O6(he:DE X e f)(hl:DO X lo fo)(hh:DO X hi fu):DE X (.Subscript e (.Slice lo hi none p2) pos) (fun δ=>(f δ).bind fun x=>(fo δ).bind fun l=>(fu δ).bind fun u=>j6 x l u):=by
 obtain⟨te,pe,ke⟩:=he;obtain⟨tl,pl,kl⟩:=hl;obtain⟨th,ph,kh⟩:=hh;refine⟨_,jj (mx.or tF) pe pl ph,fun δ z hz G0 H0 G H σ ts Q R0 k=>?_⟩;obtain⟨x,h1,h2⟩:=aB.mp hz;obtain⟨l,h3,h4⟩:=aB.mp h2;obtain⟨u,h5,R⟩:=aB.mp h4;refine ke δ x h1 G0 H0 G H σ ts _ R0 fun v G1 H1 R1=>?_;refine kl δ l h3 G0 H0 G1 H1 σ _ _ R1 fun G2 H2 R2=>?_;refine kh δ u h5 G0 H0 G2 H2 σ _ _ R2 fun G3 H3 T=>?_;have Y:=T.B5 _ Fa;unfold j6 at R;split at R
 .cases R;rw[Du]at Y;obtain⟨a,ys,rfl,Z,U⟩:=Y;exact .inl ⟨a,ys,rfl,Aw.of (T.ins _ _ Z),fun q hq=>k _ _ _ (T.drop.VR (U.cut l u) hq)⟩
 .split at R
  .rename_i hc;cases R;rw[Du]at Y;obtain⟨a,ys,rfl,Z,U⟩:=Y;exact .inr ⟨a,ys,rfl,BK.of (T.ins _ _ Z),by rw[U.len];exact hc,fun q hq=>k _ _ _ (T.drop.eL (U.cut l u) hq)⟩
  .cases R
 .cases R
def XX:List PD->Option (List Int)
 |[]=>some []
 |.int i::r=>(XX r).map fun l=>i::l
 |_::_=>none
def An.ints{H:Hp}:∀ {ds:List PD} {xs:IZ} {ns:List Int},An H ds xs->XX ds=some ns->xs=ns.map V.int
 |[],xs,ns,h,e=>by cases e;rw[h.nil_eq];rfl
 |.int i::r,xs,ns,h,e=>by
  unfold XX at e;obtain⟨l,U,rfl⟩:=aC.mp e;obtain⟨x,q,rfl,R,T⟩:=h.un;rw[Du]at R;subst R;rw[(A2),T.ints U]
 |.none::_,_,_,_,e=>by cases e
 |.bool _::_,_,_,_,e=>by cases e
 |.str _::_,_,_,_,e=>by cases e
 |.tuple _::_,_,_,_,e=>by cases e
 |.list _::_,_,_,_,e=>by cases e
 |.dict _::_,_,_,_,e=>by cases e
def di:MD
 |[.list xs]=>(XX xs).map fun ns=>.int ns.sum
 |[.tuple xs]=>(XX xs).map fun ns=>.int ns.sum
 |_=>none
def fk(hc:bi):O2 X (.builtin "sum") di:=by
 refine⟨_,(O4 hc).or (fU hc),fun xs z R G0 H0 G H σ δ ts us Q U d k=>?_⟩;unfold di at R;split at R
 .obtain⟨ns,h1,rfl⟩:=aC.mp R;obtain⟨u,rfl,T⟩:=d.Ks;rw[Du]at T;obtain⟨q,ys,rfl,Z,Y⟩:=T;refine .inl ⟨q,ns,rfl,by rw[<-Y.ints h1];exact Aw.of (U.ins _ _ Z),k _ _ _ (U.put L1)⟩
 .obtain⟨ns,h1,rfl⟩:=aC.mp R;obtain⟨u,rfl,T⟩:=d.Ks;rw[Du]at T;obtain⟨q,ys,rfl,Z,Y⟩:=T;refine .inr ⟨q,ns,rfl,by rw[<-Y.ints h1];exact BK.of (U.ins _ _ Z),k _ _ _ (U.put L1)⟩
 .cases R
end
open PySem
abbrev fC(x:PD):Dv->Option PD:=fun _=>some x
abbrev Py(f:Nz):Dv->Option PD:=fun δ=>(f δ).bind fun x=>(Zz x).map fun i=>.int (-i)
abbrev we(f:Nz):Dv->Option PD:=fun δ=>(f δ).bind fun x=>(Ny x).map fun i=>.bool (!i)
abbrev YR(f g:Nz):Dv->Option PD:=fun δ=>(f δ).bind fun x=>(Ny x).bind fun c=>if c=true then g δ else some (.bool false)
abbrev AG:Dv->Option (List PD):=fun _=>some []
abbrev AB(f:Nz)(fs:S7):Dv->Option (List PD):=fun δ=>(f δ).bind fun x=>(fs δ).map fun xs=>x::xs
abbrev BA(fs:S7):Dv->Option PD:=fun δ=>((fs δ).bind LB).map .tuple
abbrev Co(fs:S7):Dv->Option PD:=fun δ=>((fs δ).bind LB).map .list
abbrev AU(m:MD)(fs:S7):Dv->Option PD:=fun δ=>(fs δ).bind m
abbrev S0(q:PD->Bool)(f:Nz):Dv->Option PD:=fun δ=>(f δ).bind (eR q)
abbrev Wv:Dv->Option (Option Int):=fun _=>some none
abbrev Wn(f:Nz):Dv->Option (Option Int):=fun δ=>(f δ).bind fun x=>(Zz x).map some
abbrev eS(f:Nz)(R g:Dv->Option (Option Int)):Dv->Option PD:=fun δ=>(f δ).bind fun x=>(R δ).bind fun l=>(g δ).bind fun u=>j6 x l u
abbrev Ik(f:Nz):Dv->Option Bool:=fun δ=>(f δ).bind Ny
abbrev CT(o:ce)(f g:Nz):Dv->Option Bool:=fun δ=>(Ai o f g δ).bind Ny
abbrev JO(f:Dv->Option Bool):Dv->Option Bool:=fun δ=>(f δ).map fun c=>!c
abbrev X8(f g:Dv->Option Bool):Dv->Option Bool:=fun δ=>(f δ).bind fun c=>if c=true then g δ else some false
abbrev Mm(f g:Dv->Option Bool):Dv->Option Bool:=fun δ=>(f δ).bind fun c=>if c=true then some true else g δ
abbrev D4(f:Nz):Dv->Option (List PD):=fun δ=>(f δ).bind GB
abbrev HN(m:List PD->Option (List PD))(fs:S7):Dv->Option (List PD):=fun δ=>(fs δ).bind m
abbrev Ee:Dv->Option Bool:=fun _=>some true
abbrev Jv(i:Nat):PD->Dv->Option Dv:=fun y δ=>some (δ.set i (.d y))
abbrev C9:DF:=fun δ=>some (.nx δ)
abbrev Bd(f:Nz):DF:=fun δ=>(f δ).map .rt
abbrev u9(f:Nz):DF:=fun δ=>(f δ).map fun _=>.nx δ
abbrev GG(c:Dv->Option Bool)(F G:DF):DF:=fun δ=>(c δ).bind fun c=>if c=true then F δ else G δ
abbrev CN(i:Nat)(f:Nz):DF:=fun δ=>(f δ).map fun y=>.nx (δ.set i (.d y))
abbrev ei(i:Nat)(fs:S7):DF:=fun δ=>((fs δ).bind LB).map fun ys=>.nx (δ.set i (.own IR))
abbrev kR(i:Nat)(f:Nz):DF:=fun δ=>(f δ).bind fun y=>(ow i δ).bind fun xs=>if xs.length<D0 then some (.nx (δ.set i (.own (.lst (xs++[y]))))) else none
abbrev tG(i:Nat)(f:Nz):DF:=fun δ=>(f δ).bind fun y=>(ow i δ).bind fun xs=>match y with|.list g=>(if xs.length+g.length<=D0 then some (.nx (δ.set i (.own (.lst (xs++g))))) else none)|_=>none
abbrev jq(f:Nz)(set:Sc):DF:=fun δ=>(f δ).bind fun y=>(set y δ).map .nx
abbrev FH(fs:S7)(set:Sc)(F:DF):DF:=fun δ=>(fs δ).bind fun xs=>Mb set F xs δ
abbrev Si(i:Nat)(F:DF):DF:=fun δ=>F (GL i δ)
abbrev qW:DF:=fun _=>none
abbrev vO:DF:=fun δ=>some (.ct δ)
def Ez{P:F0b}{w:F0c}{K:Fg}{mg:y0}{base:Heap}{CX:Iw}{k:Nat}{f:AD}{fd:F0a}{ps:zC}{sp:Sp}(h:∀vs H Q E,¬sp vs H Q E):AK P w K mg base CX k f fd ps sp :=
 ⟨fun _ _ _ _ z=>(h _ _ _ _ z).elim,fun _ _ _ _ _ _ _ _ _ _ _ _ _ z=>(h _ _ _ _ z).elim⟩
def KH{P:F0b}{w:F0c}{K:Fg}{mg:y0}{base:Heap}{CX:Iw}{k:Nat}{f:AD}{fd:F0a}{ps:zC}{sp:Sp}{m:MD}(F:AK P w K mg base CX k f fd ps sp) (h:∀ds x,m ds=some x->∀(G H:Hp) (vs:zJ) (Q:VK) (E:XK),An G ds vs->AL G H->(∀v g H',AL G g->Nw G H g->AL g H'->AL H H'->Du g x v->Q v H')->sp vs H Q E):AK P w K mg base CX k f fd ps (A6 m) :=
 F.imp fun vs H Q E z=>by
  obtain⟨ds,x,G,Y,U,T,R⟩:=z;exact h ds x Y G H vs Q E U T R
def BC(G H:Hp):Hp:=fun a=>match H a with
 |some (.tup xs)=>some Ke
 |_=>G a
def jU{G H:Hp}{a:AD}{xs:zJ}(h:H a=some Ke):BC G H a=some Ke:=by unfold BC;rw[h]
section
variable{G0 H0 G H:Hp}{σ:St}{δ:Dv}{ts:Qi}
def Rw.BC(r:GM):Rw G0 H0 (L2.BC G H) H σ δ ts:=by
 have e:AL G (L2.BC G H):=fun a o h=>by
  unfold L2.BC;split
  .rename_i xs g;rw[r.ins _ _ h]at g;exact g.symm ▸ rfl
  .exact h
 refine⟨r.ext.trans e,fun a o h=>?_,fun a o h=>?_,r.keep,r.len,fun i x h=>?_,fun i xs h=>?_,r.apart,fun q hq=>(r.B5 q hq).same e⟩
 .unfold L2.BC at h;split at h
  .cases h;exact .inr (.inr ⟨_,rfl⟩)
  .exact r.new _ _ h
 .unfold L2.BC at h;split at h
  .rename_i xs g;rw[g];exact h
  .exact r.ins _ _ h
 .obtain⟨v,T,R⟩:=r.dat i x h;exact⟨v,T,R.same e⟩
 .obtain⟨a,ys,T,R,Z,Y,U⟩:=r.own i xs h;refine⟨a,ys,T,?_,Z,Y,U.same e⟩;unfold L2.BC;rw[Y];split
  .rename_i q;cases q;exact U.XM.elim
  .exact R
end
theorem G5{G:Hp}:∀ {t:Tr} {xs:IZ},An G (BN t) xs->Ts G t xs
 |.nil,xs,h=>by rw[BN]at h;rw[Ts];exact h.nil_eq
 |.cons b r,xs,h=>by
  rw[BN]at h;obtain⟨x,q,rfl,g,U⟩:=h.un;rw[Du]at g;obtain⟨a,ys,rfl,T,R⟩:=g;rw[Ts];exact⟨a,ys,q,rfl,T,G5 R,G5 U⟩
theorem UI{G H:Hp}:∀ {t:Tr} {xs:IZ},Ts H t xs->An (BC G H) (BN t) xs
 |.nil,xs,h=>by rw[Ts]at h;rw[BN,h];exact .nil
 |.cons b r,xs,h=>by
  rw[Ts]at h;obtain⟨a,ys,U,rfl,T,R,g⟩:=h;rw[BN];refine .cons ?_ (UI g);rw[Du];exact⟨a,ys,rfl,jU T,UI R⟩
mutual
theorem Kq:∀ {ds:List PD} {t:Tr},EH ds=some t->ds=BN t
 |[],t,h=>by rw[EH]at h;cases h;rw[BN]
 |d::ds,t,h=>by
  rw[EH]at h;obtain⟨b,T,R⟩:=aB.mp h;obtain⟨r,g,rfl⟩:=aC.mp R;rw[BN,<-Qv T,<-Kq g]
theorem Qv:∀ {d:PD} {t:Tr},FJ d=some t->d=.tuple (BN t)
 |.tuple g,t,h=>by rw[FJ]at h;rw[Kq h]
 |.none,_,h=>by simp[FJ]at h
 |.bool _,_,h=>by simp[FJ]at h
 |.int _,_,h=>by simp[FJ]at h
 |.str _,_,h=>by simp[FJ]at h
 |.list _,_,h=>by simp[FJ]at h
 |.dict _,_,h=>by simp[FJ]at h
end
def uI(rev:Bool)(t:Tr):y7:=if t.bs.length<64/\t.deep<=60 then some (.list (BN (Tr.of (if rev then Tr.Eh t.bs else(Tr.Eh t.bs).reverse)))) else none
def MY(rev:Bool):MD
 |[x]=>(GB x).bind fun g=>(EH g).bind (uI rev)
 |_=>none
section
variable{X:Cx}{a e:Expr}{f g:yu}{fs:yt}{pos p:Pos}
def bz{rev:Bool}{G0 H0 G H:Hp}{σ:St}{δ:Dv}{ts:Qi}{x z:PD}{u:V}{Q:VK}(Z:GM)(du:Du G x u)(hz:MY rev [x]=some z)(k:∀w G' H',Rw G0 H0 G' H' σ δ ((z,w)::ts)->Q w H'):∃(p:AD) (ys:zJ) (t:Tr),[u]=[.ref p]/\(Aw X.K H p ys\/BK X.K H p ys)/\Ts H t ys/\ys.length<64/\t.deep<=60/\∀(l:AD) (zs:zJ),H l=none->Ts H (Tr.of (if rev then Tr.Eh t.bs else(Tr.Eh t.bs).reverse)) zs->Q Rb (upd H l (.lst zs)):=by
 unfold MY at hz;obtain⟨ds,h1,h2⟩:=aB.mp hz;obtain⟨t,h3,R⟩:=aB.mp h2;unfold uI at R;split at R
 .rename_i hc;cases R;have Y:=Kq h3;obtain⟨bb,a,ys,rfl,n1,n2⟩:=JE du h1;rw[Y]at n2;have ht:=(G5 n2).same Z.ins;have hl:ys.length=t.bs.length:=by rw[ht.len]
  refine⟨a,ys,t,rfl,?_,ht,by lia,hc.2,fun l zs U T=>?_⟩
  .have:=Z.ins _ _ n1;cases bb
   .exact .inl (Aw.of (by simpa using this))
   .exact .inr (BK.of (by simpa using this))
  .have R1:=Z.BC;exact k _ _ _ (R1.VR (UI T) U)
 .cases R
def ox(T:IO):O2 X XV (MY false):=by
 refine⟨_,gK T,fun xs z R G0 H0 G H σ δ ts us Q Y d k=>?_⟩;cases xs with
 |nil=>cases R
 |cons x r=>
  cases r with
  |cons y q=>cases R
  |nil=>
   obtain⟨u,rfl,U⟩:=d.Ks;exact bz Y U R k
def Yc{e:Expr}{p pos kp R:Pos}{j}(hu:IO)(hg:Gl X "sorted")(hm:X.mg "sorted" = none)(ha:DA X [e] fs) (hP:∀ {t:TA},PA X [e] t->PE X (.Call (.Name "sorted" p) [e] [⟨some "reverse",.Constant Jq j R,kp⟩] pos) (fun σ H Q=>t σ H fun vs U=>fM X.K vs U Q)):DE X (.Call (.Name "sorted" p) [e] [⟨some "reverse",.Constant Jq j R,kp⟩] pos) (AU (MY true) fs):=by
 obtain⟨t,p,k⟩:=ha;refine⟨_,hP p,fun δ z Y G0 H0 G H σ ts Q R0 q=>?_⟩;obtain⟨xs,h1,T⟩:=aB.mp Y;refine k δ _ h1 G0 H0 G H σ ts _ R0 fun vs G1 U R1 Z=>?_;obtain⟨d,R2⟩:=R1.args Z;cases xs with
 |nil=>cases T
 |cons x r=>
  cases r with
  |cons y q=>cases T
  |nil=>
   obtain⟨u,rfl,du⟩:=d.Ks;exact bz (rev:=true) R2 du T q
def rP(x k:PD):y7:=match x,k with
 |.list xs,.int i=>if i=-1 then some (.list xs.reverse) else none
 |_,_=>none
abbrev rC(f g:Nz):Dv->Option PD:=Ai rP f g
def qU{Z:Pos}{k:Expr}(he:DE X e f)(hk:DE X k g):DE X (.Subscript e (.Slice none none (some k) Z) pos) (rC f g):=by
 obtain⟨te,pe,ke⟩:=he;obtain⟨tk,Y,kk⟩:=hk;refine⟨_,qT pe Y,fun δ z hz G0 H0 G H σ ts Q R0 k=>?_⟩;obtain⟨x,y,h1,h2,R⟩:=two (x:=.none) (y:=.none) hz;refine ke δ x h1 G0 H0 G H σ ts _ R0 fun u G1 H1 R1=>?_;refine kk δ y h2 G0 H0 G1 H1 σ _ _ R1 fun v G2 H2 R2=>?_;have U:=R2.B5 (x,u) (.tail _ Fa);have T:=R2.B5 (y,v) Fa;unfold rP at R;split at R
 .split at R
  .rename_i hi;cases R;subst hi;rw[Du]at U;rw[Du]at T;obtain⟨a,ys,rfl,n1,n2⟩:=U;exact⟨a,ys,rfl,T,Aw.of (R2.ins _ _ n1),fun q hq=>k _ _ _ (R2.drop.drop.VR n2.rev hq)⟩
  .cases R
 .cases R
end
section
variable{G0 H0 G H:Hp}{σ:St}{δ:Dv}{ts:Qi}
def Rw.on{H':Hp}(r:GM)(e:AL H H'):Rw G0 H0 G H' σ δ ts:=r.lift (AL.refl _) Nw.refl (r.ins.trans e) e
end
section
variable{F F1 F2:DF}{δ δ':Dv}{r:Option Ou}{c:yw}{f g:yu}{fs:yt}
def Al(h:F1 δ=some (.nx δ'))(k:F2 δ'=r):Ar F1 F2 δ=r:=by unfold Ar;rw[h];exact k
def Hm{x:PD}(h:F1 δ=some (.rt x)):Ar F1 F2 δ=some (.rt x):=by unfold Ar;rw[h]
def Ka(h:c δ=some true)(k:F1 δ=r):GG c F1 F2 δ=r:=by show(c δ).bind _=r;rw[h];exact k
def DB(h:c δ=some false)(k:F2 δ=r):GG c F1 F2 δ=r:=by show(c δ).bind _=r;rw[h];exact k
def Cz{i:Nat}{y:PD}(h:f δ=some y):CN i f δ=some (.nx (δ.set i (.d y))):=by show(f δ).map _=_;rw[h];rfl
def GO{y:PD}(h:f δ=some y):Bd f δ=some (.rt y):=by show(f δ).map _=_;rw[h];rfl
def Az{o:ce}{x y:PD}{z:y7}(U:f δ=some x)(T:g δ=some y)(R:o x y=z):Ai o f g δ=z:=by unfold Ai;rw[U,T];exact R
def Ah{m:MD}{xs:yx}{z:y7}(T:fs δ=some xs)(R:m xs=z):AU m fs δ=z:=by show(fs δ).bind m=z;rw[T];exact R
def BH{x:PD}{xs:yx}(T:f δ=some x)(R:fs δ=some xs):AB f fs δ=some (x::xs):=by show(f δ).bind _=_;rw[T];show(fs δ).map _=_;rw[R];rfl
def Nd{xs:yx}(h:fs δ=some xs)(R:xs.length<=D0):BA fs δ=some (.tuple xs):=by show((fs δ).bind LB).map _=_;rw[h];show(LB xs).map _=_;unfold LB;rw[if_pos R];rfl
def Cw{o:ce}{x y:PD}{b:Bool}(U:f δ=some x)(T:g δ=some y)(R:o x y=some (.bool b)):CT o f g δ=some b:=by show(Ai o f g δ).bind Ny=_;rw[Az U T R];rfl
def Mr{a b:yw}{q:Option Bool}(h:a δ=some false)(k:b δ=q):Mm a b δ=q:=by show(a δ).bind _=q;rw[h];exact k
def ve{a b:yw}(h:a δ=some true):Mm a b δ=some true:=by show(a δ).bind _=_;rw[h];rfl
def Lm{a:yw}{b:Bool}(h:a δ=some b):JO a δ=some (!b):=by show(a δ).map _=_;rw[h];rfl
def KJ{b:Bool}(h:f δ=some (.bool b)):Ik f δ=some b:=by show(f δ).bind Ny=_;rw[h];rfl
theorem XS{set:Sc}(U:Nat->Dv->Prop):∀(xs:List PD) (δ:Dv) (n:Nat),U n δ->(∀(i:Nat) (x:PD) (δ:Dv),xs[i]? = some x->U (n+i) δ->∃T R,set x δ=some T/\F T=some (.nx R)/\U (n+i+1) R) ->
  ∃δ',Mb set F xs δ=some (.nx δ')/\U (n+xs.length) δ'
 |[],δ,n,h,_=>⟨δ,rfl,h⟩
 |x::xs,δ,n,h,k=>by
  obtain⟨T,R,h1,h2,h3⟩:=k 0 x δ rfl h;obtain⟨δ',h4,h5⟩:=XS U xs R (n+1) h3 fun i y δ Y Z=>by
   have:=k MS y δ (by simpa using Y) (by rw[show n+MS=n+1+i by lia];exact Z);rw[show n+MS+1=n+1+i+1 by lia]at this;exact this
  refine⟨δ',?_,by rw[(Jz),show n+(xs.length+1)=n+1+xs.length by lia];exact h5⟩;unfold Mb;rw[h1,(F3),h2];exact h4
def kB{set:Sc}{xs:yx}(U:Nat->Dv->Prop)(Y:fs δ=some xs)(h0:U 0 δ)(hs:∀(i:Nat) (x:PD) (δ:Dv),xs[i]? = some x->U i δ->∃T R,set x δ=some T/\F T=some (.nx R)/\U MS R):∃δ',FH fs set F δ=some (.nx δ')/\U xs.length δ':=by
 obtain⟨δ',h1,h2⟩:=XS (F:=F) (set:=set) U xs δ 0 h0 fun i x δ Y Z=>by
  have:=hs i x δ Y (by simpa using Z)
  simpa using this
 refine⟨δ',?_,by simpa using h2⟩;show(fs δ).bind _=_;rw[Y];exact h1
end
def Cy{ps N:zC}{F:DF}{ds:yx}{x:PD}(g:ds.length=ps.length)(h:F (Je N ds)=some (.rt x)):Cf ps N F ds=some x:=by unfold Cf;rw[if_pos g,h]
def Pq{n:Nat}{i:Int}(h:i.natAbs<2^n):NO n i=true:=bf h
def Ys{i j:Int}(h:Ox i j=true):Gg (.int i) (.int j)=some (.int (i*j)):=by
 show Vk dH dS (.int i) (.int j)=_;unfold Vk;rw[show dH (.int i) (.int j)=some (.int (i*j)) from if_pos h]
def mul_r{i j:Int}(h:j.natAbs<2^64):Gg (.int i) (.int j)=some (.int (i*j)):=Ys (by unfold Ox;rw[Pq h];simp)
def mod_is{i j:Int}(h:0<j):Ih (.int i) (.int j)=some (.int (i % j)):=by
 show(if j≠0 then some (PyData.int (i.fmod j)) else none)=_;rw[if_pos AC,Int.fmod_eq_emod_of_nonneg _ AC]
def ib{i:Int}{n:Nat}(hn:n<=1000)(hi:NO 64 i=true):Px (.int i) (.int (n:Int))=some (.int (i^n)):=by
 show(if 0<=(n:Int)/\(n:Int)<=1000/\NO 64 i=true then some (PyData.int (i^(n:Int).toNat)) else none)=_;rw[if_pos ⟨by lia,by lia,hi⟩,(QI)]
def FU(ns:zA):PD:=.dict [(.none,.list (ns.map .int))]
def iG{H:Hp}{a:AD}{ns:zA}(h:Rd H a (.lst RW)):Du H (FU ns) Hf:=by unfold FU;rw[Du];exact .inr (.inl ⟨a,ns,rfl,rfl,h⟩)
def Wm(K:Fg):Bool:=K.all fun p=>match p.2.cls with|.type n=>n != "list" |_=>true
theorem RT{a:AD}{o:Obj}:∀ {K:Fg},K.lookup a=some o->(a,o)∈K
 |[],h=>by cases h
 |(b,u)::K,h=>by
  rw[List.lookup_cons]at h;split at h
  .rename_i e;cases h;rw[show a=b from by simpa using e];exact .head _
  .exact .tail _ (RT h)
def rf{K:Fg}{H:Hp}{a:AD}{xs:zJ}(g:Wm K=true)(h:Aw K H a xs):Rd H a KB:=by
 rcases h with h|⟨o,R,n,U,T,_⟩
 .exact h
 .unfold Wm at g;rw[List.all_eq_true]at g;have:=g _ (RT U);rw[T]at this;exact absurd this AT
abbrev Xr:=PD ⊕ AD
abbrev rW:=List PD->Option Xr
def Dy(g:rW):Sp:=fun vs H Q E=>∃T r G,g T=some r/\An G T vs/\AL G H/\match r with
 |.inl x=>∀v R H',AL G R->Nw G H R->AL R H'->AL H H'->Du R x v->Q v H'
 |.inr C=>∀H',AL H H'->E (.ref C) none H'
abbrev mC:=Ou ⊕ AD
abbrev GV:=Dv->Option mC
def pH(G0 H0:Hp)(D:Ends)(E:XK):mC->Prop
 |.inl o=>Fin G0 H0 D o
 |.inr C=>∀H',AL H0 H'->E (.ref C) none H'
def DX(X:Cx)(E:XK)(st:Stmt)(F:GV):Prop:=∃t,PS X st t/\∀δ r,F δ=some r->∀G0 H0 G H σ D,Rw G0 H0 G H σ δ []->pH G0 H0 D E r->t D σ H
def Vg(X:Cx)(E:XK)(g:zM)(F:GV):Prop:=∃t,Jp X g t/\∀δ r,F δ=some r->∀G0 H0 G H σ D,Rw G0 H0 G H σ δ []->pH G0 H0 D E r->t D σ H
section
variable{X:Cx}{E:XK}{b c e:Expr}{es:zD}{f h:yu}{fs:yt}{fa:yw}{pos p:Pos}{st:Stmt}{sts sts':zM}{F:DF}{J J1 J2:GV}
def jI{t:TS}(h:Jp X.LG sts t):Jp X sts t:=fun pins s σ H D I k=>ao (h pins s σ H D (I.JV _) k) (fun _ _ z=>z.Gu) fun _ _ z=>z.elim
def f9{t:TE}(h:PE X.LG e t):PE X e t:=fun pins s σ H Q I k=>ao (h pins s σ H Q (I.JV _) k) (fun _ _ ⟨v,H',g,r,q⟩=>⟨v,H',g.Gu,r,q⟩) fun _ _ z=>z.elim
def tQ{t:TT}(h:PT X.LG e t):PT X e t:=fun pins s σ H Q I k=>ao (h pins s σ H Q (I.JV _) k) (fun _ _ ⟨H',g,q⟩=>⟨H',g.Gu,q⟩) fun _ _ z=>z.elim
def YA{t:TA}(h:PA X.LG es t):PA X es t:=fun p pins s σ H Q I k=>ao (h p pins s σ H Q (I.JV _) k) (fun _ _ ⟨v,H',g,r,q⟩=>⟨v,H',g.Gu,r,q⟩) fun _ _ z=>z.elim
abbrev Vp(F:DF):GV:=fun δ=>(F δ).map .inl
def N2(h:T2 X.LG sts F):Vg X E sts (Vp F):=by
 obtain⟨t,p,k⟩:=h;refine⟨t,jI p,fun δ r h G0 H0 G H σ D R q=>?_⟩;obtain⟨o,g,rfl⟩:=aC.mp h;exact k δ o g G0 H0 G H σ D R q
def KN(J1 J2:GV)(δ:Dv):Option mC:=match J1 δ with
 |some (.inl (.nx g))=>J2 g
 |o=>o
def N7:Vg X E [] (fun δ=>some (.inl (.nx δ))):=⟨_,GI,fun δ r h G0 H0 G H σ D R k=>by cases h;exact k _ _ _ R⟩
def HG(h:DX X E st J):Vg X E [st] J:=by
 obtain⟨t,p,k⟩:=h;exact⟨t,BE p,k⟩
def Gi(h1:DX X E st J1)(h2:Vg X E sts J2):Vg X E (st::sts) (KN J1 J2):=by
 obtain⟨t1,Z,T⟩:=h1;obtain⟨t2,Y,k2⟩:=h2;refine⟨_,Ae Z Y,fun δ r h G0 H0 G H σ D R q=>?_⟩;unfold KN at h;split at h
 .rename_i g e1;exact T δ _ e1 G0 H0 G H σ _ R fun U G' H' R'=>k2 g r h G0 H0 G' H' U D R' q
 .rename_i o hn;cases r with
  |inr C=>exact T δ _ h G0 H0 G H σ _ R q
  |inl o'=>
   cases o' with
   |nx g=>exact absurd h (hn g)
   |rt x=>exact T δ _ h G0 H0 G H σ _ R q
   |bk x=>exact T δ _ h G0 H0 G H σ _ R q
   |ct x=>exact T δ _ h G0 H0 G H σ _ R q
   |rn x=>exact T δ _ h G0 H0 G H σ _ R q
abbrev Yb(c:Dv->Option Bool)(J1 J2:GV):GV:=fun δ=>(c δ).bind fun b=>if b=true then J1 δ else J2 δ
def S9(hc:DT X.LG c fa)(h1:Vg X E sts J1)(h2:Vg X E sts' J2):DX X E (.If c sts sts' pos) (Yb fa J1 J2):=by
 obtain⟨tc,pc,kc⟩:=hc;obtain⟨t1,p1,k1⟩:=h1;obtain⟨t2,p2,k2⟩:=h2;refine⟨_,JR (tQ pc) p1 p2,fun δ r h G0 H0 G H σ D R q=>?_⟩;obtain⟨b,h3,g⟩:=aB.mp h;refine kc δ _ h3 G0 H0 G H σ [] _ R fun Z Y U=>?_;split
 .rename_i T;rw[if_pos T]at g;exact k1 δ r g G0 H0 Z Y σ D U q
 .rename_i T;rw[if_neg T]at g;exact k2 δ r g G0 H0 Z Y σ D U q
abbrev OA(C:AD)(f:Nz):GV:=fun δ=>(f δ).map fun _=>.inr C
def MQ{x:Str}{C:AD}{np U:Pos}(T:Exc X.K X.mg x C)(hL:Lets X E)(he:DE X.LG e f)(g:X.calm=true:=by rfl)(Z:Gl X x:=by rfl)(hd:GE=false:=by decide) (Y:starEach [e] X.env=[Go]:=by rfl):DX X E (.Raise (some (.Call Qa [e] [] U)) none pos) (OA C f):=by
 obtain⟨t,p,k⟩:=he;refine⟨_,je T hL g Z (f9 p) hd Y,fun δ r h G0 H0 G H σ D R q=>?_⟩;obtain⟨y,h1,rfl⟩:=aC.mp h;exact k δ y h1 G0 H0 G H σ [] _ R fun v G' H' R'=>q _ R'.keep
def fZ{k:Nat}{m:rW}{T:TA}(ka:∀δ xs,fs δ=some xs->∀G0 H0 G H σ ts (Q:List V->Hp->Prop),Rw G0 H0 G H σ δ ts->(∀vs g H',Rw G0 H0 g H' σ δ (xs.zip vs++ts)->vs.length=xs.length->Q vs H')->T σ H Q) {δ:Dv}{r:Xr}(hz:(fs δ).bind m=some r){G0 H0 G H:Hp}{σ:St}{Q:VK}{Y:XK}(R:Rw G0 H0 G H σ δ [])(q1:∀x,r=.inl x->∀v g H',Rw G0 H0 g H' σ δ [(x,v)]->Q v H')(Z:∀C,r=.inr C->∀g H',Rw G0 H0 g H' σ δ []->Y (.ref C) none H'):T σ H fun vs U=>Dy m (vs++[]) U Q Y:=by
 obtain⟨xs,h1,h2⟩:=aB.mp hz;refine ka δ _ h1 G0 H0 G H σ [] _ R fun vs G1 U R1 hv=>?_;obtain⟨d,R2⟩:=R1.args hv;refine⟨xs,r,G1,h2,by rw[(Qh)];exact d,R2.ins,?_⟩;cases r with
 |inl x=>exact fun v g H' h3 h4 h5 h6 h7=>q1 x rfl _ _ _ ((R2.lift h3 h4 h5 h6).put h7)
 |inr C=>exact fun H' h=>Z C rfl _ _ (R2.on h)
section
variable{k:Nat}{fA:AD}{fd:F0a}{ps:zC}{m:rW}{x:Str}{st':Stmt}
abbrev OZ(m:List PD->Option Xr)(fs:S7)(nx:PD->Dv->Ou):GV:=fun δ=>((fs δ).bind m).map fun r=>match r with
 |.inl x=>.inl (nx x δ)
 |.inr C=>.inr C
def a6(T:Fn X.K X.mg x st' ps fA fd)(F:AK X.prog X.w X.K X.mg X.base (CA X.prog X.w) k fA fd ps (Dy m))(hr:EN k X.A)(hP:Passes (CA X.prog X.w) X E)(ha:DA X.LG No fs) {g:Pos}(Z:∀ {t:TE},PE X IN t->PS X (.Expr IN g) (Wl t)) (hg:Gl X x:=by rfl)(Y:GE=false:=by decide)(he:starEach No X.env=Go::starEach es X.env:=by rfl)(U:(backTo pos M5).any M0=false:=by rfl):DX X E (.Expr IN g) (OZ m fs fun _ δ=>.nx δ):=by
 obtain⟨ta,pa,ka⟩:=ha;refine⟨_,Z (YH T F hr hg hP (YA pa) Y he U),fun δ r h G0 H0 G H σ D R q=>?_⟩;obtain⟨z,h1,rfl⟩:=aC.mp h;refine fZ (k:=k) ka h1 R (fun x hx v G' H' R'=>?_) (fun C hC G' H' R'=>?_)
 .subst hx;exact q _ _ _ R'.drop
 .subst hC;exact q _ R'.keep
def gJ{i:Nat}{y:Str}{U g:Pos}(T:Fn X.K X.mg x st' ps fA fd)(F:AK X.prog X.w X.K X.mg X.base (CA X.prog X.w) k fA fd ps (Dy m))(hr:EN k X.A)(hP:Passes (CA X.prog X.w) X E)(ha:DA X.LG No fs) (hN:X.N.Nodup)(Y:Loc X.env.scope y)(hi:X.N[i]? = some y:=by rfl)(hg:Gl X x:=by rfl) (hdb:GE=false:=by decide)(he:starEach No X.env=Go::starEach es X.env:=by rfl)(Z:(backTo pos M5).any M0=false:=by rfl) (hs:swapsWith IN (some (.Name y U)) g.line X.env=pure false:=by rfl)(hf:X.fn y=true\/X.env.scope.names.lookup y=some .local:=by first|exact .inl rfl|exact .inr rfl|assumption):DX X E (.Assign [.Name y U] (.Call (.Name x p) (e::es) [] pos) g) (OZ m fs fun z δ=>.nx (δ.set i (.d z))):=by
 obtain⟨ta,pa,ka⟩:=ha;refine⟨_,BM hN hi Y (YH T F hr hg hP (YA pa) hdb he Z) hs hf,fun δ r h G0 H0 G H σ D R q=>?_⟩;obtain⟨z,h1,rfl⟩:=aC.mp h;refine fZ (k:=k) ka h1 R (fun x Y v G' H' R'=>?_) (fun C hC G' H' R'=>?_)
 .subst Y;exact q _ _ _ R'.IE
 .subst hC;exact q _ R'.keep
end
end
def GN(ps N:zC)(J:GV)(ds:yx):Option Xr:=if ds.length=ps.length then(match J (Je N ds) with
 |some (.inl (.rt x))=>some (.inl x)
 |some (.inl (.nx _))=>some (.inl .none)
 |some (.inl (.rn xs))=>some (.inl (.list xs))
 |some (.inr C)=>some (.inr C)
 |_=>none) else none
section
variable{P:F0b}{w:F0c}{K:Fg}{mg:y0}{base:Heap}{x:Str}{st:Stmt}{fA:AD}{fd:F0a}{N ps:zC}{k:Nat}
def T7{qual:Str}{scope:Scope}{T:VL}{A:F0d}{outer:zN}{s:SD}{H:Hp}{E:XK}:Lets (DZ Kf P w K mg base N qual scope fA T A outer s H E) E:=fun _ _ _ _ _ _ _ _ I g R=>nH I g R
def HW{qual:Str}{scope:Scope}{g:VL}{A:F0d}{outer:zN}{s:SD}{H:Hp}{E:XK}:Passes Kf (DZ Kf P w K mg base N qual scope fA g A outer s H E) E:=uc fun _ _ _ z=>z
def QX{J:GV}(T:Fn K mg x st ps fA fd)(S:Ac N ps (AO st)) (hb:∀(cdv:VL) (A:F0d) (outer:zN) (s:SD) (H:Hp) (E:XK),EN k (A.deeper (envOfC x (AO st) s.heap.objs.size fA cdv))->Vg (DZ Kf P w K mg base N x (AO st) fA cdv A outer s H E) E (E9 st) J):AK P w K mg base Kf Pi fA fd ps (Dy (GN ps N J)):=by
 refine T.F.yl S KT fun cdv A outer s H vs Q E hr h=>?_
 .obtain⟨ds,y,G,g,Y,_⟩:=h;unfold GN at g;split at g
  .rename_i hl;rw[Y.len];exact hl
  .cases g
 .obtain⟨ds,y,G,g,Y,h3,h4⟩:=h;obtain⟨t,p,Z⟩:=hb cdv A outer s H E hr;refine⟨t,p,?_⟩;unfold GN at g;split at g
  .split at g
   .rename_i z U;cases g;exact Z _ _ U G H G H _ _ (Rw.start Y h3) fun v G' H' m1 m2 m3 m4 m5=>h4 v G' H' m1 m2 m3 m4 m5
   .rename_i δ U;cases g;exact Z _ _ U G H G H _ _ (Rw.start Y h3) fun σ' G' H' R=>h4 .BP G' H' R.ext R.new R.ins R.keep L1
   .rename_i xs U;cases g;exact Z _ _ U G H G H _ _ (Rw.start Y h3) fun a ys G' H' m1 m2 m3 m4 m5 m6 m7 m8=>let⟨n1,n2,n3,n4⟩:=l7 m1 m2 m3 m5 m6 m7 m8;h4 _ _ H' n1 n2 n3 m4 n4
   .rename_i C U;cases g;exact Z _ _ U G H G H _ _ (Rw.start Y h3) h4
   .cases g
  .cases g
def AK.yQ{sp g:Sp}(F:AK P w K mg base Kf k fA fd ps sp)(h:∀vs H Q E,g vs H Q E->sp vs H Q fun _ _ _=>False):AK P w K mg base Af k fA fd ps g :=
 ⟨fun vs H Q E z=>F.len _ _ _ _ (h _ _ _ _ z),fun A outer s H args us vs Q E U Y Z R T=>codeAny_mono (F.run A outer s H args us vs Q _ U Y Z R (h _ _ _ _ T)) fun r s' z=>by
  cases r with
  |ok fl=>cases fl<;>exact z
  |error e=>obtain⟨_,_,_,_,_,_,_,z⟩:=z;exact z.elim⟩
def good(m:rW)(ds:yx):y7:=match m ds with
 |some (.inl x)=>some x
 |_=>none
def Jb{m:rW}(F:AK P w K mg base Kf k fA fd ps (Dy m)):AK P w K mg base Af k fA fd ps (A6 (good m)):=F.yQ fun vs H Q E z=>by
 obtain⟨Y,x,G,g,U,T,R⟩:=z;unfold good at g;split at g
 .rename_i y e;cases g;exact⟨Y,.inl x,G,e,U,T,R⟩
 .cases g
end
abbrev M6(fs:S7):DF:=fun δ=>(fs δ).map .rn
abbrev ef(i:Nat):DF:=fun δ=>(ow i δ).map .rn
section
variable{X:Cx}{a:Expr}{h:yu}{pos:Pos}
def bp{i:Nat}{x:Str}{np:Pos}(hv:PE X Qa (P6 i)):DS X (.Return (some Qa) pos) (ef i):=by
 refine⟨_,Cp hv,fun δ r h G0 H0 G H σ D R q=>?_⟩;obtain⟨xs,h1,rfl⟩:=aC.mp h;obtain⟨a,_,Z,Y,U,T,⟨ys,rfl,g⟩⟩:=R.own i _ (eh h1);exact⟨.ref a,Z,q a ys G H R.ext R.new R.ins R.keep U Y T g⟩
end
section
variable{X:Cx}{elt iter:Expr}{x y:Str}{px py tp pos spos:Pos}{tk:Nat}{ifs:zD}{scope:Scope}{fs:yt}{tif:yw}{f:yu}
def Uj(N:zC)(ix:Nat)(fr:zO)(hi:DI X (.Name x px) iter fs)(T:∀cl C s₀ H₀ fp,Zm Cl ifs tif)(he:∀cl C s₀ H₀ fp,DE Cl elt f) (h1:C7 scope N x ix=true:=by decide +kernel)(h2:X.calm=true:=by rfl)(h3:HI N X.N scope X.env.scope fr 0=true:=by rfl)(h4:fr.length=N.length:=by rfl)(h5:freeOk X.env.scope scope.names=true:=by rfl) (hs:∀x,foldedSetIterable iter X.env x=pure x:=by intro _;rfl):DS X (.Return (some EQ) spos) (M6 (CV (Cm ix) tif f fr fs)):=by
 obtain⟨wi,pi,ki⟩:=hi;refine⟨_,Cp (HY N ix fr pi T (fun cl C s₀ H₀ fp=>(he cl C s₀ H₀ fp).pe) h1 h2 h3 h4 h5 hs),fun δ r h G0 H0 G H σ D R q=>?_⟩;obtain⟨zs,m1,rfl⟩:=aC.mp h;exact Tg ki m1 R fun D' ys G' H' g n1 Z Y n4 U=>q _ _ _ _ g.ext g.new g.ins g.keep Y Z n1 U
def YF(N:zC)(ix g:Nat)(fr:zO)(hi:DI X (.Tuple [.Name x px,.Name y py] tk tp) iter fs)(Y:∀cl C s₀ H₀ fp,Zm Cl ifs tif)(he:∀cl C s₀ H₀ fp,DE Cl elt f) (h1:C7 scope N x ix=true:=by decide +kernel)(Z:C7 scope N y g=true:=by decide +kernel)(U:ix≠g:=by decide)(h2:X.calm=true:=by rfl)(h3:HI N X.N scope X.env.scope fr 0=true:=by rfl)(h4:fr.length=N.length:=by rfl)(h5:freeOk X.env.scope scope.names=true:=by rfl) (hs:∀x,foldedSetIterable iter X.env x=pure x:=by intro _;rfl):DS X (.Return (some (.ListComp elt [⟨.Tuple [.Name x px,.Name y py] tk tp,iter,ifs,0⟩] scope pos)) spos) (M6 (CV (Fw ix g) tif f fr fs)):=by
 obtain⟨wi,pi,ki⟩:=hi;refine⟨_,Cp (QQ N ix g fr pi Y (fun cl C s₀ H₀ fp=>(he cl C s₀ H₀ fp).pe) h1 Z U h2 h3 h4 h5 hs),fun δ r h G0 H0 G H σ D R q=>?_⟩;obtain⟨zs,m1,rfl⟩:=aC.mp h;exact ZL ki m1 R fun D' ys G' H' T n1 n2 n3 n4 n5=>q _ _ _ _ T.ext T.new T.ins T.keep n3 n2 n1 n5
end
section
variable{N ps:zC} 
def mV{F:DF}{ds xs:yx}(g:ds.length=ps.length)(h:F (Je N ds)=some (.rn xs)):Cf ps N F ds=some (.list xs):=by unfold Cf;rw[if_pos g,h]
def Q4{J:GV}{ds:yx}{y:PD}(g:ds.length=ps.length)(h:J (Je N ds)=some (.inl (.rt y))):GN ps N J ds=some (.inl y):=by unfold GN;rw[if_pos g,h]
def cM{J:GV}{ds:yx}{δ:Dv}(g:ds.length=ps.length)(h:J (Je N ds)=some (.inl (.nx δ))):GN ps N J ds=some (.inl .none):=by unfold GN;rw[if_pos g,h]
def Ud{J:GV}{ds xs:yx}(g:ds.length=ps.length)(h:J (Je N ds)=some (.inl (.rn xs))):GN ps N J ds=some (.inl (.list xs)):=by unfold GN;rw[if_pos g,h]
end
section
variable{J1 J2:GV}{δ δ':Dv}{r:Option mC}{c:yw}{fs:yt}{m:rW}{ds:yx}   
def J4(h:J1 δ=some (.inl (.nx δ')))(k:J2 δ'=r):KN J1 J2 δ=r:=by unfold KN;rw[h];exact k
def cw(h:c δ=some false)(k:J2 δ=r):Yb c J1 J2 δ=r:=by show(c δ).bind _=r;rw[h];exact k
def OI{nx:PD->Dv->Ou}{y:PD}(h:fs δ=some ds)(k:m ds=some (.inl y)):OZ m fs nx δ=some (.inl (nx y δ)):=by show((fs δ).bind m).map _=_;rw[h];show(m ds).map _=_;rw[k];rfl
def Iy{y:PD}(q:m ds=some (.inl y)):good m ds=some y:=by unfold good;rw[q]
end
section
variable{F F1 F2:DF}{δ δ':Dv}{fs:yt}{xs:yx}{set:Sc}{r:Option Ou}
def mS{Q:Dv->Prop}(h:F1 δ=some (.nx δ'))(k:∃g,F2 δ'=some (.nx g)/\Q g):∃g,Ar F1 F2 δ=some (.nx g)/\Q g:=let⟨g,a,b⟩:=k;⟨g,Al h a,b⟩
def uK(U:Nat->Dv->Prop)(Y:fs δ=some xs)(h0:U 0 δ)(Z:∀(i:Nat) (x:PD) (δ:Dv),xs[i]? = some x->U i δ->∃T,set x δ=some T/\∃R,F T=some (.nx R)/\U MS R):∃δ',FH fs set F δ=some (.nx δ')/\U xs.length δ':=kB U Y h0 fun i x δ a b=>let⟨T,c,R,e,g⟩:=Z i x δ a b;⟨T,R,c,e,g⟩
def Og(T:Nat->Dv->Prop)(U:fs δ=some xs)(h0:T 0 δ)(Y:∀(i:Nat) (x:PD) (δ:Dv),xs[i]? = some x->T i δ->∃R,set x δ=some R/\∃g,F R=some (.nx g)/\T MS g) (k:∀δ',T xs.length δ'->F2 δ'=r):Ar (FH fs set F) F2 δ=r:=by
 obtain⟨δ',h1,Z⟩:=uK T U h0 Y;exact Al h1 (k δ' Z)
def cT{f:yu}{x:PD}(h:f δ=some x)(k:GB x=some xs):D4 f δ=some xs:=by show(f δ).bind GB=_;rw[h];exact k
end
abbrev YD:=List PD ⊕ AD
def gf(X:Cx)(E:XK)(e:Expr)(f:Dv->Option Xr):Prop:=∃t,PE X e t/\∀δ r,f δ=some r->∀G0 H0 G H σ ts (Q:VK),Rw G0 H0 G H σ δ ts->(∀x,r=.inl x->∀v g H',Rw G0 H0 g H' σ δ ((x,v)::ts)->Q v H')->(∀C,r=.inr C->∀H',AL H0 H'->E (.ref C) none H')->t σ H Q
def lh(X:Cx)(E:XK)(es:zD)(f:Dv->Option YD):Prop:=∃t,PA X es t/\∀δ r,f δ=some r->∀G0 H0 G H σ ts (Q:List V->Hp->Prop),Rw G0 H0 G H σ δ ts->(∀xs,r=.inl xs->∀vs g H',Rw G0 H0 g H' σ δ (xs.zip vs++ts)->vs.length=xs.length->Q vs H')->(∀C,r=.inr C->∀H',AL H0 H'->E (.ref C) none H')->t σ H Q
section
variable{X:Cx}{E:XK}{e:Expr}{es:zD}{f:yu}{fx:Dv->Option Xr}{gx:Dv->Option YD}{fs:yt}{pos p:Pos}
abbrev wV(f:Nz):Dv->Option Xr:=fun δ=>(f δ).map .inl
abbrev ER(f:S7):Dv->Option YD:=fun δ=>(f δ).map .inl
def qw(h:DE X.LG e f):gf X E e (wV f):=by
 obtain⟨t,p,k⟩:=h;refine⟨t,f9 p,fun δ r h G0 H0 G H σ ts Q R q1 T=>?_⟩;obtain⟨o,g,rfl⟩:=aC.mp h;exact k δ o g G0 H0 G H σ ts Q R (q1 o rfl)
def IY(h:DA X.LG es fs):lh X E es (ER fs):=by
 obtain⟨t,p,k⟩:=h;refine⟨t,YA p,fun δ r h G0 H0 G H σ ts Q R q1 T=>?_⟩;obtain⟨o,g,rfl⟩:=aC.mp h;exact k δ o g G0 H0 G H σ ts Q R (q1 o rfl)
def DY(fx:Dv->Option Xr)(gx:Dv->Option YD)(δ:Dv):Option YD:=match fx δ with
 |some (.inl x)=>(match gx δ with
  |some (.inl xs)=>some (.inl (x::xs))
  |some (.inr C)=>some (.inr C)
  |none=>none)
 |some (.inr C)=>some (.inr C)
 |none=>none
def KA(ha:gf X E e fx)(hr:lh X E es gx)(hs:starEach No X.env=Go::starEach es X.env:=by rfl):lh X E No (DY fx gx):=by
 obtain⟨ta,pa,ka⟩:=ha;obtain⟨tr,pr,kr⟩:=hr;refine⟨_,AM pa pr hs,fun δ r g G0 H0 G H σ ts Q R q1 q2=>?_⟩;unfold DY at g;cases U:fx δ with
 |none=>rw[U]at g;cases g
 |some u=>
  rw[U]at g;cases u with
  |inr C=>
   cases g;exact ka δ _ U G0 H0 G H σ ts _ R (fun x Z=>by cases Z) fun C' T=>by cases T;exact q2 C rfl
  |inl x=>
   refine ka δ _ U G0 H0 G H σ ts _ R (fun x' Z v G1 H1 R1=>?_) (fun C T=>by cases T);cases Z;cases hg:gx δ with
   |none=>rw[hg]at g;cases g
   |some w=>
    rw[hg]at g;refine kr δ _ hg G0 H0 G1 H1 σ _ _ R1 (fun xs Y vs G2 H2 R2 hl=>?_) (fun C T H' h'=>?_)
    .subst Y;cases g;refine q1 _ rfl (v::vs) G2 H2 (R2.less fun q hq=>?_) (by simp[hl]);simp only[List.zip_cons_cons,List.cons_append,List.mem_cons,List.mem_append]at hq ⊢;rcases hq with h|h|h
     .exact .inr (.inl h)
     .exact .inl h
     .exact .inr (.inr h)
    .subst T;cases g;exact q2 C rfl H' h'
def CP(gx:Dv->Option YD)(m:rW)(δ:Dv):Option Xr:=match gx δ with
 |some (.inl xs)=>m xs
 |some (.inr C)=>some (.inr C)
 |none=>none
def Fu{k:Nat}{fA:AD}{fd:F0a}{ps:zC}{m:rW}{x:Str}{st':Stmt}(T:Fn X.K X.mg x st' ps fA fd)(F:AK X.prog X.w X.K X.mg X.base (CA X.prog X.w) k fA fd ps (Dy m))(hr:EN k X.A)(hP:Passes (CA X.prog X.w) X E)(ha:lh X E No gx) (U:Gl X x:=by rfl)(hdb:GE=false:=by decide)(he:starEach No X.env=Go::starEach es X.env:=by rfl)(Z:(backTo pos M5).any M0=false:=by rfl):gf X E IN (CP gx m):=by
 obtain⟨ta,pa,ka⟩:=ha;refine⟨_,YH T F hr U hP pa hdb he Z,fun δ r g G0 H0 G H σ ts Q R q1 q2=>?_⟩;unfold CP at g;cases U:gx δ with
 |none=>rw[U]at g;cases g
 |some w=>
  rw[U]at g;refine ka δ _ U G0 H0 G H σ ts _ R (fun xs Y vs G1 H1 R1 hv=>?_) (fun C hC H' h'=>?_)
  .subst Y;obtain⟨d,R2⟩:=R1.args hv;refine⟨xs,r,G1,g,by rw[(Qh)];exact d,R2.ins,?_⟩;cases r with
   |inl y=>exact fun v G' H' h3 h4 h5 h6 h7=>q1 y rfl _ _ _ ((R2.lift h3 h4 h5 h6).put h7)
   |inr C=>exact fun H' h=>q2 C rfl H' (R2.keep.trans h)
  .subst hC;cases g;exact q2 C rfl H' h'
abbrev xE(fx:Dv->Option Xr)(nx:PD->Dv->Ou):GV:=fun δ=>(fx δ).map fun r=>match r with
 |.inl x=>.inl (nx x δ)
 |.inr C=>.inr C
def Us(U:gf X E e fx):DX X E (.Return (some e) pos) (xE fx fun x _=>.rt x):=by
 obtain⟨t,p,k⟩:=U;refine⟨_,Cp p,fun δ r h G0 H0 G H σ D R q=>?_⟩;obtain⟨z,Z,rfl⟩:=aC.mp h;refine k δ z Z G0 H0 G H σ [] _ R (fun x T v G' H' g=>?_) (fun C Y H' h'=>?_)
 .subst T;exact q _ _ _ g.ext g.new g.ins g.keep (g.B5 _ Fa)
 .subst Y;exact q _ h'
def Z5{i:Nat}{y:Str}{g:Pos}(Z:gf X E e fx)(hN:X.N.Nodup)(T:Loc X.env.scope y)(hi:X.N[i]? = some y:=by rfl)(U:swapsWith e (some (.Name y g)) pos.line X.env=pure false:=by rfl)(Y:X.fn y=true\/X.env.scope.names.lookup y=some .local:=by first|exact .inl rfl|exact .inr rfl|assumption):DX X E (.Assign [.Name y g] e pos) (xE fx fun x δ=>.nx (δ.set i (.d x))):=by
 obtain⟨t,p,k⟩:=Z;refine⟨_,BM hN hi T p U Y,fun δ r h G0 H0 G H σ D R q=>?_⟩;obtain⟨z,h1,rfl⟩:=aC.mp h;refine k δ z h1 G0 H0 G H σ [] _ R (fun x T v G' H' R'=>?_) (fun C hC H' h'=>?_)
 .subst T;exact q _ _ _ R'.IE
 .subst hC;exact q _ h'
end
section
variable{δ:Dv}{fx:Dv->Option Xr}{gx:Dv->Option YD}{m:rW}{xs:yx}{r:Option Xr}   
def YX{x:PD}(h:fx δ=some (.inl x))(k:gx δ=some (.inl xs)):DY fx gx δ=some (.inl (x::xs)):=by unfold DY;rw[h,k]
def Z8(h:gx δ=some (.inl xs))(k:m xs=r):CP gx m δ=r:=by unfold CP;rw[h];exact k
def vg{nx:PD->Dv->Ou}{y:PD}(h:fx δ=some (.inl y)):xE fx nx δ=some (.inl (nx y δ)):=by show(fx δ).map _=_;rw[h];rfl
end
end L2
namespace L2
open PySem PySem.Spec PyProof.Rows
def jA(ns:zA):(ns.map V.int).all LW=true:=by
 rw[List.all_eq_true];intro x g;obtain⟨i,_,rfl⟩:=aQ.mp g
 rfl
theorem ZC(i:Int):∀ns:List Int,lR (.int i) RW=ns.contains i
 |[]=>rfl
 |n::ns=>by
  have g:=ZC i ns;unfold lR at g ⊢;rw[(A2),List.any_cons,g,List.contains_cons]
  congr 1
  show(n==i)=(i==n);rw[Bool.eq_iff_iff,beq_iff_eq,beq_iff_eq];exact eq_comm
def lK{P:F0b}{w:F0c}{K:Fg}{mg:y0}{base:Heap}{k:Nat}{f:AD}{fd:F0a}{ps:zC}{m:MD}(F:AK P w K mg base Af k f fd ps (A6 m)):AK P w K mg base Kf k f fd ps (Dy fun ds=>(m ds).map .inl) :=
 F.yU.imp fun vs H Q E z=>by
  obtain⟨ds,r,G,Y,U,T,R⟩:=z;obtain⟨x,g,rfl⟩:=aC.mp Y;exact⟨ds,x,G,g,U,T,R⟩
end L2
namespace L2
open PySem PySem.Spec PyProof.Rows
def GT(H:Hp)(v:VL)(x:Tr):Prop:=∃a ys,v=.ref a/\H a=some (.tup ys)/\Ts H x ys
def eJ(S:AD)(ev:RJ)(ep:Nat)(t:SetTable):HO:=.ext fun h=>∃o,h.get? S=some o/\o.ExactSet/\o.data=.set ev ep t
abbrev rE(H:Hp)(p:Int×VL)(q:Int×Tr):Prop:=p.1=q.1/\q.2.deep<8/\GT H p.2 q.2
def jy(H:Hp)(S:AD)(st:TH.ES×SetTable):Prop:=∃ev ep,H S=some (eJ S ev ep st.2)/\PySem.Paired (rE H) ev.toList st.1.toList
def GT.same{H H':Hp}{v:VL}{x:Tr}(h:GT H v x)(e:AL H H'):GT H' v x:=let⟨a,ys,T,R,g⟩:=h;⟨a,ys,T,e _ _ R,g.same e⟩
structure lq(w:World)(st:TH.ES×SetTable):Prop where
 fit:st.2.fits st.1.size=true
 plain:st.2.plain=true
 led:st.2.led=!w.params.followText "set-order"
 walk:TH.Qe st.2 st.1.size=true
 small:st.1.size<64
section
variable{X:Cx}{pins:Cu}{σ:St}{H:Hp}{s:SD}
def i6(I:BY){v:VL}{x:Tr}(g:GT H v x):∃a R,v=.ref a/\s.heap.IsTuple a R.toArray/\TH.Vs s.heap x R:=by
 obtain⟨a,ys,rfl,U,T⟩:=g;obtain⟨R,r,p,_⟩:=I.tuple (BK.of (K:=X.K) U);exact⟨a,R,rfl,p,T.vs I r⟩
theorem Xh(I:BY):∀ {t:Tr} {ys:IZ} {us:LQ},Ts H t ys->Vals ys us->t.deep<=8->TH.Ln (GT H) s.heap us t.bs
 |.nil,ys,us,h,r,_=>by
  rw[Ts]at h;subst h;cases r;exact .nil
 |.cons b q,ys,us,h,r,hd=>by
  rw[Ts]at h;obtain⟨a,R,rest,rfl,h1,Z,Y⟩:=h;rw[Tr.deep]at hd;cases r with
  |cons U T=>
   cases U;have g:GT H Hf b:=⟨a,R,rfl,h1,Z⟩;exact .cons ⟨by lia,g,i6 I g⟩ (Xh I Y T AC)
def jo(I:BY){l:List (Int×VL)}{m:List (Int×Tr)}(h:PySem.Paired (rE H) l m):PySem.Paired (TH.Sg (GT H) s.heap) l m :=
 TH.Paired.imp (fun _ _ ⟨a,b,c⟩=>⟨a,b,c,i6 I c⟩) h
theorem sW:∀ {us:LQ} {ts:List Tr},PySem.Paired (GT H) us ts->∃zs,Vals zs us/\Ts H (Tr.of ts) zs
 |_,_,.nil=>⟨[],.nil,by rw[Tr.of,Ts]⟩
 |_,_,.cons ⟨a,ys,e,U,T⟩ r=>by
  obtain⟨zs,R,g⟩:=sW r;subst e;exact⟨.ref a::zs,.cons rfl R,by rw[Tr.of,Ts];exact⟨a,ys,zs,rfl,U,T,g⟩⟩
def vz(w:F0c)(K:Fg):List V->Hp->VK->Prop:=fun xs H Q=>∃p ys t st,xs=[.ref p]/\Aw K H p ys/\Ts H t ys/\t.deep<=8/\TH.Qr (TH.Nx (!w.params.followText "set-order")) t.bs=some st /\
 ∀S H',AL H H'->jy H' S st->Q (.ref S) H'
def fK(hc:bi)(hu:IO):FZ X (.type "set") (vz X.w X.K):=by
 intro pins s σ H xs us Q I r h;obtain⟨p,ys,t,st,rfl,hq,ht,hd,g,q⟩:=h;obtain⟨u,rfl,U⟩:=r.one;cases U;obtain⟨its,T,Z,hz⟩:=I.list hq;refine TH.ZW (G:=GT H) Nu Z.isList (Xh I ht T hd) AC g fun h2 tk S2 k2=>?_;obtain⟨o,ev,ep,R,g2,g3,g4⟩:=S2;have hf:=I.A9.fresh (aJ s.heap.objs.size);have es:=Ag hf (eJ s.heap.objs.size ev ep st.2);refine⟨.ref s.heap.objs.size,upd H s.heap.objs.size (eJ s.heap.objs.size ev ep st.2),I.laid (t':=tk) k2 Ql ?_,rfl,q _ _ es ⟨ev,ep,AR,TH.Paired.imp (fun _ _ ⟨a,b,c,_⟩=>⟨a,b,c.same es⟩) g4⟩⟩;exact⟨⟨o,R,g2,g3⟩,⟨o,R⟩,fun h1 h2 ⟨o,q1,Y⟩ k=>⟨o,k _ q1,Y⟩⟩
def oK(I:BY){S:AD}{st:TH.ES×SetTable}(h:jy H S st)(ok:lq X.w st):∃o ev ep,s.heap.get? S=some o/\TH.Gs X.w o ev ep st.2/\TH.Em (GT H) s.heap ev st.1:=by
 obtain⟨ev,ep,U,T⟩:=h;obtain⟨⟨o,g1,Z,Y⟩,_,_⟩:=(show EF X.prog X.w H s.heap S (eJ S ev ep st.2) from I.A9 S _ U);have R:=jo I T;have g:ev.size=st.1.size:=TH.Em.size R;exact⟨o,ev,ep,g1,⟨Z,Y,by rw[g];exact ok.fit,ok.plain,ok.led,by rw[g];exact ok.walk⟩,R⟩
def qD(w:F0c):List V->Hp->VK->Prop:=fun xs H Q=>∃S st,xs=[.ref S]/\jy H S st/\lq w st/\∀(l:AD) (g:IZ),H l=none->g.length<64->Ts H (Tr.of (Tr.Eh (TH.T3 st)).reverse) g->Q Rb (upd H l (.lst g))
def d7(hc:bi)(hu:IO):FZ X XV (qD X.w):=by
 intro pins s σ H xs us Q I r h;obtain⟨S,st,rfl,hS,ok,q⟩:=h;obtain⟨u,rfl,g⟩:=r.one;cases g;obtain⟨o,ev,ep,g1,W,R⟩:=oK I hS ok;refine TH.eP Nu W g1 R ok.small AC fun h' D tk e1 us Y k1 gD hp hl=>?_;obtain⟨T,g,Z⟩:=sW hp;have U:T.length<64:=by rw[g.length];exact hl
 refine⟨.ref D,upd H D (.lst T),I.laid (t':=tk) k1 Y ⟨bD (aH U KF),us,e1,g,gD⟩,rfl,q D T (I.A9.fresh Y) U Z⟩
end
open PySem PyProof.Rows
section
variable{prog:F0b}{w:F0c}{A:F0d}{E:yz}{s:SD}
def oU{k:Int}{t:Tok}{Q:Option PySem.Fin×Unit->SD->Prop}(xs:yy)(f:Nat->Option PySem.Fin×Unit->Sem (ForInStep (Option PySem.Fin×Unit)))
 (hf:∀i y st,xs.toArray[i]? = some y->f i st=(do
      let b <-eqBool y (.int k t)
      if b=true then do
          let r <-retInt ↑i
          pure (ForInStep.done (some r,()))
        else pure (ForInStep.yield (none,())))):∀ {vs:yy} {ns:zA},IntsAre vs ns->∀(pre:yy),pre++vs=xs->k∈ns ->
    (∀t' s',s'={s with toks:=s'.toks}->s.toks<=s'.toks->Q (some (.done (.ret (.int ((pre.length+ns.idxOf k:Nat):Int) t'))),()) s') ->
    wpAny AS A (forIn (List.range' pre.length vs.length) (none,()) f) Q E s:=by
  intro vs ns hi
  induction hi with
  |nil=>intro _ _ hk;cases hk
  | @cons n u vs ns r ih=>
    intro pre hx hk h
    rw[(Jz),List.range'_succ,List.forIn_cons]
    refine Wb ?_
    rw[hf pre.length (.int n u) _ (by rw[<-hx];simp)]
    refine Wb (wpAny_eqBool_int ?_)
    by_cases z:n=k
    . subst z
      rw[if_pos At]
      refine Wb ?_
      refine Wb (wpAny_mkInt Re)
      refine aA Re
      have:=h s.toks {s with toks:=s.toks+1} rfl (Nat.le_succ _)
      rw[List.idxOf_cons_self]at this
      exact this
    . rw[if_neg (by simpa using z)]
      refine aA ?_
      have hk':k∈ns:=(aM.mp hk).resolve_left fun e=>z e.symm
      have:=ih (pre++[.int n u]) (by rw[<-hx,(VI)];rfl) hk' (fun t' s' e1 e2=>by
        have:=h t' s' e1 e2
        rw[List.idxOf_cons,show(n==k)=false by simpa using z]at this
        rw[(Gf),List.length_singleton,Nat.add_assoc,Nat.add_comm 1]
        exact this)
      rw[(Gf),List.length_singleton]at this
      exact this
def SX{l:AD}{vs:yy}{ns:zA}{k:Int}{t:Tok}{Q:yz}(g:IsTup s.heap l vs.toArray)(hi:IntsAre vs ns) (R:k∈ns)(h:∀t' s',s'={s with toks:=s'.toks}->s.toks<=s'.toks->Q (.int (ns.idxOf k:Nat) t') s'):wpAny AS A (call (.builtin "tuple.index") [.ref l,.int k t]) Q E s:=by
 refine aa F.slot_tuple_index g.typeIs F.entry_tuple_index ?_ (F.args_tuple_index_2 _ _);unfold Builtin.«tuple.index»;refine Wb (m:=selfAndSome _ _ _ _ _) Re;refine Wb (tupleItemsOf_ g ?_);refine Wb (aA (Wb (aA (Wb ?_))));rw[Nat.min_self,Std.Legacy.Range.forIn_eq_forIn_range'];have z:Std.Legacy.Range.size [0:vs.toArray.size]=vs.length:=by simp[Std.Legacy.Range.size]
 rw[z];refine oU (k:=k) (t:=t) vs _ (fun i y st e=>by simp only[e]) hi [] rfl R (fun t' s' U T=>aA ⟨_,rfl,?_⟩);have:=h t' s' U T;rw[List.length_nil,Nat.zero_add];exact this
end
end L2
namespace L2
open PySem PySem.Spec PyProof.Rows
def mj(K:Fg):V->List V->Hp->VK->Prop:=fun x xs H Q=>∃(p:AD) (ns:List Int) (k:Int),x=.ref p/\xs=[.int k]/\BK K H p (List.map V.int ns)/\k∈ns/\Q (.int (ns.idxOf k:Nat)) H
structure Own(K:Fg)(a:Addr)(ns:List Int):Prop where
 sq:∀H,BK K H a RW
 ty:∃o,K.lookup a=some o/\o.cls=.type "tuple" /\ o.dict=none
section
variable{X:Cx}{a e:Expr}{f:yu}{pos p:Pos}
def hJ:rB X "tuple.index" (mj X.K):=by
 intro pins s σ H x xs v us Q I R T h;obtain⟨q,ns,k,rfl,rfl,hq,hk,h⟩:=h;cases R;obtain⟨u,rfl,t,rfl⟩:=vals1 T;obtain⟨Z,U,Y,hz⟩:=I.tuple hq;refine SX Y (intsAre_of U) hk fun g s' e1 e2=>?_;rw[e1];exact⟨.int (ns.idxOf k:Nat),H,I.tok _,⟨g,rfl⟩,h⟩
def mH(neg:Bool)(ns:zA)(x:PD):y7:=match x with
 |.int i=>some (.bool (if neg then !(ns.contains i) else ns.contains i))
 |_=>none
def gL(ns:zA)(x:PD):y7:=match x with
 |.int i=>if i∈ns then some (.int (ns.idxOf i:Nat)) else none
 |_=>none
def pj{op:CmpOp}{neg:Bool}{x:Str}{c:AD}{ns:zA}(ho:Dd X (compareOp op) (wA X.K neg))(ha:DE X a f)(hg:Gl X x)(hm:X.mg x=some (.ref c))(hn:Own X.K c ns)(hk:behindInMarks op (.Name x p)=false:=by rfl)(hd:GE=false:=by decide):DT X (.Compare a [op] [.Name x p] pos) (fun δ=>((f δ).bind (mH neg ns)).bind Ny):=by
 obtain⟨ta,U,Y⟩:=ha;refine⟨_,EY ho U (U5 (v:=.ref c) hg hm rfl hd) hk,fun δ z Z G0 H0 G H σ ts Q R0 k=>?_⟩;obtain⟨q,h0,h4⟩:=aB.mp Z;have:=Pu h4;subst this;obtain⟨y,h1,g⟩:=aB.mp h0;refine Y δ y h1 G0 H0 G H σ ts _ R0 fun u G1 H1 T=>?_;unfold mH at g;split at g
 .cases g;have R:=T.B5 (_,u) Fa;rw[Du]at R;subst R;refine⟨c,_,rfl,.inr (hn.sq _),rfl,jA ns,?_⟩;rw[ZC];exact⟨_,rfl,k _ _ T.drop⟩
 .cases g
def fJ{x:Str}{c:AD}{ns:zA}{Z ap:Pos}(ha:DE X e f)(hg:Gl X x)(hm:X.mg x=some (.ref c))(hn:Own X.K c ns)(hd:GE=false:=by decide) (T:attributeBase (.Name x p) "index" X.env (eval (.Name x p) X.env)=eval (.Name x p) X.env:=by rfl) (Y:((backTo Z (starEach [e] X.env)).all (fun x=>!x.1)&&(backToKw Z (keywordEach [] X.env)).all (fun x=>x.1.isSome) && decide (([e]:zD).length+([]:List Keyword).length+(if([]:List Keyword).isEmpty then 0 else 1)<30))=true:=by rfl) (R:(ap.endLine==Z.line)=true:=by rfl)(hs:starEach [e] X.env=Go::starEach [] X.env:=by rfl)(g:(backTo Z (starEach [] X.env)).any M0=false:=by rfl):DE X (.Call (.Attribute (.Name x p) "index" ap) [e] [] Z) (fun δ=>(f δ).bind (gL ns)):=by
 obtain⟨ta,pa,ka⟩:=ha;refine⟨_,Ic PySem.F.plainAttrs_tuple PySem.F.slot_tuple_index PySem.F.type_tuple_index hJ (U5 (v:=.ref c) hg hm rfl hd) (AM pa Ad hs) T Y R hs g,fun δ z hz G0 H0 G H σ ts Q R0 k=>?_⟩;obtain⟨y,h1,U⟩:=aB.mp hz;refine⟨.inr (.inl ⟨rfl,hn.ty⟩),?_⟩;refine ka δ y h1 G0 H0 G H σ ts _ R0 fun u G1 H1 R1=>?_;unfold gL at U;split at U
 .split at U
  .rename_i hi;cases U;have du:=R1.B5 (_,u) Fa;rw[Du]at du;subst du;exact⟨c,ns,_,rfl,rfl,hn.sq _,hi,k _ _ _ (R1.drop.put L1)⟩
  .cases U
 .cases U
end
def TR(led:Bool)(l z:zK):Bool:=match TH.Qr (TH.Nx led) l with
 |some st=>decide ((Tr.Eh (TH.T3 st)).reverse=z)&&st.2.fits st.1.size&&st.2.plain&&decide (st.2.led=led)&&TH.Qe st.2 st.1.size&&decide (st.1.size<64)
 |none=>false
def kF{led:Bool}{l z:zK}(h:TR led l z=true):∃st,TH.Qr (TH.Nx led) l=some st/\(Tr.Eh (TH.T3 st)).reverse=z/\st.2.fits st.1.size=true/\st.2.plain=true/\st.2.led=led/\TH.Qe st.2 st.1.size=true/\st.1.size<64:=by
 unfold TR at h;split at h
 .rename_i st e;simp only[Bool.and_eq_true,decide_eq_true_eq]at h;obtain⟨⟨⟨⟨⟨Z,Y⟩,U⟩,T⟩,R⟩,g⟩:=h;exact⟨st,e,Z,Y,U,T,R,g⟩
 .cases h
def d9(l:zK):zK:=match TH.Qr (TH.Nx true) l with
 |some st=>(Tr.Eh (TH.T3 st)).reverse
 |none=>[]
def IE(t:Tr):y7:=if t.deep<=8/\TR true t.bs (d9 t.bs)=true/\TR false t.bs (d9 t.bs)=true then some (.list (BN (Tr.of (d9 t.bs)))) else none
def OP:PD->Option PD
 |.list g=>(EH g).bind IE
 |_=>none
section
variable{X:Cx}{e:Expr}{f:yu}{pos p p2 pos2:Pos}
def TQ(hc:bi)(hu:IO)(hg:Gl X "sorted")(hm:X.mg "sorted" = none)(hg2:Gl X "set")(hm2:X.mg "set" = none)(ha:DE X e f) (U:starEach [e] X.env=Go::starEach [] X.env:=by rfl)(T:starEach [.Call (.Name "set" p2) [e] [] pos2] X.env=(false,eval (.Call (.Name "set" p2) [e] [] pos2) X.env)::starEach [] X.env:=by rfl) (hq1:(backTo pos2 (starEach [] X.env)).any M0=false:=by rfl)(hq2:(backTo pos (starEach [] X.env)).any M0=false:=by rfl):DE X (.Call (.Name "sorted" p) [.Call (.Name "set" p2) [e] [] pos2] [] pos) (fun δ=>(f δ).bind OP):=by
 obtain⟨ta,pa,ka⟩:=ha;refine⟨_,EA (d7 hc hu) hg hm PyProof.Rows.boot_sorted (AM (V1 (fK hc hu) hg2 hm2 PyProof.Rows.boot_set (AM pa Ad U) AT AT U hq1) Ad T) AT AT T hq2,fun δ z hz G0 H0 G H σ ts Q R0 k=>?_⟩;obtain⟨y,h1,h2⟩:=aB.mp hz;refine ka δ y h1 G0 H0 G H σ ts _ R0 fun u G1 H1 R1=>?_;unfold OP at h2;split at h2
 .rename_i ds;obtain⟨t,h3,Z⟩:=aB.mp h2;unfold IE at Z;split at Z
  .rename_i hh;cases Z;have hds:=Kq h3;have du:=R1.B5 (_,u) Fa;obtain⟨bb,a,ys,rfl,g,n2⟩:=JE du (show GB (.list ds)=some ds from rfl);have n1':H1 a=some IR:=by
    have:=R1.ins _ _ g;cases bb
    .simpa using this
    .exact absurd g (by
      have Y:=du;intro g;rw[Du]at Y;obtain⟨a',ys',e1,e2,_⟩:=Y;cases e1;rw[e2]at g;cases g)
   rw[hds]at n2;have ht:=(G5 n2).same R1.ins;have both:∀led,TR led t.bs (d9 t.bs)=true:=fun led=>by cases led;exact hh.2.2;exact hh.2.1
   obtain⟨st,r1,r2,r3,r4,r5,r6,r7⟩:=kF (both (!X.w.params.followText "set-order"));refine⟨a,ys,t,st,rfl,Aw.of n1',ht,hh.1,r1,fun S H' e1 hS=>⟨S,st,rfl,hS,⟨r3,r4,r5,r6,r7⟩,fun l zs hl hz R=>?_⟩⟩;rw[r2]at R;have R2:=(R1.drop.on e1).BC;exact k _ _ _ (R2.VR (UI R) hl)
  .cases Z
 .cases h2
end
end L2
namespace ZT
open PySem PyProof.Rows
abbrev G6(h:Heap)(T:AD)(a b c:VL):Prop:=h.get? T=some { cls:=.type "tuple",data:=.seq #[a,b,c]}
section
variable{prog:F0b}{w:F0c}{A:F0d}{E:yz}{s:SD}{z TI TO i1 i2 i3:AD}{f1 f2 f3:zL}{n1 n2 n3 k:Nat}{P1 P2 P3:Nat->VL->Prop}{S1 S2 S3:Nat->Heap->Prop}{a b c:VL}
def put3{T:AD}{x:VL}{k:Nat}{Q:Unit->SD->Prop}(g:G6 s.heap T a b c) (h:∀h',h'.get? T=some { cls:=.type "tuple",data:=.seq ((#[a,b,c]:Array VL).setIfInBounds k x)}->Heap.SameBut T s.heap h'->Q () Op):wpAny AS A (updateSeq T (·.setIfInBounds k x)) Q E s:=by
 refine wpAny_updateSeq g rfl (h _ ?_ (aY ..));rw[Heap.get?_update_self _ g rfl];simp[Obj.mapSeq]
structure QD(z TI TO i1 i2 i3:Addr)(f1 f2 f3:List Addr):Prop where
 a1:TO≠z/\TO≠i1/\TO≠i2/\TO≠i3
 a2:i1≠z/\i2≠z/\i3≠z
 b1:z ∉ f1/\TO ∉ f1/\i2 ∉ f1/\i3 ∉ f1
 b2:z ∉ f2/\TO ∉ f2/\i1 ∉ f2/\i3 ∉ f2
 b3:z ∉ f3/\TO ∉ f3/\i1 ∉ f3/\i2 ∉ f3
def vv{Q:yz}(D1:Draws prog w A i1 f1 n1 P1 S1)(D2:Draws prog w A i2 f2 n2 P2 S2)(D3:Draws prog w A i3 f3 n3 P3 S3)(ap:QD z TI TO i1 i2 i3 f1 f2 f3)(hz:Rj)(hI:G6 s.heap TI (.ref i1) (.ref i2) (.ref i3))(hO:G6 s.heap TO a b c) (t1:S1 k s.heap)(t2:S2 k s.heap)(t3:S3 k s.heap)(l1:k<n1)(l2:k<n2)(l3:k<n3) (q:∀x y u h' tk,P1 k x->P2 k y->P3 k u->IsZip h' z TI TO (rawInt s.heap.objs.size)->G6 h' TO x y u->S1 Pi h'->S2 Pi h'->S3 Pi h'->G6 h' s.heap.objs.size x y u->h'.objs.size=s.heap.objs.size+1 ->(∀c o,c≠z->c≠TO->c≠i1->c≠i2->c≠i3->s.heap.get? c=some o->h'.get? c=some o)->Q Do Da):wpAny AS A Of (fun fin s'=>∃v,fin=.done (.ret v)/\Q v s') E s:=by
 obtain⟨⟨c5,c6,c7,c7'⟩,⟨c8,c9,c9'⟩,⟨d1,d2,d3,d3'⟩,⟨d4,d5,d6,d6'⟩,e4,e5,e6,e6'⟩:=ap;show wpAny _ _ (field NF 2>>=_) _ _ _;refine Wb (ae hz rfl (x:=.bool false) rfl ?_);show wpAny _ _ (field NF 3>>=_) _ _ _;refine Wb (ae hz rfl (x:=.ref TI) rfl (Wb (ak hI rfl ?_)));show wpAny _ _ M2 _ _ _;unfold Builtin.SmallTypes.ownedTupleIsFree;refine Wb (Wb (ae hz rfl (x:=.none) rfl Re));simp only[if_true];refine Wb (bH (Wb (ae hz rfl (x:=.ref TO) rfl (Wb (ax hz At fun g1 z1 m1=>Wb ?_)))));have m1:Heap.SameBut z s.heap g1:=m1;have z1:IsZip g1 z TI TO .ellipsis:=z1;simp only[List.zipIdx_cons,List.zipIdx_nil,List.forIn_cons,List.forIn_nil];refine Wb (Wb (wpAny_onRaise ?_));show wpAny _ _ RH _ _ _;refine Wb (D1.item k _ _ _ l1 (D1.frame _ _ _ t1 (A4 d1 m1)) fun x g2 tk2 p1 u1 m2=>aA ?_);have m2:Heap.SameBut i1 g1 g2:=m2;have o2:G6 g2 TO a b c:=(m2.2 _ c6).trans ((m1.2 _ c5).trans hO);refine Wb (ak o2 rfl (Wb (put3 o2 fun g3 o3 Z=>Wb (wpAny_letGo Re))));have o3:G6 g3 TO x b c:=o3;have Z:Heap.SameBut TO g2 g3:=Z;refine Wb (Wb (wpAny_onRaise ?_));show wpAny _ _ Vx _ _ _;have t2':S2 k g3:=D2.frame _ _ _ (D2.frame _ _ _ (D2.frame _ _ _ t2 (A4 d4 m1)) (A4 d6 m2)) (A4 d5 Z);refine Wb (D2.item k _ _ _ l2 t2' fun y g4 tk4 p2 u2 Y=>aA ?_);have Y:Heap.SameBut i2 g3 g4:=Y;have o4:G6 g4 TO x b c:=(Y.2 _ c7).trans o3;refine Wb (ak o4 rfl (Wb (put3 o4 fun g5 o5 U=>Wb (wpAny_letGo Re))));have U:Heap.SameBut TO g4 g5:=U;have o5:G6 g5 TO x y c:=o5;refine Wb (Wb (wpAny_onRaise ?_));show wpAny _ _ (Builtin.SmallTypes.nextOf (.ref i3)>>=_) _ _ _;have t3':S3 k g5:=D3.frame _ _ _ (D3.frame _ _ _ (D3.frame _ _ _ (D3.frame _ _ _ (D3.frame _ _ _ t3 (A4 e4 m1)) (A4 e6 m2)) (A4 e5 Z)) (A4 e6' Y)) (A4 e5 U);refine Wb (D3.item k _ _ _ l3 t3' fun u g6 tk6 p3 u3 T=>aA ?_);have T:Heap.SameBut i3 g5 g6:=T;have o6:G6 g6 TO x y c:=(T.2 _ c7').trans o5;refine Wb (ak o6 rfl (Wb (put3 o6 fun g o7 R=>Wb (wpAny_letGo (aA Re)))));have R:Heap.SameBut TO g6 g:=R;have o7:G6 g TO x y u:=o7;refine Wb (ak o7 rfl (Wb (wpAny_newTuple ?_)));have sz:g.objs.size=s.heap.objs.size:=by rw[R.1,T.1,U.1,Y.1,Z.1,m2.1,m1.1]
 have z7:IsZip g z TI TO .ellipsis:=(R.2 _ c5.symm).trans ((T.2 _ c9'.symm).trans ((U.2 _ c5.symm).trans ((Y.2 _ c9.symm).trans ((Z.2 _ c5.symm).trans ((m2.2 _ c8.symm).trans z1)))));have kp:∀c o,c≠z->c≠TO->c≠i1->c≠i2->c≠i3->s.heap.get? c=some o->g.get? c=some o:=fun c o e1 e2 e3 e4 e5 e=>(R.2 _ e2).trans ((T.2 _ e5).trans ((U.2 _ e2).trans ((Y.2 _ e4).trans ((Z.2 _ e2).trans ((m2.2 _ e3).trans ((m1.2 _ e1).trans e))))));have v1:S1 Pi g:=D1.frame _ _ _ (D1.frame _ _ _ (D1.frame _ _ _ (D1.frame _ _ _ (D1.frame _ _ _ u1 (A4 d2 Z)) (A4 d3 Y)) (A4 d2 U)) (A4 d3' T)) (A4 d2 R);have v2:S2 Pi g:=D2.frame _ _ _ (D2.frame _ _ _ (D2.frame _ _ _ u2 (A4 d5 U)) (A4 d6' T)) (A4 d5 R);have v3:S3 Pi g:=D3.frame _ _ _ u3 (A4 e5 R);show wpAny _ _ (Builtin.SmallTypes.ownedTupleHandOut NF (.ref g.objs.size)>>=_) _ _ _;unfold Builtin.SmallTypes.ownedTupleHandOut;have z8:IsZip (g.push { cls:=.type "tuple",data:=.seq #[x,y,u]}) z TI TO .ellipsis:=aE _ z7;refine Wb (Wb (ax z8 At fun g8 w8 m8=>ax (show IsZip g8 z TI TO (rawInt g.objs.size) from w8) At fun g9 w9 m9=>?_));have w9:IsZip g9 z TI TO (rawInt g.objs.size):=w9;have up:∀c o,c≠z->(g.push { cls:=.type "tuple",data:=.seq #[x,y,u]}).get? c=some o->g9.get? c=some o:=fun c o e1 e=>(m9.2 _ e1).trans ((m8.2 _ e1).trans e);have zl:z<g.objs.size:=aF z7;refine aA ⟨_,rfl,?_⟩;show Q (.ref g.objs.size) _;have fin:=q x y u g9 tk6 p1 p2 p3 (by rw[<-sz];exact w9) (up _ _ c5 (aE _ o7)) (D1.frame _ _ _ v1 fun c hc o e=>up c o (fun y=>d1 (y ▸ hc)) (aE _ e)) (D2.frame _ _ _ v2 fun c hc o e=>up c o (fun y=>d4 (y ▸ hc)) (aE _ e)) (D3.frame _ _ _ v3 fun c hc o e=>up c o (fun y=>e4 (y ▸ hc)) (aE _ e))
  (by rw[<-sz];exact up _ _ (ai zl) (aO _ rfl)) (by rw[<-sz,m9.1,m8.1,(Ii)]) fun c o e1 e2 e3 e4 e5 e=>up c o e1 (aE _ (kp c o e1 e2 e3 e4 e5 e))
 rw[sz];exact fin
def sF{Q:Fin->SD->Prop}(D1:Draws prog w A i1 f1 n1 P1 S1)(D2:Draws prog w A i2 f2 n2 P2 S2)(D3:Draws prog w A i3 f3 n3 P3 S3)(ap:QD z TI TO i1 i2 i3 f1 f2 f3)(hz:Rj)(hI:G6 s.heap TI (.ref i1) (.ref i2) (.ref i3))(hO:G6 s.heap TO a b c) (t1:S1 k s.heap)(t2:S2 k s.heap)(t3:S3 k s.heap)(he:k=n1) (q:∀h' e tk,(∀c o,c≠z->c≠TO->c≠i1->c≠i2->c≠i3->s.heap.get? c=some o->h'.get? c=some o)->(∃o,h'.get? e=some o/\o.cls=.type "StopIteration")->E (.ref e) Da):wpAny AS A Of Q E s:=by
 obtain⟨⟨c5,c6,c7,c7'⟩,⟨c8,c9,c9'⟩,⟨d1,d2,d3,d3'⟩,⟨d4,d5,d6,d6'⟩,e4,e5,e6,e6'⟩:=ap;show wpAny _ _ (field NF 2>>=_) _ _ _;refine Wb (ae hz rfl (x:=.bool false) rfl ?_);show wpAny _ _ (field NF 3>>=_) _ _ _;refine Wb (ae hz rfl (x:=.ref TI) rfl (Wb (ak hI rfl ?_)));show wpAny _ _ M2 _ _ _;unfold Builtin.SmallTypes.ownedTupleIsFree;refine Wb (Wb (ae hz rfl (x:=.none) rfl Re));simp only[if_true];refine Wb (bH (Wb (ae hz rfl (x:=.ref TO) rfl (Wb (ax hz At fun g1 U T=>Wb ?_)))));have T:Heap.SameBut z s.heap g1:=T;have U:IsZip g1 z TI TO .ellipsis:=U;simp only[List.zipIdx_cons,List.zipIdx_nil,List.forIn_cons,List.forIn_nil];refine Wb (Wb (wpAny_onRaise ?_));show wpAny _ _ RH _ _ _;have g:=D1.frame _ _ _ t1 (A4 d1 T);rw[he]at g;refine Wb (D1.done _ _ _ g fun g2 e m2 R=>?_);obtain⟨o,R,hc⟩:=R;have Y:IsZip g2 z TI TO .ellipsis:=m2 _ _ c8.symm U;have ez:e≠z:=fun y=>by subst y;rw[Y]at R;cases R;simp at hc
 exact ax Y At fun g3 _ Z=>q g3 e _ (fun c o e1 e2 e3 e4 e5 y=>(Z.2 _ e1).trans (m2 _ _ e3 ((T.2 _ e1).trans y))) ⟨o,(Z.2 _ ez).trans R,hc⟩
def dC{Q:Ph}(D1:SB)(D2:SC)(D3:Draws prog w A.in1 i3 f3 n3 P3 S3)(ap:QD z TI TO i1 i2 i3 f1 f2 f3)(hz:Rj)(hI:G6 s.heap TI (.ref i1) (.ref i2) (.ref i3))(hO:G6 s.heap TO a b c) (t1:S1 k s.heap)(U:S2 k s.heap)(t3:S3 k s.heap)(l1:k<n1)(l2:k<n2)(l3:k<n3) (q:∀x y u h' tk,P1 k x->P2 k y->P3 k u->IsZip h' z TI TO (rawInt s.heap.objs.size)->G6 h' TO x y u->S1 Pi h'->S2 Pi h'->S3 Pi h'->G6 h' s.heap.objs.size x y u->h'.objs.size=s.heap.objs.size+1 ->(∀c o,c≠z->c≠TO->c≠i1->c≠i2->c≠i3->s.heap.get? c=some o->h'.get? c=some o)->Q (some Do) Da):wpAny AS A (pyNext NF) Q E s:=by
 have T:s.TypeIs NF "zip" := ⟨_,hz,rfl⟩;unfold pyNext;exact Wb (wpAny_attempt (aj (name:=Str.ofString "__next__") T bG
  (aa bG T F.entry_zip_next (vv D1 D2 D3 ap hz hI hO t1 U t3 l1 l2 l3 fun x y u h' tk r1 r2 r3 r4 r5 r6 r7 Z Y R g=>aA (q x y u h' tk r1 r2 r3 r4 r5 r6 r7 Z Y R g)) (F.args_zip_next_1 _))))
def gb{Q:Ph}(D1:SB)(D2:SC)(D3:Draws prog w A.in1 i3 f3 n3 P3 S3)(ap:QD z TI TO i1 i2 i3 f1 f2 f3)(hz:Rj)(hI:G6 s.heap TI (.ref i1) (.ref i2) (.ref i3))(hO:G6 s.heap TO a b c) (t1:S1 k s.heap)(U:S2 k s.heap)(t3:S3 k s.heap)(Y:k=n1) (q:∀h' tk,(∀c o,c≠z->c≠TO->c≠i1->c≠i2->c≠i3->s.heap.get? c=some o->h'.get? c=some o)->Q none Da):wpAny AS A (pyNext NF) Q E s:=by
 have R:s.TypeIs NF "zip" := ⟨_,hz,rfl⟩;unfold pyNext;refine Wb (wpAny_attempt (aj (name:=Str.ofString "__next__") R bG
  (aa bG R F.entry_zip_next (sF D1 D2 D3 ap hz hI hO t1 U t3 Y fun h' e tk kp g=>?_) (F.args_zip_next_1 _))))
 obtain⟨o,g,Z⟩:=g;exact Wb (wpAny_isInstance (T := "StopIteration") (b:=true) ⟨o,g,Z⟩ isSubtype_stop (aA (q _ _ kp)))
abbrev Qj(a b c:VL):Obj:={ cls:=.type "tuple",data:=.seq #[a,b,c]}
def qo(b1 b2 b3:Bool)(h:Heap)(g R T:AD):Heap :=
 (((((h.push (BQ b1 g)).push (BQ b2 R)).push (BQ b3 T)).push (Qj (.ref h.objs.size) (.ref (h.push (BQ b1 g)).objs.size) (.ref ((h.push (BQ b1 g)).push (BQ b2 R)).objs.size))).push (Qj .none .none .none)).push
  { cls:=.type "zip",data:=.fields #[.none,.bool false,.bool false,.ref (((h.push (BQ b1 g)).push (BQ b2 R)).push (BQ b3 T)).objs.size,.ref ((((h.push (BQ b1 g)).push (BQ b2 R)).push (BQ b3 T)).push (Qj (.ref h.objs.size) (.ref (h.push (BQ b1 g)).objs.size) (.ref ((h.push (BQ b1 g)).push (BQ b2 R)).objs.size))).objs.size]}
def ji(b1 b2 b3:Bool)(T Y Z:AD)(xs ys zs:yy):Meets (Builtin.«zip.__new__» ⟨[.type "zip",.ref T,.ref Y,.ref Z],[]⟩) (fun _ R s=>Sq b1 s.heap T xs/\Sq b2 s.heap Y ys/\Sq b3 s.heap Z zs /\R (.ok (.ret (.ref (((((s.heap.push XN).push (BQ b2 Y)).push (BQ b3 Z)).push (Qj Do (.ref (s.heap.push XN).objs.size) (.ref ((s.heap.push XN).push (BQ b2 Y)).objs.size))).push (Qj .none .none .none)).objs.size))) {s with heap:=qo b1 b2 b3 s.heap T Y Z}) :=
 .of_wp fun prog w A R s h=>by
  obtain⟨U,g,d,tk,os⟩:=s;obtain⟨h1,h2,h3,h⟩:=h;have hsub:=sub_zip;have i1:∀(A:F0d) (E:Uf) (Q:Uf),Q (.ref U.objs.size) ⟨U.push XN,g,d,tk,os⟩->wpAny AS A (pyIter (.ref T)) Q E ⟨U,g,d,tk,os⟩:=fun A E Q q=>N3 (s:=⟨U,g,d,tk,os⟩) h1 q;have i2:∀(A:F0d) (E:Uf) (Q:Uf),Q (.ref (U.push XN).objs.size) ⟨(U.push XN).push (BQ b2 Y),g,d,tk,os⟩->wpAny AS A (pyIter (.ref Y)) Q E ⟨U.push XN,g,d,tk,os⟩:=fun A E Q q=>N3 (s:=⟨U.push XN,g,d,tk,os⟩) (h2.push _) q;have i3:∀(A:F0d) (E:Uf) (Q:Uf),Q (.ref ((U.push XN).push (BQ b2 Y)).objs.size) ⟨((U.push XN).push (BQ b2 Y)).push (BQ b3 Z),g,d,tk,os⟩->wpAny AS A (pyIter (.ref Z)) Q E ⟨(U.push XN).push (BQ b2 Y),g,d,tk,os⟩:=fun A E Q q=>N3 (s:=⟨(U.push XN).push (BQ b2 Y),g,d,tk,os⟩) ((h3.push _).push _) q
  wp_walk using i1,i2,i3
  exact⟨_,rfl,h⟩
def nu(a b c:VL):checkTypeCall "zip" ⟨[a,b,c],[]⟩=pure ():=by kernel_rfl
def oV(a b c:VL):checkBuiltinCall "zip.__new__" ⟨[.type "zip",a,b,c],[]⟩=pure ():=by kernel_rfl
def nA(a b c d:VL):argsOk "object.__init__" ⟨[a,b,c,d],[]⟩:=by
 unfold argsOk;rw[signature?_of (n:=['_','_','t','i','n','i','_','_']) (o:=['t','c','e','j','b','o']) Hk F.owner_object]
 kernel_rfl
def iu{b1 b2 b3:Bool}{U T R:AD}{xs ys zs:yy}{Q:yz}(h1:Sq b1 s.heap U xs)(h2:Sq b2 s.heap T ys)(h3:Sq b3 s.heap R zs) (h:∀h',IsZip h' (s.heap.objs.size+5) Nb UJ .none->G6 h' Nb Do (.ref Ix) (.ref Na)->G6 h' UJ .none .none .none ->Jk b1 h' s.heap.objs.size U 0->Jk b2 h' Ix T 0->Jk b3 h' Na R 0->(∀c o,s.heap.get? c=some o->h'.get? c=some o)->Q (.ref (s.heap.objs.size+5)) Op):wpAny AS A (call (.type "zip") [.ref U,.ref T,.ref R]) Q E s:=by
 refine callType_new F.called_zip AT (nu _ _ _) (oV _ _ _) (fun obj=>nA obj _ _ _) F.entry_zip_new (ji b1 b2 b3 U T R xs ys zs) ⟨h1,h2,h3,?_⟩;have up:∀(g:Heap) (o:Obj) (c:AD) (u:Obj),g.get? c=some u->(g.push o).get? c=some u:=fun g o c u e=>aE _ e;have n1:(s.heap.push (BQ b1 U)).objs.size=s.heap.objs.size+1:=Heap.size_push ..;have a0:(s.heap.push (BQ b1 U)).get? s.heap.objs.size=some (BQ b1 U):=aO _ (by cases b1<;>rfl);generalize hg1:s.heap.push (BQ b1 U)=g1 at n1 a0;have k1:∀c o,s.heap.get? c=some o->g1.get? c=some o:=fun c o e=>by rw[<-hg1];exact up _ _ _ _ e
 have n2:(g1.push (BQ b2 T)).objs.size=s.heap.objs.size+2:=by rw[(Ii),n1]
 have a1:(g1.push (BQ b2 T)).get? Ix=some (BQ b2 T):=by rw[<-n1];exact aO _ (by cases b2<;>rfl)
 generalize hg2:g1.push (BQ b2 T)=g2 at n2 a1;have k2:∀c o,g1.get? c=some o->g2.get? c=some o:=fun c o e=>by rw[<-hg2];exact up _ _ _ _ e
 have n3:(g2.push (BQ b3 R)).objs.size=s.heap.objs.size+3:=by rw[(Ii),n2]
 have a2:(g2.push (BQ b3 R)).get? Na=some (BQ b3 R):=by rw[<-n2];exact aO _ (by cases b3<;>rfl)
 generalize hg3:g2.push (BQ b3 R)=g3 at n3 a2;have k3:∀c o,g2.get? c=some o->g3.get? c=some o:=fun c o e=>by rw[<-hg3];exact up _ _ _ _ e
 have n4:(g3.push (Qj Do (.ref Ix) (.ref Na))).objs.size=s.heap.objs.size+4:=by rw[(Ii),n3]
 have a3:G6 (g3.push (Qj Do (.ref Ix) (.ref Na))) Nb Do (.ref Ix) (.ref Na):=by rw[<-n3];exact aO _ rfl
 generalize Z:g3.push (Qj Do (.ref Ix) (.ref Na))=g4 at n4 a3;have k4:∀c o,g3.get? c=some o->g4.get? c=some o:=fun c o e=>by rw[<-Z];exact up _ _ _ _ e
 have n5:(g4.push (Qj .none .none .none)).objs.size=s.heap.objs.size+5:=by rw[(Ii),n4]
 have a4:G6 (g4.push (Qj .none .none .none)) UJ .none .none .none:=by rw[<-n4];exact aO _ rfl
 generalize Y:g4.push (Qj .none .none .none)=g5 at n5 a4;have k5:∀c o,g4.get? c=some o->g5.get? c=some o:=fun c o e=>by rw[<-Y];exact up _ _ _ _ e
 have ez:qo b1 b2 b3 s.heap U T R=g5.push { cls:=.type "zip",data:=.fields #[.none,.bool false,.bool false,.ref Nb,.ref UJ]}:=by
  unfold qo;rw[hg1,hg2,hg3,n1,n2,Z,Y,n3,n4]
 have a5:IsZip (g5.push { cls:=.type "zip",data:=.fields #[.none,.bool false,.bool false,.ref Nb,.ref UJ]}) (s.heap.objs.size+5) Nb UJ .none:=by rw[<-n5];exact aO _ rfl
 rw[n1,n2,Z,Y,n5,ez];show _/\_;have k6:∀c o,g5.get? c=some o->(g5.push { cls:=.type "zip",data:=.fields #[.none,.bool false,.bool false,.ref Nb,.ref UJ]}).get? c=some o:=fun c o e=>up _ _ _ _ e;refine⟨⟨_,a5,rfl⟩,h _ a5 (k6 _ _ (k5 _ _ a3)) (k6 _ _ a4) ?_ ?_ ?_ fun c o e=>k6 _ _ (k5 _ _ (k4 _ _ (k3 _ _ (k2 _ _ (k1 _ _ e)))))⟩
 .have:=k6 _ _ (k5 _ _ (k4 _ _ (k3 _ _ (k2 _ _ a0))));cases b1 with
  |true=>exact⟨_,this,rfl,rfl⟩
  |false=>exact⟨_,this,rfl,rfl⟩
 .have:=k6 _ _ (k5 _ _ (k4 _ _ (k3 _ _ a1)));cases b2 with
  |true=>exact⟨_,this,rfl,rfl⟩
  |false=>exact⟨_,this,rfl,rfl⟩
 .have:=k6 _ _ (k5 _ _ (k4 _ _ a2));cases b3 with
  |true=>exact⟨_,this,rfl,rfl⟩
  |false=>exact⟨_,this,rfl,rfl⟩
end
end ZT
namespace L2
open PySem PySem.Spec PyProof.Rows
def j0(b1 b2 b3:Bool)(a1 a2 a3:AD):It :=
 ⟨fun i H=>∃xs x ys y g u,Cc b1 H a1 xs/\Cc b2 H a2 ys/\Cc b3 H a3 g/\xs[i]? = some x/\ys[i]? = some y/\g[i]? = some u,
  fun i H v H'=>∃p x y u,v=.ref p/\H p=none/\H'=upd H p (.tup [x,y,u])/\(∀xs,Cc b1 H a1 xs->xs[i]? = some x)/\(∀ys,Cc b2 H a2 ys->ys[i]? = some y)/\∀g,Cc b3 H a3 g->g[i]? = some u,
  fun i H=>∃xs ys g,Cc b1 H a1 xs/\Cc b2 H a2 ys/\Cc b3 H a3 g/\i=xs.length⟩
def xw(b1 b2 b3:Bool)(a1 a2 a3 z TI TO i1 i2 i3:AD):Nat->Heap->Prop:=fun i h=>IsZip h z TI TO .none/\ZT.G6 h TI (.ref i1) (.ref i2) (.ref i3)/\(∃a b c,ZT.G6 h TO a b c)/\ZT.Jk b1 h i1 a1 i/\ZT.Jk b2 h i2 a2 i/\ZT.Jk b3 h i3 a3 i
def gy{z TI TO i1 i2 i3 a1 a2 a3:AD}(ne:[z,TI,TO,i1,i2,i3].Nodup)(e1:∀b∈[z,TI,TO,i1,i2,i3],a1≠b)(e2:∀b∈[z,TI,TO,i1,i2,i3],a2≠b)(e3:∀b∈[z,TI,TO,i1,i2,i3],a3≠b):ZT.QD z TI TO i1 i2 i3 [i1,a1] [i2,a2] [i3,a3]:=by
 simp only[List.nodup_cons,List.mem_cons,List.not_mem_nil,or_false,not_or]at ne;obtain⟨⟨n1,n2,n3,n4,R⟩,⟨n5,n6,n7,n7'⟩,⟨n8,Z,g⟩,⟨Y,U⟩,T,_⟩:=ne;have x:∀ {a:AD},(∀b∈[z,TI,TO,i1,i2,i3],a≠b)->z≠a/\TO≠a/\i1≠a/\i2≠a/\i3≠a:=fun h=>⟨Ne.symm (h z At),Ne.symm (h TO At),Ne.symm (h i1 At),Ne.symm (h i2 At),Ne.symm (h i3 At)⟩;have m:∀ {b i a:AD},b≠i->b≠a->b ∉ [i,a]:=fun h1 h2=>by simp[h1,h2]
 obtain⟨x1,x2,x3,x4,x5⟩:=x e1;obtain⟨y1,y2,y3,y4,y5⟩:=x e2;obtain⟨w1,w2,w3,w4,w5⟩:=x e3;exact⟨⟨Ne.symm n2,n8,Z,g⟩,⟨Ne.symm n3,Ne.symm n4,Ne.symm R⟩,⟨m n3 x1,m n8 x2,m (Ne.symm Y) x4,m (Ne.symm U) x5⟩,⟨m n4 y1,m Z y2,m Y y3,m (Ne.symm T) y5⟩,⟨m R w1,m g w2,m U w3,m T w4⟩⟩
def gm{P:F0b}{w:F0c}{K:Fg}{elts:zD}{x1}{pos:Pos}{b1 b2 b3:Bool}{a1 a2 a3 z TI TO i1 i2 i3:AD}(ne:[z,TI,TO,i1,i2,i3].Nodup) :
  Turn P w K (.Tuple elts x1 pos) (j0 b1 b2 b3 a1 a2 a3) [z,TI,TO,i1,i2,i3] z (xw b1 b2 b3 a1 a2 a3 z TI TO i1 i2 i3) where
 mem:=by simp
 obj:=fun i h st b hb=>by
  obtain⟨h1,h2,⟨u,v,w,h3⟩,h4,h5,h6⟩:=st;have hb:b=z\/b=TI\/b=TO\/b=i1\/b=i2\/b=i3:=by simpa using hb
  rcases hb with rfl|rfl|rfl|rfl|rfl|rfl
  .exact⟨_,h1,fun v y=>by cases y⟩
  .exact⟨_,h2,fun v y=>by cases y⟩
  .exact⟨_,h3,fun v y=>by cases y⟩
  .exact HB h4
  .exact HB h5
  .exact HB h6
 keep:=fun i h h' st k=>by
  obtain⟨h1,h2,⟨u,v,w,h3⟩,h4,h5,h6⟩:=st;exact⟨k z At _ h1,k TI At _ h2,⟨u,v,w,k TO At _ h3⟩,Fz h4 fun o e=>k i1 At o e,Fz h5 fun o e=>k i2 At o e,Fz h6 fun o e=>k i3 At o e⟩
 item:=by
  intro X hP hw hK hc i pins s σ H E I hf st hg;subst hP hw hK;obtain⟨xs,x,ys,y,zs,t,q1,q2,q3,hx,hy,ht⟩:=hg;obtain⟨us,rv1,p1⟩:=q1.raw I;obtain⟨vs,rv2,p2⟩:=q2.raw I;obtain⟨ws,rv3,p3⟩:=q3.raw I;obtain⟨u,hu,ru⟩:=rv1.get hx;obtain⟨v,hv,rv⟩:=rv2.get hy;obtain⟨o3,hw,rw'⟩:=rv3.get ht;obtain⟨t1,t2,⟨ta,tb,tc,t3⟩,t4,t5,t6⟩:=st;have e1:∀b∈[z,TI,TO,i1,i2,i3],a1≠b:=fun b hb=>q1.none (hf b hb).1;have e2:∀b∈[z,TI,TO,i1,i2,i3],a2≠b:=fun b hb=>q2.none (hf b hb).1;have e3:∀b∈[z,TI,TO,i1,i2,i3],a3≠b:=fun b hb=>q3.none (hf b hb).1;refine ZT.dC ge gv (ZT.Ef (prog:=X.prog) (w:=X.w) (A:=X.A.in1) Nu b3 i3 a3 ws (e3 i3 At)) (gy ne e1 e2 e3) t1 t2 t3 ⟨t4,p1⟩ ⟨t5,p2⟩ ⟨t6,p3⟩ (aD.mp hu).1 (aD.mp hv).1 (aD.mp hw).1
   fun u' v' w' h' tk r1 r2 r2' r3 r4 r5 r6 r6' r7 r8 r9=>⟨_,rfl,wpAny_letOwnedTupleGo_zip (s:={s with heap:=h',toks:=tk}) r3 fun h'' z'' sb=>?_⟩
  rw[hu]at r1;rw[hv]at r2;rw[hw]at r2';cases r1;cases r2;cases r2';have ne':=ne;simp only[List.nodup_cons,List.mem_cons,List.not_mem_nil,or_false,not_or]at ne';obtain⟨⟨n1,n2,n3,n4,n4'⟩,⟨n5,n6,n7,n7'⟩,⟨n8,n9,n9'⟩,⟨n10,n11⟩,n12,_⟩:=ne';have keep:∀b o,b ∉ [z,TI,TO,i1,i2,i3]->s.heap.get? b=some o->h''.get? b=some o:=fun b o hb q=>by
   simp only[List.mem_cons,List.not_mem_nil,or_false,not_or]at hb;exact(sb.2 b hb.1).trans (r9 b o hb.1 hb.2.2.1 hb.2.2.2.1 hb.2.2.2.2.1 hb.2.2.2.2.2 q)
  have lt:∀b∈[z,TI,TO,i1,i2,i3],b<s.heap.objs.size:=fun b hb=>by
   have hb:b=z\/b=TI\/b=TO\/b=i1\/b=i2\/b=i3:=by simpa using hb
   rcases hb with rfl|rfl|rfl|rfl|rfl|rfl
   .exact aF t1
   .exact aF t2
   .exact aF t3
   .obtain⟨o,e,_⟩:=HB t4;exact aF e
   .obtain⟨o,e,_⟩:=HB t5;exact aF e
   .obtain⟨o,e,_⟩:=HB t6;exact aF e
  have hTn:H s.heap.objs.size=none:=I.A9.fresh Ql;have hT'':h''.get? s.heap.objs.size=some { cls:=.type "tuple",data:=.seq #[u,v,o3]}:=(sb.2 _ (ai (lt z At))).trans r7;refine⟨.ref s.heap.objs.size,upd H s.heap.objs.size (.tup [x,y,t]),?_,rfl,⟨_,x,y,t,rfl,hTn,rfl,fun zs hz=>by rw[hz.inj q1];exact hx,fun zs hz=>by rw[hz.inj q2];exact hy,fun zs hz=>by rw[hz.inj q3];exact ht⟩,⟨z'',?_,⟨u,v,o3,?_⟩,?_,?_,?_⟩,fun b hb=>?_⟩
  .exact I.UZ hf keep (show 3<=sizeLine by decide) (.cons ru (.cons rv (.cons rw' .nil))) hT''
  .exact(sb.2 _ (Ne.symm n1)).trans (r9 _ _ (Ne.symm n1) n5 n6 n7 n7' t2)
  .exact(sb.2 _ (Ne.symm n2)).trans r4
  .exact Fz r5.1 fun o e=>(sb.2 _ (Ne.symm n3)).trans e
  .exact Fz r6.1 fun o e=>(sb.2 _ (Ne.symm n4)).trans e
  .exact Fz r6'.1 fun o e=>(sb.2 _ (Ne.symm n4')).trans e
  .rw[AN (aI (lt b hb))];exact(hf b hb).1
 done:=by
  intro X hP hw hK hc i pins s σ H E I hf st hg;subst hP hw hK;obtain⟨xs,ys,zs,q1,q2,q3,he⟩:=hg;obtain⟨us,rv1,p1⟩:=q1.raw I;obtain⟨vs,rv2,p2⟩:=q2.raw I;obtain⟨ws,rv3,p3⟩:=q3.raw I;obtain⟨t1,t2,⟨ta,tb,tc,t3⟩,t4,t5,t6⟩:=st;have e1:∀b∈[z,TI,TO,i1,i2,i3],a1≠b:=fun b hb=>q1.none (hf b hb).1;have e2:∀b∈[z,TI,TO,i1,i2,i3],a2≠b:=fun b hb=>q2.none (hf b hb).1;have e3:∀b∈[z,TI,TO,i1,i2,i3],a3≠b:=fun b hb=>q3.none (hf b hb).1;have he':i=us.length:=by rw[<-rv1.length];exact he
  refine ZT.gb ge gv (ZT.Ef (prog:=X.prog) (w:=X.w) (A:=X.A.in1) Nu b3 i3 a3 ws (e3 i3 At)) (gy ne e1 e2 e3) t1 t2 t3 ⟨t4,p1⟩ ⟨t5,p2⟩ ⟨t6,p3⟩ he' fun h' tk kp=>⟨rfl,?_⟩;have keep:∀b o,b ∉ [z,TI,TO,i1,i2,i3]->s.heap.get? b=some o->h'.get? b=some o:=fun b o hb q=>by
   simp only[List.mem_cons,List.not_mem_nil,or_false,not_or]at hb;exact kp b o hb.1 hb.2.2.1 hb.2.2.2.1 hb.2.2.2.2.1 hb.2.2.2.2.2 q
  exact I.turn hf keep
 self:=fun _ _ _ _ _ st h=>wpAny_pyIter_zip st.1 h
def vW(U:TA):TI:=fun σ H R=>U σ H fun vs g=>∃(b1 b2 b3:Bool) (a1 a2 a3:AD),vs=[.ref a1,.ref a2,.ref a3]/\(∃xs,Cc b1 g a1 xs)/\(∃ys,Cc b2 g a2 ys)/\(∃T,Cc b3 g a3 T)/\R (j0 b1 b2 b3 a1 a2 a3) g
def mW{X:Cx}{elts:zD}{x1}{T:Pos}{a b c:Expr}{ta:TA}{p pos:Pos}(hg:Gl X "zip")(hm:X.mg "zip" = none)(ha:PA X [a,b,c] ta)(hs:starEach [a,b,c] X.env=[ND,LJ,(false,eval c X.env)]:=by rfl)(Y:starEach [b,c] X.env=[LJ,(false,eval c X.env)]:=by rfl):PI X (.Tuple elts x1 T) (.Call (.Name "zip" p) [a,b,c] [] pos) (vW ta):=by
 intro pins s σ H R I h;refine Call_ (Gx I hg hm boot_zip (ar (BX OF fun us s1 ⟨vs,H1,g,r1,q1⟩=>?_) (by rw[hs,Y]) (by rw[Y];rfl)));obtain⟨b1,b2,b3,l1,l2,l3,e,⟨xs,h1⟩,⟨ys,h2⟩,⟨zs,h3⟩,q⟩:=q1;subst e;cases r1 with
 |cons r U=>
  cases U with
  |cons r' U=>
   cases U with
   |cons r'' U=>
    cases U;cases r;cases r';cases r'';obtain⟨us,_,p1⟩:=h1.raw g;obtain⟨vs,_,p2⟩:=h2.raw g;obtain⟨ws,_,p3⟩:=h3.raw g;refine ZT.iu p1 p2 p3 fun h' z1 z2 z3 z4 z5 z6 hk=>wpAny_pyIter_zip z1 ?_;have I2:Inv X pins σ H1 {s1 with heap:=h'}:=g.kept (t':=s1.toks) hk;refine⟨_,[s1.heap.objs.size+5,s1.heap.objs.size+3,s1.heap.objs.size+4,s1.heap.objs.size,s1.heap.objs.size+1,s1.heap.objs.size+2],_,_,H1,rfl,I2,gm ?_,⟨z1,z2,⟨_,_,_,z3⟩,z4,z5,z6⟩,fun b hb=>?_,q⟩
    .simp
    have Z:s1.heap.objs.size<=b:=by
     have hb2:b=s1.heap.objs.size+5\/b=s1.heap.objs.size+3\/b=s1.heap.objs.size+4\/b=s1.heap.objs.size\/b=s1.heap.objs.size+1\/b=s1.heap.objs.size+2:=by simpa using hb
     rcases hb2 with h|h|h|h|h|h<;>rw[h]<;>first|exact aJ _|exact Nat.le_add_right _ _
    exact g.Sd Z (g.A9.fresh Z)
def My(xs ys zs:yx):yx:=(xs.zip (ys.zip zs)).map fun q=>.tuple [q.1,q.2.1,q.2.2]
def WK{xs ys zs:yx}{i:Nat}{d:PD}(h:(My xs ys zs)[i]? = some d):∃x y z,xs[i]? = some x/\ys[i]? = some y/\zs[i]? = some z/\d=.tuple [x,y,z]:=by
 unfold My at h;rw[(CD)]at h;obtain⟨q,Y,rfl⟩:=aC.mp h;obtain⟨U,T⟩:=List.getElem?_zip_eq_some.mp Y;obtain⟨R,g⟩:=List.getElem?_zip_eq_some.mp T;exact⟨q.1,q.2.1,q.2.2,U,R,g,rfl⟩
def mm{Gc H:Hp}{p:AD}{x y z:PD}{u v w:V}(T:AL Gc H)(R:H p=none)(d1:Du Gc x u)(Z:Du Gc y v)(Y:Du Gc z w):∃Gc',AL Gc Gc'/\Nw Gc H Gc'/\AL Gc' (upd H p (.tup [u,v,w]))/\AL H (upd H p (.tup [u,v,w]))/\Du Gc' (.tuple [x,y,z]) (.ref p):=by
 have U:Gc p=none:=by
  cases q:Gc p with
  |none=>rfl
  |some o=>rw[T _ _ q]at R;cases R
 have e:AL Gc (upd Gc p (.tup [u,v,w])):=Ag U _;refine⟨upd Gc p (.tup [u,v,w]),e,fun b o h=>?_,fun b o h=>?_,Ag R _,?_⟩
 .by_cases g:b=p
  .subst g;exact .inr (.inl R)
  .rw[AN g]at h;exact .inl h
 .by_cases g:b=p
  .subst g;rw[AR]at h ⊢;exact h
  .rw[AN g]at h ⊢;exact T _ _ h
 .rw[Du];exact⟨p,_,rfl,AR,.cons (d1.same e) (.cons (Z.same e) (.cons (Y.same e) .nil))⟩
def nT{G:Hp}{b1 b2 b3:Bool}{a1 a2 a3:AD}{us vs ws:zJ}{xs ys zs:yx}(h1:G a1=some (if b1 then .tup us else .lst us))(h2:G a2=some (if b2 then .tup vs else .lst vs))(h3:G a3=some (if b3 then .tup ws else .lst ws))(d1:An G xs us)(d2:An G ys vs)(d3:An G zs ws)(l2:xs.length<=ys.length)(l3:xs.length<=zs.length):Mi (j0 b1 b2 b3 a1 a2 a3) (My xs ys zs) G where
 stop:=fun H e=>by
  have k1:=e _ _ h1;have k2:=e _ _ h2;have k3:=e _ _ h3;refine⟨us,vs,ws,?_,?_,?_,?_⟩
  .cases b1<;>simpa[Cc]using k1
  .cases b2<;>simpa[Cc]using k2
  .cases b3<;>simpa[Cc]using k3
  .rw[d1.len];simp[My];lia
 go:=fun i x H hx e=>by
  obtain⟨x1,x2,x3,k1,k2,k3,rfl⟩:=WK hx;obtain⟨v1,j1,_⟩:=d1.get k1;obtain⟨v2,j2,_⟩:=d2.get k2;obtain⟨v3,j3,_⟩:=d3.get k3;have m1:=e _ _ h1;have m2:=e _ _ h2;have m3:=e _ _ h3;refine⟨us,v1,vs,v2,ws,v3,?_,?_,?_,j1,j2,j3⟩
  .cases b1<;>simpa[Cc]using m1
  .cases b2<;>simpa[Cc]using m2
  .cases b3<;>simpa[Cc]using m3
 Ge:=fun i x H v H' hx e y Gc e1 e2=>by
  obtain⟨x1,x2,x3,k1,k2,k3,rfl⟩:=WK hx;obtain⟨p,v1,v2,v3,rfl,hp,rfl,y1,y2,y3⟩:=y;have m1:=e _ _ h1;have m2:=e _ _ h2;have m3:=e _ _ h3;have z1:=y1 us (by cases b1<;>simpa[Cc]using m1);have z2:=y2 vs (by cases b2<;>simpa[Cc]using m2);have z3:=y3 ws (by cases b3<;>simpa[Cc]using m3);obtain⟨w1,n1,n2⟩:=d1.back z1;obtain⟨w2,n3,n4⟩:=d2.back z2;obtain⟨w3,n5,n6⟩:=d3.back z3;rw[k1]at n1;cases n1;rw[k2]at n3;cases n3;rw[k3]at n5;cases n5;exact mm e2 hp (n2.same e1) (n4.same e1) (n6.same e1)
def VB:List PD->Option (List PD)
 |[x,y,z]=>(GB x).bind fun xs=>(GB y).bind fun ys=>(GB z).bind fun g=>if xs.length<=ys.length/\xs.length<=g.length then some (My xs ys g) else none
 |_=>none
section
variable{X:Cx}{a b c:Expr}{fs:yt}{pos p:Pos}
def oI{elts:zD}{x1}{g:Pos}(hg:Gl X "zip")(hm:X.mg "zip" = none)(ha:DA X [a,b,c] fs)(hs:starEach [a,b,c] X.env=[ND,LJ,(false,eval c X.env)]:=by rfl)(U:starEach [b,c] X.env=[LJ,(false,eval c X.env)]:=by rfl):DI X (.Tuple elts x1 g) (.Call (.Name "zip" p) [a,b,c] [] pos) (fun δ=>(fs δ).bind VB):=by
 obtain⟨t,p,k⟩:=ha;refine⟨_,mW hg hm p hs U,fun δ xs h G0 H0 G H σ ts R R0 q=>?_⟩;obtain⟨x,h1,T⟩:=aB.mp h;refine k δ _ h1 G0 H0 G H σ ts _ R0 fun vs G' H' R' hv=>?_;obtain⟨d,R2⟩:=R'.args hv;unfold VB at T;split at T
 .obtain⟨xs1,h3,h4⟩:=aB.mp T;obtain⟨ys1,h5,h6⟩:=aB.mp h4;obtain⟨zs1,h7,Y⟩:=aB.mp h6;split at Y
  rotate_left
  .cases Y
  rename_i hh;cases Y;obtain⟨v1,r1,rfl,du,d⟩:=d.un;obtain⟨v2,r2,rfl,dv,d⟩:=d.un;obtain⟨w,rfl,dw⟩:=d.Ks;obtain⟨b1,a1,us,rfl,n1,n2⟩:=JE du h3;obtain⟨b2,a2,vs,rfl,m1,m2⟩:=JE dv h5;obtain⟨b3,a3,ws,rfl,Z,o2⟩:=JE dw h7;have s1:=R2.ins _ _ n1;have s2:=R2.ins _ _ m1;have s3:=R2.ins _ _ Z;exact⟨b1,b2,b3,a1,a2,a3,rfl,⟨us,by cases b1<;>simpa[Cc]using s1⟩,⟨vs,by cases b2<;>simpa[Cc]using s2⟩,⟨ws,by cases b3<;>simpa[Cc]using s3⟩,q _ _ _ R2 (nT n1 m1 Z n2 m2 o2 hh.1 hh.2)⟩
 .cases T
def ZE(i j l:Nat)(y:PD)(δ:Dv):Option Dv:=match y with
 |.tuple [u,v,w]=>some (((δ.set i (.d u)).set j (.d v)).set l (.d w))
 |_=>none
def kq{x y z:Str}{i j l:Nat}{px py Z:Pos}{k1}(h:PG X (.Tuple [.Name x px,.Name y py,.Name z Z] k1 pos) (dj X.K 3 (Mu (F5 i) (Mu (F5 j) (Mu (F5 l) dG))))):DG X (.Tuple [.Name x px,.Name y py,.Name z Z] k1 pos) (ZE i j l):=by
 refine⟨_,h,fun δ z δ' e G0 H0 G H σ v Q R k=>?_⟩;unfold ZE at e;split at e
 .cases e;have du:=R.B5 _ Fa;rw[Du]at du;obtain⟨a,ys,rfl,n1,g⟩:=du;obtain⟨Y,r1,rfl,m1,g⟩:=g.un;obtain⟨U,r2,rfl,m2,g⟩:=g.un;obtain⟨T,rfl,m3⟩:=g.Ks;refine⟨a,[Y,U,T],rfl,BK.of (R.ins _ _ n1),rfl,Y,[U,T],rfl,U,[T],rfl,T,[],rfl,rfl,?_⟩;exact k _ _ _ ((((R.drop.put m3).put m2).put m1).IE.IE.IE)
 .cases e
end
end L2
namespace L2
open PySem PySem.Spec PyProof.Rows
def ur:V->List V->Hp->VK->Prop:=fun x xs H Q=>∃(p:AD) (ys:IZ) (row t:Tr) (v:V),x=.ref p/\xs=[v]/\H p=some IR/\Ts H row ys/\row.deep<=60/\Tv H t v/\t∈row.bs/\Q (.int (row.bs.idxOf t:Nat)) H
theorem hV:∀ {l:List Tr} {t:Tr} {m:Nat},m<l.idxOf t->l[m]?≠some t
 |[],_,_,h=>by simp at h
 |x::l,t,m,h=>by
  rw[List.idxOf_cons]at h;by_cases z:x=t
  .rw[show(x==t)=true by simpa using z]at h;exact absurd h (av _)
  .rw[show(x==t)=false by simpa using z]at h;cases m with
   |zero=>simpa using z
   |succ m=>simpa using hV (l:=l) (t:=t) (m:=m) (by simpa using h)
section
variable{X:Cx}
def iw{pins:Cu}{σ:St}{H:Hp}{s:SD}(I:BY){t:Tr}{v:V}{u:VL}(h:Tv H t v)(r:RelV v u):∃a g,u=.ref a/\s.heap.IsTuple a g.toArray/\TH.Vs s.heap t g:=by
 obtain⟨a,ys,rfl,U,T⟩:=h;obtain⟨g,R,p,_⟩:=I.tuple (BK.of (K:=X.K) U);exact⟨a,g,r,p,T.vs I R⟩
open Classical in
def dr(hu:IO):rB X "list.index" ur:=by
 intro pins s σ H x xs v us Q I rx rv h;obtain⟨p,ys,row,t,v',rfl,rfl,hp,ht,hd,tv,hm,q⟩:=h;obtain rfl:v=Value.ref p:=rx;obtain⟨u,rfl,ru⟩:=rv.one;obtain⟨g,n,r,ho,hz⟩:=I.lst hp;obtain⟨b,js,rfl,hb,vb⟩:=iw I tv ru;have hl:=r.length;have htl:=ht.len;have at_:∀(i:Nat) (y:VL),g[i]? = some y->∃c a R,row.bs[i]? = some c/\y=.ref a/\s.heap.IsTuple a R.toArray/\TH.Vs s.heap c R:=fun i y Y=>by
  have hi:i<g.length:=(aD.mp Y).1;have T:ys[i]? = some (ys[i]' AC):=aG _;obtain⟨w,U,h2⟩:=r.get T;rw[Y]at U;cases U;obtain⟨c,hc,tc⟩:=ht.get T;obtain⟨a,R,e,h3,Z⟩:=iw I tc h2;exact⟨c,a,R,hc,e,h3,Z⟩
 have key:∀(i:Nat) (y:VL) (c:Tr),g[i]? = some y->row.bs[i]? = some c->decide (∃a R,y=Value.ref a/\s.heap.IsTuple a R.toArray/\TH.Vs s.heap t R)=decide (c=t):=fun i y c Y hc=>by
  obtain⟨c',a,R,U,rfl,h3,Z⟩:=at_ i y Y;rw[hc]at U;cases U;refine decide_eq_decide.mpr ⟨fun⟨a',zs',e,k1,k2⟩=>?_,fun e=>⟨a,R,rfl,h3,e ▸ Z⟩⟩;cases e;have:R=zs':=by simpa using TH.JL h3 k1
  subst this;exact TH.Vs.inj Z k2
 have hj:row.bs.idxOf t<row.bs.length:=bS.mpr hm;have hj':row.bs.idxOf t<g.length:=by lia
 refine call_meets PySem.F.slot_list_index ⟨_,ho,rfl⟩ PySem.F.entry_list_index (PySem.F.args_list_index_2 _ _)
  (SeqAt.list_indexAt p g.toArray n none #[] (.ref b) (fun y=>decide (∃a R,y=Value.ref a/\s.heap.IsTuple a R.toArray/\TH.Vs s.heap t R)) (row.bs.idxOf t) (by simpa using hj') ?_ ?_ ?_) ⟨ho,fun y Y=>?_,⟨.int _,H,I.tok _,⟨_,rfl⟩,q⟩⟩
 .have h63:=NY
  lia
 .show decide _=true;rw[key (row.bs.idxOf t) _ t At (by rw[List.getElem?_eq_getElem hj,List.getElem_idxOf hj])];simp
 .intro m hm' hlt;have hm2:m<g.length:=by simpa using hm'
  have hm3:m<row.bs.length:=by lia
  show decide _=false;rw[key m _ row.bs[m] (by simp[hm2]) (aG hm3)];exact bF fun e=>hV hlt (by rw[List.getElem?_eq_getElem hm3,e])
 .obtain⟨i,hi,rfl⟩:=Array.getElem_of_mem Y;have hi':i<g.length:=by simpa using hi
  have T:g[i]? = some (g.toArray[i]):=by simp[hi']
  obtain⟨c,a,R,U,h2,h3,Z⟩:=at_ i _ T;have hc:c∈row.bs:=aN U;have hcd:=Tr.SK hc;show SeqAt.EqAt _ _ _ _ (decide _);rw[key i _ c T U,h2];exact TH.OG h3 Z hb vb (by rw[(OM)];lia)
end
end L2
namespace L2
open PySem PySem.Spec PyProof.Rows
theorem KL:∀t:Tr,EH (BN t)=some t
 |.nil=>by rw[BN,EH]
 |.cons b r=>by rw[BN,EH,FJ,KL b,KL r];rfl
def Xu(t:Tr):FJ (.tuple (BN t))=some t:=by rw[FJ];exact KL t
def kT{k l:Ki}(h:Cq k=Cq l):k=l:=by
 cases k with
 |none=>cases l with
  |none=>rfl
  |some u=>cases h
 |some t=>cases l with
  |none=>cases h
  |some u=>
   have:=bM FJ h;rw[Cq,Cq,Xu,Xu]at this;exact this
def keyOf:PD->Option (Option Tr)
 |.none=>some none
 |d=>(FJ d).map some
def MG{d:PD}{k:Ki}(h:keyOf d=some k):d=Cq k:=by
 unfold keyOf at h;split at h
 .cases h;rfl
 .obtain⟨t,g,rfl⟩:=aC.mp h;exact Qv g
def Od(k:Ki):keyOf (Cq k)=some k:=by
 cases k with
 |none=>rfl
 |some t=>show(FJ (.tuple (BN t))).map some=_;rw[Xu];rfl
abbrev KD:=Option Tr×PD
def NU(kvs:List KD)(k:Ki):Bool:=(match k with|none=>true|some t=>decide (t.deep<8))&&kvs.all fun q=>decide (TH.BI q.1≠TH.BI k)||decide (q.1=k)
def look(kvs:List KD)(k:Ki):y7:=(kvs.find? fun q=>decide (q.1=k)).map (·.2)
def Uo(kvs:List KD)(k:Ki)(v:PD):List KD:=if(kvs.find? fun q=>decide (q.1=k)).isSome then kvs.map (fun q=>if q.1=k then(q.1,v) else q) else kvs++[(k,v)]
def MM:List (PD×PD)->Option (List KD)
 |[]=>some []
 |(k,d)::t=>(keyOf k).bind fun l=>(MM t).map fun r=>(l,d)::r
theorem Zs:∀ {es:List (PD×PD)} {kvs:List KD},MM es=some kvs->es=KS kvs
 |[],kvs,h=>by cases h;rfl
 |(k,d)::t,kvs,h=>by
  rw[MM]at h;obtain⟨l,T,R⟩:=aB.mp h;obtain⟨r,g,rfl⟩:=aC.mp R;rw[MG T,Zs g];rfl
theorem cZ:∀kvs:List KD,MM (KS kvs)=some kvs
 |[]=>rfl
 |(k,d)::t=>by
  show(keyOf (Cq k)).bind _=_;rw[Od];show(MM (KS t)).map _=_;rw[cZ t];rfl
def PR(G:Hp)(p:KD)(q:KR):Prop:=q.1=p.1/\Hi G q.1 q.2.1/\Du G p.2 q.2.2
theorem Yg{G:Hp}:∀ {kvs:List KD} {r:Ty},HZ G (KS kvs) r->PySem.Paired (PR G) kvs r
 |[],r,h=>by
  have h:HZ G [] r:=h;rw[HZ]at h;subst h;exact .nil
 |(k,d)::t,r,h=>by
  have h:HZ G ((Cq k,d)::KS t) r:=h;rw[HZ]at h;obtain⟨q,Y,rfl,U,T,R,g⟩:=h;exact .cons ⟨(kT U).symm,T,R⟩ (Yg g)
def Y8{G:Hp}{kvs:List KD}{r:Ty}(h:PySem.Paired (PR G) kvs r):HZ G (KS kvs) r:=by
 induction h with
 |nil=>show HZ G [] [];rw[HZ]
 | @cons p q l m a _ g=>
  show HZ G ((Cq p.1,p.2)::KS l) (q::m);rw[HZ];exact⟨q,m,rfl,by rw[a.1],a.2.1,a.2.2,g⟩
def ny{G:Hp}{kvs:List KD}{r:Ty}(h:PySem.Paired (PR G) kvs r):r.map M0=kvs.map M0:=by
 induction h with
 |nil=>rfl
 |cons a _ g=>rw[(A2),(A2),g,a.1]
def cV{G:Hp}{kvs:List KD}{r:Ty}(h:PySem.Paired (PR G) kvs r)(k:Ki):match kvs.find? L8 with
  |some p=>∃q,r.find? L8=some q/\Du G p.2 q.2.2
  |none=>r.find? L8=none:=by
 induction h with
 |nil=>exact rfl
 | @cons p q l m a _ g=>
  rw[(P0),(P0),a.1];by_cases z:p.1=k
  .simp only[decide_eq_true z];exact⟨q,rfl,a.2.2⟩
  .simp only[decide_eq_false z];exact g
def qY{G:Hp}{kvs:List KD}{r:Ty}{k:Ki}{R v:V}{d:PD}(h:PySem.Paired (PR G) kvs r)(U:Hi G k R)(T:Du G d v):PySem.Paired (PR G) (Uo kvs k d) (Fv r k R v):=by
 have g:=cV h k;unfold Uo Fv;split at g
 .rename_i p e;obtain⟨q,Y,_⟩:=g;rw[Y,e];simp only[Option.isSome_some,if_true];clear e Y U
  induction h with
  |nil=>exact .nil
  | @cons p q l m a _ Z=>
   rw[(A2),(A2)];refine .cons ?_ Z;rw[a.1];by_cases z:p.1=k
   .rw[if_pos z,if_pos z];exact⟨rfl,a.1 ▸ a.2.1,T⟩
   .rw[if_neg z,if_neg z];exact a
 .rename_i e;rw[g,e];exact h.snoc ⟨rfl,U,T⟩
def iA{r:Ty}{k:Ki}{g v:V}(h:(r.map M0).Nodup):((Fv r k g v).map M0).Nodup:=by
 unfold Fv;split
 .have:(r.map (fun q=>if q.1=k then(q.1,q.2.1,v) else q)).map M0=r.map M0:=by
   rw[(Ed)];refine ah fun q _=>?_;show(if q.1=k then(q.1,q.2.1,v) else q).1=q.1;split<;>rfl
  rw[this];exact h
 .rename_i hn;rw[(Ep),List.nodup_append];refine⟨h,by simp,fun a ha b T=>?_⟩;have:b=k:=by simpa using T
  subst this;obtain⟨q,R,rfl⟩:=aQ.mp ha;intro e;have:r.find? (fun q=>decide (q.1=b))=none:=by
   cases z:r.find? (fun q=>decide (q.1=b)) with
   |none=>rfl
   |some w=>rw[z]at hn;exact absurd rfl hn
  exact bh.mp this q R (bf e)
def gw{G:Hp}{k:Ki}{v:V}{kvs:List KD}(h:Du G (Cq k) v)(g:NU kvs k=true):Hi G k v:=by
 unfold NU at g;rw[(Dk)]at g;cases k with
 |none=>rw[Cq,Du]at h;exact h
 |some t=>
  rw[Cq,Du]at h;obtain⟨a,ys,rfl,T,R⟩:=h;exact⟨aP g.1,a,ys,rfl,T,G5 R⟩
def l0{G H:Hp}{a:AD}{kvs:List KD}{r:Ty}{k:Ki}(e:AL G H)(ha:H a=some (dN a r))(n:(r.map M0).Nodup)(h:PySem.Paired (PR G) kvs r)(R:NU kvs k=true):SY H a r k:=by
 refine⟨ha,fun q g=>?_,n,fun q g T=>?_⟩
 .obtain⟨p,_,U,Z,_⟩:=Lc h q g;exact Z.same e
 .obtain⟨p,Y,U,_⟩:=Lc h q g;unfold NU at R;rw[(Dk)]at R;have:=aL.mp R.2 p Y;rw[Bool.or_eq_true]at this;rw[U]at T ⊢;rcases this with z|z
  .exact absurd T (aP z)
  .exact aP z
def od(i:Nat)(δ:Dv):Option (List KD):=match δ[i]? with
 |some (.own (.GZ kvs))=>some kvs
 |_=>none
def mQ{i:Nat}{δ:Dv}{kvs:List KD}(h:od i δ=some kvs):δ[i]? = some (.own (.GZ kvs)):=by
 unfold od at h;split at h
 .rename_i y e;cases h;exact e
 .cases h
abbrev eF(i:Nat)(f g:Nz):DF:=fun δ=>(f δ).bind fun y=>(g δ).bind fun n=>(od i δ).bind fun kvs=>(keyOf n).bind fun k=>if NU kvs k=true/\kvs.length<=500 then some (.nx (δ.set i (.own (.GZ (Uo kvs k y))))) else none
def KO:PD->PD->Option PD:=fun x y=>match x with
 |.dict ((.bool true,.none)::es)=>(MM es).bind fun kvs=>(keyOf y).bind fun k=>if NU kvs k=true then look kvs k else none
 |_=>none
def VS{kvs:List KD}{k:Ki}{d:PD}(h:NU kvs k=true)(g:look kvs k=some d):KO (Bh kvs) (Cq k)=some d:=by
 show(MM (KS kvs)).bind _=_;rw[cZ];show(keyOf (Cq k)).bind _=_;rw[Od];exact(if_pos h).trans g
def ml{G:Hp}{kvs:List KD}{u:V}(h:Du G (Bh kvs) u):∃a r,u=.ref a/\G a=some (dN a r)/\(r.map M0).Nodup/\PySem.Paired (PR G) kvs r:=by
 rw[Du,LN]at h;rcases h with ⟨_,_,e,_⟩|⟨_,_,e,_⟩|⟨_,_,a,r,e,T,R,g⟩
 .simp at e
 .simp at e
 .exact⟨a,r,e,T,R,Yg g⟩
section
variable{X:Cx}{a b e:Expr}{f g h:yu}{pos p:Pos}
def W0{i:Nat}{x:Str}{np sp:Pos}(hv:PE X Qa (P6 i))(hk:DE X a g)(he:DE X e f) (hP:∀ {T Z ti:TE},PE X e T->PE X Qa Z->PE X a ti->PS X (.Assign [.Subscript Qa a sp] e pos) (YV T (qm Z ti lA))):DS X (.Assign [.Subscript Qa a sp] e pos) (eF i f g):=by
 obtain⟨T,pe,ke⟩:=he;obtain⟨tk,pk,kk⟩:=hk;refine⟨_,hP pe hv pk,fun δ r h G0 H0 G H σ D R q=>?_⟩;obtain⟨y,h1,h2⟩:=aB.mp h;obtain⟨n,h3,h4⟩:=aB.mp h2;obtain⟨kvs,h5,h6⟩:=aB.mp h4;obtain⟨k,h7,Y⟩:=aB.mp h6;split at Y
 .rename_i hc;cases Y;have:=MG h7;subst this;have hi:=mQ h5;refine ke δ y h1 G0 H0 G H σ [] _ R fun u G1 H1 R1=>?_;obtain⟨ad,_,U,k2,k3,k4,k5⟩:=R1.own i _ hi;refine⟨.ref ad,U,?_⟩;refine kk δ _ h3 G0 H0 G1 H1 σ _ _ R1 fun v G2 H2 R2=>?_;have dv:=gw (R2.B5 (Cq k,v) Fa) hc.1;obtain⟨ad',_,m1,m2,m3,m4,⟨rr,rfl,m5,m6⟩⟩:=R2.own i _ hi;rw[U]at m1;cases m1;have pr:=Yg m6;have hl:rr.length=kvs.length:=by have:=bM List.length (ny pr);simpa using this
  refine⟨ad,rr,k,rfl,dv.same R2.ins,l0 R2.ins m4 m5 pr hc.1,by lia,?_⟩;exact q _ _ _ (R2.drop.drop.eQ hi U ⟨_,rfl,iA m5,Y8 (qY pr dv (R2.B5 (y,u) (.tail _ Fa)))⟩)
 .cases Y
def Lz(hu:IO)(ha:DE X a f)(hb:DE X b g)(hs:ko b):DE X (.Subscript a b pos) (Ai KO f g):=by
 obtain⟨ta,pa,ka⟩:=ha;obtain⟨tb,pb,kb⟩:=hb;refine⟨_,iB hu pa pb hs,fun δ z hz G0 H0 G H σ ts Q R0 k=>?_⟩;obtain⟨x,y,h1,h2,T⟩:=two (x:=.none) (y:=.none) hz;refine ka δ x h1 G0 H0 G H σ ts _ R0 fun u G1 H1 R1=>?_;refine kb δ y h2 G0 H0 G1 H1 σ _ _ R1 fun v G2 H2 R2=>?_;have du:=R2.B5 (x,u) (.tail _ Fa);have dv:=R2.B5 (y,v) Fa;unfold KO at T;split at T
 .obtain⟨kvs,h4,h5⟩:=aB.mp T;obtain⟨Z,h6,R⟩:=aB.mp h5;split at R
  .rename_i hc;have:=Zs h4;subst this;have:=MG h6;subst this;obtain⟨ad,r,rfl,n1,n2,Y⟩:=ml du;have hf:=cV Y Z;unfold look at R;obtain⟨p,h8,rfl⟩:=aC.mp R;rw[h8]at hf;obtain⟨q,h9,U⟩:=hf;exact⟨ad,r,Z,q,rfl,(gw dv hc).same R2.ins,l0 R2.ins (R2.ins _ _ n1) n2 Y hc,h9,k _ _ _ (R2.drop.drop.put U)⟩
  .cases R
 .cases T
def N0(x y:PD):y7:=match x with
 |.list R=>(EH R).bind fun row=>(FJ y).bind fun t=>if t∈row.bs/\row.deep<=60 then some (.int (row.bs.idxOf t:Nat)) else none
 |_=>none
def iM{i:Nat}{x:Str}{np cp ap:Pos}(hu:IO)(hv:PE X Qa (P6 i))(ha:DE X e f) (U:attributeBase Qa "index" X.env (eval Qa X.env)=eval Qa X.env:=by rfl) (hfew:((backTo cp (starEach [e] X.env)).all (fun x=>!x.1)&&(backToKw cp (keywordEach [] X.env)).all (fun x=>x.1.isSome) && decide (([e]:zD).length+([]:List Keyword).length+(if([]:List Keyword).isEmpty then 0 else 1)<30))=true:=by rfl) (T:(ap.endLine==cp.line)=true:=by rfl)(hs:starEach [e] X.env=Go::starEach [] X.env:=by rfl)(R:(backTo cp (starEach [] X.env)).any M0=false:=by rfl):DE X (.Call (.Attribute Qa "index" ap) [e] [] cp) (Ai N0 (nm i) f):=by
 obtain⟨ta,pa,ka⟩:=ha;refine⟨_,Ic aq PySem.F.slot_list_index PySem.F.type_list_index (dr hu) hv (AM pa Ad hs) U hfew T hs R,fun δ z hz G0 H0 G H σ ts Q R0 k=>?_⟩;obtain⟨y,n,h1,h2,h3⟩:=two (x:=.none) (y:=.none) hz;unfold N0 at h3;split at h3
 .rename_i ds;obtain⟨row,h4,h5⟩:=aB.mp h3;obtain⟨t,h6,h7⟩:=aB.mp h5;split at h7
  .rename_i hc;cases h7;obtain⟨w,k1,k2⟩:=R0.dat _ _ (eu h1);rw[Du]at k2;obtain⟨ad,ys,rfl,k3,k4⟩:=k2;refine⟨.ref ad,k1,.inl ⟨rfl,ys,Aw.of (R0.ins _ _ k3)⟩,?_⟩;refine ka δ n h2 G0 H0 G H σ ts _ R0 fun u G1 H1 Y=>?_;have du:=Y.B5 (_,u) Fa;have:=Qv h6;subst this;rw[Du]at du;obtain⟨bd,zs,rfl,m1,m2⟩:=du;obtain⟨w',k1',k2'⟩:=Y.dat _ _ (eu h1);rw[k1]at k1';cases k1';rw[Du]at k2';obtain⟨ad',ys',e1,k3',Z⟩:=k2';cases e1;have hds:=Kq h4;rw[hds]at Z;exact⟨ad,ys',row,t,_,rfl,rfl,Y.ins _ _ k3',(G5 Z).same Y.ins,hc.2,⟨bd,zs,rfl,Y.ins _ _ m1,(G5 m2).same Y.ins⟩,hc.1,k _ _ _ (Y.drop.put L1)⟩
  .cases h7
 .cases h3
end
mutual
def OE:PD->Bool
 |.tuple g=>Mx g
 |.list g=>Mx g
 |.dict R=>dq R
 |_=>true
def Mx:List PD->Bool
 |[]=>true
 |d::g=>OE d&&Mx g
def dq:List (PD×PD)->Bool
 |[(.none,_)]=>true
 |_=>false
end
def less(G:Hp)(a:AD):Hp:=fun b=>if b=a then none else G b
def J8{G:Hp}{a b:AD}(h:b≠a):less G a b=G b:=if_neg h
def Um{G:Hp}{a:AD}:less G a a=none:=if_pos rfl
def pW{a:AD}{r:Ty}{xs:zJ}:dN a r≠.tup xs:=fun h=>by unfold dN at h;cases h
def gG{a:AD}{r:Ty}{xs:zJ}:dN a r≠.lst xs:=fun h=>by unfold dN at h;cases h
def rd{a:AD}{r:Ty}{o:Obj}{u:HO}:dN a r≠.GL o u:=fun h=>by unfold dN at h;cases h
mutual
theorem cq{G:Hp}{a:AD}{r:Ty}(ha:G a=some (dN a r)):∀ {d:PD} {v:V},OE d=true->Du G d v->Du (less G a) d v
 |.none,_,_,h=>by rw[Du]at h ⊢;exact h
 |.bool _,_,_,h=>by rw[Du]at h ⊢;exact h
 |.int _,_,_,h=>by rw[Du]at h ⊢;exact h
 |.str _,_,_,h=>by rw[Du]at h ⊢;exact h
 |.tuple Z,_,n,h=>by
  rw[Du]at h ⊢;obtain⟨b,xs,R,g,T⟩:=h;exact⟨b,xs,R,by rw[J8 fun z=>by subst z;rw[ha]at g;exact pW (af g)];exact g,OH ha (by simpa[OE]using n) T⟩
 |.list Z,_,n,h=>by
  rw[Du]at h ⊢;obtain⟨b,xs,R,g,T⟩:=h;exact⟨b,xs,R,by rw[J8 fun z=>by subst z;rw[ha]at g;exact gG (af g)];exact g,OH ha (by simpa[OE]using n) T⟩
 |.dict Y,v,n,h=>by
  rw[Du]at h ⊢;rcases h with ⟨ea,C,R,U,g⟩|⟨b,ns,R,U,g⟩|h
  .rw[R]at n;simp[OE,dq]at n
  .refine .inr (.inl ⟨b,ns,R,U,?_⟩);rcases g with g|⟨o,g⟩
   .exact .inl (by rw[J8 fun z=>by subst z;rw[ha]at g;exact gG (af g)];exact g)
   .exact .inr ⟨o,by rw[J8 fun z=>by subst z;rw[ha]at g;exact rd (af g)];exact g⟩
  .exfalso
   cases Y with
   |nil=>rw[LN]at h;exact h
   |cons p t=>
    obtain⟨k0,d0⟩:=p;rw[LN]at h;rw[h.1]at n;simp[OE,dq]at n
theorem OH{G:Hp}{a:AD}{r:Ty}(ha:G a=some (dN a r)):∀ {ds:List PD} {xs:IZ},Mx ds=true->An G ds xs->An (less G a) ds xs
 |[],_,_,h=>by rw[An]at h ⊢;exact h
 |d::ds,_,n,h=>by
  obtain⟨x,q,rfl,R,g⟩:=h.un;simp only[Mx,Bool.and_eq_true]at n;exact .cons (cq ha n.1 R) (OH ha n.2 g)
end
def eI:L->Bool
 |.own (.lst xs)=>Mx xs
 |.own _=>false
 |_=>true
def alone(i:Nat)(δ:Dv):Bool:=(δ.set i .no).all eI
abbrev Wr(i:Nat)(f:Nz):Dv->Option PD:=fun δ=>(od i δ).bind fun kvs=>(f (δ.set i (.d (Bh kvs)))).bind fun x=>if OE x=true/\alone i δ=true then some x else none
end L2
namespace ZT
open PySem PyProof.Rows
def OL(h:Heap)(z TI TO T:AD)(b:Bool):Prop:=h.get? z=some { cls:=.type "zip",data:=.fields #[rawInt T,.bool b,.bool false,.ref TI,.ref TO]}/\∃o,h.get? T=some o
section
variable{prog:F0b}{w:F0c}{A:F0d}{E:yz}{s:SD}{z TI TO T i1 i2:AD}{f1 f2:zL}{n1 n2 k:Nat}{P1 P2:Nat->VL->Prop}{S1 S2:Nat->Heap->Prop}{b:Bool}
def Zl{Q:W1}(hz:OL s.heap z TI TO T b)(Y:T≠z)(q:∀h',OL h' z TI TO T true->Heap.SameBut z s.heap h'->Q false Op):wpAny AS A (Builtin.SmallTypes.ownedTupleIsFree NF) Q E s:=by
 obtain⟨hz,o,g⟩:=hz;unfold Builtin.SmallTypes.ownedTupleIsFree;refine Wb (ae hz rfl (x:=rawInt T) rfl ?_);show wpAny _ _ (loadIfAlive (Int.toNat (T:Int))>>=_) _ _ _;rw[(QI)];refine Wb (PySem.W.kdx_alive g ?_);show wpAny _ _ (field NF 1>>=_) _ _ _;refine Wb (ae hz rfl (x:=.bool b) rfl ?_);cases b with
 |true=>exact Wb (aA (aA (q _ ⟨hz,o,g⟩ (Heap.SameBut.refl ..))))
 |false=>
  show wpAny _ _ (setField NF 1 Jq>>=_) _ _ _;refine Wb (ax hz At fun Z U R=>aA (q Z ⟨U,o,(R.2 _ Y).trans g⟩ R))
def gX{Q:yz}(D1:Draws prog w A i1 f1 n1 P1 S1)(Z:Draws prog w A i2 f2 n2 P2 S2)(ap:UW)(hz:OL s.heap z TI TO T b)(hI:Id) (hT:T≠z/\T≠i1/\T≠i2)(t1:S1 k s.heap)(t2:S2 k s.heap)(l1:k<n1)(l2:k<n2) (q:∀x y h' tk,P1 k x->P2 k y->OL h' z TI TO T true->S1 Pi h'->S2 Pi h'->IsPair h' s.heap.objs.size x y->h'.objs.size=s.heap.objs.size+1 ->(∀c o,c≠z->c≠i1->c≠i2->s.heap.get? c=some o->h'.get? c=some o)->Q Do Da):wpAny AS A Of (fun fin s'=>∃v,fin=.done (.ret v)/\Q v s') E s:=by
 obtain⟨⟨c1,c2,c3,c4⟩,⟨c5,c6,c7⟩,⟨c8,c9,c10⟩,⟨d1,d2,d3⟩,d4,d5,d6⟩:=ap;show wpAny _ _ (field NF 2>>=_) _ _ _;refine Wb (ae hz.1 rfl (x:=.bool false) rfl ?_);show wpAny _ _ (field NF 3>>=_) _ _ _;refine Wb (ae hz.1 rfl (x:=.ref TI) rfl (Wb (ak hI rfl ?_)));show wpAny _ _ M2 _ _ _;refine Wb (Zl hz hT.1 fun g1 z1 g=>?_);simp only[Bool.false_eq_true,if_false];have g:Heap.SameBut z s.heap g1:=g;rw[<-(Sa)];simp only[List.forIn_cons,List.forIn_nil];refine Wb (Wb (Wb (aT ?_)));show wpAny _ _ RH _ _ _;refine Wb (D1.item k _ _ _ l1 (D1.frame _ _ _ t1 (A4 d1 g)) fun x g2 tk2 p1 u1 U=>aA Re);have U:Heap.SameBut i1 g1 g2:=U;have t2':S2 k g2:=Z.frame _ _ _ (Z.frame _ _ _ t2 (A4 d4 g)) (A4 d6 U);refine Wb (Wb (aT ?_));show wpAny _ _ Vx _ _ _;refine Wb (Z.item k _ _ _ l2 t2' fun y Y tk4 p2 u2 R=>aA (aA Re));have R:Heap.SameBut i2 g2 Y:=R;show wpAny _ _ (newTuple [x,y]>>=_) _ _ _;refine Wb (wpAny_newTuple (hsz:=by rw[sizeLine_eq];show(2:Nat)<=_;decide) ?_);have sz:Y.objs.size=s.heap.objs.size:=by rw[R.1,U.1,g.1]
 have kp:∀c o,c≠i1->c≠i2->g1.get? c=some o->(Y.push { cls:=.type "tuple",data:=.seq #[x,y]}).get? c=some o:=fun c o e3 e4 e=>aE _ ((R.2 _ e4).trans ((U.2 _ e3).trans e));obtain⟨z1,o,ho⟩:=z1;have fin:=q x y (Y.push { cls:=.type "tuple",data:=.seq #[x,y]}) tk4 p1 p2 ⟨kp _ _ c8.symm c9.symm z1,o,kp _ _ hT.2.1 hT.2.2 ho⟩ (D1.frame _ _ _ (D1.frame _ _ _ u1 (A4 d3 R)) fun c hc o e=>aE _ e) (Z.frame _ _ _ u2 fun c hc o e=>aE _ e)
  (by rw[<-sz];exact aO _ rfl) (by rw[<-sz,(Ii)]) fun c o e1 e3 e4 e=>kp c o e3 e4 ((g.2 _ e1).trans e)
 rw[<-sz]at fin;exact aA ⟨_,rfl,fin⟩
def kx{Q:Fin->SD->Prop}(D1:Draws prog w A i1 f1 n1 P1 S1)(D2:Draws prog w A i2 f2 n2 P2 S2)(ap:UW)(hz:OL s.heap z TI TO T b)(hI:Id) (hT:T≠z)(t1:S1 k s.heap)(t2:S2 k s.heap)(he:k=n1\/(k<n1/\k=n2)) (q:∀h' e tk,(∀c o,c≠z->c≠i1->c≠i2->s.heap.get? c=some o->h'.get? c=some o)->(∃o,h'.get? e=some o/\o.cls=.type "StopIteration")->E (.ref e) Da):wpAny AS A Of Q E s:=by
 obtain⟨⟨c1,c2,c3,c4⟩,⟨c5,c6,c7⟩,⟨c8,c9,c10⟩,⟨d1,d2,d3⟩,d4,d5,d6⟩:=ap;show wpAny _ _ (field NF 2>>=_) _ _ _;refine Wb (ae hz.1 rfl (x:=.bool false) rfl ?_);show wpAny _ _ (field NF 3>>=_) _ _ _;refine Wb (ae hz.1 rfl (x:=.ref TI) rfl (Wb (ak hI rfl ?_)));show wpAny _ _ M2 _ _ _;refine Wb (Zl hz hT fun g1 z1 U=>?_);simp only[Bool.false_eq_true,if_false];have U:Heap.SameBut z s.heap g1:=U;rw[<-(Sa)];simp only[List.forIn_cons,List.forIn_nil];refine Wb (Wb (Wb (aT ?_)));show wpAny _ _ RH _ _ _;have g:=D1.frame _ _ _ t1 (A4 d1 U);rcases he with he|⟨he1,he2⟩
 .rw[he]at g;refine Wb (D1.done _ _ _ g fun Z e R ho=>?_);exact q Z e _ (fun c o e1 e3 e4 y=>R _ _ e3 ((U.2 _ e1).trans y)) ho
 .refine Wb (D1.item k _ _ _ he1 g fun x Z tk2 p1 u1 R=>aA Re);have R:Heap.SameBut i1 g1 Z:=R;have Y:S2 k Z:=D2.frame _ _ _ (D2.frame _ _ _ t2 (A4 d4 U)) (A4 d6 R);rw[he2]at Y;refine Wb (Wb (aT ?_));show wpAny _ _ Vx _ _ _;refine Wb (D2.done _ _ _ Y fun g4 e m4 ho=>?_);exact q g4 e _ (fun c o e1 e3 e4 y=>m4 _ _ e4 ((R.2 _ e3).trans ((U.2 _ e1).trans y))) ho
def fR{Q:Ph}(D1:SB)(D2:SC)(ap:UW)(hz:OL s.heap z TI TO T b)(hI:Id) (hT:T≠z/\T≠i1/\T≠i2)(t1:S1 k s.heap)(R:S2 k s.heap)(l1:k<n1)(l2:k<n2) (q:∀x y h' tk,P1 k x->P2 k y->OL h' z TI TO T true->S1 Pi h'->S2 Pi h'->IsPair h' s.heap.objs.size x y->h'.objs.size=s.heap.objs.size+1 ->(∀c o,c≠z->c≠i1->c≠i2->s.heap.get? c=some o->h'.get? c=some o)->Q (some Do) Da):wpAny AS A (pyNext NF) Q E s:=by
 have g:s.TypeIs NF "zip" := ⟨_,hz.1,rfl⟩;unfold pyNext;exact Wb (wpAny_attempt (aj (name:=Str.ofString "__next__") g bG
  (aa bG g F.entry_zip_next (gX D1 D2 ap hz hI hT t1 R l1 l2 fun x y h' tk r1 r2 r3 r4 r5 Z Y U=>aA (q x y h' tk r1 r2 r3 r4 r5 Z Y U)) (F.args_zip_next_1 _))))
def WW{Q:Ph}(D1:SB)(D2:SC)(ap:UW)(hz:OL s.heap z TI TO T b)(hI:Id) (hT:T≠z)(t1:S1 k s.heap)(U:S2 k s.heap)(Y:k=n1\/(k<n1/\k=n2)) (q:∀h' tk,(∀c o,c≠z->c≠i1->c≠i2->s.heap.get? c=some o->h'.get? c=some o)->Q none Da):wpAny AS A (pyNext NF) Q E s:=by
 have g:s.TypeIs NF "zip" := ⟨_,hz.1,rfl⟩;unfold pyNext;refine Wb (wpAny_attempt (aj (name:=Str.ofString "__next__") g bG
  (aa bG g F.entry_zip_next (kx D1 D2 ap hz hI hT t1 U Y fun h' e tk kp R=>?_) (F.args_zip_next_1 _))))
 obtain⟨o,R,Z⟩:=R;exact Wb (wpAny_isInstance (T := "StopIteration") (b:=true) ⟨o,R,Z⟩ isSubtype_stop (aA (q _ _ kp)))
end
end ZT
namespace TH
open PySem PyProof.Rows
def Sn:typeLookup (.type "zip") "__getattr__" = pure none:=by rw[typeLookup_type,builtinLookup_eq_fast];kernel_rfl
def WO:typeLookup (.type "zip") "keys" = pure none:=by rw[typeLookup_type,builtinLookup_eq_fast];kernel_rfl
def Ss:entryFor table "zip.__getattribute__" = some Builtin.«object.__getattribute__» :=
 entryFor_alias (id' := "object.__getattribute__") Hk LE LE Hk
def kJ(a:AD)(xs:Array VL)(u:Tok):Meets (Builtin.«object.__getattribute__» ⟨[.ref a,.str "keys" u],[]⟩) (fun A R s=>s.heap.get? a=some { cls:=.type "zip",dict:=none,data:=.fields xs,slots:=#[]}/\raisesAttr Hf "keys" A R s) :=
 Meets.of_wp fun prog w A R s T=>by
  obtain⟨Z,g,d,tk,os⟩:=s;obtain⟨Y,T⟩:=T;have hT:(⟨Z,g,d,tk,os⟩:SD).TypeIs Hf "zip" := ⟨_,Y,rfl⟩;have U:=WO;unfold Builtin.«object.__getattribute__»
  repeat (any_goals (first|assumption|wp_step))
  exact wpAny_raiseAttrError T.1 T.2 (attrMsg_fits LE (by size_fits))
def nJ{prog:F0b}{w:F0c}{A:F0d}{E:yz}{s:SD}{a:AD}{xs:Array VL}{Q:Ph} (U:s.heap.get? a=some { cls:=.type "zip",dict:=none,data:=.fields xs,slots:=#[]})(hA:A.handled=none) (h:∀h' tk,(∀c o,s.heap.get? c=some o->h'.get? c=some o)->Q none Da):wpAny AS A (getAttr? Hf "keys") Q E s:=by
 obtain⟨Z,g,d,tk,os⟩:=s;have Y:∀R,(⟨Z,g,d,R,os⟩:SD).TypeIs Hf "zip" := fun _=>⟨_,U,rfl⟩;have f1:=sub_AttributeError;have f3:=F.slot_zip_getattribute.lookup;have f4:=F.slot_zip_getattribute.bind Hf;have f5:=Sn;unfold getAttr? getAttrBy? getAttrBy
 repeat (any_goals (first|assumption|exact Y _|((with_reducible show wpAny _ _ (call (Value.builtin "zip.__getattribute__") _ _) _ _ _);refine call_meets F.slot_zip_getattribute (Y _) Ss (F.args_zip_getattribute_2 _ _) (kJ a xs _) ⟨U,hA,fun h' R e T=>?_⟩)|wp_step))
 obtain⟨t',u',he⟩:=T.there;show wpAny _ _ (getattributeRaised _ _ _ _ _ _ _) _ _ _;unfold getattributeRaised
 repeat (any_goals (first|assumption|wp_step))
 exact h _ _ T.keeps
section
variable{prog:F0b}{w:F0c}{A:F0d}{E:yz}{s:SD}{k:Ki}{kv:VL}{d:AD}{xs:List KE}
def fH{v:VL}{Q:Unit->SD->Prop}(hu:A.units+8<cLine)(hk:HQ s.heap k kv)(hm:FO s.heap d xs)(hap:ST)(hz:xs.length<=sizeLine) (fin:∀h',FO h' d (EB xs k kv v)->Heap.SameBut d s.heap h'->Q () {s with heap:=h',toks:=s.toks+DL k}):wpAny AS A (dictSet d kv v) Q E s:=by
 obtain⟨o,es,ep,g,hc,hd,Y⟩:=hm.ob;unfold dictSet
 try with_reducible refine aT ?_
 refine Wb (X2 hu hk ?_);unfold dictSetHashed
 try with_reducible refine aT ?_
 refine Wb (Yn (s:={s with toks:=s.toks+DL k}) hu hk g hd Y hm.ks hm.nd hap (fun U=>?_) fun j x hj hx=>?_)
 .have R:EB xs k kv v=xs++[(k,kv,v)]:=by unfold EB;rw[Ld U];rfl
  rw[R]at fin;refine Wb LT
  .simp[Y,Ea]
  .rcases ay.mp T with h|h
   .exact(hm.ks y h).keep prog w g hd (aY ..)
   .rw[List.mem_singleton.mp h];exact hk.keep prog w g hd (aY ..)
  .rw[(Ep),List.nodup_append];refine⟨hm.nd,by simp,fun a ha b hb=>?_⟩;have:b=k:=by simpa using hb
   subst this;obtain⟨y,T,rfl⟩:=aQ.mp ha;exact U y T
 .have R:EB xs k kv v=xs.map (putN k v):=by unfold EB;rw[Oi hm.nd hj hx];rfl
  rw[R]at fin;refine Wb M9
  .have:=O9 (v:=v) hm.nd hj hx;rw[<-Y]at this;obtain⟨l⟩:=es
   simpa using this
  .obtain⟨z,Z,rfl⟩:=aQ.mp T;unfold putN;split<;>exact(hm.ks z Z).keep prog w g hd (aY ..)
  .rw[R6];exact hm.nd
end
section
variable{prog:F0b}{w:F0c}{A:F0d}{E:yz}{s:SD}{z TI TO i1 i2 d n:AD}{f1 f2:zL}{P1 P2:Nat->VL->Prop}{S1 S2:Nat->Heap->Prop}
def Yu(h:Heap)(z TI TO d:AD):Prop:=(IsZip h z TI TO .none/\∃a b,IsPair h TO a b)\/∃T b,ZT.OL h z TI TO T b/\d<T
def Yu.keep{h h':Heap}(st:Yu h z TI TO d)(hz:z<d)(Y:TO<d)(e:Heap.SameBut d h h'):Yu h' z TI TO d:=by
 rcases st with ⟨R,a,b,g⟩|⟨T,b,⟨R,o,g⟩,U⟩
 .exact .inl ⟨(e.2 _ (aI hz)).trans R,a,b,(e.2 _ (aI Y)).trans g⟩
 .exact .inr ⟨T,b,⟨(e.2 _ (aI hz)).trans R,o,(e.2 _ (ai U)).trans g⟩,U⟩
structure lL(z TI TO i1 i2 d:Addr):Prop where
 z:z<d
 I:TI<d
 O:TO<d
 a:i1<d
 b:i2<d
def uT{n1 n2 k:Nat}{Q:Ph}(lw:lL z TI TO i1 i2 d)(hd:d<s.heap.objs.size)(D1:SB)(D2:SC)(ap:ZT.Apart z TI TO i1 i2 f1 f2)(st:Yu s.heap z TI TO d)(hI:Id) (t1:S1 k s.heap)(t2:S2 k s.heap)(l1:k<n1)(l2:k<n2) (q:∀x y h' tk,P1 k x->P2 k y->Yu h' z TI TO d->S1 Pi h'->S2 Pi h'->IsPair h' s.heap.objs.size x y->h'.objs.size=s.heap.objs.size+1 ->(∀c o,c≠z->c≠TO->c≠i1->c≠i2->s.heap.get? c=some o->h'.get? c=some o)->Q (some Do) Da):wpAny AS A (pyNext NF) Q E s:=by
 rcases st with ⟨h1,a,b,h2⟩|⟨T,b,h1,R⟩
 .exact ZT.next_item D1 D2 ap h1 hI h2 t1 t2 l1 l2 fun x y h' tk r1 r2 r3 r4 r5 Z g Y U=>q x y h' tk r1 r2 (.inr ⟨_,false,⟨r3,_,g⟩,hd⟩) r5 Z g Y U
 .exact ZT.fR D1 D2 ap h1 hI ⟨ai (bW lw.z R),Nat.ne_of_gt (bW lw.a R),Nat.ne_of_gt (bW lw.b R)⟩ t1 t2 l1 l2 fun x y h' tk r1 r2 r3 r5 Z g Y U=>q x y h' tk r1 r2 (.inr ⟨T,true,r3,R⟩) r5 Z g Y fun c o e1 e2 e3 e4 e=>U c o e1 e3 e4 e
def gg{g Y k:Nat}{Q:Ph}(lw:lL z TI TO i1 i2 d)(D1:Draws prog w A.in1 i1 f1 g P1 S1)(D2:Draws prog w A.in1 i2 f2 Y P2 S2)(ap:ZT.Apart z TI TO i1 i2 f1 f2)(st:Yu s.heap z TI TO d)(hI:Id) (t1:S1 k s.heap)(U:S2 k s.heap)(Z:k=g\/(k<g/\k=Y)) (q:∀h' tk,am->Q none Da):wpAny AS A (pyNext NF) Q E s:=by
 rcases st with ⟨R,a,b,h2⟩|⟨T,b,R,h3⟩
 .exact ZT.next_end D1 D2 ap R hI h2 t1 U Z q
 .exact ZT.WW D1 D2 ap R hI (ai (bW lw.z h3)) t1 U Z fun h' tk kp=>q h' tk fun c o e1 e2 e3 e4 e=>kp c o e1 e3 e4 e
def Kc:plainId "dict.update.loop" = true:=by decide +kernel
def Rh:entryFor table "dict.update.loop" = some Builtin.«dict.update.loop»:=entryFor_of_fast Hk
def FO.keep{h h':Heap}{xs:List KE}(hm:FO h d xs)(e:∀o,h.get? d=some o->h'.get? d=some o)(U:∀x∈xs,HQ h x.1 x.2.1->HQ h' x.1 x.2.1):FO h' d xs:=by
 obtain⟨o,es,ep,T,R⟩:=hm.ob;exact⟨⟨o,es,ep,e _ T,R⟩,fun x g=>U x g (hm.ks x g),hm.nd⟩
def Ei(ks:Os)(us vs:yy):List KE:=ks.zip (us.zip vs)
def o9{ks:Os}{us vs:yy}{j:Nat}{k:Ki}{u v:VL}(T:ks[j]? = some k)(R:us[j]? = some u)(g:vs[j]? = some v):(Ei ks us vs)[j]? = some (k,u,v):=by
 unfold Ei;rw[List.getElem?_zip_eq_some];exact⟨T,List.getElem?_zip_eq_some.mpr ⟨R,g⟩⟩
def VP{ks:Os}{us vs:yy}{x:KE}(h:x∈Ei ks us vs):∃j:Nat,ks[j]? = some x.1/\us[j]? = some x.2.1/\(Ei ks us vs)[j]? = some x:=by
 obtain⟨j,g⟩:=ag.mp h;have R:=g;unfold Ei at g;rw[List.getElem?_zip_eq_some]at g;exact⟨j,g.1,(List.getElem?_zip_eq_some.mp g.2).1,R⟩
def u0{R:Result->SD->Prop}{b1 b2:Bool}{l1 l2:AD}{ks:Os}{us vs:yy}{h0:Heap}(hh:A.handled=none)(hu:A.in1.units+8<cLine)(lw:lL z TI TO i1 i2 d)(hn:n<=z/\n<=TI/\n<=TO/\n<=i1/\n<=i2)(ap:ZT.Apart z TI TO i1 i2 [i1,l1] [i2,l2]) (n1:l1≠i1)(n2:l2≠i2)(m1:l1<n)(m2:l2<n)(e1:us.length=ks.length)(e2:vs.length=ks.length)(hs:ks.length<=sizeLine)(nd:ks.Nodup)(ha:∀x∈ks,∀y∈ks,BI x=BI y->x=y) (hk:∀h',(∀c o,c<n->h0.get? c=some o->h'.get? c=some o)->∀(j:Nat) k kv,ks[j]? = some k->us[j]? = some kv->HQ h' k kv) (hR:∀h' tk,(∀c o,c<n->h0.get? c=some o->h'.get? c=some o)->FO h' d (Ei ks us vs)->d<h'.objs.size->R (.ok (.ret .none)) Da):∀(m i:Nat) (h:Heap) (tk:Nat),ks.length-i=m->i<=ks.length->Yu h z TI TO d->IsPair h TI (.ref i1) (.ref i2)->ZT.Jk b1 h i1 l1 i/\ZT.Sq b1 h l1 us->ZT.Jk b2 h i2 l2 i/\ZT.Sq b2 h l2 vs->(∀c o,c<n->h0.get? c=some o->h.get? c=some o)->FO h d ((Ei ks us vs).take i)->d<h.objs.size ->codeAny AS A (.builtin "dict.update.loop" ⟨[.ref d,.ref z,rawInt (i:Nat),.none],[]⟩) R {s with heap:=h,toks:=tk}:=by
 have D1:=ZT.Ef (prog:=prog) (w:=w) (A:=A.in1.in1) hh b1 i1 l1 us n1;have D2:=ZT.Ef (prog:=prog) (w:=w) (A:=A.in1.in1) hh b2 i2 l2 vs n2;have hel:(Ei ks us vs).length=ks.length:=by unfold Ei;simp[List.length_zip];lia
 intro m
 induction m with
 |zero=>
  intro i h tk hm hi st hI t1 t2 kp hD hd;have hin:i=ks.length:=by lia
  subst hin;refine codeAny_builtin Rh ?_;rw[Around.under_plainId Kc _];show wpAny _ A.in1 (pyNext NF>>=_) _ _ _;refine Wb (gg (s:={s with heap:=h,toks:=tk}) (A:=A.in1) lw D1 D2 ap st hI t1 t2 (.inl e1.symm) fun h' Y Z=>?_);show wpAny _ A.in1 (pure ()>>=_) _ _ _;refine Wb (aA (aA (hR h' Y (fun c o g e=>Z c o (aI (aH g hn.1)) (aI (aH g hn.2.2.1)) (aI (aH g hn.2.2.2.1)) (aI (aH g hn.2.2.2.2)) (kp c o g e)) ?_ ?_)))
  .rw[<-hel,(JB)]at hD;refine hD.keep (fun o e=>Z d o (ai lw.z) (ai lw.O) (ai lw.a) (ai lw.b) e) fun x hx _=>?_;obtain⟨j,j1,j2,_⟩:=VP hx;exact hk h' (fun c o g e=>Z c o (aI (aH g hn.1)) (aI (aH g hn.2.2.1)) (aI (aH g hn.2.2.2.1)) (aI (aH g hn.2.2.2.2)) (kp c o g e)) j _ _ j1 j2
  .obtain⟨o,es,ep,ho,_⟩:=hD.ob;exact aF (Z d o (ai lw.z) (ai lw.O) (ai lw.a) (ai lw.b) ho)
 |succ m ih=>
  intro i h tk hm hi st hI t1 t2 kp hD hd;have hlt:i<ks.length:=by lia
  refine codeAny_builtin Rh ?_;rw[Around.under_plainId Kc _];show wpAny _ A.in1 (pyNext NF>>=_) _ _ _;refine Wb (uT (s:={s with heap:=h,toks:=tk}) (A:=A.in1) lw hd D1 D2 ap st hI t1 t2 AC AC fun x y h' Y r1 r2 r3 r4 r5 r6 r7 r8=>?_);show wpAny _ A.in1 (holding _ _>>=_) _ _ _;refine Wb (aT (Wb (wpAny_tryCatch ?_)));unfold Builtin.Dict.pairItems;refine Wb (wpAny_typeOf (T := "tuple") ⟨_,r6,rfl⟩ ?_);rw[if_pos AT];refine Wb (ak r6 rfl Re);show wpAny _ A.in1 (holding [x,y] (dictSet d x y)) _ _ _;have kp1:∀c o,c<n->h0.get? c=some o->h'.get? c=some o:=fun c o g e=>r8 c o (aI (aH g hn.1)) (aI (aH g hn.2.2.1)) (aI (aH g hn.2.2.2.1)) (aI (aH g hn.2.2.2.2)) (kp c o g e);have U:ks[i]? = some ks[i]:=aG hlt;generalize ks[i]=kk at U;have hD':FO h' d ((Ei ks us vs).take i):=hD.keep (fun o e=>r8 d o (ai lw.z) (ai lw.O) (ai lw.a) (ai lw.b) e) fun x hx _=>by
   obtain⟨j,j1,j2,_⟩:=VP (bT hx);exact hk h' kp1 j _ _ j1 j2
  have hno:∀x∈(Ei ks us vs).take i,x.1≠kk:=fun q hq e=>by
   obtain⟨j,hj⟩:=ag.mp hq;have hji:j<i:=by have:=(aD.mp hj).1;rw[(II)]at this;lia
   rw[List.getElem?_take_of_lt hji]at hj;unfold Ei at hj;rw[List.getElem?_zip_eq_some]at hj;have:=(List.getElem?_inj AC nd).mp ((hj.1.trans (by rw[e])).trans U.symm)
   lia
  have hst:EB ((Ei ks us vs).take i) kk x y=(Ei ks us vs).take MS:=by
   unfold EB;rw[Ld hno,List.take_succ,o9 U r1 r2]
   rfl
  refine aT (fH (s:={s with heap:=h',toks:=Y}) (k:=kk) hu (hk h' kp1 i _ _ U r1) hD' (fun q hq e=>?_) (by rw[(II)];lia) fun h2 hN sb=>?_)
  .obtain⟨j,j1,_,_⟩:=VP (bT hq);exact ha _ (aN j1) _ (aN U) e
  rw[hst]at hN;have nz:n<d:=aW hn.1 lw.z;have up:∀c o,c≠d->h'.get? c=some o->h2.get? c=some o:=fun c o g e=>(sb.2 c g).trans e;refine aA ⟨plainId_quiet Kc _,?_⟩;have:=ih MS h2 (Y+DL kk) AC hlt (r3.keep lw.z lw.O sb) (up _ _ (aI lw.I) (r8 _ _ ap.a1.1 ap.a1.2.1 ap.a1.2.2.1 ap.a1.2.2.2 hI))
   (D1.frame _ _ _ r4 fun c g o e=>up c o ?_ e) (D2.frame _ _ _ r5 fun c g o e=>up c o ?_ e) (fun c o g e=>up c o (aI (bW g nz)) (kp1 c o g e)) hN (by rw[sb.1];show d<h'.objs.size;rw[r7];exact bU hd)
  .exact this
  .rcases aM.mp g with rfl|g
   .exact aI lw.a
   .rw[List.mem_singleton.mp g];exact aI (bW m1 nz)
  .rcases aM.mp g with rfl|g
   .exact aI lw.b
   .rw[List.mem_singleton.mp g];exact aI (bW m2 nz)
end
end TH
namespace TH
open PySem PyProof.Rows
def nU{prog:F0b}{w:F0c}{A:F0d}{E:yz}{s:SD}{z TI TO i1 i2 n:AD}{b1 b2:Bool}{Y U:AD}{ks:Os}{us vs:yy}{Q:yz}(hh:A.handled=none)(hu:A.in1.in1.units+8<cLine)(lw:lL z TI TO i1 i2 s.heap.objs.size)(hn:n<=z/\n<=TI/\n<=TO/\n<=i1/\n<=i2)(ap:ZT.Apart z TI TO i1 i2 [i1,Y] [i2,U]) (n1:Y≠i1)(n2:U≠i2)(m1:Y<n)(m2:U<n)(e1:us.length=ks.length)(e2:vs.length=ks.length)(hs:ks.length<=sizeLine)(nd:ks.Nodup)(ha:∀x∈ks,∀y∈ks,BI x=BI y->x=y) (hk:∀h',(∀c o,c<n->s.heap.get? c=some o->h'.get? c=some o)->∀(j:Nat) k kv,ks[j]? = some k->us[j]? = some kv->HQ h' k kv) (hz:Rj)(hI:Id)(hO:IsPair s.heap TO .none .none)(t1:ZT.Jk b1 s.heap i1 Y 0)(p1:ZT.Sq b1 s.heap Y us)(t2:ZT.Jk b2 s.heap i2 U 0)(p2:ZT.Sq b2 s.heap U vs) (q:∀h' tk,(∀c o,c<n->s.heap.get? c=some o->h'.get? c=some o)->FO h' s.heap.objs.size (Ei ks us vs)->s.heap.objs.size<h'.objs.size->Q Do Da):wpAny AS A (call (.type "dict") [.ref z]) Q E s:=by
 refine callType_codes (Q₁:=fun obj Z=>obj=.ref s.heap.objs.size/\Z={s with heap:=s.heap.push { cls:=.type "dict",data:=.dict #[]} }) F.kt_called_dict (F.kt_typeCall_dict_1 _) F.entry_dict_init (kt_code_dict_new _ ⟨rfl,rfl⟩) ?_;rintro obj Z ⟨rfl,rfl⟩;have up:∀c o,s.heap.get? c=some o->(s.heap.push { cls:=.type "dict",data:=.dict #[]}).get? c=some o:=fun c o e=>aE _ e;have hd0:(s.heap.push { cls:=.type "dict",data:=.dict #[]}).get? s.heap.objs.size=some { cls:=.type "dict",data:=.dict #[]}:=aO _ rfl;have sz0:(s.heap.push { cls:=.type "dict",data:=.dict #[]}).objs.size=s.heap.objs.size+1:=Heap.size_push ..;have hT:({s with heap:=s.heap.push { cls:=.type "dict",data:=.dict #[]} }:SD).TypeIs Do "dict" := ⟨_,hd0,rfl⟩;refine⟨hT,F.args_dict_init_2 _ _,?_⟩;unfold Builtin.«dict.__init__»;refine Wb ?_;unfold Builtin.Dict.selfAndRest;refine Wb (wpAny_notOrdered_dict hT ?_);show wpAny _ _ (pure (s.heap.objs.size,[Value.ref z])) _ _ _;refine aA ?_;show wpAny _ _ (Builtin.Dict.updateFrom "dict.__init__" s.heap.objs.size NF [] .none) _ _ _;unfold Builtin.Dict.updateFrom;refine Wb (wpAny_typeOf (T := "zip") ⟨_,up _ _ hz,rfl⟩ ?_);rw[if_pos AT];refine Wb (nJ (s:={s with heap:=s.heap.push { cls:=.type "dict",data:=.dict #[]} }) (up _ _ hz) hh fun h' tk kp=>?_);have g:∀c o,s.heap.get? c=some o->h'.get? c=some o:=fun c o e=>kp c o (up c o e);simp only[Option.isNone_none,if_true];refine Wb (bH (Wb (wpAny_pyIter_zip (g _ _ hz) (aA ⟨plainId_quiet Kc _,?_⟩))));have:=u0 (s:=s) (A:=A.in1) (prog:=prog) (w:=w) (h0:=s.heap) (b1:=b1) (b2:=b2) (R:=wants (fun r s₂=>r=.none/\Q Do s₂) E) hh hu lw hn ap n1 n2 m1 m2 e1 e2 hs nd ha hk (fun h' tk r1 r2 r3=>⟨rfl,q h' tk r1 r2 r3⟩) _ 0 h' tk rfl (az _)
  (.inl ⟨g _ _ hz,_,_,g _ _ hO⟩) (g _ _ hI) ⟨?_,?_⟩ ⟨?_,?_⟩ (fun c o _ e=>g c o e) ?_ (aF (kp _ _ hd0))
 .exact this
 .cases b1 with
  |true=>obtain⟨o,q,r⟩:=(show s.heap.IsTupleIter i1 Y 0 from t1);exact(show h'.IsTupleIter i1 Y 0 from⟨o,g _ _ q,r⟩)
  |false=>obtain⟨o,q,r⟩:=(show s.heap.IsListIter i1 Y 0 from t1);exact(show h'.IsListIter i1 Y 0 from⟨o,g _ _ q,r⟩)
 .exact p1.keep fun o e=>g _ _ e
 .cases b2 with
  |true=>obtain⟨o,q,r⟩:=(show s.heap.IsTupleIter i2 U 0 from t2);exact(show h'.IsTupleIter i2 U 0 from⟨o,g _ _ q,r⟩)
  |false=>obtain⟨o,q,r⟩:=(show s.heap.IsListIter i2 U 0 from t2);exact(show h'.IsListIter i2 U 0 from⟨o,g _ _ q,r⟩)
 .exact p2.keep fun o e=>g _ _ e
 .exact⟨⟨_,#[],0,kp _ _ hd0,⟨rfl,rfl,rfl⟩,rfl,rfl⟩,fun x hx=>by simp at hx,by simp⟩
end TH
namespace TH
open PySem PyProof.Rows
theorem Ur{h h':Heap}(k:∀c o,h.get? c=some o->h'.get? c=some o):∀ {t:Tr} {us:LQ},Vs h t us->Vs h' t us
 |.nil,us,e=>e
 |.cons a t,us,e=>by
  obtain⟨b,g,r,rfl,U,Z,Y⟩:=e;obtain⟨o,T,R⟩:=U;exact⟨b,g,r,rfl,⟨o,k _ _ T,R⟩,Ur k Z,Ur k Y⟩
def HQ.up{h h':Heap}(k:∀c o,h.get? c=some o->h'.get? c=some o){x:Ki}{v:VL}(a:HQ h x v):HQ h' x v:=by
 cases x with
 |none=>exact a
 |some t=>
  obtain⟨b,e,Y,g,⟨o,T,R⟩,U⟩:=a;exact⟨b,e,Y,g,⟨o,k _ _ T,R⟩,Ur k U⟩
end TH
namespace L2
open PySem PySem.Spec PyProof.Rows
theorem UG:∀ {ks:Os} {xs ys:IZ} {us vs:LQ},Vals xs us->Vals ys vs->PySem.Paired SA (ks.zip (xs.zip ys)) (TH.Ei ks us vs)
 |[],_,_,_,_,_,_=>by unfold TH.Ei;simp only[List.zip_nil_left];exact .nil
 |k::ks,_,_,_,_,.nil,_=>by unfold TH.Ei;simp only[List.zip_nil_left,List.zip_nil_right];exact .nil
 |k::ks,_,_,_,_,.cons _ _,.nil=>by unfold TH.Ei;simp only[List.zip_nil_right];exact .nil
 |k::ks,_,_,_,_,.cons a as,.cons b bs=>.cons ⟨rfl,a,b⟩ (UG as bs)
def yR(R:TA):TE:=fun σ H Q=>R σ H fun vs g=>∃(b1 b2:Bool) (a1 a2:AD) (xs ys:IZ) (ks:Os),vs=[.ref a1,.ref a2]/\Cc b1 g a1 xs/\Cc b2 g a2 ys/\xs.length=ks.length/\ys.length=ks.length/\ks.length<=1000/\ks.Nodup /\
 (∀x∈ks,∀y∈ks,TH.BI x=TH.BI y->x=y)/\(∀(j:Nat) k v,ks[j]? = some k->xs[j]? = some v->Hi g k v)/\∀p,g p=none->Q (.ref p) (upd g p (dN p (ks.zip (xs.zip ys))))
def uy{X:Cx}{a b:Expr}{ta:TA}{p Y pos g:Pos}(hc:bi)(hu:IO)(hgd:Gl X "dict")(hmd:X.mg "dict" = none)(hg:Gl X "zip")(hm:X.mg "zip" = none)(ha:PA X [a,b] ta) (he:starEach [.Call (.Name "zip" Y) [a,b] [] g] X.env=(false,eval (.Call (.Name "zip" Y) [a,b] [] g) X.env)::starEach [] X.env:=by rfl)(hpl:(backTo pos (starEach [] X.env)).any M0=false:=by rfl) (hs:starEach [a,b] X.env=[ND,LJ]:=by rfl)(hs2:starEach [b] X.env=[LJ]:=by rfl):PE X (.Call (.Name "dict" p) [.Call (.Name "zip" Y) [a,b] [] g] [] pos) (yR ta):=by
 intro pins s σ H Q I h;refine wpAny_Call_Name_kw (Gx I hgd hmd boot_dict ?_ AT AT);refine ar ?_ he hpl;rw[he];show wpAny _ _ (spliced ((false,eval (.Call (.Name "zip" Y) [a,b] [] g) X.env)::backTo pos (starEach [] X.env))) _ _ s;refine Calls.spliced_cons ?_;refine Call_ (Gx I hg hm boot_zip (ar (BX (ha g pins s σ H _ I h) fun us s1 ⟨vs,H1,I1,r1,q1⟩=>?_) (by rw[hs,hs2]) (by rw[hs2];rfl)));obtain⟨b1,b2,l1,l2,xs,ys,ks,e,h1,h2,e1,e2,e3,nd,hh,hk,q⟩:=q1;subst e;cases r1 with
 |cons r rr=>
  cases rr with
  |cons r' rr=>
   cases rr;cases r;cases r';obtain⟨us,rv1,p1⟩:=h1.raw I1;obtain⟨vs,rv2,Y⟩:=h2.raw I1;have T:=p1.lt;have R:=Y.lt;refine ZT.ZG p1 Y fun h' z1 z2 z3 z4 z5 U=>?_;refine Calls.spliced_nil ?_;have s4:s1.heap.objs.size+4<h'.objs.size:=aF z1;have Z:∀m,m<=4->s1.heap.objs.size+m<h'.objs.size:=fun m hm=>aW (Nat.add_le_add_left hm _) s4;have ne:∀(x:AD) m,x<s1.heap.objs.size->x≠s1.heap.objs.size+m:=fun x m hx=>aI (aH hx (Nat.le_add_right _ _));have ap:ZT.Apart (s1.heap.objs.size+4) (s1.heap.objs.size+2) (s1.heap.objs.size+3) s1.heap.objs.size (s1.heap.objs.size+1) [s1.heap.objs.size,l1] [s1.heap.objs.size+1,l2]:=by
    refine⟨⟨by simp,by simp,by simp,by simp⟩,⟨by simp,by simp,by simp⟩,⟨by simp,by simp,by simp⟩,⟨?_,?_,?_⟩,?_,?_,?_⟩
    .simp[Ne.symm (ne l1 4 T)]
    .simp[Ne.symm (ne l1 3 T)]
    .simp[Ne.symm (ne l1 1 T)]
    .simp[Ne.symm (ne l2 4 R)]
    .simp[Ne.symm (ne l2 3 R)]
    .simp only[List.mem_cons,List.not_mem_nil,or_false,not_or];exact⟨aI (bO _),Nat.ne_of_gt R⟩
   refine TH.nU (s:={s1 with heap:=h'}) (n:=s1.heap.objs.size) (z:=s1.heap.objs.size+4) (TI:=s1.heap.objs.size+2) (TO:=s1.heap.objs.size+3) (i1:=s1.heap.objs.size) (i2:=s1.heap.objs.size+1) (b1:=b1) (b2:=b2) (ks:=ks) (us:=us) (vs:=vs) (I1.ok.hd hc) (by show X.A.in1.in1.units+8<cLine;rw[(OM),(OM)];lia)
    ⟨s4,Z 2 AT,Z 3 AT,Z 0 AT,Z 1 AT⟩ ⟨Nat.le_add_right _ _,Nat.le_add_right _ _,Nat.le_add_right _ _,Nat.le_refl _,Nat.le_add_right _ _⟩ ap (aI T) (ne l2 1 R) T R (by rw[<-rv1.length];exact e1) (by rw[<-rv2.length];exact e2) (aU e3 KF) nd hh
    (fun h2 kp j k kv hj hv=>?_) z1 z2 z3 z4 (p1.keep fun o e=>U _ _ e) z5 (Y.keep fun o e=>U _ _ e) fun h2 tk kp hD hlt=>?_
   .have hj2:j<xs.length:=by have:=(aD.mp hj).1;lia
    obtain⟨u',r1,r2⟩:=rv1.get (aG hj2);rw[hv]at r1;cases r1;exact((hk j k _ hj (aG hj2)).raw I1 r2).up fun c o e=>kp c o (aF e) (U c o e)
   .have le:s1.heap.objs.size<=h'.objs.size:=bD (Z 0 AT);refine⟨.ref h'.objs.size,_,I1.laid (a:=h'.objs.size) (o:=dN h'.objs.size (ks.zip (xs.zip ys))) (t':=tk) (fun c o e=>kp c o (aF e) (U c o e)) le ?_,rfl,q _ (I1.A9.fresh le)⟩;have hb:sysModules<s1.heap.objs.size:=bW AT (I1.mod.glob.keeps I1.bk).lt;have hn:(h'.objs.size==sysModules)=false:=beq_eq_false_iff_ne.mpr (Ne.symm (aI (aH hb le)));obtain⟨o,es,ep,Z,g2,g3,g4⟩:=hD.ob;exact⟨⟨hn,o,es,ep,_,Z,g2,g3,g4,UG rv1 rv2⟩,⟨_,Z⟩,fun h1 h2 ⟨a,o,es,ep,xs,q,r⟩ k=>⟨a,o,es,ep,xs,k _ q,r⟩⟩
end L2
namespace L2
open PySem PySem.Spec PyProof.Rows
def keysOf:List PD->Option (List (Option Tr))
 |[]=>some []
 |d::g=>(keyOf d).bind fun k=>(keysOf g).map fun r=>k::r
theorem keys_eq:∀ {ds:List PD} {ks:Os},keysOf ds=some ks->ds=ks.map Cq
 |[],ks,h=>by cases h;rfl
 |d::ds,ks,h=>by
  rw[keysOf]at h;obtain⟨k,T,R⟩:=aB.mp h;obtain⟨r,g,rfl⟩:=aC.mp R;rw[MG T,keys_eq g];rfl
theorem cj:∀ks:List (Option Tr),keysOf (ks.map Cq)=some ks
 |[]=>rfl
 |k::ks=>by rw[(A2),keysOf,Od,(F3),cj ks];rfl
def eK(ks:Os):Bool:=decide ks.Nodup&&ks.all fun k=>(match k with|none=>true|some t=>decide (t.deep<8))&&ks.all fun q=>decide (TH.BI q≠TH.BI k)||decide (q=k)
abbrev fw(x y:PD):Option (List KD):=(GB x).bind fun g=>(GB y).bind fun es=>(keysOf g).bind fun ks=>if eK ks=true/\es.length=ks.length/\ks.length<=500 then some (ks.zip es) else none
def wJ:List PD->Option (List KD)
 |[x,y]=>fw x y
 |_=>none
abbrev X3(i:Nat)(fs:S7):DF:=fun δ=>((fs δ).bind wJ).map fun kvs=>.nx (δ.set i (.own (.GZ kvs)))
def vI{ks:Os}(h:eK ks=true):ks.Nodup/\(∀x∈ks,∀y∈ks,TH.BI x=TH.BI y->x=y)/\∀t,some t∈ks->t.deep<8:=by
 unfold eK at h;rw[(Dk)]at h;refine⟨aP h.1,fun x R y g e=>?_,fun t T=>?_⟩
 .have:=aL.mp h.2 y g;rw[(Dk)]at this;have:=aL.mp this.2 x R;rw[Bool.or_eq_true]at this;rcases this with z|z
  .exact absurd e (aP z)
  .exact aP z
 .have:=aL.mp h.2 _ T;rw[(Dk)]at this;exact aP this.1
def gZ{G:Hp}{k:Ki}{v:V}(h:Du G (Cq k) v)(hd:∀t,k=some t->t.deep<8):Hi G k v:=by
 cases k with
 |none=>rw[Cq,Du]at h;exact h
 |some t=>
  rw[Cq,Du]at h;obtain⟨a,ys,rfl,R,g⟩:=h;exact⟨hd t rfl,a,ys,rfl,R,G5 g⟩
theorem gB{G:Hp}:∀ {ks:Os} {es:List PD} {xs ys:IZ},(∀t,some t∈ks->t.deep<8)->An G (ks.map Cq) xs->An G es ys->PySem.Paired (PR G) (ks.zip es) (ks.zip (xs.zip ys))
 |[],es,xs,ys,_,_,_=>by simp only[List.zip_nil_left];exact .nil
 |k::ks,[],xs,ys,_,R,g=>by
  rw[g.nil_eq];simp only[List.zip_nil_right];exact .nil
 |k::ks,e::es,xs,ys,hd,R,g=>by
  rw[(A2)]at R;obtain⟨x,xs,rfl,Z,U⟩:=R.un;obtain⟨y,ys,rfl,Y,T⟩:=g.un;exact .cons ⟨rfl,gZ Z fun t e=>hd t (by rw[<-show k=some t from e];exact .head _),Y⟩ (gB (fun t h=>hd t (.tail _ h)) U T)
theorem a7{α g:Type}:∀ {ks:List α} {es:List g},es.length=ks.length->(ks.zip es).map M0=ks
 |[],_,_=>by simp
 |k::ks,[],h=>by simp at h
 |k::ks,e::es,h=>by rw[(NT),(A2),a7 (by simpa using h)]
section
variable{X:Cx}{a b e:Expr}{es:zD}{h:yu}{fs:yt}{pos p p2 pos2 apos:Pos}
def dn{i:Nat}{x:Str}(hc:bi)(hu:IO)(hgd:Gl X "dict")(hmd:X.mg "dict" = none)(hg:Gl X "zip")(hm:X.mg "zip" = none)(ha:DA X [a,b] fs)(hN:X.N.Nodup)(hi:X.N[i]? = some x)(hx:Loc X.env.scope x) (he:starEach [.Call (.Name "zip" p2) [a,b] [] pos2] X.env=(false,eval (.Call (.Name "zip" p2) [a,b] [] pos2) X.env)::starEach [] X.env:=by rfl)(hpl:(backTo pos (starEach [] X.env)).any M0=false:=by rfl) (hs1:starEach [a,b] X.env=[ND,LJ]:=by rfl)(Z:starEach [b] X.env=[LJ]:=by rfl) (hs:swapsWith (.Call (.Name "dict" p) [.Call (.Name "zip" p2) [a,b] [] pos2] [] pos) (some (.Name x apos)) g.line X.env=pure false:=by rfl)(hf:X.fn x=true\/X.env.scope.names.lookup x=some .local:=by first|exact .inl rfl|exact .inr rfl|assumption):DS X (.Assign [.Name x apos] (.Call (.Name "dict" p) [.Call (.Name "zip" p2) [a,b] [] pos2] [] pos) g) (X3 i fs):=by
 obtain⟨ta,pa,ka⟩:=ha;refine⟨_,BM hN hi hx (uy hc hu hgd hmd hg hm pa he hpl hs1 Z) hs hf,fun δ r h G0 H0 G H σ D R q=>?_⟩;obtain⟨kvs,h1,rfl⟩:=aC.mp h;obtain⟨as,h2,T⟩:=aB.mp h1;unfold wJ at T;split at T
 .rename_i x y;obtain⟨ds,k1,h4⟩:=aB.mp T;obtain⟨es,k2,h5⟩:=aB.mp h4;obtain⟨ks,k3,h6⟩:=aB.mp h5;split at h6
  .rename_i hc;cases h6;refine ka δ _ h2 G0 H0 G H σ [] _ R fun vs G1 H1 R1 Y=>?_;obtain⟨d,R2⟩:=R1.args Y;obtain⟨u,v,rfl,du,dv⟩:=d.Mv;obtain⟨b1,a1,xs,rfl,n1,U⟩:=JE du k1;obtain⟨b2,a2,ys,rfl,m1,m2⟩:=JE dv k2;have:=keys_eq k3;subst this;obtain⟨z1,z2,z3⟩:=vI hc.1;have l1:xs.length=ks.length:=by have:=U.len;rw[(BJ)]at this;lia
   have l2:ys.length=ks.length:=by have:=m2.len;lia
   refine⟨b1,b2,a1,a2,xs,ys,ks,rfl,?_,?_,l1,l2,by lia,z1,z2,fun j k v hj Y=>?_,fun l hl=>q _ _ _ (R2.YJ ⟨_,rfl,?_,Y8 (gB z3 U m2)⟩ hl)⟩
   .have:=R2.ins _ _ n1;cases b1
    .exact this
    .exact this
   .have:=R2.ins _ _ m1;cases b2
    .exact this
    .exact this
   .obtain⟨w,w1,w2⟩:=U.get (i:=j) (d:=Cq k) (by rw[(CD),hj];rfl);rw[Y]at w1;cases w1;exact(gZ w2 fun t e=>z3 t (by rw[<-e];exact aN hj)).same R2.ins
   .rw[a7 (by rw[List.length_zip,l1,l2,Nat.min_self])];exact z1
  .cases h6
 .cases T
end
def da:PD->Option Tr
 |.tuple [x,.list g]=>(FJ x).bind fun t=>(EH g).map fun u=>Tr.pr (t,u)
 |_=>none
def kD:Tr->PD
 |.cons t (.cons u .nil)=>.tuple [.tuple (BN t),.list (BN u)]
 |_=>.none
def qa{d:PD}{k:Tr}(h:da d=some k):d=kD k/\∃t u,k=Tr.pr (t,u):=by
 unfold da at h;split at h
 .obtain⟨t,T,R⟩:=aB.mp h;obtain⟨u,g,rfl⟩:=aC.mp R;rw[Qv T,Kq g];exact⟨rfl,t,u,rfl⟩
 .cases h
def cutsOf:List PD->Option (List Tr)
 |[]=>some []
 |d::g=>(da d).bind fun k=>(cutsOf g).map fun r=>k::r
theorem a9:∀ {ds:List PD} {ks:List Tr},cutsOf ds=some ks->ds=ks.map kD/\∀k∈ks,∃t u,k=Tr.pr (t,u)
 |[],ks,h=>by cases h;exact⟨rfl,fun k R=>by cases R⟩
 |d::ds,ks,h=>by
  rw[cutsOf]at h;obtain⟨k,Y,U⟩:=aB.mp h;obtain⟨r,T,rfl⟩:=aC.mp U;obtain⟨e1,e2⟩:=qa Y;obtain⟨e3,Z⟩:=a9 T;refine⟨by rw[e1,e3];rfl,fun q g=>?_⟩;rcases aM.mp g with rfl|g
  .exact e2
  .exact Z q g
def uN(ks:zK):y7:=if ks.length<64/\∀k∈ks,k.deep<=30 then some (.list ((Tr.Eh ks).reverse.map kD)) else none
def Xy:MD
 |[.list g]=>(cutsOf g).bind uN
 |_=>none
def An.pick{G:Hp}{ds:List PD}{ys:IZ}(h:An G ds ys):∀(ix:List Nat),(∀i∈ix,i<ys.length)->An G (ix.map fun i=>ds.getD i .none) (ix.map fun i=>ys.getD i .BP)
 |[],_=>by show An G [] [];rw[An]
 |i::ix,g=>by
  have hi:=g i Fa;have Z:=h.len;rw[(A2),(A2),An];refine⟨_,_,rfl,?_,h.pick ix fun j T=>g j (.tail _ T)⟩;have R:ds[i]? = some (ds[i]' AC):=aG _;obtain⟨v,Y,U⟩:=h.get R;rw[(Er),(Er),R,Y];exact U
def tj{G:Hp}{t u:Tr}{v:V}(h:Du G (kD (Tr.pr (t,u))) v):Cv (fun _=>False) G (Tr.pr (t,u)) v:=by
 have h:Du G (.tuple [.tuple (BN t),.list (BN u)]) v:=h;rw[Du]at h;obtain⟨a,xs,rfl,Z,Y⟩:=h;obtain⟨x,y,rfl,R,g⟩:=Y.Mv;rw[Du]at R;rw[Du]at g;obtain⟨b,T,rfl,b1,b2⟩:=R;obtain⟨l,U,rfl,c1,c2⟩:=g;exact⟨a,l,t,u,_,U,rfl,rfl,id,Z,⟨b,T,rfl,b1,G5 b2⟩,c1,G5 c2⟩
section
variable{X:Cx}
def pG(K:Fg):List V->Hp->VK->Prop:=fun xs H Q=>∃(p:AD) (ys:IZ) (ks:List Tr),xs=[.ref p]/\Aw K H p ys/\yj (fun _=>False) H ks ys/\ys.length<64/\(∀k∈ks,k.deep<=30) /\
 ∀(l:AD) (ix:List Nat),H l=none->(∀i∈ix,i<ys.length)->(ix.map fun i=>ks.getD i Tr.nil)=(Tr.Eh ks).reverse->Q Rb (upd H l (.lst (ix.map fun i=>ys.getD i .BP)))
def eZ(hu:IO):FZ X XV (pG X.K):=by
 intro pins s σ H xs us Q I r h;obtain⟨p,ys,ks,rfl,hq,hc,hz,hd,q⟩:=h;obtain⟨u,rfl,r1⟩:=r.one;cases r1;obtain⟨g,U,pl,_⟩:=I.list hq;have hl:=U.length;have hk:=hc.len;have C:GS.W9 Tr.ord X.prog X.w s.heap 30 ks g:=TH.mr AC fun i x u h1 h2=>by
  have hi:=(aD.mp h2).1;have hy:=aG (l:=ys) (i:=i) AC;obtain⟨u',T,h4⟩:=U.get hy;rw[h2]at T;cases T;exact⟨(hc.at_ i x _ h1 hy).raw I h4,hd x (aN h1)⟩
 refine GS.XO Tr.nil (GS.MH pl.isList AC) C AC (Tr.Zc AC) AC fun h' D tk ix e1 hD k1 gD Y p2=>?_;have R:∀i∈ix,i<ys.length:=fun i hi=>by
  have:=bX.mp (Y.mem_iff.mp hi)
  lia
 have e:(ix.map fun i=>ks.getD i Tr.nil)=(Tr.Eh ks).reverse:=by
  refine Tr.Ow p2 ?_;have T:=Y.map fun i=>ks.getD i Tr.nil
  rwa [<-hl,hk,TH.map_getD]at T
 have Z:ix.length=g.length:=by rw[Y.length_eq,List.length_range]
 exact⟨.ref D,upd H D (.lst (ix.map fun i=>ys.getD i .BP)),I.laid (t':=tk) k1 hD ⟨by rw[(BJ),Z,sizeLine_eq];lia,_,e1,U.pick ix R,gD⟩,rfl,q D _ (I.A9.fresh hD) R e⟩
def jl(hu:IO):O2 X XV Xy:=by
 refine⟨_,eZ hu,fun xs z g G0 H0 G H σ δ ts us Q Y d k=>?_⟩;unfold Xy at g;split at g
 .rename_i ds;obtain⟨ks,h1,R⟩:=aB.mp g;obtain⟨e1,e2⟩:=a9 h1;subst e1;unfold uN at R;split at R
  .rename_i hc;cases R;obtain⟨u,rfl,du⟩:=d.Ks;rw[Du]at du;obtain⟨a,ys,rfl,n1,T⟩:=du;have hl:=T.len;rw[(BJ)]at hl;refine⟨a,ys,ks,rfl,Aw.of (Y.ins _ _ n1),⟨hl,fun i q v hq hv=>?_⟩,by lia,hc.2,fun l ix U hx he=>?_⟩
   .obtain⟨t,u,rfl⟩:=e2 q (aN hq);obtain⟨w,Z,w2⟩:=T.get (i:=i) (d:=kD (Tr.pr (t,u))) (by rw[(CD),hq];rfl);rw[hv]at Z;cases Z;exact(tj w2).same Y.ins
   .have hp:=T.pick ix hx;have:(ix.map fun i=>(ks.map kD).getD i .none)=(Tr.Eh ks).reverse.map kD:=by
     rw[<-he,(Ed)];refine ah fun i hi=>?_;have:=hx i hi;rw[(Er),(CD),List.getElem?_eq_getElem AC];show kD _=kD (ks.getD i Tr.nil);rw[(Er),List.getElem?_eq_getElem AC]
     rfl
    rw[this]at hp;exact k _ _ _ (Y.VR hp U)
  .cases R
 .cases g
end
end L2
namespace L2
open PySem PySem.Spec PyProof.Rows
def tN(R:TE):TE:=fun σ H Q=>∀p,H p=none->R σ (upd H p (dN p [])) fun v g=>g p=some (dN p [])/\Q (.ref p) (upd g p (dN p [(none,.BP,v)]))
def jW{X:Cx}{e:Expr}{te:TE}{j}{p1 pos:Pos}(hu:IO)(he:PE X e te):PE X (.Dict [some (.Constant .none j p1)] [e] pos) (tN te):=by
 intro pins s σ H Q I q;have hn:=I.A9.fresh (aJ s.heap.objs.size);have U:sysModules<s.heap.objs.size:=bW AT (I.mod.glob.keeps I.bk).lt;have g:(s.heap.objs.size==sysModules)=false:=beq_eq_false_iff_ne.mpr (Ne.symm (aI U));have I1:Inv X pins σ (upd H s.heap.objs.size (dN s.heap.objs.size [])) {s with heap:=s.heap.push { cls:=.type "dict",data:=.dict #[]} }:=I.laid (a:=s.heap.objs.size) (o:=dN s.heap.objs.size []) (t':=s.toks) (fun _ _ q=>aE _ q) Ql
  ⟨⟨g,_,#[],0,[],Heap.get?_push_size _ rfl,⟨rfl,rfl,rfl⟩,rfl,rfl,.nil⟩,⟨_,Heap.get?_push_size _ rfl⟩,fun h1 h2 ⟨a,o,es,ep,xs,q,r⟩ k=>⟨a,o,es,ep,xs,k _ q,r⟩⟩
 rw[arm_eval_Dict,zip_pairTrees [some (.Constant .none j p1)] [e] X.env pos rfl rfl,dictDisplay_pairs _ (by simp[pairTrees]) (by simp[pairTrees])];refine Wb (wpAny_standAt (Wb ?_));unfold subDict;refine Wb (wpAny_alloc ?_);refine Wb (aT ?_);rw[if_pos (by simp[pairTrees])];refine Wb (pairTrees_cons_walk (Constant_none (BX (he pins _ σ _ _ I1 (q _ hn)) fun v s2 ⟨x,H2,I2,r2,hp,q2⟩=>pairTrees_nil_walk ?_)));refine aT ?_;rw[List.forIn_cons];have D:SY H2 s.heap.objs.size [] none:=⟨hp,fun q R=>by simp at R,by simp,fun q R=>by simp at R⟩;obtain⟨_,xs,hm,pr,Y⟩:=Tx I2 D;have hx:xs=[]:=by cases pr;rfl
 subst hx;refine Wb (Wb (Wb (TH.fH (k:=none) AC rfl hm Y At fun h' T sb=>aA ?_)));obtain⟨o',es,ep,Z,g2,g3,g4⟩:=T.ob;have I3:Inv X pins σ (upd H2 s.heap.objs.size (dN s.heap.objs.size [(none,.BP,x)])) {s2 with heap:=h',toks:=s2.toks+TH.DL none}:=I2.write (x:=s.heap.objs.size) (e:=s.heap.objs.size) (o:=dN s.heap.objs.size [(none,.BP,x)]) (t':=s2.toks+TH.DL none) (by rw[hp];exact trivial) Rs (fun b w' U e=>(sb.2 b U).trans e) ⟨o',Z⟩
  ⟨⟨g,o',es,ep,_,Z,g2,g3,g4,.cons ⟨rfl,rfl,r2⟩ .nil⟩,⟨o',Z⟩,fun h1 h2 ⟨a,o,es,ep,xs,q,r⟩ k=>⟨a,o,es,ep,xs,k _ q,r⟩⟩
 show wpAny _ _ (pure PUnit.unit) _ _ _;exact aA (aA (aA (aA ⟨.ref s.heap.objs.size,_,I3,rfl,q2⟩)))
end L2
namespace L2
open PySem PySem.Spec PyProof.Rows
abbrev iK(i:Nat)(a b:Int):DF:=fun δ=>some (.nx (δ.set i (.own (.GZ [(none,.tuple [.int a,.int b])]))))
def jk{H:Hp}{p q:AD}{a b c:HO}(h:p≠q):upd (upd (upd H p a) q b) p c=upd (upd H q b) p c:=by
 funext x
 by_cases z:x=p
 .subst z;rw[AR,AR]
 .rw[AN z,AN z];by_cases y:x=q
  .subst y;rw[AR,AR]
  .rw[AN y,AN y,AN z]
def jf{X:Cx}{i:Nat}{x:Str}{a b:Int}{j1 j2 j3 cx}{p1 p2 p3 Z dp pos T:Pos}(hu:IO)(hN:X.N.Nodup)(hi:X.N[i]? = some x)(hx:Loc X.env.scope x) (hs:swapsWith (.Dict [some (.Constant .none j1 p1)] [.Tuple [.Constant (.int a) j2 p2,.Constant (.int b) j3 p3] cx Z] dp) (some (.Name x T)) pos.line X.env=pure false:=by rfl)(hf:X.fn x=true\/X.env.scope.names.lookup x=some .local:=by first|exact .inl rfl|exact .inr rfl|assumption):DS X (.Assign [.Name x T] (.Dict [some (.Constant .none j1 p1)] [.Tuple [.Constant (.int a) j2 p2,.Constant (.int b) j3 p3] cx Z] dp) pos) (iK i a b) :=
 ⟨_,BM hN hi hx (jW hu (Kg (AM Au (AM Au Ad)))) hs hf,fun δ r h G0 H0 G H σ D R q=>by
  cases h;refine fun p hp=>⟨by show(2:Nat)<=sizeLine;rw[sizeLine_eq];decide,fun l Y=>?_⟩;have g:p≠l:=fun e=>by subst e;rw[AR]at Y;cases Y
  have U:H l=none:=by rwa [AN (Ne.symm g)]at Y
  refine⟨by rw[AN g,AR],?_⟩;rw[jk g];have R1:=R.eL (xs:=[.int a,.int b]) (vs:=[.int a,.int b]) (by rw[An];exact⟨_,_,rfl,by rw[Du],by rw[An];exact⟨_,_,rfl,by rw[Du],by rw[An]⟩⟩) U;have dv:=R1.B5 _ Fa;exact q _ _ _ (R1.drop.YJ ⟨[(none,.BP,.ref l)],rfl,by simp,Y8 (.cons ⟨rfl,rfl,dv⟩ .nil)⟩ (by rw[AN g];exact hp))⟩
def iT{G0 H0 G H:Hp}{σ:St}{δ:Dv}{ts:Qi}{i:Nat}{kvs:List KD}(R:GM)(hi:δ[i]? = some (.own (.GZ kvs)))(hal:alone i δ=true):∃G1:Hp,Rw G1 H0 G1 H σ (δ.set i (.d (Bh kvs))) ts/\∀x v Y H',OE x=true->Rw G1 H0 Y H' σ (δ.set i (.d (Bh kvs))) ((x,v)::ts)->∃G2,Rw G0 H0 G2 H' σ δ ((x,v)::ts):=by
 have hlt:i<δ.length:=(aD.mp hi).1;obtain⟨a,o,k1,k2,k3,k4,k5,R1⟩:=R.letGo (x:=Bh kvs) hi fun a o h=>fP h;obtain⟨r,rfl,k6,k7⟩:=k5;refine⟨upd G a (dN a r),R1.base,fun x v Y H' hnd R2=>⟨less Y a,?_⟩⟩;have ha:Y a=some (dN a r):=R2.ext _ _ AR;have Z:AL G (less Y a):=fun b u g=>by
  have:b≠a:=fun z=>by subst z;rw[k2]at g;cases g
  rw[J8 this];exact R2.ext _ _ (by rw[AN this];exact g)
 have of:∀b u,less Y a b=some u->b≠a/\Y b=some u:=fun b u g=>by
  by_cases z:b=a
  .subst z;rw[Um]at g;cases g
  .rw[J8 z]at g;exact⟨z,g⟩
 refine⟨R.ext.trans Z,fun b u g=>?_,fun b u g=>R2.ins _ _ (of b u g).2,R2.keep,R.len,fun j y T=>?_,fun j c T=>?_,R.apart,fun w hw=>?_⟩
 .obtain⟨nb,g⟩:=of b u g;rcases R2.new b u g with z|z|z
  .rw[AN nb]at z;exact R.new _ _ z
  .exact .inr (.inl z)
  .exact .inr (.inr z)
 .obtain⟨w,m1,m2⟩:=R.dat j y T;exact⟨w,m1,m2.same Z⟩
 .by_cases z:i=j
  .subst z;rw[hi]at T;cases T;exact⟨a,dN a r,k1,Um,k3,R2.ins _ _ ha,r,rfl,k6,HZ.same Z k7⟩
  .obtain⟨b,us,m1,m2,m3,m4,m5⟩:=R2.own j c (by rw[List.getElem?_set_ne z];exact T);refine⟨b,us,m1,?_,m3,m4,?_⟩
   .by_cases w:b=a
    .subst w;exact Um
    .rw[J8 w];exact m2
   .have hjl:j<δ.length:=(aD.mp T).1;have hm:L.own c∈δ.set i .no:=ag.mpr ⟨j,by rw[List.getElem?_set_ne z];exact T⟩;have U:=aL.mp hal _ hm;cases c with
    |lst xs=>
     obtain⟨ys,e1,e2⟩:=m5;exact⟨ys,e1,OH ha U e2⟩
    |la xs=>cases U
    |GZ xs=>cases U
 .rcases aM.mp hw with rfl|hw
  .exact cq ha hnd (R2.B5 _ Fa)
  .exact(R.B5 w hw).same Z
section
variable{X:Cx}{x:Str}{px pos:Pos}{iter elt:Expr}{ifs:zD}{scope}{fs:yt}{tif:yw}{f:yu}
def ZR{i:Nat}{z:Str}{pz g:Pos}(l:Nat)(N:zC)(ix:Nat)(fr:zO)(hN:X.N.Nodup)(hy:X.N[i]? = some z)(Y:X.env.scope.names.lookup z=some .local)(hi:DI X (.Name x px) iter fs)(Z:∀cl C s₀ H₀ fp,Zm Cl ifs tif)(he:∀cl C s₀ H₀ fp,DE Cl elt f) (h1:C7 scope N x ix=true:=by decide +kernel)(h2:X.calm=true:=by rfl)(h3:HI N X.N scope X.env.scope fr 0=true:=by rfl)(h4:fr.length=N.length:=by rfl)(h5:freeOk X.env.scope scope.names=true:=by rfl) (U:swapsWith EQ (some (.Name z pz)) g.line X.env=pure true:=by rfl) (hs:∀x,foldedSetIterable iter X.env x=pure x:=by intro _;rfl):DS X (.Assign [.Name z pz] EQ g) (fun δ=>(Wr l (Hy (Cm ix) tif f fr fs) δ).map fun y=>.nx (δ.set i (.d y))):=by
 obtain⟨wi,pi,ki⟩:=hi;refine⟨_,NJ N ix fr hN hy Y pi Z (fun cl C s₀ H₀ fp=>(he cl C s₀ H₀ fp).pe) h1 h2 h3 h4 h5 U hs,fun δ r h G0 H0 G H σ D R q=>?_⟩;obtain⟨y,m1,rfl⟩:=aC.mp h;obtain⟨kvs,m2,m3⟩:=aB.mp m1;obtain⟨w,m4,T⟩:=aB.mp m3;split at T
 .rename_i hc;cases T;obtain⟨G1,R1,back⟩:=iT R (mQ m2) hc.2;exact Vv ki m4 R1 fun v G' H' R'=>by
   obtain⟨G2,R2⟩:=back _ _ _ _ hc.1 R';exact q _ _ _ R2.IE
 .cases T
end
end L2
namespace L2
open PySem PySem.Spec PyProof.Rows
def lC:PD->PD->Option PD:=fun x y=>(FJ x).bind fun t=>(FJ y).bind fun u=>if t.deep<=60 then some (.bool (Tr.lt u t)) else none
def lM{G:Hp}{x:PD}{t:Tr}{v:V}(h:FJ x=some t)(d:Du G x v):Tv G t v:=by
 cases x with
 |tuple T=>
  rw[FJ]at h;have:=Kq h;subst this;rw[Du]at d;obtain⟨a,xs,rfl,R,g⟩:=d;exact⟨a,xs,rfl,R,G5 g⟩
 |_=>simp[FJ]at h
def ma{X:Cx}(U:IO):Fb X (compareOp .Gt) lC:=by
 refine⟨_,nP U,fun x y z g G0 H0 G H σ δ ts u v Q R du dv k=>?_⟩;obtain⟨t,Z,g⟩:=aB.mp g;obtain⟨T,Y,g⟩:=aB.mp g;split at g
 .rename_i hd;cases g;exact⟨t,T,(lM Z du).same R.ins,(lM Y dv).same R.ins,hd,k _ _ _ (R.put L1)⟩
 .cases g
end L2
namespace Q95
open PySem L2
abbrev QB:Stmt:=top 10
abbrev OX:Stmt:=top 11
abbrev Ff:Stmt:=top 12
abbrev Ig:Stmt:=top 13
abbrev Fe:Stmt:=top 14
abbrev DK:Stmt:=top 15
abbrev Il:Stmt:=top 16
abbrev Hh:Stmt:=top 17
abbrev KY:Stmt:=top 19
abbrev K8:Stmt:=top 20
abbrev Gy:Stmt:=top 22
abbrev JY:Stmt:=top 23
abbrev K3:Stmt:=top 24
abbrev Fp:Stmt:=top 25
abbrev PC:Stmt:=top 26
abbrev EV:Stmt:=top 27
abbrev HU:Stmt:=top 28
abbrev Ja:Stmt:=top 29
abbrev LX:Stmt:=top 30
abbrev OT:Stmt:=top 33
abbrev IL:Stmt:=top 34
abbrev Oy:Stmt:=top 35
abbrev NR:Stmt:=top 37
abbrev J3:Stmt:=top 38
abbrev Io:Stmt:=top 41
abbrev JC:Stmt:=top 42
abbrev ED:Stmt:=top 43
abbrev Gp:Stmt:=top 44
abbrev J7:Stmt:=top 45
abbrev JH:Stmt:=top 46
abbrev PJ:Stmt:=top 47
abbrev QU:Stmt:=top 48
abbrev HJ:Stmt:=top 50
abbrev IP:Stmt:=top 51
abbrev F4:Stmt:=top 52
abbrev HL:Stmt:=top 53
abbrev KW:Stmt:=top 54
abbrev MK:Stmt:=top 55
abbrev Ie:Stmt:=top 57
abbrev J9:Stmt:=top 58
abbrev Kd:Stmt:=top 60
abbrev IU:Stmt:=top 61
abbrev PH:Stmt:=top 62
abbrev Oj:Stmt:=top 63
abbrev NM:Stmt:=top 64
abbrev Ky:Stmt:=top 65
abbrev Me:Stmt:=top 66
abbrev MZ:Stmt:=top 67
abbrev J6:Stmt:=top 68
abbrev MV:Stmt:=top 69
abbrev Ls:Stmt:=top 70
abbrev Lu:Stmt:=top 71
abbrev PF:Stmt:=top 73
abbrev l8:Stmt:=top 74
def eU:Sp:=fun vs H Q _=>∃a b,vs=[.int a,.int b]/\Q (.int (FM.gi a b)) H
def Sy:Sp:=fun vs H Q _=>∃t b m,vs=[.int t,.int b]/\b≠0/\m<=9000/\b.natAbs<2^m/\∀l H',AL H H'->H' l=some (.tup (Kv (Rat.divInt t b)))->Q Rb H'
def rA(K:Fg)(op:Rat->Rat->Rat)(ok:Rat->Prop):Sp:=fun vs H Q _=>∃v w p q n,vs=[v,w]/\Rt K H p v/\Rt K H q w/\FM.Fits p n/\FM.Fits q n/\n<=4000/\ok q /\
 ∀l H',AL H H'->H' l=some (.tup (Kv (op p q)))->Q Rb H'
section
variable{P:F0b}{w:F0c}{K:Fg}{mg:y0}{base:Heap}{f g:AD}{fd gd:F0a}
def Pp:Ac ["one","other","greater","lesser","rest"] JJ (AO EV):=CG
def wI(σ:St):Nat:=match σ[3]? with|some (some (V.int l))=>l.natAbs|_=>0
def Pn(F:Fn K mg "greatest_divisor" EV JJ f fd)(Y:mg "abs" = none):AK P w K mg base Af 1 f fd JJ eU:=by
 have sc:=Pp;refine F.F.ok (k:=0) sc KT IS
 .obtain⟨a,b,rfl,_⟩:=h
  rfl
 obtain⟨a,b,rfl,q⟩:=h;refine⟨_,(Ae (BM (i:=2) sc.nd rfl As (EA Oo rfl Y PyProof.Rows.boot_abs (AM (pv 0) Ad)))
 (Ae (BM (i:=3) sc.nd rfl As (EA Oo rfl Y PyProof.Rows.boot_abs (AM kS Ad)))
 (Ae (SV aR (EY uZ (pv 3) Au Tl)
  (Ae (BM (i:=4) sc.nd rfl As (BW Nf (pv 2) (pv 3)))
  (Ae (BM (i:=2) sc.nd rfl As (pv 3))
  (BE (BM (i:=3) sc.nd rfl As (pv 4))))))
 (BE (Cp (pv 2)))))),?_⟩
 refine⟨_,rfl,_,rfl,_,rfl,_,rfl,?_⟩;refine SI (fun σ H'=>∃g l r,σ=[some (.int a),some (.int b),some (.int g),some (.int l),r]/\H=H'/\Int.gcd g l=Int.gcd a b/\0<=g/\0<=l) (fun σ _=>wI σ) ?_ ?_ ?_
 .exact⟨_,_,_,rfl,rfl,FM.Z7 a b,FM.abs_nonneg a,FM.abs_nonneg b⟩
 .rintro σ H' ⟨g,l,r,rfl,rfl,T,h0,U⟩;refine⟨_,rfl,rfl,_,rfl,MI (fun c=>?_) (fun c=>?_)⟩
  .have R:l≠0:=fun z=>by subst z;simp at c
   refine⟨_,rfl,_,rfl,_,_,rfl,rfl,R,_,rfl,_,rfl,⟨_,_,_,rfl,rfl,?_,U,FM.fmod_nonneg R U⟩,?_⟩
   .rw[FM.XQ];exact T
   .exact FM.Vi g l R
  .have R:l=0:=by simpa using c
   subst R;refine⟨_,rfl,?_⟩;rw[FM.fc T h0];exact q
 .exact fun σ H Q Q' Z ⟨v,e,s,k,e2,q⟩=>⟨v,e,s,k,e2,Z _ _ q⟩
def VT:Ac ["top","bottom","shared"] ["top","bottom"] (AO Gy):=CG
def VQ(F:Fn K mg "fraction_of" Gy ["top","bottom"] f fd)(BZ:Fn K mg "greatest_divisor" EV JJ g gd) (Cj:AK P w K mg base Af 1 g gd JJ eU):AK P w K mg base Af 2 f fd ["top","bottom"] Sy:=by
 have sc:=VT;refine F.F.ok (k:=1) sc KT IS
 .obtain⟨t,b,m,rfl,_⟩:=h
  rfl
 obtain⟨t,b,m,rfl,T,hm,Z,q⟩:=h;refine⟨_,(Ae (JR (EY Wx kS Au Tl)
  (BE XD)
  GI)
 (Ae (BM (i:=2) sc.nd rfl As (Dq BZ Cj hr rfl (AM (pv 0) (AM kS Ad))))
 (Ae (JR (EY dY kS Au Tl)
  (BE (BM (i:=2) sc.nd rfl As (ec Yj (pv 2))))
  GI)
 (BE (Cp (Kg (AM (BW Ip (pv 0) (pv 2)) (AM (BW Ip kS (pv 2)) Ad)))))))),?_⟩
 refine⟨_,rfl,rfl,_,rfl,MI (fun c=>absurd c (by simpa using T)) (fun _=>?_)⟩;refine⟨_,rfl,_,rfl,t,b,rfl,?_⟩
 try dsimp only[F5]
 refine R8 (fun R H'=>R=[some (.int t),some (.int b),some (.int (FM.gs t b))]/\H=H') (fun nx hn=>?_) ?_
 .refine⟨_,rfl,_,_,rfl,rfl,_,rfl,MI (fun c=>?_) (fun c=>?_)⟩
  .have U:b<0:=aP c;refine⟨_,rfl,_,rfl,hn _ _ ⟨?_,rfl⟩⟩;unfold FM.gs;rw[if_pos U]
   rfl
  .have U:¬b<0:=bR (bV.mpr c);refine hn _ _ ⟨?_,rfl⟩;unfold FM.gs;rw[if_neg U]
   rfl
 .rintro R H' ⟨rfl,rfl⟩;have h0:FM.gs t b≠0:=FM.lH T;have Y:(FM.gs t b).natAbs<2^m:=aW (FM.lG T) Z;refine⟨_,rfl,_,rfl,_,_,rfl,rfl,⟨h0,m,hm,Y⟩,_,rfl,_,rfl,_,_,rfl,rfl,⟨h0,m,hm,Y⟩,RE,fun p hp=>?_⟩;refine q p _ (Ag hp _) ?_;rw[AR];show some (HO.tup [V.int (t.fdiv (FM.gs t b)),V.int (b.fdiv (FM.gs t b))])=_;rw[FM.ZD T,FM.YG T]
  rfl
def WZ:Ac JJ JJ (AO JY):=CG
def WV(F:Fn K mg "frac_times" JY JJ f fd)(Cn:Fn K mg "fraction_of" Gy ["top","bottom"] g gd) (G7:AK P w K mg base Af 2 g gd ["top","bottom"] Sy):AK P w K mg base Af 3 f fd JJ (rA K (fun p q=>p*q) (fun _=>True)):=by
 have sc:=WZ;refine F.F.ok (k:=2) sc KT (fun cdv A outer s H vs Q E Y h=>?_)
 .obtain⟨v,w,p,q,n,rfl,_⟩:=h
  rfl
 obtain⟨v,w,p,q,n,rfl,⟨a,rfl,sp⟩,⟨b,rfl,sq⟩,T,R,hn,A9,k⟩:=h;refine⟨_,(BE (Cp (Dq Cn G7 Y rfl (AM (BW HA (Fo IT (pv 0) Au DR) (Fo IT kS Au DR)) (AM (BW HA (Fo IT (pv 0) Au DR) (Fo IT kS Au DR)) Ad))))),?_⟩;refine⟨_,rfl,_,_,_,_,rfl,rfl,sp,rfl,_,rfl,_,_,_,_,rfl,rfl,sq,rfl,_,_,rfl,rfl,SW T.1 R.1 AC,_,rfl,_,_,_,_,rfl,rfl,sp,rfl,_,rfl,_,_,_,_,rfl,rfl,sq,rfl,_,_,rfl,rfl,SW T.d R.d AC,_,_,n+n,rfl,FM.Nt p q,by lia,FM.dd T R,fun l H' Z U=>?_⟩;exact k l H' Z (by rw[FM.Sh p q]at U;exact U)
end
def lj:Sp:=fun vs H Q _=>∃(a:AD) (bs:List Int) (k:Nat),vs=[.ref a]/\H a=some (.lst (bs.map V.int))/\(∀b∈bs,1<=b/\b.natAbs<2^k)/\k*bs.length<=4000 /\
 ∀c:Int,1<=c->c.natAbs<2^(k*bs.length+1)->(∀b∈bs,b ∣ c)->Q (.int c) H
def S4{c b:Int}(Y:1<=c)(Z:1<=b):1<=c.fdiv (FM.gi c b)*b/\c ∣ c.fdiv (FM.gi c b)*b/\b ∣ c.fdiv (FM.gi c b)*b/\(c.fdiv (FM.gi c b)).natAbs<=c.natAbs:=by
 have U:0<FM.gi c b:=FM.N9 AC;obtain⟨q,T⟩:=FM.NS c b;obtain⟨r,g⟩:=FM.QE c b;have e:=FM.Gj (Int.ne_of_gt U) T;refine⟨?_,?_,Int.dvd_mul_left _ _,FM.Fh _ _⟩
 .rw[e];have R:0<q:=by
   rcases Int.lt_or_le 0 q with h|h
   .exact h
   .have:=Int.mul_nonpos_of_nonneg_of_nonpos (Int.le_of_lt U) h
    lia
  exact Int.mul_pos R AC
 .rw[e];refine⟨r,?_⟩;rw[g]
  conv=>rhs;rw[T]
  rw[<-g,Int.mul_comm (FM.gi c b) q,Int.mul_assoc,Int.mul_comm (FM.gi c b) r]
  conv=>lhs;rw[g]
  rw[Int.mul_comm (FM.gi c b) r]
def lT:Sp:=fun vs H Q _=>∃(a:AD) (xs:IZ) (ps:List (Int×Int)) (k:Nat),vs=[.ref a]/\H a=some KB/\xs.length=ps.length/\ps.length<=1000/\(∀(j:Nat) x p,xs[j]? = some x->ps[j]? = some p->∃c,x=.ref c/\H c=some (.tup [.int p.1,.int p.2])) /\
 (∀p∈ps,1<=p.2/\p.1.natAbs<2^k/\p.2.natAbs<2^k)/\k*ps.length<=4000/\∀l H',AL H H'->H' l=some (.tup (Kv (ps.map fun p=>Rat.divInt p.1 p.2).sum))->Q Rb H'
def div_add(x y:Int){c:Int}(g:c≠0):Rat.divInt (x+y) c=Rat.divInt x c+Rat.divInt y c:=by
 rw[Rat.divInt_add_divInt _ _ g g,<-Int.add_mul,Rat.divInt_mul_right g]
def div_one{t b c:Int}(R:b≠0)(g:c≠0)(h:b ∣ c):Rat.divInt (t*c.fdiv b) c=Rat.divInt t b:=by
 obtain⟨q,rfl⟩:=h;rw[FM.Gj R rfl,Rat.divInt_mul_right (fun z=>g (by rw[z,Int.mul_zero]))]
theorem b0{c:Int}(g:c≠0):∀ {ps:List (Int×Int)},(∀p∈ps,p.2≠0/\p.2 ∣ c)->Rat.divInt (ps.map fun p=>p.1*c.fdiv p.2).sum c=(ps.map fun p=>Rat.divInt p.1 p.2).sum
 |[],_=>by simp
 |p::ps,h=>by
  obtain⟨U,T⟩:=h p aX;rw[(A2),(K1),(A2),(K1),div_add _ _ g,div_one U g T,b0 g fun q R=>h q (aS _ R)]
def dJ:Sp:=fun vs H Q _=>∃(b:Int) (p k:Nat),vs=[.int b,.int p]/\b.natAbs<2^k/\k*p<=4000/\Q (.int (b^p)) H
def Ta{b:Int}{k e p:Nat}(T:b.natAbs<2^k)(R:e<=p):(b^e).natAbs<2^(k*p+1):=by
 rw[Int.natAbs_pow];have g:b.natAbs^e<=(2^k)^e:=Nat.pow_le_pow_left (bD T) e;rw[<-Nat.pow_mul]at g;exact aW g (Nat.pow_lt_pow_right AT (Nat.lt_succ_of_le (bE k R)))
def yZ(σ:St):Nat:=match σ[4]? with|some (some (V.int l))=>l.natAbs|_=>0
section
variable{P:F0b}{w:F0c}{K:Fg}{mg:y0}{base:Heap}{f g1 g2:AD}{fd gd1 gd2:F0a}
def R9:Ac ["bottoms","common","bottom"] ["bottoms"] (AO HU):=CG
def WS:Ac ["some","bottom"] ["some"] (AO Ja):=CG
def Wc(F:Fn K mg "frac_total" Ja ["some"] f fd)(Ct:Fn K mg "common_bottom" HU ["bottoms"] g1 gd1)(Cn:Fn K mg "fraction_of" Gy ["top","bottom"] g2 gd2) (JX:AK P w K mg base Af 2 g1 gd1 ["bottoms"] lj)(G7:AK P w K mg base Af 2 g2 gd2 ["top","bottom"] Sy)(FN:mg "sum" = none):AK P w K mg base Af 3 f fd ["some"] lT:=by
 have sc:=WS;refine F.F.ok (k:=2) sc KT IS
 .obtain⟨a,xs,ps,k,rfl,_⟩:=h
  rfl
 obtain⟨a,xs,ps,k,rfl,ha,hl,h1000,hx,hp,hk,q⟩:=h;have hk1:ps≠[]->k<=4000:=fun hne=>by
  have:k*1<=k*ps.length:=bE k (List.length_pos_iff.mpr hne)
  lia
 have at_:∀(i:Nat) (hi:i<xs.length),∃(p:Int×Int) (c:AD),ps[i]? = some p/\xs[i]=.ref c/\H c=some (.tup [.int p.1,.int p.2]):=fun i hi=>by
  have hpi:ps[i]? = some (ps[i]' AC):=aG _;obtain⟨c,Z,h2⟩:=hx i xs[i] _ (aG hi) hpi;exact⟨_,c,hpi,Z,h2⟩
 refine⟨_,(Ae (BM (i:=1) sc.nd rfl (Or.inr rfl) (Dq Ct JX hr rfl (AM (HY [".0","part"] 1 [none,none] (GD (pv 0)) ZB (fun _ _ _ _ _=>(Fo Jw kS Au DR))) Ad)))
 (BE (Cp (Dq Cn G7 hr rfl (AM (EA (O4 rfl) rfl FN bj (AM (HY [".0","part","bottom"] 1 [none,none,some 1] (GD (pv 0)) ZB (fun _ _ _ _ _=>(BW HA (Fo Jw kS Au DR) (BW Ip (pv 2) (Fo Jw kS Au DR))))) Ad)) (AM kS Ad)))))),?_⟩
 refine⟨_,rfl,a,rfl,⟨_,Aw.of ha⟩,fun D hD=>Hv (n:=xs.length) (fun i ys H'=>AL H H'/\ys=((ps.take i).map (·.2)).map V.int) ?_ ?_ ?_⟩
 .exact⟨Ag hD _,rfl⟩
 .rintro i ys H0 hi ⟨T,rfl⟩ Y;obtain⟨p,c,Z,h2,h3⟩:=at_ i hi;refine⟨⟨xs,xs[i],Aw.of (T _ _ ha),by simp[hi]⟩,?_,fun x H' y=>?_⟩
  .rw[(BJ),(BJ),(II)];exact aW (Nat.min_le_left _ _) (aH (show i<1000 by lia) KF)
  .obtain⟨rfl,y⟩:=y;have g:=y xs (Aw.of (T _ _ ha));rw[List.getElem?_eq_getElem hi,h2]at g;cases g;unfold Jh;refine L3 ⟨_,rfl,_,_,_,_,rfl,rfl,BK.of (T _ _ h3),rfl,Y,FW hi ⟨fun b o z=>?_,?_⟩⟩
   .rw[AN (Am z hD)];exact T _ _ z
   .rw[List.take_succ,Z];simp
 rintro ys H0 ⟨T,rfl⟩ Y;refine⟨⟨xs,Aw.of (T _ _ ha),Nat.le_refl _⟩,?_⟩;rw[hl,(JB)]at Y;refine⟨D,ps.map (·.2),k,rfl,Y,fun b hb=>?_,by rw[(BJ)];exact hk,fun c c1 c2 c3=>?_⟩
 .obtain⟨p,R,rfl⟩:=aQ.mp hb;exact⟨(hp p R).1,(hp p R).2.2⟩
 rw[(BJ)]at c2;refine⟨_,rfl,a,rfl,⟨_,Aw.of (T _ _ ha)⟩,fun D2 hD2=>Hv (n:=xs.length) (fun i ys H'=>AL H0 H'/\ys=((ps.take i).map fun p=>p.1*c.fdiv p.2).map V.int) ?_ ?_ ?_⟩
 .exact⟨Ag hD2 _,rfl⟩
 .rintro i ys H1 hi ⟨e1,rfl⟩ U;have E1:=T.trans e1;obtain⟨p,d,Z,h2,h3⟩:=at_ i hi;have hpm:=aN Z;have hkk:=hk1 (List.ne_nil_of_mem hpm);obtain⟨p1,p2,p3⟩:=hp p hpm;refine⟨⟨xs,xs[i],Aw.of (E1 _ _ ha),by simp[hi]⟩,?_,fun x H' y=>?_⟩
  .rw[(BJ),(BJ),(II)];exact aW (Nat.min_le_left _ _) (aH (show i<1000 by lia) KF)
  .obtain⟨rfl,y⟩:=y;have g:=y xs (Aw.of (E1 _ _ ha));rw[List.getElem?_eq_getElem hi,h2]at g;cases g;unfold Jh;refine L3 ⟨_,rfl,_,_,_,_,rfl,rfl,BK.of (E1 _ _ h3),rfl,_,rfl,_,rfl,_,_,_,_,rfl,rfl,BK.of (E1 _ _ h3),rfl,_,_,rfl,rfl,⟨by lia,k,by lia,p3⟩,_,_,rfl,rfl,SW p2 (aW (FM.Fh c p.2) c2) AC,U,FW hi ⟨fun b o z=>?_,?_⟩⟩
   .rw[AN (Am z hD2)];exact e1 _ _ z
   .rw[List.take_succ,Z];simp
 rintro ys H1 ⟨e1,rfl⟩ U;refine⟨⟨xs,Aw.of ((T.trans e1) _ _ ha),Nat.le_refl _⟩,?_⟩;rw[hl,(JB)]at U;refine⟨D2,_,rfl,Aw.of U,_,rfl,_,c,k*ps.length+1,rfl,by lia,by lia,c2,fun l H' e2 hl'=>?_⟩;refine q l H' (T.trans (e1.trans e2)) ?_;rw[b0 AC fun p R=>⟨by have:=(hp p R).1;lia,c3 _ (au R)⟩]at hl';exact hl'
def ZX:Ac ["base","power","product","square","left"] ["base","power"] (AO LX):=CG
def ZM(F:Fn K mg "power_of" LX ["base","power"] f fd):AK P w K mg base Af 1 f fd ["base","power"] dJ:=by
 have sc:=ZX;refine F.F.ok (k:=0) sc KT IS
 .obtain⟨b,p,k,rfl,_⟩:=h
  rfl
 obtain⟨b,p,k,rfl,hb,hk,q⟩:=h;refine⟨_,(Ae (BM (i:=2) sc.nd rfl As Au)
 (Ae (BM (i:=3) sc.nd rfl As (pv 0))
 (Ae (BM (i:=4) sc.nd rfl As kS)
 (Ae (SV aR (EY UQ (pv 4) Au Tl)
  (Ae (JR (EY Wx (BW P5 (pv 4) Au) Au Tl)
   (BE (BM (i:=2) sc.nd rfl As (BW HA (pv 2) (pv 3))))
   GI)
  (Ae (BM (i:=4) sc.nd rfl As (BW Ht (pv 4) Au))
  (BE (JR (EY UQ (pv 4) Au Tl)
   (BE (BM (i:=3) sc.nd rfl As (BW HA (pv 3) (pv 3))))
   GI)))))
 (BE (Cp (pv 2))))))),?_⟩
 refine⟨_,rfl,_,rfl,?_⟩;refine SI (fun σ H'=>∃e f l:Nat,σ=[some (.int b),some (.int p),some (.int (b^e)),some (.int (b^f)),some (.int l)]/\H=H'/\e+f*l=p) (fun σ _=>yZ σ) ?_ ?_ ?_
 .refine⟨0,1,p,?_,rfl,by lia⟩;rw[Int.pow_zero,Int.pow_succ,Int.pow_zero,Int.one_mul]
  rfl
 .rintro σ H' ⟨e,f,l,rfl,rfl,Z⟩;refine⟨_,rfl,_,_,rfl,rfl,_,rfl,MI (fun c=>?_) (fun c=>?_)⟩
  .have hl:0<l:=by have:=aP c;lia
   have g:f<=p:=by
    have:f*1<=f*l:=bE f hl
    lia
   try dsimp only[F5]
   refine R8 (fun U H'=>∃T:Nat,U=[some (.int b),some (.int p),some (.int (b^T)),some (.int (b^f)),some (.int l)]/\H=H'/\T+f*(2*(l / 2))=p) (fun nx Y=>?_) ?_
   .refine⟨_,rfl,_,_,rfl,rfl,(by show(0:Int)<2;decide),rfl,_,rfl,MI (fun c=>?_) (fun c=>?_)⟩
    .have hodd:l % 2=1:=by
      have:((l:Int) % 2)=1:=by simpa using c
      lia
     refine⟨_,rfl,_,rfl,_,_,rfl,rfl,SW (Ta hb (show e<=p by lia)) (Ta hb g) AC,Y _ _ ⟨e+f,?_,rfl,?_⟩⟩
     .show [some (V.int b),some (V.int p),some (V.int (b^e*b^f)),some (V.int (b^f)),some (V.int l)]=_;rw[<-Int.pow_add]
     .have:l=2*(l / 2)+1:=by lia
      rw[<-Z]
      conv=>rhs;rw[this,Nat.mul_add,Nat.mul_one]
      lia
    .have hev:l % 2=0:=by
      have:¬((l:Int) % 2)=1:=by simpa using c
      lia
     refine Y _ _ ⟨e,rfl,rfl,?_⟩;rw[show 2*(l / 2)=l by lia];exact Z
   .rintro U _ ⟨T,rfl,rfl,R⟩;refine⟨_,rfl,_,_,rfl,rfl,⟨by decide,by decide⟩,?_⟩;have el:((l:Int) / 2)=((l / 2:Nat):Int):=by lia
    refine⟨_,rfl,_,_,rfl,rfl,_,rfl,MI (fun c=>?_) (fun c=>?_)⟩
    .refine⟨_,rfl,_,rfl,_,_,rfl,rfl,SW (Ta hb g) (Ta hb g) AC,⟨T,f+f,l / 2,?_,rfl,?_⟩,?_⟩
     .show [some (V.int b),some (V.int p),some (V.int (b^T)),some (V.int (b^f*b^f)),some (V.int ((l:Int) / 2))]=_;rw[el,<-Int.pow_add]
     .rw[<-R,<-Nat.two_mul,Nat.mul_assoc,Nat.mul_left_comm]
     .show((l:Int) / 2).natAbs<((l:Nat):Int).natAbs
      lia
    .refine⟨⟨T,f,l / 2,?_,rfl,?_⟩,?_⟩
     .show [some (V.int b),some (V.int p),some (V.int (b^T)),some (V.int (b^f)),some (V.int ((l:Int) / 2))]=_;rw[el]
     .have:l / 2=0:=by have:=bR (bV.mpr c);lia
      rw[this]at R ⊢
      simpa using R
     .show((l:Int) / 2).natAbs<((l:Nat):Int).natAbs
      lia
  .have hl:l=0:=by have:=bR (bV.mpr c);lia
   subst hl;rw[Nat.mul_zero,Nat.add_zero]at Z;subst Z;exact⟨_,rfl,q⟩
 .exact fun σ H Q Q' hq ⟨v,e,s,k,e2,e3,e4,q1,q2⟩=>⟨v,e,s,k,e2,e3,e4,q1,hq _ _ q2⟩
end
def DU(H:Hp)(d:PD)(v:V):Prop:=∃N:Nat,∀l,N<=l->Dt l H d v
def CK(H:Hp)(ds:yx)(xs:zJ):Prop:=∃N:Nat,∀l,N<=l->BR l H ds xs
def DU.same{H H':Hp}{d:PD}{v:V}(h:DU H d v)(e:AL H H'):DU H' d v:=let⟨N,k⟩:=h;⟨N,fun l g=>(k l g).same e⟩
def CK.same{H H':Hp}{d:yx}{v:zJ}(h:CK H d v)(e:AL H H'):CK H' d v:=let⟨N,k⟩:=h;⟨N,fun l g=>(k l g).same e⟩
def DU.int{H:Hp}{i:Int}:DU H (.int i) (.int i):=⟨0,fun _ _=>.int⟩
def DU.bool{H:Hp}{i:Bool}:DU H (.bool i) (.bl i):=⟨0,fun _ _=>.bool⟩
def DU.BP{H:Hp}:DU H .none .BP:=⟨0,fun _ _=>.BP⟩
def DU.str{H:Hp}{x:Str}:DU H (.str x) (.str x):=⟨0,fun _ _=>.str⟩
def CK.nil{H:Hp}:CK H [] []:=⟨0,fun _ _=>.nil⟩
def CK.cons{H:Hp}{d:PD}{ds:yx}{x:V}{xs:zJ}(h:DU H d x)(k:CK H ds xs):CK H (d::ds) (x::xs) :=
 let⟨N,a⟩:=h;let⟨M,b⟩:=k;⟨max N M,fun l g=>.cons (a l AC) (b l AC)⟩
def CK.len{H:Hp}{ds:yx}{xs:zJ}(h:CK H ds xs):xs.length=ds.length:=let⟨N,a⟩:=h;(a N Ql).len
def CK.get{H:Hp}{ds:yx}{xs:zJ}{i:Nat}{d:PD}(h:CK H ds xs)(e:ds[i]? = some d):∃v,xs[i]? = some v/\DU H d v:=by
 have g:=h.len;have hi:i<xs.length:=by rw[g];exact(aD.mp e).1
 have R:xs[i]? = some xs[i]:=by simp[hi]
 obtain⟨N,a⟩:=h;refine⟨xs[i],R,N,fun l g=>?_⟩;obtain⟨Y,T,U⟩:=(a l g).get R;rw[e]at T;cases T;exact U
def DU.lst{H:Hp}{a:AD}{ds:yx}{xs:zJ}(h:H a=some KB)(k:CK H ds xs):DU H (.list ds) Hf :=
 let⟨N,b⟩:=k;⟨max N (a+1),fun l g=>.lst (aI (show a<l from aH (bO a) (aU (Nat.le_max_right _ _) g))) h (b l AC)⟩
def DU.tup{H:Hp}{a:AD}{ds:yx}{xs:zJ}(h:H a=some Ke)(k:CK H ds xs):DU H (.tuple ds) Hf :=
 let⟨N,b⟩:=k;⟨max N (a+1),fun l g=>.tup (aI (show a<l from aH (bO a) (aU (Nat.le_max_right _ _) g))) h (b l AC)⟩
def DU.i9{H:Hp}{ds:yx}{v:V}(h:DU H (.list ds) v):∃a xs,v=.ref a/\H a=some KB/\CK H ds xs:=by
 obtain⟨N,b⟩:=h;have h0:=b N Ql;rw[Dt]at h0;obtain⟨a,xs,rfl,_,ha,_⟩:=h0;refine⟨a,xs,rfl,ha,N,fun l Y=>?_⟩;have T:=b l Y;rw[Dt]at T;obtain⟨Z,U,e,_,g,R⟩:=T;cases e;rw[ha]at g;cases g;exact R
def DU.wL{H:Hp}{ds:yx}{v:V}(h:DU H (.tuple ds) v):∃a xs,v=.ref a/\H a=some Ke/\CK H ds xs:=by
 obtain⟨N,b⟩:=h;have h0:=b N Ql;rw[Dt]at h0;obtain⟨a,xs,rfl,_,ha,_⟩:=h0;refine⟨a,xs,rfl,ha,N,fun l Y=>?_⟩;have T:=b l Y;rw[Dt]at T;obtain⟨Z,U,e,_,g,R⟩:=T;cases e;rw[ha]at g;cases g;exact R
def CK.Mv{H:Hp}{d e:PD}{xs:zJ}(h:CK H [d,e] xs):∃x y,xs=[x,y]/\DU H d x/\DU H e y:=by
 obtain⟨x,R,U⟩:=h.get (i:=0) rfl;obtain⟨y,g,T⟩:=h.get (i:=1) rfl;have:=h.len
 match xs,this with
 |[a,b],_=>
  simp at R g;subst R g;exact⟨a,b,rfl,U,T⟩
mutual
theorem vA{c:AD}{H:Hp}:∀ {d:PD} {v:V},Dt c H d v->DU H d v
 |.none,_,h=>by rw[Dt]at h;subst h;exact .BP
 |.bool _,_,h=>by rw[Dt]at h;subst h;exact .bool
 |.int _,_,h=>by rw[Dt]at h;subst h;exact .int
 |.str _,_,h=>by rw[Dt]at h;subst h;exact .str
 |.tuple _,_,h=>by
  rw[Dt]at h;obtain⟨a,xs,rfl,n,R,g⟩:=h;exact .tup R (Ly g)
 |.list _,_,h=>by
  rw[Dt]at h;obtain⟨a,xs,rfl,n,R,g⟩:=h;exact .lst R (Ly g)
 |.dict _,_,h=>by rw[Dt]at h;exact h.elim
theorem Ly{c:AD}{H:Hp}:∀ {ds:List PD} {xs:IZ},BR c H ds xs->CK H ds xs
 |[],_,h=>by rw[BR]at h;subst h;exact .nil
 |_::_,_,h=>by
  rw[BR]at h;obtain⟨x,r,rfl,R,g⟩:=h;exact .cons (vA R) (Ly g)
end
def DU.ints{H:Hp}{ps:zA}{v:V}(h:DU H (.tuple (ps.map .int)) v):∃a,v=.ref a/\H a=some (.tup (ps.map V.int)):=by
 obtain⟨a,xs,rfl,ha,T⟩:=h.wL;refine⟨a,rfl,?_⟩;rw[ha]
 congr 2
 obtain⟨N,b⟩:=T;have:=b N Ql;clear b ha h
 induction ps generalizing xs with
 |nil=>rw[List.map_nil,BR]at this;exact this
 |cons p ps R=>
  rw[(A2),BR]at this;obtain⟨x,r,rfl,g,U⟩:=this;rw[Dt]at g;subst g;rw[(A2),R r U]
def Se{i n:Nat}(h:i<n)(hn:n<=60):i<sizeLine:=aH (show i<60 by lia) KF
def uX{n:Nat}(hn:n<=60):n<=sizeLine:=aU hn KF
structure Tb where
 rs:List (List Rat)
 ls:List Rat
def Be(r:zH):yx:=r.map AW
def BN(r:zH):PD:=.list (Be r)
def Bq(rs:List zH):yx:=rs.map BN
def C8(t:Tb):PD:=.tuple [.list (Bq t.rs),.list (Be t.ls)]
structure Tb.Ok(m:Nat)(t:Tb):Prop where
 one:1<=t.rs.length
 most:t.rs.length<=m
 last:t.ls.length=t.rs.length
 row:∀(i:Nat) r,t.rs[i]? = some r->r.length=i
def Hb(r:zH):(Be r).length=r.length:=ba _
def Lr(r:List zH):(Bq r).length=r.length:=ba _
def CK.fg{H:Hp}{d:PD}{ds:yx}{xs:zJ}(h:CK H (d::ds) xs):∃x r,xs=x::r/\DU H d x/\CK H ds r:=by
 obtain⟨N,b⟩:=h;have h0:=b N Ql;rw[BR]at h0;obtain⟨x,r,rfl,_,_⟩:=h0;refine⟨x,r,rfl,⟨N,fun l g=>?_⟩,⟨N,fun l g=>?_⟩⟩
 .have:=b l g;rw[BR]at this;obtain⟨_,_,e,R,_⟩:=this;cases e;exact R
 .have:=b l g;rw[BR]at this;obtain⟨_,_,e,_,R⟩:=this;cases e;exact R
def DU.rat{H:Hp}{q:Rat}{v:V}(h:DU H (AW q) v):∃p,v=.ref p/\H p=some (.tup (Kv q)):=h.ints (ps:=[q.num,(q.den:Int)])
def Yx{H:Hp}{q:Rat}{p:AD}(h:H p=some (.tup (Kv q))):DU H (AW q) (.ref p):=.tup h (.cons .int (.cons .int .nil))
theorem Sw{c:AD}{zs:IZ}{H:Hp}(R:H c=some (.lst zs)):∀ {g:List Rat} {xs:IZ},CK H (Be g) xs->BR c H (Be g) xs
 |[],xs,h=>by
  have:=h.len;rw[show Be []=[] from rfl,List.length_nil]at this;rw[List.eq_nil_of_length_eq_zero this];exact .nil
 |q::g,xs,h=>by
  obtain⟨x,r,rfl,Y,U⟩:=CK.fg h;obtain⟨p,rfl,T⟩:=Y.rat;exact .cons (.tup (fun z=>by subst z;rw[T]at R;cases R) T (.cons .int (.cons .int .nil))) (Sw R U)
def gj{c:AD}{zs:zJ}{H H':Hp}(R:H c=some (.lst zs))(e:SameBut c H H'){g:zH}{xs:zJ}(h:CK H (Be g) xs):CK H' (Be g) xs:=Ly (.but e (Sw R h))
def tf{c a:AD}{zs xs:zJ}{H:Hp}{g:zH}(R:H c=some (.lst zs))(n:a≠c)(ha:H a=some KB)(h:CK H (Be g) xs):Dt c H (BN g) Hf:=.lst n ha (Sw R h)
theorem CK.set{H:Hp}{d:PD}{v:V}(g:DU H d v):∀ {ds:List PD} {xs:IZ} {j:Nat},CK H ds xs->CK H (ds.set j d) (xs.set j v)
 |[],xs,j,h=>by
  have:=h.len;rw[List.length_nil]at this;rw[List.eq_nil_of_length_eq_zero this];exact .nil
 |e::es,xs,j,h=>by
  obtain⟨x,r,rfl,T,R⟩:=h.fg;cases j with
  |zero=>exact .cons g R
  |succ j=>exact .cons T (CK.set (j:=j) g R)
def DU.tab{H:Hp}{t:Tb}{v:V}(h:DU H (C8 t) v):∃p R L xs ys,v=.ref p/\H p=some (.tup [.ref R,.ref L])/\H R=some KB/\CK H (Bq t.rs) xs/\H L=some IR/\CK H (Be t.ls) ys:=by
 obtain⟨p,zs,rfl,g,h1⟩:=h.wL;obtain⟨x,y,rfl,h2,h3⟩:=h1.Mv;obtain⟨R,xs,rfl,T,Z⟩:=h2.i9;obtain⟨L,ys,rfl,U,Y⟩:=h3.i9;exact⟨p,R,L,xs,ys,rfl,g,T,Z,U,Y⟩
def Te{H:Hp}{t:Tb}{p R L:AD}{xs ys:zJ}(g:H p=some (.tup [.ref R,.ref L]))(T:H R=some KB)(Z:CK H (Bq t.rs) xs)(U:H L=some IR)(Y:CK H (Be t.ls) ys):DU H (C8 t) (.ref p) :=
 .tup g (.cons (.lst T Z) (.cons (.lst U Y) .nil))
def O7{H:Hp}{rs:List zH}{xs:zJ}{i:Nat}{r:zH}(h:CK H (Bq rs) xs)(g:rs[i]? = some r):∃a ys,xs[i]? = some Hf/\H a=some IR/\CK H (Be r) ys:=by
 obtain⟨v,Y,U⟩:=h.get (i:=i) (d:=BN r) (by rw[Bq,(CD),g];rfl);obtain⟨a,ys,rfl,T,R⟩:=U.i9;exact⟨a,ys,Y,T,R⟩
def FX(c b:Int):Int:=c.fdiv (FM.gi c b)*b
def JF(bs:zA):Int:=bs.foldl FX 1
theorem Xd{k:Nat}:∀(bs:List Int) (c:Int) (n:Nat),1<=c->c.natAbs<2^n->(∀b∈bs,1<=b/\b.natAbs<2^k) ->
  1<=bs.foldl FX c/\(bs.foldl FX c).natAbs<2^(n+k*bs.length)/\c ∣ bs.foldl FX c/\∀b∈bs,b ∣ bs.foldl FX c
 |[],c,n,T,R,_=>⟨T,by simpa using R,Int.dvd_refl _,fun _ z=>(List.not_mem_nil z).elim⟩
 |b::bs,c,n,T,R,h=>by
  obtain⟨b1,b2⟩:=h b aX;obtain⟨s1,s2,Z,Y⟩:=S4 T b1;have n1:(FX c b).natAbs<2^(n+k):=FM.I0 (aW Y R) b2;obtain⟨r1,r2,U,r4⟩:=Xd bs (FX c b) (n+k) s1 n1 fun y g=>h y (aS _ g);refine⟨r1,?_,Int.dvd_trans s2 U,fun y g=>?_⟩
  .rw[(Jz),Nat.mul_succ,show n+(k*bs.length+k)=n+k+k*bs.length by lia];exact r2
  .rcases aM.mp g with rfl|g
   .exact Int.dvd_trans Z U
   .exact r4 y g
def Uy{k:Nat}{bs:zA}(h:∀b∈bs,1<=b/\b.natAbs<2^k):1<=JF bs/\(JF bs).natAbs<2^(1+k*bs.length)/\∀b∈bs,b ∣ JF bs:=by
 obtain⟨a,b,_,d⟩:=Xd bs 1 1 AT AT h;exact⟨a,b,d⟩
def ic(bs:zA)(b:Int):JF (bs++[b])=FX (JF bs) b:=by
 unfold JF;rw[List.foldl_append]
 rfl
def Y6:Sp:=fun vs H Q _=>∃(a:AD) (bs:List Int) (k:Nat),vs=[.ref a]/\H a=some (.lst (bs.map V.int))/\(∀b∈bs,1<=b/\b.natAbs<2^k)/\k*bs.length<=4000/\Q (.int (JF bs)) H
def LY(rs:zH)(B:Int):zA:=rs.map fun r=>r.num*B.fdiv (r.den:Int)
def fN:Sp:=fun vs H Q _=>∃(a:AD) (xs:IZ) (rs:List Rat) (B:Int) (n m:Nat),vs=[.ref a,.int B]/\H a=some KB/\CK H (Be rs) xs/\rs.length<=50/\(∀r∈rs,FM.Fits r n)/\B.natAbs<2^m/\n+m<=4000 /\
 ∀D H',AL H H'->H D=none->H' D=some (.lst ((LY rs B).map V.int))->Q (.ref D) H'
def LZ{H:Hp}{g:zH}{xs:zJ}{i:Nat}{q:Rat}(h:CK H (Be g) xs)(R:g[i]? = some q):∃p,xs[i]? = some (.ref p)/\H p=some (.tup (Kv q)):=by
 obtain⟨v,Y,U⟩:=h.get (i:=i) (d:=AW q) (by rw[Be,(CD),R];rfl);obtain⟨p,rfl,T⟩:=U.rat;exact⟨p,Y,T⟩
def Z0{rs:zH}{n:Nat}(h:∀r∈rs,FM.Fits r n):∀b∈rs.map (fun r=>(r.den:Int)),1<=b/\b.natAbs<2^n:=fun b R=>by
 obtain⟨r,g,rfl⟩:=aQ.mp R;have:=r.den_nz;exact⟨by lia,(h r g).d⟩
section
variable{P:F0b}{w:F0c}{K:Fg}{mg:y0}{base:Heap}{f g:AD}{fd gd:F0a}
def LI(F:Fn K mg "common_bottom" HU ["bottoms"] f fd)(BZ:Fn K mg "greatest_divisor" EV JJ g gd) (Cj:AK P w K mg base Af 1 g gd JJ eU):AK P w K mg base Af 2 f fd ["bottoms"] Y6:=by
 have sc:=R9;refine F.F.ok (k:=1) sc KT IS
 .obtain⟨a,bs,k,rfl,_⟩:=h
  rfl
 obtain⟨a,bs,k,rfl,ha,T,hk,q⟩:=h;refine⟨_,(Ae (BM (i:=1) sc.nd rfl As Au)
 (Ae (MO aR rfl (GD (pv 0)) iF
  (BE (BM (i:=1) sc.nd rfl As (BW HA (BW Ip kS (Dq BZ Cj hr rfl (AM kS (AM (pv 2) Ad)))) (pv 2)))))
 (BE (Cp kS)))),?_⟩
 refine⟨_,rfl,a,rfl,⟨_,Aw.of ha⟩,SG (xs:=bs.map V.int) (fun i σ H'=>∃(r:Option V),σ=[some Hf,some (.int (JF (bs.take i))),r]/\H=H') ?_ ?_ ?_ ?_⟩
 .exact⟨_,rfl,rfl⟩
 .rintro i σ H' _ ⟨r,rfl,rfl⟩;exact Aw.of ha
 .rintro i x σ H' R ⟨r,rfl,rfl⟩;have hi:i<bs.length:=by have:=(aD.mp R).1;simpa using this
  rw[(CD),List.getElem?_eq_getElem hi]at R;cases R;obtain⟨b1,b2⟩:=T _ (List.getElem_mem hi);obtain⟨c1,U,_⟩:=Uy (k:=k) (bs:=bs.take i) fun y hy=>T y (bT hy);rw[(II),Nat.min_eq_left AC]at U;obtain⟨s1,s2,s3,Y⟩:=S4 c1 b1;have hg:FM.gi (JF (bs.take i)) bs[i]≠0:=Int.ne_of_gt (FM.N9 AC);have hki:k*i+k<=4000:=by
   have:k*MS<=k*bs.length:=bE k hi;rw[Nat.mul_succ]at this
   lia
  have Z:((JF (bs.take i)).fdiv (FM.gi (JF (bs.take i)) bs[i])).natAbs<2^(1+k*i):=aW Y U;refine⟨_,rfl,_,rfl,_,rfl,JF (bs.take i),bs[i],rfl,_,_,rfl,rfl,⟨hg,k,by have:k*1<=k*bs.length:=bE k AC;lia,Nat.lt_of_le_of_lt (FM.mL AC) b2⟩,_,rfl,_,_,rfl,rfl,SW Z b2 AC,some (.int bs[i]),?_,rfl⟩;rw[(OV),List.getElem?_eq_getElem hi];show _=[some (V.ref a),some (V.int (JF (bs.take i++[bs[i]]))),some (V.int bs[i])];rw[ic]
  rfl
 .rintro σ H' ⟨r,rfl,rfl⟩;rw[(BJ),(JB)];exact⟨_,rfl,q⟩
def XF:Ac ["some","bottom"] ["some","bottom"] (AO NR):=CG
def YE(F:Fn K mg "tops_over" NR ["some","bottom"] f fd):AK P w K mg base Af 1 f fd ["some","bottom"] fN:=by
 have sc:=XF;refine F.F.ok (k:=0) sc KT (fun cdv A outer s H vs Q E Y h=>?_)
 .obtain⟨a,xs,rs,B,n,m,rfl,_⟩:=h
  rfl
 obtain⟨a,xs,rs,B,n,m,rfl,ha,dx,hl,hf,hB,hnm,q⟩:=h;have hxl:xs.length=rs.length:=by rw[dx.len,Hb]
 refine⟨_,(BE (Cp (HY [".0","part","bottom"] 1 [none,none,some 1] (GD (pv 0)) ZB (fun _ _ _ _ _=>(BW HA (Fo Jw kS Au DR) (BW Ip (pv 2) (Fo Jw kS Au DR))))))),?_⟩;refine⟨_,rfl,a,rfl,⟨_,Aw.of ha⟩,fun D hD=>Hv (n:=xs.length) (fun i ys H'=>AL H H'/\ys=(LY (rs.take i) B).map V.int) ⟨Ag hD _,rfl⟩ ?_ ?_⟩
 .rintro i ys H1 hi ⟨T,rfl⟩ R;have Y:rs[i]? = some (rs[i]' AC):=aG _;obtain⟨p,Z,U⟩:=LZ dx Y;have ft:=hf _ (aN Y);generalize rs[i]' AC=r at Y U ft;have hd:=r.den_nz;refine⟨⟨xs,.ref p,Aw.of (T _ _ ha),Z⟩,Se (n:=60) (by unfold LY;simp;lia) AT,fun x H' y=>?_⟩;obtain⟨rfl,y⟩:=y;have hx:=y xs (Aw.of (T _ _ ha));rw[Z]at hx;cases hx;unfold Jh;have n2:(B.fdiv (r.den:Int)).natAbs<2^m:=aW (FM.Fh _ _) hB;refine L3 ⟨_,rfl,_,_,_,_,rfl,rfl,BK.of (T _ _ U),rfl,_,rfl,_,rfl,_,_,_,_,rfl,rfl,BK.of (T _ _ U),rfl,_,_,rfl,rfl,⟨by lia,n,by lia,ft.d⟩,_,_,rfl,rfl,SW ft.1 n2 AC,R,FW hi ⟨fun b o z=>?_,?_⟩⟩
  .rw[AN (Am z hD)];exact T _ _ z
  .rw[(OV),Y,LY,LY,(Ep),(Ep)]
   rfl
 .rintro ys H1 ⟨T,rfl⟩ R;rw[hxl,(JB)]at R;exact⟨⟨xs,Aw.of (T _ _ ha),Nat.le_refl _⟩,q D H1 T hD R⟩
end
def Ec(a b:zA):zA:=List.zipWith (· * ·) a b
def X7(a b:zA):Int:=(Ec a b).sum
def F8(n:Nat):zA:=List.replicate n 1
def RG(rows:List (List Int)):Tr->List Int->List Int
 |.nil,g=>g
 |.cons b r,g=>RG rows r (Ec g (rows.map fun row=>X7 row (RG rows b T0)))
def FR(rows:List zA)(t:Tr):zA:=rows.map fun row=>X7 row (RG rows t T0)
theorem Ua(rows:List (List Int)):∀(t:Tr) (g:List Int),RG rows t g=t.bs.foldl ca g
 |.nil,g=>rfl
 |.cons b r,g=>by
  rw[RG,Tr.bs,List.foldl_cons,Ua rows r]
  rfl
def Ng(rows:List zA)(t:Tr):(FR rows t).length=rows.length:=ba _
def jc{a b:zA}(h:a.length=b.length):(Ec a b).length=a.length:=by unfold Ec;rw[List.length_zipWith,h,Nat.min_self]
def EG(n:Nat)(xs:zA):Prop:=∀x∈xs,x.natAbs<=n
theorem EG.mul{m n:Nat}:∀ {a b:List Int},EG m a->EG n b->EG (m*n) (Ec a b)
 |[],_,_,_=>fun x h=>by cases h
 |_::_,[],_,_=>fun x h=>by cases h
 |x::a,y::b,ha,g=>fun z h=>by
  have h:z∈x*y::Ec a b:=h;rcases aM.mp h with rfl|h
  .rw[(QV)];exact bg (ha x Fa) (g y Fa)
  .exact EG.mul (fun x h=>ha x (.tail _ h)) (fun x h=>g x (.tail _ h)) z h
theorem gk{n:Nat}:∀ {a:List Int},EG n a->a.sum.natAbs<=a.length*n
 |[],_=>az _
 |x::a,h=>by
  have R:=h x Fa;have g:=gk (a:=a) fun x h'=>h x (.tail _ h');rw[(K1),(Jz),Nat.succ_mul];have:=Int.natAbs_add_le x a.sum
  lia
def uP{m n:Nat}{a b:zA}(ha:EG m a)(R:EG n b):(X7 a b).natAbs<=a.length*m*n:=by
 have h:=gk (ha.mul R);have g:(Ec a b).length<=a.length:=by unfold Ec;rw[List.length_zipWith];exact Nat.min_le_left _ _
 refine aU h ?_;rw[Nat.mul_assoc];exact Nat.mul_le_mul_right _ g
structure Kk(rows:List (List Int))(c:Nat):Prop where
 len:rows.length<=1000
 one:∀row∈rows,row.length<=rows.length
 big:∃M,(∀row∈rows,EG M row)/\M<=2^c/\∀row∈rows,row.length*M<=2^c
def EG.mono{m n:Nat}{xs:zA}(h:EG m xs)(e:m<=n:=by decide):EG n xs:=fun x g=>aU (h x g) e
def VX(n k:Nat):EG (2^k) (F8 n):=fun x h=>by
 unfold F8 at h;rw[List.eq_of_mem_replicate h];exact Nat.one_le_two_pow
def lz{rows:List zA}{c:Nat}(h:Kk rows c){t:Tr}{k:Nat}(T:EG (2^(c*k)) (RG rows t T0)):EG (2^(c*Pi)) (FR rows t):=fun x g=>by
 unfold FR at g;obtain⟨row,R,rfl⟩:=aQ.mp g;obtain⟨M,Y,_,U⟩:=h.big;have:=uP (Y row R) T;refine aU this ?_;rw[Nat.mul_add,Nat.mul_one,Nat.add_comm,(NQ)];exact Nat.mul_le_mul_right _ (U row R)
theorem Tc{rows:List (List Int)}{c:Nat}(h:Kk rows c):∀(t:Tr) (g:List Int) (j:Nat),g.length=rows.length->EG (2^(c*j)) g->(RG rows t g).length=rows.length/\EG (2^(c*(j+(t.AI-1)))) (RG rows t g)
 |.nil,g,j,R,ha=>⟨R,ha⟩
 |.cons b r,g,j,R,ha=>by
  have T:=Tc h b T0 0 (List.length_replicate ..) (VX _ _);have kb:1<=b.AI:=Tr.EO b;have kr:1<=r.AI:=Tr.EO r;rw[Nat.zero_add]at T;have Z:=lz h T.2;rw[show b.AI-1+1=b.AI by lia]at Z;have Y:=ha.mul Z;rw[<-(NQ),<-Nat.mul_add]at Y;have U:=Tc h r (Ec g (FR rows b)) (j+b.AI) (by rw[jc (by rw[R,Ng])];exact R) Y;rw[RG,Tr.AI];refine⟨U.1,?_⟩;rw[show j+(b.AI+r.AI-1)=j+b.AI+(r.AI-1) by lia];exact U.2
def Zt{rows:List zA}{c:Nat}(h:Kk rows c)(t:Tr):EG (2^(c*t.AI)) (FR rows t):=by
 have R:=(Tc h t T0 0 (List.length_replicate ..) (VX _ _)).2;have T:1<=t.AI:=Tr.EO t;rw[Nat.zero_add]at R;have g:=lz h R;rw[show t.AI-1+1=t.AI by lia]at g;exact g
def cf{m:Nat}(hm:m+1<=1000000){x y:Int}(R:x.natAbs<=2^m)(g:y.natAbs<=2^m):Yd x y\/UX x y:=by
 have:2^m<2^(m+1):=Nat.pow_lt_pow_of_lt AT (bO m);exact .inr ⟨m+1,hm,Nat.lt_of_le_of_lt R this,Nat.lt_of_le_of_lt g this⟩
def MA{n:Nat}(h:n<=1000):n<sizeLine:=aW h KF
def FL{H H':Hp}{p:AD}(e:AL H H')(h:H' p=none):H p=none:=by
 cases z:H p with
 |none=>rfl
 |some o=>rw[e _ _ z]at h;cases h
def ints_get{ps:zA}{i:Nat}{x:Int}(h:ps[i]? = some x):(ps.map V.int)[i]? = some (.int x):=by rw[(CD),h];rfl
def Vz{xs ys:zA}{i:Nat}{x y:Int}(R:xs[i]? = some x)(g:ys[i]? = some y):(Ec xs ys).take MS=(Ec xs ys).take i++[x*y]:=by
 have h:(Ec xs ys)[i]? = some (x*y):=by unfold Ec;rw[List.getElem?_zipWith,R,g]
 rw[(OV),h];rfl
def qz:Sp:=fun vs H Q _=>∃a b xs ys m,vs=[.ref a,.ref b]/\H a=some (.lst (xs.map V.int))/\H b=some (.lst (ys.map V.int))/\xs.length<=ys.length/\xs.length<=1000/\m+1<=1000000/\EG (2^m) xs/\EG (2^m) ys/\∀H',AL H H'->Q (.int (X7 xs ys)) H'
section
variable{P:F0b}{w:F0c}{K:Fg}{mg:y0}{base:Heap}{f:AD}{fd:F0a}
def dU:Ac ["row","shares"] ["row","shares"] (AO QU):=CG
def cz(F:Fn K mg "read_by" QU ["row","shares"] f fd)(FN:mg "sum" = none)(EX:mg "zip" = none):AK P w K mg base Af 1 f fd ["row","shares"] qz:=by
 have sc:=dU;refine F.F.ok (k:=0) sc KT IS
 .obtain⟨a,b,ps,qs,m,rfl,_⟩:=h
  rfl
 obtain⟨a,b,ps,qs,m,rfl,ha,hb,hl,h60,hm,sx,sy,q⟩:=h;refine⟨_,(BE (Cp (EA (O4 rfl) rfl FN bj (AM (QQ [".0","part","share"] 1 2 [none,none,none] (YQ rfl EX (AM (pv 0) (AM kS Ad))) ZB (fun _ _ _ _ _=>(BW HA kS (pv 2)))) Ad)))),?_⟩;refine⟨_,rfl,_,rfl,false,false,a,b,rfl,⟨_,ha⟩,⟨_,hb⟩,fun D hD=>SE (n:=ps.length) (fun i us H'=>AL H H'/\us=((Ec ps qs).take i).map V.int) ?_ ?_ ?_⟩
 .exact⟨Ag hD _,by rw[List.take_zero];rfl⟩
 .rintro i us H1 hi ⟨R,rfl⟩ g;have hx:=aG hi;have hy:=aG (l:=qs) (i:=i) AC;have Z:=R _ _ ha;have Y:=R _ _ hb;refine⟨⟨_,_,_,_,Z,Y,ints_get hx,ints_get hy⟩,MA (by rw[(BJ),(II)];lia),fun v H' y=>?_⟩;obtain⟨p,x,z,rfl,np,rfl,k1,k2⟩:=y;have U:=k1 _ Z;have T:=k2 _ Y;rw[ints_get hx]at U;rw[ints_get hy]at T;cases U;cases T;have sp:=Ag np (.tup [.int ps[i],.int qs[i]]);refine⟨p,_,_,rfl,BK.of AR,?_⟩;unfold Jh;refine L3 ⟨_,rfl,_,rfl,_,_,rfl,rfl,cf hm (sx _ (List.getElem_mem _)) (sy _ (List.getElem_mem _)),sp _ _ g,FW hi ⟨fun c o z=>?_,?_⟩⟩
  .rw[AN (Am z hD)];exact sp _ _ (R _ _ z)
  .rw[Vz hx hy,(Ep)]
   rfl
 .rintro us H1 ⟨R,rfl⟩ g;refine⟨⟨_,_,R _ _ ha,R _ _ hb,.inl (by rw[(BJ)])⟩,D,_,rfl,Aw.of g,?_⟩;rw[List.take_of_length_le (by unfold Ec;rw[List.length_zipWith];lia)];exact q _ R
end
def LD(d:AD)(H H':Hp):Prop:=∀a o,a≠d->H a=some o->H' a=some o
def LD.of{d:AD}{H H':Hp}(e:AL H H'):LD d H H':=fun a o _ h=>e a o h
def LD.trans{d:AD}{H R g:Hp}(e:LD d H R)(T:LD d R g):LD d H g:=fun a o n h=>T a o n (e a o n h)
def qb{d:AD}{r:Ty}{xs:zJ}:dN d r≠.lst xs:=by unfold dN;intro z;cases z
def qS{d:AD}{r:Ty}{xs:zJ}:dN d r≠.tup xs:=by unfold dN;intro z;cases z
def LD.lst{d:AD}{H H':Hp}(e:LD d H H'){r:Ty}(hd:H d=some (dN d r)){l:AD}{xs:zJ}(h:H l=some KB):H' l=some KB:=e l _ (dg h hd fun z=>qb z.symm) h
def LD.BC{d:AD}{H H':Hp}(e:LD d H H'){r:Ty}(hd:H d=some (dN d r)):ME H H':=fun b xs h=>e b _ (dg h hd fun z=>qS z.symm) h
def V7(H:Hp)(vs:zJ)(rows:List zA):Prop:=vs.length=rows.length/\∀(i:Nat) (row:List Int),rows[i]? = some row->∃a:AD,vs[i]? = some Hf/\H a=some (.lst (row.map V.int))
def V7.same{H H':Hp}{vs:zJ}{rows:List zA}(h:V7 H vs rows)(e:AL H H'):V7 H' vs rows:=⟨h.1,fun i row hi=>let⟨a,R,g⟩:=h.2 i row hi;⟨a,R,e _ _ g⟩⟩
def V7.but{d:AD}{H H':Hp}{vs:zJ}{rows:List zA}(h:V7 H vs rows)(e:LD d H H'){r:Ty}(hd:H d=some (dN d r)):V7 H' vs rows:=⟨h.1,fun i row hi=>let⟨a,R,g⟩:=h.2 i row hi;⟨a,R,e.lst hd g⟩⟩
structure eT(Dm:List Tr)(c:Nat):Prop where
 len:Dm.length<=1000
 inj:∀a∈Dm,∀b∈Dm,TH.BI (some a)=TH.BI (some b)->a=b
 bs:∀t∈Dm,∀b∈t.bs,b∈Dm
 deep:∀t∈Dm,t.deep<8
 size:∀t∈Dm,c*t.AI+1<=1000000
structure Memo(Dm:List Tr)(rows:List (List Int))(W:Addr)(H:Hp)(d:Addr)(r:Ty):Prop where
 at_:H d=some (dN d r)
 nd:(r.map M0).Nodup
 all:∀q∈r,∃(t:Tr) (l:Addr),q.1=some t/\t∈Dm/\Tv H t q.2.1/\q.2.2=.ref l/\H l=some (.lst ((FR rows t).map V.int))/\l≠W
def Memo.same{Dm:zK}{rows:List zA}{W:AD}{H H':Hp}{d:AD}{r:Ty}(h:Memo Dm rows W H d r)(e:AL H H'):Memo Dm rows W H' d r:=⟨e _ _ h.at_,h.nd,fun q g=>let⟨t,l,h1,Z,Y,U,T,R⟩:=h.all q g;⟨t,l,h1,Z,Y.same e,U,e _ _ T,R⟩⟩
def Memo.ok{Dm:zK}{c:Nat}{rows:List zA}{W:AD}{H:Hp}{d:AD}{r:Ty}(h:Memo Dm rows W H d r)(D:eT Dm c){t:Tr}(Y:t∈Dm):SY H d r (some t):=by
 refine⟨h.at_,fun q g=>?_,h.nd,fun q g U=>?_⟩
 .obtain⟨u,l,T,R,Z,_⟩:=h.all q g;rw[T];exact⟨D.deep u R,Z⟩
 .obtain⟨u,l,T,R,_⟩:=h.all q g;rw[T]at U ⊢;rw[D.inj u R t Y U]
theorem V6{α:Type}[DecidableEq α]:∀ {a b:List α},a.Nodup->(∀x∈a,x∈b)->a.length<=b.length
 |[],_,_,_=>az _
 |x::a,b,hn,h=>by
  have R:=h x Fa;obtain⟨U,T⟩:=List.nodup_cons.mp hn;have:=V6 (a:=a) (b:=b.erase x) T fun y g=>(List.mem_erase_of_ne (show y≠x from fun e=>U (by rw[<-e];exact g))).mpr (h y (.tail _ g));rw[List.length_erase_of_mem R]at this;have:=List.length_pos_of_mem R;rw[(Jz)]
  lia
def Memo.len{Dm:zK}{rows:List zA}{W:AD}{H:Hp}{d:AD}{r:Ty}(h:Memo Dm rows W H d r):r.length<=Dm.length:=by
 have:=V6 (b:=Dm.map some) h.nd fun x g=>by
  obtain⟨q,R,rfl⟩:=aQ.mp g;obtain⟨u,l,U,T,_⟩:=h.all q R;rw[U];exact au T
 simpa using this
def Memo.put{Dm:zK}{rows:List zA}{W:AD}{H H':Hp}{d:AD}{r:Ty}(h:Memo Dm rows W H d r){t:Tr}{v:V}{l:AD}(ht:t∈Dm)(tv:Tv H t v)(hl:H l=some (.lst ((FR rows t).map V.int)))(hlW:l≠W) (e:H'=upd H d (dN d (Fv r (some t) v Rb))):LD d H H'/\Memo Dm rows W H' d (Fv r (some t) v Rb)/\H' l=some (.lst ((FR rows t).map V.int)):=by
 subst e;have hb:LD d H (upd H d (dN d (Fv r (some t) v Rb))):=fun a o n h=>by rw[AN n];exact h
 have Y:=hb.lst h.at_ hl;have old:∀q∈r,∃(t':Tr) (l':AD),q.1=some t'/\t'∈Dm/\Tv (upd H d (dN d (Fv r (some t) v Rb))) t' q.2.1/\q.2.2=.ref l'/\upd H d (dN d (Fv r (some t) v Rb)) l'=some (.lst ((FR rows t').map V.int))/\l'≠W:=fun q g=>by
  obtain⟨u,l',h1,R,h3,h4,h5,h6⟩:=h.all q g;exact⟨u,l',h1,R,h3.BC (hb.BC h.at_),h4,hb.lst h.at_ h5,h6⟩
 refine⟨hb,⟨AR,?_,fun q g=>?_⟩,Y⟩
 .unfold Fv;split
  .rw[(Ed)];rw[show((fun x:KR=>x.1) ∘ fun q:KR=>if q.1=some t then(q.1,q.2.1,V.ref l) else q)=fun x=>x.1 from funext fun q=>by
    show(if q.1=some t then(q.1,q.2.1,V.ref l) else q).1=q.1;split<;>rfl]
   exact h.nd
  .rename_i hn;rw[(Ep)];refine List.nodup_append.mpr ⟨h.nd,by simp,fun a ha b Z=>?_⟩;obtain⟨q,g,rfl⟩:=aQ.mp ha;have Z:b=some t:=by simpa using Z
   subst Z;have hn:r.find? (fun q=>decide (q.1=some t))=none:=by
    cases z:r.find? (fun q=>decide (q.1=some t)) with
    |none=>rfl
    |some x=>rw[z]at hn;exact absurd rfl hn
   have:=bh.mp hn q g
   simpa using this
 .have U:q∈r\/(∃T∈r,T.1=some t/\q=(T.1,T.2.1,.ref l))\/q=(some t,v,.ref l):=by
   unfold Fv at g;split at g
   .obtain⟨T,h1,R⟩:=aQ.mp g;split at R
    .rename_i z;exact .inr (.inl ⟨T,h1,z,R.symm⟩)
    .subst R;exact .inl h1
   .rcases ay.mp g with g|g
    .exact .inl g
    .exact .inr (.inr (by simpa using g))
  rcases U with U|⟨T,h1,R,rfl⟩|rfl
  .exact old q U
  .obtain⟨u,l',k1,k2,k3,_⟩:=old T h1;rw[R]at k1;cases k1;exact⟨t,l,R,k2,k3,rfl,Y,hlW⟩
  .exact⟨t,l,rfl,ht,tv.BC (hb.BC h.at_),rfl,Y,hlW⟩
theorem M7:∀ {t b:Tr},b∈t.bs->b.AI<=t.AI
 |.nil,b,h=>by cases h
 |.cons c r,b,h=>by
  rw[Tr.bs]at h;rw[Tr.AI];rcases aM.mp h with rfl|h
  .exact Nat.le_add_right _ _
  .exact aU (M7 h) (Nat.le_add_left _ _)
def jO(r:Ty)(k:Ki)(R v:V):∃q,(Fv r k R v).find? L8=some q:=by
 have:∃q∈Fv r k R v,q.1=k:=by
  unfold Fv;split
  .rename_i h;obtain⟨q,Y⟩:=Option.isSome_iff_exists.mp h;obtain⟨T,g⟩:=find_key Y;exact⟨_,List.mem_map_of_mem T,by rw[if_pos g];exact g⟩
  .exact⟨_,List.mem_append_right _ Fa,rfl⟩
 obtain⟨q,T,g⟩:=this;cases z:(Fv r k R v).find? L8 with
 |some U=>exact⟨U,rfl⟩
 |none=>exact absurd g (by simpa using bh.mp z q T)
theorem TM:∀(t:Tr) (i:Nat),(Tr.of (t.bs.take i)).AI<=t.AI
 |.nil,i=>by rw[Tr.bs,List.take_nil];exact aJ _
 |.cons b r,0=>by
  have:=Tr.EO (.cons b r);exact this
 |.cons b r,i+1=>by
  rw[Tr.bs,List.take_succ_cons,Tr.of,Tr.AI,Tr.AI];exact Nat.add_le_add_left (TM r i) _
def iP(Dm:zK)(c n:Nat):Sp:=fun vs H Q _=>∃R g rows v t d r W,vs=[.ref R,v,.ref d]/\H R=some (.lst g)/\V7 H g rows/\Kk rows c/\Tv H t v/\t∈Dm/\t.deep<n/\(∃o,H W=some o)/\Memo Dm rows W H d r/\∀H' T l,LD d H H'->Memo Dm rows W H' d T->H' l=some (.lst ((FR rows t).map V.int))->Q Rb H'
section
variable{P:F0b}{w:F0c}{K:Fg}{mg:y0}{base:Heap}{f g1:AD}{fd gd1:F0a}
def ZN:Ac ["rows","tree","known","shares","bough"] ["rows","tree","known"] (AO PJ):=CG
theorem RM{Dm:List Tr}{c:Nat}(DO:eT Dm c)(Fi:Fn K mg "readings" PJ ["rows","tree","known"] f fd)(Ko:Fn K mg "read_by" QU ["row","shares"] g1 gd1)(Tq:AK P w K mg base Af 1 g1 gd1 ["row","shares"] qz)(B8:mg "len" = none)(EX:mg "zip" = none) :
  ∀n,AK P w K mg base Af (n+1) f fd ["rows","tree","known"] (iP Dm c n)
 |0=>Ez fun _ _ _ _ ⟨_,_,_,_,_,_,_,_,_,_,_,_,_,_,h,_⟩=>absurd h (av _)
 |n+1=>by
  have sc:=ZN;have OQ:=RM DO Fi Ko Tq B8 EX n;have iD:=Tq.mono (show 1<=n+1 by lia);refine Fi.F.ok (k:=n+1) sc KT IS
  .obtain⟨R,rvs,rows,v,t,d,r,W,rfl,_⟩:=h
   rfl
  obtain⟨R,rvs,rows,v,t,d,r,W,rfl,hR,U,ro,tv,ht,hdp,⟨oW,hW⟩,Y,q⟩:=h;have hWs:∀ {H':Hp} {ρ:Ty},LD d H H'->Memo Dm rows W H' d ρ->∃o,H' W=some o:=fun {H' ρ} e m=>by
   by_cases z:W=d
   .exact⟨_,by rw[z];exact m.at_⟩
   .exact⟨_,e _ _ z hW⟩
  refine⟨_,(Ae (JR (EY (qF (by have:=hr.units;exact this) true) kS (pv 2) rfl)
  (Ae (BM (i:=3) sc.nd rfl (Or.inr rfl) (BW iq (Hl (AM Au Ad)) (EA Jj rfl B8 bC (AM (pv 0) Ad))))
  (Ae (MO aR rfl (XR kS) (Ay (i:=4) sc.nd rfl As)
   (BE (BM (i:=3) sc.nd rfl (Or.inr rfl) (QQ [".0","share","read"] 1 2 [none,none,none] (YQ rfl EX (AM (pv 3) (AM (Dq Fi OQ hr rfl (AM (pv 0) (AM (pv 4) (AM (pv 2) Ad)))) Ad))) ZB (fun _ _ _ _ _=>(BW HA kS (pv 2)))))))
  (BE (N6 (HY [".0","row","shares"] 1 [none,none,some 3] (GD (pv 0)) ZB (fun _ _ _ _ _=>(Dq Ko iD hr rfl (AM kS (AM (pv 2) Ad))))) (T6 (pv 2) kS (YT (by have:=hr.units;exact this)))))))
  GI)
 (BE (Cp (iB (by have:=hr.units;exact this) (pv 2) kS DR)))),?_⟩
  have key:Hi H (some t) v:=⟨DO.deep t ht,tv⟩;cases hz:r.find? (fun q=>decide (q.1=some t)) with
  |some q'=>
   refine⟨_,rfl,_,rfl,d,r,some t,rfl,key,Y.ok DO ht,false,by rw[hz];rfl,xB ?_⟩;obtain⟨hm,hk⟩:=find_key hz;obtain⟨u,l,h1,h2,h3,h4,h5,_⟩:=Y.all q' hm;rw[hk]at h1;cases h1;refine⟨_,rfl,_,rfl,d,r,some t,q',rfl,key,Y.ok DO ht,hz,?_⟩;rw[h4];exact q H r l (fun a o _ h=>h) Y h5
  |none=>
   refine⟨_,rfl,_,rfl,d,r,some t,rfl,key,Y.ok DO ht,true,by rw[hz];rfl,L3 ?_⟩;refine⟨by show 1<=sizeLine;decide,fun p hp=>⟨_,rfl,_,_,rfl,.inl (Aw.of (Ag hp _ _ _ hR)),p,_,_,rfl,rfl,AR,by lia,?_,?_,fun S hS=>?_⟩⟩
   .have:=U.1;have:=ro.len;lia
   .have:=U.1;have:=ro.len;refine bD (MA ?_);simp
    lia
   rw[List.flatten_replicate_singleton,show((rvs.length:Nat):Int).toNat=rows.length by rw[U.1];rfl];have e0:AL H (upd (upd H p (.lst [V.int 1])) S (.lst (List.replicate rows.length (V.int 1)))):=(Ag hp _).trans (Ag hS _);have hS0:upd (upd H p (.lst [V.int 1])) S (.lst (List.replicate rows.length (V.int 1))) S=some (.lst (((t.bs.take 0).foldl ca T0).map V.int)):=by
    rw[AR,List.take_zero,List.foldl_nil];unfold F8;rw[List.map_replicate]
   generalize upd (upd H p (.lst [V.int 1])) S (.lst (List.replicate rows.length (V.int 1)))=H0 at e0 hS0;obtain⟨a,ys,rfl,ha,hts⟩:=tv;have hyl:=hts.len;have sizes:∀i,((t.bs.take i).foldl ca T0).length=rows.length/\EG (2^(c*t.AI)) ((t.bs.take i).foldl ca T0):=fun i=>by
    have h:=Tc ro (Tr.of (t.bs.take i)) T0 0 (List.length_replicate ..) (VX _ _);rw[Ua,Tr.Tp]at h;refine⟨h.1,h.2.mono (aZ AT (bE _ ?_))⟩;have:=TM t i
    lia
   refine⟨_,rfl,a,rfl,⟨_,BK.of (e0 _ _ ha)⟩,oq (xs:=ys) (fun i σ H'=>∃(r4:Option V) (S:AD) (ρ:Ty),σ=[some (.ref R),some Hf,some (.ref d),some (.ref S),r4]/\LD d H H'/\Memo Dm rows W H' d ρ/\H' S=some (.lst (((t.bs.take i).foldl ca T0).map V.int))) ?_ ?_ ?_ ?_⟩
   .exact⟨_,S,r,rfl,.of e0,Y.same e0,hS0⟩
   .rintro i σ H' _ ⟨r4,S',ρ,rfl,e,_⟩;exact BK.of (e.BC Y.at_ _ _ ha)
   .rintro i x σ H1 hx ⟨r4,S1,ρ,rfl,e1,me1,hS1⟩;obtain⟨b,hb,tb⟩:=hts.get hx;have hbm:b∈t.bs:=aN hb;have hbd:=Tr.SK hbm;refine⟨_,rfl,_,rfl,_,rfl,_,rfl,R,rvs,rows,x,b,d,ρ,W,rfl,e1.lst Y.at_ hR,U.but e1 Y.at_,ro,tb.BC (e1.BC Y.at_),DO.bs t ht b hbm,by lia,hWs e1 me1,me1,fun H2 r2 l e2 me2 hl2=>?_⟩;have hS2:=e2.lst me1.at_ hS1;have e02:=e1.trans e2;obtain⟨sl,sb⟩:=sizes i;generalize hsh:(t.bs.take i).foldl ca T0=sh at sl sb hS2;have hnext:(t.bs.take MS).foldl ca T0=Ec sh (FR rows b):=by
     rw[(OV),hb,List.foldl_append,hsh];rfl
    have rl:=Ng rows b;have rb:=Zt ro b;have kb:b.AI<=t.AI:=M7 hbm;have rb':=rb.mono (aZ AT (bE c kb));refine⟨false,false,S1,l,rfl,⟨_,hS2⟩,⟨_,hl2⟩,fun D hD=>SE (n:=sh.length) (fun j us H'=>AL H2 H'/\us=((Ec sh (FR rows b)).take j).map V.int) ?_ ?_ ?_⟩
    .exact⟨Ag hD _,by rw[List.take_zero];rfl⟩
    .rintro j us H3 hj ⟨g,rfl⟩ T;have hx:=aG hj;have hy:=aG (l:=FR rows b) (i:=j) AC;have e3a:=g _ _ hS2;have e3b:=g _ _ hl2;refine⟨⟨_,_,_,_,e3a,e3b,ints_get hx,ints_get hy⟩,MA (by have:=ro.len;rw[(BJ),(II)];lia),fun v H' y=>?_⟩;obtain⟨p,x,z,rfl,np,rfl,k1,k2⟩:=y;have hx':=k1 _ e3a;have hy':=k2 _ e3b;rw[ints_get hx]at hx';rw[ints_get hy]at hy';cases hx';cases hy';have sp:=Ag np (.tup [.int sh[j],.int (FR rows b)[j]]);refine⟨p,_,_,rfl,BK.of AR,?_⟩;unfold Jh;refine L3 ⟨_,rfl,_,rfl,_,_,rfl,rfl,cf (DO.size t ht) (sb _ (List.getElem_mem _)) (rb' _ (List.getElem_mem _)),sp _ _ T,FW hj ⟨fun c o z=>?_,?_⟩⟩
     .rw[AN (Am z hD)];exact sp _ _ (g _ _ z)
     .rw[Vz hx hy,(Ep)]
      rfl
    .rintro us H3 ⟨g,rfl⟩ T;refine⟨⟨_,_,g _ _ hS2,g _ _ hl2,.inl (by rw[(BJ)])⟩,?_⟩;refine⟨_,D,r2,rfl,e02.trans (.of g),me2.same g,?_⟩;rw[T,hnext,List.take_of_length_le (by unfold Ec;rw[List.length_zipWith];lia)]
   .rintro σ H1 ⟨r4,S1,ρ,rfl,e1,me1,hS1⟩;rw[hyl,(JB),<-Ua]at hS1;obtain⟨sl,sb⟩:=sizes t.bs.length;rw[(JB),<-Ua]at sl sb;have hR1:=e1.lst Y.at_ hR;have hrw1:=U.but e1 Y.at_;refine⟨_,rfl,R,rfl,⟨_,Aw.of hR1⟩,fun D hD=>Hv (n:=rvs.length) (fun j us H'=>AL H1 H'/\us=((FR rows t).take j).map V.int) ?_ ?_ ?_⟩
    .exact⟨Ag hD _,by rw[List.take_zero];rfl⟩
    .rintro j us H3 hj ⟨g,rfl⟩ T;have hj':j<rows.length:=by rw[<-U.1];exact hj
     have Z:=aG hj';generalize rows[j]=row at Z;have hrm:=aN Z;obtain⟨pr,g1,g2⟩:=hrw1.2 j row Z;have hR3:=g _ _ hR1;refine⟨⟨_,_,Aw.of hR3,g1⟩,MA (by have:=ro.len;rw[(BJ),(II),Ng];lia),fun x H' y=>?_⟩;obtain⟨rfl,y⟩:=y;have hx:=y _ (Aw.of hR3);rw[g1]at hx;cases hx;unfold Jh;obtain⟨M,b1,b2,_⟩:=ro.big;refine L3 ⟨_,rfl,_,rfl,pr,S1,row,_,c*t.AI,rfl,g _ _ g2,g _ _ hS1,?_,?_,DO.size t ht,?_,sb,fun H4 e4=>?_⟩
     .rw[sl];exact ro.one row hrm
     .have:=ro.one row hrm;have:=ro.len;lia
     .refine(b1 row hrm).mono (aU b2 (aZ AT ?_));have:=Tr.EO t;exact Nat.le_mul_of_pos_right c this
     .refine⟨e4 _ _ T,FW hj ⟨fun c o z=>?_,?_⟩⟩
      .rw[AN (Am z hD)];exact e4 _ _ (g _ _ z)
      .have:(FR rows t)[j]? = some (X7 row (RG rows t T0)):=by unfold FR;rw[(CD),Z];rfl
       rw[(OV),this,(Ep)]
       rfl
    .rintro us H3 ⟨g,rfl⟩ T;rw[List.take_of_length_le (by rw[Ng,U.1];exact aJ _)]at T;have me3:=me1.same g;have hDW:D≠W:=fun z=>by
      obtain⟨o,hw⟩:=hWs e1 me1;rw[<-z,hD]at hw;cases hw
     have tv3:Tv H3 t Hf:=⟨a,ys,rfl,g _ _ (e1.BC Y.at_ _ _ ha),(hts.BC (e1.BC Y.at_)).same g⟩;refine⟨⟨_,Aw.of (g _ _ hR1),Nat.le_refl _⟩,_,rfl,_,rfl,d,ρ,some t,rfl,⟨DO.deep t ht,tv3⟩,me3.ok DO ht,Nat.le_trans me3.len DO.len,?_⟩;generalize h4:upd H3 d (dN d (Fv ρ (some t) Hf (.ref D)))=H4;obtain⟨b4,me4,l4⟩:=me3.put ht tv3 T hDW h4.symm;have tv4:=tv3.BC (b4.BC me3.at_);have key4:Hi H4 (some t) Hf:=⟨DO.deep t ht,tv4⟩;obtain⟨q',hq',hv⟩:∃q',(Fv ρ (some t) (.ref a) (.ref D)).find? (fun q=>decide (q.1=some t))=some q'/\∃l,q'.2.2=.ref l/\H4 l=some (.lst ((FR rows t).map V.int)):=by
      obtain⟨q',hq'⟩:=jO ρ (some t) Hf (.ref D);obtain⟨hm,hk⟩:=find_key hq';obtain⟨u,l,h1,h2,h3,h4,h5,_⟩:=me4.all q' hm;rw[hk]at h1;cases h1;exact⟨q',hq',l,h4,h5⟩
     obtain⟨l,hv,hl⟩:=hv;refine⟨_,rfl,_,rfl,d,_,some t,q',rfl,key4,me4.ok DO ht,hq',?_⟩;rw[hv];exact q H4 _ l ((e1.trans (.of g)).trans b4) me4 hl
end
def GA(r:zH):zA:=r.map fun q=>(q.den:Int)
def IA(t:Tb)(i:Nat):zA:=GA t.ls++((t.rs.take i).map GA).flatten
def Et(t:Tb):Int:=JF (IA t t.rs.length)
def Tb.Fits(t:Tb)(n:Nat):Prop:=(∀r∈t.rs,∀q∈r,FM.Fits q n)/\∀q∈t.ls,FM.Fits q n
def UY{t:Tb}{i:Nat}{r:zH}(h:t.rs[i]? = some r):IA t MS=IA t i++GA r:=by
 unfold IA;rw[(OV),h,(Ep),List.flatten_append,(VI)];simp
theorem NH{t:Tb}{m:Nat}(o:t.Ok m):∀i,i<=t.rs.length->(IA t i).length<=t.rs.length+t.rs.length*i
 |0,_=>by unfold IA GA;simp[o.last]
 |i+1,h=>by
  have g:=aG (l:=t.rs) (i:=i) AC;have:=NH o i AC;rw[UY g,(Gf),show(GA t.rs[i]).length=t.rs[i].length from ba _,o.row i _ g,Nat.mul_succ]
  lia
def Vq{t:Tb}{n:Nat}(h:t.Fits n)(i:Nat):∀b∈IA t i,1<=b/\b.natAbs<2^n:=fun b g=>by
 unfold IA at g;rcases ay.mp g with g|g
 .exact Z0 h.2 b g
 .obtain⟨l,T,g⟩:=List.mem_flatten.mp g;obtain⟨r,R,rfl⟩:=aQ.mp T;exact Z0 (h.1 r (bT R)) b g
def uL:Sp:=fun vs H Q _=>∃(v:V) (t:Tb) (m n:Nat),vs=[v]/\DU H (C8 t) v/\t.Ok m/\m<=40/\t.Fits n/\n*(m+m*m)<=4000/\∀H',AL H H'->Q (.int (Et t)) H'
section
variable{P:F0b}{w:F0c}{K:Fg}{mg:y0}{base:Heap}{f g1 g2:AD}{fd gd1:F0a}
def TY:Ac ["table","bottoms","row"] ["table"] (AO J3):=CG
def Ub(F:Fn K mg "table_bottom" J3 ["table"] f fd)(Ct:Fn K mg "common_bottom" HU ["bottoms"] g1 gd1) (JX:AK P w K mg base Af 2 g1 gd1 ["bottoms"] Y6):AK P w K mg base Af 3 f fd ["table"] uL:=by
 have sc:=TY;refine F.F.ok (k:=2) sc KT (fun cdv A outer s H vs Q E g h=>?_)
 .obtain⟨v,t,m,n,rfl,_⟩:=h
  rfl
 obtain⟨v,t,m,n,rfl,dt,ot,hm,ft,hnm,q⟩:=h;obtain⟨p,R,L,xs,ys,rfl,hp,hR,dR,hL,dL⟩:=dt.tab;have hyl:ys.length=t.ls.length:=by rw[dL.len,Hb]
 have hxl:xs.length=t.rs.length:=by rw[dR.len,Lr]
 have h1:=ot.most;have h2:=ot.last;refine⟨_,(Ae (NJ (i:=1) [".0","part"] 1 [none,none] sc.nd rfl rfl (GD (Fo IT (pv 0) Au DR)) ZB (fun _ _ _ _ _=>(Fo Jw kS Au DR)))
 (Ae (MO aR rfl (GD (Fo IT (pv 0) Au DR)) iF
  (BE (E8 (Ic aq PySem.F.slot_list_extend PySem.F.type_list_extend QW kS (AM (HY [".0","part"] 1 [none,none] (GD (pv 2)) ZB (fun _ _ _ _ _=>(Fo Jw kS Au DR))) Ad)))))
 (BE (Cp (Dq Ct JX g rfl (AM kS Ad)))))),?_⟩
 refine⟨_,rfl,_,_,_,_,rfl,rfl,BK.of hp,rfl,L,rfl,⟨_,Aw.of hL⟩,fun Z hZ=>Hv (n:=ys.length) (fun i us H'=>AL H H'/\us=(GA (t.ls.take i)).map V.int) ⟨Ag hZ _,rfl⟩ ?_ ?_⟩
 .rintro i us H1 hi ⟨e1,rfl⟩ hD1;have g:t.ls[i]? = some (t.ls[i]' AC):=aG _;obtain⟨p,U,T⟩:=LZ dL g;generalize t.ls[i]' AC=r at g T;refine⟨⟨ys,.ref p,Aw.of (e1 _ _ hL),U⟩,Se (n:=60) (by unfold GA;simp;lia) AT,fun x H' y=>?_⟩;obtain⟨rfl,y⟩:=y;have hx:=y ys (Aw.of (e1 _ _ hL));rw[U]at hx;cases hx;unfold Jh;refine L3 ⟨_,rfl,_,_,_,_,rfl,rfl,BK.of (e1 _ _ T),rfl,hD1,FW hi ⟨fun b o z=>?_,?_⟩⟩
  .rw[AN (Am z hZ)];exact e1 _ _ z
  .rw[(OV),g,GA,GA,(Ep),(Ep)]
   rfl
 rintro us H1 ⟨e1,rfl⟩ hZ1;rw[hyl,(JB)]at hZ1;refine⟨⟨ys,Aw.of (e1 _ _ hL),Nat.le_refl _⟩,?_⟩;refine⟨_,rfl,_,_,_,_,rfl,rfl,BK.of (e1 _ _ hp),rfl,R,rfl,⟨_,Aw.of (e1 _ _ hR)⟩,SG (xs:=xs) (fun i σ H'=>∃r2,σ=[some (.ref p),some (.ref Z),r2]/\AL H H'/\H' Z=some (.lst ((IA t i).map V.int))) ?_ ?_ ?_ ?_⟩
 .exact⟨_,rfl,e1,by rw[hZ1];unfold IA;simp⟩
 .rintro i σ H' _ ⟨r2,rfl,e,_⟩;exact Aw.of (e _ _ hR)
 .rintro i x σ H2 hx ⟨r2,rfl,e2,Y⟩;have hi:i<t.rs.length:=by rw[<-hxl];exact(aD.mp hx).1
  have g:t.rs[i]? = some t.rs[i]:=aG hi;have hrl:=ot.row _ _ g;obtain⟨a,zs,g1,g2,dz⟩:=O7 dR g;generalize t.rs[i]=row at g dz hrl;rw[hx]at g1;cases g1;have hzl:zs.length=row.length:=by rw[dz.len,Hb]
  refine⟨_,rfl,.inl ⟨rfl,_,Aw.of Y⟩,_,rfl,a,rfl,⟨_,Aw.of (e2 _ _ g2)⟩,fun D hD=>Hv (n:=zs.length) (fun j ys H'=>AL H2 H'/\ys=(GA (row.take j)).map V.int) ⟨Ag hD _,rfl⟩ ?_ ?_⟩
  .rintro j us H3 hj ⟨e3,rfl⟩ hD3;have E3:=e2.trans e3;have g:row[j]? = some (row[j]' AC):=aG _;obtain⟨p,U,T⟩:=LZ dz g;generalize row[j]' AC=r at g T;refine⟨⟨zs,.ref p,Aw.of (E3 _ _ g2),U⟩,Se (n:=60) (by unfold GA;simp;lia) AT,fun x H' y=>?_⟩;obtain⟨rfl,y⟩:=y;have hx:=y zs (Aw.of (E3 _ _ g2));rw[U]at hx;cases hx;unfold Jh;refine L3 ⟨_,rfl,_,_,_,_,rfl,rfl,BK.of (E3 _ _ T),rfl,hD3,FW hj ⟨fun b o z=>?_,?_⟩⟩
   .rw[AN (Am z hD)];exact e3 _ _ z
   .rw[(OV),g,GA,GA,(Ep),(Ep)]
    rfl
  .rintro us H3 ⟨e3,rfl⟩ hD3;have E3:=e2.trans e3;rw[hzl,(JB)]at hD3;refine⟨⟨zs,Aw.of (E3 _ _ g2),Nat.le_refl _⟩,Z,D,_,_,rfl,rfl,e3 _ _ Y,hD3,?_,_,rfl,fun b o z=>?_,?_⟩
   .have:=NH ot i AC;rw[(BJ),(BJ),show(GA row).length=row.length from ba _];have h40:t.rs.length*i<=40*40:=bg AC AC;exact aU (show _<=2000 by lia) KF
   .rw[AN (Am z hZ)];exact e3 _ _ (e2 _ _ z)
   .rw[AR,UY g,(Ep)]
 .rintro σ H2 ⟨r2,rfl,e2,Y⟩;rw[hxl]at Y;refine⟨_,rfl,Z,_,n,rfl,Y,Vq ft _,?_,q H2 e2⟩;have:=NH ot _ Ql;have h3:t.rs.length*t.rs.length<=m*m:=bg h1 h1;exact aU (bE n AC) hnm
end
def FK(t:Tb):List zA:=(t.rs++[t.ls]).map fun r=>LY r (Et t)
def NW(t:Tb)(u:Tr):Rat:=Rat.divInt ((FR (FK t) u).getLast?.getD 0) (Et t^u.AI)
def qh:Sp:=fun vs H Q _=>∃v u,vs=[v]/\Tv H u v/\u.deep<8/\u.AI<=8/\∀H',AL H H'->Q (.int (u.AI:Nat)) H'
def pS(Dm:zK)(c:Nat):Sp:=fun vs H Q _=>∃(v:V) (t:Tb) (L:AD) (g:IZ) (ts:List Tr) (m n k:Nat),vs=[v,.ref L]/\DU H (C8 t) v/\t.Ok m/\m<=40/\t.Fits n/\n*(m+m*m)<=4000/\Kk (FK t) c/\(Et t).natAbs<2^k/\n+k<=4000/\1<=Et t /\
 H L=some (.lst g)/\g.length=ts.length/\ts.length<=1000/\(∀(i:Nat) (x:V),g[i]? = some x->∃u,ts[i]? = some u/\Tv H u x/\u∈Dm/\u.AI<=8/\k*u.AI<=4000) /\
 ∀D H' R,AL H H'->H D=none->H' D=some (.lst R)->CK H' (Be (ts.map (NW t))) R->Q (.ref D) H'
def Jn(H:Hp)(zs:zJ)(g:zH):Prop:=zs.length=g.length/\∀(i:Nat) (q:Rat),g[i]? = some q->∃p:AD,zs[i]? = some (.ref p)/\H p=some (.tup (Kv q))
def Jn.BC{H H':Hp}{zs:zJ}{g:zH}(h:Jn H zs g)(e:ME H H'):Jn H' zs g:=⟨h.1,fun i q hi=>let⟨p,T,R⟩:=h.2 i q hi;⟨p,T,e _ _ R⟩⟩
def Jn.snoc{H:Hp}{zs:zJ}{g:zH}(h:Jn H zs g){p:AD}{q:Rat}(R:H p=some (.tup (Kv q))):Jn H (zs++[.ref p]) (g++[q]):=by
 refine⟨by rw[(Gf),(Gf),h.1];rfl,fun i r hi=>?_⟩;by_cases z:i<g.length
 .rw[List.getElem?_append_left z]at hi;rw[List.getElem?_append_left (by rw[h.1];exact z)];exact h.2 i r hi
 .rw[List.getElem?_append_right AC]at hi;rw[List.getElem?_append_right (by rw[h.1];lia),h.1];have:i-g.length=0:=by
   have:=(aD.mp hi).1;simp at this
   lia
  rw[this]at hi ⊢;cases hi;exact⟨p,rfl,R⟩
theorem Jn.Z2{H:Hp}:∀ {g:List Rat} {zs:IZ},Jn H zs g->CK H (Be g) zs
 |[],[],_=>.nil
 |[],_::_,h=>by cases h.1
 |_::_,[],h=>by cases h.1
 |q::g,z::zs,h=>by
  obtain⟨p,T,R⟩:=h.2 0 q rfl;cases T;refine .cons (Yx R) (Jn.Z2 ⟨by simpa using h.1,fun i r hi=>?_⟩);exact h.2 MS r hi
def nY{xs:zA}(h:1<=xs.length):ID (xs.map V.int) (-1)=some (V.int (xs.getLast?.getD 0)):=by
 have g:xs≠[]:=fun z=>by rw[z]at h;exact absurd h AT
 have e:=List.dropLast_concat_getLast g;rw[<-e,(Ep),List.getLast?_append];exact jZ _ _
def qM{b:Int}(h:1<=b)(k:Nat):b^k≠0:=Int.ne_of_gt (Int.pow_pos h)
def jb{b:Int}{k p:Nat}(h:b.natAbs<2^k)(g:k*p<=4000):∃m,m<=9000/\(b^p).natAbs<2^m:=by
 refine⟨k*p+1,by lia,?_⟩;rw[Int.natAbs_pow];refine aW (Nat.pow_le_pow_left (bD h) p) ?_;rw[<-Nat.pow_mul];exact Nat.pow_lt_pow_of_lt AT AC
section
variable{P:F0b}{w:F0c}{K:Fg}{mg:y0}{base:Heap}{f g1 g2 g3 g4 g5 g6:AD}{fd gd1 gd2 gd3 gd4 gd5 gd6:F0a}
def Sv:Ac ["table","trees","bottom","rows","known","weights","tree"] ["table","trees"] (AO JH):=CG
def R7{Dm:zK}{c:Nat}(DO:eT Dm c)(F:Fn K mg "weights_under" JH ["table","trees"] f fd)(Hx:Fn K mg "table_bottom" J3 ["table"] g1 gd1)(Kb:Fn K mg "tops_over" NR ["some","bottom"] g2 gd2) (Fi:Fn K mg "readings" PJ ["rows","tree","known"] g3 gd3)(Fs:Fn K mg "power_of" LX ["base","power"] g4 gd4)(Ao:Fn K mg "knots_within" DK KM g5 gd5)(Cn:Fn K mg "fraction_of" Gy ["top","bottom"] g6 gd6) (VN:AK P w K mg base Af 11 g1 gd1 ["table"] uL)(Za:AK P w K mg base Af 11 g2 gd2 ["some","bottom"] fN)(OQ:AK P w K mg base Af 11 g3 gd3 ["rows","tree","known"] (iP Dm c 8))(Hw:AK P w K mg base Af 11 g4 gd4 ["base","power"] dJ) (A7:AK P w K mg base Af 11 g5 gd5 KM qh)(G7:AK P w K mg base Af 11 g6 gd6 ["top","bottom"] Sy):AK P w K mg base Af 12 f fd ["table","trees"] (pS Dm c):=by
 have sc:=Sv;refine F.F.ok (k:=11) sc KT IS
 .obtain⟨v,t,L,tvs,ts,m,n,k,rfl,_⟩:=h
  rfl
 obtain⟨v,t,L,tvs,ts,m,n,k,rfl,dt,ot,hm,ft,hnm,ro,hB,hnk,hB1,hL,htl,hts,hall,q⟩:=h;have o1:=ot.most;have o2:=ot.last;have o3:=ot.one;refine⟨_,(Ae (BM (i:=2) sc.nd rfl (Or.inr rfl) (Dq Hx VN hr rfl (AM (pv 0) Ad)))
 (Ae (NJ (i:=3) [".0","row","bottom"] 1 [none,none,some 2] sc.nd rfl rfl (GD (BW jC (Fo IT (pv 0) Au DR) (Hl (AM (Fo IT (pv 0) Au DR) Ad)))) ZB (fun _ _ _ _ _=>(Dq Kb Za hr rfl (AM kS (AM (pv 2) Ad)))))
 (Ae (BM (i:=4) sc.nd rfl As jm)
 (Ae (BM (i:=5) sc.nd rfl As (Hl Ad))
 (Ae (MO aR rfl (GD kS) (Ay (i:=6) sc.nd rfl As)
  (BE (E8 (Ic aq bJ bK Gb (pv 5) (AM (Dq Cn G7 hr rfl (AM (Fo Zr (Dq Fi OQ hr rfl (AM (pv 3) (AM (pv 6) (AM (pv 4) Ad)))) (ec Yj Au) DR) (AM (Dq Fs Hw hr rfl (AM (pv 2) (AM (Dq Ao A7 hr rfl (AM (pv 6) Ad)) Ad))) Ad))) Ad)))))
 (BE (Cp (pv 5)))))))),?_⟩
 refine⟨_,rfl,v,t,m,n,rfl,dt,ot,hm,ft,hnm,fun H1 e1=>?_⟩;obtain⟨p,R,U,xs,ys,rfl,hp,hR,dR,hL',dL⟩:=(dt.same e1).tab;have hxl:xs.length=t.rs.length:=by rw[dR.len,Lr]
 refine⟨_,rfl,_,_,_,_,rfl,rfl,BK.of hp,rfl,_,rfl,_,_,_,_,rfl,rfl,BK.of hp,rfl,(by show 1<=sizeLine;decide),fun q1 hq1=>?_⟩;have e2:=Ag hq1 (.lst [V.ref U]);have h2:upd H1 q1 (.lst [V.ref U]) q1=some (.lst [V.ref U]):=AR;generalize upd H1 q1 (.lst [V.ref U])=H2 at e2 h2;refine⟨R,q1,_,_,rfl,rfl,e2 _ _ hR,h2,uX (by simp;lia),fun C0 hC0=>?_⟩;have e3:=Ag hC0 (.lst (xs++[V.ref U]));have h3:upd H2 C0 (.lst (xs++[V.ref U])) C0=some (.lst (xs++[V.ref U])):=AR;generalize upd H2 C0 (.lst (xs++[V.ref U]))=H3 at e3 h3;have E3:=(e1.trans e2).trans e3;have E13:=e2.trans e3;have get:∀(i:Nat) (row:List Rat),(t.rs++[t.ls])[i]? = some row->∃(a:AD) (T:IZ),(xs++[V.ref U])[i]? = some Hf/\H3 a=some (.lst T)/\CK H3 (Be row) T/\row.length<=50/\∀q∈row,FM.Fits q n:=fun i row hi=>by
  by_cases z:i<t.rs.length
  .rw[List.getElem?_append_left z]at hi;rw[List.getElem?_append_left AC];obtain⟨a,T,g1,g2,g3⟩:=O7 dR hi;exact⟨a,T,g1,E13 _ _ g2,g3.same E13,by rw[ot.row i row hi];lia,ft.1 row (aN hi)⟩
  .rw[List.getElem?_append_right AC]at hi;have:i-t.rs.length=0:=by
    have:=(aD.mp hi).1;simp at this
    lia
   rw[this]at hi;cases hi;rw[List.getElem?_append_right AC,hxl,this];exact⟨U,ys,rfl,E13 _ _ hL',dL.same E13,by lia,ft.2⟩
 have hal:(t.rs++[t.ls]).length=(xs++[V.ref U]).length:=by rw[(Gf),(Gf),hxl];rfl
 have hal60:(xs++[V.ref U]).length<60:=by rw[(Gf),hxl];simp;lia
 refine⟨C0,rfl,⟨_,Aw.of h3⟩,fun D hD=>Hv (n:=(xs++[V.ref U]).length) (fun i us H'=>AL H3 H'/\us.length=i/\∀(j:Nat) (row:List Rat),j<i->(t.rs++[t.ls])[j]? = some row->∃a:AD,us[j]? = some Hf/\H' a=some (.lst ((LY row (Et t)).map V.int))/\a≠D) ?_ ?_ ?_⟩
 .exact⟨Ag hD _,rfl,fun j row hj=>absurd hj (av _)⟩
 .rintro i us H4 hi ⟨e4,hul,hus⟩ hD4;have hr:(t.rs++[t.ls])[i]? = some ((t.rs++[t.ls])[i]' AC):=aG _;generalize (t.rs++[t.ls])[i]' AC=row at hr;obtain⟨a,T,g1,g2,g3,g4,g5⟩:=get i row hr;refine⟨⟨_,.ref a,Aw.of (e4 _ _ h3),g1⟩,Se (n:=60) AC AT,fun x H' y=>?_⟩;obtain⟨rfl,y⟩:=y;have hx:=y _ (Aw.of (e4 _ _ h3));rw[g1]at hx;cases hx;unfold Jh;refine L3 ⟨_,rfl,_,rfl,a,T,row,Et t,n,k,rfl,e4 _ _ g2,g3.same e4,g4,g5,hB,hnk,fun D5 H5 e5 n5 h5=>⟨e5 _ _ hD4,FW hi ⟨fun b o z=>?_,by simp[hul],fun j Y hj hr'=>?_⟩⟩⟩
  .rw[AN (Am z hD)];exact e5 _ _ (e4 _ _ z)
  .by_cases z:j<i
   .obtain⟨b,k1,k2,k3⟩:=hus j Y z hr';exact⟨b,by rw[List.getElem?_append_left AC];exact k1,by rw[AN k3];exact e5 _ _ k2,k3⟩
   .have:j=i:=by lia
    subst this;rw[hr]at hr';cases hr';have nD:D5≠D:=fun z=>by rw[z,hD4]at n5;cases n5
    exact⟨D5,by rw[List.getElem?_append_right AC,hul,Nat.sub_self];rfl,by rw[AN nD];exact h5,nD⟩
 rintro rvs H4 ⟨e4,hul,hus⟩ hD4;refine⟨⟨_,Aw.of (e4 _ _ h3),Nat.le_refl _⟩,?_⟩;have E4:=E3.trans e4;have hrw:V7 H4 rvs (FK t):=by
  refine⟨by rw[hul,<-hal];exact(ba _).symm,fun j row hj=>?_⟩;unfold FK at hj;rw[(CD)]at hj;cases hj':(t.rs++[t.ls])[j]? with
  |none=>rw[hj']at hj;cases hj
  |some Y=>
   rw[hj']at hj;cases hj;obtain⟨a,k1,k2,_⟩:=hus j Y (by rw[<-hal];exact(aD.mp hj').1) hj';exact⟨a,k1,k2⟩
 have hDn:H D=none:=FL E3 hD;refine fun d hd=>?_;have e5:=Ag hd (dN d []);have h5:upd H4 d (dN d []) d=some (dN d []):=AR;generalize upd H4 d (dN d [])=H5 at e5 h5;refine⟨(by show 0<=sizeLine;decide),fun W hW=>?_⟩;have e6:=Ag hW PZ;have h6:upd H5 W PZ W=some PZ:=AR;generalize upd H5 W PZ=H6 at e6 h6;have hdn:=FL E4 hd;have E5:=E4.trans e5;have hWn:=FL E5 hW;have E6:=E5.trans e6;have hdW:d≠W:=fun z=>by rw[<-z,h5]at hW;cases hW
 have W4:H4 W=none:=FL e5 hW;refine⟨_,rfl,L,rfl,⟨_,Aw.of (E6 _ _ hL)⟩,SG (xs:=tvs) (fun i σ H'=>∃(r6:Option V) (ρ:Ty) (T:IZ),σ=[some (.ref p),some (.ref L),some (.int (Et t)),some (.ref D),some (.ref d),some (.ref W),r6]/\AL H4 H'/\Memo Dm (FK t) W H' d ρ/\H' W=some (.lst T)/\Jn H' T ((ts.take i).map (NW t))) ?_ ?_ ?_ ?_⟩
 .refine⟨_,[],[],rfl,e5.trans e6,⟨e6 _ _ h5,.nil,fun q hq=>by cases hq⟩,h6,rfl,fun i q hi=>by cases hi⟩
 .rintro i σ H' _ ⟨r6,ρ,T,rfl,e,_⟩;exact Aw.of (e _ _ (E4 _ _ hL))
 .rintro i x σ H7 hx ⟨r6,ρ,T,rfl,e7,Z,hW7,fl7⟩;obtain⟨u,hu,tu,hD,h8,hk⟩:=hall i x hx;have E7:=E4.trans e7;refine⟨_,rfl,.inl ⟨rfl,_,Aw.of hW7⟩,_,rfl,_,rfl,_,rfl,D,rvs,FK t,x,u,d,ρ,W,rfl,e7 _ _ hD4,hrw.same e7,ro,tu.same E7,hD,DO.deep u hD,⟨_,hW7⟩,Z,fun H8 ρ8 l e8 me8 hl8=>?_⟩;have tu8:=(tu.same E7).BC (e8.BC Z.at_);have hW8:=e8.lst Z.at_ hW7;have fl8:=fl7.BC (e8.BC Z.at_);have hne:(FR (FK t) u).length=(t.rs++[t.ls]).length:=(Ng _ _).trans (ba _);have hE8:AL H4 H8:=fun b o z=>e8 _ _ (fun y=>by rw[y,hd]at z;cases z) (e7 _ _ z);refine⟨_,rfl,_,_,_,_,rfl,rfl,Aw.of hl8,nY (by rw[hne,(Gf)];simp),?_⟩;refine⟨_,rfl,_,rfl,x,u,rfl,tu8,DO.deep u hD,h8,fun H9 e9=>?_⟩;refine⟨Et t,u.AI,k,rfl,hB,hk,?_⟩;obtain⟨mb,hmb,hpb⟩:=jb hB hk;refine⟨_,_,mb,rfl,qM hB1 _,hmb,hpb,fun l' H10 e10 hl10=>?_⟩;have g:=e9.trans e10;refine⟨W,T,.ref l',rfl,rfl,g _ _ hW8,MA ?_,?_⟩
  .rw[fl7.1,(BJ),(II)];lia
  .refine⟨_,ρ8,_,rfl,fun b o z=>?_,⟨?_,me8.nd,fun q' hq'=>?_⟩,AR,?_⟩
   .rw[AN (Am z W4)];exact g _ _ (hE8 _ _ z)
   .rw[AN hdW];exact g _ _ me8.at_
   .obtain⟨u',l2,k1,k2,k3,k4,k5,k6⟩:=me8.all q' hq';exact⟨u',l2,k1,k2,(k3.same g).BC (ME.upd (g _ _ hW8)),k4,by rw[AN k6];exact g _ _ k5,k6⟩
   .rw[(OV),hu,(Ep)];refine((fl8.BC (.of g)).snoc (q:=NW t u) hl10).BC (ME.upd (g _ _ hW8))
 .rintro σ H7 ⟨r6,ρ,T,rfl,e7,Z,hW7,fl7⟩;rw[htl,(JB)]at fl7;exact⟨_,rfl,q W H7 T (E4.trans e7) hWn hW7 fl7.Z2⟩
end
def pF{P:F0b}{w:F0c}{K:Fg}{mg:y0}{base:Heap}{CX:Iw}{k:Nat}{f:AD}{fd:F0a}{ps:zC}(G:AK P w K mg base CX k f fd ps Y6):AK P w K mg base CX k f fd ps lj:=G.imp fun vs H Q E z=>by
 obtain⟨a,bs,k,rfl,ha,g,R,q⟩:=z;obtain⟨Y,U,T⟩:=Uy g;exact⟨a,bs,k,rfl,ha,g,R,q _ Y (by rw[Nat.add_comm];exact U) T⟩
section
variable{P:F0b}{w:F0c}{K:Fg}{mg:y0}{base:Heap}{f g:AD}{fd:F0a}
def Xv:Ac ["_law_top","_law_bottom","_law_one","_law_other"] OR (AO IU):=CG
def W8(F:Fn K mg "_law_frac" IU OR f fd)(M8:mg "abs" = none):AK P w K mg base Af 1 f fd OR Sy:=by
 have sc:=Xv;refine F.F.ok (k:=0) sc KT IS
 .obtain⟨t,b,m,rfl,_⟩:=h
  rfl
 obtain⟨t,b,m,rfl,Y,hm,hs,q⟩:=h;refine⟨_,(Ae (BM (i:=2) sc.nd rfl As (EA Oo rfl M8 PyProof.Rows.boot_abs (AM (pv 0) Ad)))
 (Ae (BM (i:=3) sc.nd rfl As (EA Oo rfl M8 PyProof.Rows.boot_abs (AM kS Ad)))
 (Ae (SV aR (EY UQ (pv 3) Au Tl)
  (BE (tY (i:=2) (j:=3) rfl sc.nd rfl rfl AT rfl rfl (AM (pv 3) (AM (BW Nf (pv 2) (pv 3)) Ad)) rfl)))
 (Ae (JR (EY dY kS Au Tl)
  (BE (BM (i:=2) sc.nd rfl As (BW XT Au (pv 2))))
  GI)
 (BE (Cp (Kg (AM (BW Ip (pv 0) (pv 2)) (AM (BW Ip kS (pv 2)) Ad))))))))),?_⟩
 refine⟨_,rfl,_,rfl,_,rfl,_,rfl,?_⟩;refine SI (fun σ H'=>∃g l,σ=[some (.int t),some (.int b),some (.int g),some (.int l)]/\H=H'/\Int.gcd g l=Int.gcd t b/\0<=g/\0<=l) (fun σ _=>wI σ) ?_ ?_ ?_
 .exact⟨_,_,rfl,rfl,FM.Z7 t b,FM.abs_nonneg t,FM.abs_nonneg b⟩
 .rintro σ H' ⟨g,l,rfl,rfl,hg,h0,U⟩;refine⟨_,rfl,_,_,rfl,rfl,_,rfl,MI (fun c=>?_) (fun c=>?_)⟩
  .have Z:0<l:=aP c;have T:l≠0:=by lia
   refine⟨_,rfl,_,rfl,_,rfl,_,_,rfl,rfl,T,_,_,rfl,⟨_,_,rfl,rfl,?_,U,FM.fmod_nonneg T U⟩,?_⟩
   .rw[FM.XQ];exact hg
   .exact FM.Vi g l T
  .have Z:¬0<l:=bR (bV.mpr c);have T:l=0:=by lia
   subst T;rw[FM.fc hg h0]
   try dsimp only[F5]
   refine R8 (fun R H'=>R=[some (.int t),some (.int b),some (.int (FM.gs t b)),some (.int 0)]/\H=H') (fun nx hn=>?_) ?_
   .refine⟨_,rfl,_,_,rfl,rfl,_,rfl,MI (fun c=>?_) (fun c=>?_)⟩
    .have c':b<0:=aP c;refine⟨_,rfl,_,_,rfl,rfl,hn _ _ ⟨?_,rfl⟩⟩;show [some (V.int t),some (V.int b),some (V.int (0-FM.gi t b)),some (V.int 0)]=_;unfold FM.gs;rw[if_pos c',Int.zero_sub]
    .have c':¬b<0:=bR (bV.mpr c);refine hn _ _ ⟨?_,rfl⟩;unfold FM.gs;rw[if_neg c']
   .rintro R H' ⟨rfl,rfl⟩;have h0:FM.gs t b≠0:=FM.lH Y;have U:(FM.gs t b).natAbs<2^m:=aW (FM.lG Y) hs;refine⟨_,rfl,_,rfl,_,_,rfl,rfl,⟨h0,m,hm,U⟩,_,rfl,_,rfl,_,_,rfl,rfl,⟨h0,m,hm,U⟩,RE,fun p hp=>?_⟩;refine q p _ (Ag hp _) ?_;rw[AR];show some (HO.tup [V.int (t.fdiv (FM.gs t b)),V.int (b.fdiv (FM.gs t b))])=_;rw[FM.ZD Y,FM.YG Y]
    rfl
 .exact fun σ H Q Q' hq ⟨v,e,i,j,e1,e2,k,e3,q⟩=>⟨v,e,i,j,e1,e2,k,e3,hq _ _ q⟩
end
section
variable{P:F0b}{w:F0c}{K:Fg}{mg:y0}{base:Heap}{f:AD}{fd:F0a}
def TZ:Ac KM KM (AO DK):=CG
def OB(AX:MD):DF :=
 (Bd (Ai Ek By (AU di (AB (Hy (Cm 1) Ee (AU AX iS) [none,none] (D4 eG)) AG))))
def AX:Nat->MD
 |0=>fun _=>none
 |n+1=>Cf KM KM (OB (AX n))
theorem NB{k:Nat}(g:Fn K mg "knots_within" DK KM f fd)(R:mg "sum" = none):∀n,
  AK P w K mg base Af (k+n+1) f fd KM (A6 (AX n))
 |0=>Ez fun _ _ _ _ ⟨_,_,_,h,_⟩=>by cases h
 |n+1=>by
  have sc:=TZ;have U:=NB (k:=k) g R n;refine Fc (k:=k+n+1) (F:=OB (AX n)) g sc fun cdv A outer s H E T=>?_;exact(AV (A0 (A3 Ck AJ (DH (fk rfl) rfl R bj (AA (N4 [".0","bough"] 1 [none,none] (C6 Ci) al (fun _ _ _ _ _=>(Aa g U T rfl (AA Fr AF)))) AF)))))
def Q8:Ac ["tree","density","bough"] KM (AO Il):=CG
def L5(AX:MD)(BS:MD):DF :=
 (Ar (CN 1 (AU AX Db))
 (Ar (FH (D4 eG) (Jv 2)
  (CN 1 (Ai Gg KK (AU BS PU))))
 (Bd KK)))
def BS(AX:MD):Nat->MD
 |0=>fun _=>none
 |n+1=>Cf KM ["tree","density","bough"] (L5 AX (BS AX n))
theorem LP{k:Nat}{AX:MD}(R:Fn K mg "density_within" Il KM f fd)
 {U:AD}{Y:F0a}(Z:Fn K mg "knots_within" DK KM U Y)(g:AK P w K mg base Af k U Y KM (A6 AX)):∀n,
  AK P w K mg base Af (k+n+1) f fd KM (A6 (BS AX n))
 |0=>Ez fun _ _ _ _ ⟨_,_,_,h,_⟩=>by cases h
 |n+1=>by
  have sc:=Q8;have FI:=LP (k:=k) (AX:=AX) R Z g n;have g:=g.mono (show k<=k+n+1 by lia);refine Fc (k:=k+n+1) (F:=L5 AX (BS AX n)) R sc fun cdv A outer s H E T=>?_;exact(AQ (Bb (i:=1) sc.nd rfl As (Aa Z g T rfl dl))
 (AQ (Dj aR rfl (C6 Ci) (FA iF)
  (AV (Bb (i:=1) sc.nd rfl As (A3 Fq Fr (Aa R FI T rfl (AA Iu AF))))))
 (AV (A0 Fr))))
def Jm:Ac ["boughs"] ["boughs"] (AO Fe):=CG
def Pr:DF :=
 (Bd (AU PB (AB (AU (MY true) Db) AG)))
def AY:MD:=Cf ["boughs"] ["boughs"] (Pr)
def Po{k:Nat}(F:Fn K mg "in_falling_order" Fe ["boughs"] f fd)(R:mg "sorted" = none)(T:mg "tuple" = none):AK P w K mg base Af Pi f fd ["boughs"] (A6 (AY)):=Fc F Jm fun cdv A outer s H E g=>by
 have sc:=Jm;exact(AV (A0 (Vh Yp rfl T bc (AA (Yc Ca rfl R dl (fun h=>Yz Ca rfl R h)) AF))))
def Pl:Ac ["tree","larger","k","bough","grown"] KM (AO Hh):=CG
def Kr(AY:MD)(BD:MD):DF :=
 (Ar (ei 1 (AB (AU AY (AB (Ai Ek eG (BA (AB (BA AG) AG))) AG)) AG))
 (Ar (FH (HN UN Db) (Fw 2 3)
  (FH (D4 (AU BD (AB (nm 3) AG))) (Jv 4)
   (kR 1 (AU AY (AB (Ai Ek (Ai Ek (eS eG Wv (Wn (nm 2))) (BA (AB (nm 4) AG))) (eS eG (Wn (Ai Ek (nm 2) By)) Wv)) AG)))))
 (ef 1)))
def BD(AY:MD):Nat->MD
 |0=>fun _=>none
 |n+1=>Cf KM ["tree","larger","k","bough","grown"] (Kr AY (BD AY n))
theorem Jr{k:Nat}{AY:MD}(T:Fn K mg "trees_one_larger" Hh KM f fd)
 {Y:AD}{Z:F0a}(U:Fn K mg "in_falling_order" Fe ["boughs"] Y Z)(g:AK P w K mg base Af k Y Z ["boughs"] (A6 AY))(C5:mg "enumerate" = none):∀n,
  AK P w K mg base Af (k+n+1) f fd KM (A6 (BD AY n))
 |0=>Ez fun _ _ _ _ ⟨_,_,_,h,_⟩=>by cases h
 |n+1=>by
  have sc:=Pl;have EM:=Jr (k:=k) (AY:=AY) T U g C5 n;have g:=g.mono (show k<=k+n+1 by lia);refine Fc (k:=k+n+1) (F:=Kr AY (BD AY n)) T sc fun cdv A outer s H E R=>?_;exact(AQ (T5 (i:=1) sc.nd rfl As (AA (Aa U g R rfl (AA (A3 Ck Ci (Aq (AA (Aq AF) AF))) AF)) AF))
 (AQ (Dj aR rfl (VA rfl C5 dl) (MF (IV rfl (B7 iF (B7 (Ay (i:=3) sc.nd rfl As) HE))))
  (AV (Dj aR rfl (C6 (Aa T EM R rfl (AA PN AF))) (FA (Ay (i:=4) sc.nd rfl As))
   (AV (QY kS (Aa U g R rfl (AA (A3 Ck (A3 Ck (O6 Ci Qy (Qz Iu)) (Aq (AA (AE (pv 4)) AF))) (O6 Ci (Qz (A3 Ck Iu AJ)) Qy)) AF)) (fun ho ha=>E8 (Ic aq bJ bK Gb ho ha)))))))
 (AV (bp kS))))
def Rx:Ac ["many","trees","knots","larger","tree"] ["many"] (AO OX):=CG
def ey(BD:MD)(g:AD):GV :=
 (KN (Yb (Mm (CT (Hj fun i j=>decide (i<j)) eG By) (CT (Hj fun i j=>decide (j<i)) eG (fC (.int 7))))
  (OA g (fC (.str (Str.ofString "trees are listed for 1 to 7 knots"))))
  (fun δ=>some (.inl (.nx δ))))
 (Vp (Ar (CN 1 (Co (AB (BA AG) AG)))
 (Ar (FH (HN ej (AB By Db)) (Jv 2)
  (Ar (ei 3 AG)
  (Ar (FH (D4 KK) (Jv 4)
   (tG 3 (AU BD (AB (nm 4) AG))))
  (Si 3 (CN 1 (fun δ=>((nm 3) δ).bind OP))))))
 (Bd KK)))))
def Ew(BD:MD)(g:AD):rW:=GN ["many"] ["many","trees","knots","larger","tree"] (ey BD g)
def Zb{k:Nat}{BD:MD}{R:AD}(F:Fn K mg "trees_of" OX ["many"] f fd) {Y:AD}{Z:F0a}(CL:Fn K mg "trees_one_larger" Hh KM Y Z)(EM:AK P w K mg base Af k Y Z KM (A6 BD))(DJ:mg "range" = none)(Qs:mg "set" = none)(Bx:mg "sorted" = none){g:Tok}(GW:mg "MOST_KNOTS" = some (.int 7 g))(T:Exc K mg "TooMany" R):AK P w K mg base Kf Pi f fd ["many"] (Dy (Ew BD R)):=QX F Rx fun cdv A outer s H E U=>by
 have sc:=Rx;exact(Gi (S9 (DW.dt (JG (B3 Wt Ci AJ Tl) (GY (B3 TU Ci (SR rfl GW) Tl))))
  (HG (by exact MQ T T7 Pt))
  N7)
 (N2 (AQ (Bb (i:=1) sc.nd rfl As (Bg (AA (Aq AF) AF)))
 (AQ (Dj aR rfl (WN rfl DJ (AA AJ dl)) (FA iF)
  (AQ (T5 (i:=3) sc.nd rfl As AF)
  (AQ (Dj aR rfl (C6 Fr) (FA (Ay (i:=4) sc.nd rfl As))
   (AV (Vt (pv 3) (Aa CL EM U rfl (AA (AE (pv 4)) AF)) (fun ho ha=>E8 (Ic aq PySem.F.slot_list_extend PySem.F.type_list_extend QW ho ha)))))
  (AV (OD 3 (Bb (i:=1) sc.nd rfl As (TQ rfl (by have:=U.units;exact this) rfl Bx rfl Qs PN)))))))
 (AV (A0 Fr))))))
def RS:Ac ["most","trees","many"] cr (AO Ff):=CG
def dA(Ew:rW)(g:AD):GV :=
 (KN (Yb (Mm (CT (Hj fun i j=>decide (i<j)) eG Iv) (CT (Hj fun i j=>decide (j<i)) eG (fC (.int 7))))
  (OA g (fC (.str (Str.ofString "trees are listed up to 0 to 7 knots"))))
  (fun δ=>some (.inl (.nx δ))))
 (Vp (Ar (ei 1 AG)
 (Ar (FH (HN ej (AB By (AB (Ai Ek eG By) AG))) (Jv 2)
  (tG 1 (AU (good Ew) PU)))
 (ef 1)))))
def Ab(Ew:rW)(g:AD):rW:=GN cr ["most","trees","many"] (dA Ew g)
def ZS{k:Nat}{Ew:rW}{R:AD}(F:Fn K mg "trees_to" Ff cr f fd) {U:AD}{Y:F0a}(Le:Fn K mg "trees_of" OX ["many"] U Y)(Oq:AK P w K mg base Kf k U Y ["many"] (Dy Ew))(DJ:mg "range" = none){g:Tok}(GW:mg "MOST_KNOTS" = some (.int 7 g))(T:Exc K mg "TooMany" R):AK P w K mg base Kf Pi f fd cr (Dy (Ab Ew R)):=QX F RS fun cdv A outer s H E Z=>by
 have sc:=RS;exact(Gi (S9 (DW.dt (JG (B3 Wt Ci AJ Tl) (GY (B3 TU Ci (SR rfl GW) Tl))))
  (HG (by exact MQ T T7 Pt))
  N7)
 (N2 (AQ (T5 (i:=1) sc.nd rfl As AF)
 (AQ (Dj aR rfl (WN rfl DJ (AA AJ (AA (A3 Ck Ci AJ) AF))) (FA iF)
  (AV (Vt kS (Aa Le (Jb Oq) Z rfl (AA Iu AF)) (fun ho ha=>E8 (Ic aq PySem.F.slot_list_extend PySem.F.type_list_extend QW ho ha)))))
 (AV (bp kS))))))
def RL:Ac Ev Ev (AO PC):=CG
def dk:DF :=
 (Bd (YR (S0 gU eG) (we (S0 Zh eG))))
def Dp:MD:=Cf Ev Ev (dk)
def ZU{k:Nat}(F:Fn K mg "is_whole" PC Ev f fd)(T:mg "bool" = none)(R:mg "int" = none)(g:mg "isinstance" = none):AK P w K mg base Af Pi f fd Ev (A6 (Dp)):=Fc F RL fun cdv A outer s H E U=>by
 have sc:=RL;exact(AV (A0 (UO (MC (jQ _) rfl g rfl R PyProof.Rows.boot_int Ci) (Xl (rp (MC (fm _) rfl g rfl T PyProof.Rows.boot_bool Ci))))))
def Nq:Ac Ev Ev (AO K3):=CG
def PM(g:MD)(Dp:MD):DF :=
 (Ar (GG (Mm (JO (Ik (S0 UT eG))) (CT (EU true) (AU IJ Db) T9))
  (Bd TD)
  C9)
 (Ar (GG (Mm (JO (Ik (AU Dp (AB (Ai DD eG Iv) AG)))) (JO (Ik (AU Dp (AB (Ai DD eG By) AG)))))
  (Bd TD)
  C9)
 (Bd (YR (Ai (Hj fun i j=>decide (j<=i)) (Ai DD eG By) By) (Ai (EU false) (AU g (AB (Ai DD eG Iv) (AB (Ai DD eG By) AG))) By)))))
def DC(g:MD)(Dp:MD):MD:=Cf Ev Ev (PM g Dp)
def U1{k:Nat}{DM:MD}{Dp:MD}(F:Fn K mg "is_fraction" K3 Ev f fd) {Y:AD}{Z:F0a}(BZ:Fn K mg "greatest_divisor" EV JJ Y Z)(Cj:AK P w K mg base Af k Y Z JJ (A6 DM)) {R:AD}{T:F0a}(JD:Fn K mg "is_whole" PC Ev R T)(U:AK P w K mg base Af k R T Ev (A6 Dp))(BF:mg "isinstance" = none)(B8:mg "len" = none)(DQ:mg "tuple" = none):AK P w K mg base Af Pi f fd Ev (A6 (DC DM Dp)):=Fc F Nq fun cdv A outer s H E g=>by
 have sc:=Nq;exact(AQ (Di (DW.dt (JG (GC (GJ (MC (SU _) rfl BF rfl DQ bc Ci))) (GY (B3 (Mp Ca) (DH Hc rfl B8 bC dl) AJ Tl))))
  (AV (A0 F6))
  CH)
 (AQ (Di (DW.dt (JG (GC (GJ (Aa JD U g rfl (AA iN AF)))) (GY (GC (GJ (Aa JD U g rfl (AA iN AF)))))))
  (AV (A0 F6))
  CH)
 (AV (A0 (UO (Tz mG iN AJ Tl) (Xl (Tz (KQ Ca) (Aa BZ Cj g rfl (AA iN (AA iN AF))) AJ Tl)))))))
def Mc:Ac ["thing","part"] Ev (AO Fp):=CG
def Ml(DC:MD):DF :=
 (Ar (GG (JO (Ik (S0 Xi eG)))
  (Bd TD)
  C9)
 (Ar (FH (D4 eG) (Jv 1)
  (GG (JO (Ik (AU DC iS)))
   (Bd TD)
   C9))
 (Bd (fC Jq))))
def Ak(DC:MD):MD:=Cf Ev ["thing","part"] (Ml DC)
def So{k:Nat}{DC:MD}(F:Fn K mg "are_fractions" Fp Ev f fd) {g:AD}{R:F0a}(Z:Fn K mg "is_fraction" K3 Ev g R)(Y:AK P w K mg base Af k g R Ev (A6 DC))(BF:mg "isinstance" = none)(U:mg "list" = none):AK P w K mg base Af Pi f fd Ev (A6 (Ak DC)):=Fc F Mc fun cdv A outer s H E T=>by
 have sc:=Mc;exact(AQ (Di (GC (GJ (MC (Y1 _) rfl BF rfl U PyProof.Rows.boot_list Ci)))
  (AV (A0 F6))
  CH)
 (AQ (Dj aR rfl (C6 Ci) (FA (Ay (i:=1) sc.nd rfl As))
  (AV (Di (GC (GJ (Aa Z Y T rfl (AA Fr AF))))
   (AV (A0 F6))
   CH)))
 (AV (A0 F6))))
def RU:Ac ["thing","k","row"] Ev (AO Oy):=CG
def UM(Ak:MD):DF :=
 (Ar (GG (Mm (JO (Ik (S0 Xi eG))) (Mm (CT (Hj fun i j=>decide (i<j)) (AU IJ Db) By) (CT (Hj fun i j=>decide (j<i)) (AU IJ Db) (fC (.int 40)))))
  (Bd TD)
  C9)
 (Ar (FH (HN UN Db) (Fw 1 2)
  (GG (Mm (JO (Ik (AU Ak PU))) (CT (EU true) (AU IJ PU) KK))
   (Bd TD)
   C9))
 (Bd (fC Jq))))
def Eu(Ak:MD):MD:=Cf Ev ["thing","k","row"] (UM Ak)
def ZK{k:Nat}{Ak:MD}(F:Fn K mg "are_rows" Oy Ev f fd) {U:AD}{Y:F0a}(CJ:Fn K mg "are_fractions" Fp Ev U Y)(Ce:AK P w K mg base Af k U Y Ev (A6 Ak))(C5:mg "enumerate" = none)(BF:mg "isinstance" = none)(R:mg "len" = none)(N5:mg "list" = none){g:Tok}(Z:mg "MOST_ROWS" = some (.int 40 g)):AK P w K mg base Af Pi f fd Ev (A6 (Eu Ak)):=Fc F RU fun cdv A outer s H E T=>by
 have sc:=RU;exact(AQ (Di (DW.dt (JG (GC (GJ (MC (Y1 _) rfl BF rfl N5 PyProof.Rows.boot_list Ci))) (JG (B3 Wt (DH Hc rfl R bC dl) AJ Tl) (GY (B3 TU (DH Hc rfl R bC dl) (SR rfl Z) Tl)))))
  (AV (A0 F6))
  CH)
 (AQ (Dj aR rfl (VA rfl C5 dl) (MF (IV rfl (B7 (Ay (i:=1) sc.nd rfl As) (B7 iF HE))))
  (AV (Di (DW.dt (JG (GC (GJ (Aa CJ Ce T rfl (AA Iu AF)))) (GY (B3 (Mp (by have:=T.units;exact this)) (DH Hc rfl R bC (AA Iu AF)) Fr Tl))))
   (AV (A0 F6))
   CH)))
 (AV (A0 F6))))
def RQ:Ac Ev Ev (AO OT):=CG
def TV(Ak:MD)(Eu:MD):DF :=
 (Ar (GG (Mm (JO (Ik (S0 UT eG))) (CT (EU true) (AU IJ Db) T9))
  (Bd TD)
  C9)
 (Bd (YR (AU Eu (AB (Ai DD eG Iv) AG)) (YR (AU Ak (AB (Ai DD eG By) AG)) (Ai (EU false) (AU IJ (AB (Ai DD eG By) AG)) (AU IJ (AB (Ai DD eG Iv) AG)))))))
def Eo(Ak:MD)(Eu:MD):MD:=Cf Ev Ev (TV Ak Eu)
def ZP{k:Nat}{Ak:MD}{Eu:MD}(F:Fn K mg "is_table" OT Ev f fd) {Y:AD}{Z:F0a}(CJ:Fn K mg "are_fractions" Fp Ev Y Z)(Ce:AK P w K mg base Af k Y Z Ev (A6 Ak)) {T:AD}{U:F0a}(Li:Fn K mg "are_rows" Oy Ev T U)(O1:AK P w K mg base Af k T U Ev (A6 Eu))(BF:mg "isinstance" = none)(R:mg "len" = none)(DQ:mg "tuple" = none):AK P w K mg base Af Pi f fd Ev (A6 (Eo Ak Eu)):=Fc F RQ fun cdv A outer s H E g=>by
 have sc:=RQ;exact(AQ (Di (DW.dt (JG (GC (GJ (MC (SU _) rfl BF rfl DQ bc Ci))) (GY (B3 (Mp Ca) (DH Hc rfl R bC dl) AJ Tl))))
  (AV (A0 F6))
  CH)
 (AV (A0 (UO (Aa Li O1 g rfl (AA iN AF)) (UO (Aa CJ Ce g rfl (AA iN AF)) (Xl (Tz (KQ Ca) (DH Hc rfl R bC (AA iN AF)) (DH Hc rfl R bC (AA iN AF)) Tl)))))))
def Kl:Ac Ev Ev (AO IL):=CG
def LH(Eo:MD)(g:AD):GV :=
 (Yb (JO (Ik (AU Eo Db)))
  (OA g (fC (.str (Str.ofString "a table is a tuple of rows, the k-th of k fractions, and a last of as many as there are rows"))))
  (fun δ=>some (.inl (.nx δ))))
def CC(Eo:MD)(g:AD):rW:=GN Ev Ev (LH Eo g)
def P8{k:Nat}{Eo:MD}{g:AD}(F:Fn K mg "refuse_no_table" IL Ev f fd) {T:AD}{U:F0a}(Lk:Fn K mg "is_table" OT Ev T U)(Z:AK P w K mg base Af k T U Ev (A6 Eo))(R:Exc K mg "NoTable" g):AK P w K mg base Kf Pi f fd Ev (Dy (CC Eo g)):=QX F Kl fun cdv A outer s H E Y=>by
 have sc:=Kl;exact(HG (S9 (GC (GJ (Aa Lk Z Y rfl dl)))
  (HG (by exact MQ R T7 Pt))
  N7))
def LR:Ac ["table","most"] ["table","most"] (AO Io):=CG
def MU(CC:rW)(Ab:rW)(R:MD):GV :=
 (KN (OZ CC Db fun _ δ=>.nx δ)
 (xE (CP (DY (wV eG) (DY (CP (ER iS) Ab) (ER AG))) fun g=>(R g).map .inl) fun x _=>.rt x))
def CM(CC:rW)(Ab:rW)(g:MD):rW:=GN ["table","most"] ["table","most"] (MU CC Ab g)
def RC{k:Nat}{CC:rW}{Ab:rW}{Z:MD}(F:Fn K mg "table_weighing" Io ["table","most"] f fd) {U:AD}{Y:F0a}(F9:Fn K mg "refuse_no_table" IL Ev U Y)(IM:AK P w K mg base Kf k U Y Ev (Dy CC)) {B4:AD}{Bm:F0a}(Bj:Fn K mg "trees_to" Ff cr B4 Bm)(Bs:AK P w K mg base Kf k B4 Bm cr (Dy Ab)) {R:AD}{T:F0a}(HP:Fn K mg "weights_under" JH ["table","trees"] R T)(JU:AK P w K mg base Af k R T ["table","trees"] (A6 Z)):AK P w K mg base Kf Pi f fd ["table","most"] (Dy (CM CC Ab Z)):=QX F LR fun cdv A outer s H E g=>by
 have sc:=LR;exact(Gi (by exact a6 F9 IM g HW (by exact dl) (fun h=>E8 h))
 (HG (by exact Us (Fu HP (lK JU) g HW (KA (qw Ci) (KA (Fu Bj Bs g HW (IY (by exact(AA Fr AF)))) (IY (by exact AF))))))))
def Iz:Ac Ev Ev (AO Gp):=CG
def Jd(Ak:MD)(g:AD):GV :=
 (Yb (Mm (JO (Ik (AU Ak Db))) (Ik (fun δ=>((AU IJ Db) δ).bind (mH true [0,1,2,4,8,17,37,85]))))
  (OA g (fC (.str (Str.ofString "a weighing is a list of a fraction for each tree of at most 0 to 7 knots"))))
  (fun δ=>some (.inl (.nx δ))))
def Bi(Ak:MD)(g:AD):rW:=GN Ev Ev (Jd Ak g)
def Nk{k:Nat}{Ak:MD}{T:AD}(F:Fn K mg "refuse_no_weighing" Gp Ev f fd) {Y:AD}{Z:F0a}(CJ:Fn K mg "are_fractions" Fp Ev Y Z)(Ce:AK P w K mg base Af k Y Z Ev (A6 Ak))(B8:mg "len" = none){g:AD}(DN:mg "WEIGHING_LENGTHS" = some (.ref g))(R:Own K g [0,1,2,4,8,17,37,85])(U:Exc K mg "NoWeighing" T):AK P w K mg base Kf Pi f fd Ev (Dy (Bi Ak T)):=QX F Iz fun cdv A outer s H E hr=>by
 have sc:=Iz;exact(HG (S9 (DW.dt (JG (GC (GJ (Aa CJ Ce hr rfl dl))) (GY (pj YZ (DH Hc rfl B8 bC dl) rfl DN R))))
  (HG (by exact MQ U T7 Pt))
  N7))
def LO:Ac IQ IQ (AO ED):=CG
def Md(Bi:rW):GV :=
 (KN (OZ Bi Db fun _ δ=>.nx δ)
 (Vp (Bd (fun δ=>((AU IJ Db) δ).bind (gL [0,1,2,4,8,17,37,85])))))
def AZ(Bi:rW):rW:=GN IQ IQ (Md Bi)
def RB{k:Nat}{Bi:rW}(F:Fn K mg "weighing_reach" ED IQ f fd) {T:AD}{U:F0a}(Ej:Fn K mg "refuse_no_weighing" Gp Ev T U)(Z:AK P w K mg base Kf k T U Ev (Dy Bi))(B8:mg "len" = none){g:AD}(DN:mg "WEIGHING_LENGTHS" = some (.ref g))(R:Own K g [0,1,2,4,8,17,37,85]):AK P w K mg base Kf Pi f fd IQ (Dy (AZ Bi)):=QX F LO fun cdv A outer s H E Y=>by
 have sc:=LO;exact(Gi (by exact a6 Ej Z Y HW (by exact dl) (fun h=>E8 h))
 (N2 (AV (A0 (fJ (DH Hc rfl B8 bC dl) rfl DN R)))))
def Mt:Ac ["trees"] ["trees"] (AO J7):=CG
def Nl(BS:MD):DF :=
 (M6 (CV (Cm 1) Ee (BA (AB By (AB (AU BS iS) AG))) [none,none] (D4 eG)))
def B1(BS:MD):MD:=Cf ["trees"] ["trees"] (Nl BS)
def UP{k:Nat}{BS:MD}(F:Fn K mg "true_weights" J7 ["trees"] f fd) {R:AD}{g:F0a}(Y:Fn K mg "density_within" Il KM R g)(U:AK P w K mg base Af k R g KM (A6 BS)):AK P w K mg base Af Pi f fd ["trees"] (A6 (B1 BS)):=Fc F Mt fun cdv A outer s H E T=>by
 have sc:=Mt;exact(AV (Uj [".0","tree"] 1 [none,none] (C6 Ci) al (fun _ _ _ _ _=>(Aq (AA AJ (AA (Aa Y U T rfl (AA Fr AF)) AF))))))
def L4:Ac cr cr (AO JC):=CG
def Ms(Ab:rW)(B1:MD):GV :=
 (xE (CP (DY (CP (ER Db) Ab) (ER AG)) fun g=>(B1 g).map .inl) fun x _=>.rt x)
def Cd(Ab:rW)(B1:MD):rW:=GN cr cr (Ms Ab B1)
def Sj{k:Nat}{Ab:rW}{B1:MD}(F:Fn K mg "true_weighing" JC cr f fd) {Y:AD}{U:F0a}(Bj:Fn K mg "trees_to" Ff cr Y U)(Bs:AK P w K mg base Kf k Y U cr (Dy Ab)) {R:AD}{T:F0a}(Hr:Fn K mg "true_weights" J7 ["trees"] R T)(Z:AK P w K mg base Af k R T ["trees"] (A6 B1)):AK P w K mg base Kf Pi f fd cr (Dy (Cd Ab B1)):=QX F L4 fun cdv A outer s H E g=>by
 have sc:=L4;exact(HG (by exact Us (Fu Hr (lK Z) g HW (KA (Fu Bj Bs g HW (IY (by exact dl))) (IY (by exact AF))))))
def Mq:Ac ["trees","one","other","tree","weight","due"] ["trees","one","other"] (AO J9):=CG
def Np:DF :=
 (Ar (FH (HN VB (AB eG (AB KK PU))) (ZE 3 4 5)
  (GG (CT (EU true) (nm 4) (nm 5))
   (Bd (nm 3))
   C9))
 (Bd (fC .none)))
def CY:MD:=Cf ["trees","one","other"] ["trees","one","other","tree","weight","due"] (Np)
def Tu{k:Nat}(F:Fn K mg "first_unlike" J9 ["trees","one","other"] f fd)(R:mg "zip" = none):AK P w K mg base Af Pi f fd ["trees","one","other"] (A6 (CY)):=Fc F Mq fun cdv A outer s H E g=>by
 have sc:=Mq;exact(AQ (Dj aR rfl (oI rfl R (AA Ci (AA Fr (AA Iu AF)))) (kq (IV rfl (B7 (Ay (i:=3) sc.nd rfl As) (B7 (Ay (i:=4) sc.nd rfl As) (B7 (Ay (i:=5) sc.nd rfl As) HE)))))
  (AV (Di (B3 (Mp Ca) (AE (pv 4)) (AE (pv 5)) Tl)
   (AV (A0 PN))
   CH)))
 (AV (A0 Lp)))
def LA:Ac ["weighing","reach","tree"] IQ (AO Ie):=CG
def MB(CY:MD)(AX:MD)(Ab:rW)(Cd:rW)(AZ:rW):DF :=
 (Ar (CN 1 (AU (good AZ) Db))
 (Ar (CN 2 (AU CY (AB (AU (good Ab) iS) (AB eG (AB (AU (good Cd) iS) AG)))))
 (Ar (GG (CT (WG false) (nm 2) (fC .none))
  (Bd (BA (AB KK (AB (fC .none) AG))))
  C9)
 (Bd (BA (AB (Ai YW (AU AX PU) By) PU))))))
def Bp(CY:MD)(AX:MD)(Ab:rW)(Cd:rW)(AZ:rW):MD:=Cf IQ ["weighing","reach","tree"] (MB CY AX Ab Cd AZ)
def Q9{k:Nat}{CY:MD}{AX:MD}{Ab:rW}{Cd:rW}{AZ:rW}(F:Fn K mg "weighing_order" Ie IQ f fd) {R:AD}{U:F0a}(Hz:Fn K mg "first_unlike" J9 ["trees","one","other"] R U)(Jy:AK P w K mg base Af k R U ["trees","one","other"] (A6 CY)) {Z:AD}{Cs:F0a}(Ao:Fn K mg "knots_within" DK KM Z Cs)(A7:AK P w K mg base Af k Z Cs KM (A6 AX)) {B4:AD}{Bm:F0a}(Bj:Fn K mg "trees_to" Ff cr B4 Bm)(Bs:AK P w K mg base Kf k B4 Bm cr (Dy Ab)) {T:AD}{Y:F0a}(HV:Fn K mg "true_weighing" JC cr T Y)(JP:AK P w K mg base Kf k T Y cr (Dy Cd)) {Bo:AD}{Bf:F0a}(BL:Fn K mg "weighing_reach" ED IQ Bo Bf)(BU:AK P w K mg base Kf k Bo Bf IQ (Dy AZ)):AK P w K mg base Af Pi f fd IQ (A6 (Bp CY AX Ab Cd AZ)):=Fc F LA fun cdv A outer s H E g=>by
 have sc:=LA;exact(AQ (Bb (i:=1) sc.nd rfl As (Aa BL (Jb BU) g rfl dl))
 (AQ (Bb (i:=2) sc.nd rfl As (Aa Hz Jy g rfl (AA (Aa Bj (Jb Bs) g rfl (AA Fr AF)) (AA Ci (AA (Aa HV (Jb JP) g rfl (AA Fr AF)) AF)))))
 (AQ (Di (B3 mR Iu Lp Tl)
  (AV (A0 (Aq (AA Fr (AA Lp AF)))))
  CH)
 (AV (A0 (Aq (AA (A3 Q5 (Aa Ao A7 g rfl (AA Iu AF)) AJ) (AA Iu AF))))))))
def dM:Ac ["thing","k","bough"] Ev (AO QB):=CG
def Vl(DV:MD):DF :=
 (Ar (GG (JO (Ik (S0 UT eG)))
  (Bd TD)
  C9)
 (Ar (FH (HN UN Db) (Fw 1 2)
  (Ar (GG (X8 (CT (Hj fun i j=>decide (j<i)) KK Iv) (CT (EU false) (nm 2) (Ai DD eG (Ai YW KK By))))
   vO
   C9)
  (GG (Mm (JO (Ik (AU DV PU))) (X8 (CT (Hj fun i j=>decide (j<i)) KK Iv) (CT lC (nm 2) (Ai DD eG (Ai YW KK By)))))
   (Bd TD)
   C9)))
 (Bd (fC Jq))))
def DV:Nat->MD
 |0=>fun _=>none
 |n+1=>Cf Ev ["thing","k","bough"] (Vl (DV n))
theorem Th{k:Nat}(R:Fn K mg "is_tree" QB Ev f fd)(U:mg "enumerate" = none)(Y:mg "isinstance" = none)(T:mg "tuple" = none):∀n,
  AK P w K mg base Af (k+n+1) f fd Ev (A6 (DV n))
 |0=>Ez fun _ _ _ _ ⟨_,_,_,h,_⟩=>by cases h
 |n+1=>by
  have sc:=dM;have Z:=Th (k:=k) R U Y T n;refine Fc (k:=k+n+1) (F:=Vl (DV n)) R sc fun cdv A outer s H E g=>?_;exact(AQ (Di (GC (GJ (MC (SU _) rfl Y rfl T bc Ci)))
  (AV (A0 F6))
  CH)
 (AQ (Dj aR rfl (VA rfl U dl) (MF (IV rfl (B7 (Ay (i:=1) sc.nd rfl As) (B7 iF HE))))
  (AQ (Di (DW.dt (Xs (B3 TU Fr AJ Tl) (GY (B3 (KQ Ca) Iu (Bw Ci (A3 Q5 Fr AJ) DR) Tl))))
   (AV ni)
   CH)
  (AV (Di (DW.dt (JG (GC (GJ (Aa R Z g rfl (AA Iu AF)))) (GY (DW.dt (Xs (B3 TU Fr AJ Tl) (GY (B3 (ma Ca) Iu (Bw Ci (A3 Q5 Fr AJ) DR) Tl)))))))
   (AV (A0 F6))
   CH))))
 (AV (A0 F6))))
def LL:Ac Ev Ev (AO Ig):=CG
def SO(DV:MD):DF :=
 (GG (JO (Ik (AU DV Db)))
  qW
  C9)
def CO(DV:MD):MD:=Cf Ev Ev (SO DV)
def RD{k:Nat}{DV:MD}(F:Fn K mg "refuse_no_tree" Ig Ev f fd) {g:AD}{R:F0a}(Y:Fn K mg "is_tree" QB Ev g R)(U:AK P w K mg base Af k g R Ev (A6 DV)):AK P w K mg base Af Pi f fd Ev (A6 (CO DV)):=Fc F LL fun cdv A outer s H E T=>by
 have sc:=LL;exact(AV (Di (GC (GJ (Aa Y U T rfl dl)))
  (AV kL)
  CH))
def VE:Ac ["tree","cuts","bough","wider","left","parts","trunk","more"] KM (AO K8):=CG
def PX(AY:MD)(B0:MD):DF :=
 (Ar (CN 1 (Co (AB (BA (AB (BA AG) (AB (Co AG) AG))) AG)))
 (Ar (FH (D4 eG) (Jv 2)
  (Ar (ei 3 AG)
  (Ar (FH (D4 KK) (Fw 4 5)
   (Ar (kR 3 (BA (AB (nm 4) (AB (Ai Ek (nm 5) (Co PU)) AG))))
   (FH (D4 (AU B0 PU)) (Fw 6 7)
    (kR 3 (BA (AB (Ai Ek (nm 4) (BA (AB (nm 6) AG))) (AB (Ai Ek (nm 5) (nm 7)) AG)))))))
  (Si 3 (CN 1 (nm 3))))))
 (M6 (CV (Fw 1 2) Ee (BA (AB (AU AY iS) (AB (AU (MY true) PU) AG))) [none,none,none] (D4 KK)))))
def B0(AY:MD):Nat->MD
 |0=>fun _=>none
 |n+1=>Cf KM ["tree","cuts","bough","wider","left","parts","trunk","more"] (PX AY (B0 AY n))
theorem Nj{k:Nat}{AY:MD}(U:Fn K mg "cuts_within" K8 KM f fd)
 {Z:AD}{D7:F0a}(Bk:Fn K mg "in_falling_order" Fe ["boughs"] Z D7)(R:AK P w K mg base Af k Z D7 ["boughs"] (A6 AY))(Y:mg "sorted" = none):∀n,
  AK P w K mg base Af (k+n+1) f fd KM (A6 (B0 AY n))
 |0=>Ez fun _ _ _ _ ⟨_,_,_,h,_⟩=>by cases h
 |n+1=>by
  have sc:=VE;have G9:=Nj (k:=k) (AY:=AY) U Bk R Y n;have R:=R.mono (show k<=k+n+1 by lia);refine Fc (k:=k+n+1) (F:=PX AY (B0 AY n)) U sc fun cdv A outer s H E g=>?_;exact(AQ (Bb (i:=1) sc.nd rfl As (Bg (AA (Aq (AA (Aq AF) (AA (Bg AF) AF))) AF)))
 (AQ (Dj aR rfl (C6 Ci) (FA iF)
  (AQ (T5 (i:=3) sc.nd rfl As AF)
  (AQ (Dj aR rfl (C6 Fr) (MF (IV rfl (B7 (Ay (i:=4) sc.nd rfl As) (B7 (Ay (i:=5) sc.nd rfl As) HE))))
   (AQ (QY (pv 3) (Aq (AA (AE (pv 4)) (AA (A3 Ck (AE (pv 5)) (Bg (AA Iu AF))) AF))) (fun T ha=>E8 (Ic aq bJ bK Gb T ha)))
   (AV (Dj aR rfl (C6 (Aa U G9 g rfl (AA Iu AF))) lY
    (AV (QY (pv 3) (Aq (AA (A3 Ck (AE (pv 4)) (Aq (AA (AE (pv 6)) AF))) (AA (A3 Ck (AE (pv 5)) (AE (pv 7))) AF))) (fun T ha=>E8 (Ic aq bJ bK Gb T ha))))))))
  (AV (OD 3 (Bb (i:=1) sc.nd rfl As PN))))))
 (AV (YF [".0","left","parts"] 1 2 [none,none,none] (C6 Fr) al (fun _ _ _ _ _=>(Aq (AA (Aa Bk R g rfl (AA Fr AF)) (AA (Yc Ca rfl Y (AA Iu AF) (fun h=>Yz Ca rfl Y h)) AF))))))))
def Pw:Ac KM KM (AO KY):=CG
def Zd(B0:MD)(CO:MD):DF :=
 (Ar (u9 (AU CO Db))
 (Bd (Ai Ek (Co (AB (BA (AB (fC .none) (AB (Co Db) AG))) AG)) (AU Xy (AB (AU B0 Db) AG)))))
def Bu(B0:MD)(CO:MD):MD:=Cf KM KM (Zd B0 CO)
def Wz{k:Nat}{B0:MD}{CO:MD}(F:Fn K mg "tree_cuts" KY KM f fd) {R:AD}{T:F0a}(Dz:Fn K mg "cuts_within" K8 KM R T)(G9:AK P w K mg base Af k R T KM (A6 B0)) {U:AD}{Y:F0a}(Gh:Fn K mg "refuse_no_tree" Ig Ev U Y)(Z:AK P w K mg base Af k U Y Ev (A6 CO))(Bx:mg "sorted" = none):AK P w K mg base Af Pi f fd KM (A6 (Bu B0 CO)):=Fc F Pw fun cdv A outer s H E g=>by
 have sc:=Pw;exact(AQ (nE (Aa Gh Z g rfl dl))
 (AV (A0 (A3 Ck (Bg (AA (Aq (AA Lp (AA (Bg dl) AF))) AF)) (DH (jl Ca) rfl Bx PyProof.Rows.boot_sorted (AA (Aa Dz G9 g rfl dl) AF))))))
def QG:Ac ["cut","ahead","behind","top","bottom","part"] TN (AO KW):=CG
def RI:DF :=
 (Ar (CN 3 (Ai DD (Ai KO (nm 2) (Ai DD eG Iv)) Iv))
 (Ar (CN 4 (Ai DD (Ai KO (nm 2) (Ai DD eG Iv)) By))
 (Ar (FH (D4 (Ai DD eG By)) (Jv 5)
  (Ar (CN 3 (Ai Gg (nm 3) (Ai DD (Ai KO KK (nm 5)) Iv)))
  (CN 4 (Ai Gg (nm 4) (Ai DD (Ai KO KK (nm 5)) By)))))
 (Bd (BA (AB (nm 3) (AB (nm 4) AG)))))))
def A8:MD:=Cf TN ["cut","ahead","behind","top","bottom","part"] (RI)
def X5{k:Nat}(F:Fn K mg "cut_share" KW TN f fd):AK P w K mg base Af Pi f fd TN (A6 (A8)):=Fc F QG fun cdv A outer s H E g=>by
 have sc:=QG;exact(AQ (Bb (i:=3) sc.nd rfl As (Bw (Lz Ca Iu iN DR) AJ DR))
 (AQ (Bb (i:=4) sc.nd rfl As (Bw (Lz Ca Iu iN DR) AJ DR))
 (AQ (Dj aR rfl (C6 iN) (FA (Ay (i:=5) sc.nd rfl As))
  (AQ (Bb (i:=3) sc.nd rfl As (A3 Fq PN (Bw (Lz Ca Fr (AE (pv 5)) DR) AJ DR)))
  (AV (Bb (i:=4) sc.nd rfl As (A3 Fq (AE (pv 4)) (Bw (Lz Ca Fr (AE (pv 5)) DR) AJ DR))))))
 (AV (A0 (Aq (AA PN (AA (AE (pv 4)) AF))))))))
def Ji:Ac ["one","other","reach","trees","ahead","behind"] JJ (AO HJ):=CG
def HM(A8:MD)(R:MD)(Bu:MD)(Ab:rW)(AZ:rW)(g:AD):GV :=
 (KN (OZ AZ Db fun z δ=>.nx (δ.set 2 (.d z)))
 (KN (Yb (CT (EU true) (AU (good AZ) iS) (nm 2))
  (OA g (fC (.str (Str.ofString "weighings are composed where they reach equally far"))))
  (fun δ=>some (.inl (.nx δ))))
 (KN (OZ Ab PU fun z δ=>.nx (δ.set 3 (.d z)))
 (Vp (Ar (X3 4 (AB (nm 3) Db))
 (Ar (X3 5 (AB (nm 3) iS))
 (Ar (eF 5 (BA (AB By (AB By AG))) (fC .none))
 (Si 5 (Si 4 (M6 (CV (Cm 1) Ee (AU R (AB (Hy (Cm 1) Ee ku [none,none,some 2,some 3] (D4 (AU Bu iS))) AG)) [none,none,some 4,some 5] (D4 (nm 3)))))))))))))
def Bt(A8:MD)(R:MD)(Bu:MD)(Ab:rW)(AZ:rW)(g:AD):rW:=GN JJ ["one","other","reach","trees","ahead","behind"] (HM A8 R Bu Ab AZ g)
def PK{k:Nat}{A8:MD}{CF:MD}{Bu:MD}{Ab:rW}{AZ:rW}{g:AD}(F:Fn K mg "weighing_composed" HJ JJ f fd) {Z:AD}{Hd:F0a}(Fy:Fn K mg "cut_share" KW TN Z Hd)(HH:AK P w K mg base Af k Z Hd TN (A6 A8)) {He:AD}{G8:F0a}(FD:Fn K mg "frac_total" Ja ["some"] He G8)(GX:AK P w K mg base Af k He G8 ["some"] (A6 CF)) {Y:AD}{HX:F0a}(F0:Fn K mg "tree_cuts" KY KM Y HX)(HF:AK P w K mg base Af k Y HX KM (A6 Bu)) {B4:AD}{Bm:F0a}(Bj:Fn K mg "trees_to" Ff cr B4 Bm)(Bs:AK P w K mg base Kf k B4 Bm cr (Dy Ab)) {Bo:AD}{Bf:F0a}(BL:Fn K mg "weighing_reach" ED IQ Bo Bf)(BU:AK P w K mg base Kf k Bo Bf IQ (Dy AZ))(U:mg "dict" = none)(EX:mg "zip" = none)(R:Exc K mg "NotAlike" g):AK P w K mg base Kf Pi f fd JJ (Dy (Bt A8 CF Bu Ab AZ g)):=QX F Ji fun cdv A outer s H E T=>by
 have sc:=Ji;exact(Gi (by exact gJ (i:=2) BL BU T HW (by exact dl) sc.nd As)
 (Gi (S9 (B3 (Mp (by have:=T.units;exact this)) (Aa BL (Jb BU) T rfl (AA Fr AF)) Iu Tl)
  (HG (by exact MQ R T7 Pt))
  N7)
 (Gi (by exact gJ (i:=3) Bj Bs T HW (by exact(AA Iu AF)) sc.nd As)
 (N2 (AQ (dn (i:=4) rfl (by have:=T.units;exact this) rfl U rfl EX (AA PN dl) sc.nd rfl (Or.inr rfl))
 (AQ (dn (i:=5) rfl (by have:=T.units;exact this) rfl U rfl EX (AA PN (AA Fr AF)) sc.nd rfl (Or.inr rfl))
 (AQ (W0 (pv 5) Lp FB (fun h1 h2 h3=>N6 h1 (T6 h2 h3 (YT (by have:=T.units;exact this)))))
 (AV (OD 5 (OD 4 (Uj [".0","tree","ahead","behind"] 1 [none,none,some 4,some 5] (C6 PN) al (fun _ _ _ _ _=>(Aa FD GX T rfl (AA (N4 [".0","cut","ahead","behind"] 1 [none,none,some 2,some 3] (C6 (Aa F0 HF T rfl (AA Fr AF))) al (fun _ _ _ _ _=>(Aa Fy HH T rfl (AA Fr (AA Iu (AA PN AF)))))) AF))))))))))))))
def Kt:Ac ["weighing","trees","ahead","behind","tree","others"] IQ (AO IP):=CG
def IG(A8:MD)(g:MD)(R:MD)(Bu:MD)(Ab:rW)(AZ:rW):GV :=
 (KN (xE (CP (DY (CP (ER Db) AZ) (ER AG)) Ab) fun x δ=>.nx (δ.set 1 (.d x)))
 (Vp (Ar (X3 2 (AB KK Db))
 (Ar (iK 3 1 1)
 (Ar (FH (D4 KK) (Jv 4)
  (Ar (Si 2 (CN 5 (Wr 3 (Hy (Cm 1) (CT (EU true) (Ai DD KK Iv) (nm 4)) ku [none,none,some 2,some 3,some 4] (D4 (AU Bu (AB (nm 4) AG)))))))
  (eF 3 (AU g (AB (AU R (AB (nm 5) AG)) (AB (BA (AB (Py By) (AB By AG))) AG))) (nm 4))))
 (Si 3 (M6 (CV (Cm 1) Ee (Ai KO (nm 2) KK) [none,none,some 3] (D4 KK)))))))))
def CB(A8:MD)(g:MD)(R:MD)(Bu:MD)(Ab:rW)(AZ:rW):rW:=GN IQ ["weighing","trees","ahead","behind","tree","others"] (IG A8 g R Bu Ab AZ)
def QP{k:Nat}{A8:MD}{CI:MD}{CF:MD}{Bu:MD}{Ab:rW}{AZ:rW}(F:Fn K mg "weighing_undone" IP IQ f fd) {T:AD}{Z:F0a}(Fy:Fn K mg "cut_share" KW TN T Z)(HH:AK P w K mg base Af k T Z TN (A6 A8)) {U:AD}{Gz:F0a}(FC:Fn K mg "frac_times" JY JJ U Gz)(GK:AK P w K mg base Af k U Gz JJ (A6 CI)) {Y:AD}{G8:F0a}(FD:Fn K mg "frac_total" Ja ["some"] Y G8)(GX:AK P w K mg base Af k Y G8 ["some"] (A6 CF)) {R:AD}{HX:F0a}(F0:Fn K mg "tree_cuts" KY KM R HX)(HF:AK P w K mg base Af k R HX KM (A6 Bu)) {B4:AD}{Bm:F0a}(Bj:Fn K mg "trees_to" Ff cr B4 Bm)(Bs:AK P w K mg base Kf k B4 Bm cr (Dy Ab)) {Bo:AD}{Bf:F0a}(BL:Fn K mg "weighing_reach" ED IQ Bo Bf)(BU:AK P w K mg base Kf k Bo Bf IQ (Dy AZ))(Ma:mg "dict" = none)(EX:mg "zip" = none):AK P w K mg base Kf Pi f fd IQ (Dy (CB A8 CI CF Bu Ab AZ)):=QX F Kt fun cdv A outer s H E g=>by
 have sc:=Kt;exact(Gi (by exact Z5 (i:=1) (Fu Bj Bs g HW (KA (Fu BL BU g HW (IY (by exact dl))) (IY (by exact AF)))) sc.nd As)
 (N2 (AQ (dn (i:=2) rfl Ca rfl Ma rfl EX (AA Fr dl) sc.nd rfl (Or.inr rfl))
 (AQ (jf (i:=3) Ca sc.nd rfl (Or.inr rfl))
 (AQ (Dj aR rfl (C6 Fr) (FA (Ay (i:=4) sc.nd rfl (Or.inr rfl)))
  (AQ (OD 2 (ZR (i:=5) 3 [".0","cut","ahead","behind","tree"] 1 [none,none,some 2,some 3,some 4] sc.nd rfl rfl (C6 (Aa F0 HF g rfl (AA (AE (pv 4)) AF))) (fun _ _ _ _ _=>(mh (B3 (Mp Ca) (Bw Fr AJ DR) (AE (pv 4)) Tl))) (fun _ _ _ _ _=>(Aa Fy HH g rfl (AA Fr (AA Iu (AA PN AF)))))))
  (AV (W0 (pv 3) (AE (pv 4)) (Aa FC GK g rfl (AA (Aa FD GX g rfl (AA (AE (pv 5)) AF)) (AA (Aq (AA (QS AJ) (AA AJ AF))) AF))) (fun h1 h2 h3=>N6 h1 (T6 h2 h3 (YT Ca)))))))
 (AV (OD 3 (Uj [".0","tree","behind"] 1 [none,none,some 3] (C6 Fr) al (fun _ _ _ _ _=>(Lz Ca Iu Fr DR))))))))))
def PQ:Ac ["part","power"] ["part","power"] (AO MK):=CG
def P9(g:MD):DF :=
 (Bd (BA (AB (AU g (AB (Ai DD eG Iv) iS)) (AB (AU g (AB (Ai DD eG By) iS)) AG))))
def CS(g:MD):MD:=Cf ["part","power"] ["part","power"] (P9 g)
def WX{k:Nat}{Y:MD}(F:Fn K mg "frac_power" MK ["part","power"] f fd) {R:AD}{T:F0a}(Z:Fn K mg "power_of" LX ["base","power"] R T)(U:AK P w K mg base Af k R T ["base","power"] (A6 Y)):AK P w K mg base Af Pi f fd ["part","power"] (A6 (CS Y)):=Fc F PQ fun cdv A outer s H E g=>by
 have sc:=PQ;exact(AV (A0 (Aq (AA (Aa Z U g rfl (AA iN (AA Fr AF))) (AA (Aa Z U g rfl (AA iN (AA Fr AF))) AF)))))
def Kp:Ac ["weighing","part","trees"] ["weighing","part"] (AO F4):=CG
def LF(CS:MD)(g:MD)(AX:MD)(Ab:rW)(AZ:rW):GV :=
 (KN (xE (CP (DY (CP (ER Db) AZ) (ER AG)) Ab) fun x δ=>.nx (δ.set 2 (.d x)))
 (Vp (M6 (CV (Fw 1 2) Ee (AU g (AB (nm 2) (AB (AU CS (AB (nm 3) (AB (AU AX iS) AG))) AG))) [none,none,none,some 1] (HN zip2 (AB (nm 2) Db))))))
def Ax(CS:MD)(g:MD)(AX:MD)(Ab:rW)(AZ:rW):rW:=GN ["weighing","part"] ["weighing","part","trees"] (LF CS g AX Ab AZ)
def QR{k:Nat}{CS:MD}{CI:MD}{AX:MD}{Ab:rW}{AZ:rW}(F:Fn K mg "weighing_turned" F4 ["weighing","part"] f fd) {R:AD}{T:F0a}(JM:Fn K mg "frac_power" MK ["part","power"] R T)(Lv:AK P w K mg base Af k R T ["part","power"] (A6 CS)) {U:AD}{Y:F0a}(FC:Fn K mg "frac_times" JY JJ U Y)(GK:AK P w K mg base Af k U Y JJ (A6 CI)) {Z:AD}{Cs:F0a}(Ao:Fn K mg "knots_within" DK KM Z Cs)(A7:AK P w K mg base Af k Z Cs KM (A6 AX)) {B4:AD}{Bm:F0a}(Bj:Fn K mg "trees_to" Ff cr B4 Bm)(Bs:AK P w K mg base Kf k B4 Bm cr (Dy Ab)) {Bo:AD}{Bf:F0a}(BL:Fn K mg "weighing_reach" ED IQ Bo Bf)(BU:AK P w K mg base Kf k Bo Bf IQ (Dy AZ))(EX:mg "zip" = none):AK P w K mg base Kf Pi f fd ["weighing","part"] (Dy (Ax CS CI AX Ab AZ)):=QX F Kp fun cdv A outer s H E g=>by
 have sc:=Kp;exact(Gi (by exact Z5 (i:=2) (Fu Bj Bs g HW (KA (Fu BL BU g HW (IY (by exact dl))) (IY (by exact AF)))) sc.nd As)
 (N2 (AV (YF [".0","tree","weight","part"] 1 2 [none,none,none,some 1] (sd rfl EX (AA Iu dl)) al (fun _ _ _ _ _=>(Aa FC GK g rfl (AA Iu (AA (Aa JM Lv g rfl (AA PN (AA (Aa Ao A7 g rfl (AA Fr AF)) AF))) AF))))))))
def JK:Ac IQ IQ (AO HL):=CG
def Js(Ax:rW)(CB:rW):GV :=
 (xE (CP (DY (CP (ER Db) CB) (ER (AB (BA (AB (Py By) (AB By AG))) AG))) Ax) fun x _=>.rt x)
def Bc(Ax:rW)(CB:rW):rW:=GN IQ IQ (Js Ax CB)
def O0{k:Nat}{Ax:rW}{CB:rW}(F:Fn K mg "weighing_mirrored" HL IQ f fd) {U:AD}{Y:F0a}(Cb:Fn K mg "weighing_turned" F4 ["weighing","part"] U Y)(Cr:AK P w K mg base Kf k U Y ["weighing","part"] (Dy Ax)) {R:AD}{T:F0a}(F7:Fn K mg "weighing_undone" IP IQ R T)(Z:AK P w K mg base Kf k R T IQ (Dy CB)):AK P w K mg base Kf Pi f fd IQ (Dy (Bc Ax CB)):=QX F JK fun cdv A outer s H E g=>by
 have sc:=JK;exact(HG (by exact Us (Fu Cb Cr g HW (KA (Fu F7 Z g HW (IY (by exact dl))) (IY (by exact(AA (Aq (AA (QS AJ) (AA AJ AF))) AF)))))))
def P7:Ac ["_law_script","_law_k","_law_cell_here","_law_number"] TW (AO Kd):=CG
def NN:DF :=
 (Ar (CN 2 Iv)
 (Ar (GG (CT (Hj fun i j=>decide (i<j)) KK (AU IJ Db))
  (CN 2 (Ai DD eG KK))
  C9)
 (Ar (GG (CT (Hj fun i j=>decide (j<=i)) (nm 2) (Ai Px (fC (.int 10)) (fC (.int 18))))
  (Bd (Ai Ih (Ai YW (nm 2) (Ai Px (fC (.int 10)) (fC (.int 18)))) (Ai Px (fC (.int 10)) (fC (.int 60)))))
  C9)
 (Ar (CN 3 (Ai Ih (Ai Ek (Ai Ek (Ai Gg (nm 2) (fC (.int 48271))) (Ai Gg KK (fC (.int 69621)))) (fC (.int 11))) (fC (.int 2147483629))))
 (Ar (CN 3 (Ai Ih (Ai Gg (nm 3) (nm 3)) (fC (.int 2147483587))))
 (Bd (Ai Ek (Ai Gg (nm 3) (fC (.int 2147483563))) (Ai Ih (Ai Gg (nm 3) (nm 3)) (fC (.int 2147483563))))))))))
def CZ:MD:=Cf TW ["_law_script","_law_k","_law_cell_here","_law_number"] (NN)
def Xf{k:Nat}(F:Fn K mg "_law_cell" Kd TW f fd)(g:mg "len" = none):AK P w K mg base Af Pi f fd TW (A6 (CZ)):=Fc F P7 fun cdv A outer s H E R=>by
 have sc:=P7;exact(AQ (Bb (i:=2) sc.nd rfl As AJ)
 (AQ (Di (B3 Wt Fr (DH Hc rfl g bC dl) Tl)
  (AV (Bb (i:=2) sc.nd rfl As (Bw Ci Fr DR)))
  CH)
 (AQ (Di (B3 mG Iu (A3 Ue AJ AJ) Tl)
  (AV (A0 (A3 GU (A3 Q5 Iu (A3 Ue AJ AJ)) (A3 Ue AJ AJ))))
  CH)
 (AQ (Bb (i:=3) sc.nd rfl As (A3 GU (A3 Ck (A3 Ck (A3 Fq Iu AJ) (A3 Fq Fr AJ)) AJ) AJ))
 (AQ (Bb (i:=3) sc.nd rfl As (A3 GU (A3 Fq PN PN) AJ))
 (AV (A0 (A3 Ck (A3 Fq PN AJ) (A3 GU (A3 Fq PN PN) AJ)))))))))
def Pc:Ac RN RN (AO Ls):=CG
def Yo:DF :=
 (Ar (GG (CT (EU false) (Ai Ih eG (fC (.int 5))) Iv)
  (Bd (BA (AB (Co (AB (Co AG) AG)) (AB (Co (AB (BA (AB By (AB By AG))) AG)) AG))))
  C9)
 (Ar (GG (CT (EU false) (Ai Ih eG (fC (.int 5))) By)
  (Bd (BA (AB (Co (AB (Co AG) (AB (Co (AB (BA (AB By (AB T9 AG))) AG)) AG))) (AB (Co (AB (BA (AB Iv (AB By AG))) (AB (BA (AB By (AB By AG))) AG))) AG))))
  C9)
 (Ar (GG (CT (EU false) (Ai Ih eG (fC (.int 5))) T9)
  (Bd (BA (AB (Co (AB (Co AG) (AB (Co (AB (BA (AB By (AB By AG))) AG)) AG))) (AB (Co (AB (BA (AB By (AB T9 AG))) (AB (BA (AB By (AB T9 AG))) AG))) AG))))
  C9)
 (Ar (GG (CT (EU false) (Ai Ih eG (fC (.int 5))) (fC (.int 3)))
  (Bd (BA (AB (Co (AB (Co AG) (AB (Co (AB (BA (AB By (AB (fC (.int 3)) AG))) AG)) (AB (Co (AB (BA (AB Iv (AB By AG))) (AB (BA (AB T9 (AB (fC (.int 3)) AG))) AG))) AG)))) (AB (Co (AB (BA (AB By (AB (fC (.int 4)) AG))) (AB (BA (AB Iv (AB By AG))) (AB (BA (AB (fC (.int 3)) (AB (fC (.int 4)) AG))) AG)))) AG))))
  C9)
 (Bd (BA (AB (Co (AB (Co AG) (AB (Co (AB (BA (AB By (AB T9 AG))) AG)) (AB (Co (AB (BA (AB Iv (AB By AG))) (AB (BA (AB By (AB T9 AG))) AG))) (AB (Co (AB (BA (AB Iv (AB By AG))) (AB (BA (AB Iv (AB By AG))) (AB (BA (AB By (AB By AG))) AG)))) AG))))) (AB (Co (AB (BA (AB By (AB (fC (.int 6)) AG))) (AB (BA (AB By (AB (fC (.int 3)) AG))) (AB (BA (AB By (AB (fC (.int 3)) AG))) (AB (BA (AB By (AB (fC (.int 6)) AG))) AG))))) AG))))))))
def Lw:MD:=Cf RN RN (Yo)
def We{k:Nat}(F:Fn K mg "_law_named" Ls RN f fd):AK P w K mg base Af Pi f fd RN (A6 (Lw)):=Fc F Pc fun cdv A outer s H E g=>by
 have sc:=Pc;exact(AQ (Di (B3 (KQ Ca) (A3 GU Ci AJ) AJ Tl)
  (AV (A0 (Aq (AA (Bg (AA (Bg AF) AF)) (AA (Bg (AA FB AF)) AF)))))
  CH)
 (AQ (Di (B3 (KQ Ca) (A3 GU Ci AJ) AJ Tl)
  (AV (A0 (Aq (AA (Bg (AA (Bg AF) (AA (Bg (AA FB AF)) AF))) (AA (Bg (AA FB (AA FB AF))) AF)))))
  CH)
 (AQ (Di (B3 (KQ Ca) (A3 GU Ci AJ) AJ Tl)
  (AV (A0 (Aq (AA (Bg (AA (Bg AF) (AA (Bg (AA FB AF)) AF))) (AA (Bg (AA FB (AA FB AF))) AF)))))
  CH)
 (AQ (Di (B3 (KQ Ca) (A3 GU Ci AJ) AJ Tl)
  (AV (A0 (Aq (AA (Bg (AA (Bg AF) (AA (Bg (AA FB AF)) (AA (Bg (AA FB (AA FB AF))) AF)))) (AA (Bg (AA FB (AA FB (AA FB AF)))) AF)))))
  CH)
 (AV (A0 (Aq (AA (Bg (AA (Bg AF) (AA (Bg (AA FB AF)) (AA (Bg (AA FB (AA FB AF))) (AA (Bg (AA FB (AA FB (AA FB AF)))) AF))))) (AA (Bg (AA FB (AA FB (AA FB (AA FB AF))))) AF)))))))))
def YY:Ac IW IW (AO NM):=CG
def Ry(BV:MD):DF :=
 (Bd (AU PB (AB (rC (AU (MY false) (AB (Hy (Cm 1) Ee (AU BV iS) [none,none] (D4 eG)) AG)) (Py By)) AG)))
def BV:Nat->MD
 |0=>fun _=>none
 |n+1=>Cf IW IW (Ry (BV n))
theorem Qd{k:Nat}(g:Fn K mg "_law_kept" NM IW f fd)(U:mg "sorted" = none)(T:mg "tuple" = none):∀n,
  AK P w K mg base Af (k+n+1) f fd IW (A6 (BV n))
 |0=>Ez fun _ _ _ _ ⟨_,_,_,h,_⟩=>by cases h
 |n+1=>by
  have sc:=YY;have Y:=Qd (k:=k) g U T n;refine Fc (k:=k+n+1) (F:=Ry (BV n)) g sc fun cdv A outer s H E R=>?_;exact(AV (A0 (Vh Yp rfl T bc (AA (qU (DH (ox (by have:=R.units;exact this)) rfl U PyProof.Rows.boot_sorted (AA (N4 [".0","_law_bough"] 1 [none,none] (C6 Ci) al (fun _ _ _ _ _=>(Aa g Y R rfl (AA Fr AF)))) AF)) (QS AJ)) AF))))
def U0:Ac ["_law_tree","_law_found","_law_k"] IW (AO Ky):=CG
def Pf(BV:MD)(B2:MD):DF :=
 (Ar (CN 1 (Co (AB (AU BV (AB (Ai Ek eG (BA (AB (BA AG) AG))) AG)) AG)))
 (Ar (FH (HN dI (AB (AU IJ Db) AG)) (Jv 2)
  (CN 1 (Ai Ek KK (Hy (Cm 1) Ee (AU BV (AB (Ai Ek (Ai Ek (eS (nm 2) Wv (Wn (nm 3))) (BA iS)) (eS (nm 2) (Wn (Ai Ek (nm 3) By)) Wv)) AG)) [none,none,some 0,some 2] (D4 (AU B2 (AB (Ai DD eG (nm 2)) AG)))))))
 (Bd KK)))
def B2(BV:MD):Nat->MD
 |0=>fun _=>none
 |n+1=>Cf IW ["_law_tree","_law_found","_law_k"] (Pf BV (B2 BV n))
theorem NZ{k:Nat}{BV:MD}(T:Fn K mg "_law_longer" Ky IW f fd)
 {Y:AD}{Z:F0a}(U:Fn K mg "_law_kept" NM IW Y Z)(g:AK P w K mg base Af k Y Z IW (A6 BV))(B8:mg "len" = none)(DJ:mg "range" = none):∀n,
  AK P w K mg base Af (k+n+1) f fd IW (A6 (B2 BV n))
 |0=>Ez fun _ _ _ _ ⟨_,_,_,h,_⟩=>by cases h
 |n+1=>by
  have sc:=U0;have Gv:=NZ (k:=k) (BV:=BV) T U g B8 DJ n;have g:=g.mono (show k<=k+n+1 by lia);refine Fc (k:=k+n+1) (F:=Pf BV (B2 BV n)) T sc fun cdv A outer s H E R=>?_;exact(AQ (Bb (i:=1) sc.nd rfl As (Bg (AA (Aa U g R rfl (AA (A3 Ck Ci (Aq (AA (Aq AF) AF))) AF)) AF)))
 (AQ (Dj aR rfl (Va rfl DJ (AA (DH Hc rfl B8 bC dl) AF)) (FA (Ay (i:=2) sc.nd rfl (Or.inr rfl)))
  (AV (Bb (i:=1) sc.nd rfl As (A3 Ck Fr (N4 [".0","_law_more","_law_tree","_law_k"] 1 [none,none,some 0,some 2] (C6 (Aa T Gv R rfl (AA (Bw Ci Iu DR) AF))) al (fun _ _ _ _ _=>(Aa U g R rfl (AA (A3 Ck (A3 Ck (O6 Iu Qy (Qz PN)) (Aq (AA Fr AF))) (O6 Iu (Qz (A3 Ck PN AJ)) Qy)) AF))))))))
 (AV (A0 Fr))))
def PV:Ac ["_law_most","_law_found","_law_row","_law_many","_law_wider","_law_tree"] ["_law_most"] (AO Me):=CG
def Ye(B2:MD):DF :=
 (Ar (CN 1 (Co AG))
 (Ar (CN 2 (Co (AB (BA AG) AG)))
 (Ar (FH (HN dI Db) (Jv 3)
  (Ar (CN 1 (Ai Ek KK (nm 2)))
  (Ar (CN 4 (Co AG))
  (Ar (FH (D4 (nm 2)) (Jv 5)
   (CN 4 (Ai Ek (nm 4) (AU B2 (AB (nm 5) AG)))))
  (CN 2 (fun δ=>((nm 4) δ).bind OP))))))
 (Bd KK))))
def Ds(B2:MD):MD:=Cf ["_law_most"] ["_law_most","_law_found","_law_row","_law_many","_law_wider","_law_tree"] (Ye B2)
def WQ{k:Nat}{B2:MD}(F:Fn K mg "_law_trees" Me ["_law_most"] f fd) {R:AD}{T:F0a}(Z:Fn K mg "_law_longer" Ky IW R T)(Y:AK P w K mg base Af k R T IW (A6 B2))(DJ:mg "range" = none)(U:mg "set" = none)(Bx:mg "sorted" = none):AK P w K mg base Af Pi f fd ["_law_most"] (A6 (Ds B2)):=Fc F PV fun cdv A outer s H E g=>by
 have sc:=PV;exact(AQ (Bb (i:=1) sc.nd rfl As (Bg AF))
 (AQ (Bb (i:=2) sc.nd rfl As (Bg (AA (Aq AF) AF)))
 (AQ (Dj aR rfl (Va rfl DJ dl) (FA (Ay (i:=3) sc.nd rfl As))
  (AQ (Bb (i:=1) sc.nd rfl As (A3 Ck Fr Iu))
  (AQ (Bb (i:=4) sc.nd rfl As (Bg AF))
  (AQ (Dj aR rfl (C6 Iu) (FA (Ay (i:=5) sc.nd rfl As))
   (AV (Bb (i:=4) sc.nd rfl As (A3 Ck (AE (pv 4)) (Aa Z Y g rfl (AA (AE (pv 5)) AF))))))
  (AV (Bb (i:=2) sc.nd rfl As (TQ rfl Ca rfl Bx rfl U (AE (pv 4)))))))))
 (AV (A0 Fr)))))
def Wf:Ac IW IW (AO MZ):=CG
def QT(BO:MD):DF :=
 (Bd (Ai Ek By (AU di (AB (Hy (Cm 1) Ee (AU BO iS) [none,none] (D4 eG)) AG))))
def BO:Nat->MD
 |0=>fun _=>none
 |n+1=>Cf IW IW (QT (BO n))
theorem Pk{k:Nat}(g:Fn K mg "_law_knots" MZ IW f fd)(R:mg "sum" = none):∀n,
  AK P w K mg base Af (k+n+1) f fd IW (A6 (BO n))
 |0=>Ez fun _ _ _ _ ⟨_,_,_,h,_⟩=>by cases h
 |n+1=>by
  have sc:=Wf;have U:=Pk (k:=k) g R n;refine Fc (k:=k+n+1) (F:=QT (BO n)) g sc fun cdv A outer s H E T=>?_;exact(AV (A0 (A3 Ck AJ (DH (fk rfl) rfl R bj (AA (N4 [".0","_law_bough"] 1 [none,none] (C6 Ci) al (fun _ _ _ _ _=>(Aa g U T rfl (AA Fr AF)))) AF)))))
def UE:Ac ["_law_tree","_law_found","_law_bough"] IW (AO J6):=CG
def Nn(BO:MD)(Bn:MD):DF :=
 (Ar (CN 1 (AU BO Db))
 (Ar (FH (D4 eG) (Jv 2)
  (CN 1 (Ai Gg KK (AU Bn PU))))
 (Bd KK)))
def Bn(BO:MD):Nat->MD
 |0=>fun _=>none
 |n+1=>Cf IW ["_law_tree","_law_found","_law_bough"] (Nn BO (Bn BO n))
theorem M4{k:Nat}{BO:MD}(R:Fn K mg "_law_density" J6 IW f fd)
 {U:AD}{Y:F0a}(Z:Fn K mg "_law_knots" MZ IW U Y)(g:AK P w K mg base Af k U Y IW (A6 BO)):∀n,
  AK P w K mg base Af (k+n+1) f fd IW (A6 (Bn BO n))
 |0=>Ez fun _ _ _ _ ⟨_,_,_,h,_⟩=>by cases h
 |n+1=>by
  have sc:=UE;have GQ:=M4 (k:=k) (BO:=BO) R Z g n;have g:=g.mono (show k<=k+n+1 by lia);refine Fc (k:=k+n+1) (F:=Nn BO (Bn BO n)) R sc fun cdv A outer s H E T=>?_;exact(AQ (Bb (i:=1) sc.nd rfl As (Aa Z g T rfl dl))
 (AQ (Dj aR rfl (C6 Ci) (FA iF)
  (AV (Bb (i:=1) sc.nd rfl As (A3 Fq Fr (Aa R GQ T rfl (AA Iu AF))))))
 (AV (A0 Fr))))
def Rg:Ac IF IF (AO PH):=CG
def Tj(g:MD):DF :=
 (Bd (AU g (AB (Ai Ek (Ai Gg (Ai DD eG Iv) (Ai DD KK By)) (Ai Gg (Ai DD KK Iv) (Ai DD eG By))) (AB (Ai Gg (Ai DD eG By) (Ai DD KK By)) AG))))
def El(g:MD):MD:=Cf IF IF (Tj g)
def ZV{k:Nat}{T:MD}(F:Fn K mg "_law_add" PH IF f fd) {g:AD}{R:F0a}(Z:Fn K mg "_law_frac" IU OR g R)(Y:AK P w K mg base Af k g R OR (A6 T)):AK P w K mg base Af Pi f fd IF (A6 (El T)):=Fc F Rg fun cdv A outer s H E U=>by
 have sc:=Rg;exact(AV (A0 (Aa Z Y U rfl (AA (A3 Ck (A3 Fq iN (Bw Fr AJ DR)) (A3 Fq (Bw Fr AJ DR) iN)) (AA (A3 Fq iN (Bw Fr AJ DR)) AF)))))
def Rf:Ac IF IF (AO Oj):=CG
def Tn(g:MD):DF :=
 (Bd (AU g (AB (Ai Gg (Ai DD eG Iv) (Ai DD KK Iv)) (AB (Ai Gg (Ai DD eG By) (Ai DD KK By)) AG))))
def Es(g:MD):MD:=Cf IF IF (Tn g)
def ZQ{k:Nat}{T:MD}(F:Fn K mg "_law_mul" Oj IF f fd) {g:AD}{R:F0a}(Z:Fn K mg "_law_frac" IU OR g R)(Y:AK P w K mg base Af k g R OR (A6 T)):AK P w K mg base Af Pi f fd IF (A6 (Es T)):=Fc F Rf fun cdv A outer s H E U=>by
 have sc:=Rf;exact(AV (A0 (Aa Z Y U rfl (AA (A3 Fq iN (Bw Fr AJ DR)) (AA (A3 Fq iN (Bw Fr AJ DR)) AF)))))
def RP:Ac ["_law_weighing","_law_trees_here","_law_tree","_law_at"] LK (AO PF):=CG
def T4(El:MD)(Bn:MD):DF :=
 (Ar (CN 3 (Ai N0 KK (nm 2)))
 (Bd (AU El (AB (Ai DD eG (nm 3)) (AB (BA (AB (Py By) (AB (AU Bn PU) AG))) AG)))))
def EI(El:MD)(Bn:MD):MD:=Cf LK ["_law_weighing","_law_trees_here","_law_tree","_law_at"] (T4 El Bn)
def Ze{k:Nat}{El:MD}{Bn:MD}(F:Fn K mg "_law_off" PF LK f fd) {R:AD}{T:F0a}(LV:Fn K mg "_law_add" PH IF R T)(Z:AK P w K mg base Af k R T IF (A6 El)) {U:AD}{Y:F0a}(DP:Fn K mg "_law_density" J6 IW U Y)(GQ:AK P w K mg base Af k U Y IW (A6 Bn)):AK P w K mg base Af Pi f fd LK (A6 (EI El Bn)):=Fc F RP fun cdv A outer s H E g=>by
 have sc:=RP;exact(AQ (Bb (i:=3) sc.nd rfl As (iM (i:=1) Ca kS Iu))
 (AV (A0 (Aa LV Z g rfl (AA (Bw Ci PN DR) (AA (Aq (AA (QS AJ) (AA (Aa DP GQ g rfl (AA Iu AF)) AF))) AF))))))
def iX:Ac ["_law_script","_law_table_here","_law_most","_law_weighing","_law_mirrored","_law_both","_law_order","_law_odd","_law_trees_here","_law_one"] ["_law_script"] (AO l8):=CG
def lF(CZ:MD)(Es:MD)(EI:MD)(g:MD)(Ds:MD)(CM:rW)(Bt:rW)(Bc:rW)(Bp:MD)(Ax:rW):DF :=
 (Ar (CN 1 (AU g (AB eG (AB Iv (AB (fC (.int 4)) AG)))))
 (Ar (CN 2 (Ai Ek By (Ai Ih (AU CZ (AB eG (AB T9 AG))) (fC (.int 5)))))
 (Ar (CN 3 (AU (good CM) (AB KK PU)))
 (Ar (CN 4 (AU (good Bc) (AB (nm 3) AG)))
 (Ar (CN 5 (AU (good Bt) (AB (AU (good Ax) (AB (nm 3) (AB (BA (AB By (AB T9 AG))) AG))) (AB (AU (good Ax) (AB (nm 4) (AB (BA (AB By (AB T9 AG))) AG))) AG))))
 (Ar (GG (CT (EU true) (AU (good Bc) (AB (nm 5) AG)) (nm 5))
  (Bd TD)
  C9)
 (Ar (jq (AU Bp (AB (nm 5) AG)) (Fw 6 7))
 (Ar (GG (X8 (CT (WG true) (nm 7) (fC .none)) (CT (EU false) (Ai Ih (nm 6) T9) By))
  (Bd TD)
  C9)
 (Ar (jq (AU Bp (AB (nm 3) AG)) (Fw 6 7))
 (Ar (GG (CT (EU true) (Ai DD (AU Bp (AB (nm 4) AG)) Iv) (nm 6))
  (Bd TD)
  C9)
 (Ar (GG (Mm (CT (WG false) (nm 7) (fC .none)) (CT (EU false) (nm 6) Iv))
  (Bd (fC Jq))
  C9)
 (Ar (CN 8 (AU Ds PU))
 (Ar (CN 9 (AU EI (AB (nm 3) (AB (nm 8) (AB (nm 7) AG)))))
 (Bd (Ai (EU false) (AU EI (AB (nm 4) (AB (nm 8) (AB (nm 7) AG)))) (AU Es (AB (nm 9) (AB (BA (AB (Ai DD (Co (AB By (AB (Py By) AG))) (Ai Ih (nm 6) T9)) (AB By AG))) AG))))))))))))))))))
def lV(CZ:MD)(Es:MD)(EI:MD)(g:MD)(Ds:MD)(CM:rW)(Bt:rW)(Bc:rW)(Bp:MD)(Ax:rW):MD:=Cf ["_law_script"] ["_law_script","_law_table_here","_law_most","_law_weighing","_law_mirrored","_law_both","_law_order","_law_odd","_law_trees_here","_law_one"] (lF CZ Es EI g Ds CM Bt Bc Bp Ax)
def tU{k:Nat}{CZ:MD}{Es:MD}{EI:MD}{GF:MD}{Ds:MD}{CM:rW}{Bt:rW}{Bc:rW}{Bp:MD}{Ax:rW}(F:Fn K mg "law" l8 ["_law_script"] f fd) {RK:AD}{Qn:F0a}(Ey:Fn K mg "_law_cell" Kd TW RK Qn)(Fx:AK P w K mg base Af k RK Qn TW (A6 CZ)) {U:AD}{RO:F0a}(Lg:Fn K mg "_law_mul" Oj IF U RO)(OJ:AK P w K mg base Af k U RO IF (A6 Es)) {Y:AD}{Z:F0a}(JW:Fn K mg "_law_off" PF LK Y Z)(LS:AK P w K mg base Af k Y Z LK (A6 EI)) {Qm:AD}{PY:F0a}(JA:Fn K mg "_law_table" Lu Tk Qm PY)(MX:AK P w K mg base Af k Qm PY Tk (A6 GF)) {QZ:AD}{Pa:F0a}(JN:Fn K mg "_law_trees" Me ["_law_most"] QZ Pa)(MP:AK P w K mg base Af k QZ Pa ["_law_most"] (A6 Ds)) {L0:AD}{K9:F0a}(Gk:Fn K mg "table_weighing" Io ["table","most"] L0 K9)(Iq:AK P w K mg base Kf k L0 K9 ["table","most"] (Dy CM)) {Jt:AD}{JT:F0a}(FP:Fn K mg "weighing_composed" HJ JJ Jt JT)(HK:AK P w K mg base Kf k Jt JT JJ (Dy Bt)) {Ju:AD}{JI:F0a}(D8:Fn K mg "weighing_mirrored" HL IQ Ju JI)(FQ:AK P w K mg base Kf k Ju JI IQ (Dy Bc)) {Mf:AD}{LC:F0a}(T:Fn K mg "weighing_order" Ie IQ Mf LC)(R:AK P w K mg base Af k Mf LC IQ (A6 Bp)) {Eg:AD}{EW:F0a}(Cb:Fn K mg "weighing_turned" F4 ["weighing","part"] Eg EW)(Cr:AK P w K mg base Kf k Eg EW ["weighing","part"] (Dy Ax)):AK P w K mg base Af Pi f fd ["_law_script"] (A6 (lV CZ Es EI GF Ds CM Bt Bc Bp Ax)):=Fc F iX fun cdv A outer s H E g=>by
 have sc:=iX;exact(AQ (Bb (i:=1) sc.nd rfl As (Aa JA MX g rfl (AA Ci (AA AJ (AA AJ AF)))))
 (AQ (Bb (i:=2) sc.nd rfl As (A3 Ck AJ (A3 GU (Aa Ey Fx g rfl (AA Ci (AA AJ AF))) AJ)))
 (AQ (Bb (i:=3) sc.nd rfl As (Aa Gk (Jb Iq) g rfl (AA Fr (AA Iu AF))))
 (AQ (Bb (i:=4) sc.nd rfl As (Aa D8 (Jb FQ) g rfl (AA PN AF)))
 (AQ (Bb (i:=5) sc.nd rfl As (Aa FP (Jb HK) g rfl (AA (Aa Cb (Jb Cr) g rfl (AA PN (AA FB AF))) (AA (Aa Cb (Jb Cr) g rfl (AA (AE (pv 4)) (AA FB AF))) AF))))
 (AQ (Di (B3 (Mp Ca) (Aa D8 (Jb FQ) g rfl (AA (AE (pv 5)) AF)) (AE (pv 5)) Tl)
  (AV (A0 F6))
  CH)
 (AQ (gu (Aa T R g rfl (AA (AE (pv 5)) AF)) lY)
 (AQ (Di (DW.dt (Xs (B3 j4 (AE (pv 7)) Lp Tl) (GY (B3 (KQ Ca) (A3 GU (AE (pv 6)) AJ) AJ Tl))))
  (AV (A0 F6))
  CH)
 (AQ (gu (Aa T R g rfl (AA PN AF)) lY)
 (AQ (Di (B3 (Mp Ca) (Bw (Aa T R g rfl (AA (AE (pv 4)) AF)) AJ DR) (AE (pv 6)) Tl)
  (AV (A0 F6))
  CH)
 (AQ (Di (DW.dt (JG (B3 mR (AE (pv 7)) Lp Tl) (GY (B3 (KQ Ca) (AE (pv 6)) AJ Tl))))
  (AV (A0 F6))
  CH)
 (AQ (Bb (i:=8) sc.nd rfl As (Aa JN MP g rfl (AA Iu AF)))
 (AQ (Bb (i:=9) sc.nd rfl As (Aa JW LS g rfl (AA PN (AA (AE (pv 8)) (AA (AE (pv 7)) AF)))))
 (AV (A0 (Tz (KQ Ca) (Aa JW LS g rfl (AA (AE (pv 4)) (AA (AE (pv 8)) (AA (AE (pv 7)) AF)))) (Aa Lg OJ g rfl (AA (AE (pv 9)) (AA (Aq (AA (Bw (Bg (AA AJ (AA (QS AJ) AF))) (A3 GU (AE (pv 6)) AJ) DR) (AA AJ AF))) AF))) Tl))))))))))))))))
end
abbrev x6:MD:=BD AY 9
abbrev IC(C:AD):List PD->Option Xr:=Ab (Ew x6 C) C
def AH:Nat->List Tr
 |0=>[]
 |n+1=>AH n++TH.tz n
abbrev Ap(n:Nat):PD:=.list (L2.BN (Tr.of (AH n)))
def xt(C:AD):IC C [.int 0]=some (.inl (Ap 0)):=by kernel_rfl
def xO(C:AD):IC C [.int 1]=some (.inl (Ap 1)):=by kernel_rfl
def xi(C:AD):IC C [.int 2]=some (.inl (Ap 2)):=by kernel_rfl
def xA(C:AD):IC C [.int 3]=some (.inl (Ap 3)):=by kernel_rfl
def xS(C:AD):IC C [.int 4]=some (.inl (Ap 4)):=by kernel_rfl
def xn(C:AD):IC C [.int 5]=some (.inl (Ap 5)):=by kernel_rfl
def Qt{n:Nat}(h:n<=5)(C:AD):IC C [.int (n:Nat)]=some (.inl dO):=by
 rcases n with _|_|_|_|_|_|n
 .exact xt C
 .exact xO C
 .exact xi C
 .exact xA C
 .exact xS C
 .exact xn C
 .lia
def CU:Nat->Nat
 |0=>0|1=>1|2=>2|3=>4|4=>8|5=>17|6=>37|_=>85
def D6:∀n,n<=5->(AH n).length=CU n/\∀t∈AH n,t.deep<=8/\t.AI<=5/\1<=t.AI:=by decide +kernel
mutual
theorem UB{H:Hp}:∀ {d:PD} {v:V},d.canLay0=true->Du H d v->DU H d v
 |.none,_,_,h=>by rw[Du]at h;subst h;exact .BP
 |.bool _,_,_,h=>by rw[Du]at h;subst h;exact .bool
 |.int _,_,_,h=>by rw[Du]at h;subst h;exact .int
 |.str _,_,_,h=>by rw[Du]at h;subst h;exact .str
 |.tuple _,_,c,h=>by
  rw[Du]at h;obtain⟨a,xs,rfl,R,g⟩:=h;exact .tup R (U3 (by simpa only[PyData.canLay0]using c) g)
 |.list _,_,c,h=>by
  rw[Du]at h;obtain⟨a,xs,rfl,R,g⟩:=h;exact .lst R (U3 (by simpa only[PyData.canLay0]using c) g)
 |.dict _,_,c,h=>by simp[PyData.canLay0]at c
theorem U3{H:Hp}:∀ {ds:List PD} {xs:IZ},PyData.canLayAll0 ds=true->An H ds xs->CK H ds xs
 |[],_,_,h=>by rw[h.nil_eq];exact .nil
 |_::_,_,c,h=>by
  obtain⟨x,r,rfl,R,g⟩:=h.un;simp only[PyData.canLayAll0,Bool.and_eq_true]at c;exact .cons (UB c.1 R) (U3 c.2 g)
end
def dm{G H H':Hp}{l:AD}{vs:zJ}{ds:yx}(U:AL G H)(e:AL H H')(R:H' l=some (.tup vs))(d:An G ds vs):∃g,AL G g/\Nw G H g/\AL g H'/\Du g (.tuple ds) Rb:=by
 have T:AL G (upd G l (.tup vs)):=fun a o h=>by
  by_cases ha:a=l
  .subst ha;have:=e _ _ (U _ _ h);rw[R]at this;rw[AR];exact this
  .rw[AN ha];exact h
 refine⟨upd G l (.tup vs),T,fun a u h=>?_,fun a u h=>?_,?_⟩
 .by_cases ha:a=l
  .subst ha;rw[AR]at h;cases h;exact .inr (.inr ⟨_,rfl⟩)
  .rw[AN ha]at h;exact .inl h
 .by_cases ha:a=l
  .subst ha;rw[AR]at h;rw[R];exact h
  .rw[AN ha]at h;exact e _ _ (U _ _ h)
 .rw[Du];exact⟨l,vs,rfl,AR,d.same T⟩
theorem MT{G:Hp}:∀ps:List Int,An G (ps.map .int) (ps.map V.int)
 |[]=>.nil
 |p::ps=>.cons L1 (MT ps)
theorem W3:∀ps:List Int,PyData.canLayAll0 (ps.map .int)=true
 |[]=>by simp[PyData.canLayAll0]
 |p::ps=>by rw[(A2)];simp only[PyData.canLayAll0,PyData.canLay0];rw[W3 ps];rfl
def NA:PD->Rat
 |.tuple [.int a,.int b]=>Rat.divInt a b
 |_=>0
def Lq(r:Rat):NA (AW r)=r:=FM.Dg r
def VV(r:Rat):(AW r).canLay0=true:=by unfold AW;simp only[PyData.canLay0];exact W3 [r.num,(r.den:Int)]
section
variable{P:F0b}{w:F0c}{K:Fg}{mg:y0}{base:Heap}{CX:Iw}{k:Nat}{f:AD}{fd:F0a}{ps:zC}
def gM(ds:yx):y7:=match ds with
 |[.int t,.int b]=>if b≠0/\b.natAbs<2^400 then some (AW (Rat.divInt t b)) else none
 |_=>none
def xf(F:AK P w K mg base CX k f fd ps Sy):AK P w K mg base CX k f fd ps (A6 gM) :=
 KH F fun ds x hm G H vs Q E d e kk=>by
  unfold gM at hm;split at hm
  .split at hm
   .rename_i R;cases hm;obtain⟨v1,v2,rfl,Y,U⟩:=d.Mv;rw[Du]at Y U;subst Y U;refine⟨_,_,400,rfl,R.1,by decide,R.2,fun l H' T g=>?_⟩;obtain⟨G',n1,n2,n3,Z⟩:=dm e T g (MT [(Rat.divInt _ _).num,((Rat.divInt _ _).den:Int)]);exact kk _ G' H' n1 n2 n3 T Z
   .cases hm
  .cases hm
end
def Xe{n:Nat}{ds:yx}(h:∀d∈ds,Ok n d):eW n ds:=by
 induction ds with
 |nil=>exact⟨by simp[PyData.canLayAll0],by simp[PyData.depthAll]⟩
 |cons d ds g=>
  obtain⟨a,b⟩:=h d Fa;obtain⟨T,U⟩:=g fun e R=>h e (.tail _ R);exact⟨by simp only[PyData.canLayAll0];rw[a,T];rfl,by simp only[PyData.depthAll];lia⟩
def xm{n:Nat}{ds:yx}(h:∀d∈ds,Ok n d):Ok (n+1) (.list ds):=.lst (Xe h)
def xx{n:Nat}{ds:yx}(h:∀d∈ds,Ok n d):Ok (n+1) (.tuple ds):=.tup (Xe h)
def UH(r:Rat):Ok 1 (AW r):=xx (n:=0) fun d hd=>by
 rcases aM.mp hd with rfl|hd
 .exact .int
 .rw[List.mem_singleton.mp hd];exact .int
def ne_self{x:PD}{n:Nat}(h:Ok n x)(hn:n<=64):EU true x x=some (.bool false):=by
 refine(if_pos ⟨h.shaped hn,h.shaped hn⟩).trans ?_;rw[OW x h.1];rfl
def ZJ{x:PD}{n:Nat}(h:Ok n x)(hn:n<=64):EU false x x=some Jq:=by
 refine(if_pos ⟨h.shaped hn,h.shaped hn⟩).trans ?_;rw[OW x h.1];rfl
def Zg(x y:Int):EU false (.int x) (.int y)=some (.bool (decide (x=y))):=by
 have h:SeqAt.shaped (.int x)=true/\SeqAt.shaped (.int y)=true:=⟨(Ok.int (n:=0)).shaped AT,(Ok.int (n:=0)).shaped AT⟩;refine(if_pos h).trans ?_;simp[PyData.eqv];exact Bool.eq_iff_iff.mpr At
def YS{i j:Int}{n:Nat}(R:i.natAbs<2^n)(g:j.natAbs<2^n)(hn:n<=9000):Gg (.int i) (.int j)=some (.int (i*j)):=Ys (by
 unfold Ox;rw[Pq (n:=9000) (aH R (aZ AT hn)),Pq (n:=9000) (aH g (aZ AT hn))];simp)
def gF{t b:Int}(h:b≠0)(g:b.natAbs<2^400):gM [.int t,.int b]=some (AW (Rat.divInt t b)):=if_pos ⟨h,g⟩
theorem HD:∀ts:List Tr,L2.BN (Tr.of ts)=ts.map fun t=>.tuple (L2.BN t)
 |[]=>rfl
 |t::ts=>by rw[(A2),<-HD ts];rfl
def nX(ns:zA)(k:Nat):∃c,CZ [FU ns,.int (k:Nat)]=some (.int c):=by
 suffices hh:∃c,NN [.d (FU ns),.d (.int (k:Nat)),.no,.no]=some (.rt (.int c)) by
  obtain⟨c,h⟩:=hh;exact⟨c,Cy rfl h⟩
 unfold NN;have U:∃g,(GG (CT (Hj fun i j=>decide (i<j)) KK (AU IJ Db)) (CN 2 (Ai DD eG KK)) C9) [.d (FU ns),.d (.int (k:Nat)),.d (.int 0),.no]=some (.nx [.d (FU ns),.d (.int (k:Nat)),.d (.int g),.no]):=by
  have t:CT (Hj fun i j=>decide (i<j)) KK (AU IJ Db) [.d (FU ns),.d (.int (k:Nat)),.d (.int 0),.no]=some (decide ((k:Int)<((ns.map PyData.int).length:Nat))):=Cw (x:=.int (k:Nat)) (y:=.int ((ns.map PyData.int).length:Nat)) rfl rfl rfl;rw[(BJ)]at t;by_cases z:k<ns.length
  .rw[decide_eq_true (show(k:Int)<(ns.length:Nat) by lia)]at t;exact⟨ns[k],Ka t (Cz (Az (x:=FU ns) (y:=.int (k:Nat)) rfl rfl (Zw (by rw[(CD),List.getElem?_eq_getElem z];rfl))))⟩
  .rw[decide_eq_false (show ¬(k:Int)<(ns.length:Nat) by lia)]at t;exact⟨0,DB t rfl⟩
 obtain⟨g,U⟩:=U;have R:Ai Px (fC (.int 10)) (fC (.int 18)) [.d (FU ns),.d (.int (k:Nat)),.d (.int g),.no]=some (.int ((10:Int)^18)):=Az (x:=.int 10) (y:=.int 18) rfl rfl (ib (n:=18) AT AT);have Y:Ai Px (fC (.int 10)) (fC (.int 60)) [.d (FU ns),.d (.int (k:Nat)),.d (.int g),.no]=some (.int ((10:Int)^60)):=Az (x:=.int 10) (y:=.int 60) rfl rfl (ib (n:=60) AT AT);have T:CT (Hj fun i j=>decide (j<=i)) (nm 2) (Ai Px (fC (.int 10)) (fC (.int 18))) [.d (FU ns),.d (.int (k:Nat)),.d (.int g),.no]=some (decide ((10:Int)^18<=g)):=Cw (x:=.int g) (y:=.int ((10:Int)^18)) rfl R rfl;by_cases z:(10:Int)^18<=g
 .rw[decide_eq_true z]at T;exact⟨_,Al rfl (Al U (Hm (Ka T (GO (Az (x:=.int (g-(10:Int)^18)) (Az (x:=.int g) rfl R rfl) Y (mod_is (Int.pow_pos AT)))))))⟩
 .rw[decide_eq_false z]at T;have hn:∀(a:Int) (m:Int),0<m->m<2^60->(a % m).natAbs<2^64:=fun a m h0 h1=>by
   have:=Int.emod_nonneg a (by lia:m≠0);have:=Int.emod_lt_of_pos a h0
   lia
  generalize Z:(g*48271+(k:Int)*69621+11) % 2147483629=v;have v1:v.natAbs<2^64:=by rw[<-Z];exact hn _ _ AT AT
  generalize hu:v*v % 2147483587=u;have u1:u.natAbs<2^64:=by rw[<-hu];exact hn _ _ AT AT
  refine⟨_,Al rfl (Al U (Al (DB T rfl) (Al (Cz (y:=.int v) ?_) (Al (Cz (y:=.int u) ?_) (GO (Az (x:=.int (u*2147483563)) (y:=.int (u*u % 2147483563)) (Az (x:=.int u) (y:=.int 2147483563) rfl rfl (mul_r AT)) (Az (x:=.int (u*u)) (y:=.int 2147483563) (Az (x:=.int u) (y:=.int u) rfl rfl (mul_r u1)) rfl (mod_is AT)) rfl))))))⟩
  .refine Az (x:=.int (g*48271+(k:Int)*69621+11)) (y:=.int 2147483629) (Az (x:=.int (g*48271+(k:Int)*69621)) (y:=.int 11) (Az (x:=.int (g*48271)) (y:=.int ((k:Int)*69621)) (Az (x:=.int g) (y:=.int 48271) rfl rfl (mul_r AT)) (Az (x:=.int (k:Nat)) (y:=.int 69621) rfl rfl (mul_r AT)) rfl) rfl rfl) rfl ((mod_is AT).trans ?_);rw[Z]
  .refine Az (x:=.int (v*v)) (y:=.int 2147483587) (Az (x:=.int v) (y:=.int v) rfl rfl (mul_r v1)) rfl ((mod_is AT).trans ?_);rw[hu]
abbrev tD(t:Tr):PD:=.tuple (L2.BN t)
def Dw(m:Int)(c:Nat)(q:Rat):Prop:=∃a:Int,q=Rat.divInt a m/\a.natAbs<=c
def Dw.mono{m:Int}{c d:Nat}{q:Rat}(h:Dw m c q)(l:c<=d:=by decide):Dw m d q:=let⟨a,e,k⟩:=h;⟨a,e,Nat.le_trans k l⟩
def Dw.add{m:Int}{c d:Nat}{p q:Rat}(hm:m≠0)(h:Dw m c p)(k:Dw m d q):Dw m (c+d) (p+q):=by
 obtain⟨a,rfl,R⟩:=h;obtain⟨b,rfl,g⟩:=k;exact⟨a+b,by rw[Rat.divInt_add_divInt _ _ hm hm,<-Int.add_mul,Rat.divInt_mul_right hm],by lia⟩
def Dw.mul{m n:Int}{c d:Nat}{p q:Rat}(h:Dw m c p)(k:Dw n d q):Dw (m*n) (c*d) (p*q):=by
 obtain⟨a,rfl,R⟩:=h;obtain⟨b,rfl,g⟩:=k;exact⟨a*b,by rw[Rat.divInt_mul_divInt],by rw[(QV)];exact bg R g⟩
def Dw.up{m k:Int}{c:Nat}{q:Rat}(g:k≠0)(h:Dw m c q):Dw (m*k) (c*k.natAbs) q:=by
 obtain⟨a,rfl,R⟩:=h;exact⟨a*k,by rw[Rat.divInt_mul_right g],by rw[(QV)];exact bg R Ql⟩
def Dw.zero{m:Int}{c:Nat}:Dw m c 0:=⟨0,by rw[Rat.zero_divInt],by simp⟩
def Dw.fits{m:Int}{c n:Nat}{q:Rat}(hm:m≠0)(h:Dw m c q)(T:c<2^n)(R:m.natAbs<2^n):FM.Fits q n:=by
 obtain⟨a,rfl,g⟩:=h;exact .UU hm (aW g T) R
theorem Dw.sum{m:Int}{c:Nat}(hm:m≠0):∀ {l:List Rat} {n:Nat},l.length<=n->(∀q∈l,Dw m c q)->Dw m (n*c) l.sum
 |[],n,_,_=>by rw[List.sum_nil];exact .zero
 |q::l,0,h,_=>by simp at h
 |q::l,n+1,h,k=>by
  rw[(K1)];have:=(k q Fa).add hm (Dw.sum hm (l:=l) (n:=n) (by simpa using h) fun x g=>k x (.tail _ g));exact this.mono (by rw[Nat.succ_mul];lia)
def Y9(r:Rat):Prop:=FM.Fits r 3/\r.den<=6
def Tb.Sm(t:Tb):Prop:=(∀r∈t.rs,∀q∈r,Y9 q)/\∀q∈t.ls,Y9 q
def RX(n:Int):Rat:=Rat.divInt (n % 13-6) (1+n / 13 % 6)
def XC(n:Int):Y9 (RX n):=by
 refine⟨.UU AC AC AC,?_⟩;have:=FM.ij (t:=n % 13-6) (b:=1+n / 13 % 6) AC;unfold RX
 lia
def Fm(ns:zA)(k:Nat):Int:=match CZ [FU ns,.int (k:Nat)]with|some (.int c)=>c|_=>0
def Xo(ns:zA)(k:Nat):CZ [FU ns,.int (k:Nat)]=some (.int (Fm ns k)):=by
 obtain⟨c,h⟩:=nX ns k;unfold Fm;rw[h]
def rK:Sp:=fun vs H Q _=>∃(a:AD) (ns:List Int) (k:Nat),vs=[.ref a,.int (k:Int)]/\Rd H a (.lst RW)/\∀H',AL H H'->Q (.int (Fm ns k)) H'
def sv:Sp:=fun vs H Q _=>∃n:Int,vs=[.int n]/\∀(l:AD) H',AL H H'->H' l=some (.tup (Kv (RX n)))->Q Rb H'
def YK(H H':Hp)(v:V):Prop:=∃(p R L:AD) (xs:IZ),v=.ref p/\H' p=some (.tup [.ref R,.ref L])/\H' R=some KB/\H R=none/\H L=none/\∀b,V.ref b∈xs->H b=none
def q0:Rat:=⟨0,1,by decide,by decide⟩
def q1:Rat:=⟨1,1,by decide,by decide⟩
def i4:Rat:=⟨1,2,by decide,by decide⟩
def se:Rat:=⟨1,3,by decide,by decide⟩
def ym:Rat:=⟨2,3,by decide,by decide⟩
def yk:Rat:=⟨1,4,by decide,by decide⟩
def yo:Rat:=⟨3,4,by decide,by decide⟩
def wK:Rat:=⟨1,6,by decide,by decide⟩
def q8:Tb:=⟨[[]],[q1]⟩
def wW:Tb:=⟨[[],[i4]],[q0,q1]⟩
def wY:Tb:=⟨[[],[q1]],[i4,i4]⟩
def wF:Tb:=⟨[[],[se],[q0,ym]],[yk,q0,yo]⟩
def wR:Tb:=⟨[[],[i4],[q0,i4],[q0,q0,q1]],[wK,se,se,wK]⟩
instance (r:Rat):Decidable (Y9 r):=inferInstanceAs (Decidable ((r.num.natAbs<2^3/\r.den<2^3)/\r.den<=6))
def jt(t:Tb):Bool:=decide (1<=t.rs.length)&&decide (t.rs.length<=4)&&decide (t.ls.length=t.rs.length)&&(List.range 4).all (fun i=>match t.rs[i]? with|some r=>decide (r.length=i)|none=>true)&&t.rs.all (fun r=>r.all fun q=>decide (Y9 q))&&t.ls.all fun q=>decide (Y9 q)
def Uz{t:Tb}(h:jt t=true):t.Ok 4/\t.Sm:=by
 unfold jt at h;simp only[Bool.and_eq_true,decide_eq_true_eq,List.all_eq_true,List.mem_range]at h;obtain⟨⟨⟨⟨⟨h1,Z⟩,Y⟩,U⟩,T⟩,R⟩:=h;refine⟨⟨h1,Z,Y,fun i r g=>?_⟩,T,R⟩;have:=U i (by have:=(aD.mp g).1;lia);rw[g]at this
 simpa using this
def IX(n:Int):Tb:=if n % 5=0 then q8 else if n % 5=1 then wW else if n % 5=2 then wY else if n % 5=3 then wF else wR
def tW:Sp:=fun vs H Q _=>∃(n:Int),vs=[.int n]/\∀v H',AL H H'->DU H' (C8 (IX n)) v->YK H H' v->Q v H'
def K7(n:Int):Nat->Int
 |0=>n
 |j+1=>K7 n j / 78
def VO(n:Int):Nat->Int
 |0=>n
 |i+1=>K7 (VO n i) i
def fV(n:Int)(i:Nat):zH:=(List.range i).map fun j=>RX (K7 (VO n i) j)
def S6(g R:Int)(most:Nat):Tb :=
 if g % 4=0 then
  (if(IX (g / 4)).rs.length > most then q8
   else if g / 20 % 3=0 then⟨(IX (g / 4)).rs,(IX (g / 4)).ls.set ((g / 60).fmod ((IX (g / 4)).ls.length:Nat)).toNat (RX R)⟩ else IX (g / 4))
 else⟨(List.range (1+(g / 4).fmod (most:Nat)).toNat).map (fV (g / 16)),(List.range (1+(g / 4).fmod (most:Nat)).toNat).map fun i=>RX (K7 R i)⟩
def qL:Sp:=fun vs H Q _=>∃(a:AD) (ns:List Int) (k most:Nat),vs=[.ref a,.int (k:Int),.int (most:Int)]/\Rd H a (.lst RW)/\1<=most/\most<=4/\∀v H',AL H H'->DU H' (C8 (S6 (Fm ns k) (Fm ns Pi) most)) v->YK H H' v->Q v H'
def b7{H H':Hp}{a:AD}{u:HO}(h:Rd H a u)(e:AL H H'):Rd H' a u:=h.elim (fun z=>.inl (e _ _ z)) fun⟨o,z⟩=>.inr ⟨o,e _ _ z⟩
section
variable{P:F0b}{w:F0c}{K:Fg}{mg:y0}{base:Heap}{f g1:AD}{fd gd1:F0a}
def WY:Ac RN RN (AO MV):=CG
def Wg(F:Fn K mg "_law_entry" MV RN f fd)(Z:Fn K mg "_law_frac" IU OR g1 gd1)(Y:AK P w K mg base Af 1 g1 gd1 OR Sy):AK P w K mg base Af 2 f fd RN sv:=by
 have sc:=WY;refine F.F.ok (k:=1) sc KT (fun cdv A outer s H vs Q E g h=>?_)
 .obtain⟨n,rfl,_⟩:=h
  rfl
 obtain⟨n,rfl,q⟩:=h;refine⟨_,(BE (Cp (Dq Z Y g rfl (AM (BW XT (BW P5 (pv 0) Au) Au) (AM (BW Qo Au (BW P5 (BW Ht (pv 0) Au) Au)) Ad))))),?_⟩;refine⟨_,rfl,_,_,rfl,rfl,(by show(0:Int)<13;decide),_,_,rfl,rfl,_,rfl,_,_,rfl,rfl,⟨by decide,by decide⟩,_,_,rfl,rfl,(by show(0:Int)<6;decide),_,_,rfl,rfl,?_⟩;exact⟨n % 13-6,1+n / 13 % 6,3,rfl,by lia,by decide,by lia,fun l U T R=>q l U T R⟩
end
def jr(n:Int):Lw [.int n]=some (C8 (IX n)):=by
 have c:∀(k:Int) (b:Bool),decide (n % 5=k)=b->CT (EU false) (Ai Ih eG (fC (.int 5))) (fC (.int k)) [.d (.int n)]=some b:=fun k b h=>Cw (Az rfl rfl (mod_is AT)) rfl (by
  show some (PyData.bool _)=_;rw[<-h]
  rfl)
 have r:=Int.emod_nonneg n (show(5:Int)≠0 by decide);by_cases h0:n % 5=0
 .rw[show IX n=q8 by unfold IX;simp[h0]];exact Cy rfl (Hm (Ka (c 0 true (by simp[h0])) rfl))
 by_cases g:n % 5=1
 .rw[show IX n=wW by unfold IX;simp[h0,g]];exact Cy rfl (Al (DB (c 0 false (by simp[h0])) rfl) (Hm (Ka (c 1 true (by simp[g])) rfl)))
 by_cases R:n % 5=2
 .rw[show IX n=wY by unfold IX;simp[h0,g,R]];exact Cy rfl (Al (DB (c 0 false (by simp[h0])) rfl) (Al (DB (c 1 false (by simp[g])) rfl) (Hm (Ka (c 2 true (by simp[R])) rfl))))
 by_cases T:n % 5=3
 .rw[show IX n=wF by unfold IX;simp[h0,g,R,T]];exact Cy rfl (Al (DB (c 0 false (by simp[h0])) rfl) (Al (DB (c 1 false (by simp[g])) rfl) (Al (DB (c 2 false (by simp[R])) rfl) (Hm (Ka (c 3 true (by simp[T])) rfl)))))
 .rw[show IX n=wR by unfold IX;simp[h0,g,R,T]];exact Cy rfl (Al (DB (c 0 false (by simp[h0])) rfl) (Al (DB (c 1 false (by simp[g])) rfl) (Al (DB (c 2 false (by simp[R])) rfl) (Al (DB (c 3 false (by simp[T])) rfl) rfl))))
def gc(n:Int):jt (IX n)=true:=by
 unfold IX;split
 .decide +kernel
 .split
  .decide +kernel
  .split
   .decide +kernel
   .split
    .decide +kernel
    .decide +kernel
def cS(t:Tb):(C8 t).canLay0=true:=by
 have f:∀r:List Rat,PyData.canLayAll0 (Be r)=true:=fun r=>by
  induction r with
  |nil=>rfl
  |cons q r R=>show PyData.canLayAll0 (AW q::Be r)=true;simp[PyData.canLayAll0,R,AW,PyData.canLay0]
 have g:∀rs:List (List Rat),PyData.canLayAll0 (Bq rs)=true:=fun rs=>by
  induction rs with
  |nil=>rfl
  |cons r rs R=>show PyData.canLayAll0 (BN r::Bq rs)=true;simp[PyData.canLayAll0,R,BN,PyData.canLay0,f]
 simp[C8,PyData.canLay0,PyData.canLayAll0,f,g]
theorem Y5{G H:Hp}(n:∀a xs,G a=some KB->H a=none):∀ {rs:List (List Rat)} {xs:IZ},An G (Bq rs) xs->∀b,V.ref b∈xs->H b=none
 |[],xs,h,b,g=>by
  have:=h.len;have e:xs=[]:=bQ (by simpa[Bq]using this);rw[e]at g;cases g
 |r::rs,xs,h,b,g=>by
  obtain⟨x,t,rfl,R,U⟩:=An.un (d:=BN r) (ds:=Bq rs) h;rw[BN,Du]at R;obtain⟨a,ys,rfl,T,_⟩:=R;rcases aM.mp g with e|g
  .cases e;exact n _ _ T
  .exact Y5 n U b g
def jV{P:F0b}{w:F0c}{K:Fg}{mg:y0}{base:Heap}{f:AD}{fd:F0a}{k:Nat}{ps:zC}(F:AK P w K mg base Af k f fd ps (A6 Lw)):AK P w K mg base Af k f fd ps tW :=
 F.imp fun vs H Q E z=>by
  obtain⟨n,rfl,q⟩:=z;refine⟨[.int n],C8 (IX n),fun _=>none,jr n,.cons L1 .nil,fun a o h=>(by cases h),fun v G' H' _ nw T e2 U=>?_⟩;refine q v H' e2 (UB (cS _) (U.same T)) ?_;have g:∀a xs,G' a=some KB->H a=none:=fun a xs h=>by
   rcases nw _ _ h with h|h|⟨ys,h⟩
   .cases h
   .exact h
   .cases h
  rw[C8,Du]at U;obtain⟨a,xs,rfl,g1,g2⟩:=U;obtain⟨x,r,rfl,g4,g3⟩:=g2.un;obtain⟨y,r,rfl,Z,g6⟩:=g3.un;rw[g6.nil_eq]at g1;rw[Du]at g4 Z;obtain⟨R,xs,rfl,Y,dR⟩:=g4;obtain⟨L,ys,rfl,hL,_⟩:=Z;exact⟨a,R,L,xs,rfl,T _ _ g1,T _ _ Y,g _ _ Y,g _ _ hL,Y5 g dR⟩
def mi{P:F0b}{w:F0c}{K:Fg}{mg:y0}{base:Heap}{f:AD}{fd:F0a}{k:Nat}{ps:zC}(F:AK P w K mg base Af k f fd ps (A6 CZ)):AK P w K mg base Af k f fd ps rK :=
 F.imp fun vs H Q E z=>by
  obtain⟨a,ns,k,rfl,ha,q⟩:=z;refine⟨[FU ns,.int (k:Nat)],.int (Fm ns k),H,Xo ns k,.cons (iG ha) (.cons L1 .nil),.refl _,fun v R H' _ _ _ e g=>?_⟩;rw[Du]at g;subst g;exact q H' e
def Jx(G H H':Hp):Hp:=fun b=>match H' b with
 |some (.tup xs)=>some Ke
 |some o=>if H b=none then some o else G b
 |none=>none
def fF{G H H':Hp}{a:AD}{xs:zJ}(h:H' a=some Ke):Jx G H H' a=some Ke:=by unfold Jx;rw[h]
def UA{G H H':Hp}{a:AD}{xs:zJ}(h:H' a=some KB)(h0:H a=none):Jx G H H' a=some KB:=by unfold Jx;rw[h];exact if_pos h0
def Zk{G H H':Hp}(R:AL G H)(e:AL H H'):AL G (Jx G H H')/\Nw G H (Jx G H H')/\AL (Jx G H H') H':=by
 refine⟨fun a o h=>?_,fun a o h=>?_,fun a o h=>?_⟩
 .have g:=R _ _ h;have T:=e _ _ g;unfold Jx;rw[T];cases o with
  |tup xs=>rfl
  |_=>simp only[g];exact h
 .unfold Jx at h;split at h
  .cases h;exact .inr (.inr ⟨_,rfl⟩)
  .split at h
   .rename_i z;exact .inr (.inl z)
   .exact .inl h
  .cases h
 .unfold Jx at h;cases z:H' a with
  |none=>rw[z]at h;cases h
  |some u=>
   rw[z]at h;cases u with
   |tup xs=>exact h
   |_=>
    simp only at h;split at h
    .exact h
    .rw[<-z];exact e _ _ (R _ _ h)
theorem LU{G H H':Hp}:∀ {g:List Rat} {xs:IZ},CK H' (Be g) xs->An (Jx G H H') (Be g) xs
 |[],xs,h=>by
  have:=h.len;have e:xs=[]:=bQ (by simpa[Be]using this);rw[e];exact .nil
 |q::g,xs,h=>by
  obtain⟨x,r,rfl,U,T⟩:=CK.fg (d:=AW q) (ds:=Be g) h;obtain⟨p,rfl,R⟩:=U.rat;refine .cons ?_ (LU T);unfold AW;rw[Du];exact⟨p,_,rfl,fF R,MT [q.num,(q.den:Int)]⟩
theorem WI{G H H':Hp}:∀ {rs:List (List Rat)} {xs:IZ},CK H' (Bq rs) xs->(∀b,V.ref b∈xs->H b=none)->An (Jx G H H') (Bq rs) xs
 |[],xs,h,_=>by
  have:=h.len;have e:xs=[]:=bQ (by simpa[Bq]using this);rw[e];exact .nil
 |q::R,xs,h,k=>by
  obtain⟨x,r,rfl,Z,Y⟩:=CK.fg (d:=BN q) (ds:=Bq R) h;obtain⟨a,g,rfl,ha,T⟩:=DU.i9 (ds:=Be q) Z;refine .cons ?_ (WI Y fun b U=>k b (.tail _ U));unfold BN;rw[Du];exact⟨a,g,rfl,UA ha (k a Fa),LU T⟩
def kN{G H H':Hp}{t:Tb}{v:V}(h:DU H' (C8 t) v)(n:YK H H' v):Du (Jx G H H') (C8 t) v:=by
 obtain⟨p,R,L,xs,rfl,Y,U,h3,h4,h5⟩:=n;obtain⟨p',R',L',Z,ys,e,T,g,k3,k4,k5⟩:=h.tab;cases e;rw[Y]at T;cases T;rw[U]at g;cases g;unfold C8;rw[Du];refine⟨p,_,rfl,fF Y,.cons ?_ (.cons ?_ .nil)⟩
 .rw[Du];exact⟨R,xs,rfl,UA U h3,WI k3 h5⟩
 .rw[Du];exact⟨L,ys,rfl,UA k4 h4,LU k5⟩
def intsOf(xs:yx):zA:=xs.map fun d=>match d with|.int i=>i|_=>0
def QL(ns:zA):intsOf (ns.map .int)=ns:=by
 unfold intsOf;rw[(Ed)];exact List.map_id'' (fun _=>rfl) ns
open Classical in
noncomputable def X1(ds:yx):y7:=match ds with
 |[.dict [(.none,.list xs)],.int k,.int most]=>if xs=(intsOf xs).map .int/\0<=k/\1<=most/\most<=4 then some (C8 (S6 (Fm (intsOf xs) k.toNat) (Fm (intsOf xs) (k.toNat+1)) most.toNat)) else none
 |_=>none
def nS(ns:zA)(k most:Nat)(R:1<=most)(g:most<=4):X1 [FU ns,.int (k:Nat),.int (most:Nat)]=some (C8 (S6 (Fm ns k) (Fm ns Pi) most)):=by
 unfold X1 FU;refine(if_pos ⟨by rw[QL],by lia,by lia,by lia⟩).trans ?_;rw[QL,(QI),(QI)]
def kQ{P:F0b}{w:F0c}{K:Fg}{mg:y0}{base:Heap}{f:AD}{fd:F0a}{k:Nat}{ps:zC}(F:AK P w K mg base Af k f fd ps qL):AK P w K mg base Af k f fd ps (A6 X1) :=
 KH F fun ds x hm G H vs Q E d e kk=>by
  unfold X1 at hm;split at hm
  .rename_i xs k most;split at hm
   .rename_i hc;obtain⟨c1,c2,c3,c4⟩:=hc;cases hm;obtain⟨Z,r1,rfl,Y,d⟩:=d.un;obtain⟨v2,r2,rfl,U,d⟩:=d.un;obtain⟨v3,r3,rfl,T,d⟩:=d.un;rw[d.nil_eq];rw[Du]at U T;subst U;subst T;rw[Du]at Y;have ha:∃a:AD,Z=.ref a/\Rd G a (.lst ((intsOf xs).map V.int)):=by
     rcases Y with h|h|h
     .obtain⟨ea,C,g,_⟩:=h;cases g
     .obtain⟨a,ns,g,e2,h⟩:=h;cases g;exact⟨a,e2,by rw[QL];exact h⟩
     .exact absurd h (by simp[LN])
    obtain⟨a,rfl,ha⟩:=ha;refine⟨a,intsOf xs,k.toNat,most.toNat,by rw[show((k.toNat:Nat):Int)=k by lia,show((most.toNat:Nat):Int)=most by lia],b7 ha e,by lia,by lia,fun v H' R dt nt=>?_⟩;obtain⟨n1,n2,n3⟩:=Zk e R;exact kk v _ H' n1 n2 n3 R (kN dt nt)
   .cases hm
  .cases hm
theorem cC{c:AD}{ws:IZ}{H:Hp}(g:H c=some (.lst ws)):∀ {rs:List (List Rat)} {zs:IZ},CK H (Bq rs) zs->(∀y∈zs,y≠.ref c)->BR c H (Bq rs) zs
 |[],zs,h,_=>by
  have:=h.len;rw[show Bq []=[] from rfl,List.length_nil]at this;rw[List.eq_nil_of_length_eq_zero this];exact .nil
 |r::rs,zs,h,n=>by
  obtain⟨x,t,rfl,U,T⟩:=CK.fg h;obtain⟨a,xs,rfl,ha,dx⟩:=DU.i9 U;exact .cons (tf g (fun z=>n Hf aX (by rw[z])) ha dx) (cC g T fun y R=>n y (aS _ R))
def k8{c:AD}{ws:zJ}{H H':Hp}(g:H c=some (.lst ws))(e:SameBut c H H'){rs:List zH}{zs:zJ}(h:CK H (Bq rs) zs)(n:∀y∈zs,y≠.ref c):CK H' (Bq rs) zs:=Ly (.but e (cC g h n))
def Pe(H0 H:Hp)(R L:AD)(xs:zJ)(rs:List zH):Prop:=xs.length=rs.length/\∀(i:Nat) (r:List Rat),rs[i]? = some r->∃(a:AD) (g:IZ),xs[i]? = some Hf/\H a=some (.lst g)/\Jn H g r/\a≠R/\a≠L/\H0 a=none
def Pe.same{H0 H H':Hp}{R L:AD}{xs:zJ}{rs:List zH}(h:Pe H0 H R L xs rs)(e:AL H H'):Pe H0 H' R L xs rs:=⟨h.1,fun i r hi=>let⟨a,g,Z,Y,U,T⟩:=h.2 i r hi;⟨a,g,Z,e _ _ Y,U.BC (.of e),T⟩⟩
theorem Pe.upd{H0 H:Hp}{R L c:AD}{xs us vs:zJ}{rs:List zH}(h:Pe H0 H R L xs rs)(T:H c=some (.lst us))(o:c=R\/c=L):Pe H0 (upd H c (.lst vs)) R L xs rs:=⟨h.1,fun i r hi=>by
 obtain⟨a,g,h3,h4,h5,Z,Y,U⟩:=h.2 i r hi;refine⟨a,g,h3,?_,h5.BC (.upd T),Z,Y,U⟩;rw[AN (by rcases o with o|o<;>rw[o]<;>assumption)];exact h4⟩
def Pe.snoc{H0 H:Hp}{R L a:AD}{xs zs:zJ}{rs:List zH}{r:zH}(h:Pe H0 H R L xs rs)(ha:H a=some (.lst zs))(f:Jn H zs r)(U:a≠R)(Y:a≠L)(Z:H0 a=none):Pe H0 H R L (xs++[.ref a]) (rs++[r]):=by
 refine⟨by rw[(Gf),(Gf),h.1];rfl,fun i T hi=>?_⟩;by_cases z:i<rs.length
 .rw[List.getElem?_append_left z]at hi;rw[List.getElem?_append_left (by rw[h.1];exact z)];exact h.2 i T hi
 .have g:i-rs.length=0:=by
   have:=(aD.mp hi).1;simp at this
   lia
  rw[List.getElem?_append_right AC,g]at hi;rw[List.getElem?_append_right (by rw[h.1];lia),h.1,g];cases hi;exact⟨a,zs,rfl,ha,f,U,Y,Z⟩
theorem XE{H:Hp}:∀ {rs:List (List Rat)} {xs:IZ},xs.length=rs.length->(∀(i:Nat) (r:List Rat),rs[i]? = some r->∃(a:AD) (zs:IZ),xs[i]? = some Hf/\H a=some (.lst zs)/\Jn H zs r)->CK H (Bq rs) xs
 |[],[],_,_=>.nil
 |[],_::_,h,_=>by cases h
 |_::_,[],h,_=>by cases h
 |r::rs,x::xs,h,g=>by
  obtain⟨a,zs,U,T,R⟩:=g 0 r rfl;cases U;exact .cons (.lst T R.Z2) (XE (by simpa using h) fun i r hi=>g MS r hi)
def Pe.Z2{H0 H:Hp}{R L:AD}{xs:zJ}{rs:List zH}(h:Pe H0 H R L xs rs):CK H (Bq rs) xs:=XE h.1 fun i r hi=>let⟨a,g,Y,U,T,_⟩:=h.2 i r hi;⟨a,g,Y,U,T⟩
def Jn.same{H H':Hp}{zs:zJ}{g:zH}(h:Jn H zs g)(e:AL H H'):Jn H' zs g:=h.BC (.of e)
section
variable{P:F0b}{w:F0c}{K:Fg}{mg:y0}{base:Heap}{f g1 g2 g3:AD}{fd gd1 gd2 gd3:F0a}
def Wh:Ac ["_law_script","_law_at","_law_most","_law_number","_law_other","_law_rows","_law_last","_law_many","_law_k","_law_row","_law_j"] Tk (AO Lu):=CG
def WT(F:Fn K mg "_law_table" Lu Tk f fd)(Ey:Fn K mg "_law_cell" Kd TW g1 gd1)(GR:Fn K mg "_law_entry" MV RN g2 gd2)(JQ:Fn K mg "_law_named" Ls RN g3 gd3) (Fx:AK P w K mg base Af 3 g1 gd1 TW rK)(MW:AK P w K mg base Af 3 g2 gd2 RN sv)(ML:AK P w K mg base Af 3 g3 gd3 RN tW)(DJ:mg "range" = none)(B8:mg "len" = none):AK P w K mg base Af 4 f fd Tk qL:=by
 have sc:=Wh;refine F.F.ok (k:=3) sc KT IS
 .obtain⟨a,ns,k,most,rfl,_⟩:=h
  rfl
 obtain⟨a,ns,k,most,rfl,ha,m1,m4,q⟩:=h;refine⟨_,(Ae (BM (i:=3) sc.nd rfl As (Dq Ey Fx hr rfl (AM (pv 0) (AM kS Ad))))
 (Ae (BM (i:=4) sc.nd rfl As (Dq Ey Fx hr rfl (AM (pv 0) (AM (BW Qo kS Au) Ad))))
 (Ae (JR (EY Wx (BW P5 (pv 3) Au) Au Tl)
  (Ae (N6 (Dq JQ ML hr rfl (AM (BW Ht (pv 3) Au) Ad)) (IV rfl (B7 (Ay (i:=5) sc.nd rfl As) (B7 (Ay (i:=6) sc.nd rfl As) HE))))
  (Ae (JR (EY UQ (EA Jj rfl B8 bC (AM (pv 5) Ad)) (pv 2) Tl)
   (BE (Cp (Kg (AM (Hl (AM (Hl Ad) Ad)) (AM (Hl (AM (Kg (AM Au (AM Au Ad))) Ad)) Ad)))))
   GI)
  (Ae (JR (EY Wx (BW P5 (BW Ht (pv 3) Au) Au) Au Tl)
   (BE (N6 (Dq GR MW hr rfl (AM (pv 4) Ad)) (T6 (pv 6) (BW Nf (BW Ht (pv 3) Au) (EA Jj rfl B8 bC (AM (pv 6) Ad))) set_list)))
   GI)
  (BE (Cp (Kg (AM (pv 5) (AM (pv 6) Ad))))))))
  GI)
 (Ae (BM (i:=5) sc.nd rfl As (Hl Ad))
 (Ae (BM (i:=6) sc.nd rfl As (Hl Ad))
 (Ae (BM (i:=7) sc.nd rfl As (BW Qo Au (BW Nf (BW Ht (pv 3) Au) (pv 2))))
 (Ae (BM (i:=3) sc.nd rfl As (BW Ht (pv 3) Au))
 (Ae (MO aR rfl (Qb rfl DJ (AM (pv 7) Ad)) (Ay (i:=8) sc.nd rfl As)
  (Ae (BM (i:=9) sc.nd rfl As (Hl Ad))
  (Ae (MO aR rfl (Qb rfl DJ (AM (pv 8) Ad)) (Ay (i:=10) sc.nd rfl As)
   (Ae (E8 (Ic aq bJ bK Gb (pv 9) (AM (Dq GR MW hr rfl (AM (pv 3) Ad)) Ad)))
   (BE (BM (i:=3) sc.nd rfl As (BW Ht (pv 3) Au)))))
  (Ae (E8 (Ic aq bJ bK Gb (pv 5) (AM (pv 9) Ad)))
  (Ae (E8 (Ic aq bJ bK Gb (pv 6) (AM (Dq GR MW hr rfl (AM (pv 4) Ad)) Ad)))
  (BE (BM (i:=4) sc.nd rfl As (BW Ht (pv 4) Au))))))))
 (BE (Cp (Kg (AM (pv 5) (AM (pv 6) Ad))))))))))))),?_⟩
 refine⟨_,rfl,_,rfl,a,ns,k,rfl,ha,fun H1 e1=>?_⟩;refine⟨_,rfl,_,rfl,_,_,rfl,rfl,a,ns,k+1,rfl,b7 ha e1,fun H2 e2=>?_⟩;generalize Fm ns k=T at q ⊢;generalize Fm ns Pi=x1 at q ⊢;have E2:=e1.trans e2;refine⟨_,rfl,_,_,rfl,rfl,(by show(0:Int)<4;decide),rfl,_,rfl,MI (fun c=>?_) (fun c=>?_)⟩
 .have c':T % 4=0:=by simpa using c
  refine⟨_,rfl,_,_,rfl,rfl,⟨by decide,by decide⟩,T / 4,rfl,fun v H3 e3 dt nt=>?_⟩;unfold S6 at q;rw[if_pos c']at q;obtain⟨ot,st⟩:=Uz (gc (T / 4));generalize IX (T / 4)=t at dt q ot st;obtain⟨p,R,L,xs,ys,rfl,hp,hR,dR,hL,dL⟩:=dt.tab;obtain⟨p',R',L',xs',e',n1,n2,n3,n4,n5⟩:=nt;cases e';rw[hp]at n1;cases n1;rw[hR]at n2;cases n2;have hLn:H2 L=none:=n4;have hyl:ys.length=t.ls.length:=by rw[dL.len,Hb]
  have hxl:xs.length=t.rs.length:=by rw[dR.len,Lr]
  have o1:=ot.one;have o2:=ot.last;have E3:=E2.trans e3;refine⟨p,_,rfl,BK.of hp,rfl,_,_,rfl,_,_,rfl,rfl,?_⟩;refine⟨_,rfl,_,_,rfl,.inl (Aw.of hR),_,rfl,_,_,rfl,rfl,_,rfl,MI (fun c2=>?_) (fun c2=>?_)⟩
  .have c2':t.rs.length > most:=by have:=aP c2;lia
   rw[if_pos c2']at q;refine⟨(by show 0<=sizeLine;decide),fun p1 hp1=>?_⟩;have f1:=Ag hp1 PZ;have g1:upd H3 p1 PZ p1=some PZ:=AR;generalize upd H3 p1 PZ=I1 at f1 g1;refine⟨(by show 1<=sizeLine;decide),fun p2 U=>?_⟩;have f2:=Ag U (.lst [V.ref p1]);have g2:upd I1 p2 (.lst [V.ref p1]) p2=some (.lst [V.ref p1]):=AR;generalize upd I1 p2 (.lst [V.ref p1])=I2 at f2 g2;refine⟨RE,fun p3 hp3=>?_⟩;have f3:=Ag hp3 (.tup [V.int 1,V.int 1]);have g3:upd I2 p3 (.tup [V.int 1,V.int 1]) p3=some (.tup (Kv q1)):=AR;generalize upd I2 p3 (.tup [V.int 1,V.int 1])=I3 at f3 g3;refine⟨(by show 1<=sizeLine;decide),fun p4 hp4=>?_⟩;have f4:=Ag hp4 (.lst [V.ref p3]);have g4:upd I3 p4 (.lst [V.ref p3]) p4=some (.lst [V.ref p3]):=AR;generalize upd I3 p4 (.lst [V.ref p3])=I4 at f4 g4;refine⟨RE,fun p5 hp5=>?_⟩;have f5:=Ag hp5 (.tup [V.ref p2,V.ref p4]);have g5:upd I4 p5 (.tup [V.ref p2,V.ref p4]) p5=some (.tup [V.ref p2,V.ref p4]):=AR;generalize upd I4 p5 (.tup [V.ref p2,V.ref p4])=I5 at f5 g5;have F35:=(f3.trans f4).trans f5;exact q _ I5 (((E3.trans f1).trans f2).trans F35) (Te g5 (F35 _ _ g2) (.cons (.lst ((f2.trans F35) _ _ g1) .nil) .nil) (f5 _ _ g4) (.cons (Yx ((f4.trans f5) _ _ g3)) .nil)) ⟨p5,p2,p4,[V.ref p1],rfl,g5,F35 _ _ g2,FL (E3.trans f1) U,FL ((E3.trans f1).trans (f2.trans f3)) hp4,fun b hb=>by rw[List.mem_singleton]at hb;cases hb;exact FL E3 hp1⟩
  have c2':¬t.rs.length > most:=fun z=>c2 (bf AC);rw[if_neg c2']at q;refine⟨_,rfl,_,_,rfl,rfl,⟨by decide,by decide⟩,_,_,rfl,rfl,(by show(0:Int)<3;decide),rfl,_,rfl,MI (fun c3=>?_) (fun c3=>?_)⟩
  .have c3':T / 20 % 3=0:=by simpa using c3
   rw[if_pos c3',<-hyl]at q;refine⟨_,rfl,x1,rfl,fun l H4 g hl4=>?_⟩;have hL4:=g _ _ hL;have hyp:(0:Int)<((ys.length:Nat):Int):=by lia
   have i1:0<=(T / 60).fmod ((ys.length:Nat):Int):=Int.fmod_nonneg_of_pos _ hyp;have i2:(T / 60).fmod ((ys.length:Nat):Int)<((ys.length:Nat):Int):=Int.fmod_lt_of_pos _ hyp;refine⟨_,rfl,_,rfl,_,_,rfl,rfl,⟨by decide,by decide⟩,_,rfl,_,_,rfl,.inl (Aw.of hL4),_,_,rfl,rfl,(by show((ys.length:Nat):Int)≠0;lia),L,ys,_,((T / 60).fmod ((ys.length:Nat):Int)).toNat,rfl,rfl,hL4,(by unfold Rq;rw[if_pos i1,if_pos i2]),?_⟩;have hj:((T / 60).fmod ((ys.length:Nat):Int)).toNat<t.ls.length:=by lia
   generalize ((T / 60).fmod ((ys.length:Nat):Int)).toNat=j at hj q ⊢;generalize RX x1=q4 at q hl4;have nR:∀y∈xs,y≠V.ref L:=fun y hy z=>by
    subst z;obtain⟨i,hi⟩:=List.getElem?_of_mem hy;have hil:i<t.rs.length:=by have:=(aD.mp hi).1;lia
    obtain⟨a',zs,k1,k2,k3⟩:=O7 dR (aG hil);rw[hi]at k1;cases k1;rw[hL]at k2;cases k2;have:=k3.len;rw[Hb,ot.row i _ (aG hil)]at this
    lia
   have nRL:R≠L:=fun z=>by
    subst z;rw[hR]at hL;cases hL;obtain⟨a',zs,k1,k2,k3⟩:=O7 dR (aG (show 0<t.rs.length by lia));obtain⟨p',k4,k5⟩:=LZ dL (aG (show 0<t.ls.length by lia));rw[k1]at k4;cases k4;rw[k2]at k5;cases k5
   have u:SameBut L H4 (upd H4 L (.lst (ys.set j Rb))):=.upd;have dL':=gj hL4 u (show CK H4 (Be (t.ls.set j q4)) (ys.set j Rb) by
    rw[Be,List.map_set];exact .set (Yx hl4) (dL.same g))
   have dR':=k8 hL4 u (dR.same g) nR;have hR':upd H4 L (.lst (ys.set j Rb)) R=some KB:=by rw[AN nRL];exact g _ _ hR
   have hL':upd H4 L (.lst (ys.set j Rb)) L=some (.lst (ys.set j Rb)):=AR;have E5:AL H (upd H4 L (.lst (ys.set j Rb))):=fun b o zz=>by
    rw[AN (Am (E2 _ _ zz) hLn)];exact g _ _ (E3 _ _ zz)
   generalize upd H4 L (.lst (ys.set j Rb))=H5 at dL' dR' hR' hL' E5;refine⟨_,rfl,_,rfl,RE,fun p2 U=>?_⟩;have e6:=Ag U (.tup [V.ref R,V.ref L]);exact q _ _ (E5.trans e6) (Te AR (e6 _ _ hR') (dR'.same e6) (e6 _ _ hL') (dL'.same e6)) ⟨p2,R,L,xs,rfl,AR,e6 _ _ hR',FL E2 n3,FL E2 n4,fun b hb=>FL E2 (n5 b hb)⟩
  .refine⟨_,rfl,_,rfl,RE,fun p2 U=>?_⟩;have g:=Ag U (.tup [V.ref R,V.ref L]);have c3':¬T / 20 % 3=0:=by simpa using c3
   rw[if_neg c3']at q;exact q _ _ (E3.trans g) (Te AR (g _ _ hR) (dR.same g) (g _ _ hL) (dL.same g)) ⟨p2,R,L,xs,rfl,AR,g _ _ hR,FL E2 n3,FL E2 n4,fun b hb=>FL E2 (n5 b hb)⟩
 .have c':¬T % 4=0:=by simpa using c
  unfold S6 at q;rw[if_neg c']at q;refine⟨(by show 0<=sizeLine;decide),fun R hR=>?_⟩;have f1:=Ag hR PZ;have g1:upd H2 R PZ R=some PZ:=AR;generalize upd H2 R PZ=I1 at f1 g1;refine⟨(by show 0<=sizeLine;decide),fun L hL=>?_⟩;have f2:=Ag hL PZ;have g2:upd I1 L PZ L=some PZ:=AR;generalize upd I1 L PZ=I2 at f2 g2;have nRL:R≠L:=Am g1 hL;have hL2:H2 L=none:=FL f1 hL;have m0:(most:Int)≠0:=by lia
  refine⟨_,rfl,_,_,rfl,rfl,⟨by decide,by decide⟩,_,rfl,_,_,rfl,rfl,m0,_,_,rfl,rfl,?_⟩;obtain⟨many,hn1,hn4,em⟩:∃many:Nat,1<=many/\many<=most/\1+(T / 4).fmod most=(many:Int):=by
   have e:=Int.fmod_eq_emod_of_nonneg (T / 4) (show(0:Int)<=(most:Int) by lia);have a:=Int.emod_nonneg (T / 4) m0;have b:=Int.emod_lt_of_pos (T / 4) (show(0:Int)<(most:Int) by lia);exact⟨(1+(T / 4).fmod most).toNat,by lia,by lia,by lia⟩
  rw[em,(QI)]at q;rw[show((fun i j:Int=>V.int (i+j)) 1 ((T / 4).fmod most))=V.int (many:Int) from bM V.int em];refine⟨_,rfl,_,_,rfl,rfl,⟨by decide,by decide⟩,?_⟩;refine⟨_,rfl,(many:Int),rfl,by lia,by lia,WH (n:=(many:Int).toNat) (fun i σ H'=>∃(r8 r9 Z:Option V) (xs ys:IZ),σ=[some Hf,some (.int (k:Int)),some (.int most),some (.int (VO (T / 16) i)),some (.int (K7 x1 i)),some (.ref R),some (.ref L),some (.int many),r8,r9,Z]/\AL H2 H'/\H' R=some KB/\H' L=some IR/\Pe H2 H' R L xs ((List.range i).map (fV (T / 16)))/\Jn H' ys ((List.range i).map fun j=>RX (K7 x1 j))) ?_ ?_ ?_⟩
  .exact⟨_,_,_,[],[],rfl,f1.trans f2,f2 _ _ g1,g2,⟨rfl,fun i r z=>by simp at z⟩,⟨rfl,fun i r z=>by simp at z⟩⟩
  .rintro i σ H3 hi ⟨r8,r9,Z,xs,ys,rfl,e3,hR3,hL3,Y,fl3⟩;have hrl:((List.range i).map (fV (T / 16))).length=i:=by simp
   have hll:((List.range i).map fun j=>RX (K7 x1 j)).length=i:=by simp
   refine⟨(by show 0<=sizeLine;decide),fun A hA=>?_⟩;have f3:=Ag hA PZ;have g3:upd H3 A PZ A=some PZ:=AR;generalize upd H3 A PZ=I3 at f3 g3;have nAR:A≠R:=(Am hR3 hA).symm;have nAL:A≠L:=(Am hL3 hA).symm;refine⟨_,rfl,0+(i:Int),rfl,by lia,by lia,WH (n:=(0+(i:Int)).toNat) (fun j σ H'=>∃(Z:Option V) (zs:IZ),σ=[some Hf,some (.int (k:Int)),some (.int most),some (.int (K7 (VO (T / 16) i) j)),some (.int (K7 x1 i)),some (.ref R),some (.ref L),some (.int many),some (.int (0+(i:Int))),some (.ref A),Z]/\AL H3 H'/\H' A=some (.lst zs)/\Jn H' zs ((List.range j).map fun l=>RX (K7 (VO (T / 16) i) l))) ?_ ?_ ?_⟩
   .exact⟨_,[],rfl,f3,g3,⟨rfl,fun i r z=>by simp at z⟩⟩
   .rintro j σ H4 hj ⟨Z,zs,rfl,g,hA4,fz⟩;have hl:=fz.1;rw[(BJ),List.length_range]at hl;refine⟨_,rfl,.inl ⟨rfl,_,Aw.of hA4⟩,_,rfl,K7 (VO (T / 16) i) j,rfl,fun l H5 e5 hl5=>?_⟩;have hA5:=e5 _ _ hA4;refine⟨A,zs,_,rfl,rfl,hA5,Se (n:=60) AC AT,?_⟩;refine⟨_,rfl,_,_,rfl,rfl,⟨by decide,by decide⟩,_,zs++[.ref l],rfl,fun b o zz=>?_,AR,?_⟩
    .rw[AN (Am zz hA)];exact e5 _ _ (g _ _ zz)
    .rw[List.range_succ,(Ep)];exact((fz.same e5).snoc hl5).BC (.upd hA5)
   .rintro σ H4 ⟨Z,zs,rfl,g,hA4,fz⟩;rw[show(0+(i:Int)).toNat=i by lia]at fz ⊢;have hR4:=g _ _ hR3;have hxl:=Y.1;have hyl:=fl3.1;refine⟨_,rfl,.inl ⟨rfl,_,Aw.of hR4⟩,_,rfl,R,xs,_,rfl,rfl,hR4,Se (n:=60) AC AT,?_⟩;have rw4:=((Y.same g).snoc hA4 fz nAR nAL (FL e3 hA)).upd (vs:=xs++[.ref A]) hR4 Rs;have fl4:=(fl3.same g).BC (ME.upd (o:=.lst (xs++[.ref A])) hR4);have hR5:upd H4 R (.lst (xs++[.ref A])) R=some (.lst (xs++[.ref A])):=AR;have hL5:upd H4 R (.lst (xs++[.ref A])) L=some IR:=by rw[AN nRL.symm];exact g _ _ hL3
    have e5:AL H2 (upd H4 R (.lst (xs++[.ref A]))):=fun b o zz=>by rw[AN (Am zz hR)];exact g _ _ (e3 _ _ zz)
    generalize upd H4 R (.lst (xs++[.ref A]))=H5 at rw4 fl4 hR5 hL5 e5;refine⟨_,rfl,.inl ⟨rfl,_,Aw.of hL5⟩,_,rfl,K7 x1 i,rfl,fun l H6 e6 hl6=>?_⟩;have hL6:=e6 _ _ hL5;refine⟨L,ys,_,rfl,rfl,hL6,Se (n:=60) AC AT,?_⟩;refine⟨_,rfl,_,_,rfl,rfl,⟨by decide,by decide⟩,_,_,_,xs++[.ref A],ys++[.ref l],rfl,fun b o zz=>?_,?_,AR,?_,?_⟩
    .rw[AN (Am zz hL2)];exact e6 _ _ (e5 _ _ zz)
    .rw[AN nRL];exact e6 _ _ hR5
    .rw[List.range_succ,(Ep)];exact(rw4.same e6).upd hL6 (.inr rfl)
    .rw[List.range_succ,(Ep)];exact((fl4.same e6).snoc hl6).BC (.upd hL6)
  rintro σ H3 ⟨r8,r9,Z,xs,ys,rfl,e3,hR3,hL3,Y,fl3⟩;rw[(QI)]at Y fl3;refine⟨_,rfl,_,rfl,RE,fun p2 U=>?_⟩;have g:=Ag U (.tup [V.ref R,V.ref L]);refine q _ _ ((E2.trans e3).trans g) (Te AR (g _ _ hR3) (Y.Z2.same g) (g _ _ hL3) (fl3.Z2.same g)) ⟨p2,R,L,xs,rfl,AR,g _ _ hR3,FL E2 hR,FL E2 hL2,fun b hb=>?_⟩;obtain⟨i,hi⟩:=List.getElem?_of_mem hb;have hil:=(aD.mp hi).1;have h1:=Y.1;obtain⟨a',zs,k1,k2,k3,_,_,k4⟩:=Y.2 i _ (aG AC);rw[hi]at k1;cases k1;exact FL E2 k4
end
def qe(g U:Int){most:Nat}(h1:1<=most)(h4:most<=4):(S6 g U most).Ok 4/\(S6 g U most).Sm:=by
 unfold S6;split
 .obtain⟨R,st⟩:=Uz (gc (g / 4));split
  .exact Uz LE
  .split
   .refine⟨⟨R.one,R.most,by show(List.set _ _ _).length=_;rw[List.length_set];exact R.last,R.row⟩,st.1,fun q T=>?_⟩;rcases List.mem_or_eq_of_mem_set T with h|h
    .exact st.2 q h
    .rw[h];exact XC U
   .exact⟨R,st⟩
 .have e:=Int.fmod_eq_emod_of_nonneg (g / 4) (show(0:Int)<=(most:Int) by lia);have a:=Int.emod_nonneg (g / 4) (show(most:Int)≠0 by lia);have b:=Int.emod_lt_of_pos (g / 4) (show(0:Int)<(most:Int) by lia);have m1:1<=(1+(g / 4).fmod (most:Nat)).toNat:=by lia
  have Z:(1+(g / 4).fmod (most:Nat)).toNat<=4:=by lia
  generalize (1+(g / 4).fmod (most:Nat)).toNat=many at m1 Z;refine⟨⟨by show 1<=(List.map _ _).length;simpa using m1,by show(List.map _ _).length<=4;simpa using Z,by show(List.map _ _).length=(List.map _ _).length;simp,fun i r hi=>?_⟩,fun r hr q T=>?_,fun q T=>?_⟩
  .have hi:((List.range many).map (fV (g / 16)))[i]? = some r:=hi;rw[(CD)]at hi;obtain⟨j,Y,rfl⟩:=aC.mp hi;have hl:=(aD.mp Y).1;rw[List.getElem?_range (by simpa using hl)]at Y;cases Y;unfold fV;simp
  .obtain⟨i,_,rfl⟩:=aQ.mp hr;obtain⟨j,_,rfl⟩:=aQ.mp T;exact XC _
  .obtain⟨j,_,rfl⟩:=aQ.mp T;exact XC _
def tH(ds:yx):y7:=match ds with
 |[.int a,.int b]=>some (.int (FM.gi a b))
 |_=>none
def yJ{P:F0b}{w:F0c}{K:Fg}{mg:y0}{base:Heap}{f:AD}{fd:F0a}{k:Nat}{ps:zC}(F:AK P w K mg base Af k f fd ps eU):AK P w K mg base Af k f fd ps (A6 tH) :=
 KH F fun Z x hm G H vs Q E d e T=>by
  unfold tH at hm;split at hm
  .cases hm;obtain⟨Y,U,rfl,R,g⟩:=d.Mv;rw[Du]at R g;subst R g;exact⟨_,_,rfl,T _ G H (.refl _) Nw.refl e (.refl _) L1⟩
  .cases hm
abbrev wH:MD:=DC tH Dp
abbrev lB:MD:=Ak wH
abbrev v8:MD:=Eu lB
abbrev rD:MD:=Eo lB v8
def Xk{f g:yu}{δ:Dv}{r:y7}(h:f δ=some Jq)(k:g δ=r):YR f g δ=r:=by
 show(f δ).bind _=_;rw[h];exact k
def UR(z:Int):EU true (.int z) (.int z)=some (.bool false):=ne_self (Ok.int (n:=0)) AT
def gz(z:Int):EU false (.int z) (.int z)=some Jq:=ZJ (Ok.int (n:=0)) AT
def ua(q:Rat):wH [AW q]=some Jq:=by
 refine Cy rfl ?_;unfold PM;have hd:=q.den_nz;have R:FM.gi q.num (q.den:Int)=1:=by
  have k:=q.reduced;unfold FM.gi;unfold Nat.Coprime at k;rw[show q.num.gcd (q.den:Int)=1 from k]
  rfl
 have g:∀z:Int,Dp [.int z]=some Jq:=fun _=>rfl;refine Al (DB (Mr rfl (Cw (x:=.int 2) (y:=.int 2) rfl rfl (UR 2))) rfl) (Al (DB (Mr (Lm (KJ (Ah (xs:=[.int q.num]) rfl (g _)))) (Lm (KJ (Ah (xs:=[.int (q.den:Int)]) rfl (g _))))) rfl) (GO (Xk (Az (x:=.int (q.den:Int)) (y:=.int 1) rfl rfl ?_) (Az (x:=.int 1) (y:=.int 1) (Ah (xs:=[.int q.num,.int (q.den:Int)]) rfl ?_) rfl (gz 1)))))
 .show some (PyData.bool (decide ((1:Int)<=(q.den:Int))))=_;rw[decide_eq_true AC]
 .show some (PyData.int (FM.gi q.num (q.den:Int)))=_;rw[R]
def dQ(ws:zH):lB [.list (ws.map AW)]=some Jq:=by
 refine Cy rfl ?_;unfold Ml;refine Al (δ':=[.d (.list (ws.map AW)),.no]) (DB rfl rfl) ?_;refine Og (xs:=ws.map AW) (fun i δ=>∃l:L,δ=[.d (.list (ws.map AW)),l]) rfl ⟨_,rfl⟩ ?_ ?_
 .rintro i x δ R ⟨l,rfl⟩;obtain⟨q,_,rfl⟩:=aQ.mp (aN R);exact⟨_,rfl,_,DB (Lm (KJ (Ah (xs:=[AW q]) rfl (ua q)))) rfl,_,rfl⟩
 .rintro δ ⟨l,rfl⟩
  rfl
def vj{t:Tb}{m:Nat}(o:t.Ok m)(hm:m<=40):v8 [.list (Bq t.rs)]=some Jq:=by
 have h1:=o.one;have h2:=o.most;have hl:=Lr t.rs;refine Cy rfl ?_;unfold UM;refine Al (δ':=[.d (.list (Bq t.rs)),.no,.no]) (DB (Mr rfl (Mr (Cw (x:=.int ((Bq t.rs).length:Nat)) (y:=.int 1) rfl rfl ?_) (Cw (x:=.int ((Bq t.rs).length:Nat)) (y:=.int 40) rfl rfl ?_))) rfl) ?_
 .show some (PyData.bool (decide (((Bq t.rs).length:Int)<1)))=_;rw[decide_eq_false AC]
 .show some (PyData.bool (decide ((40:Int)<((Bq t.rs).length:Int))))=_;rw[decide_eq_false AC]
 refine Og (xs:=Lh (Bq t.rs)) (fun i δ=>∃l g:L,δ=[.d (.list (Bq t.rs)),l,g]) rfl ⟨_,_,rfl⟩ ?_ ?_
 .rintro i x δ Y ⟨l,g,rfl⟩;obtain⟨y,R,rfl⟩:=Kj Y;unfold Bq at R;rw[(CD)]at R;obtain⟨r,Z,rfl⟩:=aC.mp R;have T:=o.row i r Z;refine⟨[.d (.list (Bq t.rs)),.d (.int (i:Nat)),.d (.list (Be r))],rfl,_,DB (Mr (Lm (KJ (Ah (xs:=[.list (r.map AW)]) rfl (dQ r)))) (Cw (x:=.int (i:Nat)) (y:=.int (i:Nat)) ?_ rfl (UR _))) rfl,_,_,rfl⟩;show some (PyData.int ((Be r).length:Nat))=_;rw[Hb,T]
 .rintro δ ⟨l,g,rfl⟩
  rfl
def qK{t:Tb}{m:Nat}(o:t.Ok m)(hm:m<=40):rD [C8 t]=some Jq:=by
 refine Cy rfl ?_;unfold TV;refine Al (DB (Mr rfl (Cw (x:=.int 2) (y:=.int 2) rfl rfl (UR 2))) rfl) (GO (Xk (Ah (xs:=[.list (Bq t.rs)]) rfl (vj o hm)) (Xk (Ah (xs:=[.list (t.ls.map AW)]) rfl (dQ t.ls)) (Az (x:=.int (t.rs.length:Nat)) (y:=.int (t.rs.length:Nat)) ?_ ?_ (gz _)))))
 .show some (PyData.int ((Be t.ls).length:Nat))=_;rw[Hb,o.last]
 .show some (PyData.int ((Bq t.rs).length:Nat))=_;rw[Lr]
def TC{F:DF}{δ:Dv}{o:Ou}(h:F δ=some o):Vp F δ=some (.inl o):=by show(F δ).map _=_;rw[h];rfl
abbrev Aj(ws:List Rat):PD:=.list (ws.map AW)
abbrev tE(C:AD):List PD->Option Xr:=Bi lB C
abbrev FE(C:AD):List PD->Option Xr:=AZ (tE C)
def qi{n:Nat}(hn:n<=5){ws:zH}(g:ws.length=CU n)(C:AD):tE C [Aj ws]=some (.inl .none):=by
 refine cM (δ:=[.d (Aj ws)]) rfl ?_;unfold Jd;refine cw (Mr (Lm (KJ (Ah (xs:=[Aj ws]) rfl (dQ ws)))) ?_) rfl;refine KJ ?_;show mH true _ (.int ((ws.map AW).length:Nat))=_;rw[(BJ),g];rcases n with _|_|_|_|_|_|_|_|n<;>first|rfl|lia
def Mg{n:Nat}(hn:n<=5){ws:zH}(g:ws.length=CU n)(C:AD):FE C [Aj ws]=some (.inl T1):=by
 refine Q4 rfl ?_;unfold Md;refine J4 (OI (ds:=[Aj ws]) rfl (qi hn g C)) ?_;have e:Bd (fun δ=>((AU IJ Db) δ).bind (gL [0,1,2,4,8,17,37,85])) [.d (Aj ws)]=some (.rt T1):=by
  refine GO ?_;show gL _ (.int ((ws.map AW).length:Nat))=_;rw[(BJ),g];rcases n with _|_|_|_|_|_|_|_|n<;>first|rfl|lia
 exact TC e
def ui(ws:zH):Ok 2 (Aj ws):=xm fun d hd=>by obtain⟨q,_,rfl⟩:=aQ.mp hd;exact UH q
def NC(t:Tb):List zH:=t.rs++[t.ls]
def dB(t:Tb):(NC t)[t.rs.length]? = some t.ls:=by
 unfold NC;rw[List.getElem?_append_right Ql,Nat.sub_self];rfl
def fI{t:Tb}{m:Nat}(h:t.Ok m){i:Nat}{row:zH}(e:(NC t)[i]? = some row):row.length=i/\i<=t.rs.length:=by
 by_cases z:i<t.rs.length
 .unfold NC at e;rw[List.getElem?_append_left z]at e;exact⟨h.row i row e,by lia⟩
 .have g:=(aD.mp e).1;unfold NC at g;rw[(Gf),List.length_singleton]at g;have:i=t.rs.length:=by lia
  subst this;rw[dB]at e;cases e;exact⟨h.last,Nat.le_refl _⟩
def Zj{t:Tb}{n:Nat}(h:t.Fits n){m:Nat}(o:t.Ok m):1<=Et t/\(Et t).natAbs<2^(1+n*(m+m*m))/\∀r∈NC t,∀q∈r,(q.den:Int) ∣ Et t:=by
 obtain⟨Z,Y,U⟩:=Uy (Vq h t.rs.length);have T:=NH o t.rs.length Ql;have hm:=o.most;refine⟨Z,Nat.lt_of_lt_of_le Y (aZ AT ?_),fun r g q R=>U _ ?_⟩
 .have:t.rs.length+t.rs.length*t.rs.length<=m+m*m:=Nat.add_le_add hm (bg hm hm);have:=bE n (aU T this)
  lia
 .unfold IA;rw[(JB)];rcases ay.mp g with g|g
  .exact aV _ (List.mem_flatten.mpr ⟨GA r,List.mem_map.mpr ⟨r,g,rfl⟩,List.mem_map.mpr ⟨q,R,rfl⟩⟩)
  .rw[List.mem_singleton.mp g]at R;exact bN _ (aQ.mpr ⟨q,R,rfl⟩)
open Classical in
noncomputable def mT(ds:yx):y7:=match ds with
 |[x,y]=>if ∃p q,x=AW p/\y=AW q/\FM.Fits p 400/\FM.Fits q 400 then some (AW (NA x*NA y)) else none
 |_=>none
def l6{p q:Rat}(R:FM.Fits p 400)(g:FM.Fits q 400):mT [AW p,AW q]=some (AW (p*q)):=by
 unfold mT;refine(if_pos ⟨p,q,rfl,rfl,R,g⟩).trans ?_;rw[Lq,Lq]
section
variable{P:F0b}{w:F0c}{K:Fg}{mg:y0}{base:Heap}{CX:Iw}{k:Nat}{f:AD}{fd:F0a}{ps:zC}
def toT(F:AK P w K mg base CX k f fd ps (rA K (fun p q=>p*q) fun _=>True)):AK P w K mg base CX k f fd ps (A6 mT) :=
 KH F fun ds x hm G H vs Q E d e R=>by
  unfold mT at hm;split at hm
  .split at hm
   .rename_i hh;obtain⟨p,q,rfl,rfl,hp,hq⟩:=hh;cases hm;rw[Lq,Lq]at R;obtain⟨v1,v2,rfl,d1,d2⟩:=d.Mv;obtain⟨a,rfl,ha⟩:=(UB (VV p) (d1.same e)).rat;obtain⟨b,rfl,hb⟩:=(UB (VV q) (d2.same e)).rat;refine⟨_,_,p,q,400,rfl,.of ha,.of hb,hp,hq,by decide,trivial,fun l H' T g=>?_⟩;obtain⟨G',n1,Z,Y,U⟩:=dm e T g (MT [(p*q).num,((p*q).den:Int)]);exact R _ G' H' n1 Z Y T U
   .cases hm
  .cases hm
def Xj(ds:yx):y7:=match ds with
 |[.int b,.int p]=>if b.natAbs<2^10/\0<=p/\p<=400 then some (.int (b^p.toNat)) else none
 |_=>none
def yI(F:AK P w K mg base CX k f fd ps dJ):AK P w K mg base CX k f fd ps (A6 Xj) :=
 KH F fun ds x hm G H vs Q E d e T=>by
  unfold Xj at hm;split at hm
  .split at hm
   .rename_i U;cases hm;obtain⟨Z,Y,rfl,R,g⟩:=d.Mv;rw[Du]at R g;subst R g;rename_i b p;refine⟨b,p.toNat,10,?_,U.1,by lia,T _ G H (.refl _) Nw.refl e (.refl _) L1⟩;rw[show((p.toNat:Nat):Int)=p by lia]
   .cases hm
  .cases hm
end
theorem zip_map{α R:Type}{f:α->PD}{g:R->PD}:∀(xs:List α) (ys:List R),Su (xs.map f) (ys.map g)=(xs.zip ys).map fun z=>.tuple [f z.1,g z.2]
 |[],ys=>by cases ys<;>rfl
 |x::xs,[]=>rfl
 |x::xs,y::ys=>by
  rw[(A2),(A2),(NT),(A2),<-zip_map xs ys];rfl
def iQ{α:Type}{i j:Nat}{f:yu}{fs:yt}{δ:Dv}{fr:zO}{zs:List α}{a b g:α->PD}(U:fs δ=some (zs.map fun z=>.tuple [a z,b z]))(Y:zs.length<=D0) (h:∀z∈zs,f (((B9 fr δ).set i (.d (a z))).set j (.d (b z)))=some (g z)):CV (Fw i j) Ee f fr fs δ=some (zs.map g):=by
 unfold CV;rw[U,(F3)];have:∀zs:List α,(∀z∈zs,f (((B9 fr δ).set i (.d (a z))).set j (.d (b z)))=some (g z))->L2.collect (Gq (Fw i j) Ee f (B9 fr δ)) (zs.map fun z=>.tuple [a z,b z])=some (zs.map g):=fun zs=>by
  induction zs with
  |nil=>intro _;rfl
  |cons z zs R=>
   intro h;rw[(A2),(A2)];unfold L2.collect;rw[R fun y T=>h y (.tail _ T)];have e:Gq (Fw i j) Ee f (B9 fr δ) (.tuple [a z,b z])=some (some (g z)):=by
    unfold Gq Fw;rw[(F3)];show(some true).bind _=_;rw[(F3),if_pos rfl,h z Fa]
    rfl
   rw[e];rfl
 rw[this zs h,(F3),LB,if_pos (by rw[(BJ)];exact Y)]
def QN{α:Type}{i:Nat}{f:yu}{fs:yt}{δ:Dv}{fr:zO}{zs:List α}{a g:α->PD}(U:fs δ=some (zs.map a))(Y:zs.length<=D0) (h:∀z∈zs,f ((B9 fr δ).set i (.d (a z)))=some (g z)):CV (Cm i) Ee f fr fs δ=some (zs.map g):=by
 unfold CV;rw[U,(F3)];have:∀zs:List α,(∀z∈zs,f ((B9 fr δ).set i (.d (a z)))=some (g z))->L2.collect (Gq (Cm i) Ee f (B9 fr δ)) (zs.map a)=some (zs.map g):=fun zs=>by
  induction zs with
  |nil=>intro _;rfl
  |cons z zs R=>
   intro h;rw[(A2),(A2)];unfold L2.collect;rw[R fun y T=>h y (.tail _ T)];have e:Gq (Cm i) Ee f (B9 fr δ) (a z)=some (some (g z)):=by
    unfold Gq Cm;rw[(F3)];show(some true).bind _=_;rw[(F3),if_pos rfl,h z Fa]
    rfl
   rw[e];rfl
 rw[this zs h,(F3),LB,if_pos (by rw[(BJ)];exact Y)]
open Classical in
abbrev Jo(p:Int×Int):PD:=.tuple [.int p.1,.int p.2]
def lu:PD->Rat
 |.list g=>(g.map NA).sum
 |_=>0
open Classical in
noncomputable def NL(ds:yx):y7:=match ds with
 |[x]=>if ∃ps:List (Int×Int),x=.list (ps.map Jo)/\ps.length<=20/\∀p∈ps,1<=p.2/\p.1.natAbs<2^200/\p.2.natAbs<2^200 then some (AW (lu x)) else none
 |_=>none
def bx{ps:List (Int×Int)}(R:ps.length<=20)(g:∀p∈ps,1<=p.2/\p.1.natAbs<2^200/\p.2.natAbs<2^200):NL [.list (ps.map Jo)]=some (AW (ps.map fun p=>Rat.divInt p.1 p.2).sum):=by
 unfold NL;refine(if_pos ⟨ps,rfl,R,g⟩).trans ?_;show some (AW ((ps.map Jo).map NA).sum)=_;rw[(Ed)]
 rfl
def vS{G:Hp}{p:Int×Int}{v:V}(h:Du G (Jo p) v):∃c,v=.ref c/\G c=some (.tup [.int p.1,.int p.2]):=by
 rw[Du]at h;obtain⟨c,xs,rfl,U,T⟩:=h;obtain⟨x,y,rfl,R,g⟩:=T.Mv;rw[Du]at R g;subst R g;exact⟨c,rfl,U⟩
section
variable{P:F0b}{w:F0c}{K:Fg}{mg:y0}{base:Heap}{CX:Iw}{k:Nat}{f:AD}{fd:F0a}{ps:zC}
def u7(F:AK P w K mg base CX k f fd ps lT):AK P w K mg base CX k f fd ps (A6 NL) :=
 KH F fun ds x hm G H vs Q E d e U=>by
  unfold NL at hm;split at hm
  .split at hm
   .rename_i hh;obtain⟨g,rfl,h1,h2⟩:=hh;cases hm;obtain⟨v,rfl,d1⟩:=d.Ks;rw[Du]at d1;obtain⟨a,xs,rfl,n1,T⟩:=d1;have Z:=T.len;rw[(BJ)]at Z;have ht:lu (.list (g.map Jo))=(g.map fun p=>Rat.divInt p.1 p.2).sum:=by
     show((g.map Jo).map NA).sum=_;rw[(Ed)];rfl
    rw[ht]at U;refine⟨a,xs,g,200,rfl,e _ _ n1,Z,by lia,fun j x p hx hp=>?_,h2,by lia,fun l H' e' R=>?_⟩
    .obtain⟨v,Y,k2⟩:=T.get (i:=j) (d:=Jo p) (by rw[(CD),hp];rfl);rw[hx]at Y;cases Y;obtain⟨c,r1,r2⟩:=vS k2;exact⟨c,r1,e _ _ r2⟩
    .obtain⟨G',m1,m2,m3,m4⟩:=dm e e' R (MT [((g.map fun p=>Rat.divInt p.1 p.2).sum).num,(((g.map fun p=>Rat.divInt p.1 p.2).sum).den:Int)]);exact U _ G' H' m1 m2 m3 e' m4
   .cases hm
  .cases hm
end
def kf:((AH 5).all fun t=>(AH 5).all fun u=>decide (TH.BI (some u)≠TH.BI (some t))||decide (u=t))=true:=by decide +kernel
def yc:(AH 5).Nodup:=by decide +kernel
def Av(ws:zH)(t:Tr):Rat:=ws.getD ((AH 5).idxOf t) 0
def oS{i:Nat}{f:yu}{δ:Dv}{kvs:List KD}{x:PD}(U:od i δ=some kvs)(T:f (δ.set i (.d (Bh kvs)))=some x)(R:OE x=true)(g:alone i δ=true):Wr i f δ=some x:=by
 show(od i δ).bind _=_;rw[U];show(f _).bind _=_;rw[T];exact if_pos ⟨R,g⟩
def ie{i:Nat}{f g:yu}{δ:Dv}{kvs:List KD}{k:Ki}{y:PD}(Z:f δ=some y)(Y:g δ=some (Cq k))(U:od i δ=some kvs)(T:NU kvs k=true)(R:kvs.length<=500):eF i f g δ=some (.nx (δ.set i (.own (.GZ (Uo kvs k y))))):=by
 show(f δ).bind _=_;rw[Z];show(g δ).bind _=_;rw[Y];show(od i δ).bind _=_;rw[U];show(keyOf (Cq k)).bind _=_;rw[Od];exact if_pos ⟨T,R⟩
def Q3{i:Nat}{t:Tr}(h:(AH 5)[i]? = some t):(AH 5).idxOf t=i:=by
 have hm:=aN h;have g:=bS.mpr hm;have R:(AH 5)[(AH 5).idxOf t]? = some t:=by rw[List.getElem?_eq_getElem g,List.getElem_idxOf g]
 exact(List.getElem?_inj g yc).mp (R.trans h.symm)
def U2{i:Nat}{u:Tr}(R:u∈AH 5)(h:(AH 5).idxOf u<i):u∈(AH 5).take i:=by
 have g:=bS.mpr R;refine aN (i:=(AH 5).idxOf u) ?_;rw[List.getElem?_take_of_lt h,List.getElem?_eq_getElem g,List.getElem_idxOf g]
def jT{i:Nat}{t:Tr}(h:(AH 5)[i]? = some t):t ∉ (AH 5).take i:=fun z=>by
 obtain⟨j,R⟩:=ag.mp z;have g:j<i:=by have:=(aD.mp R).1;rw[(II)]at this;lia
 rw[List.getElem?_take_of_lt g]at R;have:=Q3 R;rw[Q3 h]at this
 lia
theorem QK(n:Nat):∀k,∃us,AH (n+k)=AH n++us
 |0=>⟨[],by rw[(Qh)];rfl⟩
 |k+1=>by
  obtain⟨us,h⟩:=QK n k;exact⟨us++TH.tz (n+k),by rw[<-(VI),<-h];rfl⟩
def Mk{n:Nat}(hn:n<=5){i:Nat}{t:Tr}(h:(AH n)[i]? = some t):(AH 5)[i]? = some t:=by
 obtain⟨us,g⟩:=QK n (5-n);rw[show n+(5-n)=5 by lia]at g;rw[g,List.getElem?_append_left (aD.mp h).1];exact h
def VU{ws:zH}{i:Nat}{t:Tr}{q:Rat}(h:(AH 5)[i]? = some t)(g:ws[i]? = some q):Av ws t=q:=by
 unfold Av;rw[Q3 h,(Er),g];rfl
def pQ(kvs:List KD)(l:L):Prop:=l=.own (.GZ kvs)\/l=.d (Bh kvs)
def kz{kvs:List KD}{a b l:L}{r:List L}(h:pQ kvs l):GL 2 (a::b::l::r)=a::b :: .d (Bh kvs)::r:=by
 rcases h with rfl|rfl<;>rfl
def iU{n:Nat}(hn:n<=5){i:Nat}(hi:i<=(AH n).length){u:Tr}(h:u∈(AH 5).take i):u∈AH n:=by
 obtain⟨us,g⟩:=QK n (5-n);rw[show n+(5-n)=5 by lia]at g;rw[g,List.take_append_of_le_length hi]at h;exact bT h
abbrev wQ(ts:List Tr):PD:=.list (L2.BN (Tr.of ts))
theorem KL:∀t:Tr,EH (L2.BN t)=some t
 |.nil=>by rw[L2.BN,EH]
 |.cons b r=>by rw[L2.BN,EH,FJ,KL b,KL r];rfl
def KI:PD->List Rat
 |.list xs=>xs.map NA
 |_=>[]
def S8(r:zH):KI (.list (Be r))=r:=by
 unfold KI Be;show List.map NA (r.map AW)=r;rw[(Ed)];exact List.map_id'' (fun q=>Lq q) r
def tabOf:PD->Tb
 |.tuple [.list rs,d]=>⟨rs.map KI,KI d⟩
 |_=>⟨[],[]⟩
def R5(t:Tb):tabOf (C8 t)=t:=by
 unfold C8 tabOf;have e:(Bq t.rs).map KI=t.rs:=by
  unfold Bq;rw[(Ed)];exact List.map_id'' (fun r=>S8 r) t.rs
 show Tb.mk ((Bq t.rs).map KI) (KI (.list (Be t.ls)))=t;rw[e,S8]
def lx:∀u∈AH 5,u.kO=true/\u.deep<8/\u.AI<=5/\∀b∈u.bs,b∈AH 5:=by decide +kernel
def wO:eT (AH 5) 1000:=⟨by decide +kernel,fun a ha b R e=>by
 have:=aL.mp (aL.mp kf b R) a ha;rw[Bool.or_eq_true]at this;rcases this with h|h
 .exact absurd e (aP h)
 .exact aP h,fun t g=>(lx t g).2.2.2,fun t g=>(lx t g).2.1,fun t g=>by have:=(lx t g).2.2.1;lia⟩
def Tb.Wu(t:Tb):Prop:=∃m n k:Nat,t.Ok m/\m<=40/\t.Fits n/\n*(m+m*m)<=4000/\Kk (FK t) 1000/\(Et t).natAbs<2^k/\n+k<=4000/\1<=Et t/\k*5<=4000
def XZ{t:Tb}{m n k c:Nat}(o:t.Ok m)(hm:m<=40)(h:t.Fits n)(b1:1<=Et t)(b2:(Et t).natAbs<2^k)(b3:∀r∈NC t,∀q∈r,(q.den:Int) ∣ Et t)(Y:n+k+6<=c):Kk (FK t) c:=by
 have h4:=o.most;have hl:(FK t).length=t.rs.length+1:=by unfold FK;rw[(BJ),(Gf)];rfl
 have one:∀row∈FK t,row.length<=40/\row.length<=t.rs.length:=fun row g=>by
  unfold FK at g;obtain⟨r,R,rfl⟩:=aQ.mp g;have e:(LY r (Et t)).length=r.length:=ba _;rw[e];obtain⟨i,hi⟩:=List.getElem?_of_mem R;have:=fI o (show(NC t)[i]? = some r from hi)
  lia
 refine⟨by lia,fun row g=>by have:=one row g;lia,2^(n+k),fun row g x Z=>?_,Nat.pow_le_pow_right AT AC,fun row g=>aU (Nat.mul_le_mul_right _ (aU (one row g).1 (show 40<=2^6 by decide))) ?_⟩
 .unfold FK at g;obtain⟨r,R,rfl⟩:=aQ.mp g;unfold LY at Z;obtain⟨q,T,rfl⟩:=aQ.mp Z;have f:FM.Fits q n:=by
   rcases ay.mp R with g|g
   .exact h.1 r g q T
   .rw[List.mem_singleton.mp g]at T;exact h.2 q T
  obtain⟨c,Y⟩:=b3 r R q T;have hd:(q.den:Int)≠0:=by have:=q.den_nz;lia
  have e:(Et t).fdiv (q.den:Int)=c:=by rw[Y,Int.mul_fdiv_cancel_left _ hd]
  have U:c.natAbs<=(Et t).natAbs:=by
   rw[Y,(QV)];exact Nat.le_mul_of_pos_left _ (by have:=q.den_nz;lia)
  rw[e,(QV),(NQ)];exact bg (bD f.1) (aU U (bD b2))
 .rw[<-(NQ)];exact aZ AT AC
def vq{t:Tb}{m n:Nat}(o:t.Ok m)(hm:m<=40)(h:t.Fits n)(g:n*(m+m*m)<=570)(hn:n<=300):t.Wu:=by
 obtain⟨b1,b2,b3⟩:=Zj h o;exact⟨m,n,1+n*(m+m*m),o,hm,h,by lia,XZ o hm h b1 b2 b3 AC,b2,by lia,b1,by lia⟩
open Classical in
noncomputable def cF(ds:yx):y7:=match ds with
 |[x,.list ys]=>if x=C8 (tabOf x)/\(tabOf x).Wu/\ys=L2.BN ((EH ys).getD .nil)/\(∀u∈((EH ys).getD .nil).bs,u∈AH 5)/\ys.length<=1000 then some (Aj (((EH ys).getD .nil).bs.map (NW (tabOf x)))) else none
 |_=>none
def tZ{t:Tb}(h:t.Wu){ts:zK}(R:∀u∈ts,u∈AH 5)(T:ts.length<=1000):cF [C8 t,wQ ts]=some (Aj (ts.map (NW t))):=by
 unfold cF;have e:(EH (L2.BN (Tr.of ts))).getD .nil=Tr.of ts:=by rw[KL];rfl
 refine(if_pos ⟨by rw[R5],by rw[R5];exact h,by rw[e],fun u g=>R u (by rw[e,Tr.Tp]at g;exact g),by rw[HD,(BJ)];exact T⟩).trans ?_;rw[R5,e,Tr.Tp]
def xp{P:F0b}{w:F0c}{K:Fg}{mg:y0}{base:Heap}{f:AD}{fd:F0a}{k:Nat}{ps:zC}(F:AK P w K mg base Af k f fd ps (pS (AH 5) 1000)):AK P w K mg base Af k f fd ps (A6 cF) :=
 KH F fun ds x hm G H vs Q E d e Y=>by
  unfold cF at hm;split at hm
  .rename_i tx ys;split at hm
   .rename_i hc;obtain⟨c1,⟨m,n,kb,w1,w2,w3,w4,w5,w6,w7,w8,w9⟩,c3,c4,c5⟩:=hc;cases hm;generalize tabOf tx=t at c1 w1 w3 w5 w6 w8 Y;subst c1;generalize (EH ys).getD .nil=T at c3 c4 Y;subst c3;obtain⟨v1,v2,rfl,d1,d2⟩:=d.Mv;rw[Du]at d2;obtain⟨L,R,rfl,hL,U⟩:=d2;have ts:=(G5 U).same e;have g:R.length=T.bs.length:=ts.len;have Z:T.bs.length<=1000:=by
     rw[<-g,U.len];exact c5
    refine⟨v1,t,L,R,T.bs,m,n,kb,rfl,UB (cS t) (d1.same e),w1,w2,w3,w4,w5,w6,w7,w8,e _ _ hL,g,Z,fun i x hx=>?_,fun D H' zs e' hD hD' dz=>?_⟩
    .obtain⟨u,hu,tu⟩:=ts.get hx;have hm:=c4 u (aN hu);have h6:=(lx u hm).2.2.1;exact⟨u,hu,tu,hm,by lia,Nat.le_trans (bE _ h6) w9⟩
    .obtain⟨n1,n2,n3⟩:=Zk e e';refine Y (.ref D) _ H' n1 n2 n3 e' ?_;rw[Du];exact⟨D,zs,rfl,UA hD' hD,LU dz⟩
   .cases hm
  .cases hm
abbrev OC:=Option Tr×List Tr
abbrev NG(c:OC):PD:=.tuple [Cq c.1,.list (c.2.map tD)]
def cy:PD->Option OC
 |.tuple [x,.list g]=>(keyOf x).bind fun k=>(EH g).map fun u=>(k,u.bs)
 |_=>none
def pq(u:Tr):L2.BN u=u.bs.map tD:=by
 have:=HD u.bs
 rwa [Tr.Wo]at this
def vV{d:PD}{c:OC}(h:cy d=some c):d=NG c:=by
 unfold cy at h;split at h
 .obtain⟨k,T,R⟩:=aB.mp h;obtain⟨u,g,rfl⟩:=aC.mp R;rw[MG T,Kq g,pq]
 .cases h
def allOf{α:Type}(f:PD->Option α):List PD->Option (List α)
 |[]=>some []
 |d::g=>(f d).bind fun x=>(allOf f g).map fun r=>x::r
theorem all_eq{α:Type}{f:PD->Option α}{g:α->PD}(R:∀ {d x},f d=some x->d=g x):∀ {ds:List PD} {xs:List α},allOf f ds=some xs->ds=xs.map g
 |[],xs,h=>by cases h;rfl
 |d::ds,xs,h=>by
  rw[allOf]at h;obtain⟨x,Y,U⟩:=aB.mp h;obtain⟨r,T,rfl⟩:=aC.mp U;rw[R Y,all_eq R T];rfl
abbrev yb:MD:=CO (DV 9)
abbrev KU:MD:=Bu (B0 AY 9) yb
def listOf{α:Type}(f:PD->Option α)(m:MD)(t:Tr):Option (List α):=match m [tD t]with
 |some (.list g)=>allOf f g
 |_=>none
def ik{α:Type}{f:PD->Option α}{g:α->PD}(R:∀ {d x},f d=some x->d=g x){m:MD}{t:Tr}{xs:List α}(h:listOf f m t=some xs):m [tD t]=some (.list (xs.map g)):=by
 unfold listOf at h;split at h
 .rename_i T e;rw[e,all_eq R h]
 .cases h
def Dc(t:Tr):List OC:=(listOf cy KU t).getD []
def lg(t:Tr):Bool:=match listOf cy KU t with
 |some as=>decide (as.length<=17)&&as.all fun c=>(match c.1 with|none=>true|some u=>decide (u∈AH 5)&&decide ((AH 5).idxOf u<=(AH 5).idxOf t))&&(c.2.all fun p=>decide (p∈AH 5)&&decide ((AH 5).idxOf p<=(AH 5).idxOf t))&&decide (c.2.length<=20)
 |_=>false
def oZ:(AH 5).all lg=true:=by decide +kernel
structure uk(t:Tr):Prop where
 a:KU [tD t]=some (.list ((Dc t).map NG))
 len:(Dc t).length<=17
 el:∀c∈Dc t,(∀u,c.1=some u->u∈AH 5/\(AH 5).idxOf u<=(AH 5).idxOf t)/\(∀p∈c.2,p∈AH 5/\(AH 5).idxOf p<=(AH 5).idxOf t)/\c.2.length<=20
def Tf{t:Tr}(ht:t∈AH 5):uk t:=by
 have:=aL.mp oZ t ht;unfold lg at this;split at this
 .rename_i a T;have ea:Dc t=a:=by unfold Dc;rw[T];rfl
  simp only[Bool.and_eq_true,decide_eq_true_eq,List.all_eq_true]at this;obtain⟨h1,h4⟩:=this;refine⟨by rw[ea];exact ik vV T,by rw[ea];exact h1,fun c R=>?_⟩;rw[ea]at R;obtain⟨⟨g,Y⟩,U⟩:=h4 c R;refine⟨fun u Z=>?_,Y,U⟩;rw[Z]at g
  simpa using g
 .cases this
def P4:List Rat->Rat
 |[]=>1
 |q::l=>q*P4 l
def De(b:List Rat):Option Tr->Rat
 |none=>1
 |some t=>Av b t
def Gn(a b:zH)(c:OC):Rat:=De b c.1*P4 (c.2.map (Av a))
def En(a b:zH)(t:Tr):Rat:=((Dc t).map (Gn a b)).sum
def MJ(p:Int×Int)(q:Rat):Int×Int:=(p.1*q.num,p.2*q.den)
def FV(b:Rat)(g:zH):Int×Int:=g.foldl MJ (b.num,(b.den:Int))
theorem V2:∀(g:List Rat) (p:Int×Int),Rat.divInt (g.foldl MJ p).1 (g.foldl MJ p).2=Rat.divInt p.1 p.2*P4 g
 |[],p=>by rw[P4,(Kz)];rfl
 |q::g,p=>by
  rw[List.foldl_cons,V2 g,P4,<-(QA)]
  congr 1
  show Rat.divInt (p.1*q.num) (p.2*q.den)=_
  conv=>rhs;rw[<-FM.Dg q,Rat.divInt_mul_divInt]
def Yy(b:Rat)(g:zH):Rat.divInt (FV b g).1 (FV b g).2=b*P4 g:=by
 unfold FV;rw[V2]
 congr 1
 exact FM.Dg b
theorem Pz:∀(g:List Rat) (p:Int×Int),1<=p.2->1<=(g.foldl MJ p).2
 |[],p,h=>h
 |q::g,p,h=>by
  rw[List.foldl_cons];refine Pz g _ ?_;have R:0<(q.den:Int):=by have:=q.den_nz;lia
  have:=Int.mul_pos (show 0<p.2 by lia) R;show 1<=p.2*q.den
  lia
theorem Y3{n:Nat}:∀(g:List Rat) (p:Int×Int) (m:Nat),(∀q∈g,FM.Fits q n)->p.1.natAbs<2^m->p.2.natAbs<2^m->(g.foldl MJ p).1.natAbs<2^(m+n*g.length)/\(g.foldl MJ p).2.natAbs<2^(m+n*g.length)
 |[],p,m,_,T,R=>⟨T,R⟩
 |q::g,p,m,U,T,R=>by
  have f:=U q Fa;have:=Y3 g (MJ p q) (m+n) (fun x Y=>U x (.tail _ Y)) (FM.I0 T f.1) (FM.I0 R f.d);rw[List.foldl_cons,(Jz),show m+n*(g.length+1)=m+n+n*g.length by rw[Nat.mul_succ];lia];exact this
def K5:List (Option Tr):=(AH 5).map some++[none]
def tP:(K5.all fun k=>(match k with|none=>true|some t=>decide (t.deep<8))&&K5.all fun q=>decide (TH.BI q≠TH.BI k)||decide (q=k))=true:=by decide +kernel
def fY{g:Option Tr->PD}{ks:Os}{k:Ki}(h:∀q∈ks,q∈K5)(U:k∈K5):NU (ks.map fun k=>(k,g k)) k=true:=by
 have:=aL.mp tP k U;rw[(Dk)]at this;unfold NU;rw[(Dk)];refine⟨this.1,List.all_eq_true.mpr fun q T=>?_⟩;obtain⟨u,R,rfl⟩:=aQ.mp T;exact aL.mp this.2 u (h u R)
theorem Wi{g:Option Tr->PD}{k:Ki}:∀ {ks:Os},k∈ks->look (ks.map fun k=>(k,g k)) k=some (g k)
 |u::ks,h=>by
  unfold look;rw[(A2),(P0)];by_cases z:u=k
  .subst z;simp
  .rw[show decide ((u,g u).1=k)=false from bF z];exact Wi ((aM.mp h).resolve_left fun e=>z e.symm)
def Xq{g:Option Tr->PD}{k:Ki}{ks:Os}(h:k ∉ ks)(y:PD):Uo (ks.map fun k=>(k,g k)) k y=(ks.map fun k=>(k,g k))++[(k,y)]:=by
 unfold Uo;have:(ks.map fun k=>(k,g k)).find? L8=none:=bh.mpr fun q T=>by
  obtain⟨u,R,rfl⟩:=aQ.mp T;have:u≠k:=fun e=>h (e ▸ R)
  simpa using this
 rw[this];rfl
abbrev CQ(b:List Rat)(ks:Os):List KD:=ks.map fun k=>(k,AW (De b k))
abbrev FT(n:Nat):List (Option Tr):=(AH n).map some
def qf:∀n,n<=5->eK (FT n)=true:=by decide +kernel
def Fd{n:Nat}(hn:n<=5){u:Tr}(g:u∈AH n):u∈AH 5:=by
 obtain⟨k,R⟩:=ag.mp g;exact aN (Mk hn R)
def S5{n:Nat}(hn:n<=5):∀q∈FT n,q∈K5:=fun q R=>by
 obtain⟨t,g,rfl⟩:=aQ.mp R;exact bN _ (au (Fd hn g))
def Wq{n:Nat}(hn:n<=5){ws:zH}(U:ws.length=CU n):(AH n).map (Av ws)=ws:=by
 have T:=(D6 n hn).1;refine List.ext_getElem? fun i=>?_;rw[(CD)];by_cases h:i<(AH n).length
 .have R:(AH n)[i]? = some (AH n)[i]:=aG h;have g:ws[i]? = some (ws[i]' AC):=aG _;rw[R,g];show some (Av ws (AH n)[i])=_;rw[VU (Mk hn R) g]
 .rw[List.getElem?_eq_none AC,List.getElem?_eq_none AC];rfl
def OO{n:Nat}(hn:n<=5):CU n<=17:=by rcases n with _|_|_|_|_|_|n<;>first|decide|lia
def eD{n:Nat}(hn:n<=5){ws:zH}(g:ws.length=CU n):fw dO (Aj ws)=some (CQ ws (FT n)):=by
 have R:=(D6 n hn).1;have T:=OO hn;have e:L2.BN (Tr.of (AH n))=(FT n).map Cq:=by rw[HD,(Ed)];rfl
 show(keysOf (L2.BN (Tr.of (AH n)))).bind _=_;rw[e,cj];have lk:(FT n).length=CU n:=by rw[(BJ),R]
 refine(if_pos ⟨qf n hn,by rw[(BJ),g,lk],by lia⟩).trans ?_
 congr 1
 conv=>lhs;rw[<-Wq hn g]
 rw[(Ed),CQ,(Ed),List.zip_map']
 rfl
def mJ{i j:Int}{m:Nat}(R:i.natAbs<2^m)(hm:m<=9000)(g:j.natAbs<2^190):Gg (.int i) (.int j)=some (.int (i*j)):=Ys (by
 unfold Ox;rw[Pq (n:=9000) (aH R (aZ AT hm)),Pq (n:=9000) (aH g (aZ AT AT))];simp)
def take_snoc{α:Type}{l:List α}{i:Nat}{x:α}(h:l[i]? = some x):l.take MS=l.take i++[x]:=by rw[List.take_succ,h];rfl
def Xz{a b:zH}{c:OC}{R g:Os}(ha:∀q∈R,q∈K5)(hb:∀q∈g,q∈K5)(h1:c.1∈g)(h2:∀p∈c.2,some p∈R)(wa:∀t,FM.Fits (Av a t) 190)(wb:FM.Fits Rc 190)(hl:c.2.length<=20):A8 [NG c,Bh (CQ a R),Bh (CQ b g)]=some (Jo (FV Rc (c.2.map (Av a)))):=by
 refine Cy rfl ?_;unfold RI;have g1:KO (Bh (CQ b g)) (Cq c.1)=some (AW Rc):=VS (fY hb (hb _ h1)) (Wi h1);have e1:∀(Z Y T:L),Ai KO (nm 2) (Ai DD eG Iv) [.d (NG c),.d (Bh (CQ a R)),.d (Bh (CQ b g)),Z,Y,T]=some (AW Rc):=fun _ _ _=>Az (x:=Bh (CQ b g)) (y:=Cq c.1) rfl (Az (x:=NG c) (y:=.int 0) rfl rfl rfl) g1;refine Al (Cz (y:=.int (De b c.1).num) (Az (x:=AW Rc) (y:=.int 0) (e1 _ _ _) rfl rfl)) ?_;refine Al (Cz (y:=.int ((De b c.1).den:Int)) (Az (x:=AW Rc) (y:=.int 1) (e1 _ _ _) rfl rfl)) ?_;refine Og (xs:=c.2.map tD) (fun i δ=>∃T,δ=[.d (NG c),.d (Bh (CQ a R)),.d (Bh (CQ b g)),.d (.int (FV Rc ((c.2.take i).map (Av a))).1),.d (.int (FV Rc ((c.2.take i).map (Av a))).2),T]) rfl ⟨.no,rfl⟩ (fun i x δ hx hI=>?_) fun δ' hI=>?_
 .obtain⟨T,rfl⟩:=hI;rw[(CD)]at hx;obtain⟨p,hp,rfl⟩:=aC.mp hx;have U:=h2 p (aN hp);have g2:KO (Bh (CQ a R)) (tD p)=some (AW (Av a p)):=VS (k:=some p) (fY ha (ha _ U)) (Wi U);have e2:∀(Z Y:L),Ai KO KK (nm 5) [.d (NG c),.d (Bh (CQ a R)),.d (Bh (CQ b g)),Z,Y,.d (tD p)]=some (AW (Av a p)):=fun _ _=>Az (x:=Bh (CQ a R)) (y:=tD p) rfl rfl g2;have et:(c.2.take MS).map (Av a)=(c.2.take i).map (Av a)++[Av a p]:=by rw[take_snoc hp,(Ep)];rfl
  have bd:=Y3 ((c.2.take i).map (Av a)) ((De b c.1).num,((De b c.1).den:Int)) 190 (fun q hq=>by obtain⟨t,_,rfl⟩:=aQ.mp hq;exact wa t) wb.1 wb.d;have hm:190+190*((c.2.take i).map (Av a)).length<=9000:=by
   rw[(BJ),(II)];have:min i c.2.length<=20:=by lia
   lia
  have es:FV Rc ((c.2.take MS).map (Av a))=MJ (FV Rc ((c.2.take i).map (Av a))) (Av a p):=by
   unfold FV;rw[et,List.foldl_append]
   rfl
  refine⟨_,rfl,mS (Cz (Az (x:=.int (FV Rc ((c.2.take i).map (Av a))).1) (y:=.int (Av a p).num) rfl (Az (x:=AW (Av a p)) (y:=.int 0) (e2 _ _) rfl rfl) (mJ bd.1 hm (wa p).1))) ?_⟩;refine⟨_,Cz (Az (x:=.int (FV Rc ((c.2.take i).map (Av a))).2) (y:=.int ((Av a p).den:Int)) rfl (Az (x:=AW (Av a p)) (y:=.int 1) (e2 _ _) rfl rfl) (mJ bd.2 hm (wa p).d)),.d (tD p),?_⟩;rw[es]
  rfl
 .obtain⟨T,rfl⟩:=hI;rw[(BJ),(JB)]
  rfl
structure Xm(a b:List Rat):Prop where
 wa:∀t,FM.Fits (Av a t) 190
 wb:∀t,FM.Fits (Av b t) 190
 sh:∀ {t:Tr},t∈AH 5->∀c∈Dc t,(FV Rc (c.2.map (Av a))).1.natAbs<2^200/\(FV Rc (c.2.map (Av a))).2.natAbs<2^200
def kG:FM.Fits 1 190:=⟨by decide,by decide⟩
def f7{a b:zH}(F:Xm a b)(k:Ki):FM.Fits (De b k) 190:=by
 cases k with
 |none=>exact kG
 |some t=>exact F.wb t
def Uw{n:Nat}(hn:n<=5){i:Nat}{t:Tr}(hi:(AH n)[i]? = some t):∀c∈Dc t,(c.1∈FT n++[none])/\(∀p∈c.2,p∈AH n)/\c.2.length<=20:=by
 have g:=Mk hn hi;have hm:=aN g;have U:i<(AH n).length:=(aD.mp hi).1;have mem:∀u,u∈AH 5->(AH 5).idxOf u<=(AH 5).idxOf t->u∈AH n:=fun u T R=>by
  rw[Q3 g]at R;exact iU hn (Nat.succ_le_of_lt U) (U2 T (Nat.lt_succ_of_le R))
 intro c Z;obtain⟨T,R,h3⟩:=(Tf hm).el c Z;refine⟨?_,fun p Y=>mem p (R p Y).1 (R p Y).2,h3⟩;cases e:c.1 with
 |none=>exact aV _ Fa
 |some u=>exact bN _ (au (mem u (T u e).1 (T u e).2))
noncomputable abbrev t8(T R g:AD):List PD->Option Xr:=Bt A8 NL KU (IC R) (FE T) g
def nF(n:Nat):(none:Ki) ∉ FT n:=fun h=>by
 obtain⟨t,_,e⟩:=aQ.mp h;cases e
def k9{n:Nat}(hn:n<=5):∀q∈FT n++[none],q∈K5:=fun q g=>by
 rcases ay.mp g with h|h
 .exact S5 hn q h
 .rw[List.mem_singleton.mp h];exact aV _ Fa
def vJ{n:Nat}(hn:n<=5){ws:zH}(g:ws.length=CU n)(C:AD):good (FE C) [Aj ws]=some T1:=by unfold good;rw[Mg hn g C]
def vG{n:Nat}(hn:n<=5){a b:zH}(ha:a.length=CU n)(hb:b.length=CU n)(F:Xm a b)(C1 C2 C3:AD):HM A8 NL KU (IC C2) (FE C1) C3 [.d (Aj a),.d (Aj b),.no,.no,.no,.no]=some (.inl (.rn (((AH n).map (En a b)).map AW))):=by
 have tl:=(D6 n hn).1;have h17:=OO hn;unfold HM;refine J4 (OI (ds:=[Aj a]) rfl (Mg hn ha C1)) ?_;refine J4 (cw (Cw (x:=.int (n:Nat)) (y:=.int (n:Nat)) (Ah (xs:=[Aj b]) rfl (vJ hn hb C1)) rfl (ne_self (Ok.int (n:=0)) AT)) rfl) ?_;refine J4 (OI (ds:=[.int (n:Nat)]) rfl (Qt hn C2)) ?_;refine TC ?_;have z1:∀(R Y U:L),X3 4 (AB (nm 3) Db) [.d (Aj a),.d (Aj b),R,.d dO,Y,U]=some (.nx [.d (Aj a),.d (Aj b),R,.d dO,.own (.GZ (CQ a (FT n))),U]):=fun _ _ _=>by
  show(fw dO (Aj a)).map _=_;rw[eD hn ha];rfl
 have z2:∀(R Y U:L),X3 5 (AB (nm 3) iS) [.d (Aj a),.d (Aj b),R,.d dO,Y,U]=some (.nx [.d (Aj a),.d (Aj b),R,.d dO,Y,.own (.GZ (CQ b (FT n)))]):=fun _ _ _=>by
  show(fw dO (Aj b)).map _=_;rw[eD hn hb];rfl
 refine Al (z1 _ _ _) (Al (z2 _ _ _) ?_);refine Al (δ':=[.d (Aj a),.d (Aj b),.d T1,.d dO,.own (.GZ (CQ a (FT n))),.own (.GZ (CQ b (FT n++[none])))]) ((ie (k:=none) (kvs:=CQ b (FT n)) (y:=AW 1) rfl rfl rfl (fY (S5 hn) (aV _ Fa)) (by rw[(BJ),(BJ),tl];lia)).trans ?_) ?_
 .rw[Xq (nF n)];have:CQ b (FT n++[none])=CQ b (FT n)++[(none,AW 1)]:=by rw[CQ,(Ep)];rfl
  rw[this]
  rfl
 have c:CV (Cm 1) Ee (AU NL (AB (Hy (Cm 1) Ee ku [none,none,some 2,some 3] (D4 (AU KU iS))) AG)) [none,none,some 4,some 5] (D4 (nm 3)) [.d (Aj a),.d (Aj b),.d T1,.d dO,.d (Bh (CQ a (FT n))),.d (Bh (CQ b (FT n++[none])))]=some ((AH n).map fun t=>AW (En a b t)):=by
  refine QN (zs:=AH n) (a:=tD) ?_ (by rw[tl];unfold D0;lia) fun t ht=>?_
  .show some (L2.BN (Tr.of (AH n)))=_;rw[HD]
  .obtain⟨i,hi⟩:=ag.mp ht;have t5:=Fd hn ht;have T:=Tf t5;have el:=Uw hn hi;have hl:=T.len;have e1:Hy (Cm 1) Ee ku [none,none,some 2,some 3] (D4 (AU KU iS)) [.no,.d (tD t),.d (Bh (CQ a (FT n))),.d (Bh (CQ b (FT n++[none])))]=some (.list (((Dc t).map fun c:OC=>FV Rc (c.2.map (Av a))).map Jo)):=by
    show(CV _ _ _ _ _ _).map PyData.list=_;rw[QN (zs:=Dc t) (a:=NG) (g:=fun c:OC=>Jo (FV Rc (c.2.map (Av a)))) (cT (x:=.list ((Dc t).map NG)) (Ah (xs:=[tD t]) rfl T.a) rfl) (by unfold D0;lia) fun c Z=>?_]
    .rw[(Ed)];rfl
    .obtain⟨k1,k2,k3⟩:=el c Z;exact Ah (xs:=[NG c,Bh (CQ a (FT n)),Bh (CQ b (FT n++[none]))]) rfl (Xz (S5 hn) (k9 hn) k1 (fun p hp=>au (k2 p hp)) F.wa (f7 F _) k3)
   refine Ah (xs:=[.list (((Dc t).map fun c:OC=>FV Rc (c.2.map (Av a))).map Jo)]) (BH e1 rfl) ((bx (by rw[(BJ)];lia) fun q hq=>?_).trans ?_)
   .obtain⟨c,Z,rfl⟩:=aQ.mp hq;have:=F.sh t5 c Z;exact⟨Pz _ _ (by have:=(De b c.1).den_nz;show(1:Int)<=((De b c.1).den:Int);lia),this.1,this.2⟩
   .rw[(Ed)];unfold En
    congr 3
    refine ah fun c _=>?_;exact Yy _ _
 show(CV _ _ _ _ _ [.d (Aj a),.d (Aj b),.d T1,.d dO,.d (Bh (CQ a (FT n))),.d (Bh (CQ b (FT n++[none])))]).map _=_;rw[c,(Ed)]
 rfl
def qV{n:Nat}(hn:n<=5){a b:zH}(ha:a.length=CU n)(U:b.length=CU n)(F:Xm a b)(T R g:AD):t8 T R g [Aj a,Aj b]=some (.inl (Aj ((AH n).map (En a b)))) :=
 Ud rfl (vG hn ha U F T R g)
def UK(n:Nat):((120:Int)^n)≠0:=Int.pow_ne_zero AT
structure Ia(a:List Rat):Prop where
 len:a.length<=17
 w:∀t∈AH 5,Dw (120^t.AI) (2^(30*t.AI)) (Av a t)
def Q6{t:Tr}(g:t∈AH 5):1<=t.AI/\t.AI<=5:=by
 have:=(D6 5 AT).2 t g
 lia
def vB{a:zH}(T:a.length<=17){t:Tr}(R:t ∉ AH 5):Av a t=0:=by
 have g:(AH 5).length=17:=(D6 5 AT).1;unfold Av;rw[List.idxOf_eq_length R,g,(Er),List.getElem?_eq_none T]
 rfl
def vd{k:Nat}(g:1<=k){q:Rat}(h:Dw (120^k) (2^(30*k)) q):FM.Fits q (31*k):=by
 refine h.fits (UK _) (Nat.pow_lt_pow_right AT AC) ?_;rw[Int.natAbs_pow];have:Int.natAbs 120^k<=(2^30)^k:=Nat.pow_le_pow_left AT _;rw[<-Nat.pow_mul]at this;exact aW this (Nat.pow_lt_pow_right AT AC)
def i8(n:Nat):FM.Fits 0 (n+1):=by
 refine(Dw.zero (m:=1) (c:=0)).fits AT ?_ ?_
 .exact Nat.pow_pos AT
 .exact Nat.one_lt_two_pow AC
def Ia.f{a:zH}(h:Ia a){t:Tr}(g:t∈AH 5):FM.Fits (Av a t) (31*t.AI):=vd (Q6 g).1 (h.w t g)
def Ia.ZA{a:zH}(h:Ia a)(t:Tr):FM.Fits (Av a t) 190:=by
 by_cases g:t∈AH 5
 .exact(h.f g).mono (by have:=Q6 g;lia)
 .rw[vB h.len g];exact i8 189
def Yk:Option Tr->Nat
 |none=>0
 |some t=>t.AI
def qI:((AH 5).all fun t=>((Dc t).all fun c=>decide (Yk c.1+(c.2.map Tr.AI).sum=t.AI)&&(c.2.all fun p=>decide (p∈AH 5))&&(match c.1 with|none=>true|some u=>decide (u∈AH 5))))=true:=by decide +kernel
def jK{t:Tr}(T:t∈AH 5){c:OC}(Y:c∈Dc t):Yk c.1+(c.2.map Tr.AI).sum=t.AI/\(∀p∈c.2,p∈AH 5)/\∀u,c.1=some u->u∈AH 5:=by
 have:=aL.mp (aL.mp qI t T) c Y;rw[(Dk),(Dk)]at this;obtain⟨⟨h1,Z⟩,g⟩:=this;refine⟨aP h1,fun p U=>aP (aL.mp Z p U),fun u R=>?_⟩;rw[R]at g;exact aP g
theorem b8{a:List Rat}(ha:Ia a):∀(ps:List Tr) (p:Int×Int) (m:Nat),(∀u∈ps,u∈AH 5)->p.1.natAbs<2^m->p.2.natAbs<2^m->((ps.map (Av a)).foldl MJ p).1.natAbs<2^(m+31*(ps.map Tr.AI).sum)/\((ps.map (Av a)).foldl MJ p).2.natAbs<2^(m+31*(ps.map Tr.AI).sum)
 |[],p,m,_,R,g=>⟨R,g⟩
 |u::ps,p,m,T,R,g=>by
  have f:=ha.f (T u Fa);have:=b8 ha ps (MJ p (Av a u)) (m+31*u.AI) (fun x U=>T x (.tail _ U)) (FM.I0 R f.1) (FM.I0 g f.d);rw[(A2),(A2),List.foldl_cons,(K1),show m+31*(u.AI+(ps.map Tr.AI).sum)=m+31*u.AI+31*(ps.map Tr.AI).sum by lia];exact this
theorem mO{a:List Rat}(ha:Ia a):∀(ps:List Tr),(∀u∈ps,u∈AH 5)->Dw (120^(ps.map Tr.AI).sum) (2^(30*(ps.map Tr.AI).sum)) (P4 (ps.map (Av a)))
 |[],_=>⟨1,by kernel_rfl,by decide⟩
 |u::ps,g=>by
  have:=(ha.w u (g u Fa)).mul (mO ha ps fun x R=>g x (.tail _ R));rw[(A2),(A2),(K1),P4,Nat.mul_add,(NQ),Int.pow_add];exact this
def vQ{a b:zH}(ha:Ia a)(U:Ia b){t:Tr}(R:t∈AH 5){c:OC}(T:c∈Dc t):Dw (120^t.AI) (2^(30*t.AI)) (Gn a b c):=by
 obtain⟨h1,Z,Y⟩:=jK R T;have g:Dw (120^Yk c.1) (2^(30*Yk c.1)) Rc:=by
  cases e:c.1 with
  |none=>exact⟨1,by kernel_rfl,by decide⟩
  |some u=>exact U.w u (Y u e)
 have:=g.mul (mO ha c.2 Z);rw[<-Int.pow_add,<-(NQ),<-Nat.mul_add,h1]at this;exact this
def jP{a b:zH}(ha:Ia a)(Z:Ia b){t:Tr}(g:t∈AH 5){l:List OC}(T:l.length<=17)(h:∀c∈l,c∈Dc t):FM.Fits (l.map (Gn a b)).sum 190:=by
 have U:=Q6 g;refine(Dw.sum (m:=120^t.AI) (c:=2^(30*t.AI)) (n:=17) (UK _) (by rw[(BJ)];exact T) fun q R=>?_).fits (UK _) ?_ ?_
 .obtain⟨c,Y,rfl⟩:=aQ.mp R;exact vQ ha Z g (h c Y)
 .have:2^(30*t.AI)<=2^150:=aZ AT AC;have h2:17*2^(30*t.AI)<=17*2^150:=by lia
  exact aW h2 AT
 .rw[Int.natAbs_pow];exact aW (aZ AT U.2) AT
def mD{a b:zH}(ha:Ia a)(hb:Ia b):Xm a b where
 wa:=ha.ZA
 wb:=hb.ZA
 sh:=fun {t} ht c hc=>by
  obtain⟨h1,h2,h3⟩:=jK ht hc;have hk:=Q6 ht;have hb1:FM.Fits Rc (31*Yk c.1+1):=by
   cases e:c.1 with
   |none=>exact show FM.Fits 1 1 from⟨by decide,by decide⟩
   |some u=>exact(hb.f (h3 u e)).mono (Nat.le_succ _)
  have:=b8 ha c.2 ((De b c.1).num,((De b c.1).den:Int)) (31*Yk c.1+1) h2 hb1.1 hb1.d;have h4:2^(31*Yk c.1+1+31*(c.2.map Tr.AI).sum)<=2^200:=aZ AT AC;exact⟨aH this.1 h4,Nat.lt_of_lt_of_le this.2 h4⟩
abbrev Mon:=List Nat
abbrev Dr:=List (Mon×Int)
def D9(x:Tm):Mon->Rat
 |[]=>1
 |i::m=>x i*D9 x m
def Bv(x:Tm):Dr->Rat
 |[]=>0
 |t::p=>(t.2:Rat)*D9 x t.1+Bv x p
def Ut(a:Nat):Mon->Mon
 |[]=>[a]
 |b::m=>if a<=b then a::b::m else b::Ut a m
theorem cb(x:Tm)(a:Nat):∀m:Mon,D9 x (Ut a m)=x a*D9 x m
 |[]=>rfl
 |b::m=>by
  unfold Ut;split
  .rfl
  .show x b*D9 x (Ut a m)=x a*(x b*D9 x m);rw[cb x a m,<-(QA),<-(QA),Rat.mul_comm (x b)]
def mulM:Mon->Mon->Mon
 |[],n=>n
 |a::m,n=>Ut a (mulM m n)
theorem Zi(x:Tm):∀m n:Mon,D9 x (mulM m n)=D9 x m*D9 x n
 |[],n=>by show D9 x n=1*D9 x n;rw[Rat.one_mul]
 |a::m,n=>by
  show D9 x (Ut a (mulM m n))=x a*D9 x m*D9 x n;rw[cb,Zi x m n,(QA)]
def O5(m:Mon)(c:Int):Dr->Dr
 |[]=>if c=0 then [] else [(m,c)]
 |(n,d)::p=>if m=n then(if c+d=0 then p else(n,c+d)::p) else(n,d)::O5 m c p
def X0:((0:Int):Rat)=0:=rfl
def oD(a b:Int):((a+b:Int):Rat)=(a:Rat)+(b:Rat):=Rat.intCast_add a b
def nG(a b:Int):((a*b:Int):Rat)=(a:Rat)*(b:Rat):=Rat.intCast_mul a b
theorem SF(x:Tm)(m:Mon)(c:Int):∀p:Dr,Bv x (O5 m c p)=(c:Rat)*D9 x m+Bv x p
 |[]=>by
  unfold O5;split
  .rename_i e;subst e;show(0:Rat)=((0:Int):Rat)*_+0;rw[X0,Rat.zero_mul,Rat.add_zero]
  .rfl
 |(n,d)::p=>by
  unfold O5;split
  .rename_i e;subst e;have h:(c:Rat)*D9 x m+Bv x ((m,d)::p)=((c+d:Int):Rat)*D9 x m+Bv x p:=by
    show(c:Rat)*D9 x m+((d:Rat)*D9 x m+Bv x p)=_;rw[<-Rat.add_assoc,<-Rat.add_mul,oD]
   rw[h];split
   .rename_i e;rw[e,X0,Rat.zero_mul,Rat.zero_add]
   .rfl
  .show(d:Rat)*D9 x n+Bv x (O5 m c p)=_;rw[SF x m c p];show _=(c:Rat)*D9 x m+((d:Rat)*D9 x n+Bv x p);rw[<-Rat.add_assoc,<-Rat.add_assoc,Rat.add_comm (_*_) (_*_)]
def KC:Dr->Dr->Dr
 |[],q=>q
 |t::p,q=>O5 t.1 t.2 (KC p q)
theorem Q2(x:Tm):∀p q:Dr,Bv x (KC p q)=Bv x p+Bv x q
 |[],q=>by show Bv x q=0+_;rw[Rat.zero_add]
 |t::p,q=>by
  show Bv x (O5 t.1 t.2 (KC p q))=(t.2:Rat)*D9 x t.1+Bv x p+Bv x q;rw[SF,Q2 x p q,Rat.add_assoc]
def SJ(m:Mon)(c:Int):Dr->Dr
 |[]=>[]
 |t::p=>O5 (mulM m t.1) (c*t.2) (SJ m c p)
theorem Qw(x:Tm)(m:Mon)(c:Int):∀p:Dr,Bv x (SJ m c p)=(c:Rat)*D9 x m*Bv x p
 |[]=>by show(0:Rat)=_*0;rw[Rat.mul_zero]
 |t::p=>by
  show Bv x (O5 (mulM m t.1) (c*t.2) (SJ m c p))=_;rw[SF,Qw x m c p,Zi,nG];show _=(c:Rat)*D9 x m*((t.2:Rat)*D9 x t.1+Bv x p);rw[Rat.mul_add]
  congr 1
  rw[(QA),(QA),<-Rat.mul_assoc (t.2:Rat),Rat.mul_comm (t.2:Rat) (D9 x m),(QA)]
def Mn:Dr->Dr->Dr
 |[],_=>[]
 |t::p,q=>KC (SJ t.1 t.2 q) (Mn p q)
theorem Uq(x:Tm):∀p q:Dr,Bv x (Mn p q)=Bv x p*Bv x q
 |[],q=>by show(0:Rat)=0*_;rw[Rat.zero_mul]
 |t::p,q=>by
  show Bv x (KC (SJ t.1 t.2 q) (Mn p q))=((t.2:Rat)*D9 x t.1+Bv x p)*Bv x q;rw[Q2,Qw,Uq x p q,Rat.add_mul]
def eV(p:Dr):Dr:=SJ [] (-1) p
def oO(x:Tm)(p:Dr):Bv x (eV p)=- Bv x p:=by
 unfold eV;rw[Qw];show((-1:Int):Rat)*1*Bv x p=_;rw[(Kz),show((-1:Int):Rat)=-1 from rfl,Rat.neg_mul,Rat.one_mul]
def Q7:List Dr->Dr
 |[]=>[([],1)]
 |p::l=>Mn p (Q7 l)
theorem Xx(x:Tm):∀l:List Dr,Bv x (Q7 l)=P4 (l.map (Bv x))
 |[]=>by show((1:Int):Rat)*1+0=1;rw[(Kz),Rat.add_zero];rfl
 |p::l=>by
  show Bv x (Mn p (Q7 l))=Bv x p*P4 (l.map (Bv x));rw[Uq,Xx x l]
def YU:List Dr->Dr
 |[]=>[]
 |p::l=>KC p (YU l)
theorem cE(x:Tm):∀l:List Dr,Bv x (YU l)=(l.map (Bv x)).sum
 |[]=>rfl
 |p::l=>by
  show Bv x (KC p (YU l))=_;rw[Q2,cE x l,(A2),(K1)]
abbrev Ps:=List Dr
def HR(A:Ps)(t:Tr):Dr:=A.getD ((AH 5).idxOf t) []
def bP(B:Ps):Option Tr->Dr
 |none=>[([],1)]
 |some t=>HR B t
def O8(A B:Ps)(t:Tr):Dr:=YU ((Dc t).map fun c=>Mn (bP B c.1) (Q7 (c.2.map (HR A))))
def cJ(n:Nat)(x:Tm)(A:Ps)(a:zH):Prop:=∀t∈AH n,Av a t=Bv x (HR A t)
theorem cJ.b{n:Nat}{x:Tm}{B:Ps}{b:zH}(h:cJ n x B b){k:Ki}(R:k∈FT n++[none]):De b k=Bv x (bP B k):=by
 cases k with
 |none=>show(1:Rat)=((1:Int):Rat)*1+0;rw[(Kz),Rat.add_zero];rfl
 |some t=>
  refine h t ?_;rcases ay.mp R with z|z
  .obtain⟨u,g,e⟩:=aQ.mp z;cases e;exact g
  .simp at z
def cK{n:Nat}(hn:n<=5){x:Tm}{A B:Ps}{a b:zH}(ha:cJ n x A a)(Z:cJ n x B b){t:Tr}(T:t∈AH n):En a b t=Bv x (O8 A B t):=by
 obtain⟨i,hi⟩:=ag.mp T;unfold En O8;rw[cE,(Ed)]
 congr 1
 refine ah fun c Y=>?_;obtain⟨R,g,_⟩:=Uw hn hi c Y;show De b c.1*P4 (c.2.map (Av a))=Bv x (Mn (bP B c.1) (Q7 (c.2.map (HR A))));rw[Uq,Xx,<-Z.b R,(Ed)]
 congr 2
 exact ah fun p U=>ha p (g p U)
def A1(n:Nat)(x:Tm)(A:Ps):zH:=(AH n).map fun t=>Bv x (HR A t)
def TB{n:Nat}(hn:n<=5)(x:Tm)(A:Ps):cJ n x A (A1 n x A):=fun t g=>by
 obtain⟨i,hi⟩:=ag.mp g;refine VU (Mk hn hi) ?_;unfold A1;rw[(CD),hi]
 rfl
def fE{n:Nat}(hn:n<=5)(x:Tm)(A:Ps):(A1 n x A).length=CU n:=by unfold A1;rw[(BJ),(D6 n hn).1]
def JS(i:Nat):Nat:=((AH 5).getD i .nil).AI
def kM:Mon->Nat
 |[]=>0
 |i::m=>JS i+kM m
structure VY(x:Tm):Prop where
 s:∀i,Dw (120^JS i) (2^(22*JS i)) (x i)
theorem WJ{x:Tm}(g:VY x):∀m:Mon,Dw (120^kM m) (2^(22*kM m)) (D9 x m)
 |[]=>⟨1,by kernel_rfl,by decide⟩
 |i::m=>by
  have:=(g.s i).mul (WJ g m);rw[D9,kM,Nat.mul_add,(NQ),Int.pow_add];exact this
def Ws(p:Dr):Nat:=(p.map fun t=>t.2.natAbs).sum
theorem VZ{x:Tm}(g:VY x){k:Nat}:∀ {p:Dr},(∀t∈p,kM t.1=k)->Dw (120^k) (Ws p*2^(22*k)) (Bv x p)
 |[],_=>.zero
 |t::p,h=>by
  have T:=WJ g t.1;rw[h t Fa]at T;have Y:Dw 1 t.2.natAbs (t.2:Rat):=⟨t.2,(FM.Dg (t.2:Rat)).symm,Nat.le_refl _⟩;have R:=Y.mul T;rw[Int.one_mul]at R;have:=R.add (UK _) (VZ g (p:=p) fun u U=>h u (.tail _ U));show Dw (120^k) (Ws (t::p)*2^(22*k)) ((t.2:Rat)*D9 x t.1+Bv x p);refine this.mono (Nat.le_of_eq ?_);unfold Ws;rw[(A2),(K1),Nat.add_mul]
def Oe(p:Dr)(k:Nat):Bool:=(p.all fun t=>decide (kM t.1=k))&&decide (Ws p*2^(22*k)<=2^(30*k))
def cW{p:Dr}{k:Nat}(h:Oe p k=true):∀t∈p,kM t.1=k:=by
 unfold Oe at h;rw[(Dk)]at h;exact fun t g=>aP (aL.mp h.1 t g)
def gR{x:Tm}(g:VY x){p:Dr}{k:Nat}(h:Oe p k=true):Dw (120^k) (2^(30*k)) (Bv x p):=by
 have R:=cW h;unfold Oe at h;rw[(Dk)]at h;exact(VZ g R).mono (aP h.2)
def tM{n:Nat}(hn:n<=5){x:Tm}(T:VY x){A:Ps}(h:∀t∈AH 5,Oe (HR A t) t.AI=true):Ia (A1 n x A):=by
 have U:=fE hn x A;have Y:=OO hn;refine⟨by lia,fun t R=>?_⟩;by_cases z:t∈AH n
 .rw[TB hn x A t z];exact gR T (h t R)
 .have:Av (A1 n x A) t=0:=by
   unfold Av;have g:=bS.mpr R;have e:(AH 5)[(AH 5).idxOf t]? = some t:=by rw[List.getElem?_eq_getElem g,List.getElem_idxOf g]
   rw[(Er),List.getElem?_eq_none]
   .rfl
   .rw[U,<-(D6 n hn).1];refine Nat.le_of_not_lt fun y=>z ?_;exact iU hn Ql (U2 R y)
  rw[this];exact .zero
def eC(k:Nat):Ps:=(List.range 17).map fun i=>[([i+k],1)]
def ud(n:Nat){x:Tm}{k:Nat}{ws:zH}(R:ws.length<=17)(g:∀i,i<17->x (i+k)=ws.getD i 0):cJ n x (eC k) ws:=fun t _=>by
 unfold Av HR eC;by_cases h:(AH 5).idxOf t<17
 .rw[List.getD_eq_getElem?_getD (l:=List.map _ _),(CD),List.getElem?_range h];show _=((1:Int):Rat)*(x ((AH 5).idxOf t+k)*1)+0;rw[Rat.add_zero,(Kz),show((1:Int):Rat)=1 from rfl,Rat.one_mul,g _ h]
 .rw[List.getD_eq_getElem?_getD (l:=List.map _ _),List.getElem?_eq_none (by rw[(BJ),List.length_range];lia),(Er),List.getElem?_eq_none AC]
  rfl
def Yq(f:Tr->Dr):Ps:=(AH 5).map f
def hU(f:Tr->Dr){t:Tr}(R:t∈AH 5):HR (Yq f) t=f t:=by
 unfold HR Yq;have g:=bS.mpr R;rw[(Er),(CD),List.getElem?_eq_getElem g,List.getElem_idxOf g]
 rfl
def cL(A B:Ps):Ps:=Yq (O8 A B)
def tR{n:Nat}(hn:n<=5)(x:Tm)(A B:Ps):(AH n).map (En (A1 n x A) (A1 n x B))=A1 n x (cL A B) :=
 ah fun t g=>by
  rw[cK hn (TB hn x A) (TB hn x B) g];show _=Bv x (HR (Yq (O8 A B)) t);rw[hU _ (Fd hn g)]
def tI(p q:Dr):Bool:=decide (KC p (eV q)=[])
def vi{p q:Dr}(h:tI p q=true)(x:Tm):Bv x p=Bv x q:=by
 have e:=bM (Bv x) (aP h);rw[Q2,oO]at e;have e:Bv x p + - Bv x q=0:=e;rw[<-Rat.sub_eq_add_neg]at e;have:=bM (fun r=>r+Bv x q) e
 simpa[Rat.sub_add_cancel,Rat.zero_add]using this
def xh{n:Nat}(hn:n<=5){A B:Ps}(h:((AH 5).all fun t=>tI (HR A t) (HR B t))=true)(x:Tm):A1 n x A=A1 n x B :=
 ah fun t g=>vi (aL.mp h t (Fd hn g)) x
def gq{n:Nat}(hn:n<=5){A B:Ps}(h:((AH 5).all fun t=>decide (O8 A B t=[]))=true)(x:Tm):∀t∈AH n,En (A1 n x A) (A1 n x B) t=0:=fun t g=>by
 rw[cK hn (TB hn x A) (TB hn x B) g,of_decide_eq_true (aL.mp h t (Fd hn g))]
 rfl
def yO(V U:Ps)(t:Tr):Dr:=eV (YU (((Dc t).filter fun c=>decide (c.1≠some t)).map fun c=>Mn (bP U c.1) (Q7 (c.2.map (HR V)))))
def vH(V:Ps):Ps:=(AH 5).foldl (fun U t=>U++[yO V U t]) []
def ZH{α:Type}{i:Nat}{f:yu}{R:yw}{fs:yt}{δ:Dv}{fr:zO}{zs:List α}{a g:α->PD}{p:α->Bool}(hx:fs δ=some (zs.map a))(hl:zs.length<=D0) (T:∀z∈zs,R ((B9 fr δ).set i (.d (a z)))=some (p z))(h:∀z∈zs,p z=true->f ((B9 fr δ).set i (.d (a z)))=some (g z)):CV (Cm i) R f fr fs δ=some ((zs.filter p).map g):=by
 unfold CV;rw[hx,(F3)];have:∀zs:List α,(∀z∈zs,R ((B9 fr δ).set i (.d (a z)))=some (p z))->(∀z∈zs,p z=true->f ((B9 fr δ).set i (.d (a z)))=some (g z))->L2.collect (Gq (Cm i) R f (B9 fr δ)) (zs.map a)=some ((zs.filter p).map g):=fun zs=>by
  induction zs with
  |nil=>intro _ _;rfl
  |cons z zs Z=>
   intro T h;rw[(A2)];unfold L2.collect;rw[Z (fun y Y=>T y (.tail _ Y)) fun y Y=>h y (.tail _ Y)];cases U:p z with
   |true=>
    have e:Gq (Cm i) R f (B9 fr δ) (a z)=some (some (g z)):=by
     unfold Gq Cm;rw[(F3)];show(R _).bind _=_;rw[T z Fa,U,(F3),if_pos rfl,h z Fa U]
     rfl
    rw[e,List.filter_cons_of_pos U];rfl
   |false=>
    have e:Gq (Cm i) R f (B9 fr δ) (a z)=some none:=by
     unfold Gq Cm;rw[(F3)];show(R _).bind _=_;rw[T z Fa,U,(F3),if_neg AT]
    rw[e,List.filter_cons_of_neg (by rw[U];decide)];rfl
 rw[this zs T h,(F3),LB,if_pos (by rw[(BJ)];exact aU (List.length_filter_le _ _) hl)]
def t7:(K5.all fun k=>(AH 5).all fun t=>match EU true (Cq k) (tD t) with|some (.bool b)=>b==decide (k≠some t)|_=>false)=true:=by decide +kernel
def qN{k:Ki}(R:k∈K5){t:Tr}(g:t∈AH 5):EU true (Cq k) (tD t)=some (.bool (decide (k≠some t))):=by
 have:=aL.mp (aL.mp t7 k R) t g;split at this
 .rename_i b e;rw[e,eq_of_beq this]
 .cases this
def oJ:((AH 5).all fun t=>decide ((Dc t).filter (fun c=>decide (c.1=some t))=[(some t,[])])&&(Dc t).all fun c=>match c.1 with|none=>true|some u=>decide ((AH 5).idxOf u<=(AH 5).idxOf t))=true:=by decide +kernel
def fB{t:Tr}(R:t∈AH 5):(Dc t).filter (fun c=>decide (c.1=some t))=[(some t,[])]/\∀c∈Dc t,∀u,c.1=some u->(AH 5).idxOf u<=(AH 5).idxOf t:=by
 have:=aL.mp oJ t R;rw[(Dk)]at this;refine⟨aP this.1,fun c T u g=>?_⟩;have:=aL.mp this.2 c T;rw[g]at this;exact aP this
theorem O3{α:Type}(p:α->Bool)(f:α->Rat):∀l:List α,(l.map f).sum=((l.filter p).map f).sum+((l.filter fun x=>!p x).map f).sum
 |[]=>by show(0:Rat)=0+0;rw[Rat.add_zero]
 |x::l=>by
  rw[(A2),(K1),O3 p f l];cases h:p x with
  |true=>rw[List.filter_cons_of_pos h,List.filter_cons_of_neg (by simp[h]),(A2),(K1),Rat.add_assoc]
  |false=>rw[List.filter_cons_of_neg (by simp[h]),List.filter_cons_of_pos (by simp[h]),(A2),(K1),<-Rat.add_assoc,<-Rat.add_assoc,Rat.add_comm (f x)]
abbrev rest(t:Tr):List OC:=(Dc t).filter fun c=>decide (c.1≠some t)
def jR(a b:zH){t:Tr}(g:t∈AH 5)(h:En a b t=0):((rest t).map (Gn a b)).sum * -1=Av b t:=by
 have e:=O3 (fun c:OC=>decide (c.1=some t)) (Gn a b) (Dc t);rw[(fB g).1]at e;have U:((Dc t).filter fun x=>!decide (x.1=some t))=rest t:=List.filter_congr fun c _=>by simp
 rw[U]at e;have T:(([(some t,[])]:List OC).map (Gn a b)).sum=Av b t:=by
  show Av b t*1+0=_;rw[(Kz),Rat.add_zero]
 rw[T]at e;unfold En at h;rw[h]at e;generalize ((rest t).map (Gn a b)).sum=s at e;have:s=- Av b t:=by
  have R:s=(Av b t+s)-Av b t:=by rw[Rat.add_comm,Rat.add_sub_cancel]
  rw[R,<-e,Rat.sub_eq_add_neg,Rat.zero_add]
 rw[this,Rat.mul_neg,(Kz),Rat.neg_neg]
theorem Vo:∀L:List (Int×Int),Mx (L.map Jo)=true
 |[]=>rfl
 |q::L=>by rw[(A2),Mx,Vo L];rfl
noncomputable abbrev gp(R g:AD):List PD->Option Xr:=CB A8 mT NL KU (IC g) (FE R)
def xG{n:Nat}(hn:n<=5){a b:zH}(ha:a.length=CU n)(hb:b.length=CU n)(F:Xm a b)(h0:∀t∈AH n,En a b t=0)(hs:∀t∈AH 5,FM.Fits ((rest t).map (Gn a b)).sum 190)(C1 C2:AD):IG A8 mT NL KU (IC C2) (FE C1) [.d (Aj a),.no,.no,.no,.no,.no]=some (.inl (.rn (b.map AW))):=by
 have tl:=(D6 n hn).1;have h17:=OO hn;unfold IG;refine J4 (δ':=[.d (Aj a),.d dO,.no,.no,.no,.no]) ?_ ?_
 .have e:CP (DY (CP (ER Db) (FE C1)) (ER AG)) (IC C2) [.d (Aj a),.no,.no,.no,.no,.no]=some (.inl dO):=by
   have e1:CP (ER Db) (FE C1) [.d (Aj a),.no,.no,.no,.no,.no]=some (.inl T1):=Mg hn ha C1;have e2:DY (CP (ER Db) (FE C1)) (ER AG) [.d (Aj a),.no,.no,.no,.no,.no]=some (.inl [.int (n:Nat)]):=by unfold DY;rw[e1];rfl
   unfold CP at e2 ⊢;rw[e2];exact Qt hn C2
  show(CP _ _ _).map _=_;rw[e]
  rfl
 refine TC ?_;have z1:∀(Z l3 l4 R:L),X3 2 (AB KK Db) [.d (Aj a),.d dO,Z,l3,l4,R]=some (.nx [.d (Aj a),.d dO,.own (.GZ (CQ a (FT n))),l3,l4,R]):=fun _ _ _ _=>by
  show(fw dO (Aj a)).map _=_;rw[eD hn ha];rfl
 refine Al (z1 _ _ _ _) ?_;refine Al (δ':=[.d (Aj a),.d dO,.own (.GZ (CQ a (FT n))),.own (.GZ (CQ b [none])),.no,.no]) rfl ?_;refine Og (xs:=(AH n).map tD) (fun i δ=>∃Z l4 R,δ=[.d (Aj a),.d dO,Z,.own (.GZ (CQ b On)),l4,R]/\pQ (CQ a (FT n)) Z/\eI R=true) ?_ ⟨_,.no,.no,rfl,.inl rfl,rfl⟩ (fun i x δ hx hI=>?_) fun δ' hI=>?_
 .show some (L2.BN (Tr.of (AH n)))=_;rw[HD]
 .obtain⟨Z,l4,R,rfl,hh,hn5⟩:=hI;rw[(CD)]at hx;obtain⟨t,Y,rfl⟩:=aC.mp hx;have hi:i<(AH n).length:=(aD.mp Y).1;have ht5:=Mk hn Y;have hm:=aN ht5;have htn:=aN Y;have T:=Tf hm;have el:=Uw hn Y;have hlen:=T.len;have U:∀q∈none::((AH n).take i).map some,q∈K5:=fun q hq=>by
   rcases aM.mp hq with rfl|hq
   .exact aV _ Fa
   .obtain⟨u,hu,rfl⟩:=aQ.mp hq;exact bN _ (au (Fd hn (bT hu)))
  have hrest:∀c∈Dc t,c.1≠some t->c.1∈none::((AH n).take i).map some:=fun c hc hne=>by
   cases e:c.1 with
   |none=>exact .head _
   |some u=>
    refine .tail _ (au ?_);have h5:=(jK hm hc).2.2 u e;have hle:=(fB hm).2 c hc u e;rw[Q3 ht5]at hle;have hlt:(AH 5).idxOf u<i:=by
     rcases Nat.lt_or_ge ((AH 5).idxOf u) i with z|z
     .exact z
     .have hlu:=bS.mpr h5;have e2:(AH 5)[(AH 5).idxOf u]? = some u:=by rw[List.getElem?_eq_getElem hlu,List.getElem_idxOf hlu]
      rw[show(AH 5).idxOf u=i by lia,ht5]at e2;cases e2;exact absurd e hne
    obtain⟨us,hu⟩:=QK n (5-n);rw[show n+(5-n)=5 by lia]at hu;have:=U2 h5 hlt
    rwa [hu,List.take_append_of_le_length (bD hi)]at this
  refine⟨[.d (Aj a),.d dO,Z,.own (.GZ (CQ b On)),.d (tD t),R],rfl,?_⟩;have e5:Si 2 (CN 5 (Wr 3 (Hy (Cm 1) (CT (EU true) (Ai DD KK Iv) (nm 4)) ku [none,none,some 2,some 3,some 4] (D4 (AU KU (AB (nm 4) AG)))))) [.d (Aj a),.d dO,Z,.own (.GZ (CQ b On)),.d (tD t),R]
    = some (.nx [.d (Aj a),.d dO,.d (Bh (CQ a (FT n))),.own (.GZ (CQ b On)),.d (tD t),.d (.list MR)]):=by
   show CN 5 _ (GL 2 _)=_;rw[kz hh];refine(Cz (y:=.list MR) (oS (kvs:=CQ b On) rfl ?_ (Vo _) ?_)).trans rfl
   .show(CV _ _ _ _ _ _).map PyData.list=_;rw[ZH (zs:=Dc t) (a:=NG) (p:=fun c=>decide (c.1≠some t)) (g:=fun c:OC=>Jo (FV Rc (c.2.map (Av a)))) (cT (x:=.list ((Dc t).map NG)) (Ah (xs:=[tD t]) rfl T.a) rfl) (by unfold D0;lia) (fun c hc=>?_) fun c hc hp=>?_]
    .rw[(Ed)];rfl
    .exact Cw (x:=Cq c.1) (y:=tD t) (Az (x:=NG c) (y:=.int 0) rfl rfl rfl) rfl (qN (k9 hn _ (el c hc).1) hm)
    .obtain⟨k1,k2,k3⟩:=el c hc;exact Ah (xs:=[NG c,Bh (CQ a (FT n)),Bh (CQ b On)]) rfl (Xz (S5 hn) U (hrest c hc (aP hp)) (fun p hp=>au (k2 p hp)) F.wa (f7 F _) k3)
   .unfold alone;show(true&&(true&&(true&&(true&&(true&&(eI R&&true))))))=true;rw[hn5];rfl
  refine mS e5 ?_;have hnew:(some t:Ki) ∉ none::((AH n).take i).map some:=fun z=>by
   rcases aM.mp z with z|z
   .cases z
   .obtain⟨u,hu,e⟩:=aQ.mp z;cases e;refine jT ht5 ?_;obtain⟨us,hu'⟩:=QK n (5-n);rw[show n+(5-n)=5 by lia]at hu';rw[hu',List.take_append_of_le_length (bD hi)];exact hu
  have hrl:(rest t).length<=17:=aU (List.length_filter_le _ _) hlen;have tot:NL [.list MR]=some (AW ((rest t).map (Gn a b)).sum):=by
   refine(bx (by rw[(BJ)];lia) fun q hq=>?_).trans ?_
   .obtain⟨c,hc,rfl⟩:=aQ.mp hq;have:=F.sh hm c (List.mem_filter.mp hc).1;exact⟨Pz _ _ (by have:=(De b c.1).den_nz;show(1:Int)<=((De b c.1).den:Int);lia),this.1,this.2⟩
   .rw[(Ed)]
    congr 3
    exact ah fun c _=>Yy _ _
  have tm:mT [AW ((rest t).map (Gn a b)).sum,AW (-1)]=some (AW (Av b t)):=by
   refine(l6 ((hs t hm).mono) ⟨by decide,by decide⟩).trans ?_;rw[jR a b hm (h0 t htn)]
  refine⟨[.d (Aj a),.d dO,.d (Bh (CQ a (FT n))),.own (.GZ (CQ b (none::((AH n).take MS).map some))),.d (tD t),.d (.list MR)],((ie (k:=some t) (kvs:=CQ b On) (y:=AW (Av b t)) (Ah (xs:=[AW ((rest t).map (Gn a b)).sum,AW (-1)]) (BH (Ah (xs:=[.list MR]) rfl tot) (BH rfl rfl)) tm) rfl rfl (fY U (bN _ (au hm))) (by rw[(BJ),(Jz),(BJ),(II)];lia)).trans ?_),_,_,_,rfl,.inr rfl,rfl⟩;rw[Xq hnew];have:CQ b (none::((AH n).take MS).map some)=CQ b On++[(some t,AW (Av b t))]:=by
   rw[take_snoc Y,(Ep),<-List.cons_append,CQ,(Ep)]
   rfl
  rw[this]
  rfl
 .obtain⟨Z,l4,R,rfl,hh,_⟩:=hI;rw[(BJ),(JB)];have U:∀q∈none::(AH n).map some,q∈K5:=fun q hq=>by
   rcases aM.mp hq with rfl|hq
   .exact aV _ Fa
   .exact S5 hn q hq
  have c:CV (Cm 1) Ee (Ai KO (nm 2) KK) [none,none,some 3] (D4 KK) [.d (Aj a),.d dO,Z,.d (Bh (CQ b (none::(AH n).map some))),l4,R]=some ((AH n).map fun t=>AW (Av b t)):=by
   refine QN (zs:=AH n) (a:=tD) ?_ (by rw[tl];unfold D0;lia) fun t ht=>?_
   .show some (L2.BN (Tr.of (AH n)))=_;rw[HD]
   .have hk:some t∈none::(AH n).map some:=.tail _ (au ht);exact Az (x:=Bh (CQ b (none::(AH n).map some))) (y:=tD t) rfl rfl (VS (k:=some t) (fY U (U _ hk)) (Wi hk))
  show(CV _ _ _ _ _ [.d (Aj a),.d dO,Z,.d (Bh (CQ b (none::(AH n).map some))),l4,R]).map _=_;rw[c,show((AH n).map fun t=>AW (Av b t))=((AH n).map (Av b)).map AW by rw[(Ed)];rfl,Wq hn hb]
  rfl
def vc{n:Nat}(hn:n<=5){a b:zH}(ha:a.length=CU n)(Z:b.length=CU n)(sa:Ia a)(g:Ia b)(h0:∀t∈AH n,En a b t=0)(U T:AD):gp U T [Aj a]=some (.inl (Aj b)) :=
 Ud rfl (xG hn ha Z (mD sa g) h0 (fun t R=>jP sa g R (aU (List.length_filter_le _ _) (Tf R).len) fun c Y=>(List.mem_filter.mp Y).1) U T)
theorem Yl{p:Rat}{n:Nat}(h:FM.Fits p n):∀k:Nat,FM.Fits (p^k) (n*k+1)
 |0=>⟨by rw[Rat.num_pow,Int.pow_zero,Nat.mul_zero];decide,by rw[Rat.den_pow,Nat.pow_zero,Nat.mul_zero];decide⟩
 |k+1=>by
  rw[Rat.pow_succ];have:=(Yl h k).times h;rw[show n*Pi+1=n*k+1+n by rw[Nat.mul_succ];lia];exact this
def uU{p:Rat}(g:FM.Fits p 10){k:Nat}(T:k<=10):CS Xj [AW p,.int (k:Nat)]=some (AW (p^k)):=by
 refine Cy rfl ?_;unfold P9;have e:∀b:Int,b.natAbs<2^10->Xj [.int b,.int (k:Nat)]=some (.int (b^k)):=fun b R=>by
  refine(if_pos ⟨R,by lia,by lia⟩).trans ?_;rw[(QI)]
 refine GO ((Nd (BH (Ah (xs:=[.int p.num,.int (k:Nat)]) rfl (e _ g.1)) (BH (Ah (xs:=[.int (p.den:Int),.int (k:Nat)]) rfl (e _ g.d)) rfl)) (by show(2:Nat)<=D0;decide)).trans ?_);unfold AW;rw[Rat.num_pow,Rat.den_pow,Int.natCast_pow]
def yY:∀t∈AH 5,AX 9 [tD t]=some (.int (t.AI:Nat)):=by
 have h:((AH 5).all fun t=>match AX 9 [tD t]with|some (.int i)=>decide (i=(t.AI:Int))|_=>false)=true:=by decide +kernel
 intro t g;have:=aL.mp h t g;split at this
 .rename_i i e;rw[e,of_decide_eq_true this]
 .cases this
noncomputable abbrev ig(R g:AD):List PD->Option Xr:=Ax (CS Xj) mT (AX 9) (IC g) (FE R)
def M1(n:Nat)(ws:zH)(p:Rat):zH:=((AH n).zip ws).map fun z=>z.2*p^z.1.AI
def WB{n:Nat}(hn:n<=5){ws:zH}(hl:ws.length=CU n)(hw:∀q∈ws,FM.Fits q 300){p:Rat}(Z:FM.Fits p 10)(g R:AD):ig g R [Aj ws,AW p]=some (.inl (Aj (M1 n ws p))):=by
 refine Ud rfl ?_;unfold LF;have h17:CU n<=17:=by rcases n with _|_|_|_|_|_|n<;>first|decide|lia
 refine J4 (δ':=[.d (Aj ws),.d (AW p),.d dO]) ?_ ?_
 .have e:CP (DY (CP (ER Db) (FE g)) (ER AG)) (IC R) [.d (Aj ws),.d (AW p),.no]=some (.inl dO):=by
   have e1:CP (ER Db) (FE g) [.d (Aj ws),.d (AW p),.no]=some (.inl T1):=Mg hn hl g;have e2:DY (CP (ER Db) (FE g)) (ER AG) [.d (Aj ws),.d (AW p),.no]=some (.inl [.int (n:Nat)]):=by unfold DY;rw[e1];rfl
   unfold CP at e2 ⊢;rw[e2];exact Qt hn R
  show(CP _ _ _).map _=_;rw[show CP (DY (CP (ER Db) (FE g)) (ER AG)) (IC R) (Je ["weighing","part","trees"] [Aj ws,AW p])=_ from e]
  rfl
 .have e:CV (Fw 1 2) Ee (AU mT (AB (nm 2) (AB (AU (CS Xj) (AB (nm 3) (AB (AU (AX 9) iS) AG))) AG))) [none,none,none,some 1] (HN zip2 (AB (nm 2) Db)) [.d (Aj ws),.d (AW p),.d dO]=some (((AH n).zip ws).map fun z=>AW (z.2*p^z.1.AI)):=by
   refine iQ (a:=fun z=>.tuple (L2.BN z.1)) (b:=fun z=>AW z.2) ?_ ?_ fun z U=>?_
   .show some (Su (L2.BN (Tr.of (AH n))) (ws.map AW))=_;rw[HD,zip_map]
   .rw[List.length_zip];unfold D0
    lia
   .have Y:=(List.of_mem_zip U).1;have T:=(List.of_mem_zip U).2;have hk:=(D6 n hn).2 _ Y;refine Ah (xs:=[AW z.2,AW (p^z.1.AI)]) (BH rfl (BH (Ah (xs:=[AW p,.int (z.1.AI:Nat)]) (BH rfl (BH (Ah (xs:=[.tuple (L2.BN z.1)]) rfl (yY _ (Fd hn Y))) rfl)) (uU Z AC)) rfl)) ?_;exact l6 ((hw _ T).mono) ((Yl Z _).mono AC)
  have e':M6 (CV (Fw 1 2) Ee (AU mT (AB (nm 2) (AB (AU (CS Xj) (AB (nm 3) (AB (AU (AX 9) iS) AG))) AG))) [none,none,none,some 1] (HN zip2 (AB (nm 2) Db))) [.d (Aj ws),.d (AW p),.d dO]=some (.rn ((M1 n ws p).map AW)):=by
   show(CV _ _ _ _ _ _).map _=_;rw[e];unfold M1;rw[(Ed)];rfl
  exact TC e'
def L9(n:Nat)(ws:zH):zH:=M1 n ws (-1)
noncomputable abbrev ly(R g:AD):List PD->Option Xr:=Bc (ig R g) (gp R g)
def gP{n:Nat}(hn:n<=5){a b:zH}(ha:a.length=CU n)(U:b.length=CU n)(sa:Ia a)(T:Ia b)(h0:∀t∈AH n,En a b t=0)(R g:AD):ly R g [Aj a]=some (.inl (Aj (L9 n b))):=by
 refine Q4 rfl ?_;unfold Js;have e1:CP (ER Db) (gp R g) [.d (Aj a)]=some (.inl (Aj b)):=vc hn ha U sa T h0 R g;have Y:DY (CP (ER Db) (gp R g)) (ER (AB (BA (AB (Py By) (AB By AG))) AG)) [.d (Aj a)]=some (.inl [Aj b,AW (-1)]):=by unfold DY;rw[e1];rfl
 have hf:∀q∈b,FM.Fits q 300:=fun q hq=>by
  obtain⟨i,hi⟩:=ag.mp hq;have hil:i<b.length:=(aD.mp hi).1;have h17:=OO hn;have h5:(AH 5).length=17:=(D6 5 AT).1;have Z:(AH 5)[i]? = some ((AH 5)[i]' AC):=aG _;rw[<-VU Z hi];exact(T.ZA _).mono
 have e:CP (DY (CP (ER Db) (gp R g)) (ER (AB (BA (AB (Py By) (AB By AG))) AG))) (ig R g) [.d (Aj a)]=some (.inl (Aj (L9 n b))):=by
  unfold CP at Y ⊢;rw[Y];exact WB hn U hf ⟨by decide,by decide⟩ R g
 show(CP _ _ [.d (Aj a)]).map _=_;rw[e]
 rfl
def mP(U:Ps):Ps:=Yq fun t=>SJ [] (if t.AI % 2=0 then 1 else -1) (HR U t)
def cn:∀k,k<=5->(-1:Rat)^k=(((if k % 2=0 then 1 else -1:Int)):Rat):=by
 intro k h;rcases k with _|_|_|_|_|_|k
 .kernel_rfl
 .kernel_rfl
 .kernel_rfl
 .kernel_rfl
 .kernel_rfl
 .kernel_rfl
 .lia
def lU{n:Nat}(hn:n<=5)(x:Tm)(U:Ps):L9 n (A1 n x U)=A1 n x (mP U):=by
 unfold L9 M1 A1;have:∀l:List Tr,l.zip (l.map fun t=>Bv x (HR U t))=l.map fun t=>(t,Bv x (HR U t)):=fun l=>by
  induction l with
  |nil=>rfl
  |cons t l R=>rw[(A2),(NT),R];rfl
 rw[this,(Ed)];refine ah fun t g=>?_;have T:=(D6 n hn).2 t g;show Bv x (HR U t)*(-1)^t.AI=Bv x (HR (mP U) t);unfold mP;rw[hU _ (Fd hn g),Qw,cn _ T.2.1];show _=_*1*_;rw[(Kz),Rat.mul_comm]
abbrev tJ:MD:=El gM
def sZ{p q:Rat}(R:FM.Fits p 190)(g:FM.Fits q 190):tJ [AW p,AW q]=some (AW (p+q)):=by
 refine Cy rfl ?_;unfold Tj;refine GO (Ah (xs:=[.int (p.num*q.den+q.num*p.den),.int ((p.den:Int)*q.den)]) (BH (Az (x:=.int (p.num*q.den)) (y:=.int (q.num*p.den)) (Az (x:=.int p.num) (y:=.int (q.den:Int)) rfl rfl (YS R.1 g.d AT)) (Az (x:=.int q.num) (y:=.int (p.den:Int)) rfl rfl (YS g.1 R.d AT)) rfl) (BH (Az (x:=.int (p.den:Int)) (y:=.int (q.den:Int)) rfl rfl (YS R.d g.d AT)) rfl)) ?_);refine(gF (FM.Nt p q) (aH (FM.dd R g) (aZ AT AT))).trans ?_;rw[FM.tT]
def jG(p q:Rat):PyData.eqv (AW p) (AW q)=decide (p=q):=by
 by_cases h:p=q
 .subst h;rw[decide_eq_true rfl];exact OW _ (VV p)
 .rw[decide_eq_false h];refine bV.mpr fun z=>h ?_;unfold AW at z;simp[PyData.eqv,PyData.eqvAll]at z;exact FM.mz z.1 AC
def Z9(p q:Rat):EU true (AW p) (AW q)=some (.bool (!decide (p=q))):=by
 refine(if_pos ⟨(UH p).shaped AT,(UH q).shaped AT⟩).trans ?_;rw[jG];rfl
def Td:Option Tr->PD
 |none=>.none
 |some t=>tD t
def L6:List Tr->List Rat->List Rat->Option Tr
 |t::ts,w::g,v::vs=>if w=v then L6 ts g vs else some t
 |_,_,_=>none
theorem b6:∀ {ts:List Tr} {ws vs:List Rat} {t:Tr},L6 ts ws vs=some t->t∈ts
 |[],_,_,_,h=>by cases h
 |_::_,[],[],_,h=>by cases h
 |_::_,[],_::_,_,h=>by cases h
 |_::_,_::_,[],_,h=>by cases h
 |s::ts,w::ws,v::vs,t,h=>by
  unfold L6 at h;split at h
  .exact .tail _ (b6 h)
  .cases h;exact .head _
abbrev Nh:DF:=GG (CT (EU true) (nm 4) (nm 5)) (Bd (nm 3)) C9
abbrev cg(ts:List Tr)(ws vs:List Rat)(δ:Dv):Option Ou:=Mb (ZE 3 4 5) Nh (My (ts.map tD) (ws.map AW) (vs.map AW)) δ
def Yr{t:Tr}{ts:zK}{w v:Rat}{ws vs:zH}(a b c d e f:L)(h:w=v):cg (t::ts) (w::ws) (v::vs) [a,b,c,d,e,f]=cg ts ws vs [a,b,c,.d (tD t),.d (AW w),.d (AW v)]:=by
 have R:Nh [a,b,c,.d (tD t),.d (AW w),.d (AW v)]=some (.nx [a,b,c,.d (tD t),.d (AW w),.d (AW v)]):=DB (Cw (x:=AW w) (y:=AW v) rfl rfl ((Z9 w v).trans (by rw[decide_eq_true h];rfl))) rfl;show(match Nh [a,b,c,.d (tD t),.d (AW w),.d (AW v)]with|some (.nx g)=>_|some (.ct g)=>_|some (.bk g)=>_|some (.rt x)=>_|some (.rn x)=>_|none=>_)=_;rw[R];rfl
def gQ{t:Tr}{ts:zK}{w v:Rat}{ws vs:zH}(a b c d e f:L)(h:w≠v):cg (t::ts) (w::ws) (v::vs) [a,b,c,d,e,f]=some (.rt (tD t)):=by
 have R:Nh [a,b,c,.d (tD t),.d (AW w),.d (AW v)]=some (.rt (tD t)):=Ka (Cw (x:=AW w) (y:=AW v) rfl rfl ((Z9 w v).trans (by rw[decide_eq_false h];rfl))) rfl;show(match Nh [a,b,c,.d (tD t),.d (AW w),.d (AW v)]with|some (.nx g)=>_|some (.ct g)=>_|some (.bk g)=>_|some (.rt x)=>_|some (.rn x)=>_|none=>_)=_;rw[R]
theorem Z3:∀ {ts:List Tr} {ws vs:List Rat} {t:Tr} (a b c d e f:L),L6 ts ws vs=some t->cg ts ws vs [a,b,c,d,e,f]=some (.rt (tD t))
 |[],_,_,_,_,_,_,_,_,_,h=>by cases h
 |_::_,[],[],_,_,_,_,_,_,_,h=>by cases h
 |_::_,[],_::_,_,_,_,_,_,_,_,h=>by cases h
 |_::_,_::_,[],_,_,_,_,_,_,_,h=>by cases h
 |s::ts,w::ws,v::vs,t,a,b,c,d,e,f,h=>by
  unfold L6 at h;split at h
  .rename_i z;rw[Yr a b c d e f z];exact Z3 a b c _ _ _ h
  .rename_i z;cases h;exact gQ a b c d e f z
theorem cP:∀ {ts:List Tr} {ws vs:List Rat} (a b c d e f:L),L6 ts ws vs=none->∃δ',cg ts ws vs [a,b,c,d,e,f]=some (.nx δ')
 |[],_,_,_,_,_,_,_,_,_=>⟨_,rfl⟩
 |_::_,[],[],_,_,_,_,_,_,_=>⟨_,rfl⟩
 |_::_,[],_::_,_,_,_,_,_,_,_=>⟨_,rfl⟩
 |_::_,_::_,[],_,_,_,_,_,_,_=>⟨_,rfl⟩
 |s::ts,w::ws,v::vs,a,b,c,d,e,f,h=>by
  unfold L6 at h;split at h
  .rename_i z;rw[Yr a b c d e f z];exact cP a b c _ _ _ h
  .cases h
def first_is(n:Nat)(ws vs:zH)(Y:(AH n).length<=ws.length)(U:(AH n).length<=vs.length):CY [Ap n,Aj ws,Aj vs]=some (Td (L6 (AH n) ws vs)):=by
 refine Cy rfl ?_;unfold Np;have T:HN VB (AB eG (AB KK PU)) [.d dO,.d (Aj ws),.d (Aj vs),.no,.no,.no]=some (My ((AH n).map tD) (ws.map AW) (vs.map AW)):=by
  show(if(L2.BN (Tr.of (AH n))).length<=(ws.map AW).length/\(L2.BN (Tr.of (AH n))).length<=(vs.map AW).length then some (My (L2.BN (Tr.of (AH n))) (ws.map AW) (vs.map AW)) else none)=_;rw[HD,if_pos ⟨by rw[(BJ),(BJ)];exact Y,by rw[(BJ),(BJ)];exact U⟩]
 have g:FH (HN VB (AB eG (AB KK PU))) (ZE 3 4 5) Nh [.d dO,.d (Aj ws),.d (Aj vs),.no,.no,.no]=cg (AH n) ws vs [.d dO,.d (Aj ws),.d (Aj vs),.no,.no,.no]:=by
  show(HN VB _ _).bind _=_;rw[T];rfl
 cases h:L6 (AH n) ws vs with
 |some t=>exact Hm (g.trans (Z3 _ _ _ _ _ _ h))
 |none=>
  obtain⟨R,k⟩:=cP (.d dO) (.d (Aj ws)) (.d (Aj vs)) .no .no .no h;exact Al (g.trans k) rfl
def vF{a b:yw}{δ:Dv}(h:a δ=some false):X8 a b δ=some false:=by show(a δ).bind _=_;rw[h];rfl
def sk{a b:yw}{δ:Dv}{q:Option Bool}(h:a δ=some true)(k:b δ=q):X8 a b δ=q:=by show(a δ).bind _=_;rw[h];exact k
abbrev pZ:MD:=BO 9
abbrev sf:MD:=Bn pZ 9
abbrev mF:MD:=AX 9
abbrev cA:MD:=BS mF 9
def wq(t:Tr):Rat:=Rat.divInt 1 (t.Kx:Int)
def fi(t:Tr):Bool:=(match sf [tD t]with|some (.int a)=>decide (a=(t.Kx:Int))|_=>false)&&(match cA [tD t]with|some (.int a)=>decide (a=(t.Kx:Int))|_=>false)&&(match pZ [tD t]with|some (.int a)=>decide (a=(t.AI:Int))|_=>false)&&(match mF [tD t]with|some (.int a)=>decide (a=(t.AI:Int))|_=>false)&&decide ((wq t).num=1)&&decide ((wq t).den=t.Kx)&&decide (t.Kx<2^13)&&SeqAt.shaped UF&&PyData.eqv UF UF
def jE:(AH 5).all fi=true:=by decide +kernel
def isInt{o:y7}{z:Int}(h:(match o with|some (.int a)=>decide (a=z)|_=>false)=true):o=some (.int z):=by
 split at h
 .rw[of_decide_eq_true h]
 .cases h
def Ll{t:Tr}(h:t∈AH 5):sf [tD t]=some (.int (t.Kx:Int))/\cA [tD t]=some (.int (t.Kx:Int))/\pZ [tD t]=some (.int (t.AI:Int))/\mF [tD t]=some (.int (t.AI:Int))/\AW (wq t)=.tuple [.int 1,.int (t.Kx:Int)]/\FM.Fits (wq t) 13/\SeqAt.shaped UF=true/\PyData.eqv UF UF=true:=by
 have:=aL.mp jE t h;unfold fi at this;simp only[Bool.and_eq_true]at this;obtain⟨⟨⟨⟨⟨⟨⟨⟨h1,h2⟩,h3⟩,Z⟩,R⟩,g⟩,T⟩,Y⟩,U⟩:=this;have R:=aP R;have g:=aP g;have T:=aP T;refine⟨isInt h1,isInt h2,isInt h3,isInt Z,?_,⟨?_,?_⟩,Y,U⟩
 .unfold AW;rw[R,g]
 .rw[R];decide
 .rw[g];exact T
abbrev Mo(n:Nat):List Rat:=(AH n).map wq
def Zo{n:Nat}(h:n<=5):(Mo n).length=CU n:=by rw[(BJ),(D6 n h).1]
def sj{n:Nat}(h:n<=5):CU n<=85:=by
 rcases n with _|_|_|_|_|_|_|_|n<;>first|decide|lia
def o8{m:MD}{n:Nat}(hn:n<=5)(hm:∀t∈AH 5,m [tD t]=some (.int (t.Kx:Int))){δ:Dv}{fs:yt}(U:fs δ=some (L2.BN (Tr.of (AH n)))):CV (Cm 1) Ee (BA (AB By (AB (AU m iS) AG))) [none,none] fs δ=some ((Mo n).map AW):=by
 have key:∀ts:List Tr,(∀t∈ts,t∈AH 5)->collect (Gq (Cm 1) Ee (BA (AB By (AB (AU m iS) AG))) (B9 [none,none] δ)) (ts.map tD)=some ((ts.map wq).map AW):=by
  intro ts g
  induction ts with
  |nil=>rfl
  |cons t ts T=>
   have R:=g t Fa;have Z:BA (AB By (AB (AU m iS) AG)) ((B9 [none,none] δ).set 1 (.d (tD t)))=some (AW (wq t)):=by
    rw[(Ll R).2.2.2.2.1];exact Nd (BH rfl (BH (Ah (xs:=[tD t]) rfl (hm t R)) rfl)) (by show(2:Nat)<=D0;decide)
   have h1:Gq (Cm 1) Ee (BA (AB By (AB (AU m iS) AG))) (B9 [none,none] δ) (tD t)=some (some (AW (wq t))):=by
    unfold Gq Cm;rw[(F3)];show(some true).bind _=_;rw[(F3),if_pos rfl,Z]
    rfl
   rw[(A2)];unfold L2.collect;rw[h1,(F3),T fun u Y=>g u (.tail _ Y)]
   rfl
 unfold CV;rw[U,(F3),HD,key _ fun t R=>Fd hn R,(F3),LB,if_pos];rw[(BJ),Zo hn];have:=sj hn;unfold D0
 lia
def vD{n:Nat}(hn:n<=5):B1 cA [Ap n]=some (Aj (Mo n)):=by
 refine mV rfl ?_;unfold Nl;show(CV _ _ _ _ _ _).map _=_;have:=o8 (δ:=Je ["trees"] [Ap n]) (fs:=D4 eG) hn (fun t h=>(Ll h).2.1) rfl;rw[this]
 rfl
abbrev wc(C:AD):List PD->Option Xr:=Cd (IC C) (B1 cA)
def sM{n:Nat}(hn:n<=5)(C:AD):wc C [.int (n:Nat)]=some (.inl (Aj (Mo n))):=by
 refine Q4 rfl ?_;unfold Ms;have T:CP (ER Db) (IC C) [.d T1]=some (.inl dO):=Qt hn C;have R:DY (CP (ER Db) (IC C)) (ER AG) [.d T1]=some (.inl [Ap n]):=by
  unfold DY;rw[T]
  rfl
 have g:CP (DY (CP (ER Db) (IC C)) (ER AG)) (fun U=>(B1 cA U).map .inl) [.d T1]=some (.inl (Aj (Mo n))):=by
  show(match DY (CP (ER Db) (IC C)) (ER AG) [.d T1]with|some (.inl xs)=>_|some (.inr C)=>_|none=>_)=_;rw[R];show(B1 cA [Ap n]).map _=_;rw[vD hn]
  rfl
 show xE _ _ [.d T1]=_;unfold xE;rw[g]
 rfl
def wX(n:Nat):Option Tr->PD
 |none=>.tuple [.int (n:Nat),.none]
 |some t=>.tuple [.int ((t.AI:Int)-1),tD t]
abbrev rN(R g:AD):MD:=Bp CY mF (IC g) (wc g) (FE R)
def vX{n:Nat}(hn:n<=5){ws:zH}(R:ws.length=CU n)(T g:AD):rN T g [Aj ws]=some (wX n (L6 (AH n) ws (Mo n))):=by
 refine Cy rfl ?_;unfold MB;refine Al (Cz (y:=.int (n:Nat)) (Ah (xs:=[Aj ws]) rfl (Iy (Mg hn R T)))) ?_;refine Al (Cz (y:=Td (L6 (AH n) ws (Mo n))) (Ah (xs:=[Ap n,Aj ws,Aj (Mo n)]) (BH (Ah (xs:=[.int (n:Nat)]) rfl (Iy (Qt hn g))) (BH rfl (BH (Ah (xs:=[.int (n:Nat)]) rfl (Iy (sM hn g))) rfl))) (first_is n ws (Mo n) (by rw[R,(D6 n hn).1];exact aJ _) (by rw[Zo hn,(D6 n hn).1];exact aJ _)))) ?_;cases h:L6 (AH n) ws (Mo n) with
 |none=>exact Hm (Ka (Cw (x:=.none) (y:=.none) rfl rfl rfl) rfl)
 |some t=>
  have U:=Ll (Fd hn (b6 h));refine Al (DB (Cw (x:=tD t) (y:=.none) rfl rfl rfl) rfl) ?_;exact GO (Nd (BH (Az (x:=.int (t.AI:Int)) (y:=.int 1) (Ah (xs:=[tD t]) rfl U.2.2.2.1) rfl rfl) (BH rfl rfl)) (by show(2:Nat)<=D0;decide))
def sg(u:Tr):Rat:=if u.AI % 2=0 then 1 else -1
def lQ(u:Tr):sg u*sg u=1:=by
 unfold sg;split<;>grind
def pD{u:Tr}(h:u.AI<=5):(-1:Rat)^u.AI=sg u:=by
 rw[cn _ h];unfold sg;split<;>rfl
def mid(t:Tr):List OC:=(rest t).filter fun c=>!decide (c.1=none)
def a8:((AH 5).all fun t=>decide ((rest t).filter (fun c=>decide (c.1=none))=[(none,[t])])&&(mid t).all fun c=>(match c.1 with|none=>false|some u=>decide (u∈AH 5)&&decide (u.AI<t.AI))&&c.2.all fun p=>decide (p∈AH 5)&&decide (p.AI<t.AI))=true:=by decide +kernel
def ZI(a b:zH){t:Tr}(g:t∈AH 5):En a b t=Av b t+(Av a t+((mid t).map (Gn a b)).sum):=by
 have e:=O3 (fun c:OC=>decide (c.1=some t)) (Gn a b) (Dc t);rw[(fB g).1]at e;have U:((Dc t).filter fun x=>!decide (x.1=some t))=rest t:=List.filter_congr fun c _=>by simp
 rw[U]at e;have f:=O3 (fun c:OC=>decide (c.1=none)) (Gn a b) (rest t);have h:=aL.mp a8 t g;rw[(Dk)]at h;rw[of_decide_eq_true h.1]at f;have T:(([(some t,[])]:List OC).map (Gn a b)).sum=Av b t:=by
  show Av b t*1+0=_;rw[(Kz),Rat.add_zero]
 have R:(([(none,[t])]:List OC).map (Gn a b)).sum=Av a t:=by
  show 1*(Av a t*1)+0=_;rw[(Kz),Rat.add_zero,Rat.one_mul]
 rw[T,f,R]at e;exact e
def qH{t:Tr}(R:t∈AH 5){c:OC}(U:c∈mid t):(∃u,c.1=some u/\u∈AH 5/\u.AI<t.AI)/\∀p∈c.2,p∈AH 5/\p.AI<t.AI:=by
 have h:=aL.mp a8 t R;rw[(Dk)]at h;have g:=aL.mp h.2 c U;rw[(Dk)]at g;refine⟨?_,fun p T=>?_⟩
 .cases e:c.1 with
  |none=>rw[e]at g;simp at g
  |some u=>
   rw[e]at g;have:=g.1;rw[(Dk),decide_eq_true_eq,decide_eq_true_eq]at this;exact⟨u,rfl,this⟩
 .have:=aL.mp g.2 p T
  rwa [Bool.and_eq_true,decide_eq_true_eq,decide_eq_true_eq]at this
def VH:∀n,n<=5->(∀u∈AH n,u.AI<=n)/\(∀u∈AH 5,u.AI<=n->u∈AH n)/\(AH n).Pairwise fun u v=>u.AI<=v.AI:=by decide +kernel
def Qx{n:Nat}(hn:n<=5)(f:Tr->Rat){u:Tr}(g:u∈AH n):Av ((AH n).map f) u=f u:=by
 obtain⟨i,hi⟩:=ag.mp g;exact VU (Mk hn hi) (by rw[(CD),hi];rfl)
abbrev rL:List Rat:=(AH 5).map fun u=>sg u*wq u
def uC:((AH 5).all fun t=>decide (En (Mo 5) rL t=0))=true:=by decide +kernel
def jw{a b c d:zH}{t:Tr}(Y:t∈AH 5)(ha:∀u∈AH 5,u.AI<t.AI->Av a u=Av c u)(Z:∀u∈AH 5,u.AI<t.AI->Av b u=Av d u):((mid t).map (Gn a b)).sum=((mid t).map (Gn c d)).sum:=by
 congr 1
 refine ah fun z T=>?_;obtain⟨⟨u,U,h1,h2⟩,R⟩:=qH Y T;unfold Gn;rw[U];show Av b u*_=Av d u*_;rw[Z u h1 h2]
 congr 2
 exact ah fun p g=>ha p (R p g).1 (R p g).2
section
variable{n:Nat}(hn:n<=5){a b:zH}(h0:∀t∈AH n,En a b t=0)
include hn h0
def Yi{k:Nat}(ha:∀u∈AH n,u.AI<k->Av a u=wq u)(hb:∀u∈AH n,u.AI<k->Av b u=sg u*wq u){t:Tr}(Y:t∈AH n)(hk:t.AI=k):Av b t+Av a t=sg t*wq t+wq t:=by
 have R:=Fd hn Y;have c1:=ZI a b R;have Z:=ZI (Mo 5) rL R;rw[h0 t Y]at c1;rw[of_decide_eq_true (aL.mp uC t R)]at Z;have T:∀u∈AH 5,u.AI<t.AI->u∈AH n:=fun u g U=>(VH n hn).2.1 u g (by have:=(VH n hn).1 t Y;lia);rw[jw R (c:=Mo 5) (d:=rL) (fun u g U=>by rw[ha u (T u g U) AC,Qx AT _ g]) fun u g U=>by rw[hb u (T u g U) AC,Qx AT _ g]]at c1;rw[Qx AT _ R,Qx AT _ R]at Z
 grind
theorem Vd:∀k,(∀u∈AH n,u.AI<k->Av a u=wq u)->∀u∈AH n,u.AI<k->Av b u=sg u*wq u
 |0,_,u,_,h=>absurd h (av _)
 |k+1,ha,u,R,h=>by
  have g:∀v∈AH n,v.AI<k->Av a v=wq v:=fun v U Y=>ha v U AC;have T:=Vd k g;rcases Nat.lt_or_ge u.AI k with z|z
  .exact T u R z
  .have:=Yi hn h0 g T R AC;rw[ha u R h]at this
   grind
def Uh(T:b.length=CU n){t:Tr}(g:t∈AH n)(ha:∀u∈AH n,u.AI<t.AI->Av a u=wq u):Av (L9 n b) t-wq t=- sg t*(Av a t-wq t):=by
 have e:=Yi hn h0 ha (Vd hn h0 _ ha) g rfl;have em:Av (L9 n b) t=Av b t*sg t:=by
  have hm:L9 n b=(AH n).map fun u=>Av b u*(-1)^u.AI:=by
   unfold L9 M1
   conv=>lhs;rw[<-Wq hn T]
   have:∀l:List Tr,(l.zip (l.map (Av b))).map (fun z=>z.2*(-1)^z.1.AI)=l.map fun u=>Av b u*(-1)^u.AI:=fun l=>by
    induction l with
    |nil=>rfl
    |cons u l R=>rw[(A2),(NT),(A2),(A2),R]
   exact this _
  rw[hm,Qx hn _ g,pD (by have:=(VH n hn).1 t g;lia)]
 rw[em];have:=lQ t
 grind
end
def iV{l:zK}{p q:Tr->Bool}(T:l.Pairwise fun u v=>u.AI<=v.AI)(h:∀t∈l,(∀u∈l,u.AI<t.AI->p u=false)->p t=q t):l.find? p=l.find? q:=by
 have go:∀(post pre:List Tr),l=pre++post->(∀u∈pre,p u=false)->post.find? p=post.find? q:=fun post=>by
  induction post with
  |nil=>intro _ _ _;rfl
  |cons t post Y=>
   intro pre e U;have hl:∀u∈l,u.AI<t.AI->p u=false:=fun u g hlt=>by
    rw[e]at g T;rcases ay.mp g with z|z
    .exact U u z
    .rcases aM.mp z with rfl|z
     .lia
     .have:=(bY.mp (List.pairwise_append.mp T).2.1).1 u z
      lia
   have Z:=h t (by rw[e];exact aV _ Fa) hl;rw[(P0),(P0),<-Z];cases R:p t with
   |true=>rfl
   |false=>
    refine Y (pre++[t]) (by rw[e,(VI)];rfl) fun u g=>?_;rcases ay.mp g with z|z
    .exact U u z
    .rw[List.mem_singleton.mp z];exact R
 exact go l [] rfl fun u g=>nomatch g
def Yw{l:zK}{p:Tr->Bool}(R:l.Pairwise fun u v=>u.AI<=v.AI){t:Tr}(h:l.find? p=some t):p t=true/\t∈l/\∀u∈l,u.AI<t.AI->p u=false:=by
 obtain⟨Y,as,bs,e,U⟩:=List.find?_eq_some_iff_append.mp h;refine⟨Y,List.mem_of_find?_eq_some h,fun u g T=>?_⟩;rw[e]at g R;rcases ay.mp g with z|z
 .simpa using U u z
 .rcases aM.mp z with rfl|z
  .lia
  .have:=(bY.mp (List.pairwise_append.mp R).2.1).1 u z
   lia
def IH(a:zH)(u:Tr):Bool:=!decide (Av a u=wq u)
def W6{a:zH}{u:Tr}(h:IH a u=false):Av a u=wq u:=by
 unfold IH at h
 simpa using h
def pK{a:zH}{u:Tr}(h:IH a u=true):Av a u≠wq u:=by
 unfold IH at h
 simpa using h
theorem W7(f g:Tr->Rat):∀ts:List Tr,L6 ts (ts.map f) (ts.map g)=ts.find? fun u=>!decide (f u=g u)
 |[]=>rfl
 |u::ts=>by
  show(if f u=g u then L6 ts (ts.map f) (ts.map g) else some u)=_;rw[(P0),W7 f g ts];by_cases h:f u=g u
  .rw[if_pos h,decide_eq_true h];rfl
  .rw[if_neg h,decide_eq_false h];rfl
def rj{n:Nat}(hn:n<=5){a:zH}(ha:a.length=CU n):L6 (AH n) a (Mo n)=(AH n).find? (IH a):=by
 conv=>lhs;rw[<-Wq hn ha]
 exact W7 _ _ _
def gn{n:Nat}(hn:n<=5){a b:zH}(h0:∀t∈AH n,En a b t=0)(Y:b.length=CU n):(AH n).find? (IH (L9 n b))=(AH n).find? (IH a):=by
 refine(iV (VH n hn).2.2 fun t T U=>?_).symm;have:=Uh hn h0 Y T fun u R g=>W6 (U u R g);have Z:=lQ t;unfold IH
 congr 1
 refine decide_eq_decide.mpr ⟨fun e=>?_,fun e=>?_⟩<;>rw[e]at this<;>grind
def nr{c b:Int}(Y:1<=c)(Z:1<=b):FX c b=(Int.lcm c b:Int):=by
 have R:FM.gi c b≠0:=Int.ne_of_gt (FM.N9 AC);obtain⟨q,g⟩:=FM.NS c b;unfold FX;rw[FM.Gj R g];have h:=Int.gcd_mul_lcm c b;have U:(FM.gi c b)*(Int.lcm c b:Int)=c*b:=by
  have:((Int.gcd c b*Int.lcm c b:Nat):Int)=((c*b).natAbs:Int):=by rw[h,(QV)]
  rw[Int.natCast_mul,Int.natAbs_of_nonneg (Int.mul_nonneg AC AC)]at this;exact this
 have T:FM.gi c b*(q*b)=FM.gi c b*(Int.lcm c b:Int):=by
  rw[U,<-Int.mul_assoc,<-g]
 exact Int.eq_of_mul_eq_mul_left R T
theorem cY{n:Nat}:∀(bs:List Int) (c:Int),1<=c->c ∣ (n:Int)->(∀b∈bs,1<=b/\b ∣ (n:Int))->bs.foldl FX c ∣ (n:Int)
 |[],c,_,h,_=>h
 |b::bs,c,g,h,k=>by
  obtain⟨b1,b2⟩:=k b aX;obtain⟨s1,_,_,_⟩:=S4 g b1;refine cY bs (FX c b) s1 ?_ fun y R=>k y (aS _ R);rw[nr g b1];exact Int.ofNat_dvd.mpr (Int.lcm_dvd h b2)
def wx{d:Nat}(h0:d≠0)(g:d<=6):(d:Int) ∣ ((60:Nat):Int):=by
 match d,h0,g with
 |1,_,_=>exact⟨60,by decide⟩
 |2,_,_=>exact⟨30,by decide⟩
 |3,_,_=>exact⟨20,by decide⟩
 |4,_,_=>exact⟨15,by decide⟩
 |5,_,_=>exact⟨12,by decide⟩
 |6,_,_=>exact⟨10,by decide⟩
def fits_of{t:Tb}(s:t.Sm):t.Fits 3:=⟨fun r R q g=>(s.1 r R q g).1,fun q g=>(s.2 q g).1⟩
def vN{t:Tb}(o:t.Ok 4)(s:t.Sm):t.Wu:=vq o AT (fits_of s) AT AT
def um{t:Tb}(s:t.Sm):Et t ∣ 60:=by
 refine cY (n:=60) (IA t t.rs.length) 1 AT ⟨60,by decide⟩ fun b R=>?_;have T:∀q:Rat,Y9 q->1<=(q.den:Int)/\(q.den:Int) ∣ ((60:Nat):Int):=fun q g=>⟨by have:=q.den_nz;lia,wx q.den_nz g.2⟩;unfold IA GA at R;rcases ay.mp R with h|h
 .obtain⟨q,g,rfl⟩:=aQ.mp h;exact T q (s.2 q g)
 .obtain⟨l,Y,R⟩:=List.mem_flatten.mp h;obtain⟨r,U,rfl⟩:=aQ.mp Y;obtain⟨q,g,rfl⟩:=aQ.mp R;exact T q (s.1 r (bT U) q g)
def kU{t:Tb}(o:t.Ok 4)(s:t.Sm)(u:Tr):Dw (60^u.AI) (2^(21*u.AI)) (NW t u):=by
 obtain⟨b1,_,b3⟩:=Zj (fits_of s) o;obtain⟨c,R⟩:=um s;have hle:Et t<=60:=Int.le_of_dvd AT ⟨c,R⟩;have Z:1<=c:=by
  rcases Int.lt_or_le 0 c with z|z
  .exact z
  .have:=Int.mul_nonpos_of_nonneg_of_nonpos (show 0<=Et t by lia) z
   lia
 have T:c<=60:=Int.le_of_dvd AT ⟨Et t,by rw[Int.mul_comm];exact R⟩;have U:Kk (FK t) 15:=XZ (k:=6) o AT (fits_of s) b1 AC b3 AT;have sz:=Zt U u;have Y:((FR (FK t) u).getLast?.getD 0).natAbs<=2^(15*u.AI):=by
  cases h:(FR (FK t) u).getLast? with
  |none=>exact az _
  |some z=>exact sz z (List.mem_of_getLast? h)
 unfold NW;have g:c^u.AI≠0:=Int.pow_ne_zero AC;refine⟨(FR (FK t) u).getLast?.getD 0*c^u.AI,?_,?_⟩
 .rw[<-Rat.divInt_mul_right g,<-Int.mul_pow,<-R]
 .rw[(QV),Int.natAbs_pow,show 21*u.AI=15*u.AI+6*u.AI by lia,(NQ)];refine bg Y ?_;rw[Nat.pow_mul];exact Nat.pow_le_pow_left AC _
abbrev wD(t:Tb):List Rat:=(AH 5).map (NW t)
def xW(t:Tb)(i:Nat):Rat:=(wD t).getD i 0
def yW(t:Tb)(i:Nat):Rat:=xW t i*Rat.divInt 1 2^JS i
theorem iE:∀k:Nat,Dw (2^k) 1 (Rat.divInt 1 2^k)
 |0=>⟨1,by kernel_rfl,by decide⟩
 |k+1=>by
  rw[Rat.pow_succ,Int.pow_succ];exact(iE k).mul (d:=1) ⟨1,rfl,by decide⟩
def XA{t:Tb}(o:t.Ok 4)(s:t.Sm)(i:Nat):Dw (60^JS i) (2^(21*JS i)) (xW t i):=by
 unfold xW;rw[(Er),(CD)];cases h:(AH 5)[i]? with
 |none=>exact .zero
 |some u=>
  have e:JS i=u.AI:=by unfold JS;rw[(Er),h];rfl
  rw[e];exact kU o s u
def vY{t:Tb}(o:t.Ok 4)(s:t.Sm):VY (yW t):=⟨fun i=>by
 have:=(XA o s i).mul (iE (JS i));rw[<-Int.mul_pow]at this;refine this.mono ?_;rw[Nat.mul_one];exact aZ AT AC⟩
def vy{t:Tb}(o:t.Ok 4)(s:t.Sm):VY (xW t):=⟨fun i=>by
 have:=(XA o s i).up (k:=2^JS i) (Int.pow_ne_zero AT);rw[<-Int.mul_pow,Int.natAbs_pow]at this;refine this.mono ?_;show 2^(21*JS i)*2^JS i<=_;rw[<-(NQ)];exact aZ AT AC⟩
theorem Xg(p:Rat)(a:Nat):∀b:Nat,p^(a+b)=p^a*p^b
 |0=>by rw[Nat.add_zero,Rat.pow_zero,(Kz)]
 |b+1=>by rw[<-Nat.add_assoc,Rat.pow_succ,Rat.pow_succ,Xg p a b,(QA)]
theorem XJ(x:Tm)(p:Rat):∀m:Mon,D9 (fun i=>x i*p^JS i) m=D9 x m*p^kM m
 |[]=>by show(1:Rat)=1*p^0;rw[Rat.pow_zero,(Kz)]
 |i::m=>by
  show x i*p^JS i*D9 (fun i=>x i*p^JS i) m=x i*D9 x m*p^(JS i+kM m);rw[XJ x p m,Xg]
  grind
theorem Y7(x:Tm)(p:Rat){k:Nat}:∀ {q:Dr},(∀t∈q,kM t.1=k)->Bv (fun i=>x i*p^JS i) q=Bv x q*p^k
 |[],_=>by show(0:Rat)=0*_;rw[Rat.zero_mul]
 |t::q,h=>by
  show(t.2:Rat)*D9 (fun i=>x i*p^JS i) t.1+Bv (fun i=>x i*p^JS i) q=((t.2:Rat)*D9 x t.1+Bv x q)*p^k;rw[XJ,Y7 x p fun u g=>h u (.tail _ g),h t Fa]
  grind
abbrev rT(P:Ps):Prop:=∀t∈AH 5,Oe (HR P t) t.AI=true
def rg{n:Nat}(hn:n<=5)(t:Tb){P:Ps}(h:rT P):M1 n (A1 n (xW t) P) (Rat.divInt 1 2)=A1 n (yW t) P:=by
 unfold M1 A1;have:∀l:List Tr,l.zip (l.map fun g=>Bv (xW t) (HR P g))=l.map fun g=>(g,Bv (xW t) (HR P g)):=fun l=>by
  induction l with
  |nil=>rfl
  |cons t l R=>rw[(A2),(NT),R];rfl
 rw[this,(Ed)];refine ah fun u T=>?_;exact(Y7 (xW t) (Rat.divInt 1 2) (cW (h u (Fd hn T)))).symm
def wz{n:Nat}(hn:n<=5)(t:Tb):A1 n (xW t) (eC 0)=(AH n).map (NW t):=by
 have w:=ud n (x:=xW t) (k:=0) (ws:=wD t) (by rw[(BJ),(D6 5 AT).1];decide) fun i _=>rfl;refine ah fun u g=>?_;rw[<-w u g];exact Qx AT _ (Fd hn g)
abbrev pX:Ps:=eC 0
abbrev pU:Ps:=vH pX
abbrev pM:Ps:=mP pU
abbrev pB:Ps:=cL pX pM
abbrev pN:Ps:=mP pB
def ya:((AH 5).all fun t=>decide (O8 pX pU t=[]))=true:=by decide +kernel
def yi:((AH 5).all fun t=>decide (O8 pB pN t=[]))=true:=by decide +kernel
def ye:((AH 5).all fun t=>tI (HR (mP pN) t) (HR pB t))=true:=by decide +kernel
def xb:([pX,pU,pM,pB,pN].all fun P=>(AH 5).all fun t=>Oe (HR P t) t.AI)=true:=by decide +kernel
def fD{P:Ps}(h:P∈[pX,pU,pM,pB,pN]):rT P:=fun t g=>aL.mp (aL.mp xb P h) t g
abbrev p8(C:AD):List PD->Option Xr:=CC rD C
def qy{t:Tb}{m:Nat}(o:t.Ok m)(hm:m<=40)(C:AD):p8 C [C8 t]=some (.inl .none):=by
 refine cM (δ:=[.d (C8 t)]) rfl ?_;unfold LH;exact cw (Lm (KJ (Ah (xs:=[C8 t]) rfl (qK o hm)))) rfl
noncomputable abbrev qv(R g:AD):List PD->Option Xr:=CM (p8 R) (IC g) cF
def vZ{t:Tb}(o:t.Ok 4)(h:t.Wu){n:Nat}(hn:n<=5)(R g:AD):qv R g [C8 t,.int (n:Nat)]=some (.inl (Aj ((AH n).map (NW t)))):=by
 refine Q4 rfl ?_;unfold MU;refine J4 (OI (ds:=[C8 t]) rfl (qy o AT R)) (vg (Z8 (xs:=[C8 t,Ap n]) (YX rfl (YX (Z8 (xs:=[.int (n:Nat)]) rfl (Qt hn g)) rfl)) ?_));show(cF [C8 t,wQ (AH n)]).map _=_;rw[tZ h (fun u T=>Fd hn T) (by rw[(D6 n hn).1];have:=OO hn;lia)]
 rfl
def nZ{n:Nat}(hn:n<=5){b:zH}(Z:b.length=CU n)(g:Ia b):∀q∈b,FM.Fits q 300:=fun q T=>by
 obtain⟨i,hi⟩:=ag.mp T;have U:i<b.length:=(aD.mp hi).1;have Y:=OO hn;have h5:(AH 5).length=17:=(D6 5 AT).1;have R:(AH 5)[i]? = some ((AH 5)[i]' AC):=aG _;rw[<-VU R hi];exact(g.ZA _).mono
def qc:AW (Rat.divInt 1 2)=.tuple [.int 1,.int 2]:=by kernel_rfl
def fv{f:yu}{set:Sc}{δ δ':Dv}{x:PD}(h:f δ=some x)(k:set x δ=some δ'):jq f set δ=some (.nx δ'):=by
 show(f δ).bind _=_;rw[h];show(set x δ).map _=_;rw[k];rfl
def W5(n:Nat):Option Tr->Int
 |none=>n
 |some t=>(t.AI:Int)-1
def sS(n:Nat)(o:Ki):wX n o=.tuple [.int (W5 n o),Td o]:=by cases o<;>rfl
abbrev uf:MD:=BV 9
abbrev nO:MD:=B2 uf 9
abbrev Yt:MD:=Ds nO
def ia:(List.range 6).map (fun n=>Yt [.int (n:Nat)])=(List.range 6).map fun n=>some dO:=by kernel_rfl
def jx{n:Nat}(hn:n<=5):Yt [.int (n:Nat)]=some dO:=List.map_inj_left.mp ia n (bX.mpr AC)
abbrev jN:MD:=EI tJ sf
def pO:((List.range 6).all fun n=>(AH n).all fun t=>match N0 dO (tD t) with|some (.int i)=>decide (i=((AH 5).idxOf t:Nat))|_=>false)=true:=by decide +kernel
def u4{n:Nat}(hn:n<=5){t:Tr}(g:t∈AH n):N0 dO (tD t)=some (.int ((AH 5).idxOf t:Nat)):=by
 have:=aL.mp (aL.mp pO n (bX.mpr AC)) t g;split at this
 .rename_i i e;rw[e,of_decide_eq_true this]
 .cases this
def ou:((AH 5).all fun t=>decide ((- wq t).num=-1)&&decide ((- wq t).den=t.Kx))=true:=by decide +kernel
def vR{t:Tr}(g:t∈AH 5):AW (- wq t)=.tuple [.int (-1),.int (t.Kx:Int)]:=by
 have:=aL.mp ou t g;rw[(Dk),decide_eq_true_eq,decide_eq_true_eq]at this;unfold AW;rw[this.1,this.2]
def gT{n:Nat}(hn:n<=5){ws:zH}(hl:ws.length=CU n)(s:Ia ws){t:Tr}(T:t∈AH n):jN [Aj ws,Ap n,tD t]=some (AW (Av ws t-wq t)):=by
 have U:=Fd hn T;obtain⟨i,hi⟩:=ag.mp T;have Z:=Q3 (Mk hn hi);have g:i<ws.length:=by rw[hl,<-(D6 n hn).1];exact(aD.mp hi).1
 have hw:ws[i]? = some (Av ws t):=by rw[List.getElem?_eq_getElem g,VU (Mk hn hi) (aG g)]
 refine Cy rfl ?_;unfold T4;refine Al (Cz (Az (x:=Ap n) (y:=tD t) rfl rfl (u4 hn T))) ?_;have Y:=(Ll U).2.2.2.2.2.1;have R:FM.Fits (- wq t) 190:=by
  have:FM.Fits (- wq t) 13:=⟨by rw[Rat.neg_num,Int.natAbs_neg];exact Y.1,by rw[Rat.neg_den];exact Y.2⟩;exact this.mono
 refine GO (Ah (xs:=[AW (Av ws t),AW (- wq t)]) (BH (Az (x:=Aj ws) (y:=.int ((AH 5).idxOf t:Nat)) rfl rfl (Zw ?_)) (BH ?_ rfl)) ?_)
 .rw[Z,(CD),hw];rfl
 .rw[vR U];exact Nd (xs:=[.int (-1),.int (t.Kx:Int)]) (BH rfl (BH (Ah (xs:=[tD t]) rfl (Ll U).1) rfl)) (by show(2:Nat)<=D0;decide)
 .rw[Rat.sub_eq_add_neg];exact sZ (s.ZA t) R
abbrev jJ:MD:=Es gM
def sJ{p q:Rat}(R:FM.Fits p 190)(g:FM.Fits q 190):jJ [AW p,AW q]=some (AW (p*q)):=by
 refine Cy rfl ?_;unfold Tn;refine GO (Ah (xs:=[.int (p.num*q.num),.int ((p.den:Int)*q.den)]) (BH (Az (x:=.int p.num) (y:=.int q.num) rfl rfl (YS R.1 g.1 AT)) (BH (Az (x:=.int (p.den:Int)) (y:=.int (q.den:Int)) rfl rfl (YS R.d g.d AT)) rfl)) ?_);refine(gF (FM.Nt p q) (aH (FM.dd R g) (aZ AT AT))).trans ?_;rw[FM.Sh]
def ip{u:Tr}(h:1<=u.AI):(((u.AI:Int)-1) % 2=0/\- sg u=1)\/(((u.AI:Int)-1) % 2=1/\- sg u=-1):=by
 unfold sg;by_cases z:u.AI % 2=0
 .rw[if_pos z];exact .inr ⟨by lia,rfl⟩
 .rw[if_neg z];exact .inl ⟨by lia,by grind⟩
noncomputable abbrev rS(R g U T:AD):MD:=lV CZ jJ jN X1 Yt (qv T g) (t8 R g U) (ly R g) (rN R g) (ig R g)
def rM(ns:zA)(T R C3 C4:AD):rS T R C3 C4 [FU ns]=some Jq:=by
 obtain⟨o,s⟩:=qe (Fm ns 0) (Fm ns 1) (most:=4) AT AT;have d0:=nS ns 0 4 AT AT;generalize S6 (Fm ns 0) (Fm ns 1) 4=t at o s d0;have wu:=vN o s;have hc2:=Xo ns 2;generalize Fm ns 2=c2 at hc2;obtain⟨n,en⟩:∃n:Nat,1+c2 % 5=(n:Int):=⟨(1+c2 % 5).toNat,by lia⟩;have hn:n<=5:=by lia
 have U:=fE hn (xW t);have Y:=fE hn (yW t);have sX:∀P∈[pX,pU,pM,pB,pN],Ia (A1 n (xW t) P):=fun P hP=>tM hn (vy o s) (fD hP);have sY:∀P∈[pX,pU,pM,pB,pN],Ia (A1 n (yW t) P):=fun P hP=>tM hn (vY o s) (fD hP);have mX:pX∈[pX,pU,pM,pB,pN]:=.head _;have mU:pU∈[pX,pU,pM,pB,pN]:=.tail _ Fa;have mM:pM∈[pX,pU,pM,pB,pN]:=.tail _ (.tail _ Fa);have mB:pB∈[pX,pU,pM,pB,pN]:=.tail _ (.tail _ (.tail _ Fa));have mN:pN∈[pX,pU,pM,pB,pN]:=.tail _ (.tail _ (.tail _ (.tail _ Fa)));have zX:∀u∈AH n,En Nv (A1 n (xW t) pU) u=0:=gq hn ya (xW t);have zB:∀u∈AH n,En (A1 n (yW t) pB) (A1 n (yW t) pN) u=0:=gq hn yi (yW t);have eM:L9 n (A1 n (xW t) pU)=A1 n (xW t) pM:=lU hn (xW t) pU;have eB:L9 n (A1 n (yW t) pN)=A1 n (yW t) pB:=(lU hn (yW t) pN).trans (xh hn ye (yW t));have g1:good (qv C4 R) [C8 t,.int (n:Nat)]=some (Aj Nv):=Iy ((vZ o wu hn C4 R).trans (by rw[wz hn t]));have g2:good (ly T R) [Aj Nv]=some (Aj (A1 n (xW t) pM)):=Iy ((gP hn (U _) (U _) (sX _ mX) (sX _ mU) zX T R).trans (by rw[eM]));have g3:∀P∈[pX,pU,pM,pB,pN],good (ig T R) [Aj (A1 n (xW t) P),.tuple [.int 1,.int 2]]=some (Aj (A1 n (yW t) P)):=fun P hP=>by
  rw[<-qc];exact Iy ((WB hn (U _) (nZ hn (U _) (sX P hP)) ⟨by decide,by decide⟩ T R).trans (by rw[rg hn t (fD hP)]))
 have g4:good (t8 T R C3) [Aj (A1 n (yW t) pX),Aj (A1 n (yW t) pM)]=some (Aj (A1 n (yW t) pB)):=Iy ((qV hn (Y _) (Y _) (mD (sY _ mX) (sY _ mM)) T R C3).trans (by rw[tR hn]));have g5:good (ly T R) [Aj (A1 n (yW t) pB)]=some (Aj (A1 n (yW t) pB)):=Iy ((gP hn (Y _) (Y _) (sY _ mB) (sY _ mN) zB T R).trans (by rw[eB]));have g6:∀ws:List Rat,ws.length=CU n->rN T R [Aj ws]=some (.tuple [.int (W5 n ((AH n).find? (IH ws))),Td ((AH n).find? (IH ws))]):=fun ws Z=>(vX hn Z T R).trans (by rw[rj hn Z,sS]);have f1:=gn hn zX (U _);rw[eM]at f1;have tw:∀(a b c d e f g h i:L),BA (AB By (AB T9 AG)) [a,b,c,d,e,f,g,h,i]=some (.tuple [.int 1,.int 2]):=fun _ _ _ _ _ _ _ _ _=>rfl;refine Cy rfl ?_;unfold lF;refine Al (Cz (Ah (xs:=[FU ns,.int 0,.int 4]) rfl d0)) ?_;refine Al (Cz (y:=.int (n:Nat)) (Az (x:=.int 1) (y:=.int (c2 % 5)) rfl (Az (x:=.int c2) (y:=.int 5) (Ah (xs:=[FU ns,.int 2]) rfl hc2) rfl (mod_is AT)) (show some (PyData.int (1+c2 % 5))=_ by rw[en]))) ?_;refine Al (Cz (Ah (xs:=[C8 t,.int (n:Nat)]) rfl g1)) ?_;refine Al (Cz (Ah (xs:=[Aj Nv]) rfl g2)) ?_;refine Al (Cz (Ah (xs:=[Aj (A1 n (yW t) pX),Aj (A1 n (yW t) pM)]) (BH (Ah (xs:=[Aj Nv,.tuple [.int 1,.int 2]]) rfl (g3 pX mX)) (BH (Ah (xs:=[Aj (A1 n (xW t) pM),.tuple [.int 1,.int 2]]) rfl (g3 pM mM)) rfl)) g4)) ?_;refine Al (DB (Cw (x:=Aj (A1 n (yW t) pB)) (y:=Aj (A1 n (yW t) pB)) (Ah (xs:=[Aj (A1 n (yW t) pB)]) rfl g5) rfl (ne_self (ui _) AT)) rfl) ?_;refine Al (fv (Ah (xs:=[Aj (A1 n (yW t) pB)]) rfl (g6 _ (Y _))) rfl) ?_;refine Al (DB ?_ rfl) ?_
 .cases hf:(AH n).find? (IH (A1 n (yW t) pB)) with
  |none=>exact vF rfl
  |some u=>
   obtain⟨b1,b2,b3⟩:=Yw (VH n hn).2.2 hf;have ho:=Uh hn zB (Y _) b2 fun v hv Z=>W6 (b3 v hv Z);rw[eB]at ho;have hb:=pK b1;have hk:((u.AI:Int)-1) % 2=0:=by
    rcases ip (Q6 (Fd hn b2)).1 with h|h
    .exact h.1
    .exact absurd (by have:=h.2;grind) hb
   refine sk rfl (Cw (x:=.int 0) (y:=.int 1) (Az (x:=.int ((u.AI:Int)-1)) (y:=.int 2) rfl rfl ((mod_is AT).trans (by rw[hk]))) rfl (Zg _ _))
 refine Al (fv (Ah (xs:=[Aj Nv]) rfl (g6 _ (U _))) rfl) ?_;refine Al (DB (Cw (x:=.int (W5 n ((AH n).find? (IH Nv)))) (y:=.int (W5 n ((AH n).find? (IH Nv)))) (Az (x:=.tuple [.int (W5 n ((AH n).find? (IH Nv))),Td ((AH n).find? (IH Nv))]) (y:=.int 0) (Ah (xs:=[Aj (A1 n (xW t) pM)]) rfl ((g6 _ (U _)).trans (by rw[f1]))) rfl rfl) rfl (UR _)) rfl) ?_;cases hf:(AH n).find? (IH Nv) with
 |none=>exact Hm (Ka (ve rfl) rfl)
 |some u=>
  obtain⟨b1,b2,b3⟩:=Yw (VH n hn).2.2 hf;have ho:=Uh hn zX (U _) b2 fun v hv Z=>W6 (b3 v hv Z);rw[eM]at ho;have h5:=Fd hn b2;have hz:Mm (CT (WG false) (nm 7) (fC .none)) (CT (EU false) (nm 6) Iv) [.d (FU ns),.d (C8 t),.d T1,.d (Aj Nv),.d (Aj (A1 n (xW t) pM)),.d (Aj (A1 n (yW t) pB)),.d (.int ((u.AI:Int)-1)),.d (tD u),.no,.no]=some (decide ((u.AI:Int)-1=0)):=Mr rfl (Cw (x:=.int ((u.AI:Int)-1)) (y:=.int 0) rfl rfl (Zg _ _));by_cases z:(u.AI:Int)-1=0
  .rw[decide_eq_true z]at hz;exact Hm (Ka hz rfl)
  .rw[decide_eq_false z]at hz;refine Al (DB hz rfl) ?_;refine Al (Cz (Ah (xs:=[.int (n:Nat)]) rfl (jx hn))) ?_;refine Al (Cz (Ah (xs:=[Aj Nv,Ap n,tD u]) rfl (gT hn (U _) (sX _ mX) b2))) ?_;have fq:=(Ll h5).2.2.2.2.2.1;have fa:=(sX _ mX).f h5;have hk:=Q6 h5;have fit:FM.Fits (Av Nv u-wq u) 190:=(FM.Fits.less fa fq).mono AC;have key:∀(v:Rat),- sg u=v->FM.Fits v 190->∀(i:Int),((u.AI:Int)-1) % 2=i->ID [PyData.int 1,.int (-1)] i=some (.int v.num)->v.den=1->Bd (Ai (EU false) (AU jN (AB (nm 4) (AB (nm 8) (AB (nm 7) AG)))) (AU jJ (AB (nm 9) (AB (BA (AB (Ai DD (Co (AB By (AB (Py By) AG))) (Ai Ih (nm 6) T9)) (AB By AG))) AG)))) [.d (FU ns),.d (C8 t),.d T1,.d (Aj Nv),.d (Aj (A1 n (xW t) pM)),.d (Aj (A1 n (yW t) pB)),.d (.int ((u.AI:Int)-1)),.d (tD u),.d dO,.d (AW (Av Nv u-wq u))]=some (.rt Jq):=fun v hv hfv i hi ha hd=>by
    refine GO (Az (x:=AW (Av (A1 n (xW t) pM) u-wq u)) (y:=AW (Av (A1 n (xW t) pM) u-wq u)) (Ah (xs:=[Aj (A1 n (xW t) pM),Ap n,tD u]) rfl (gT hn (U _) (sX _ mM) b2)) (Ah (xs:=[AW (Av Nv u-wq u),AW v]) (BH rfl (BH ?_ rfl)) ?_) (ZJ (UH _) AT))
    .unfold AW;rw[hd];exact Nd (xs:=[.int v.num,.int 1]) (BH (Az (x:=.list [.int 1,.int (-1)]) (y:=.int i) rfl (Az (x:=.int ((u.AI:Int)-1)) (y:=.int 2) rfl rfl ((mod_is AT).trans (by rw[hi]))) ha) (BH rfl rfl)) (by show(2:Nat)<=D0;decide)
    .rw[sJ fit hfv,ho,hv,Rat.mul_comm]
   rcases ip hk.1 with h|h
   .exact key 1 h.2 ⟨by decide,by decide⟩ 0 h.1 rfl rfl
   .exact key (-1) h.2 ⟨by decide,by decide⟩ 1 h.1 rfl rfl
def lP(K:Fg)(a:AD)(ns:zA):Bool:=match K.lookup a with
 |some o=>(match o.cls with|.type n=>n == "tuple" |_=>false)&&o.dict.isNone&&(match o.data with
  |.seq g _=>decide (g.size<=1000)&&decide (g.toList.map Xc=ns.map fun i=>some (V.int i))
  |_=>false)
 |none=>false
theorem YB:∀ {ns:List Int} {us:LQ},us.map Xc=ns.map (fun i=>some (V.int i))->Vals RW us
 |[],[],_=>.nil
 |[],u::us,h=>by simp at h
 |n::ns,[],h=>by simp at h
 |n::ns,u::us,h=>by
  rw[(A2),(A2),List.cons.injEq]at h;refine .cons ?_ (YB h.2);cases u with
  |int i t=>
   have:=h.1;simp[Xc]at this;subst this;exact⟨t,rfl⟩
  |_=>have:=h.1;simp[Xc]at this
def uD{K:Fg}{a:AD}{ns:zA}(h:lP K a ns=true):Own K a ns:=by
 unfold lP at h;split at h
 .rename_i o e;rw[(Dk),(Dk)]at h;obtain⟨⟨T,Z⟩,g⟩:=h;have Y:o.cls=.type "tuple" := by
   split at T
   .rename_i n U;rw[U,eq_of_beq T]
   .cases T
  have c2:o.dict=none:=by simpa using Z
  split at g
  .rename_i R n U;rw[(Dk),decide_eq_true_eq,decide_eq_true_eq]at g;exact⟨fun H=>.inr ⟨o,R,n,e,Y,U,Nat.le_trans g.1 KF,YB g.2⟩,o,e,Y,c2⟩
  .cases g
 .cases h
def d8(K:Fg):Sp:=fun vs H Q _=>∃(a:AD) (ns:List Int),vs=[.ref a]/\Aw K H a RW/\ns.length<=63/\∀H',Q (.bl true) H'
def pd{P:F0b}{w:F0c}{K:Fg}{mg:y0}{base:Heap}{f:AD}{fd:F0a}{k:Nat}{Y U T R:AD}(hK:Wm K=true)(F:AK P w K mg base Af k f fd ["_law_script"] (A6 (rS Y U T R))):AK P w K mg base Af k f fd ["_law_script"] (d8 K) :=
 F.imp fun vs H Q E z=>by
  obtain⟨a,ns,rfl,Z,_,q⟩:=z;refine⟨[FU ns],.bool true,H,rM ns Y U T R,.cons (iG (rf hK Z)) .nil,.refl _,fun v G' H' _ _ _ _ g=>?_⟩;rw[Du]at g;subst g;exact q H'
def iR(n:Nat)(g:Tr->Nat):Sp:=fun vs H Q _=>∃v t,vs=[v]/\Tv H t v/\t.deep<n/\n<=60/\t.AI<=8/\∀H',AL H H'->Q (.int (g t)) H'
def kK{P:F0b}{w:F0c}{K:Fg}{mg:y0}{base:Heap}{CX:Iw}{k:Nat}{f:AD}{fd:F0a}{ps:zC}{sp:Sp}(h:∀vs H Q E,¬sp vs H Q E):AK P w K mg base CX k f fd ps sp :=
 ⟨fun _ _ _ _ z=>(h _ _ _ _ z).elim,fun _ _ _ _ _ _ _ _ _ _ _ _ _ z=>(h _ _ _ _ z).elim⟩
section
variable{P:F0b}{w:F0c}{K:Fg}{mg:y0}{base:Heap}{f:AD}{fd:F0a}
def T8:Ac KM KM (AO DK):=CG
theorem Mw(Z:Fn K mg "knots_within" DK KM f fd)(FN:mg "sum" = none):∀n,AK P w K mg base Af n f fd KM (iR n Tr.AI)
 |0=>kK fun _ _ _ _ ⟨_,_,_,_,h,_⟩=>absurd h (av _)
 |n+1=>by
  have sc:=T8;have A7:=Mw Z FN n;refine Z.F.ok (k:=n) sc KT IS
  .obtain⟨v,t,rfl,_⟩:=h
   rfl
  obtain⟨v,t,rfl,⟨a,xs,rfl,ha,ht⟩,hd,hn,hk,q⟩:=h;refine⟨_,(BE (Cp (BW Qo Au (EA (O4 rfl) rfl FN bj (AM (HY [".0","bough"] 1 [none,none] (XR (pv 0)) ZB (fun _ _ _ _ _=>(Dq Z A7 hr rfl (AM kS Ad)))) Ad))))),?_⟩;have g:=ht.len;have Y:xs.length<8:=by rw[g];have:=Tr.Qp t;lia
  refine⟨_,rfl,a,rfl,⟨_,BK.of ha⟩,fun D hD=>Hv (n:=xs.length) (fun i ys H'=>AL H H'/\ys=(t.bs.take i).map fun c=>V.int (c.AI:Nat)) ?_ ?_ ?_⟩
  .exact⟨Ag hD _,by simp⟩
  .rintro i ys H0 hi ⟨T,rfl⟩ R;have hi':i<t.bs.length:=by lia
   refine⟨⟨xs,xs[i],BK.of (T _ _ ha),by simp[hi]⟩,?_,fun x H' y=>?_⟩
   .rw[(BJ),(II)];exact aW (Nat.min_le_left _ _) (aH (bW hi Y) KF)
   .obtain⟨rfl,y⟩:=y;have hx:=y xs (BK.of (T _ _ ha));obtain⟨c,hc,tc⟩:=ht.get hx;have U:c∈t.bs:=aN hc;have hcd:=Tr.SK U;have hck:=Tr.M7 U;unfold Jh;refine L3 ⟨_,rfl,x,c,rfl,tc.same T,by lia,by lia,by lia,fun H2 e2=>⟨e2 _ _ R,FW hi ⟨?_,?_⟩⟩⟩
    .exact fun b o z=>by
      rw[AN (Am z hD)];exact e2 _ _ (T _ _ z)
    .rw[List.take_succ,hc];simp
  .rintro ys H0 ⟨T,rfl⟩ R;refine⟨⟨xs,BK.of (T _ _ ha),Nat.le_refl _⟩,?_⟩;refine⟨D,t.bs.map fun c=>(c.AI:Int),rfl,Aw.of ?_,_,_,rfl,rfl,?_⟩
   .rw[R,g,(JB),(Ed)]
    rfl
   .show Q (.int (1+(t.bs.map fun c=>(c.AI:Int)).sum)) H0;rw[Tr.WM];exact q H0 T
end
def v7{P:F0b}{w:F0c}{K:Fg}{mg:y0}{base:Heap}{f:AD}{fd:F0a}{k:Nat}{ps:zC}(F:AK P w K mg base Af k f fd ps (iR 8 Tr.AI)):AK P w K mg base Af k f fd ps qh :=
 F.imp fun vs H Q E z=>by
  obtain⟨v,u,rfl,g,hd,R,q⟩:=z;exact⟨v,u,rfl,g,hd,by decide,R,q⟩
section
open PySem.W
def fnX{w:F0c}{mg:y0}{h:Heap}(X:(kH w.params).In h)(G:h.Ns mainGlobals mg)(n:String)(i:Nat)(m:String)(t c f:Nat)(ps:zC)
 (ha:nsIn EZ mainGlobals (Str.ofString n)=some (some (.ref f)):=by kernel_rfl)(g:(kH w.params).lookup f=some (fO n i m t c):=by kernel_rfl)(T:codeIn EZ (.ref c) (Str.ofString n)=true:=by kernel_rfl)(R:keepIn EZ (.ref f)=true:=by kernel_rfl)
 (U:∀(kV doc pm:VL) (an:Option AD) (cdv ct:VL) (us:yy),us.length=ps.length->bindArgs (fnOf (Str.ofString n) (Str.ofString n) (Hs (top i)) (E9 (top i)) (AO (top i)) .none kV doc pm an cdv ct) ⟨us,[]⟩=pure (ps.zip us):=by first|(exact fun _ _ _ _ _ _ us g=>match us,g with|[_],_=>rfl)|(exact fun _ _ _ _ _ _ us g=>match us,g with|[_,_],_=>rfl)|(exact fun _ _ _ _ _ _ us g=>match us,g with|[_,_,_],_=>rfl)|(exact fun _ _ _ _ _ _ us g=>match us,g with|[_,_,_,_],_=>rfl)|(exact fun _ _ _ _ _ _ us g=>match us,g with|[_,_,_,_,_],_=>rfl)|(exact fun _ _ _ _ _ _ us g=>match us,g with|[],_=>rfl)) :
  Fn EZ mg (Str.ofString n) (top i) ps f (fnOf (Str.ofString n) (Str.ofString n) (Hs (top i)) (E9 (top i)) (AO (top i)) .none .none .none (.str (Str.ofString m) t) none (.ref c) .none) :=
 ⟨gI g T R,(gI (st:=top i) g T R).binds U,mg_of X G ha⟩
set_option maxHeartbeats 4000000 in
def yE(w:F0c)(mg:y0)(fa:AD)(h:Heap)(X:(kH w.params).In h)(G:h.Ns mainGlobals mg)(hfa:mg "law" = some (.ref fa)):∃fd:F0a,(∀(s:SD) (v:VL),BindsTo s fd ⟨[v],[]⟩ [("_law_script",v)])/\∀base:Heap,(kH w.params).In base->base.Ns mainGlobals mg->AK Bz.prog w EZ mg base Af 24 fa fd ["_law_script"] (d8 EZ):=by
 have e:=hfa.symm.trans (mg_of X G (v:=.ref 453) Hk);cases e;have Gd:=fnX X G "is_tree" 10 "stepgrove.trees" 303 105 106 Ev;have Le:=fnX X G "trees_of" 11 "stepgrove.trees" 303 112 113 ["many"];have Bj:=fnX X G "trees_to" 12 "stepgrove.trees" 303 119 120 cr;have Gh:=fnX X G "refuse_no_tree" 13 "stepgrove.trees" 303 126 127 Ev;have Bk:=fnX X G "in_falling_order" 14 "stepgrove.trees" 303 133 134 ["boughs"];have Ao:=fnX X G "knots_within" 15 "stepgrove.trees" 303 138 139 KM;have Cg:=fnX X G "density_within" 16 "stepgrove.trees" 303 145 146 KM;have CL:=fnX X G "trees_one_larger" 17 "stepgrove.trees" 303 152 153 KM;have F0:=fnX X G "tree_cuts" 19 "stepgrove.cuts" 376 159 160 KM;have Dz:=fnX X G "cuts_within" 20 "stepgrove.cuts" 376 164 165 KM;have Cn:=fnX X G "fraction_of" 22 "stepgrove.fracs" 391 171 172 ["top","bottom"];have FC:=fnX X G "frac_times" 23 "stepgrove.fracs" 391 178 179 JJ;have Ib:=fnX X G "is_fraction" 24 "stepgrove.fracs" 391 185 186 Ev;have CJ:=fnX X G "are_fractions" 25 "stepgrove.fracs" 391 192 193 Ev;have JD:=fnX X G "is_whole" 26 "stepgrove.fracs" 391 199 200 Ev;have BZ:=fnX X G "greatest_divisor" 27 "stepgrove.fracs" 391 206 207 JJ;have Ct:=fnX X G "common_bottom" 28 "stepgrove.fracs" 391 213 214 ["bottoms"];have FD:=fnX X G "frac_total" 29 "stepgrove.fracs" 391 218 219 ["some"];have Fs:=fnX X G "power_of" 30 "stepgrove.fracs" 391 225 226 ["base","power"];have Lk:=fnX X G "is_table" 33 "stepgrove.tables" 469 232 233 Ev;have F9:=fnX X G "refuse_no_table" 34 "stepgrove.tables" 469 239 240 Ev;have Li:=fnX X G "are_rows" 35 "stepgrove.tables" 469 246 247 Ev;have Kb:=fnX X G "tops_over" 37 "stepgrove.wholes" 496 251 252 ["some","bottom"];have Hx:=fnX X G "table_bottom" 38 "stepgrove.wholes" 496 256 257 ["table"];have Gk:=fnX X G "table_weighing" 41 "stepgrove.weights" 510 264 265 ["table","most"];have HV:=fnX X G "true_weighing" 42 "stepgrove.weights" 510 271 272 cr;have BL:=fnX X G "weighing_reach" 43 "stepgrove.weights" 510 278 279 IQ;have Ej:=fnX X G "refuse_no_weighing" 44 "stepgrove.weights" 510 285 286 Ev;have Hr:=fnX X G "true_weights" 45 "stepgrove.weights" 510 290 291 ["trees"];have HP:=fnX X G "weights_under" 46 "stepgrove.weights" 510 295 296 ["table","trees"];have Fi:=fnX X G "readings" 47 "stepgrove.weights" 510 300 301 ["rows","tree","known"];have Ko:=fnX X G "read_by" 48 "stepgrove.weights" 510 305 306 ["row","shares"];have FP:=fnX X G "weighing_composed" 50 "stepgrove.weighings" 574 310 311 JJ;have F7:=fnX X G "weighing_undone" 51 "stepgrove.weighings" 574 315 316 IQ;have Cb:=fnX X G "weighing_turned" 52 "stepgrove.weighings" 574 320 321 ["weighing","part"];have D8:=fnX X G "weighing_mirrored" 53 "stepgrove.weighings" 574 327 328 IQ;have Fy:=fnX X G "cut_share" 54 "stepgrove.weighings" 574 334 335 TN
 have JM:=fnX X G "frac_power" 55 "stepgrove.weighings" 574 341 342 ["part","power"];have EC:=fnX X G "weighing_order" 57 "stepgrove.orders" 621 348 349 IQ;have Hz:=fnX X G "first_unlike" 58 "stepgrove.orders" 621 355 356 ["trees","one","other"];have Ey:=fnX X G "_law_cell" 60 "law_stepgrove_k95_whole_mirrored_rules" 644 362 363 TW;have Df:=fnX X G "_law_frac" 61 "law_stepgrove_k95_whole_mirrored_rules" 644 369 370 OR;have LV:=fnX X G "_law_add" 62 "law_stepgrove_k95_whole_mirrored_rules" 644 376 377 IF;have Lg:=fnX X G "_law_mul" 63 "law_stepgrove_k95_whole_mirrored_rules" 644 383 384 IF;have Dh:=fnX X G "_law_kept" 64 "law_stepgrove_k95_whole_mirrored_rules" 644 388 389 IW;have Dx:=fnX X G "_law_longer" 65 "law_stepgrove_k95_whole_mirrored_rules" 644 393 394 IW;have JN:=fnX X G "_law_trees" 66 "law_stepgrove_k95_whole_mirrored_rules" 644 400 401 ["_law_most"];have Dl:=fnX X G "_law_knots" 67 "law_stepgrove_k95_whole_mirrored_rules" 644 405 406 IW;have DP:=fnX X G "_law_density" 68 "law_stepgrove_k95_whole_mirrored_rules" 644 412 413 IW;have GR:=fnX X G "_law_entry" 69 "law_stepgrove_k95_whole_mirrored_rules" 644 419 420 RN;have JQ:=fnX X G "_law_named" 70 "law_stepgrove_k95_whole_mirrored_rules" 644 426 427 RN;have JA:=fnX X G "_law_table" 71 "law_stepgrove_k95_whole_mirrored_rules" 644 433 434 Tk;have JW:=fnX X G "_law_off" 73 "law_stepgrove_k95_whole_mirrored_rules" 644 445 446 LK;have ue:=fnX X G "law" 74 "law_stepgrove_k95_whole_mirrored_rules" 644 452 453 ["_law_script"];have B8:mg "len" = none:=mg_none_of X G Hk;have DJ:mg "range" = none:=mg_none_of X G Hk;have M8:mg "abs" = none:=mg_none_of X G Hk;have BF:mg "isinstance" = none:=mg_none_of X G Hk;have dD:mg "int" = none:=mg_none_of X G Hk;have XW:mg "bool" = none:=mg_none_of X G Hk;have DQ:mg "tuple" = none:=mg_none_of X G Hk;have N5:mg "list" = none:=mg_none_of X G Hk;have C5:mg "enumerate" = none:=mg_none_of X G Hk;have FN:mg "sum" = none:=mg_none_of X G Hk;have EX:mg "zip" = none:=mg_none_of X G Hk;have Bx:mg "sorted" = none:=mg_none_of X G Hk;have Qs:mg "set" = none:=mg_none_of X G Hk;have Ma:mg "dict" = none:=mg_none_of X G Hk;have a_MR:nsIn EZ mainGlobals "MOST_ROWS" = some (some (.int 40 471)):=by kernel_rfl
 have a_MK:nsIn EZ mainGlobals "MOST_KNOTS" = some (some (.int 7 305)):=by kernel_rfl
 have a_WL:nsIn EZ mainGlobals "WEIGHING_LENGTHS" = some (some (.ref 258)):=by kernel_rfl
 have Z:PySem.W.nsIn EZ mainGlobals "GroveError" = some (some TJ):=by kernel_rfl
 have Y:PySem.W.nsIn EZ mainGlobals "NoWeighing" = some (some (.ref 73)):=by kernel_rfl
 have a_TooMany:PySem.W.nsIn EZ mainGlobals "TooMany" = some (some (.ref 97)):=by kernel_rfl
 have a_NoTable:PySem.W.nsIn EZ mainGlobals "NoTable" = some (some (.ref 61)):=by kernel_rfl
 have a_NotAlike:PySem.W.nsIn EZ mainGlobals "NotAlike" = some (some (.ref 85)):=by kernel_rfl
 have pV:=bo X G Z;have Xn:=bo X G Y;have gE:=bo X G a_TooMany;have fe:=bo X G a_NoTable;have eH:=bo X G a_NotAlike;have R:Exc EZ mg "TooMany" 97:=⟨gE,by kernel_rfl⟩;have be_TooMany:Q0 EZ 97 24 true:=⟨by kernel_rfl,by kernel_rfl,by kernel_rfl,by kernel_rfl⟩;have xk_TooMany:ed EZ 97:=⟨by kernel_rfl,by kernel_rfl,by kernel_rfl,by kernel_rfl,by kernel_rfl,by kernel_rfl,by kernel_rfl,by kernel_rfl⟩;have tV_TooMany:PySem.W.kitOne EZ (.ref 97) N8=some true:=by kernel_rfl
 have t_TooMany_GroveError:PySem.W.kitOne EZ (.ref 97) TJ=some true:=by kernel_rfl
 have t_TooMany_NoWeighing:PySem.W.kitOne EZ (.ref 97) (.ref 73)=some false:=by kernel_rfl
 have t_TooMany_TooMany:PySem.W.kitOne EZ (.ref 97) (.ref 97)=some true:=by kernel_rfl
 have t_TooMany_NoTable:PySem.W.kitOne EZ (.ref 97) (.ref 61)=some false:=by kernel_rfl
 have t_TooMany_NotAlike:PySem.W.kitOne EZ (.ref 97) (.ref 85)=some false:=by kernel_rfl
 have X_NoWeighing:Exc EZ mg "NoWeighing" 73:=⟨Xn,by kernel_rfl⟩;have be_NoWeighing:Q0 EZ 73 24 true:=⟨by kernel_rfl,by kernel_rfl,by kernel_rfl,by kernel_rfl⟩;have xk_NoWeighing:ed EZ 73:=⟨by kernel_rfl,by kernel_rfl,by kernel_rfl,by kernel_rfl,by kernel_rfl,by kernel_rfl,by kernel_rfl,by kernel_rfl⟩;have tV_NoWeighing:PySem.W.kitOne EZ (.ref 73) N8=some true:=by kernel_rfl
 have U:PySem.W.kitOne EZ (.ref 73) TJ=some true:=by kernel_rfl
 have T:PySem.W.kitOne EZ (.ref 73) (.ref 73)=some true:=by kernel_rfl
 have t_NoWeighing_TooMany:PySem.W.kitOne EZ (.ref 73) (.ref 97)=some false:=by kernel_rfl
 have t_NoWeighing_NoTable:PySem.W.kitOne EZ (.ref 73) (.ref 61)=some false:=by kernel_rfl
 have t_NoWeighing_NotAlike:PySem.W.kitOne EZ (.ref 73) (.ref 85)=some false:=by kernel_rfl
 have X_NoTable:Exc EZ mg "NoTable" 61:=⟨fe,by kernel_rfl⟩;have be_NoTable:Q0 EZ 61 24 true:=⟨by kernel_rfl,by kernel_rfl,by kernel_rfl,by kernel_rfl⟩;have xk_NoTable:ed EZ 61:=⟨by kernel_rfl,by kernel_rfl,by kernel_rfl,by kernel_rfl,by kernel_rfl,by kernel_rfl,by kernel_rfl,by kernel_rfl⟩;have tV_NoTable:PySem.W.kitOne EZ (.ref 61) N8=some true:=by kernel_rfl
 have t_NoTable_GroveError:PySem.W.kitOne EZ (.ref 61) TJ=some true:=by kernel_rfl
 have t_NoTable_NoWeighing:PySem.W.kitOne EZ (.ref 61) (.ref 73)=some false:=by kernel_rfl
 have t_NoTable_TooMany:PySem.W.kitOne EZ (.ref 61) (.ref 97)=some false:=by kernel_rfl
 have t_NoTable_NoTable:PySem.W.kitOne EZ (.ref 61) (.ref 61)=some true:=by kernel_rfl
 have t_NoTable_NotAlike:PySem.W.kitOne EZ (.ref 61) (.ref 85)=some false:=by kernel_rfl
 have X_NotAlike:Exc EZ mg "NotAlike" 85:=⟨eH,by kernel_rfl⟩;have be_NotAlike:Q0 EZ 85 24 true:=⟨by kernel_rfl,by kernel_rfl,by kernel_rfl,by kernel_rfl⟩;have xk_NotAlike:ed EZ 85:=⟨by kernel_rfl,by kernel_rfl,by kernel_rfl,by kernel_rfl,by kernel_rfl,by kernel_rfl,by kernel_rfl,by kernel_rfl⟩;have tV_NotAlike:PySem.W.kitOne EZ (.ref 85) N8=some true:=by kernel_rfl
 have t_NotAlike_GroveError:PySem.W.kitOne EZ (.ref 85) TJ=some true:=by kernel_rfl
 have t_NotAlike_NoWeighing:PySem.W.kitOne EZ (.ref 85) (.ref 73)=some false:=by kernel_rfl
 have t_NotAlike_TooMany:PySem.W.kitOne EZ (.ref 85) (.ref 97)=some false:=by kernel_rfl
 have t_NotAlike_NoTable:PySem.W.kitOne EZ (.ref 85) (.ref 61)=some false:=by kernel_rfl
 have t_NotAlike_NotAlike:PySem.W.kitOne EZ (.ref 85) (.ref 85)=some true:=by kernel_rfl
 have hK:Wm EZ=true:=by kernel_rfl
 refine⟨fnOf (Str.ofString "law") (Str.ofString "law") (Hs (top 74)) (E9 (top 74)) (AO (top 74)) .none .none .none (.str (Str.ofString "law_stepgrove_k95_whole_mirrored_rules") 644) none (.ref 452) .none,fun s v=>.of_eq rfl,fun base _ _=>?_⟩;have NK:=bo X G a_MR;have GW:=bo X G a_MK;have DN:=bo X G a_WL;have g:Own EZ 258 [0,1,2,4,8,17,37,85]:=uD Hk;have cv:=Pn (P:=Bz.prog) (w:=w) (base:=base) BZ M8;have kZ:=VQ Cn BZ cv;have yL:=LI Ct BZ cv;have xY:=Ub Hx Ct yL;have xq:=YE (P:=Bz.prog) (w:=w) (base:=base) Kb;have sN:=ZM (P:=Bz.prog) (w:=w) (base:=base) Fs;have wy:=cz (P:=Bz.prog) (w:=w) (base:=base) Ko FN EX;have xC:=RM wO Fi Ko wy B8 EX 8;have xZ:=v7 (Mw (P:=Bz.prog) (w:=w) (base:=base) Ao FN 8);have yG:=R7 wO HP Hx Kb Fi Fs Ao Cn (xY.mono) (xq.mono) (xC.mono) (sN.mono) (xZ.mono) (kZ.mono);have JU:=xp yG;have Cj:=yJ cv;have GK:=toT (WV FC Cn kZ);have Hw:=yI sN;have xJ:=Wc FD Ct Cn (pF (LI Ct BZ cv)) (kZ.mono) FN;have GX:=u7 xJ;have qG:=W8 (P:=Bz.prog) (w:=w) (base:=base) Df M8;have Ex:=xf qG;have yC:=Wg GR Df qG;have Lj:=ZU (P:=Bz.prog) (w:=w) (base:=base) (k:=0) JD XW dD BF;have K4:=U1 (P:=Bz.prog) (w:=w) (base:=base) (k:=1) Ib BZ (Cj.mono) JD (Lj.mono) BF B8 DQ;have Ce:=So (P:=Bz.prog) (w:=w) (base:=base) (k:=2) CJ Ib (K4.mono) BF N5;have O1:=ZK (P:=Bz.prog) (w:=w) (base:=base) (k:=3) Li CJ (Ce.mono) C5 BF B8 N5 NK;have OS:=ZP (P:=Bz.prog) (w:=w) (base:=base) (k:=4) Lk CJ (Ce.mono) Li (O1.mono) BF B8 DQ;have Ku:=Th (P:=Bz.prog) (w:=w) (base:=base) (k:=0) Gd C5 BF DQ 9;have IM:=P8 (P:=Bz.prog) (w:=w) (base:=base) (k:=5) F9 Lk (OS.mono) X_NoTable;have Ij:=RD (P:=Bz.prog) (w:=w) (base:=base) (k:=10) Gh Gd (Ku.mono);have A7:=NB (P:=Bz.prog) (w:=w) (base:=base) (k:=0) Ao FN 9;have FI:=LP (P:=Bz.prog) (w:=w) (base:=base) (k:=10) Cg Ao (A7.mono) 9;have BG:=Po (P:=Bz.prog) (w:=w) (base:=base) (k:=0) Bk Bx DQ;have EM:=Jr (P:=Bz.prog) (w:=w) (base:=base) (k:=1) CL Bk (BG.mono) C5 9;have Oq:=Zb (P:=Bz.prog) (w:=w) (base:=base) (k:=11) Le CL (EM.mono) DJ Qs Bx GW R;have Bs:=ZS (P:=Bz.prog) (w:=w) (base:=base) (k:=12) Bj Le (Oq.mono) DJ GW R;have Gm:=Nk (P:=Bz.prog) (w:=w) (base:=base) (k:=3) Ej CJ (Ce.mono) B8 DN g X_NoWeighing;have BU:=RB (P:=Bz.prog) (w:=w) (base:=base) (k:=4) BL Ej (Gm.mono) B8 DN g;have KP:=UP (P:=Bz.prog) (w:=w) (base:=base) (k:=20) Hr Cg (FI.mono);have JP:=Sj (P:=Bz.prog) (w:=w) (base:=base) (k:=21) HV Bj (Bs.mono) Hr (KP.mono);have Iq:=RC (P:=Bz.prog) (w:=w) (base:=base) (k:=13) Gk F9 (IM.mono) Bj (Bs.mono) HP (JU.mono);have Jy:=Tu (P:=Bz.prog) (w:=w) (base:=base) (k:=0) Hz EX;have FG:=Q9 (P:=Bz.prog) (w:=w) (base:=base) (k:=22) EC Hz (Jy.mono) Ao (A7.mono) Bj (Bs.mono) HV (JP.mono) BL (BU.mono);have G9:=Nj (P:=Bz.prog) (w:=w) (base:=base) (k:=1) Dz Bk (BG.mono) Bx 9;have HF:=Wz (P:=Bz.prog) (w:=w) (base:=base) (k:=11) F0 Dz (G9.mono) Gh (Ij.mono) Bx;have HH:=X5 (P:=Bz.prog) (w:=w) (base:=base) (k:=0) Fy;have HK:=PK (P:=Bz.prog) (w:=w) (base:=base) (k:=13) FP Fy (HH.mono) FD (GX.mono) F0 (HF.mono) Bj (Bs.mono) BL (BU.mono) Ma EX X_NotAlike
 have IK:=QP (P:=Bz.prog) (w:=w) (base:=base) (k:=13) F7 Fy (HH.mono) FC (GK.mono) FD (GX.mono) F0 (HF.mono) Bj (Bs.mono) BL (BU.mono) Ma EX;have Lv:=WX (P:=Bz.prog) (w:=w) (base:=base) (k:=4) JM Fs (Hw.mono);have Cr:=QR (P:=Bz.prog) (w:=w) (base:=base) (k:=13) Cb JM (Lv.mono) FC (GK.mono) Ao (A7.mono) Bj (Bs.mono) BL (BU.mono) EX;have FQ:=O0 (P:=Bz.prog) (w:=w) (base:=base) (k:=14) D8 Cb (Cr.mono) F7 (IK.mono);have Fx:=Xf (P:=Bz.prog) (w:=w) (base:=base) (k:=0) Ey B8;have ML:=We (P:=Bz.prog) (w:=w) (base:=base) (k:=0) JQ;have MX:=kQ (WT JA Ey GR JQ ((mi Fx).mono) (yC.mono) ((jV ML).mono) DJ B8);have EE:=Qd (P:=Bz.prog) (w:=w) (base:=base) (k:=0) Dh Bx DQ 9;have Gv:=NZ (P:=Bz.prog) (w:=w) (base:=base) (k:=10) Dx Dh (EE.mono) B8 DJ 9;have MP:=WQ (P:=Bz.prog) (w:=w) (base:=base) (k:=20) JN Dx (Gv.mono) DJ Qs Bx;have EK:=Pk (P:=Bz.prog) (w:=w) (base:=base) (k:=0) Dl FN 9;have GQ:=M4 (P:=Bz.prog) (w:=w) (base:=base) (k:=10) DP Dl (EK.mono) 9;have Ol:=ZV (P:=Bz.prog) (w:=w) (base:=base) (k:=1) LV Df (Ex.mono);have OJ:=ZQ (P:=Bz.prog) (w:=w) (base:=base) (k:=1) Lg Df (Ex.mono);have LS:=Ze (P:=Bz.prog) (w:=w) (base:=base) (k:=20) JW LV (Ol.mono) DP (GQ.mono);have vP:=tU (P:=Bz.prog) (w:=w) (base:=base) (k:=23) ue Ey (Fx.mono) Lg (OJ.mono) JW (LS.mono) JA (MX.mono) JN (MP.mono) Gk (Iq.mono) FP (HK.mono) D8 (FQ.mono) EC (FG.mono) Cb (Cr.mono);exact pd hK vP
def walkX:WalkO qX [] (XL qX []) hX.says Bz.row.toRowW dX [] (fun f vs=>PySem.call f vs) :=
 L2.nk (l:=Bz) (n:=63) (k:=24) (x := "_law_script") (CX:=fun _=>Af) (K:=kH) (sp:=fun w=>d8 EZ) rfl AT rfl ⟨rfl,by decide,by decide⟩ (fun w mg h X G H d e=>by rw[mg_none_of X G Hk]at e;cases e) (fun w h Y=>kIn_of Y) yE (fun _ _ a ns g _ R=>⟨a,ns,rfl,R,g,fun _=>rfl⟩) fun _ _ _ _ _ z=>z
end
end Q95
open PySem PySem.W PyProof.Rows
set_option maxRecDepth 100000 in
theorem PySem.Challenge.cw_stepgrove_k95_whole_mirrored_rules_holds : PySem.Challenge.rw_stepgrove_k95_whole_mirrored_rules.Holds := by
  refine Q95.openX ?hw Q95.walkX
  w_witness2
#print axioms PySem.Challenge.cw_stepgrove_k95_whole_mirrored_rules_holds
