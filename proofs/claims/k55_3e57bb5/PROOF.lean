import PyProof.Rows.All
import Wide.All
import OpenK.AllK
import Wide.FinOn
import Lean
import PyProof.EqAt
import PyProof.EqKinds
import PyProof.TupleCall
import PySem.Challenge.RW_stepgrove_k55_tables_that_no_judge_walks
set_option Elab.async false
set_option linter.all false
set_option maxRecDepth 100000
set_option maxHeartbeats 4000000
abbrev aA:=@PySem.wpAny_bind
abbrev aB:=@PySem.wpAny_pure
abbrev aC:=@Option.bind_eq_some_iff
abbrev aD:=@Option.map_eq_some_iff
abbrev aE:=@List.getElem?_eq_some_iff
abbrev aF:=@PySem.Heap.get?_push_of_some
abbrev aG:=@PySem.Heap.lt_size
abbrev aH:=@Nat.lt_of_lt_of_le
abbrev aI:=@Nat.le_refl
abbrev aJ:=@Nat.ne_of_lt
abbrev aK:=@List.mem_of_getElem?
abbrev aL:=@PySem.Heap.get?_push_size
abbrev aM:=@List.getElem?_eq_getElem
abbrev aN:=@Bool.false_ne_true
abbrev aO:=@List.mem_cons
abbrev aP:=@PySem.PassesOwn.never
abbrev aQ:=@Nat.le_trans
abbrev aR:=@PySem.wpAny_holding
abbrev aS:=@Nat.lt_of_le_of_lt
abbrev aT:=@List.mem_cons_of_mem
abbrev aU:=@List.mem_map
abbrev aV:=@PySem.wpAny_seqItems
abbrev aW:=@PySem.wpAny_field
abbrev aX:=@PySem.wpAny_mono
abbrev aY:=@PySem.wpAny_call_entry
abbrev aZ:=@PySem.wpAny_callSpecial?_slot
abbrev aa:=@List.mem_append_right
abbrev ae:=@PySem.boot_len
abbrev af:=@List.mem_cons_self
abbrev ag:=@PySem.F.plainAttrs_list
abbrev ah:=@PySem.Heap.SameBut.update
abbrev ai:=@Nat.not_lt_zero
abbrev aj:=@PySem.wpAny_setField_rec
abbrev ak:=@PyProof.Rows.callWith_type1
abbrev ao:=@List.all_eq_true
abbrev aq:=@Nat.ne_of_gt
abbrev ar:=@List.mem_range
abbrev au:=@Bool.eq_false_iff
abbrev av:=@List.map_congr_left
abbrev aw:=@Nat.mul_le_mul_left
abbrev ax:=@Option.some.inj
abbrev ay:=@PyProof.Rows.boot_isinstance
abbrev az:=@of_decide_eq_true
abbrev bA:=@PySem.W.mg_of
abbrev bC:=@PySem.wpAny_newObj_type
abbrev bD:=@Nat.le_of_lt
abbrev bE:=@PySem.F.slot_list_append
abbrev bF:=@PySem.F.type_list_append
abbrev bG:=@PyProof.Rows.boot_tuple
abbrev bH:=@List.mem_append
abbrev bI:=@PySem.W.kia_one
abbrev bJ:=@PySem.F.slot_zip_next
abbrev bK:=@Nat.zero_le
abbrev bL:=@PySem.wpAny_setState_of
abbrev bM:=@decide_eq_false
abbrev bN:=@PySem.Heap.get?_update_self
abbrev bO:=@List.eq_nil_of_length_eq_zero
abbrev bP:=@congrArg
abbrev bQ:=@PySem.wpAny_onRaise
abbrev bR:=@PySem.wpAny_rule
abbrev bS:=@List.getElem?_of_mem
abbrev bT:=@Nat.lt_succ_of_lt
abbrev bU:=@PySem.wpAny_specialOf
abbrev bV:=@List.length_map
abbrev bW:=@PySem.wpAny_attempt
abbrev bX:=@Nat.lt_succ_self
abbrev bY:=@List.getElem_mem
abbrev bZ:=@of_decide_eq_false
abbrev ba:=@List.mem_iff_getElem?
abbrev bc:=@List.find?_eq_none
abbrev bf:=@List.mem_append_left
abbrev bg:=@Nat.pow_le_pow_right
abbrev bh:=@PyProof.Rows.KeyOrd.kle_refl
abbrev bj:=@Nat.lt_trans
abbrev bo:=@List.pairwise_cons
abbrev bp:=@PyProof.Rows.boot_sum
set_option hygiene false
local macro_rules
|`(AC)=>`(List PyData->Option PyData)
|`(AS)=>`(by lia)
|`(AT)=>`(Value->Shared->Prop)
|`(As)=>`(PySem.W.Frag)
|`(At)=>`(model prog w)
|`(BY)=>`(by decide)
|`(By)=>`(List PyData)
|`(Ch)=>`(by simp)
|`(Cl)=>`(Or.inl rfl)
|`(Da)=>`(List (Addr×Obj))
|`(Db)=>`(Inv X pins σ H s)
|`(Do)=>`(List PyData->Option Xr)
|`(EQ)=>`(model X.prog X.w)
|`(Ev)=>`(A3 X scope cl N C s₀ H₀ fp)
|`(FS)=>`(List Value)
|`(Fa)=>`(Str->Option Value)
|`(Fk)=>`(fC (.int 1))
|`(Fr)=>`(fun _ _=>rfl)
|`(GE)=>`(.ref s.heap.objs.size)
|`(GM)=>`(Dv->Option PyData)
|`(Go)=>`(Dv->Option (List PyData))
|`(HQ)=>`(List V)
|`(HX)=>`(AD (pv 0))
|`(Hb)=>`(Addr->Option Bool)
|`(Hn)=>`(kH w.params)
|`(IF)=>`(.type "tuple")
|`(IN)=>`(Shared)
|`(IO)=>`(fun cdv A outer s H vs Q E hr h=>?_)
|`(IR)=>`(FuncData)
|`(IS)=>`(s.heap.objs.size+1)
|`(Id)=>`(x==("__debug__" : Str))
|`(Io)=>`(Program)
|`(Iv)=>`(.Call (.Name x p) (e::es) [] pos)
|`(Ix)=>`(.ListComp elt [⟨.Name x px,iter,ifs,0⟩] scope pos)
|`(JP)=>`(fun vs H Q E h=>?_)
|`(JT)=>`(AD (pv 1))
|`(Jo)=>`(["thing"])
|`(Js)=>`(fC (.int 0))
|`(Ju)=>`(AD (pv 2))
|`(Jv)=>`(Rw G0 H0 G H σ δ ts)
local macro_rules
|`(KB)=>`(PyData)
|`(KK)=>`(((SetTable.insertAt ev (t.put j).2 (BZ x,Value.ref xa))[·]?))
|`(KM)=>`(.bool true)
|`(KT)=>`({s with heap:=h',toks:=tk})
|`(LE)=>`(List (Option Nat))
|`(LT)=>`(seqObj "list" #[] 0)
|`(La)=>`(.ListComp elt [⟨.Tuple [.Name x px,.Name y py] tk tp,iter,ifs,0⟩] scope pos)
|`(Lz)=>`(fun z=>nomatch z)
|`(MA)=>`(List Str)
|`(MR)=>`((false,eval e X.env))
|`(MY)=>`(["one","other"])
|`(Mj)=>`(.lst ys)
|`(Mt)=>`(.ref a)
|`(Mw)=>`(World)
|`(M0)=>`(by kernel_rfl)
|`(M2)=>`(.head _)
|`(NE)=>`(Dv->Option Bool)
|`(Nd)=>`(.builtin "ValueError.__new__")
|`(Nh)=>`(Value)
|`(Ni)=>`(nm 0)
|`(Nk)=>`(IsPair s.heap TI (.ref i1) (.ref i2))
|`(Nl)=>`(List (PyData×V))
|`(No)=>`(fun z=>hc (by simp[z]))
|`(Nv)=>`((by have:=g.units;exact this))
|`(N6)=>`(nm 2)
|`(OF)=>`(.type "BaseException")
|`(ON)=>`(sV "stepgrove.errors" 187)
|`(OP)=>`(.type "ValueError")
|`(OR)=>`(.ref 24)
|`(Of)=>`(Option Value->Shared->Prop)
|`(On)=>`(nm 1)
|`(Oo)=>`(["_law_script","_law_k"])
|`(Op)=>`(.tup xs)
|`(Os)=>`(.lst xs)
|`(Ov)=>`(List Expr)
|`(PP)=>`(by rw[sizeLine_eq];decide)
|`(PZ)=>`(envOfC qual scope s.heap.objs.size f cd)
|`(Pa)=>`((false,eval b X.env))
|`(Pi)=>`(.ref C)
|`(Ps)=>`(AD (pv 3))
local macro_rules
|`(Pz)=>`({s with heap:=h'})
|`(P5)=>`(PyData->PyData->Option PyData)
|`(P7)=>`(∀b∈ch,(b∈X.ex\/X.s₀.heap.objs.size<=b)/\b≠X.env.locals/\(∀x c,X.env.cells.lookup x=some c->c≠b)/\∀p∈X.pn++pins,p.1≠b)
|`(Q4)=>`(Ez fun i j=>decide (i<j))
|`(RW)=>`((∃a g,y=Value.ref a/\s.heap.IsTuple a g.toArray/\TH.Vs s.heap t g))
|`(Re)=>`(Around)
|`(Rs)=>`(Obj.mapSeq (· ++ us.toArray))
|`(SB)=>`((forIn scope.names [] (fun (x : Str×NameKind) (r : List (Str×Addr)) => do if (x.2 == NameKind.free) = true then do let a <- cellOf X.env x.1; pure (ForInStep.yield ((x.1,a) :: r)) else pure (ForInStep.yield r)):Sem (List (Str×Addr))) >>= fun cs => pure cs)
|`(SC)=>`(.ref z)
|`(SE)=>`(starEach es X.env)
|`(SL)=>`(i+1)
|`(ST)=>`(Array (Int×Value))
|`(SZ)=>`((false,eval a X.env))
|`(Sc)=>`(["_law_table_here","_law_number"])
|`(TD)=>`(PyData->Dv->Option Dv)
|`(TW)=>`(.ListComp elt [⟨Ph x y px py tk tp,iter,ifs,0⟩] scope pos)
|`(Tk)=>`(by rw[Du])
|`(Tl)=>`(∀b o,h.get? b=some o->o.cls=.type "tuple" -> h'.get? b=some o)
|`(Tm)=>`(AA (nm 3) AF)
|`(To)=>`(Bh 3 (AO ID (AO A6 (AO A6 (AO FX (nm 3) (nm 3)) (AO FX (fC (.int 69621)) (nm 5))) (fC (.int 7))) (fC (.int 2147483587))))
|`(Ty)=>`((forIn scope.names [] (fun(x:Str×NameKind) (r:List (Str×Addr))=>do if(x.2==NameKind.free)=true then do let a <-cellOf X.env x.1;pure (ForInStep.yield ((x.1,a)::r)) else pure (ForInStep.yield r)):Sem (List (Str×Addr)))>>=fun cs=>pure cs)
|`(T0)=>`(["table","trees"])
|`(UF)=>`(["_law_table_here","_law_paper"])
|`(UV)=>`(["table"])
|`(Uf)=>`(seqObj "list" us.toArray 0)
|`(WF)=>`(Builtin.SmallTypes.nextOf (.ref i2)>>=_)
|`(WP)=>`(s.heap.objs.size+2)
|`(W1)=>`(s.heap.objs.size+3)
|`(XN)=>`(fun c=>?_)
|`(XV)=>`(List Int)
|`(ZB)=>`(["tree"])
|`(ad)=>`(I.ok.hd hc)
|`(al)=>`(List Addr)
|`(am)=>`(by decide +kernel)
|`(bd)=>`(List (List Int))
|`(bi)=>`(ha pos pins s σ H _ I h)
|`(bn)=>`(.builtin "object.__class__")
|`(bv)=>`(A3 X scope cl N Hq.objs.size s2 Z fp)
|`(ce)=>`(CK P w)
|`(cr)=>`(Builtin.«zip.__next__» ⟨[.ref z],[]⟩)
local macro_rules
|`(cx)=>`((·.1))
|`(dO)=>`(Value->Value->Sem Value)
|`(db)=>`(List Rat)
|`(dl)=>`(X.A.units+64<cLine)
|`(d7)=>`(.type "Exception")
|`(em)=>`(aI _)
|`(f8)=>`((carry fr σ).set ix (some x))
|`(ge)=>`(aB ?_)
|`(gv)=>`(Str.ofString "table")
|`(iF)=>`(List Tr)
|`(iN)=>`(mg "isinstance" = none)
|`(iS)=>`(.type "object")
|`(ii)=>`(Ax _)
|`(im)=>`(Builtin.SmallTypes.nextOf (.ref i1)>>=_)
|`(io)=>`(mg "len" = none)
|`(jj)=>`(AO A6 (AO FX (nm 4) (fC (.int 2147483563))) (AO ID (AO FX (nm 3) (nm 3)) (fC (.int 2147483563))))
|`(jp)=>`(Bool->Shared->Prop)
|`(kS)=>`(IsZip s.heap z TI TO .none)
|`(ku)=>`(Str.ofString "many")
|`(kw)=>`(SetTable.insertAt ev (t.put j).2 (BZ x,.ref xa))
|`(lc)=>`(["_law_script","_law_start","_law_most"])
|`(lf)=>`(.bool false)
|`(li)=>`(fun _ _ _ _ _=>EW)
|`(lm)=>`(.inl rfl)
|`(ln)=>`(Bt items.size items.size hi-Bt items.size 0 lo)
|`(lp)=>`(Draws prog w A.in1 i1 f1 n1 P1 S1)
|`(lv)=>`(Draws prog w A.in1 i2 f2 n2 P2 S2)
|`(l0)=>`(Ac t)
|`(l7)=>`(EP X pins σ Q)
|`(l8)=>`(.type "dict")
|`(me)=>`(.type "list")
|`(mo)=>`(.builtin "getset_descriptor.__get__")
|`(ms)=>`(GH C1 C2 false false)
|`(mu)=>`(by simp;lia)
|`(nw)=>`(aJ (aH (aG e) I.ok.above))
|`(oF)=>`(k+1)
|`(oN)=>`(X.calm=true)
|`(oR)=>`(ns.map V.int)
|`(og)=>`(fun q=>decide (q.1=k))
|`(pw)=>`(Fg rows.length)
local macro_rules
|`(rW)=>`(["table","order","odd"])
|`(ra)=>`(seqObj "tuple" us.toArray 0)
|`(rc)=>`(s.heap.objs.size+4)
|`(re)=>`(.lst [])
|`(sK)=>`(AB AI (AB AI AE))
|`(sq)=>`(Bk (C:=C1) rfl n)
|`(ss)=>`(Bk (C:=C2) rfl n)
|`(sw)=>`(Apart z TI TO i1 i2 f1 f2)
|`(tO)=>`(.type "type")
|`(tP)=>`(((boot_heap w.params).isNs mainGlobals&&(#[]:Array GenState).size==0,(boot_heap w.params).objs.size,(boot_heap w.params).nsMap mainGlobals "__annotations__"))
|`(tQ)=>`(ys++[y])
|`(tR)=>`(∀x∈xs,Bx x.1=Bx k->x.1=k)
|`(tT)=>`(fC (.int 6))
|`(tU)=>`(["_law_script","_law_k","_law_cell_here","_law_number","_law_found","_law_turn"])
|`(tV)=>`(List α)
|`(tW)=>`(by simpa using hi)
|`(tX)=>`(.ref 145)
|`(tY)=>`(List Stmt)
|`(tZ)=>`(Array Nat)
|`(td)=>`((∀c o,c≠z->c≠TO->c≠i1->c≠i2->s.heap.get? c=some o->h'.get? c=some o))
|`(tf)=>`(newFunctionEnv scope X.env.globals cl [] X.env.qual none .none (some X.env))
|`(tj)=>`(.Name x np)
|`(tm)=>`(BR CS rfl A4 ae (AG (pv 0) AU))
|`(tq)=>`(fun a b=>Dd a (FN rows b))
|`(tt)=>`(by simp only[List.size_toArray]<;>lia)
|`(t7)=>`(["thing","trees"])
|`(t8)=>`(["table","paper"])
|`(t9)=>`(HT.Bt xs.length xs.length hi-HT.Bt xs.length 0 lo)
|`(uA)=>`({g with heap:=g.heap.push { cls:=.type "slice",data:=.fields #[Y,U,.none]} })
|`(uB)=>`(fC .none)
|`(uC)=>`(.int (k:Nat))
|`(uD)=>`(by simp[Cp])
|`(uE)=>`(((carry fr σ).set ix (some U)).set iy (some T))
|`(uF)=>`(fun b o _ _ hc q _=>⟨o.slots,keep b o hc q⟩)
|`(uG)=>`(PySem.W.fnOf x qual (HJ st) (EE st) (AL st) .none kV doc pm an cdv ct)
|`(uH)=>`(Obj.mapSeq fun _ => #[])
|`(uI)=>`(aW hz rfl (x:=.ref TI) rfl (aA (aV hI rfl ?_)))
|`(uJ)=>`(match Mu [a,b,c,.d (tD t),.d (Aj w),.d (Aj v)]with|some (.nx g)=>_|some (.ct g)=>_|some (.bk g)=>_|some (.rt x)=>_|some (.rn x)=>_|none=>_)
|`(uK)=>`(fun _ _ _ _ _=>HH)
|`(uL)=>`(["table","trees","lines"])
local macro_rules
|`(uM)=>`(["_law_one","_law_other"])
|`(uN)=>`(AD (pv 4))
|`(uO)=>`(F0 N X.N scope X.env.scope fr 0=true)
|`(uP)=>`(.ref 85)
|`(uQ)=>`({D with nx:=N,ct:=N,bk:=D.nx})
|`(uR)=>`(Draws prog w A i1 f1 n1 P1 S1)
|`(uS)=>`(Draws prog w A i2 f2 n2 P2 S2)
|`(uT)=>`(mg "range" = none)
|`(uU)=>`(∀(D C:Addr) (s':IN) (H':Hp) m,s'.heap.Ns C m->Q (.ref D) H'->(∀h',Heap.SameBut C s'.heap h'->Inv X pins σ H' { s' with heap:=h'})->C≠D->(∀b o,s2.heap.get? b=some o->b≠C)->H' C=none->s2.heap.objs.size<=C->RR (.ref D) C (.ok .next) s')
|`(uV)=>`(V6 5 (AO ME (nm 5) (BG (AA (Az (AA N6 (AA (AO A6 (nm 3) (BG (AA (Az (AA Fk (AA Fk AF))) AF))) AF))) (AA (Az (AA N6 (AA (Iw (nm 3) Gd (Gf (SJ Fk))) AF))) (AA (Az (AA (Iw N6 Gd (Gf (SJ Fk))) Tm)) (AA (Az (AA (AO A6 N6 (BG (AA (BG AF) AF))) (AA (AO A6 (nm 3) (BG (AA (Az (AA Js (AA Fk AF))) AF))) AF))) AF)))))))
|`(uW)=>`(GC (BG (AA (Az (AA (fC (.int 2)) (AA (fC (.int 4)) AF))) (AA (Az (AA Fk (AA Js AF))) (AA (Az (AA Js (AA (fC (.int 2)) AF))) (AA (Az (AA Fk (AA (SJ Fk) AF))) (AA Fk (AA (fC KM) (AA uB (AA (BG (AA Fk (AA Fk AF))) (AA (Az (AA Fk (AA Fk (AA Fk AF)))) (AA (fC (.str (Str.ofString "1"))) AF))))))))))))
|`(uX)=>`(∀cl C s₀ H₀ fp,MC Ev ifs tif)
|`(uY)=>`(CI C9 (pv 0) AX Fr)
|`(uZ)=>`(∀cl C s₀ H₀ fp,PE Ev elt te)
|`(ua)=>`(pv 1)
|`(ub)=>`(N4 5 (AA uB (AA (BG (AA N6 Tm)) (AA (Az (AA N6 AF)) (AA (Az (AA N6 (AA (nm 3) (AA (BG AF) AF)))) (AA (Az (AA (BG AF) (AA (BG AF) AF))) (AA (Az (AA (AW IH (AA N6 AF)) Tm)) (AA (Az (AA N6 (AA (AW IH Tm) AF))) AF))))))))
|`(uc)=>`(Builtin.SmallTypes.ownedTupleIsFree SC>>=_)
|`(ud)=>`(ZT.EG (prog:=X.prog) (w:=X.w) (A:=X.A.in1) ad b1 i1 a1 us (e1 i1 Ch))
|`(ue)=>`(ZT.EG (prog:=X.prog) (w:=X.w) (A:=X.A.in1) ad b2 i2 a2 vs (e2 i2 Ch))
|`(uf)=>`(pv 0)
|`(ug)=>`(AA N6 AF)
|`(uh)=>`(A5 (i:=2) sc.nd rfl Cl)
|`(ui)=>`(Bd I q Ch)
|`(uj)=>`(AO A6 (nm 5) (BG (AA (Az (AA (AO A6 (AO A6 (Iw N6 Gd (Gf (nm 4))) (BG (AA (AO A6 (AO B1 N6 (nm 4)) (BG (AA (Az (AA Js (AA Fk AF))) AF))) AF))) (Iw N6 (Gf (AO A6 (nm 4) Fk)) Gd)) Tm)) AF)))
|`(uk)=>`(∀D ys G' H',Rw G0 H0 G' H' σ δ ts->H' D=some Mj->G' D=none->H0 D=none->(∀(j:Nat) (us:Oc),δ[j]? = some (L.own us)->σ[j]?≠some (some (V.ref D)))->Au G' zs ys->Q (.ref D) H')
|`(ul)=>`(∀(δ:Dv) (xs:By),fs δ=some xs->∀(G0 H0 G H:Hp) (σ:St) (ts:Nl) (R:It->Hp->Prop),Rw G0 H0 G H σ δ ts->(∀J G' H',Rw G0 H0 G' H' σ δ ts->J6 J xs G'->R J H')->wi σ H R)
|`(um)=>`(notedBy At A env fun e s'=>R (.error e) s')
|`(uo)=>`({s with heap:=(s.heap.push LT).update s.heap.objs.size (Obj.mapSeq (· ++ vs.toArray))})
|`(uq)=>`(∀(δ:Dv) (xs:By),fs δ=some xs->∀(G0 H0 G H:Hp) (σ:St) (ts:Nl) (R:It->Hp->Prop),Rw G0 H0 G H σ δ ts->(∀J g H',Rw G0 H0 g H' σ δ ts->J6 J xs g->R J H')->Z σ H R)
|`(ur)=>`((e::es))
|`(ut)=>`(List PyData)
|`(uu)=>`(pv 2)
|`(uv)=>`(AA On AF)
|`(uw)=>`(fun r s'=>r=.ok (.ret KM)/\OldK g.heap s'.heap/\s'.os=g.os/\AllBare s'.gens)
|`(ux)=>`(Bh 7 (AO A6 N6 (BG (AA (AO A6 (BG (AA (nm 6) AF)) (Dq (Ey 1) GB (Az (AA Js (AA Fk AF))) [none,none] (Cy IK (AA (AO YZ (AW Fj ug) Fk) AF)))) AF))))
namespace Opn
open PySem PySem.W PyProof.Rows PySem.Calls
noncomputable def q0:Pos:=⟨0,0,0,0⟩
noncomputable def qO:Obj:={ cls:=.type "tuple",data:=.seq #[]}
noncomputable def qQ:Obj:={ cls:=.none,data:=.fields #[]}
noncomputable def qd:Obj:={ cls:=.type "code",data:=.fields #[.str (Str.ofString "<module>") 182,.str (Str.ofString "<module>") 183,.str (Str.ofString "/claim/cut.py") 184,.int 1 0,.int 0 0,.int 0 0,.int 0 0,.int 0 0,.ref 11,.bool false,.int 181 0,.ref 12,.none,.none,.none,.none,.int 185 0,.int 1 0,.str (Str.ofString "/claim/cut.py") 186]}
noncomputable def qV:Obj:={ cls:=.type "frame",slots:=#[some (.ref 13),some (.ref 3),some (.ref 3),none,some (.str (Str.ofString "__main__") 164),none,some (.ref 0)]}
noncomputable def pV(P:Params):List Obj:=(boot_heap P).objs.toList++[qO,qQ,qd,qV]
noncomputable def nN(P:Params)(o:Params->Obj)(l r:BT):BT:=.node (o P) l r
noncomputable def lN(P:Params)(o:Params->Obj):BT:=.node (o P) .nil .nil
noncomputable def pO(P:Params):BT :=
 nN P boot_o_0 (nN P boot_o_1 (nN P boot_o_3 (lN P boot_o_7) (.node qO .nil .nil)) (nN P boot_o_5 (lN P boot_o_9) (.node qd .nil .nil)))
  (nN P boot_o_2 (nN P boot_o_4 (lN P boot_o_8) (.node qQ .nil .nil)) (nN P boot_o_6 (lN P boot_o_10) (.node qV .nil .nil)))
noncomputable def gX:Life:=Life.mk [] [] [] 0 [] [] false #[] [] 0 false false false 0 [2000,10,10] false 0 true [] [] 0 false
noncomputable def sA(w:Mw)(os:OsState):Shared:=⟨⟨⟨pV w.params⟩,gX⟩,#[],boot_drawn,187,os⟩
noncomputable def sB(w:Mw)(os:OsState):SharedT:=⟨pO w.params,15,gX,#[],boot_drawn,187,os⟩
noncomputable def Qh(p:Io):Env:={ scope:=p.main.scope,locals:=mainNs,globals:=mainNs,cells:=[],code:=.ref 13,frame:=some 14}
noncomputable def cB(p:Io):Code:=.body (behindTheImports p) (Qh p)
noncomputable abbrev KD:Option Value:=some (.ref 6)
noncomputable abbrev bB:List Frame:=[topFrame q0]
noncomputable def Yh(p:Io)(M:Nat)(w:Mw)(os:OsState):Option (Flow×SharedT×Code×Pos) :=
 PySem.W.Fast.tw10110043849684766642 PySem.W.Fast.tw14364793385576792824 p w 11 KD 1 M (sB w os) (piecesOf (behindTheImports p) (Qh p) (cB p) q0 bB)
noncomputable def Yn(p:Io)(M:Nat)(w:Mw)(os:OsState):SharedT:=match Yh p M w os with|some (_,s,_)=>s|none=>sB w os
theorem jE{p:Io}{M:Nat}{w:Mw}{os:OsState}{r:Option (Flow×SharedT×Code×Pos)}(h:Yh p M w os=r) :
  segRunT treeTable p w 11 KD 1 M (sB w os) (piecesOf (behindTheImports p) (Qh p) (cB p) q0 bB)=r:=by
 have e:segRunT treeTable=PySem.W.Fast.tw10110043849684766642 PySem.W.Fast.tw14364793385576792824:=congr PySem.W.Fast.te10110043849684766642 PySem.W.Fast.te14364793385576792824;rw[e];exact h
theorem mq{p:Io}{M U:Nat}{g:Pos}{w:Mw}{os:OsState}
 (pre:topGo treeTable p w 11 KD 12 ⟨boot_heap w.params,#[],boot_drawn,boot_toks,os⟩ (topStub p)=some (sA w os,⟨denote treeTable (cB p),cB p,q0,bB⟩))
 (T:segRun treeTable p w 11 KD 1 1 (sA w os) (blockOf (behindTheImports p) (Qh p) (cB p) q0 bB)=some (.next,(sB w os).abs,cB p,q0))
 (seg:Yh p M w os=some (.next,Yn p M w os,cB p,g))
 (fin:∀s,topRun treeTable p w 11 KD 2 s (restOf [] (Qh p) (cB p) g bB)=some s)(Y:U=12+(1+(M+2))) :
  topRun treeTable p w 11 KD U ⟨boot_heap w.params,#[],boot_drawn,boot_toks,os⟩ (topStub p)=some (Yn p M w os).abs:=by
 subst Y;refine go_top pre (piece_block T ?_);have h:=piece_app (rest:=[]) (segRun_of (jE seg)) (fin _);rw[List.append_nil]at h;exact h
theorem iV{p q:Io}{loose:MA}{Xt:Shared->Bool}{α:Type}{Yf:Shared->α}{Ya:World->α}{N M:Nat}{S:World->OsState->Shared}
 (g:∀w:World,(fencedOpening treeTable p w N).map (fun s=>(s.heap,s.gens,s.drawn,s.toks))=some (boot_heap w.params,#[],boot_drawn,boot_toks))
 (size:∀w:World,tP=(true,11,KD))
 (run:∀w os,topRun treeTable p w 11 KD M ⟨boot_heap w.params,#[],boot_drawn,boot_toks,os⟩ (topStub p)=some (S w os))(le:Nat.ble M N=true)
 (ok:∀w os,(staticsOk (importedModules p.main.body) (boot_heap w.params) (S w os).heap&&namesBound p (S w os).heap&&gensDone (S w os)&&laidKept (boot_heap w.params) (S w os).heap)=true)
 (seen:∀w os,openSeen q loose (importedModules p.main.body) Xt true (S w os)=openGood q loose)
 (hY:∀w os,Yf (S w os)=Ya w):LeftO p q loose Xt Yf Ya N:=fun w=>by
 obtain⟨⟨h,gs,d,k,os⟩,e,e'⟩:=aD.mp (g w);obtain⟨rfl,rfl,rfl,rfl⟩:h=boot_heap w.params/\gs=#[]/\d=boot_drawn/\k=boot_toks:=by simpa using e'
 obtain⟨Y,U,T⟩:_/\_/\_:=by simpa only[Prod.mk.injEq]using size w
 have Z:=ok w os;have r:=topRun_mono (N-M) _ _ _ _ (run w os);rw[show M+(N-M)=N by have:=Nat.le_of_ble_eq_true le;lia]at r;have t:topFrom treeTable p w N ⟨boot_heap w.params,#[],boot_drawn,boot_toks,os⟩=some (S w os):=by
  unfold topFrom;dsimp only;rw[Y,U,T,r];show(match staticsOk (importedModules p.main.body) (boot_heap w.params) (S w os).heap&&namesBound p (S w os).heap&&gensDone (S w os)&&laidKept (boot_heap w.params) (S w os).heap with|true=>_|false=>_)=_;rw[Z]
 unfold openEnds;rw[e];show(topFrom treeTable p w N _).map _=_;rw[t];exact bP some (Prod.ext (seen w os) (hY w os))
theorem pQ(w:Mw):tP=(true,11,KD):=by kernel_rfl
end Opn
namespace Q55
open PySem
def top(i:Nat):Stmt:=PySem.Challenge.pw_stepgrove_k55_tables_that_no_judge_walks.main.body.getD i (.Pass ⟨0,0,0,0⟩)
end Q55
namespace L2
open PySem
def HJ(s:Stmt):Arguments:=match s with
 |.FunctionDef _ a _ _ _ _ _ _ _ _=>a
 |_=>{ posonlyargs:=[],args:=[],vararg:=none,kwonlyargs:=[],kw_defaults:=[],kwarg:=none,defaults:=[]}
def EE(s:Stmt):List Stmt:=match s with
 |.FunctionDef _ _ b _ _ _ _ _ _ _=>b
 |_=>[]
def AL(s:Stmt):Scope:=match s with
 |.FunctionDef _ _ _ _ _ _ sc _ _ _=>sc
 |_=>{ kind:=.function,names:=[],isGenerator:=false,isCoroutine:=false}
end L2
namespace Q55
open PySem L2
section
open PySem.W PyProof.Rows PySem.Calls
abbrev GP:Program:=PySem.Challenge.pw_stepgrove_k55_tables_that_no_judge_walks
abbrev CC:OpenLaw:=PySem.Challenge.rw_stepgrove_k55_tables_that_no_judge_walks
noncomputable abbrev dE(P:Params)(x:String)(t:Nat)(v:Nh):DictEntry:=⟨PyData.keyHash P (Str.ofString x),.str (Str.ofString x) t,v⟩
noncomputable abbrev sV(x:String)(t:Nat):Value:=.str (Str.ofString x) t
noncomputable abbrev fO(n:String)(i:Nat)(m:String)(t c:Nat):Obj:=⟨.type "function",none,.func (fnOf n n (HJ (top i)) (EE (top i)) (AL (top i)) .none .none .none (.str (Str.ofString m) t) none (.ref c) .none),#[]⟩
noncomputable abbrev cO(n:String)(t l a k r:Nat)(b:Bool)(Z:Nat)(Y U T v4:Nh)(g:Nat):Obj:=⟨.type "code",none,.fields #[sV n t,sV n (t+1),sV "/claim/cut.py" (t+2),.int l 0,.int a 0,.int 0 0,.int 0 0,.int k 0,.ref r,.bool b,.int 181 0,.ref Z,Y,U,T,v4,.int g 0,.int l 0,sV "/claim/cut.py" (g+1)],#[]⟩
noncomputable def kH:Params->Frag:=fun P=>
 (nat_lit 2,⟨.none,none,(.dict #[] 0),#[]⟩) ::
 (nat_lit 3,⟨l8,none,(.dict #[dE P "__name__" 165 (sV "law_stepgrove_k55_tables_that_no_judge_walks" 718),dE P "__doc__" 166 .none,dE P "__package__" 167 .none,dE P "__loader__" 168 (.builtin "__main__.__loader__#opaque"),dE P "__spec__" 169 .none,dE P "__annotations__" 170 (.ref 6),dE P "__builtins__" 171 (.ref 4),dE P "__file__" 173 (sV "/claim/cut.py" 172),dE P "__cached__" 174 .none,dE P "GroveError" 206 OR,dE P "NoBottom" 222 (.ref 37),dE P "NoTree" 238 (.ref 49),dE P "NoChange" 254 (.ref 61),dE P "NoStart" 270 (.ref 73),dE P "NoTable" 286 uP,dE P "NoName" 302 (.ref 97),dE P "NoWeighing" 318 (.ref 109),dE P "NotAlike" 334 (.ref 121),dE P "NoParts" 350 (.ref 133),dE P "TooMany" 366 tX,dE P "NoText" 382 (.ref 157),dE P "NoLine" 398 (.ref 169),dE P "fraction_of" 409 (.ref 178),dE P "frac_times" 417 (.ref 185),dE P "is_fraction" 424 (.ref 192),dE P "are_fractions" 432 (.ref 199),dE P "is_whole" 439 (.ref 206),dE P "greatest_divisor" 450 (.ref 213),dE P "common_bottom" 459 (.ref 220),dE P "frac_total" 465 (.ref 225),dE P "power_of" 476 (.ref 232),dE P "MOST_ROWS" 480 (.int 40 479),dE P "is_table" 487 (.ref 239),dE P "refuse_no_table" 494 (.ref 246),dE P "are_rows" 503 (.ref 253),dE P "MOST_KNOTS" 507 (.int 7 506),dE P "trees_of" 518 (.ref 260),dE P "trees_to" 527 (.ref 267),dE P "in_falling_order" 534 (.ref 274),dE P "knots_within" 540 (.ref 279),dE P "density_within" 549 (.ref 286),dE P "parents_within" 555 (.ref 291),dE P "trees_one_larger" 566 (.ref 298),dE P "tops_over" 574 (.ref 303),dE P "table_bottom" 580 (.ref 308),dE P "true_weights" 588 (.ref 313),dE P "weights_under" 594 (.ref 318),dE P "readings" 600 (.ref 323),dE P "read_by" 606 (.ref 328),dE P "MOST_ORDER" 610 (.int 6 609),dE P "table_order" 620 (.ref 335),dE P "first_unlike" 632 (.ref 342),dE P "MOST_JUDGED_ROWS" 636 (.int 5 635),dE P "order_paper" 645 (.ref 349),dE P "judge_paper" 654 (.ref 356),dE P "refuse_no_judging" 661 (.ref 363),dE P "lines_of" 669 (.ref 370),dE P "are_true_lines" 680 (.ref 377),dE P "is_due_odd" 689 (.ref 384),dE P "is_line" 697 (.ref 391),dE P "walked_weight" 703 (.ref 396),dE P "table_behind" 711 (.ref 401),dE P "refuse_too_many_rows" 717 (.ref 406),dE P "_law_cell" 731 (.ref 413),dE P "_law_take" 740 (.ref 420),dE P "_law_shared" 748 (.ref 427),dE P "_law_frac" 757 (.ref 434),dE P "_law_plus" 765 (.ref 441),dE P "_law_by" 773 (.ref 448),dE P "_law_part" 781 (.ref 455),dE P "_law_table" 787 (.ref 460),dE P "_law_called" 793 (.ref 465),dE P "_law_flags" 805 (.ref 472),dE P "_law_spoiled" 811 (.ref 477),dE P "law" 823 (.ref 484)] 75),#[]⟩) ::
 (nat_lit 15,⟨IF,none,(.seq #[OP] 0),#[]⟩) ::
 (nat_lit 22,⟨IF,none,(.seq #[] 0),#[]⟩) ::
 (nat_lit 23,⟨l8,none,(.dict #[dE P "__module__" 196 ON,dE P "__firstlineno__" 200 (.int 2 199),dE P "__static_attributes__" 201 (.ref 22),dE P "__weakref__" 203 (.ref 25),dE P "__doc__" 204 .none] 3),#[]⟩) ::
 (nat_lit 24,⟨tO,none,(.cls ⟨Str.ofString "GroveError",[OP],[OR,OP,d7,OF,iS],23,Str.ofString "GroveError",true,[],[(.ref 37),(.ref 49),(.ref 61),(.ref 73),uP,(.ref 97),(.ref 109),(.ref 121),(.ref 133),tX,(.ref 157),(.ref 169)],false,none,false⟩),#[some (.ref 15),none,some (sV "GroveError" 189),some (sV "GroveError" 197),some Nd,some KM]⟩) ::
 (nat_lit 25,⟨(.type "getset_descriptor"),none,(.fields #[(sV "__weakref__" 202),OR,(.builtin "ExceptionGroup.__weakref__"),.none]),#[]⟩) ::
 (nat_lit 28,⟨IF,none,(.seq #[OR] 0),#[]⟩) ::
 (nat_lit 35,⟨IF,none,(.seq #[] 0),#[]⟩) ::
 (nat_lit 36,⟨l8,none,(.dict #[dE P "__module__" 214 ON,dE P "__firstlineno__" 218 (.int 4 217),dE P "__static_attributes__" 219 (.ref 35),dE P "__doc__" 220 .none] 2),#[]⟩) ::
 (nat_lit 37,⟨tO,none,(.cls ⟨Str.ofString "NoBottom",[OR],[(.ref 37),OR,OP,d7,OF,iS],36,Str.ofString "NoBottom",true,[],[],false,none,false⟩),#[some (.ref 28),none,some (sV "NoBottom" 207),some (sV "NoBottom" 215),some Nd,some KM]⟩) ::
 (nat_lit 40,⟨IF,none,(.seq #[OR] 0),#[]⟩) ::
 (nat_lit 47,⟨IF,none,(.seq #[] 0),#[]⟩) ::
 (nat_lit 48,⟨l8,none,(.dict #[dE P "__module__" 230 ON,dE P "__firstlineno__" 234 (.int 6 233),dE P "__static_attributes__" 235 (.ref 47),dE P "__doc__" 236 .none] 2),#[]⟩) ::
 (nat_lit 49,⟨tO,none,(.cls ⟨Str.ofString "NoTree",[OR],[(.ref 49),OR,OP,d7,OF,iS],48,Str.ofString "NoTree",true,[],[],false,none,false⟩),#[some (.ref 40),none,some (sV "NoTree" 223),some (sV "NoTree" 231),some Nd,some KM]⟩) ::
 (nat_lit 52,⟨IF,none,(.seq #[OR] 0),#[]⟩) ::
 (nat_lit 59,⟨IF,none,(.seq #[] 0),#[]⟩) ::
 (nat_lit 60,⟨l8,none,(.dict #[dE P "__module__" 246 ON,dE P "__firstlineno__" 250 (.int 8 249),dE P "__static_attributes__" 251 (.ref 59),dE P "__doc__" 252 .none] 2),#[]⟩) ::
 (nat_lit 61,⟨tO,none,(.cls ⟨Str.ofString "NoChange",[OR],[(.ref 61),OR,OP,d7,OF,iS],60,Str.ofString "NoChange",true,[],[],false,none,false⟩),#[some (.ref 52),none,some (sV "NoChange" 239),some (sV "NoChange" 247),some Nd,some KM]⟩) ::
 (nat_lit 64,⟨IF,none,(.seq #[OR] 0),#[]⟩) ::
 (nat_lit 71,⟨IF,none,(.seq #[] 0),#[]⟩) ::
 (nat_lit 72,⟨l8,none,(.dict #[dE P "__module__" 262 ON,dE P "__firstlineno__" 266 (.int 10 265),dE P "__static_attributes__" 267 (.ref 71),dE P "__doc__" 268 .none] 2),#[]⟩) ::
 (nat_lit 73,⟨tO,none,(.cls ⟨Str.ofString "NoStart",[OR],[(.ref 73),OR,OP,d7,OF,iS],72,Str.ofString "NoStart",true,[],[],false,none,false⟩),#[some (.ref 64),none,some (sV "NoStart" 255),some (sV "NoStart" 263),some Nd,some KM]⟩) ::
 (nat_lit 76,⟨IF,none,(.seq #[OR] 0),#[]⟩) ::
 (nat_lit 83,⟨IF,none,(.seq #[] 0),#[]⟩) ::
 (nat_lit 84,⟨l8,none,(.dict #[dE P "__module__" 278 ON,dE P "__firstlineno__" 282 (.int 12 281),dE P "__static_attributes__" 283 (.ref 83),dE P "__doc__" 284 .none] 2),#[]⟩) ::
 (nat_lit 85,⟨tO,none,(.cls ⟨Str.ofString "NoTable",[OR],[uP,OR,OP,d7,OF,iS],84,Str.ofString "NoTable",true,[],[],false,none,false⟩),#[some (.ref 76),none,some (sV "NoTable" 271),some (sV "NoTable" 279),some Nd,some KM]⟩) ::
 (nat_lit 88,⟨IF,none,(.seq #[OR] 0),#[]⟩) ::
 (nat_lit 95,⟨IF,none,(.seq #[] 0),#[]⟩) ::
 (nat_lit 96,⟨l8,none,(.dict #[dE P "__module__" 294 ON,dE P "__firstlineno__" 298 (.int 14 297),dE P "__static_attributes__" 299 (.ref 95),dE P "__doc__" 300 .none] 2),#[]⟩) ::
 (nat_lit 97,⟨tO,none,(.cls ⟨Str.ofString "NoName",[OR],[(.ref 97),OR,OP,d7,OF,iS],96,Str.ofString "NoName",true,[],[],false,none,false⟩),#[some (.ref 88),none,some (sV "NoName" 287),some (sV "NoName" 295),some Nd,some KM]⟩) ::
 (nat_lit 100,⟨IF,none,(.seq #[OR] 0),#[]⟩) ::
 (nat_lit 107,⟨IF,none,(.seq #[] 0),#[]⟩) ::
 (nat_lit 108,⟨l8,none,(.dict #[dE P "__module__" 310 ON,dE P "__firstlineno__" 314 (.int 16 313),dE P "__static_attributes__" 315 (.ref 107),dE P "__doc__" 316 .none] 2),#[]⟩) ::
 (nat_lit 109,⟨tO,none,(.cls ⟨Str.ofString "NoWeighing",[OR],[(.ref 109),OR,OP,d7,OF,iS],108,Str.ofString "NoWeighing",true,[],[],false,none,false⟩),#[some (.ref 100),none,some (sV "NoWeighing" 303),some (sV "NoWeighing" 311),some Nd,some KM]⟩) ::
 (nat_lit 112,⟨IF,none,(.seq #[OR] 0),#[]⟩) ::
 (nat_lit 119,⟨IF,none,(.seq #[] 0),#[]⟩) ::
 (nat_lit 120,⟨l8,none,(.dict #[dE P "__module__" 326 ON,dE P "__firstlineno__" 330 (.int 18 329),dE P "__static_attributes__" 331 (.ref 119),dE P "__doc__" 332 .none] 2),#[]⟩) ::
 (nat_lit 121,⟨tO,none,(.cls ⟨Str.ofString "NotAlike",[OR],[(.ref 121),OR,OP,d7,OF,iS],120,Str.ofString "NotAlike",true,[],[],false,none,false⟩),#[some (.ref 112),none,some (sV "NotAlike" 319),some (sV "NotAlike" 327),some Nd,some KM]⟩) ::
 (nat_lit 124,⟨IF,none,(.seq #[OR] 0),#[]⟩) ::
 (nat_lit 131,⟨IF,none,(.seq #[] 0),#[]⟩) ::
 (nat_lit 132,⟨l8,none,(.dict #[dE P "__module__" 342 ON,dE P "__firstlineno__" 346 (.int 20 345),dE P "__static_attributes__" 347 (.ref 131),dE P "__doc__" 348 .none] 2),#[]⟩) ::
 (nat_lit 133,⟨tO,none,(.cls ⟨Str.ofString "NoParts",[OR],[(.ref 133),OR,OP,d7,OF,iS],132,Str.ofString "NoParts",true,[],[],false,none,false⟩),#[some (.ref 124),none,some (sV "NoParts" 335),some (sV "NoParts" 343),some Nd,some KM]⟩) ::
 (nat_lit 136,⟨IF,none,(.seq #[OR] 0),#[]⟩) ::
 (nat_lit 143,⟨IF,none,(.seq #[] 0),#[]⟩) ::
 (nat_lit 144,⟨l8,none,(.dict #[dE P "__module__" 358 ON,dE P "__firstlineno__" 362 (.int 22 361),dE P "__static_attributes__" 363 (.ref 143),dE P "__doc__" 364 .none] 2),#[]⟩) ::
 (nat_lit 145,⟨tO,none,(.cls ⟨Str.ofString "TooMany",[OR],[tX,OR,OP,d7,OF,iS],144,Str.ofString "TooMany",true,[],[],false,none,false⟩),#[some (.ref 136),none,some (sV "TooMany" 351),some (sV "TooMany" 359),some Nd,some KM]⟩) ::
 (nat_lit 148,⟨IF,none,(.seq #[OR] 0),#[]⟩) ::
 (nat_lit 155,⟨IF,none,(.seq #[] 0),#[]⟩) ::
 (nat_lit 156,⟨l8,none,(.dict #[dE P "__module__" 374 ON,dE P "__firstlineno__" 378 (.int 24 377),dE P "__static_attributes__" 379 (.ref 155),dE P "__doc__" 380 .none] 2),#[]⟩) ::
 (nat_lit 157,⟨tO,none,(.cls ⟨Str.ofString "NoText",[OR],[(.ref 157),OR,OP,d7,OF,iS],156,Str.ofString "NoText",true,[],[],false,none,false⟩),#[some (.ref 148),none,some (sV "NoText" 367),some (sV "NoText" 375),some Nd,some KM]⟩) ::
 (nat_lit 160,⟨IF,none,(.seq #[OR] 0),#[]⟩) ::
 (nat_lit 167,⟨IF,none,(.seq #[] 0),#[]⟩) ::
 (nat_lit 168,⟨l8,none,(.dict #[dE P "__module__" 390 ON,dE P "__firstlineno__" 394 (.int 26 393),dE P "__static_attributes__" 395 (.ref 167),dE P "__doc__" 396 .none] 2),#[]⟩) ::
 (nat_lit 169,⟨tO,none,(.cls ⟨Str.ofString "NoLine",[OR],[(.ref 169),OR,OP,d7,OF,iS],168,Str.ofString "NoLine",true,[],[],false,none,false⟩),#[some (.ref 160),none,some (sV "NoLine" 383),some (sV "NoLine" 391),some Nd,some KM]⟩) ::
 (nat_lit 177,cO "fraction_of" 401 29 2 3 172 true 173 .none (.ref 174) (.ref 175) (.ref 176) 407) ::
 (nat_lit 178,fO "fraction_of" 15 "stepgrove.fracs" 399 177) ::
 (nat_lit 184,cO "frac_times" 410 36 2 3 179 true 180 .none (.ref 181) (.ref 182) (.ref 183) 415) ::
 (nat_lit 185,fO "frac_times" 16 "stepgrove.fracs" 399 184) ::
 (nat_lit 191,cO "is_fraction" 418 38 1 3 186 true 187 .none (.ref 188) (.ref 189) (.ref 190) 422) ::
 (nat_lit 192,fO "is_fraction" 17 "stepgrove.fracs" 399 191) ::
 (nat_lit 198,cO "are_fractions" 425 44 1 3 193 true 194 .none (.ref 195) (.ref 196) (.ref 197) 430) ::
 (nat_lit 199,fO "are_fractions" 18 "stepgrove.fracs" 399 198) ::
 (nat_lit 205,cO "is_whole" 433 51 1 3 200 true 201 .none (.ref 202) (.ref 203) (.ref 204) 437) ::
 (nat_lit 206,fO "is_whole" 19 "stepgrove.fracs" 399 205) ::
 (nat_lit 212,cO "greatest_divisor" 440 53 2 3 207 true 208 .none (.ref 209) (.ref 210) (.ref 211) 448) ::
 (nat_lit 213,fO "greatest_divisor" 20 "stepgrove.fracs" 399 212) ::
 (nat_lit 219,cO "common_bottom" 451 61 1 3 214 true 215 .none (.ref 216) (.ref 217) (.ref 218) 457) ::
 (nat_lit 220,fO "common_bottom" 21 "stepgrove.fracs" 399 219) ::
 (nat_lit 224,cO "frac_total" 460 66 1 3 221 true 222 .none .none .none (.ref 223) 463) ::
 (nat_lit 225,fO "frac_total" 22 "stepgrove.fracs" 399 224) ::
 (nat_lit 231,cO "power_of" 466 69 2 3 226 true 227 .none (.ref 228) (.ref 229) (.ref 230) 474) ::
 (nat_lit 232,fO "power_of" 23 "stepgrove.fracs" 399 231) ::
 (nat_lit 238,cO "is_table" 481 82 1 3 233 true 234 .none (.ref 235) (.ref 236) (.ref 237) 485) ::
 (nat_lit 239,fO "is_table" 26 "stepgrove.tables" 477 238) ::
 (nat_lit 245,cO "refuse_no_table" 488 86 1 3 240 true 241 .none (.ref 242) (.ref 243) (.ref 244) 492) ::
 (nat_lit 246,fO "refuse_no_table" 27 "stepgrove.tables" 477 245) ::
 (nat_lit 252,cO "are_rows" 495 89 1 3 247 true 248 .none (.ref 249) (.ref 250) (.ref 251) 501) ::
 (nat_lit 253,fO "are_rows" 28 "stepgrove.tables" 477 252) ::
 (nat_lit 259,cO "trees_of" 508 98 1 3 254 true 255 .none (.ref 256) (.ref 257) (.ref 258) 516) ::
 (nat_lit 260,fO "trees_of" 31 "stepgrove.trees" 504 259) ::
 (nat_lit 266,cO "trees_to" 519 108 1 3 261 true 262 .none (.ref 263) (.ref 264) (.ref 265) 525) ::
 (nat_lit 267,fO "trees_to" 32 "stepgrove.trees" 504 266) ::
 (nat_lit 273,cO "in_falling_order" 528 115 1 3 268 true 269 .none (.ref 270) (.ref 271) (.ref 272) 532) ::
 (nat_lit 274,fO "in_falling_order" 33 "stepgrove.trees" 504 273) ::
 (nat_lit 278,cO "knots_within" 535 117 1 3 275 true 276 .none .none .none (.ref 277) 538) ::
 (nat_lit 279,fO "knots_within" 34 "stepgrove.trees" 504 278) ::
 (nat_lit 285,cO "density_within" 541 119 1 3 280 true 281 .none (.ref 282) (.ref 283) (.ref 284) 547) ::
 (nat_lit 286,fO "density_within" 35 "stepgrove.trees" 504 285) ::
 (nat_lit 290,cO "parents_within" 550 124 1 3 287 true 288 .none .none .none (.ref 289) 553) ::
 (nat_lit 291,fO "parents_within" 36 "stepgrove.trees" 504 290) ::
 (nat_lit 297,cO "trees_one_larger" 556 131 1 3 292 true 293 .none (.ref 294) (.ref 295) (.ref 296) 564) ::
 (nat_lit 298,fO "trees_one_larger" 37 "stepgrove.trees" 504 297) ::
 (nat_lit 302,cO "tops_over" 569 138 2 3 299 true 300 .none .none .none (.ref 301) 572) ::
 (nat_lit 303,fO "tops_over" 39 "stepgrove.wholes" 567 302) ::
 (nat_lit 307,cO "table_bottom" 575 140 1 3 304 true 305 .none .none .none (.ref 306) 578) ::
 (nat_lit 308,fO "table_bottom" 40 "stepgrove.wholes" 567 307) ::
 (nat_lit 312,cO "true_weights" 583 146 1 3 309 true 310 .none .none .none (.ref 311) 586) ::
 (nat_lit 313,fO "true_weights" 42 "stepgrove.weights" 581 312) ::
 (nat_lit 317,cO "weights_under" 589 148 2 3 314 true 315 .none .none .none (.ref 316) 592) ::
 (nat_lit 318,fO "weights_under" 43 "stepgrove.weights" 581 317) ::
 (nat_lit 322,cO "readings" 595 156 3 3 319 true 320 .none .none .none (.ref 321) 598) ::
 (nat_lit 323,fO "readings" 44 "stepgrove.weights" 581 322) ::
 (nat_lit 327,cO "read_by" 601 163 2 3 324 true 325 .none .none .none (.ref 326) 604) ::
 (nat_lit 328,fO "read_by" 45 "stepgrove.weights" 581 327) ::
 (nat_lit 334,cO "table_order" 611 167 1 3 329 true 330 .none (.ref 331) (.ref 332) (.ref 333) 618) ::
 (nat_lit 335,fO "table_order" 48 "stepgrove.orders" 607 334) ::
 (nat_lit 341,cO "first_unlike" 621 175 3 3 336 true 337 .none (.ref 338) (.ref 339) (.ref 340) 630) ::
 (nat_lit 342,fO "first_unlike" 49 "stepgrove.orders" 607 341) ::
 (nat_lit 348,cO "order_paper" 637 182 1 3 343 true 344 .none (.ref 345) (.ref 346) (.ref 347) 643) ::
 (nat_lit 349,fO "order_paper" 52 "stepgrove.judging" 633 348) ::
 (nat_lit 355,cO "judge_paper" 646 189 2 3 350 true 351 .none (.ref 352) (.ref 353) (.ref 354) 652) ::
 (nat_lit 356,fO "judge_paper" 53 "stepgrove.judging" 633 355) ::
 (nat_lit 362,cO "refuse_no_judging" 655 197 1 3 357 true 358 .none (.ref 359) (.ref 360) (.ref 361) 659) ::
 (nat_lit 363,fO "refuse_no_judging" 54 "stepgrove.judging" 633 362) ::
 (nat_lit 369,cO "lines_of" 662 201 2 3 364 true 365 .none (.ref 366) (.ref 367) (.ref 368) 667) ::
 (nat_lit 370,fO "lines_of" 55 "stepgrove.judging" 633 369) ::
 (nat_lit 376,cO "are_true_lines" 670 203 3 3 371 true 372 .none (.ref 373) (.ref 374) (.ref 375) 678) ::
 (nat_lit 377,fO "are_true_lines" 56 "stepgrove.judging" 633 376) ::
 (nat_lit 383,cO "is_due_odd" 681 210 3 3 378 true 379 .none (.ref 380) (.ref 381) (.ref 382) 687) ::
 (nat_lit 384,fO "is_due_odd" 57 "stepgrove.judging" 633 383) ::
 (nat_lit 390,cO "is_line" 690 216 2 3 385 true 386 .none (.ref 387) (.ref 388) (.ref 389) 695) ::
 (nat_lit 391,fO "is_line" 58 "stepgrove.judging" 633 390) ::
 (nat_lit 395,cO "walked_weight" 698 220 2 3 392 true 393 .none .none .none (.ref 394) 701) ::
 (nat_lit 396,fO "walked_weight" 59 "stepgrove.judging" 633 395) ::
 (nat_lit 400,cO "table_behind" 706 230 2 3 397 true 398 .none .none .none (.ref 399) 709) ::
 (nat_lit 401,fO "table_behind" 61 "stepgrove.joins" 704 400) ::
 (nat_lit 405,cO "refuse_too_many_rows" 712 236 1 3 402 true 403 .none .none .none (.ref 404) 715) ::
 (nat_lit 406,fO "refuse_too_many_rows" 62 "stepgrove.joins" 704 405) ::
 (nat_lit 412,cO "_law_cell" 720 240 2 3 407 true 408 .none (.ref 409) (.ref 410) (.ref 411) 729) ::
 (nat_lit 413,fO "_law_cell" 64 "law_stepgrove_k55_tables_that_no_judge_walks" 718 412) ::
 (nat_lit 419,cO "_law_take" 732 252 2 3 414 true 415 .none (.ref 416) (.ref 417) (.ref 418) 738) ::
 (nat_lit 420,fO "_law_take" 65 "law_stepgrove_k55_tables_that_no_judge_walks" 718 419) ::
 (nat_lit 426,cO "_law_shared" 741 256 2 3 421 true 422 .none (.ref 423) (.ref 424) (.ref 425) 746) ::
 (nat_lit 427,fO "_law_shared" 66 "law_stepgrove_k55_tables_that_no_judge_walks" 718 426) ::
 (nat_lit 433,cO "_law_frac" 749 260 2 3 428 true 429 .none (.ref 430) (.ref 431) (.ref 432) 755) ::
 (nat_lit 434,fO "_law_frac" 67 "law_stepgrove_k55_tables_that_no_judge_walks" 718 433) ::
 (nat_lit 454,cO "_law_part" 774 269 1 3 449 true 450 .none (.ref 451) (.ref 452) (.ref 453) 779) ::
 (nat_lit 455,fO "_law_part" 70 "law_stepgrove_k55_tables_that_no_judge_walks" 718 454) ::
 (nat_lit 459,cO "_law_table" 782 272 3 3 456 true 457 .none .none .none (.ref 458) 785) ::
 (nat_lit 460,fO "_law_table" 71 "law_stepgrove_k55_tables_that_no_judge_walks" 718 459) ::
 (nat_lit 464,cO "_law_called" 788 280 1 3 461 true 462 .none .none .none (.ref 463) 791) ::
 (nat_lit 465,fO "_law_called" 72 "law_stepgrove_k55_tables_that_no_judge_walks" 718 464) ::
 (nat_lit 471,cO "_law_flags" 794 292 2 3 466 true 467 .none (.ref 468) (.ref 469) (.ref 470) 803) ::
 (nat_lit 472,fO "_law_flags" 73 "law_stepgrove_k55_tables_that_no_judge_walks" 718 471) ::
 (nat_lit 476,cO "_law_spoiled" 806 305 2 3 473 true 474 .none .none .none (.ref 475) 809) ::
 (nat_lit 477,fO "_law_spoiled" 74 "law_stepgrove_k55_tables_that_no_judge_walks" 718 476) ::
 (nat_lit 483,cO "law" 812 316 1 3 478 true 479 .none (.ref 480) (.ref 481) (.ref 482) 821) ::
 (nat_lit 484,fO "law" 75 "law_stepgrove_k55_tables_that_no_judge_walks" 718 483)::[]
abbrev qX:Program:=view GP [1,2,3,4,5,6,7,8,9,10,11,12,13,15,16,17,18,19,20,21,22,23,25,26,27,28,30,31,32,33,34,35,36,37,39,40,42,43,44,45,47,48,49,51,52,53,54,55,56,57,58,59,61,62,64,65,66,67,68,69,70,71,72,73,74,75]
noncomputable abbrev hX:Hook:=kHook kH [nat_lit 2,nat_lit 3,nat_lit 15,nat_lit 22,nat_lit 23,nat_lit 24,nat_lit 25,nat_lit 28,nat_lit 35,nat_lit 36,nat_lit 37,nat_lit 40,nat_lit 47,nat_lit 48,nat_lit 49,nat_lit 52,nat_lit 59,nat_lit 60,nat_lit 61,nat_lit 64,nat_lit 71,nat_lit 72,nat_lit 73,nat_lit 76,nat_lit 83,nat_lit 84,nat_lit 85,nat_lit 88,nat_lit 95,nat_lit 96,nat_lit 97,nat_lit 100,nat_lit 107,nat_lit 108,nat_lit 109,nat_lit 112,nat_lit 119,nat_lit 120,nat_lit 121,nat_lit 124,nat_lit 131,nat_lit 132,nat_lit 133,nat_lit 136,nat_lit 143,nat_lit 144,nat_lit 145,nat_lit 148,nat_lit 155,nat_lit 156,nat_lit 157,nat_lit 160,nat_lit 167,nat_lit 168,nat_lit 169,nat_lit 177,nat_lit 178,nat_lit 184,nat_lit 185,nat_lit 191,nat_lit 192,nat_lit 198,nat_lit 199,nat_lit 205,nat_lit 206,nat_lit 212,nat_lit 213,nat_lit 219,nat_lit 220,nat_lit 224,nat_lit 225,nat_lit 231,nat_lit 232,nat_lit 238,nat_lit 239,nat_lit 245,nat_lit 246,nat_lit 252,nat_lit 253,nat_lit 259,nat_lit 260,nat_lit 266,nat_lit 267,nat_lit 273,nat_lit 274,nat_lit 278,nat_lit 279,nat_lit 285,nat_lit 286,nat_lit 290,nat_lit 291,nat_lit 297,nat_lit 298,nat_lit 302,nat_lit 303,nat_lit 307,nat_lit 308,nat_lit 312,nat_lit 313,nat_lit 317,nat_lit 318,nat_lit 322,nat_lit 323,nat_lit 327,nat_lit 328,nat_lit 334,nat_lit 335,nat_lit 341,nat_lit 342,nat_lit 348,nat_lit 349,nat_lit 355,nat_lit 356,nat_lit 362,nat_lit 363,nat_lit 369,nat_lit 370,nat_lit 376,nat_lit 377,nat_lit 383,nat_lit 384,nat_lit 390,nat_lit 391,nat_lit 395,nat_lit 396,nat_lit 400,nat_lit 401,nat_lit 405,nat_lit 406,nat_lit 412,nat_lit 413,nat_lit 419,nat_lit 420,nat_lit 426,nat_lit 427,nat_lit 433,nat_lit 434,nat_lit 454,nat_lit 455,nat_lit 459,nat_lit 460,nat_lit 464,nat_lit 465,nat_lit 471,nat_lit 472,nat_lit 476,nat_lit 477,nat_lit 483,nat_lit 484] (fun _=>by kernel_rfl)
noncomputable def dX:DefRec:=⟨Str.ofString "law",HJ (top 75),EE (top 75),AL (top 75),⟨316,0,330,62⟩⟩
theorem pf:CC.wellSaid=true:=(congrFun PySem.W.Fast.te9446332074065402090 _).trans M0
theorem qx(w:Mw)(os:OsState):topGo treeTable GP w 11 Opn.KD 12 ⟨boot_heap w.params,#[],boot_drawn,boot_toks,os⟩ (topStub GP)=some (Opn.sA w os,⟨denote treeTable (Opn.cB GP),Opn.cB GP,Opn.q0,Opn.bB⟩):=by kernel_rfl
theorem qp(w:Mw)(os:OsState):segRun treeTable GP w 11 Opn.KD 1 1 (Opn.sA w os) (blockOf (behindTheImports GP) (Opn.Qh GP) (Opn.cB GP) Opn.q0 Opn.bB)=some (.next,(Opn.sB w os).abs,Opn.cB GP,Opn.q0):=by kernel_rfl
theorem qm(w:Mw)(s:IN):topRun treeTable GP w 11 Opn.KD 2 s (restOf [] (Opn.Qh GP) (Opn.cB GP) ⟨316,0,330,62⟩ Opn.bB)=some s:=by kernel_rfl
theorem rN(w:Mw)(os:OsState):Opn.Yh GP 4316 w os=some (.next,Opn.Yn GP 4316 w os,Opn.cB GP,⟨316,0,330,62⟩):=by kernel_rfl
noncomputable abbrev sX(w:Mw)(os:OsState):Shared:=(Opn.Yn GP 4316 w os).abs
theorem sW(w:Mw)(os:OsState):(staticsOk (importedModules GP.main.body) (boot_heap w.params) (sX w os).heap&&namesBound GP (sX w os).heap&&gensDone (sX w os)&&laidKept (boot_heap w.params) (sX w os).heap)=true:=by kernel_rfl
theorem oY(w:Mw)(os:OsState):hX.obs (sX w os)=hX.val w:=by kernel_rfl
noncomputable abbrev nc:Shared->Bool:=fun s=>xlAt qX [] s&&recOk (RowW.records CC.row.toRowW) s
theorem p8(w:Mw)(os:OsState):openSeen qX [] (importedModules GP.main.body) nc true (sX w os)=openGood qX []:=by kernel_rfl
theorem pY(w:Mw):(fencedOpening treeTable GP w 8756).map (fun s=>(s.heap,s.gens,s.drawn,s.toks))=some (boot_heap w.params,#[],boot_drawn,boot_toks):=boot_open (p:=GP) (N:=8756) M0 M0 (fun _=>by kernel_rfl) w
theorem qK:LeftO GP qX [] nc hX.obs hX.val 8756:=Opn.iV (M:=4331) (S:=sX) pY Opn.pQ (fun w os=>Opn.mq (qx w os) (qp w os) (rN w os) (qm w) M0) M0 sW p8 oY
theorem rR:defOf qX CC.row.name=some (dX,[]):=by kernel_rfl
theorem rS:GP.theDef CC.row.name=some (dX.params,dX.body,dX.scope):=by kernel_rfl
theorem tF:kwWritten? dX.params.kwonlyargs dX.params.kw_defaults=some []:=by kernel_rfl
theorem qj:(chainsOk qX&&opensWell CC.row.prog&&(frees CC.row.toRowW&&CC.row.within.isEmpty))=true:=by kernel_rfl
theorem pI:GP.bare:=⟨rfl,rfl,rfl,rfl,rfl,by decide +kernel⟩
theorem openX(Y:CC.row.toRowW.promised)(Z:WalkO qX [] (XL qX []) hX.says CC.row.toRowW dX [] (fun f vs=>PySem.call f vs)):CC.Holds :=
 holds_law pf fun g=>holds_open (r:=CC.row) (q:=qX) (loose:=[]) (Xt:=nc) (XP:=XL qX []) (Yf:=hX.obs) (Ya:=hX.val) (YP:=hX.says) (d:=dX) (kwd:=[]) (N:=8756) qK hX.of hX.keeps (fun s e=>xl_of s (Bool.and_eq_true_iff.mp e).1) XL.keeps rR rS tF (fun s e=>recFacts_of (Bool.and_eq_true_iff.mp e).2) rfl g qj pI Y Z
end
end Q55
namespace L2
open PySem PySem.Spec PyProof.Rows
abbrev Key:=Sum Int Str
def gc:Key->Value->Bool
 |.inl k,v=>Value.isInt k v
 |.inr x,v=>Value.isStrOf x v
def rJ(w:Mw):Key->Int
 |.inl k=>hashInt k
 |.inr x=>hashStr w x
theorem Dp:∀ {k:Key} {v:Nh},gc k v=true->(∃i t,k=Sum.inl i/\v=Value.int i t)\/(∃x t,k=Sum.inr x/\v=Value.str x t)
 |.inl i,v,h=>by
  obtain⟨t,e⟩:=Value.isInt_shape (k:=i) (v:=v) h;exact .inl ⟨i,t,rfl,e⟩
 |.inr x,v,h=>by
  obtain⟨t,e⟩:=Value.isStrOf_shape (x:=x) (v:=v) h;exact .inr ⟨x,t,rfl,e⟩
theorem md(a b:Int):decide ((Sum.inl a:Key)=Sum.inl b)=(a==b):=by
 by_cases e:a=b
 .subst e;simp
 .have h:¬(Sum.inl a:Key)=Sum.inl b:=fun q=>e (Sum.inl.inj q);rw[decide_eq_false h];exact(beq_eq_false_iff_ne.mpr e).symm
theorem oI(a b:Str):decide ((Sum.inr a:Key)=Sum.inr b)=decide (a=b):=by
 by_cases e:a=b
 .subst e;simp
 .have h:¬(Sum.inr a:Key)=Sum.inr b:=fun q=>e (Sum.inr.inj q);rw[decide_eq_false h,decide_eq_false e]
theorem jy(a:Int)(b:Str):decide ((Sum.inl a:Key)=Sum.inr b)=false:=bM (fun q=>nomatch q)
theorem lj(a:Str)(b:Int):decide ((Sum.inr a:Key)=Sum.inl b)=false:=bM (fun q=>nomatch q)
def YD(prog:Io)(w:Mw):PySem.KeyKind prog w Key where
 is:=gc
 hash:=rJ w
 inj:=fun v a b ha hb=>by
  rcases Dp ha with ⟨i,t,rfl,rfl⟩|⟨x,t,rfl,rfl⟩
  .rcases Dp hb with ⟨j,u,rfl,e⟩|⟨y,u,rfl,e⟩
   .injection e with e1 _;rw[e1]
   .exact nomatch e
  .rcases Dp hb with ⟨j,u,rfl,e⟩|⟨y,u,rfl,e⟩
   .exact nomatch e
   .injection e with e1 _;rw[e1]
 byValue:=fun k v h=>by
  rcases Dp h with ⟨i,t,rfl,rfl⟩|⟨x,t,rfl,rfl⟩<;>rfl
 pyHash:=fun hv h=>by
  rcases Dp hv with ⟨i,t,rfl,rfl⟩|⟨x,t,rfl,rfl⟩
  .exact wpAny_pyHash_int h
  .exact wpAny_pyHash_str h
 eqBool:=fun hu hv h=>by
  rcases Dp hu with ⟨i,t,rfl,rfl⟩|⟨x,t,rfl,rfl⟩
  .rcases Dp hv with ⟨j,u,rfl,rfl⟩|⟨y,u,rfl,rfl⟩
   .rw[md]at h;exact wpAny_eqBool_int h
   .rw[jy]at h;exact SeqAt.EqAt.int_str i t y u _ _ _ _ h
  .rcases Dp hv with ⟨j,u,rfl,rfl⟩|⟨y,u,rfl,rfl⟩
   .rw[lj]at h;exact SeqAt.EqAt.str_int x t j u _ _ _ _ h
   .rw[oI]at h;exact wpAny_eqBool_str h
 «strs»:=fun k x t v h=>by
  rcases Dp h with ⟨i,u,rfl,e⟩|⟨y,u,rfl,e⟩
  .exact nomatch e
  .injection e with e1 _
   subst e1;cases v<;>rfl
inductive V where
 |Bp|bl (b:Bool)|int (i:Int)|str (x:Str)|OA (b:Array UInt8)|Xs (b:UInt64)|ref (a:Addr)|ty (n:String)
 deriving DecidableEq
def RelV:V->Value->Prop
 |.Bp,u=>u=Value.none
 |.bl b,u=>u=Value.bool b
 |.int i,u=>∃t,u=Value.int i t
 |.str x,u=>∃t,u=Value.str x t
 |.OA b,u=>∃t,u=Value.bytes b t
 |.Xs b,u=>∃t,u=Value.float b t
 |.ref a,u=>u=Value.ref a
 |.ty n,u=>u=Value.type n
abbrev Vals:List V->List Value->Prop:=Paired RelV
theorem Vals.length{xs:HQ}{us:FS}(r:Vals xs us):xs.length=us.length:=Paired.length r
theorem Vals.get:∀ {xs:HQ} {us:FS} {i:Nat} {x:V},Vals xs us->xs[i]? = some x->∃u,us[i]? = some u/\RelV x u
 |_,_,_,_,.nil,e=>by simp at e
 |_,_,0,_,.cons r _,e=>by simp at e;subst e;exact⟨_,rfl,r⟩
 |_,_,i+1,x,.cons _ t,e=>by
  obtain⟨u,T,g⟩:=Vals.get (i:=i) (x:=x) t (by simpa using e);exact⟨u,by simpa using T,g⟩
theorem Vals.set{x:V}{u:Nh}(r:RelV x u):∀ {xs:HQ} {us:FS} (i:Nat),Vals xs us->Vals (xs.set i x) (us.set i u)
 |_,_,_,.nil=>.nil
 |_,_,0,.cons _ t=>.cons r t
 |_,_,i+1,.cons q t=>.cons q (Vals.set r i t)
theorem Vals.append:∀ {xs ys:HQ} {us g:FS},Vals xs us->Vals ys g->Vals (xs++ys) (us++g)
 |_,_,_,_,.nil,s=>s
 |_,_,_,_,.cons r t,s=>.cons r (Vals.append t s)
theorem Vals.take:∀ {xs:HQ} {us:FS} (n:Nat),Vals xs us->Vals (xs.take n) (us.take n)
 |_,_,0,_=>.nil
 |_,_,_+1,.nil=>.nil
 |_,_,n+1,.cons r t=>.cons r (Vals.take n t)
theorem Vals.drop:∀ {xs:HQ} {us:FS} (n:Nat),Vals xs us->Vals (xs.drop n) (us.drop n)
 |_,_,0,r=>r
 |_,_,_+1,.nil=>.nil
 |_,_,n+1,.cons _ t=>Vals.drop n t
def eH:Option V->Option Value->Prop
 |some v,some u=>RelV v u
 |none,none=>True
 |_,_=>False
def KV{g:Type}:List (g×V)->List (g×Value)->Prop:=Paired fun(p:g×V) (q:g×Value)=>p.1=q.1/\RelV p.2 q.2
def kV:Key->V
 |.inl i=>.int i
 |.inr x=>.str x
inductive HO where
 |lst (xs:HQ)
 |tup (xs:HQ)
 |dK (kvs:List (Key×V))|dT (kvs:List (List Key×V))
 |set (S:Int->Bool) (n:Nat)
 |ins (C dx:Addr) (fs:List (Str×V))
 |own (x:Addr)
 |xd (fs:List (Str×V))
 |met (f x:Addr)
 |gG (lo hi:Int)
 |GN (o:Obj) (u:HO)
 |Pc (ps:Array Value)
 |ext (φ:Heap->Prop)
abbrev Hp:=Addr->Option HO
def upd(H:Hp)(a:Addr)(o:HO):Hp:=fun b=>if b=a then some o else H b
theorem AR{H:Hp}{a:Addr}{o:HO}:upd H a o a=some o:=by unfold upd;rw[if_pos rfl]
theorem AJ{H:Hp}{a b:Addr}{o:HO}(h:b≠a):upd H a o b=H b:=by unfold upd;rw[if_neg h]
theorem Yw{H:Hp}{a b:Addr}{o u:HO}(h:H a=some o)(h':H b=some u)(d:o≠u):a≠b:=by
 intro e;subst e;rw[h]at h';exact d (ax h')
theorem AV{H:Hp}{a b:Addr}{o:HO}(h:H a=some o)(h':H b=none):a≠b:=by
 intro e;subst e;rw[h]at h';cases h'
section
variable(P:Io)(w:Mw)
def Ci(H:Hp)(h:Heap)(a:Addr):HO->Prop
 |.lst xs=>xs.length<=sizeLine/\∃(g:FS) (n:Nat),Vals xs g/\h.get? a=some { cls:=.type "list",data:=.seq g.toArray n}
 |.tup xs=>xs.length<=sizeLine/\∃g:List Value,Vals xs g/\IsTup h a g.toArray
 |.dK kvs=>kvs.length<=sizeLine/\(a==sysModules)=false/\∃vs,KV kvs vs/\h.DictOf (YD P w) a vs
 |.dT kvs=>kvs.length<=sizeLine/\(a==sysModules)=false/\∃xs:List (List Key×Addr×Value),
   Paired (fun(p:List Key×V) (q:List Key×Addr×Value)=>p.1=q.1/\H q.2.1=some (.tup (p.1.map kV))/\RelV p.2 q.2.2) kvs xs /\
   ∃o es ep,h.get? a=some o/\o.ExactDict/\o.data=.dict es ep/\es.toList=xs.map (entryOfKey (tupleKind (YD P w)))/\(xs.map cx).Nodup
 |.set S n=>h.SetOf (intKind P w) a S n
 |.ins C dx fs=>H dx=some (.own a)/\fs.length<=1000/\dx≠a/\h.get? a=some (PySem.W.instObj C dx) /\
   ∃mA,h.Ns1 dx mA/\(∀f,eH (fs.lookup f) (mA f))/\PySem.Within mA (fs.map cx)
 |.own _=>∃o,h.get? a=some o
 |.xd fs=>∃mA,h.Ns1 a mA/\∀f,eH (fs.lookup f) (mA f)
 |.gG lo hi=>∃t u v,h.get? a=some { cls:=.type "range",data:=.fields #[.int lo t,.int hi u,.int 1 v]}
 |.GN o u=>h.get? a=some o/\Ci H h a u
 |.Pc ps=>h.get? a=some { cls:=.none,data:=.fields ps}
 |.met f x=>h.get? a=some (PySem.W.methodObj (.ref f) (.ref x))
 |.ext φ=>φ h/\(∃o,h.get? a=some o)/\∀U T:Heap,φ U->(∀o,U.get? a=some o->T.get? a=some o)->φ T
def Eo(H:Hp)(h:Heap):Prop:=∀a o,H a=some o->Ci P w H h a o
end
section
variable{P:Io}{w:Mw}{H H':Hp}{h h':Heap}{a:Addr}{o:HO}
theorem Ci.lt(x:Ci P w H h a o):a<h.objs.size:=by
 cases o with
 |lst xs=>obtain⟨_,_,_,_,e⟩:=x;exact aG e
 |tup xs=>obtain⟨_,_,_,p⟩:=x;exact p.lt
 |dK kvs=>obtain⟨_,_,_,_,o,_,_,e,_⟩:=x;exact aG e
 |dT kvs=>obtain⟨_,_,_,_,o,_,_,e,_⟩:=x;exact aG e
 |set S n=>obtain⟨o,_,_,_,e,_⟩:=x;exact aG e
 |ins C dx fs=>obtain⟨_,_,_,e,_⟩:=x;exact aG e
 |own y=>obtain⟨_,e⟩:=x;exact aG e
 |xd fs=>obtain⟨_,⟨_,_,_,e,_⟩,_⟩:=x;exact aG e
 |gG lo hi=>obtain⟨_,_,_,e⟩:=x;exact aG e
 |GN ob u=>obtain⟨e,_⟩:=x;exact aG e
 |Pc ps=>exact aG (show h.get? a=some _ from x)
 |met f y=>exact aG (show h.get? a=some _ from x)
 |ext φ=>obtain⟨_,⟨_,e⟩,_⟩:=x;exact aG e
theorem Paired.nM{α β:Type}{F G:α->β->Prop}:∀ {l₁:tV} {l₂:List β},Paired F l₁ l₂->(∀a b,F a b->G a b)->Paired G l₁ l₂
 |_,_,.nil,_=>.nil
 |_,_,.cons r t,f=>.cons (f _ _ r) (Paired.nM t f)
theorem Ci.Hf(x:Ci P w H h a o)(k:∀b u,(b=a\/H b=some (.own a))->h.get? b=some u->h'.get? b=some u)
 (Y:∀b,H b=some (.own a)->H' b=some (.own a))(U:∀b xs,H b=some Op->H' b=some Op):Ci P w H' h' a o:=by
 induction o with
 |lst xs=>obtain⟨z,g,n,r,e⟩:=x;exact⟨z,g,n,r,k _ _ lm e⟩
 |tup xs=>obtain⟨z,g,r,ob,e,c⟩:=x;exact⟨z,g,r,ob,k _ _ lm e,c⟩
 |dK kvs=>obtain⟨z,y,vs,r,ob,es,ep,e,c⟩:=x;exact⟨z,y,vs,r,ob,es,ep,k _ _ lm e,c⟩
 |dT kvs=>
  obtain⟨z,y,xs,r,ob,es,ep,e,c⟩:=x;exact⟨z,y,xs,Paired.nM r fun p q z=>⟨z.1,U _ _ z.2.1,z.2.2⟩,ob,es,ep,k _ _ lm e,c⟩
 |set S n=>obtain⟨ob,es,ep,t,e,c⟩:=x;exact⟨ob,es,ep,t,k _ _ lm e,c⟩
 |ins C dx fs=>
  obtain⟨d,z,ne,e,mA,⟨od,es,ep,Z,c⟩,r⟩:=x;exact⟨Y _ d,z,ne,k _ _ lm e,mA,⟨od,es,ep,k _ _ (.inr d) Z,c⟩,r⟩
 |own y=>obtain⟨ob,e⟩:=x;exact⟨ob,k _ _ lm e⟩
 |xd fs=>obtain⟨mA,⟨od,es,ep,e,c⟩,r⟩:=x;exact⟨mA,⟨od,es,ep,k _ _ lm e,c⟩,r⟩
 |gG lo hi=>obtain⟨t,u,v,e⟩:=x;exact⟨t,u,v,k _ _ lm e⟩
 |GN ob u T=>obtain⟨e,q⟩:=x;exact⟨k _ _ lm e,T q⟩
 |Pc ps=>
  have e:h.get? a=some { cls:=.none,data:=.fields ps}:=x;show h'.get? a=some { cls:=.none,data:=.fields ps};exact k a _ lm e
 |met f y=>
  have e:h.get? a=some (PySem.W.methodObj (.ref f) (.ref y)):=x;show h'.get? a=some (PySem.W.methodObj (.ref f) (.ref y));exact k a _ lm e
 |ext φ=>obtain⟨p,⟨o,e⟩,st⟩:=x;exact⟨st _ _ p fun o q=>k _ _ lm q,⟨o,k _ _ lm e⟩,st⟩
theorem Eo.lt(x:Eo P w H h)(e:H a=some o):a<h.objs.size:=(x a o e).lt
theorem Eo.fresh(x:Eo P w H h)(e:h.objs.size<=a):H a=none:=by
 cases q:H a with
 |none=>rfl
 |some u=>exact absurd (aH (x.lt q) e) (Nat.lt_irrefl _)
theorem Eo.kept(x:Eo P w H h)(k:∀b u,h.get? b=some u->h'.get? b=some u):Eo P w H h':=fun a o e=>
 (x a o e).Hf (fun b u _ q=>k b u q) (fun _ q=>q) fun _ _ q=>q
theorem Eo.laid(x:Eo P w H h)(k:∀b u,h.get? b=some u->h'.get? b=some u)(g:h.objs.size<=a)(new:Ci P w (upd H a o) h' a o):Eo P w (upd H a o) h':=fun b u e=>by
 have hn:=x.fresh g;by_cases hb:b=a
 .subst hb;rw[AR]at e;cases e;exact new
 .rw[AJ hb]at e;exact(x b u e).Hf (fun c v _ q=>k c v q) (fun c q=>by rw[AJ (AV q hn)];exact q) fun c xs q=>by rw[AJ (AV q hn)];exact q
end
def Rd(H:Hp)(a:Addr)(u:HO):Prop:=H a=some u\/∃o,H a=some (.GN o u)
theorem Rd.ok{P:Io}{w:Mw}{H:Hp}{h:Heap}{a:Addr}{u:HO}(r:Rd H a u)(x:Eo P w H h):Ci P w H h a u:=by
 rcases r with r|⟨o,r⟩
 .exact x a u r
 .obtain⟨_,q⟩:=x a _ r;exact q
def gI:Option HO->Prop
 |some (.lst _)=>True
 |some (.dK _)=>True
 |some (.dT _)=>True
 |some (.set _ _)=>True
 |some (.ins _ _ _)=>True
 |some (.ext _)=>True
 |_=>False
section
variable{P:Io}{w:Mw}{H:Hp}{h h':Heap}{x e:Addr}{o':HO}
theorem Eo.write(ok:Eo P w H h)(U:gI (H x))(he:e=x\/H e=some (.own x))(k:∀b u,b≠e->h.get? b=some u->h'.get? b=some u)(Z:∃u,h'.get? e=some u)
 (new:Ci P w (upd H x o') h' x o'):Eo P w (upd H x o') h':=fun b u q=>by
 have T:∀c y,H c=some (.own y)->c≠x:=fun c y r z=>by subst z;rw[r]at U;exact U
 have VO:∀c xs,H c=some Op->c≠x:=fun c xs r z=>by subst z;rw[r]at U;exact U
 by_cases hb:b=x
 .subst hb;rw[AR]at q;cases q;exact new
 .rw[AJ hb]at q;by_cases g:b=e
  .have q':H b=some (.own x):=by
    rcases he with z|z
    .exact absurd (g.trans z) hb
    .rw[g];exact z
   rw[q]at q';cases q';obtain⟨v,hv⟩:=Z;exact⟨v,by rw[g];exact hv⟩
  .refine(ok b u q).Hf (fun c v Y r=>k c v ?_ r) (fun c r=>by rw[AJ (T c b r)];exact r) fun c xs r=>by rw[AJ (VO c xs r)];exact r
   rcases Y with rfl|Y
   .exact g
   .rintro rfl;rcases he with z|z
    .exact T c b Y z
    .rw[Y]at z;cases z;exact hb rfl
end
structure Un(fs ex:al)(H H':Hp)(h h':Heap):Prop where
 keep:∀b o,h.get? b=some o->H b=none->b ∉ fs->b ∉ ex->h'.get? b=some o
 slot:∀b o,h.get? b=some o->H b=none->b∈fs->b ∉ ex->∃sl,h'.get? b=some {o with slots:=sl}
 free:∀b o,h.get? b=some o->H b=none->b ∉ ex->H' b=none
 there:∀b o,h.get? b=some o->b ∉ ex->∃o',h'.get? b=some o'
 BL:∀b xs,H b=some Op->H' b=some Op
 GY:∀b o u,H b=some (.GN o u)->H' b=some (.GN o u)
 Hi:∀b ps,H b=some (.Pc ps)->∃more,H' b=some (.Pc (ps++more))
 Hd:∀b xs o,H b=some Op->h.get? b=some o->b ∉ ex->h'.get? b=some o
section
variable{fs ex:al}{H H1:Hp}{h h1 h':Heap}{a x e:Addr}{o:HO}
theorem Un.any(u:Un fs ex H H1 h h1){b:Addr}{ob:Obj}(q:h.get? b=some ob)(n:H b=none)(g:b ∉ ex):∃sl,h1.get? b=some {ob with slots:=sl}:=by
 by_cases hb:b∈fs
 .exact u.slot b ob q n hb g
 .exact⟨ob.slots,u.keep b ob q n hb g⟩
theorem Un.kept(k:∀b u,h.get? b=some u->h'.get? b=some u):Un fs ex H H h h' :=
 ⟨fun b ob q _ _ _=>k b ob q,fun b ob q _ _ _=>⟨ob.slots,k b ob q⟩,fun _ _ _ n _=>n,fun b ob q _=>⟨ob,k b ob q⟩,fun _ _ q=>q,fun _ _ _ q=>q,fun _ ps q=>⟨#[],by rw[q];simp⟩,fun _ _ ob _ e _=>k _ ob e⟩
theorem Un.refl:Un fs ex H H h h:=Un.kept fun _ _ q=>q
theorem Un.laid(k:∀b u,h.get? b=some u->h'.get? b=some u)(hp:h.objs.size<=a)(hn:H a=none):Un fs ex H (upd H a o) h h' where
 keep:=fun b u q _ _ _=>k b u q
 slot:=fun b u q _ _ _=>⟨u.slots,k b u q⟩
 free:=fun b u q n _=>by rw[AJ (aJ (aH (aG q) hp))];exact n
 there:=fun b u q _=>⟨u,k b u q⟩
 BL:=fun b xs q=>by rw[AJ (AV q hn)];exact q
 GY:=fun b u xs q=>by rw[AJ (AV q hn)];exact q
 Hi:=fun b ps q=>⟨#[],by rw[AJ (AV q hn),q];simp⟩
 Hd:=fun b _ u _ e _=>k b u e
theorem Un.write(T:gI (H x))(Z:e=x\/H e=some (.own x))(k:∀b u,b≠e->h.get? b=some u->h'.get? b=some u)(U:∃u,h'.get? e=some u):Un fs ex H (upd H x o) h h':=by
 have Y:∀b,H b=none->b≠x:=fun b n z=>by subst z;rw[n]at T;exact T
 have hb:∀b,H b=none->b≠e:=fun b n z=>by
  subst z;rcases Z with r|r
  .exact Y b n r
  .rw[n]at r;cases r
 have hm:∀b u,H b=some u->¬gI (some u)->b≠x:=fun b u q nm z=>by subst z;rw[q]at T;exact nm T
 refine⟨fun b u q n _ _=>k b u (hb b n) q,fun b u q n _ _=>⟨u.slots,k b u (hb b n) q⟩,fun b u q n _=>by rw[AJ (Y b n)];exact n,fun b u q _=>?_,
  fun b xs q=>by rw[AJ (hm b _ q fun z=>z)];exact q,fun b u xs q=>by rw[AJ (hm b _ q fun z=>z)];exact q,fun b ps q=>⟨#[],by rw[AJ (hm b _ q fun z=>z),q];simp⟩,fun b xs u q e _=>k b u (fun z=>by
   rcases Z with r|r
   .exact hm b _ q (fun z=>z) (z.trans r)
   .rw[<-z,q]at r;cases r) e⟩
 by_cases g:b=e
 .subst g;exact U
 .exact⟨u,k b u g q⟩
end
def F5(h:Heap)(H:Hp):List Addr:=(List.range h.objs.size).filter fun a=>(H a).isSome
def NW(h:Heap)(H:Hp):Heap:=PySem.W.hideAll h (F5 h H)
theorem dB(h:Heap)(H:Hp):(NW h H).objs.size=h.objs.size:=PySem.W.hideAll_size _ _
theorem d9{h:Heap}{H:Hp}{b:Addr}{o:Obj}(e:h.get? b=some o)(n:H b=none):(NW h H).get? b=some o :=
 PySem.W.hideAll_get _ e fun hm=>by
  have q:(H b).isSome=true:=(List.mem_filter.mp hm).2;rw[n]at q;simp at q
theorem ic{h:Heap}{H:Hp}{b:Addr}{o:Obj}(e:(NW h H).get? b=some o):h.get? b=some o/\H b=none:=by
 have g:h.get? b=some o:=PySem.W.of_hideAll (F5 h H) e;refine⟨g,?_⟩;cases q:H b with
 |none=>rfl
 |some x=>
  have hm:b∈F5 h H:=List.mem_filter.mpr ⟨ar.mpr (aG g),by simp[q]⟩;have z:(NW h H).get? b=none:=PySem.W.hideAll_none (F5 h H) hm;rw[z]at e;cases e
structure Mod(K:As)(mg:Fa)(base:Heap):Prop where
 P0:K.In base
 glob:base.Ns mainGlobals mg
 blt:∃mb,base.Ns builtinsNs mb/\∀x:Str,x ≠ "__name__" -> mb x=bootBuiltins x
 nolimit:base.NoLimit
def sk(d:Nat):List (List V):=[[],[.ref (d+1)],[.int 1,.int 1],[.ref (d+3)],[.ref (d+2),.ref (d+4)],[],[.int 1,.int 2],[.ref (d+7)],[.ref (d+6),.ref (d+8)],[.int 0,.int 1],[.int 1,.int 1],[.ref (d+10),.ref (d+11)],[.ref (d+9),.ref (d+12)],[],[.int 1,.int 1],[.ref (d+15)],[.ref (d+14),.ref (d+16)],[.int 1,.int 2],[.int 1,.int 2],[.ref (d+18),.ref (d+19)],[.ref (d+17),.ref (d+20)],[],[.int 1,.int 3],[.ref (d+23)],[.int 0,.int 1],[.int 2,.int 3],[.ref (d+25),.ref (d+26)],[.ref (d+22),.ref (d+24),.ref (d+27)],[.int 1,.int 4],[.int 0,.int 1],[.int 3,.int 4],[.ref (d+29),.ref (d+30),.ref (d+31)],[.ref (d+28),.ref (d+32)],[],[.int 1,.int 2],[.ref (d+35)],[.int 0,.int 1],[.int 1,.int 2],[.ref (d+37),.ref (d+38)],[.int 0,.int 1],[.int 0,.int 1],[.int 1,.int 1],[.ref (d+40),.ref (d+41),.ref (d+42)],[.ref (d+34),.ref (d+36),.ref (d+39),.ref (d+43)],[.int 1,.int 6],[.int 1,.int 3],[.int 1,.int 3],[.int 1,.int 6],[.ref (d+45),.ref (d+46),.ref (d+47),.ref (d+48)],[.ref (d+44),.ref (d+49)]]
def se(d:Nat):List (Key×V):=[(.inr "plain",.ref (d+5)),(.inr "middle",.ref (d+13)),(.inr "heel",.ref (d+21)),(.inr "third",.ref (d+33)),(.inr "fourth",.ref (d+50))]
def KTb(mg:Fa)(H:Hp):Prop:=∀d:Addr,mg "NAMED_TABLES" = some (.ref d)->(∃o,H d=some (.GN o (.dK (se d))))/\∀j xs,(sk d)[j]? = some xs->H (d+1+j)=some Op
theorem KTb.un{mg:Fa}{fs ex:al}{H H':Hp}{h h':Heap}(k:KTb mg H)(u:Un fs ex H H' h h'):KTb mg H':=fun d e=>by
 obtain⟨⟨o,T⟩,g⟩:=k d e;exact⟨⟨o,u.GY _ _ _ T⟩,fun j xs q=>u.BL _ _ (g j xs q)⟩
structure Cx where
 prog:Program
 w:World
 K:PySem.W.Frag
 mg:Str->Option Value
 base:Heap
 A:Around
 N:List Str
 s₀:Shared
 H₀:Hp
 env:Env
 outer:List Env
 stack:List Env
 ex:List Addr
 fn:Str->Bool
 calm:Bool
 pn:List (Addr×Obj)
 xe:Value->Shared->Prop
def Gq(l:List Env):List Addr:=l.filterMap (·.frame)
abbrev Cx.fs(X:Cx):List Addr:=Gq X.outer
def mK(sc:Scope)(x:Str):Prop:=sc.names.lookup x=some .local\/sc.names.lookup x=some .cell\/sc.names.lookup x=some .free
def Loc(sc:Scope)(x:Str):Prop:=sc.names.lookup x=some .local\/sc.names.lookup x=some .cell
def Look(env:Env)(h:Heap)(m:Fa)(x:Str)(u:Nh):Prop :=
 (env.kindOf x=some .local/\m x=some u)\/((env.kindOf x=some .cell\/env.kindOf x=some .free)/\∃c,env.cells.lookup x=some c/\h.IsCell c (some u))
structure Cx.Ok(X:Cx):Prop where
 mod:Mod X.K X.mg X.base
 kind:X.env.scope.kind=.function
 glob:X.env.globals=mainGlobals
 blt:X.env.builtins=builtinsNs
 above:X.s₀.heap.objs.size<=X.env.locals
 inj:∀x y c,X.env.cells.lookup x=some c->X.env.cells.lookup y=some c->x=y
 has:∀x,(X.env.kindOf x=some .cell\/X.env.kindOf x=some .free)->∃c,X.env.cells.lookup x=some c
 WM:∀x c,X.fn x=true->X.env.cells.lookup x=some c->X.s₀.heap.objs.size<=c
 hd:X.calm=true->X.A.handled=none
 frames:X.A.frames=some X.stack
 dM:X.stack=X.outer\/(X.stack=X.env::X.outer/\X.env.frame=some X.env.locals)
 lS:∀b∈X.ex,b≠X.env.locals/\∀x c,X.env.cells.lookup x=some c->c≠b
 bs:∀b o,X.base.get? b=some o->X.s₀.heap.get? b=some o/\X.H₀ b=none
 Rm:X.base.objs.size<=X.s₀.heap.objs.size
 SV:∀b o,X.base.get? b=some o->b ∉ X.ex
 Sx:∀b∈X.ex,b ∉ X.fs
 Il:X.s₀.heap.FunFrames X.base X.outer
 Qv:∀b∈X.fs,X.H₀ b=none
 kt:KTb X.mg X.H₀
structure Inv(X:Cx)(pins:Da)(σ:List (Option V))(H:Hp)(s:IN):Prop where
 ok:X.Ok
 os:s.os=X.s₀.os
 bare:AllBare s.gens
 base:Un X.fs X.ex X.H₀ H X.s₀.heap s.heap
 loc:∃m,s.heap.Ns X.env.locals m/\∀(i:Nat) (x:Str) (v:V),X.N[i]? = some x->σ[i]? = some (some v)->mK X.env.scope x->∃u,RelV v u/\Look X.env s.heap m x u
 cell:∀x c,X.env.cells.lookup x=some c->∃v,s.heap.IsCell c v
 free:H X.env.locals=none
 Gn:∀x c,X.env.cells.lookup x=some c->H c=none
 pin:∀p∈X.pn++pins,s.heap.get? p.1=some p.2/\H p.1=none/\p.1≠X.env.locals/\p.1 ∉ X.fs/\∀v,p.2.data≠.cell v
 Av:Eo X.prog X.w H s.heap
 len:σ.length=X.N.length
theorem Inv.kt{X:Cx}{pins:Da}{σ:List (Option V)}{H:Hp}{s:IN}(I:Db):KTb X.mg H:=I.ok.kt.un I.base
section
variable{X:Cx}{pins:Da}{σ:List (Option V)}{H H':Hp}{s:IN}{h':Heap}
theorem Cx.Ok.sS(ok:X.Ok){b:Addr}{o:Obj}(e:X.base.get? b=some o):b ∉ X.fs:=fun hb=>by
 have:=(ok.Il.mem hb).1;rw[e]at this;cases this
theorem Inv.bs(I:Db):∀b o,X.base.get? b=some o->s.heap.get? b=some o/\H b=none:=fun b o e=>
 ⟨I.base.keep b o (I.ok.bs b o e).1 (I.ok.bs b o e).2 (I.ok.sS e) (I.ok.SV b o e),I.base.free b o (I.ok.bs b o e).1 (I.ok.bs b o e).2 (I.ok.SV b o e)⟩
theorem Inv.bk(I:Db):∀b o,X.base.get? b=some o->s.heap.get? b=some o:=fun b o e=>(I.bs b o e).1
theorem Inv.mod(I:Db):Mod X.K X.mg X.base:=I.ok.mod
theorem Inv.HU(I:Db):X.K.In s.heap:=I.ok.mod.P0.keeps I.bk
theorem Inv.lt(I:Db):X.env.locals<s.heap.objs.size:=let⟨_,hn,_⟩:=I.loc;hn.lt
theorem Inv.sz(I:Db):X.s₀.heap.objs.size<=s.heap.objs.size:=aQ I.ok.above (bD I.lt)
theorem Inv.rV(I:Db){a:Addr}(h:s.heap.objs.size<=a):a ∉ X.fs:=fun hb=>by
 obtain⟨_,o,g,_⟩:=I.ok.Il.mem hb;exact absurd (aH (aG g) (aQ I.sz h)) (Nat.lt_irrefl _)
theorem Inv.RE(I:Db):∀x c,X.env.cells.lookup x=some c->c≠X.env.locals:=fun x c e z=>by
 obtain⟨v,o,U,hd⟩:=I.cell x c e;obtain⟨m,⟨o',es,ep,g,T,_⟩,_⟩:=I.loc;rw[z,g]at U;cases U;rw[T]at hd;cases hd
theorem Inv.Il(I:Db):s.heap.FunFrames X.base X.outer:=by
 have all:∀(l:List Env),(∀b∈Gq l,b∈X.fs)->X.s₀.heap.FunFrames X.base l->s.heap.FunFrames X.base l:=by
  intro l
  induction l with
  |nil=>intro _ _;trivial
  |cons env r Y=>
   intro U hl;obtain⟨hk,⟨L,o,g,hn,ho,hd⟩,Z⟩:=hl;have T:L∈X.fs:=U L (by unfold Gq;rw[List.filterMap_cons,g];exact af);obtain⟨sl,e⟩:=I.base.slot L o ho (I.ok.Qv L T) T fun z=>I.ok.Sx L z T;exact⟨hk,⟨L,_,g,hn,e,hd⟩,Y (fun b hb=>U b (by unfold Gq;rw[List.filterMap_cons,g];exact aT _ hb)) Z⟩
 exact all X.outer (fun _ hb=>hb) I.ok.Il
theorem Inv.stack(I:Db):s.heap.FunFrames X.base X.stack:=by
 rcases I.ok.dM with e|⟨e,g⟩
 .rw[e];exact I.Il
 .rw[e];obtain⟨m,hn,_⟩:=I.loc;refine .cons (by rw[I.ok.kind];decide) g hn ?_ I.Il;exact Heap.get?_none_of_le (aQ I.ok.Rm I.ok.above)
theorem Inv.Oj(I:Db):∀b∈Gq X.stack,b∈X.env.locals::X.fs:=fun b hb=>by
 rcases I.ok.dM with e|⟨e,g⟩
 .rw[e]at hb;exact aT _ hb
 .rw[e]at hb;unfold Gq at hb;rw[List.filterMap_cons,g]at hb;exact hb
theorem Inv.S6(I:Db):∀b∈Gq X.stack,H b=none:=fun b hb=>by
 rcases aO.mp (I.Oj b hb) with e|hb
 .rw[e];exact I.free
 .obtain⟨_,o,g,_⟩:=I.ok.Il.mem hb;exact I.base.free b o g (I.ok.Qv b hb) fun z=>I.ok.Sx b z hb
theorem Inv.step{g':Array GenState}{t':Nat}{d':Drawn}{ch:al}(I:Db)
 (Y:P7)
 (keep:∀b o,b≠X.env.locals->b ∉ X.fs->b ∉ ch->s.heap.get? b=some o->H b=none->h'.get? b=some o)
 (slot:∀b o,b≠X.env.locals->b∈X.fs->b ∉ ch->s.heap.get? b=some o->H b=none->∃sl,h'.get? b=some {o with slots:=sl})(free:∀b o,b ∉ ch->s.heap.get? b=some o->H b=none->H' b=none)
 (there:∀b o,b ∉ ch->s.heap.get? b=some o->∃o',h'.get? b=some o')
 (BL:∀b xs,H b=some Op->H' b=some Op)(GY:∀b o u,H b=some (.GN o u)->H' b=some (.GN o u))(Hi:∀b ps,H b=some (.Pc ps)->∃more,H' b=some (.Pc (ps++more)))
 (Hd:∀b xs o,b ∉ ch->H b=some Op->s.heap.get? b=some o->h'.get? b=some o)
 (ns:∀m,s.heap.Ns X.env.locals m->h'.Ns X.env.locals m)(Av:Eo X.prog X.w H' h')(hg:AllBare g') :
  Inv X pins σ H' {s with heap:=h',gens:=g',drawn:=d',toks:=t'}:=by
 have neL:∀b o,X.s₀.heap.get? b=some o->b≠X.env.locals:=fun b o e=>aJ (aH (aG e) I.ok.above);have T:∀b o,X.s₀.heap.get? b=some o->b ∉ X.ex->b ∉ ch:=fun b o e g hb=>by
  rcases(Y b hb).1 with z|z
  .exact g z
  .exact absurd (aH (aG e) z) (Nat.lt_irrefl _)
 have cellK:∀x c,X.env.cells.lookup x=some c->∀v,s.heap.IsCell c v->h'.IsCell c v:=fun x c e v ⟨o,ho,hd⟩=>by
  have U:c ∉ ch:=fun z=>(Y c z).2.2.1 x c e rfl;by_cases hc:c∈X.fs
  .obtain⟨sl,q⟩:=slot c o (I.RE x c e) hc U ho (I.Gn x c e);exact⟨_,q,hd⟩
  .exact⟨o,keep c o (I.RE x c e) hc U ho (I.Gn x c e),hd⟩
 refine⟨I.ok,I.os,hg,⟨fun b o e n hb g=>?_,fun b o e n hb g=>?_,fun b o e n g=>?_,fun b o e g=>?_,fun b xs e=>BL b xs (I.base.BL b xs e),fun b o xs e=>GY b o xs (I.base.GY b o xs e),fun b ps e=>?_,fun b xs o q e g=>Hd b xs o (T b o e g) (I.base.BL b xs q) (I.base.Hd b xs o q e g)⟩,?_,fun x c e=>?_,?_,fun x c e=>?_,fun p hp=>?_,Av,I.len⟩
 .exact keep b o (neL b o e) hb (T b o e g) (I.base.keep b o e n hb g) (I.base.free b o e n g)
 .obtain⟨sl,Z⟩:=I.base.slot b o e n hb g;obtain⟨sl',e2⟩:=slot b _ (neL b o e) hb (T b o e g) Z (I.base.free b o e n g);exact⟨sl',e2⟩
 .obtain⟨o',Z⟩:=I.base.there b o e g;exact free b o' (T b o e g) Z (I.base.free b o e n g)
 .obtain⟨o',Z⟩:=I.base.there b o e g;exact there b o' (T b o e g) Z
 .obtain⟨m1,Z⟩:=I.base.Hi b ps e;obtain⟨m2,e2⟩:=Hi b _ Z;exact⟨m1++m2,by rw[e2,Array.append_assoc]⟩
 .obtain⟨m,hn,hl⟩:=I.loc;refine⟨m,ns m hn,fun i x v Z e2 e3=>?_⟩;obtain⟨u,r,l⟩:=hl i x v Z e2 e3;refine⟨u,r,?_⟩;rcases l with l|⟨k,c,e,z⟩
  .exact .inl l
  .exact .inr ⟨k,c,e,cellK x c e _ z⟩
 .obtain⟨v,z⟩:=I.cell x c e;exact⟨v,cellK x c e v z⟩
 .obtain⟨m,⟨o,_,_,ho,_⟩,_⟩:=I.loc;exact free _ o (fun z=>(Y _ z).2.1 rfl) ho I.free
 .obtain⟨v,o,ho,hd⟩:=I.cell x c e;exact free c o (fun z=>(Y c z).2.2.1 x c e rfl) ho (I.Gn x c e)
 .obtain⟨e,n,ne,nf,d⟩:=I.pin p hp;have U:p.1 ∉ ch:=fun z=>(Y p.1 z).2.2.2 p hp rfl;exact⟨keep p.1 p.2 ne nf U e n,free p.1 p.2 U e n,ne,nf,d⟩
theorem Inv.un{t':Nat}(I:Db)(u:Un X.fs [] H H' s.heap h')(Av:Eo X.prog X.w H' h'):Inv X pins σ H' {s with heap:=h',toks:=t'}:=by
 obtain⟨m,⟨o,es,ep,Y,r⟩,_⟩:=id I.loc;obtain⟨sl,hL⟩:=u.any Y I.free Ch;exact I.step (g':=s.gens) (d':=s.drawn) (ch:=[]) (fun _ z=>nomatch z) (fun b o _ hb _ e n=>u.keep b o e n hb Ch) (fun b o _ hb _ e n=>u.slot b o e n hb Ch) (fun b o _ e n=>u.free b o e n Ch) (fun b o _ e=>u.there b o e Ch) u.BL u.GY u.Hi (fun b xs o _ q e=>u.Hd b xs o q e Ch) (fun m' hm=>by
  obtain⟨o',T,U,g,Z⟩:=hm;rw[Y]at g;cases g;exact⟨_,T,U,hL,Z⟩) Av I.bare
theorem Inv.call{g':Array GenState}{t':Nat}{d':Drawn}{ch:al}(I:Db)(u:Un (Gq X.stack) ch H H' s.heap h')(Av:Eo X.prog X.w H' h')(hg:AllBare g')
 (U:P7) :
  Inv X pins σ H' {s with heap:=h',gens:=g',drawn:=d',toks:=t'}:=by
 obtain⟨m,⟨o,es,ep,ho,r⟩,_⟩:=id I.loc;obtain⟨sl,Y⟩:=u.any ho I.free fun z=>(U _ z).2.1 rfl;exact I.step (ch:=ch) U (fun b o Y hb g e n=>u.keep b o e n (fun z=>(aO.mp (I.Oj b z)).elim Y hb) g) (fun b o _ _ g e n=>u.any e n g) (fun b o g e n=>u.free b o e n g) (fun b o g e=>u.there b o e g) u.BL u.GY u.Hi (fun b xs o g q e=>u.Hd b xs o q e g) (fun m' hm=>by
  obtain⟨o',Z,ep',T,r'⟩:=hm;rw[ho]at T;cases T;exact⟨_,Z,ep',Y,r'⟩) Av hg
theorem Inv.turned{t':Nat}{it:Addr}(I:Db)(k:∀b o,b≠it->s.heap.get? b=some o->h'.get? b=some o)(hn:H it=none)(U:it≠X.env.locals)
 (h1:it∈X.ex\/X.s₀.heap.objs.size<=it)(h2:∀x c,X.env.cells.lookup x=some c->c≠it)(Z:∀p∈X.pn++pins,p.1≠it):Inv X pins σ H {s with heap:=h',toks:=t'}:=by
 have T:∀b u,H b=some u->b≠it:=fun b u e z=>by rw[z,hn]at e;cases e
 refine I.step (g':=s.gens) (d':=s.drawn) (ch:=[it]) (fun b hb=>?_) (fun b o _ _ g e _=>k b o (fun z=>g (by simp[z])) e) (fun b o _ _ g e _=>⟨o.slots,k b o (fun z=>g (by simp[z])) e⟩) (fun _ _ _ _ n=>n)
  (fun b o g e=>⟨o,k b o (fun z=>g (by simp[z])) e⟩) (fun _ _ e=>e) (fun _ _ _ e=>e) (fun b ps e=>⟨#[],by rw[e];simp⟩) (fun b xs o g _ e=>k b o (fun z=>g (by simp[z])) e) (fun m hm=>?_) (fun b u e=>?_) I.bare
 .have e:b=it:=by simpa using hb
  subst e;exact⟨h1,U,h2,Z⟩
 .obtain⟨o,es,ep,Y,r⟩:=hm;exact⟨o,es,ep,k _ o (Ne.symm U) Y,r⟩
 .refine(I.Av b u e).Hf (fun c v g q=>k c v ?_ q) (fun _ q=>q) fun _ _ q=>q;rcases g with z|z
  .rw[z];exact T b u e
  .exact T c _ z
theorem Inv.tok(I:Db)(t:Nat):Inv X pins σ H {s with toks:=t}:=I.un (h':=s.heap) (t':=t) Un.refl I.Av
theorem Inv.kept{t':Nat}(I:Db)(k:∀b u,s.heap.get? b=some u->h'.get? b=some u):Inv X pins σ H {s with heap:=h',toks:=t'}:=I.un (Un.kept k) (I.Av.kept k)
theorem Inv.laid{a:Addr}{o:HO}{t':Nat}(I:Db)(k:∀b u,s.heap.get? b=some u->h'.get? b=some u)(g:s.heap.objs.size<=a)(new:Ci X.prog X.w (upd H a o) h' a o) :
  Inv X pins σ (upd H a o) {s with heap:=h',toks:=t'}:=I.un (Un.laid k g (I.Av.fresh g)) (I.Av.laid k g new)
theorem Inv.write{x e:Addr}{o:HO}{t':Nat}(I:Db)(T:gI (H x))(U:e=x\/H e=some (.own x))(k:∀b u,b≠e->s.heap.get? b=some u->h'.get? b=some u)(g:∃u,h'.get? e=some u)
 (new:Ci X.prog X.w (upd H x o) h' x o):Inv X pins σ (upd H x o) {s with heap:=h',toks:=t'}:=I.un (Un.write T U k g) (I.Av.write T U k g new)
theorem Inv.Xm{g:Da}(I:Db)(h:∀p∈g,s.heap.get? p.1=some p.2/\H p.1=none/\p.1≠X.env.locals/\p.1 ∉ X.fs/\∀v,p.2.data≠.cell v):Inv X g σ H s :=
 ⟨I.ok,I.os,I.bare,I.base,I.loc,I.cell,I.free,I.Gn,fun p T=>(bH.mp T).elim (fun z=>I.pin p (bf _ z)) (h p),I.Av,I.len⟩
theorem QP{N:MA}(g:N.Nodup){i j:Nat}{x:Str}(a:N[i]? = some x)(b:N[j]? = some x):i=j:=by
 obtain⟨Z,U⟩:=aE.mp a;obtain⟨Y,T⟩:=aE.mp b;exact(List.getElem_inj g).mp (U.trans T.symm)
theorem Ol{M:Model}{A:Re}{E:AT}{i:Nat}{x:Str}{v:V}{u:Nh}{Q:Unit->Shared->Prop}(I:Db)(hN:X.N.Nodup)(hi:X.N[i]? = some x)(T:Loc X.env.scope x)(r:RelV v u)
 (h:∀s',Inv X pins (σ.set i (some v)) H s'->(∃a,Heap.SameBut a s.heap s'.heap/\(a=X.env.locals\/X.env.cells.lookup x=some a))->Q () s')(hf:X.fn x=true\/X.env.scope.names.lookup x=some .local:=by first|exact .inl rfl|exact .inr rfl|assumption):wpAny M A (storeName X.env x u) Q E s:=by
 obtain⟨m,hn,hl⟩:=id I.loc;have hcls:(X.env.scope.kind==.class||(X.env.scope.kind==.module&&X.env.locals != X.env.globals))=false:=by rw[I.ok.kind];rfl
 have hiσ:i<σ.length:=by rw[I.len];exact(aE.mp hi).1
 have RE:=I.RE;have tracked:∀ {a:Addr} {h':Heap},(∃o,s.heap.get? a=some o/\H a=none)->Heap.SameBut a s.heap h'->Eo X.prog X.w H h':=fun {a h'} ha g b ob e=>by
  obtain⟨_,_,Z⟩:=ha;refine(I.Av b ob e).Hf (fun c w' Y q=>(g.2 c ?_).trans q) (fun _ q=>q) fun _ _ q=>q;rintro rfl;rcases Y with rfl|Y
  .rw[Z]at e;cases e
  .rw[Z]at Y;cases Y
 rcases T with hk|hk
 .refine wpAny_storeName_local hk hn (fun h' hn' g=>?_) hcls;obtain⟨oL,_,_,hoL,_⟩:=id hn;refine h _ ⟨I.ok,I.os,I.bare,⟨fun b o e n hb T=>?_,fun b o e n hb T=>?_,I.base.free,fun b o e T=>?_,I.base.BL,I.base.GY,I.base.Hi,fun b xs o q e T=>(g.2 b nw).trans (I.base.Hd b xs o q e T)⟩,⟨_,hn',fun j y v' U e2 e3=>?_⟩,fun y c e=>?_,I.free,I.Gn,fun p hp=>?_,tracked ⟨oL,hoL,I.free⟩ g,by simpa using I.len⟩ ⟨_,g,.inl rfl⟩
  .exact(g.2 b nw).trans (I.base.keep b o e n hb T)
  .obtain⟨sl,U⟩:=I.base.slot b o e n hb T;exact⟨sl,(g.2 b nw).trans U⟩
  .obtain⟨o',U⟩:=I.base.there b o e T;exact⟨o',(g.2 b nw).trans U⟩
  .by_cases hj:j=i
   .subst hj;rw[hi]at U;cases U;rw[List.getElem?_set_self hiσ]at e2;cases e2;exact⟨u,r,.inl ⟨hk,by simp⟩⟩
   .rw[List.getElem?_set_ne (Ne.symm hj)]at e2;obtain⟨u',r',q⟩:=hl j y v' U e2 e3;refine⟨u',r',?_⟩;rcases q with ⟨k,e⟩|⟨k,c,e,z⟩
    .refine .inl ⟨k,?_⟩;have:y≠x:=fun e=>hj (QP hN U (e ▸ hi));simp[this,e]
    .exact .inr ⟨k,c,e,z.sameBut g (RE y c e)⟩
  .obtain⟨w',z⟩:=I.cell y c e;exact⟨w',z.sameBut g (RE y c e)⟩
  .obtain⟨e,n,ne,nf,d⟩:=I.pin p hp;exact⟨(g.2 p.1 ne).trans e,n,ne,nf,d⟩
 .have hfn:X.fn x=true:=by
   rcases hf with z|z
   .exact z
   .rw[z]at hk;cases hk
  obtain⟨c,Y⟩:=I.ok.has x (.inl hk);obtain⟨w',z⟩:=I.cell x c Y;refine wpAny_storeName_cell I.ok.kind hk Y z (fun h' hc' g=>?_);obtain⟨oc,hoc,hocd⟩:=id z;refine h Pz ⟨I.ok,I.os,I.bare,⟨fun b o e n hb T=>?_,fun b o e n hb T=>?_,I.base.free,fun b o e T=>?_,I.base.BL,I.base.GY,I.base.Hi,fun b xs o q e T=>(g.2 b (aJ (aH (aG e) (I.ok.WM x c hfn Y)))).trans (I.base.Hd b xs o q e T)⟩,⟨m,hn.sameBut g (Ne.symm (RE x c Y)),fun j y v' U e2 e3=>?_⟩,fun y c' e=>?_,I.free,I.Gn,fun p hp=>?_,tracked ⟨oc,hoc,I.Gn x c Y⟩ g,by simpa using I.len⟩ ⟨c,g,.inr Y⟩
  .exact(g.2 b (aJ (aH (aG e) (I.ok.WM x c hfn Y)))).trans (I.base.keep b o e n hb T)
  .obtain⟨sl,U⟩:=I.base.slot b o e n hb T;exact⟨sl,(g.2 b (aJ (aH (aG e) (I.ok.WM x c hfn Y)))).trans U⟩
  .obtain⟨o',U⟩:=I.base.there b o e T;exact⟨o',(g.2 b (aJ (aH (aG e) (I.ok.WM x c hfn Y)))).trans U⟩
  .by_cases hj:j=i
   .subst hj;rw[hi]at U;cases U;rw[List.getElem?_set_self hiσ]at e2;cases e2;exact⟨u,r,.inr ⟨.inl hk,c,Y,hc'⟩⟩
   .rw[List.getElem?_set_ne (Ne.symm hj)]at e2;obtain⟨u',r',q⟩:=hl j y v' U e2 e3;refine⟨u',r',?_⟩;rcases q with q|⟨k,c',e,z'⟩
    .exact .inl q
    .refine .inr ⟨k,c',e,z'.sameBut g ?_⟩;rintro rfl;exact hj (QP hN U (I.ok.inj _ _ _ e Y ▸ hi))
  .by_cases hcc:c'=c
   .subst hcc;exact⟨_,hc'⟩
   .obtain⟨w2,z2⟩:=I.cell y c' e;exact⟨w2,z2.sameBut g hcc⟩
  .obtain⟨e,n,ne,nf,d⟩:=I.pin p hp;refine⟨(g.2 p.1 ?_).trans e,n,ne,nf,d⟩;intro q;rw[q,hoc]at e;have q':oc=p.2:=ax e;exact d w' (by rw[<-q'];exact hocd)
theorem K5{M:Model}{A:Re}{E:AT}{i:Nat}{x:Str}{v:V}{u:Nh}{Q:Unit->Shared->Prop}(I:Db)(U:X.N.Nodup)(hi:X.N[i]? = some x)(g:Loc X.env.scope x)(r:RelV v u)
 (h:∀s',Inv X pins (σ.set i (some v)) H s'->Q () s')(T:X.fn x=true\/X.env.scope.names.lookup x=some .local:=by first|exact .inl rfl|exact .inr rfl|assumption):wpAny M A (storeName X.env x u) Q E s :=
 Ol I U hi g r (fun s' Y _=>h s' Y) T
theorem Inv.gU{s':IN}{ch:al}(I:Db)(Z:s'.os=s.os)(u:Un (Gq X.stack) ch H H' s.heap s'.heap)(Av:Eo X.prog X.w H' s'.heap)(hg:AllBare s'.gens)
 (g:P7):Inv X pins σ H' s':=by
 obtain⟨h',U,Y,T,o'⟩:=s';have e:o'=s.os:=Z;subst e;exact I.call (g':=U) (t':=T) (d':=Y) u Av hg g
end
abbrev XK:=Value->Option Addr->Hp->Prop
abbrev St:=List (Option V)
abbrev VK:=V->Hp->Prop
abbrev TE:=St->Hp->VK->Prop
abbrev TT:=St->Hp->(Bool->Hp->Prop)->Prop
abbrev TA:=St->Hp->(List V->Hp->Prop)->Prop
structure Ends where
 nx:St->Hp->Prop
 rt:VK
 bk:St->Hp->Prop:=fun _ _=>False
 ct:St->Hp->Prop:=fun _ _=>False
abbrev TS:=Ends->St->Hp->Prop
def EP(X:Cx)(pins:Da)(σ:St)(Q:VK)(u:Nh)(s':IN):Prop:=∃v H',Inv X pins σ H' s'/\RelV v u/\Q v H'
def TP(X:Cx)(pins:Da)(σ:St)(Q:Bool->Hp->Prop)(b:Bool)(s':IN):Prop:=∃H',Inv X pins σ H' s'/\Q b H'
def AP(X:Cx)(pins:Da)(σ:St)(Q:List V->Hp->Prop)(us:FS)(s':IN):Prop:=∃vs H',Inv X pins σ H' s'/\Vals vs us/\Q vs H'
def SP(X:Cx)(pins:Da)(D:Ends)(f:Flow)(s':IN):Prop :=
 match f with
 |.next=>∃g H',Inv X pins g H' s'/\D.nx g H'
 |.brk=>∃g H',Inv X pins g H' s'/\D.bk g H'
 |.cont=>∃g H',Inv X pins g H' s'/\D.ct g H'
 |.ret u=>∃v g H',Inv X pins g H' s'/\RelV v u/\D.rt v H'
def PE(X:Cx)(e:Expr)(t:TE):Prop :=
 ∀(pins:Da) (s:IN) (σ:St) (H:Hp) (Q:VK),Inv X pins σ H s->t σ H Q->wpAny EQ X.A (eval e X.env) l7 X.xe s
def PT(X:Cx)(e:Expr)(t:TT):Prop :=
 ∀(pins:Da) (s:IN) (σ:St) (H:Hp) (Q:Bool->Hp->Prop),Inv X pins σ H s->t σ H Q->wpAny EQ X.A (isTrue e X.env (eval e X.env)) (TP X pins σ Q) X.xe s
def PW(X:Cx)(e:Expr)(t:TT):Prop :=
 ∀(g:Sem Value) (pins:Da) (s:IN) (σ:St) (H:Hp) (Q:Bool->Hp->Prop),Inv X pins σ H s->t σ H Q->wpAny EQ X.A (isTrue e X.env g) (TP X pins σ Q) X.xe s
theorem PW.pt{X:Cx}{e:Expr}{t:TT}(h:PW X e t):PT X e t:=h _
def PA(X:Cx)(es:Ov)(t:TA):Prop :=
 ∀(pos:Pos) (pins:Da) (s:IN) (σ:St) (H:Hp) (Q:List V->Hp->Prop),Inv X pins σ H s->t σ H Q->wpAny EQ X.A (spliced (backTo pos SE)) (AP X pins σ Q) X.xe s
def PS(X:Cx)(st:Stmt)(t:TS):Prop :=
 ∀(pins:Da) (s:IN) (σ:St) (H:Hp) (D:Ends),Inv X pins σ H s->t D σ H->wpAny EQ X.A (exec st X.env) (SP X pins D) X.xe s
def Ie(X:Cx)(st:tY)(t:TS):Prop :=
 ∀(pins:Da) (s:IN) (σ:St) (H:Hp) (D:Ends),Inv X pins σ H s->t D σ H->wpAny EQ X.A (execs st X.env) (SP X pins D) X.xe s
theorem BU{α:Type}{t:Sem α}{Q g:α->Shared->Prop}{M:Model}{A:Re}{E:AT}{s:IN}(h:wpAny M A t Q E s)(T:∀a s,Q a s->g a s):wpAny M A t g E s:=aX h T fun _ _ x=>x
section
variable{X:Cx}
def QA(i:Nat):TE:=fun σ H Q=>∃v,σ[i]? = some (some v)/\Q v H
def tC(v:V):TE:=fun _ H Q=>Q v H
theorem nX{i:Nat}{x:Str}{pos:Pos}(hN:X.N[i]? = some x)(Y:mK X.env.scope x)(hd:Id=false:=by decide)(T:(x==("__classdict__" : Str))=false:=by decide):PE X (.Name x pos) (QA i):=by
 intro pins s σ H Q I h;obtain⟨v,e,h⟩:=h;obtain⟨m,hn,Z⟩:=I.loc;obtain⟨u,r,l⟩:=Z i x v hN e Y;have fin:EP X pins σ Q u s:=⟨v,H,I,r,h⟩;rcases l with ⟨hk,hm⟩|⟨hk,c,U,g⟩
 .exact wpAny_Name (wpAny_loadName_local I.ok.kind hk hn hm fin) hd
 .rcases hk with hk|hk
  .exact wpAny_Name (wpAny_loadName_cell I.ok.kind hk U g fin) hd
  .exact wpAny_Name (wpAny_loadName_free I.ok.kind hk U g fin T) hd
theorem AX{i j pos}:PE X (.Constant (.int i) j pos) (tC (.int i)):=fun _ _ _ H _ I h=>wpAny_Constant_int ⟨.int i,H,I.tok _,⟨_,rfl⟩,h⟩
theorem Jk{b j pos}:PE X (.Constant (.bool b) j pos) (tC (.bl b)):=fun _ _ _ H _ I h=>Constant_bool ⟨.bl b,H,I,rfl,h⟩
theorem mr{j pos}:PE X (.Constant .none j pos) (tC .Bp):=fun _ _ _ H _ I h=>Constant_none ⟨.Bp,H,I,rfl,h⟩
theorem nA{x j pos}:PE X (.Constant (.str x) j pos) (tC (.str x)):=fun _ _ _ H _ I h=>Calls.Constant_str ⟨.str x,H,I.tok _,⟨_,rfl⟩,h⟩
def Gl(X:Cx)(x:Str):Prop:=X.env.kindOf x=some .globalImplicit
theorem Kq{E:AT}{pins:Da}{s:IN}{σ:St}{H:Hp}{x:Str}{u:Nh}{pos:Pos}{Q:AT}(I:Db)(hg:Gl X x)(hm:X.mg x=some u)(h:Q u s)
 (hd:Id=false:=by decide):wpAny EQ X.A (eval (.Name x pos) X.env) Q E s :=
 Calls.Name_function_global I.ok.kind hg (Calls.loadGlobal_global (by rw[I.ok.glob];exact I.mod.glob.keeps I.bk) hm h) hd
theorem GR{E:AT}{pins:Da}{s:IN}{σ:St}{H:Hp}{x:Str}{u:Nh}{pos:Pos}{Q:AT}(I:Db)(hg:Gl X x)(hm:X.mg x=none)(g:bootBuiltins x=some u)(h:Q u s)
 (hn:x ≠ "__name__":=by decide)(hd:Id=false:=by decide):wpAny EQ X.A (eval (.Name x pos) X.env) Q E s:=by
 obtain⟨mb,U,T⟩:=I.mod.blt;exact Calls.Name_function_global I.ok.kind hg (Calls.loadGlobal_builtin (by rw[I.ok.glob];exact I.mod.glob.keeps I.bk) hm (by rw[I.ok.blt];exact U.keeps I.bk) ((T x hn).trans g) h) hd
theorem EA{x:Str}{v:V}{u:Nh}{pos:Pos}(hg:Gl X x)(hm:X.mg x=some u)(r:RelV v u)(hd:Id=false:=by decide):PE X (.Name x pos) (tC v) :=
 fun _ _ _ H _ I h=>Kq I hg hm ⟨v,H,I,r,h⟩ hd
theorem Ib{x:Str}{v:V}{u:Nh}{pos:Pos}(hg:Gl X x)(hm:X.mg x=none)(g:bootBuiltins x=some u)(r:RelV v u)(hn:x ≠ "__name__":=by decide)(hd:Id=false:=by decide):PE X (.Name x pos) (tC v) :=
 fun _ _ _ H _ I h=>GR I hg hm g ⟨v,H,I,r,h⟩ hn hd
variable{a b:Expr}{ta tb:TE}{pos:Pos}
def tB(t:TE):TT:=fun σ H Q=>t σ H fun x g=>∃c,x=.bl c/\Q c g
theorem JD{e : Expr}{t : TE}(h : PE X e t)(he : ∀ whole,isTrue e X.env whole = (do let v <- whole; standAt e.pos; holding [v] (truthy v)):=by intro _; rfl):PT X e (tB t):=by
  intro pins s σ H Q I hw
  refine isTrue_plain (BU (h pins s σ H _ I hw) fun v s1 ⟨x,H1,I1,r1,q1⟩ => ?_) (he _)
  obtain ⟨d,rfl,q⟩:=q1
  cases r1
  exact wpAny_truthy_bool ⟨H1,I1,q⟩
variable{tA tB':TT}{rest:Ov}
def tE(t u:TT):TT:=fun σ H Q=>t σ H fun c g=>if c=true then Q true g else u σ g Q
def rY(t:TT):TT:=fun σ H Q=>t σ H fun c g=>Q (!c) g
theorem iE(ha:PT X a tA):PW X (.BoolOp .And [a] pos) tA:=by
 intro g pins s σ H Q I h;refine isTrue_and (BU (ha pins s σ H Q I h) fun c s1 e=>?_);cases c with
 |true=>exact isTrue_and_nil e
 |false=>exact e
theorem Mb(ha:PT X a tA):PW X (.BoolOp .Or [a] pos) tA:=by
 intro g pins s σ H Q I h;refine isTrue_or (BU (ha pins s σ H Q I h) fun c s1 e=>?_);cases c with
 |false=>exact isTrue_or_nil e
 |true=>exact e
theorem NV(ha:PT X a tA)(hb:PW X (.BoolOp .Or (b::rest) pos) tB'):PW X (.BoolOp .Or (a::b::rest) pos) (tE tA tB'):=by
 intro Y pins s σ H Q I h;refine isTrue_or (BU (ha pins s σ H _ I h) fun c s1 ⟨U,T,g⟩=>?_);cases c with
 |true=>exact⟨U,T,g⟩
 |false=>exact hb Y pins s1 σ U Q T g
theorem Iz(ha:PT X a tA):PT X (.UnaryOp .Not a pos) (rY tA):=by
 intro pins s σ H Q I h;exact isTrue_not (ha pins s σ H (fun c g=>Q (!c) g) I h)
def pS(ta tb:TE):TE:=fun σ H Q=>ta σ H fun x g=>∃c,x=.bl c/\if c=true then tb σ g Q else Q (.bl false) g
def qH(ta:TE):TE:=fun σ H Q=>ta σ H fun x g=>∃c,x=.bl c/\Q (.bl (!c)) g
theorem Q3{op}{t:TE}(h:PE X a t):PE X (.BoolOp op [a] pos) t:=fun pins s σ H Q I g=>BoolOp_one (h pins s σ H Q I g)
theorem OY(ha:PE X a ta)(hb:PE X (.BoolOp .And (b::rest) pos) tb):PE X (.BoolOp .And (a::b::rest) pos) (pS ta tb):=by
 intro pins s σ H Q I h;refine BoolOp_and (BU (ha pins s σ H _ I h) fun v s1 ⟨x,U,T,Y,g⟩=>?_);obtain⟨c,rfl,g⟩:=g;cases Y;refine wpAny_truthy_bool ?_;cases c with
 |true=>exact hb pins s1 σ U Q T g
 |false=>exact⟨.bl false,U,T,rfl,g⟩
theorem Zs(ha:PE X a ta):PE X (.UnaryOp .Not a pos) (qH ta):=by
 intro pins s σ H Q I h;refine UnaryOp_ (BU (ha pins s σ H _ I h) fun v s1 ⟨x,Y,U,T,g⟩=>?_);obtain⟨c,rfl,g⟩:=g;cases T;exact not_of (wpAny_truthy_bool ⟨.bl (!c),Y,U,rfl,g⟩)
end
def Aq(K:As)(H:Hp)(a:Addr)(xs:HQ):Prop :=
 Rd H a Os \/
  ∃(o:Obj) (g:Array Value) (n:Nat),K.lookup a=some o/\o.cls=.type "list" /\ o.dict=none/\o.data=.seq g n/\g.size<=sizeLine/\Vals xs g.toList
def BI(K:As)(H:Hp)(a:Addr)(xs:HQ):Prop :=
 Rd H a Op \/
  ∃(o:Obj) (g:Array Value) (n:Nat),K.lookup a=some o/\o.cls=.type "tuple" /\ o.data=.seq g n/\g.size<=sizeLine/\Vals xs g.toList
def sL:Value->Option V
 |.none=>some .Bp
 |.bool b=>some (.bl b)
 |.int i _=>some (.int i)
 |.str x _=>some (.str x)
 |.bytes b _=>some (.OA b)
 |.float b _=>some (.Xs b)
 |.ref a=>some Mt
 |.type n=>some (.ty n)
 |_=>none
theorem RelV.abs{x:V}{u:Nh}(r:RelV x u):sL u=some x:=by
 cases x with
 |Bp=>cases r;rfl
 |bl _=>cases r;rfl
 |int _=>obtain⟨t,rfl⟩:=r;rfl
 |str _=>obtain⟨t,rfl⟩:=r;rfl
 |OA _=>obtain⟨t,rfl⟩:=r;rfl
 |Xs _=>obtain⟨t,rfl⟩:=r;rfl
 |ref _=>cases r;rfl
 |ty _=>cases r;rfl
theorem RelV.inj{x y:V}{u:Nh}(r:RelV x u)(q:RelV y u):x=y:=ax (r.abs.symm.trans q.abs)
theorem Vals.inj:∀ {xs ys:HQ} {us:FS},Vals xs us->Vals ys us->xs=ys
 |_,_,_,.nil,.nil=>rfl
 |_,_,_,.cons r t,.cons T g=>by rw[r.inj T,Vals.inj t g]
section
variable{X:Cx}{pins:Da}{σ:St}{H:Hp}{s:IN}{a:Addr}{xs ys:HQ}
theorem Aq.of{K:As}(h:H a=some Os):Aq K H a xs:=.inl (.inl h)
theorem BI.of{K:As}(h:H a=some Op):BI K H a xs:=.inl (.inl h)
theorem Inv.list(I:Db)(h:Aq X.K H a xs):∃g:List Value,Vals xs g/\PlainL s.heap a g.toArray/\xs.length<=sizeLine:=by
 rcases h with h|⟨o,g,n,hk,U,hd,T,Y,r⟩
 .obtain⟨z,g,n,r,e⟩:=h.ok I.Av;exact⟨g,r,⟨_,n,e,rfl,rfl,rfl⟩,z⟩
 .refine⟨g.toList,r,⟨o,n,I.HU a o hk,U,hd,by simpa using T⟩,?_⟩;have e:=r.length;simp only[Array.length_toList]at e
  lia
theorem Inv.tuple(I:Db)(h:BI X.K H a xs):∃g:List Value,Vals xs g/\IsTup s.heap a g.toArray/\xs.length<=sizeLine:=by
 rcases h with h|⟨o,g,n,hk,U,T,Y,r⟩
 .obtain⟨z,g,r,p⟩:=h.ok I.Av;exact⟨g,r,p,z⟩
 .refine⟨g.toList,r,⟨o,I.HU a o hk,U,n,by simpa using T⟩,?_⟩;have e:=r.length;simp only[Array.length_toList]at e
  lia
theorem Inv.Uz(I:Db)(h:Aq X.K H a xs)(h':Aq X.K H a ys):xs=ys:=by
 obtain⟨T,r,⟨o,n,e,_,_,d⟩,_⟩:=I.list h;obtain⟨g,Z,⟨o',n',U,_,_,Y⟩,_⟩:=I.list h';rw[e]at U;cases U;rw[d]at Y
 injection Y with d1 _
 have:T=g:=by simpa using bP Array.toList d1
 subst this;exact r.inj Z
theorem Inv.UL(I:Db)(h:BI X.K H a xs)(h':BI X.K H a ys):xs=ys:=by
 obtain⟨T,r,⟨o,e,_,n,d⟩,_⟩:=I.tuple h;obtain⟨g,Z,⟨o',U,_,n',Y⟩,_⟩:=I.tuple h';rw[e]at U;cases U;rw[d]at Y
 injection Y with d1 _
 have:T=g:=by simpa using bP Array.toList d1
 subst this;exact r.inj Z
end
abbrev Cx.He(X:Cx)(E:AT):Cx:={X with xe:=E}
abbrev Cx.JL(X:Cx):Cx:=X.He fun _ _=>False
theorem Cx.Ok.He{X:Cx}(ok:X.Ok)(E:AT):(X.He E).Ok :=
 ⟨ok.mod,ok.kind,ok.glob,ok.blt,ok.above,ok.inj,ok.has,ok.WM,ok.hd,ok.frames,ok.dM,ok.lS,ok.bs,ok.Rm,ok.SV,ok.Sx,ok.Il,ok.Qv,ok.kt⟩
theorem Cx.Ok.EZ{X:Cx}{E:AT}(ok:(X.He E).Ok):X.Ok :=
 ⟨ok.mod,ok.kind,ok.glob,ok.blt,ok.above,ok.inj,ok.has,ok.WM,ok.hd,ok.frames,ok.dM,ok.lS,ok.bs,ok.Rm,ok.SV,ok.Sx,ok.Il,ok.Qv,ok.kt⟩
section
variable{X:Cx}{pins:Da}{σ:St}{H:Hp}{s:IN}{E:AT}
theorem Inv.He(I:Db)(E:AT):Inv (X.He E) pins σ H s:=⟨I.ok.He E,I.os,I.bare,I.base,I.loc,I.cell,I.free,I.Gn,I.pin,I.Av,I.len⟩
theorem Inv.EZ(I:Inv (X.He E) pins σ H s):Inv X pins σ H s:=⟨I.ok.EZ,I.os,I.bare,I.base,I.loc,I.cell,I.free,I.Gn,I.pin,I.Av,I.len⟩
theorem SP.EZ{D:Ends}{f:Flow}{s':IN}(h:SP (X.He E) pins D f s'):SP X pins D f s':=by
 cases f with
 |next=>obtain⟨g,H',I,q⟩:=h;exact⟨g,H',I.EZ,q⟩
 |brk=>obtain⟨g,H',I,q⟩:=h;exact⟨g,H',I.EZ,q⟩
 |cont=>obtain⟨g,H',I,q⟩:=h;exact⟨g,H',I.EZ,q⟩
 |ret u=>obtain⟨v,g,H',I,r,q⟩:=h;exact⟨v,g,H',I.EZ,r,q⟩
theorem Ie.JL{st:tY}{t:TS}(h:Ie X.JL st t):Ie X st t:=fun pins s σ H D I g=>
 aX (h pins s σ H D (I.He _) g) (fun _ _ q=>q.EZ) fun _ _ z=>False.elim z
end
section
variable{X:Cx}{st:Stmt}{rest:tY}{t u:TS}{e:Expr}{te:TE}{pos:Pos}
def pJ:TS:=fun D σ H=>D.nx σ H
def fP(t u:TS):TS:=fun D σ H=>t {D with nx:=u D} σ H
theorem Cw:Ie X [] pJ:=fun _ _ σ H _ I h=>wpAny_execs_nil ⟨σ,H,I,h⟩
theorem AZ(U:PS X st t)(T:Ie X rest u):Ie X (st::rest) (fP t u):=by
 intro pins s σ H D I h;refine wpAny_execs_cons (BU (U pins s σ H {D with nx:=u D} I h) fun f s1 q=>?_);cases f with
 |next=>
  obtain⟨g,H',Y,q⟩:=q;exact T pins s1 g H' D Y q
 |ret v=>exact q
 |brk=>exact q
 |cont=>exact q
theorem Ai(g:PS X st t):Ie X [st] t:=by
 intro pins s σ H D I h;refine wpAny_execs_cons (BU (g pins s σ H D I h) fun f s1 q=>?_);cases f with
 |next=>exact wpAny_execs_nil q
 |ret v=>exact q
 |brk=>exact q
 |cont=>exact q
theorem Inv.quiet{pins:Da}{σ:St}{H:Hp}{s:IN}(I:Db):interactive X.env=false:=by simp[interactive,I.ok.kind]
def Ut(te:TE):TS:=fun D σ H=>te σ H fun _ g=>D.nx σ g
theorem CV(U:PE X e te)(T:swapsWith e none pos.line X.env=pure false:=by rfl):PS X (.Expr e pos) (Ut te):=by
 intro pins s σ H D I h;exact wpAny_Expr_any (BU (U pins s σ H _ I h) fun v s1 ⟨x,Z,Y,r1,g⟩=>⟨σ,Z,Y,g⟩) I.quiet T
def rf(te:TE):TS:=fun D σ H=>te σ H D.rt
theorem BV(U:PE X e te):PS X (.Return (some e) pos) (rf te):=by
 intro pins s σ H D I h;exact wpAny_Return_some (BU (U pins s σ H _ I h) fun v s1 ⟨x,Z,Y,g,T⟩=>⟨x,σ,Z,Y,g,T⟩)
def q9(c:TT)(t u:TS):TS:=fun D σ H=>c σ H fun b g=>if b=true then t D σ g else u D σ g
theorem FL{c:Expr}{a b:tY}{g:TT}(Z:PT X c g)(ha:Ie X a t)(hb:Ie X b u):PS X (.If c a b pos) (q9 g t u):=by
 intro pins s σ H D I h;refine wpAny_If (BU (Z pins s σ H _ I h) fun d s1 ⟨Y,U,T⟩=>?_);cases d with
 |true=>exact ha pins s1 σ Y D U T
 |false=>exact hb pins s1 σ Y D U T
def kN:TS:=fun _ _ _=>False
theorem WD:PS X st kN:=fun _ _ _ _ _ _ h=>h.elim
end
abbrev TG:=V->St->Hp->(St->Hp->Prop)->Prop
abbrev V3:=List V->St->Hp->(St->Hp->Prop)->Prop
def PG(X:Cx)(target:Expr)(t:TG):Prop :=
 ∀(pins:Da) (s:IN) (σ:St) (H:Hp) (v:V) (u:Nh) (Q:St->Hp->Prop),Inv X pins σ H s->RelV v u->t v σ H Q ->
  wpAny EQ X.A (assign target X.env u) (fun _ s'=>∃g H',Inv X pins g H' s'/\Q g H') X.xe s
def fx(X:Cx)(ts:Ov)(t:V3):Prop :=
 ∀(pins:Da) (s:IN) (σ:St) (H:Hp) (vs:HQ) (us:FS) (Q:St->Hp->Prop),Inv X pins σ H s->Vals vs us->t vs σ H Q ->
  wpAny EQ X.A (assignInOrder ((assignEach ts X.env).map (·.2)) us) (fun _ s'=>∃g H',Inv X pins g H' s'/\Q g H') X.xe s
abbrev YR:=V->V->V->Hp->(Hp->Prop)->Prop
def fT(X:Cx)(t:YR):Prop :=
 ∀(pins:Da) (s:IN) (σ:St) (H:Hp) (o i v:V) (g T u:Nh) (Q:Hp->Prop),Inv X pins σ H s->RelV o g->RelV i T->RelV v u->t o i v H Q ->
  wpAny EQ X.A (setItem g T u) (fun _ s'=>∃H',Inv X pins σ H' s'/\Q H') X.xe s
section
variable{X:Cx}{pos:Pos}
def Dj(i:Nat):TG:=fun v σ H Q=>Q (σ.set i (some v)) H
theorem A5{i:Nat}{x:Str}(U:X.N.Nodup)(hi:X.N[i]? = some x)(g:Loc X.env.scope x)(T:X.fn x=true\/X.env.scope.names.lookup x=some .local:=by first|exact .inl rfl|exact .inr rfl|assumption):PG X (.Name x pos) (Dj i):=by
 intro pins s σ H v u Q I r h;exact wpAny_assign_Name (K5 I U hi g r (fun s' Y=>⟨_,H,Y,h⟩) T)
def ZG:V3:=fun vs σ H Q=>vs=[]/\Q σ H
def MB(t:TG)(u:V3):V3:=fun vs σ H Q=>∃v r,vs=v::r/\t v σ H fun g H'=>u r g H' Q
theorem IU:fx X [] ZG:=by
 intro pins s σ H vs us Q I r h;obtain⟨e,h⟩:=h;subst e;cases r;exact assignInOrder_nil ⟨σ,H,I,h⟩
theorem CM{e:Expr}{es:Ov}{t:TG}{u:V3}(h1:PG X e t)(Z:fx X es u)
 (Y:(assignEach ur X.env).map (·.2)=assign e X.env::(assignEach es X.env).map (·.2):=by rfl):fx X ur (MB t u):=by
 intro pins s σ H vs us Q I r h;obtain⟨v,vr,e1,h⟩:=h;subst e1;cases r with
 |cons r T=>
  rw[Y];refine assignInOrder_cons (BU (h1 pins s σ H _ _ _ I r h) fun _ s1 ⟨g,H1,I1,U⟩=>?_);exact Z pins s1 g H1 _ _ Q I1 T U
def Y8(K:As)(n:Nat)(t:V3):TG:=fun v σ H Q=>∃a xs,v=.ref a/\BI K H a xs/\xs.length=n/\t xs σ H Q
theorem Jw{es:Ov}{k:Nat}{t:V3}{n:Nat}(hc:oN)(h:fx X es t)
 (hn:(assignEach es X.env).length=n:=by rfl)(T:(assignEach es X.env).findIdx? cx=none:=by rfl):PG X (.Tuple es k pos) (Y8 X.K n t):=by
 intro pins s σ H v u Q I r g;obtain⟨a,xs,e1,hq,hl,g⟩:=g;subst e1;cases r;obtain⟨Y,U,ht,hz⟩:=I.tuple hq;refine assign_Tuple_tuple ad ht (by simp[hn,<-hl,U.length]) T fun h' Z=>?_;have I1:Inv X pins σ H Pz:=I.kept (t':=s.toks) fun b o e=>Z b o (aJ (aG e)) e;exact h pins _ σ H xs _ Q I1 (by simpa using U) g
def rK(g T:TE)(t:YR):TG:=fun v σ H Q=>g σ H fun o Z=>T σ Z fun i Y=>t o i v Y fun U=>Q σ U
theorem b7{o i:Expr}{to ti:TE}{t:YR}(ho:PE X o to)(hi:PE X i ti)(hs:fT X t)
 (ha:∀v,assign (.Subscript o i pos) X.env v=(do
      let ov <-holding [v] (eval o X.env)
      let iv <-holding [v,ov] (eval i X.env)
      standAt pos
      holding [v,ov,iv] (setItem ov iv v)
      release [v,ov,iv] []):=by intro _;rfl):PG X (.Subscript o i pos) (rK to ti t):=by
  intro pins s σ H v u Q I r h
  rw[ha]
  refine aA (aR (BU (ho pins s σ H _ I h) fun ov s1 ⟨x,H1,I1,r1,q1⟩=>?_))
  refine aA (aR (BU (hi pins s1 σ H1 _ I1 q1) fun iv s2 ⟨y,H2,I2,r2,q2⟩=>?_))
  refine aA (wpAny_standAt (aA (aR (BU (hs pins s2 σ H2 x y v ov iv u _ I2 r1 r2 r q2) fun _ s3 ⟨H3,I3,q3⟩=>?_))))
  exact wpAny_release ⟨σ,H3,I3,q3⟩
def SI(T:TE)(g:TG):TS:=fun D σ H=>T σ H fun x U=>g x σ U D.nx
theorem VG{tg e:Expr}{T:TE}{g:TG}(he:PE X e T)(hg:PG X tg g)(hs:swapsWithSole [tg] e pos.line X.env=pure false:=by rfl)(Z:swappedStores [tg] e X.env=pure none:=by rfl)
 (h1:(assignEach [tg] X.env).map (·.2)=[assign tg X.env]:=by rfl):PS X (.Assign [tg] e pos) (SI T g):=by
 intro pins s σ H D I h;refine wpAny_Assign_stores (BU (he pins s σ H _ I h) fun v s1 ⟨x,H1,I1,U,Y⟩=>?_) hs Z;rw[h1];exact BU (hg pins s1 σ H1 x v _ I1 U Y) fun _ s2 q=>q
theorem BB{i:Nat}{x:Str}{e:Expr}{T:TE}{g:Pos}(hN:X.N.Nodup)(hi:X.N[i]? = some x)(Z:Loc X.env.scope x)(he:PE X e T)(hs:swapsWith e (some (.Name x g)) pos.line X.env=pure false:=by rfl)(hf:X.fn x=true\/X.env.scope.names.lookup x=some .local:=by first|exact .inl rfl|exact .inr rfl|assumption) :
  PS X (.Assign [.Name x g] e pos) (SI T (Dj i)):=by
 intro pins s σ H D I h;refine wpAny_Assign_Name (BU (he pins s σ H _ I h) fun v s1 ⟨y,H1,I1,U,Y⟩=>?_) hs;exact K5 I1 hN hi Z U (fun s2 I2=>⟨_,H1,I2,Y⟩) hf
def ql(i j:Nat)(g:TA):TS:=fun D σ H=>g σ H fun vs T=>∃v w,vs=[v,w]/\D.nx ((σ.set i (some v)).set j (some w)) T
theorem mI{i j:Nat}{x y:Str}{a b:Expr}{ta:TA}{px py pt:Pos}{kt k2 T}(hc:oN)(hN:X.N.Nodup)(hi:X.N[i]? = some x)(hj:X.N[j]? = some y)(hij:i≠j)
 (hx:X.env.scope.names.lookup x=some .local)(hy:X.env.scope.names.lookup y=some .local)(ha:PA X [a,b] ta)
 (hw:swappedStores [.Tuple [.Name x px,.Name y py] kt pt] (.Tuple [a,b] k2 T) X.env=pure (some [x,y]))
 (hs:swapsWithSole [.Tuple [.Name x px,.Name y py] kt pt] (.Tuple [a,b] k2 T) pos.line X.env=pure false:=by rfl) :
  PS X (.Assign [.Tuple [.Name x px,.Name y py] kt pt] (.Tuple [a,b] k2 T) pos) (ql i j ta):=by
 intro pins s σ H D I h;rw[exec_Assign_arm];refine aA (wpAny_standAt ?_);rw[hs];refine aA ge;rw[if_neg BY];refine aA (Tuple_ (BU (ha _ pins s σ H _ I h) fun us s1 ⟨vs,H1,I1,r1,q1⟩=>?_));obtain⟨v,w,e1,q1⟩:=q1;subst e1;obtain⟨Y,U,rfl,rv,Z⟩:∃Y U,us=[Y,U]/\RelV v Y/\RelV w U:=by
  cases r1 with
  |cons p q=>
   cases q with
   |cons p' q'=>
    cases q';exact⟨_,_,rfl,p,p'⟩
 refine bC ?_ (by show 2<=sizeLine;decide);have I2:Inv X pins σ H1 {s1 with heap:=s1.heap.push { cls:=.type "tuple",data:=.seq [Y,U].toArray} }:=I1.kept (t':=s1.toks) fun b o e=>aF _ e;rw[hw];refine aA ge;show wpAny EQ X.A (do rule "assign.swapped-stores"; let g <-unpackItems (.ref s1.heap.objs.size) 2 none;assignInOrder [fun v=>bindName X.env y v,fun v=>bindName X.env x v] g.reverse;pure Flow.next) _ _ _;refine aA (bR (aA (unpackItems_tuple (items:=#[Y,U]) ad (IsTup.new s1.heap _) fun h' hx'=>?_)));have I3:=I2.kept (h':=h') (t':=s1.toks) fun b o e=>hx' b o (aJ (aG e)) e;show wpAny _ _ (assignInOrder [fun v=>bindName X.env y v,fun v=>bindName X.env x v] [U,Y]>>=fun _=>pure Flow.next) _ _ _;refine aA (assignInOrder_cons (wpAny_bindName (K5 I3 hN hj (.inl hy) Z (fun s2 I4=>?_) (.inr hy))));refine assignInOrder_cons (wpAny_bindName (K5 I4 hN hi (.inl hx) rv (fun s3 I5=>assignInOrder_nil ge) (.inr hx)));rw[List.set_comm _ _ (Ne.symm hij)]at I5;exact⟨_,H1,I5,q1⟩
end
section
variable{X:Cx}{pos:Pos}
def cn(c:TT)(Y:TS):TS:=fun D σ H=>∃W:Nat->St->Hp->Prop,(∃m,W m σ H)/\∀m σ H,W m σ H ->
 c σ H fun b U=>if b=true then ∃N:St->Hp->Prop,(∀g H',N g H'->∃T,T<m/\W T g H')/\Y uQ σ U else D.nx σ U
theorem NN{c:Expr}{U:tY}{tc:TT}{tb:TS}(hp:PassesOwn EQ X.A X.env X.xe)(hc:PT X c tc)(hb:Ie X U tb):PS X (.While c U [] pos) (cn tc tb):=by
 intro pins s σ H D I h;obtain⟨W,⟨m0,w0⟩,turn⟩:=h;refine wpAny_While (codeAny_whileLoop (fun n s'=>∃Y H',Inv X pins Y H' s'/\W n Y H') ?_ m0 ⟨σ,H,I,w0⟩);rintro n s1 ⟨T,H1,I1,w1⟩;refine wpAny_passesOwn hp (BU (hc pins s1 T H1 _ I1 (turn n T H1 w1)) fun b s2 ⟨H2,I2,q2⟩=>?_);cases b with
 |true=>
  obtain⟨N,hN,q2⟩:=q2;rw[if_pos rfl];refine wpAny_passesOwn hp (BU (hb pins s2 T H2 _ I2 q2) fun f s3 q3=>?_);cases f with
  |next=>
   obtain⟨g,Z,I3,n3⟩:=q3;obtain⟨m',hm,w3⟩:=hN g Z n3;exact⟨m',hm,g,Z,I3,w3⟩
  |cont=>
   obtain⟨g,Z,I3,n3⟩:=q3;obtain⟨m',hm,w3⟩:=hN g Z n3;exact⟨m',hm,g,Z,I3,w3⟩
  |brk=>exact q3
  |ret v=>exact q3
 |false=>
  rw[if_neg aN];exact wpAny_execs_nil ⟨T,H2,I2,q2⟩
end
structure It where
 go:Nat->Hp->Prop
 F4:Nat->Hp->V->Hp->Prop
 stop:Nat->Hp->Prop
def MJ(X:Cx)(pins:Da)(H:Hp)(b:Addr):Prop :=
 H b=none/\b≠X.env.locals/\b ∉ X.fs/\(b∈X.ex\/X.s₀.heap.objs.size<=b)/\(∀x c,X.env.cells.lookup x=some c->c≠b)/\∀p∈X.pn++pins,p.1≠b
theorem Inv.QK{X:Cx}{pins:Da}{σ:St}{H H':Hp}{s:IN}{b:Addr}(I:Db)(hb:s.heap.objs.size<=b)(hn:H' b=none):MJ X pins H' b:=by
 refine⟨hn,Nat.ne_of_gt (aH I.lt hb),I.rV hb,.inr (aQ I.sz hb),fun x c e z=>?_,fun p g z=>?_⟩
 .obtain⟨v,q⟩:=I.cell x c e;exact absurd (aH q.lt (by rw[z];exact hb)) (Nat.lt_irrefl _)
 .exact absurd (aH (aG (I.pin p g).1) (by rw[z];exact hb)) (Nat.lt_irrefl _)
structure Turn(P:Io)(w:Mw)(K:As)(tg:Expr)(J:It)(fp:al)(it:Addr)(tn:Nat->Heap->Prop):Prop where
 mem:it∈fp
 obj:∀i h,tn i h->∀b∈fp,∃o,h.get? b=some o/\∀v,o.data≠.cell v
 keep:∀i h h',tn i h->(∀b∈fp,∀o,h.get? b=some o->h'.get? b=some o)->tn i h'
 item:∀(X:Cx),X.prog=P->X.w=w->X.K=K->X.calm=true->∀(i:Nat) (pins:Da) (s:IN) (σ:St) (H:Hp) (E:AT),Inv X pins σ H s->(∀b∈fp,MJ X pins H b)->tn i s.heap->J.go i H ->
  wpAny (model P w) X.A (pyNext (.ref it)) (fun r s1=>∃u,r=some u /\
   wpAny (model P w) X.A (letOwnedTupleGo tg (.ref it) u) (fun _ s2=>∃x H',Inv X pins σ H' s2/\RelV x u/\J.F4 i H x H'/\tn SL s2.heap/\∀b∈fp,H' b=none) E s1) E s
 done:∀(X:Cx),X.prog=P->X.w=w->X.K=K->X.calm=true->∀(i:Nat) (pins:Da) (s:IN) (σ:St) (H:Hp) (E:AT),Inv X pins σ H s->(∀b∈fp,MJ X pins H b)->tn i s.heap->J.stop i H ->
  wpAny (model P w) X.A (pyNext (.ref it)) (fun r s1=>r=none/\Inv X pins σ H s1) E s
 self:∀(A:Re) (i:Nat) (s:IN) (Q:AT) (E:AT),tn i s.heap->Q (.ref it) s->wpAny (model P w) A (pyIter (.ref it)) Q E s
abbrev TI:=St->Hp->(It->Hp->Prop)->Prop
def qc(X:Cx)(pins:Da)(σ:St)(tg:Expr)(R:It->Hp->Prop)(g:Nh)(s2:IN):Prop :=
 ∃(it:Addr) (fp:al) (tn:Nat->Heap->Prop) (J:It) (H':Hp),g=.ref it/\Inv X pins σ H' s2/\Turn X.prog X.w X.K tg J fp it tn/\tn 0 s2.heap/\(∀b∈fp,MJ X pins H' b)/\R J H'
def PI(X:Cx)(tg iter:Expr)(g:TI):Prop :=
 ∀(pins:Da) (s:IN) (σ:St) (H:Hp) (R:It->Hp->Prop),Inv X pins σ H s->g σ H R ->
  wpAny EQ X.A (eval iter X.env) (fun v s1=>wpAny EQ X.A (pyIter v) (qc X pins σ tg R) X.xe s1) X.xe s
theorem YL{M:Model}{A:Re}{E:AT}{s:IN}{tg:Expr}{it:Addr}{u:Nh}{o:Obj}{n:String}{vs:Array Value}{Q:Unit->Shared->Prop}(T:s.heap.get? it=some o)(U:o.cls=.type n)(hd:o.data=.fields vs)
 (hn:["enumerate","zip","dict_itemiterator","dict_reverseitemiterator","odict_iterator","itertools.zip_longest","itertools.pairwise"].contains n=false)(g:Q () s):wpAny M A (letOwnedTupleGo tg (.ref it) u) Q E s:=by
 unfold letOwnedTupleGo;cases tg<;>first
  |exact aB g
  |(cases u<;>first
    |exact aB g
    |(refine aA (wpAny_load T ?_)
      rw[U,hd];show wpAny M A (if(["enumerate","zip","dict_itemiterator","dict_reverseitemiterator","odict_iterator","itertools.zip_longest","itertools.pairwise"].contains n&&vs[0]? == some (rawInt _))=true then _ else _) Q E s;rw[if_neg (by intro h;rw[hn,Bool.false_and]at h;cases h)];exact aB g))
def Xj(K:As)(a:Addr):It :=
 ⟨fun i H=>∃xs x,Aq K H a xs/\xs[i]? = some x,fun i H x H'=>H'=H/\∀xs,Aq K H a xs->xs[i]? = some x,fun i H=>∃xs,Aq K H a xs/\xs.length<=i⟩
def XG(K:As)(a:Addr):It :=
 ⟨fun i H=>∃xs x,BI K H a xs/\xs[i]? = some x,fun i H x H'=>H'=H/\∀xs,BI K H a xs->xs[i]? = some x,fun i H=>∃xs,BI K H a xs/\xs.length<=i⟩
def T1(lo:Int)(n:Nat):It:=⟨fun i _=>i<n,fun i H x H'=>H'=H/\x=.int (lo+i),fun i _=>n<=i⟩
theorem b6{P:Io}{w:Mw}{K:As}{tg:Expr}(a it:Addr):Turn P w K tg (Xj K a) [it] it (fun i h=>h.IsListIter it a i) where
 mem:=by simp
 obj:=fun i h st b hb=>by
  have e:b=it:=by simpa using hb
  subst e;obtain⟨o,e,c,d⟩:=st;exact⟨o,e,fun v z=>by rw[d]at z;cases z⟩
 keep:=fun i h h' st k=>st.at fun o e=>k it Ch o e
 item:=by
  intro X hP hw hK hc i pins s σ H E I hf st hg;subst hP hw hK;obtain⟨xs,x,hq,hx⟩:=hg;obtain⟨its,rv,p,hz⟩:=I.list hq;obtain⟨u,hu,ru⟩:=rv.get hx;obtain⟨f0,f1,f2,f3,f4,f5⟩:=hf it Ch;refine wpAny_pyNext_list_item st p.isList (x:=u) (by simpa using hu) fun h' st' sb=>?_;have I1:Inv X pins σ H Pz:=I.turned (t':=s.toks) (fun b o hb e=>(sb.2 b hb).trans e) f0 f1 f3 f4 f5;obtain⟨o,e,c,d⟩:=id st';exact⟨u,rfl,YL (s:={s with heap:=h'}) e c d BY ⟨x,H,I1,ru,⟨rfl,fun ys hy=>by rw[I.Uz hy hq];exact hx⟩,st',fun b hb=>(hf b hb).1⟩⟩
 done:=by
  intro X hP hw hK hc i pins s σ H E I hf st hg;subst hP hw hK;obtain⟨xs,hq,hx⟩:=hg;obtain⟨its,rv,p,hz⟩:=I.list hq;obtain⟨f0,f1,f2,f3,f4,f5⟩:=hf it Ch;have hl:=rv.length;exact wpAny_pyNext_list_end ad st p.isList mu fun h' eb=>⟨rfl,I.turned (t':=s.toks) (fun b o hb e=>eb b o hb e) f0 f1 f3 f4 f5⟩
 self:=fun _ _ _ _ _ st h=>wpAny_pyIter_listiter st h
theorem ZI{P:Io}{w:Mw}{K:As}{tg:Expr}(a it:Addr):Turn P w K tg (XG K a) [it] it (fun i h=>h.IsTupleIter it a i) where
 mem:=by simp
 obj:=fun i h st b hb=>by
  have e:b=it:=by simpa using hb
  subst e;obtain⟨o,e,c,d⟩:=st;exact⟨o,e,fun v z=>by rw[d]at z;cases z⟩
 keep:=fun i h h' st k=>st.at fun o e=>k it Ch o e
 item:=by
  intro X hP hw hK hc i pins s σ H E I hf st hg;subst hP hw hK;obtain⟨xs,x,hq,hx⟩:=hg;obtain⟨its,rv,p,hz⟩:=I.tuple hq;obtain⟨u,hu,ru⟩:=rv.get hx;obtain⟨f0,f1,f2,f3,f4,f5⟩:=hf it Ch;refine wpAny_pyNext_tuple_item st (show s.heap.IsTuple a its.toArray from p) (x:=u) (by simpa using hu) fun h' st' sb=>?_;have I1:Inv X pins σ H Pz:=I.turned (t':=s.toks) (fun b o hb e=>(sb.2 b hb).trans e) f0 f1 f3 f4 f5;obtain⟨o,e,c,d⟩:=id st';exact⟨u,rfl,YL (s:={s with heap:=h'}) e c d BY ⟨x,H,I1,ru,⟨rfl,fun ys hy=>by rw[I.UL hy hq];exact hx⟩,st',fun b hb=>(hf b hb).1⟩⟩
 done:=by
  intro X hP hw hK hc i pins s σ H E I hf st hg;subst hP hw hK;obtain⟨xs,hq,hx⟩:=hg;obtain⟨its,rv,p,hz⟩:=I.tuple hq;obtain⟨f0,f1,f2,f3,f4,f5⟩:=hf it Ch;have hl:=rv.length;exact wpAny_pyNext_tuple_end ad st (show s.heap.IsTuple a its.toArray from p) mu fun h' eb=>⟨rfl,I.turned (t':=s.toks) (fun b o hb e=>eb b o hb e) f0 f1 f3 f4 f5⟩
 self:=fun _ _ _ _ _ st h=>wpAny_pyIter_tupleiter st h
theorem Yy{P:Io}{w:Mw}{K:As}{tg:Expr}(it:Addr)(lo:Int)(n:Nat):Turn P w K tg (T1 lo n) [it] it (fun i h=>IsRangeIter h it (lo+(i:Nat)*1) ((n:Int)-(i:Nat)) 1) where
 mem:=by simp
 obj:=fun i h st b hb=>by
  have e:b=it:=by simpa using hb
  subst e;exact⟨_,st,fun v z=>by
   have z':Data.fields _=Data.cell v:=z;cases z'⟩
 keep:=fun i h h' st k=>k it Ch _ st
 item:=by
  intro X hP hw hK hc i pins s σ H E I hf st hg;subst hP hw hK;obtain⟨f0,f1,f2,f3,f4,f5⟩:=hf it Ch;have W:=Walks.range (prog:=X.prog) (w:=X.w) ad it lo 1 n;refine W.item i s _ _ hg st fun v h' tk hv st' kk=>?_;obtain⟨t,rfl⟩:=hv;have I1:Inv X pins σ H KT:=I.turned (fun b o hb e=>kk b o (by simpa using hb) e) f0 f1 f3 f4 f5;refine⟨_,rfl,YL (s:={s with heap:=h',toks:=tk}) (n := "range_iterator") st' rfl rfl BY ⟨.int (lo+i),H,I1,⟨t,?_⟩,⟨rfl,rfl⟩,st',fun b hb=>(hf b hb).1⟩⟩;rw[Int.mul_one]
 done:=by
  intro X hP hw hK hc i pins s σ H E I hf st hg;subst hP hw hK;obtain⟨f0,f1,f2,f3,f4,f5⟩:=hf it Ch;exact wpAny_pyNext_range_end ad st (by have:n<=i:=hg;lia) fun h' eb=>⟨rfl,I.turned (t':=s.toks) (fun b o hb e=>eb b o hb e) f0 f1 f3 f4 f5⟩
 self:=fun _ _ _ _ _ st h=>wpAny_pyIter_rangeiter st h
section
variable{X:Cx}{tg:Expr}
def pN(K:As)(T:TE):TI:=fun σ H R=>T σ H fun x g=>∃a,x=.ref a/\(∃xs,Aq K g a xs)/\R (Xj K a) g
def rA(K:As)(T:TE):TI:=fun σ H R=>T σ H fun x g=>∃a,x=.ref a/\(∃xs,BI K g a xs)/\R (XG K a) g
theorem EV{l:Expr}{T:TE}(hl:PE X l T):PI X tg l (pN X.K T):=by
 intro pins s σ H R I h;refine BU (hl pins s σ H _ I h) fun v s1 ⟨x,H1,g,U,Y⟩=>?_;obtain⟨a,e,⟨xs,hq⟩,q⟩:=Y;subst e;cases U;obtain⟨Z,rv,p,hz⟩:=g.list hq;refine wpAny_pyIter_list p.isList ?_;refine⟨s1.heap.objs.size,[s1.heap.objs.size],_,_,H1,rfl,g.kept (t':=s1.toks) fun b o e=>aF _ e,b6 a _,⟨_,Heap.get?_push_size _ rfl,rfl,rfl⟩,fun b hb=>?_,q⟩;have e:b=s1.heap.objs.size:=by simpa using hb
 subst e;exact g.QK em (g.Av.fresh em)
theorem VD{l:Expr}{U:TE}(hl:PE X l U):PI X tg l (rA X.K U):=by
 intro pins s σ H R I h;refine BU (hl pins s σ H _ I h) fun v s1 ⟨x,H1,g,Y,Z⟩=>?_;obtain⟨a,e,⟨xs,hq⟩,q⟩:=Z;subst e;cases Y;obtain⟨T,rv,p,hz⟩:=g.tuple hq;refine wpAny_pyIter_tuple (show s1.heap.IsTuple a T.toArray from p) ?_;refine⟨s1.heap.objs.size,[s1.heap.objs.size],_,_,H1,rfl,g.kept (t':=s1.toks) fun b o e=>aF _ e,ZI a _,⟨_,Heap.get?_push_size _ rfl,rfl,rfl⟩,fun b hb=>?_,q⟩;have e:b=s1.heap.objs.size:=by simpa using hb
 subst e;exact g.QK em (g.Av.fresh em)
theorem WS{pins:Da}{σ:St}{H:Hp}{s:IN}{R:It->Hp->Prop}{E:AT}{lo hi:Int}{t u v:Tok}{tk:Nat}(I:Db)(Z:-(2^62)<=lo)(Y:lo<2^62)(U:-(2^62)<=hi)(T:hi<2^62)
 (q:R (T1 lo (hi-lo).toNat) H):wpAny EQ X.A (pyIter GE) (qc X pins σ tg R) E {s with heap:=s.heap.push { cls:=.type "range",data:=.fields #[.int lo t,.int hi u,.int 1 v]},toks:=tk}:=by
 refine wpAny_pyIter_range (IsRange.new ..) (small_one Z Y U T) ?_;have g:Inv X pins σ H {s with heap:=s.heap.push { cls:=.type "range",data:=.fields #[.int lo t,.int hi u,.int 1 v]},toks:=tk}:=I.kept fun b o e=>aF _ e;refine⟨(s.heap.push { cls:=.type "range",data:=.fields #[.int lo t,.int hi u,.int 1 v]}).objs.size,[(s.heap.push { cls:=.type "range",data:=.fields #[.int lo t,.int hi u,.int 1 v]}).objs.size],_,_,H,rfl,
  g.kept (t':=tk) fun b o e=>aF _ e,Yy _ lo (hi-lo).toNat,?_,fun b hb=>?_,q⟩
 .have e1:lo+((0:Nat):Int)*1=lo:=by simp
  have e2:(((hi-lo).toNat:Nat):Int)-((0:Nat):Int)=Builtin.Range.rangeSize lo hi 1:=by rw[rangeSize_one];split<;>lia
  show IsRangeIter _ _ (lo+((0:Nat):Int)*1) ((((hi-lo).toNat:Nat):Int)-((0:Nat):Int)) 1;rw[e1,e2];exact aL _ rfl
 .have e:b=(s.heap.push { cls:=.type "range",data:=.fields #[.int lo t,.int hi u,.int 1 v]}).objs.size:=by simpa using hb
  subst e;exact g.QK em (g.Av.fresh em)
def o9(g:TA):TI:=fun σ H R=>g σ H fun vs T=>∃j:Int,vs=[.int j]/\-(2^62)<=j/\j<2^62/\R (T1 0 j.toNat) T
def pX(g:TA):TI:=fun σ H R=>g σ H fun vs T=>∃i j:Int,vs=[.int i,.int j]/\(-(2^62)<=i/\i<2^62/\-(2^62)<=j/\j<2^62)/\R (T1 i (j-i).toNat) T
theorem Jp{a:Expr}{T:TA}{p pos:Pos}(hg:Gl X "range")(hm:X.mg "range" = none)(ha:PA X [a] T)(hs:starEach [a] X.env=[SZ]:=by rfl):PI X tg (.Call (.Name "range" p) [a] [] pos) (o9 T):=by
 intro pins s σ H R I h;refine Call_ (GR I hg hm boot_range (ak (BU bi fun us s1 ⟨vs,H1,I1,Y,g⟩=>?_) hs rfl));obtain⟨j,e,g,Z,q⟩:=g;subst e;cases Y with
 |cons r U=>
  cases U;obtain⟨t,rfl⟩:=r;exact call_range_1 (WS I1 AS AS g Z (by simpa using q))
theorem cY{a b:Expr}{Y:TA}{p pos:Pos}(hg:Gl X "range")(hm:X.mg "range" = none)(ha:PA X [a,b] Y)(hs:starEach [a,b] X.env=[SZ,Pa]:=by rfl)(g:starEach [b] X.env=[Pa]:=by rfl) :
  PI X tg (.Call (.Name "range" p) [a,b] [] pos) (pX Y):=by
 intro pins s σ H R I h;refine Call_ (GR I hg hm boot_range (ak (BU bi fun us s1 ⟨vs,H1,I1,Z,U⟩=>?_) (by rw[hs,g]) (by rw[g];rfl)));obtain⟨i,j,e,⟨U,q2,q3,q4⟩,q⟩:=U;subst e;cases Z with
 |cons r T=>
  cases T with
  |cons r' T=>
   cases T;obtain⟨t,rfl⟩:=r;obtain⟨t',rfl⟩:=r';exact call_range_2 (WS I1 U q2 q3 q4 q)
def sP(Z:TI)(g:TG)(tb:TS):TS:=fun D σ H=>Z σ H fun J H1=>∃W:Nat->Nat->St->Hp->Prop,(∃m,W 0 m σ H1)/\∀i m σ H,W i m σ H ->
 (J.stop i H/\D.nx σ H)\/(J.go i H/\∃N:St->Hp->Prop,(∀T H',N T H'->∃Y,Y<m/\W SL Y T H')/\∀x H',J.F4 i H x H'->g x σ H' fun U H2=>tb uQ U H2)
def Og(fp:al)(h:Heap):List (Addr×Obj):=fp.filterMap fun b=>(h.get? b).map fun o=>(b,o)
theorem Kg{fp:al}{h:Heap}{b:Addr}{o:Obj}(hb:b∈fp)(e:h.get? b=some o):(b,o)∈Og fp h:=List.mem_filterMap.mpr ⟨b,hb,by rw[e];rfl⟩
theorem cM{fp:al}{h:Heap}{p:Addr×Obj}(g:p∈Og fp h):p.1∈fp/\h.get? p.1=some p.2:=by
 obtain⟨b,hb,e⟩:=List.mem_filterMap.mp g;cases q:h.get? b with
 |none=>rw[q]at e;cases e
 |some o=>
  rw[q]at e;have T:(b,o)=p:=ax e;subst T;exact⟨hb,q⟩
theorem Inv.pinned{pins:Da}{σ:St}{H:Hp}{s:IN}{fp:al}(I:Db)(Y:∀b∈fp,MJ X pins H b)(U:∀b∈fp,∃o,s.heap.get? b=some o/\∀v,o.data≠.cell v):Inv X (pins++Og fp s.heap) σ H s :=
 I.Xm fun p T=>(bH.mp T).elim (fun z=>I.pin p (aa _ z)) fun z=>by
  obtain⟨hb,e⟩:=cM z;obtain⟨Z,f1,f2,_⟩:=Y p.1 hb;obtain⟨o,g,d⟩:=U p.1 hb;rw[e]at g;cases g;exact⟨e,Z,f1,f2,d⟩
theorem Inv.M8{pins g:Da}{σ:St}{H:Hp}{s:IN}(I:Inv X (pins++g) σ H s):Inv X pins σ H s:=I.Xm fun p T=>I.pin p (aa _ (bf _ T))
theorem Hm{iter:Expr}{body:tY}{wi:TI}{g:TG}{tb:TS}{pos:Pos}(hp:PassesOwn EQ X.A X.env X.xe)(hc:oN)(hi:PI X tg iter wi)(hg:PG X tg g)(hb:Ie X body tb)
 (hs:∀x,foldedSetIterable iter X.env x=pure x:=by intro _;rfl):PS X (.For tg iter body [] pos) (sP wi g tb):=by
 intro pins s σ H D I h;refine wpAny_For (BU (hi pins s σ H _ I h) fun v s1 h1=>BU h1 fun itv s2 h2=>?_) hs;obtain⟨it,fp,tn,J,H2,e,I2,T,st2,f2,W,⟨m0,w0⟩,turn⟩:=h2;subst e;have stat:∀ {H':Hp},(∀b∈fp,H' b=none)->∀b∈fp,MJ X pins H' b:=fun hn b hb=>⟨hn b hb,(f2 b hb).2⟩;refine codeAny_forLoop_any (fun n s'=>∃i Z H',Inv X pins Z H' s'/\tn i s'.heap/\(∀b∈fp,H' b=none)/\W i n Z H') ?_ m0 ⟨0,σ,H2,I2,st2,fun b hb=>(f2 b hb).1,w0⟩;rintro n s3 ⟨i,Y,H3,I3,st3,fr3,w3⟩;rcases turn i n Y H3 w3 with ⟨stop,qn⟩|⟨go,N,hN,step⟩
 .refine wpAny_passesOwn hp (BU (T.done X rfl rfl rfl hc i pins s3 Y H3 X.xe I3 (stat fr3) st3 stop) fun r s4 ⟨hr,I4⟩=>?_);subst hr;exact wpAny_execs_nil ⟨Y,H3,I4,qn⟩
 .refine wpAny_passesOwn hp (BU (T.item X rfl rfl rfl hc i pins s3 Y H3 X.xe I3 (stat fr3) st3 go) fun r s4 ⟨u,hr,h4⟩=>?_);subst hr;refine wpAny_passesOwn hp (BU h4 fun _ s5 ⟨x,H5,I5,r5,y5,st5,fr5⟩=>?_);have I5':=I5.pinned (stat fr5) (T.obj _ _ st5);refine wpAny_passesOwn hp (BU (hg _ s5 Y H5 x u _ I5' r5 (step x H5 y5)) fun _ s6 ⟨σ6,H6,I6,q6⟩=>?_);refine wpAny_passesOwn hp (BU (hb _ s6 σ6 H6 _ I6 q6) fun f s7 q7=>?_);have again:∀ {U:St} {H7:Hp},Inv X (pins++Og fp s5.heap) U H7 s7->N U H7->∃m,m<n/\∃i Z H',Inv X pins Z H' s7/\tn i s7.heap/\(∀b∈fp,H' b=none)/\W i m Z H':=fun {U H7} I7 n7=>by
   obtain⟨m',hm,w7⟩:=hN U H7 n7;refine⟨m',hm,i+1,U,H7,I7.M8,T.keep _ _ _ st5 fun b hb o e=>(I7.pin (b,o) (aa _ (aa _ (Kg hb e)))).1,fun b hb=>?_,w7⟩;obtain⟨o,e,d⟩:=T.obj _ _ st5 b hb;exact(I7.pin (b,o) (aa _ (aa _ (Kg hb e)))).2.1
  cases f with
  |next=>obtain⟨U,H7,I7,n7⟩:=q7;exact again I7 n7
  |cont=>obtain⟨U,H7,I7,n7⟩:=q7;exact again I7 n7
  |brk=>obtain⟨U,H7,I7,q7⟩:=q7;exact⟨U,H7,I7.M8,q7⟩
  |ret v=>obtain⟨x7,U,H7,I7,r7,q7⟩:=q7;exact⟨x7,U,H7,I7.M8,r7,q7⟩
end
theorem LI{K:As}{a:Addr}{xs:HQ}{g:TG}{tb:TS}{D:Ends}{σ:St}{H:Hp}(Pv:Nat->St->Hp->Prop)(h0:Pv 0 σ H)(hl:∀i σ H,i<=xs.length->Pv i σ H->Aq K H a xs)
 (hs:∀i x σ H,xs[i]? = some x->Pv i σ H->g x σ H fun T Z=>tb {D with nx:=Pv SL,ct:=Pv SL,bk:=D.nx} T Z)(hd:∀σ H,Pv xs.length σ H->D.nx σ H) :
  ∃W:Nat->Nat->St->Hp->Prop,(∃m,W 0 m σ H)/\∀i m σ H,W i m σ H ->
   ((Xj K a).stop i H/\D.nx σ H)\/((Xj K a).go i H/\∃N:St->Hp->Prop,(∀U H',N U H'->∃m',m'<m/\W SL m' U H')/\∀x H',(Xj K a).F4 i H x H'->g x σ H' fun T Z=>tb uQ T Z):=by
 refine⟨fun i m σ H=>m=xs.length-i/\i<=xs.length/\Pv i σ H,⟨xs.length,by simp,Nat.zero_le _,h0⟩,?_⟩;rintro i m σ H ⟨rfl,hi,p⟩;have q:=hl i σ H hi p;by_cases Y:i<xs.length
 .refine .inr ⟨⟨xs,xs[i],q,by simp[Y]⟩,Pv SL,fun U H' p'=>⟨xs.length-SL,by lia,rfl,Y,p'⟩,fun x H' y=>?_⟩;obtain⟨e,y⟩:=y;subst e;exact hs i x σ _ (y xs q) p
 .have e:i=xs.length:=by lia
  subst e;exact .inl ⟨⟨xs,q,Nat.le_refl _⟩,hd σ H p⟩
theorem jN{K:As}{a:Addr}{xs:HQ}{g:TG}{tb:TS}{D:Ends}{σ:St}{H:Hp}(Pv:Nat->St->Hp->Prop)(h0:Pv 0 σ H)(hl:∀i σ H,i<=xs.length->Pv i σ H->BI K H a xs)
 (hs:∀i x σ H,xs[i]? = some x->Pv i σ H->g x σ H fun T Z=>tb {D with nx:=Pv SL,ct:=Pv SL,bk:=D.nx} T Z)(hd:∀σ H,Pv xs.length σ H->D.nx σ H) :
  ∃W:Nat->Nat->St->Hp->Prop,(∃m,W 0 m σ H)/\∀i m σ H,W i m σ H ->
   ((XG K a).stop i H/\D.nx σ H)\/((XG K a).go i H/\∃N:St->Hp->Prop,(∀U H',N U H'->∃m',m'<m/\W SL m' U H')/\∀x H',(XG K a).F4 i H x H'->g x σ H' fun T Z=>tb uQ T Z):=by
 refine⟨fun i m σ H=>m=xs.length-i/\i<=xs.length/\Pv i σ H,⟨xs.length,by simp,Nat.zero_le _,h0⟩,?_⟩;rintro i m σ H ⟨rfl,hi,p⟩;have q:=hl i σ H hi p;by_cases Y:i<xs.length
 .refine .inr ⟨⟨xs,xs[i],q,by simp[Y]⟩,Pv SL,fun U H' p'=>⟨xs.length-SL,by lia,rfl,Y,p'⟩,fun x H' y=>?_⟩;obtain⟨e,y⟩:=y;subst e;exact hs i x σ _ (y xs q) p
 .have e:i=xs.length:=by lia
  subst e;exact .inl ⟨⟨xs,q,Nat.le_refl _⟩,hd σ H p⟩
theorem Tz{lo:Int}{n:Nat}{g:TG}{tb:TS}{D:Ends}{σ:St}{H:Hp}(Pv:Nat->St->Hp->Prop)(h0:Pv 0 σ H)
 (hs:∀i σ H,i<n->Pv i σ H->g (.int (lo+i)) σ H fun T Z=>tb {D with nx:=Pv SL,ct:=Pv SL,bk:=D.nx} T Z)(hd:∀σ H,Pv n σ H->D.nx σ H) :
  ∃W:Nat->Nat->St->Hp->Prop,(∃m,W 0 m σ H)/\∀i m σ H,W i m σ H ->
   ((T1 lo n).stop i H/\D.nx σ H)\/((T1 lo n).go i H/\∃N:St->Hp->Prop,(∀U H',N U H'->∃m',m'<m/\W SL m' U H')/\∀x H',(T1 lo n).F4 i H x H'->g x σ H' fun T Z=>tb uQ T Z):=by
 refine⟨fun i m σ H=>m=n-i/\i<=n/\Pv i σ H,⟨n,by simp,Nat.zero_le _,h0⟩,?_⟩;rintro i m σ H ⟨rfl,hi,p⟩;by_cases Y:i<n
 .refine .inr ⟨Y,Pv SL,fun U H' p'=>⟨n-SL,by lia,rfl,Y,p'⟩,fun x H' y=>?_⟩;obtain⟨e,y⟩:=y;subst e y;exact hs i σ _ Y p
 .have e:i=n:=by lia
  subst e;exact .inl ⟨aI _,hd σ H p⟩
theorem QV{c:TT}{Y:TS}{D:Ends}{σ:St}{H:Hp}(Pv:St->Hp->Prop)(U:St->Hp->Nat)(h0:Pv σ H)
 (hs:∀σ H,Pv σ H->c σ H fun b T=>if b=true then Y {D with nx:=fun g H'=>Pv g H'/\U g H'<U σ H,ct:=fun g H'=>Pv g H'/\U g H'<U σ H,bk:=D.nx} σ T else D.nx σ T)
 (mono:∀σ H Q Z,(∀b T,Q b T->Z b T)->c σ H Q->c σ H Z):cn c Y D σ H:=by
 refine⟨fun m σ H=>m=U σ H/\Pv σ H,⟨_,rfl,h0⟩,?_⟩;rintro m σ H ⟨rfl,p⟩;refine mono σ H _ _ (fun b T q=>?_) (hs σ H p);cases b with
 |true=>exact⟨_,fun g H' ⟨p',l⟩=>⟨_,l,rfl,p'⟩,q⟩
 |false=>exact q
abbrev R2:=V->V->Hp->VK->Prop
def C8(X:Cx)(f:dO)(r:R2):Prop :=
 ∀(pins:Da) (s:IN) (σ:St) (H:Hp) (x y:V) (v u:Nh) (Q:VK),Inv X pins σ H s->RelV x v->RelV y u->r x y H Q ->
  wpAny EQ X.A (f v u) l7 X.xe s
def nI(X:Cx)(f:Value->Sem Value)(r:V->Hp->VK->Prop):Prop :=
 ∀(pins:Da) (s:IN) (σ:St) (H:Hp) (x:V) (v:Nh) (Q:VK),Inv X pins σ H s->RelV x v->r x H Q ->
  wpAny EQ X.A (f v) l7 X.xe s
def FO(X:Cx)(f:Nh)(r:List V->Hp->VK->Prop):Prop :=
 ∀(pins:Da) (s:IN) (σ:St) (H:Hp) (xs:HQ) (us:FS) (Q:VK),Inv X pins σ H s->Vals xs us->r xs H Q ->
  wpAny EQ X.A (call f us) l7 X.xe s
def a8(r:R2)(T g:TE):TE:=fun σ H Q=>T σ H fun x Y=>g σ Y fun y U=>r x y U Q
def sr(r:V->Hp->VK->Prop)(g:TE):TE:=fun σ H Q=>g σ H fun x T=>r x T Q
def rI(C:Int->Int->Prop)(g:Int->Int->V):R2:=fun x y H Q=>∃i j,x=.int i/\y=.int j/\C i j/\Q (g i j) H
def Tx(g:Int->Int->V):R2:=fun x y H Q=>∃i j,x=.int i/\y=.int j/\Q (g i j) H
def rU(g:Int->V):V->Hp->VK->Prop:=fun x H Q=>∃i,x=.int i/\Q (g i) H
section
variable{X:Cx}{a b:Expr}{ta tb:TE}{pos:Pos}
theorem fQ(ha:PE X a ta)(hb:PE X b tb){pins:Da}{s:IN}{σ:St}{H:Hp}{R:V->V->Hp->Prop}(I:Db)
 (h:ta σ H fun x Y=>tb σ Y fun y g=>R x y g){Q:AT}{f:dO}
 (hf:∀v u s2 x y g,Inv X pins σ g s2->RelV x v->RelV y u->R x y g->wpAny EQ X.A (f v u) Q X.xe s2) :
  wpAny EQ X.A (eval a X.env) (fun v U=>wpAny EQ X.A (eval b X.env) (fun u T=>wpAny EQ X.A (f v u) Q X.xe T) X.xe U) X.xe s:=by
 refine BU (ha pins s σ H _ I h) fun v s1 ⟨x,Y,I1,r1,q1⟩=>?_;refine BU (hb pins s1 σ Y _ I1 q1) fun u s2 ⟨y,g,I2,Z,q2⟩=>?_;exact hf v u s2 x y g I2 r1 Z q2
theorem A0{op:Operator}{r:R2}(U:C8 X (binaryOp op) r)(ha:PE X a ta)(hb:PE X b tb):PE X (.BinOp a op b pos) (a8 r ta tb):=by
 intro pins s σ H Q I h;exact wpAny_BinOp (fQ ha hb I h fun v u s2 x y Z Y T g q=>U pins s2 σ Z x y v u Q Y T g q)
theorem YU{op:UnaryOp}{r:V->Hp->VK->Prop}(U:nI X (unaryOp op) r)(ha:PE X a ta):PE X (.UnaryOp op a pos) (sr r ta):=by
 intro pins s σ H Q I h;exact UnaryOp_ (BU (ha pins s σ H _ I h) fun v s1 ⟨x,Z,Y,g,T⟩=>U pins s1 σ Z x v Q Y g T)
theorem XA{f:dO}{C:Int->Int->Prop}{g:Int->Int->Int}
 (rule:∀(i j:Int) (t u:Tok) (s:IN) (Q:AT) (E:AT),C i j->Q (.int (g i j) s.toks) {s with toks:=s.toks+1}->wpAny EQ X.A (f (.int i t) (.int j u)) Q E s) :
  C8 X f (rI C fun i j=>.int (g i j)):=by
 intro pins s σ H x y v u Q I Y U h;obtain⟨i,j,rfl,rfl,Z,q⟩:=h;obtain⟨t,rfl⟩:=Y;obtain⟨T,rfl⟩:=U;exact rule i j t T s _ _ Z ⟨.int (g i j),H,I.tok _,⟨_,rfl⟩,q⟩
theorem mU{f:dO}{g:Int->Int->Int}
 (rule:∀(i j:Int) (t u:Tok) (s:IN) (Q:AT) (E:AT),Q (.int (g i j) s.toks) {s with toks:=s.toks+1}->wpAny EQ X.A (f (.int i t) (.int j u)) Q E s) :
  C8 X f (Tx fun i j=>.int (g i j)):=by
 intro pins s σ H x y v u Q I Y U h;obtain⟨i,j,rfl,rfl,q⟩:=h;obtain⟨t,rfl⟩:=Y;obtain⟨T,rfl⟩:=U;exact rule i j t T s _ _ ⟨.int (g i j),H,I.tok _,⟨_,rfl⟩,q⟩
theorem d8{f:dO}{g:Int->Int->Bool}
 (rule:∀(i j:Int) (t u:Tok) (s:IN) (Q:AT) (E:AT),Q (.bool (g i j)) s->wpAny EQ X.A (f (.int i t) (.int j u)) Q E s) :
  C8 X f (Tx fun i j=>.bl (g i j)):=by
 intro pins s σ H x y v u Q I Y U h;obtain⟨i,j,rfl,rfl,q⟩:=h;obtain⟨t,rfl⟩:=Y;obtain⟨T,rfl⟩:=U;exact rule i j t T s _ _ ⟨.bl (g i j),H,I,rfl,q⟩
def qv(i j:Int):Prop:=0<j/\j<1073741824
def qw(i j:Int):Prop:=0<=j/\j<=1000000/\i.natAbs<2^64
def QH(i j:Int):Prop:=(-(2^64)<i/\i<2^64)\/(-(2^64)<j/\j<2^64)
theorem QH.ok{i j:Int}(h:QH i j):IntMulOk i j:=by
 rcases h with ⟨T,g⟩|⟨T,g⟩
 .exact .of_left (intBits_le_64 T g)
 .exact .of_right (intBits_le_64 T g)
theorem Fv:C8 X (binaryOp .Add) (Tx fun i j=>.int (i+j)):=mU fun _ _ _ _ _ _ _ q=>add_int q
theorem RP:C8 X (binaryOp .Sub) (Tx fun i j=>.int (i-j)):=mU fun _ _ _ _ _ _ _ q=>sub_int q
theorem jR:C8 X (binaryOp .FloorDiv) (rI qv fun i j=>.int (i / j)):=XA fun i j _ _ _ _ _ g q=>by
 have U:(0:Int)<j:=g.1;have T:j<1073741824:=g.2;exact floordiv_int AS (by rw[Int.fdiv_eq_ediv_of_nonneg i AS];exact q) (.inl (PyProof.noPylong_small AS))
theorem Ot:C8 X (binaryOp .Mod) (rI (fun _ j=>0<j) fun i j=>.int (i % j)):=XA fun i j _ _ _ _ _ g q=>by
 have T:(0:Int)<j:=g;exact mod_int' AS (by rw[Int.fmod_eq_emod_of_nonneg i AS];exact q)
theorem MV:C8 X (binaryOp .Mod) (rI (fun _ j=>j≠0) fun i j=>.int (i.fmod j)):=XA fun _ _ _ _ _ _ _ g q=>mod_int' g q
theorem Q0:C8 X (binaryOp .Pow) (rI qw fun i j=>.int (i^j.toNat)):=XA fun _ _ _ _ _ _ _ g q=>pow_int_small g.1 g.2.1 g.2.2 q
theorem sv{f:Value->Sem Value}{g:Int->Int}
 (rule:∀(i:Int) (t:Tok) (s:IN) (Q:AT) (E:AT),Q (.int (g i) s.toks) {s with toks:=s.toks+1}->wpAny EQ X.A (f (.int i t)) Q E s) :
  nI X f (rU fun i=>.int (g i)):=by
 intro pins s σ H x v Q I T h;obtain⟨i,rfl,q⟩:=h;obtain⟨t,rfl⟩:=T;exact rule i t s _ _ ⟨.int (g i),H,I.tok _,⟨_,rfl⟩,q⟩
theorem Wd:nI X (unaryOp .USub) (rU fun i=>.int (-i)):=sv fun _ _ _ _ _ q=>neg_int q
end
def kT:V->V->Bool
 |.Bp,.Bp=>true|.Bp,.int _=>true|.int _,.Bp=>true|.Bp,.bl _=>true|.bl _,.Bp=>true|.Bp,.str _=>true|.str _,.Bp=>true
 |.int _,.int _=>true|.bl _,.bl _=>true|.str _,.str _=>true|.OA _,.OA _=>true
 |.int _,.str _=>true|.str _,.int _=>true|.bl _,.str _=>true|.str _,.bl _=>true
 |_,_=>false
def tM:R2:=fun x y H Q=>kT x y=true/\Q (.bl (decide (x=y))) H
def tG:R2:=fun x y H Q=>kT x y=true/\Q (.bl (!decide (x=y))) H
theorem X4{i j:Int}:decide (V.int i=V.int j)=(i==j):=by
 rw[Bool.eq_iff_iff];simp
theorem cq{i j:Bool}:decide (V.bl i=V.bl j)=(i==j):=by
 rw[Bool.eq_iff_iff];simp
theorem XR{i j:Str}:decide (V.str i=V.str j)=(i==j):=by
 rw[Bool.eq_iff_iff];simp
theorem XX{i j:Array UInt8}:decide (V.OA i=V.OA j)=(i.toList==j.toList):=by
 rw[Bool.eq_iff_iff];cases i;cases j;simp
section
variable{X:Cx}{a b c:Expr}{ta tb:TE}{pos:Pos}
theorem Bd{pins:Da}{σ:St}{H:Hp}{s:IN}{Q:VK}{k g:Bool}(I:Db)(q:Q (.bl k) H)(e:k=g):EP X pins σ Q (.bool g) s:=by
 subst e;exact⟨.bl k,H,I,rfl,q⟩
theorem Ui:C8 X (compareOp .Eq) tM:=by
 intro pins s σ H x y v u Q I Y g h;obtain⟨U,q⟩:=h;cases x with
 |Bp=>
  cases Y;cases y with
  |Bp=>cases g;exact PySem.EqNone.eq_none_none ui
  |bl j=>cases g;exact PySem.EqNone.eq_none_bool ui
  |int j=>obtain⟨T,rfl⟩:=g;exact PySem.EqNone.eq_none_int ui
  |str j=>obtain⟨T,rfl⟩:=g;exact PySem.EqNone.eq_none_str ui
  |_=>exact absurd (show false=true from U) aN
 |bl i=>
  cases Y;cases y with
  |Bp=>cases g;exact PySem.EqNone.eq_bool_none ui
  |bl j=>cases g;exact eq_bool (Bd I q cq)
  |str j=>obtain⟨T,rfl⟩:=g;exact PySem.EqMixed.eq_bool_str ui
  |_=>exact absurd (show false=true from U) aN
 |int i=>
  obtain⟨t,rfl⟩:=Y;cases y with
  |Bp=>cases g;exact PySem.EqNone.eq_int_none ui
  |int j=>obtain⟨T,rfl⟩:=g;exact eq_int (Bd I q X4)
  |str j=>obtain⟨T,rfl⟩:=g;exact PySem.EqMixed.eq_int_str ui
  |_=>exact absurd (show false=true from U) aN
 |str i=>
  obtain⟨t,rfl⟩:=Y;cases y with
  |Bp=>cases g;exact PySem.EqNone.eq_str_none ui
  |bl j=>cases g;exact PySem.EqMixed.eq_str_bool ui
  |int j=>obtain⟨T,rfl⟩:=g;exact PySem.EqMixed.eq_str_int ui
  |str j=>obtain⟨T,rfl⟩:=g;exact eq_str (Bd I q XR)
  |_=>exact absurd (show false=true from U) aN
 |OA i=>
  obtain⟨t,rfl⟩:=Y;cases y with
  |OA j=>obtain⟨T,rfl⟩:=g;exact PySem.W.eq_bytes (Bd I q XX)
  |_=>exact absurd (show false=true from U) aN
 |_=>cases y<;>exact absurd (show false=true from U) aN
theorem RM:C8 X (compareOp .NotEq) tG:=by
 intro pins s σ H x y v u Q I Y g h;obtain⟨U,q⟩:=h;cases x with
 |Bp=>
  cases Y;cases y with
  |Bp=>cases g;exact PySem.EqNone.ne_none_none ui
  |bl j=>cases g;exact PySem.EqNone.ne_none_bool ui
  |int j=>obtain⟨T,rfl⟩:=g;exact PySem.EqNone.ne_none_int ui
  |str j=>obtain⟨T,rfl⟩:=g;exact PySem.EqNone.ne_none_str ui
  |_=>exact absurd (show false=true from U) aN
 |bl i=>
  cases Y;cases y with
  |Bp=>cases g;exact PySem.EqNone.ne_bool_none ui
  |bl j=>cases g;exact ne_bool (Bd I q (bP not cq))
  |str j=>obtain⟨T,rfl⟩:=g;exact PySem.EqMixed.ne_bool_str ui
  |_=>exact absurd (show false=true from U) aN
 |int i=>
  obtain⟨t,rfl⟩:=Y;cases y with
  |Bp=>cases g;exact PySem.EqNone.ne_int_none ui
  |int j=>obtain⟨T,rfl⟩:=g;exact ne_int (Bd I q (bP not X4))
  |str j=>obtain⟨T,rfl⟩:=g;exact PySem.EqMixed.ne_int_str ui
  |_=>exact absurd (show false=true from U) aN
 |str i=>
  obtain⟨t,rfl⟩:=Y;cases y with
  |Bp=>cases g;exact PySem.EqNone.ne_str_none ui
  |bl j=>cases g;exact PySem.EqMixed.ne_str_bool ui
  |int j=>obtain⟨T,rfl⟩:=g;exact PySem.EqMixed.ne_str_int ui
  |str j=>obtain⟨T,rfl⟩:=g;exact ne_str (Bd I q (bP not XR))
  |_=>exact absurd (show false=true from U) aN
 |OA i=>
  obtain⟨t,rfl⟩:=Y;cases y with
  |OA j=>obtain⟨T,rfl⟩:=g;exact PySem.W.ne_bytes (Bd I q (bP not XX))
  |_=>exact absurd (show false=true from U) aN
 |_=>cases y<;>exact absurd (show false=true from U) aN
theorem Q9:C8 X (compareOp .Lt) (Tx fun i j=>.bl (decide (i<j))):=d8 fun _ _ _ _ _ _ _ q=>lt_int q
theorem Uj:C8 X (compareOp .Gt) (Tx fun i j=>.bl (decide (j<i))):=d8 fun _ _ _ _ _ _ _ q=>gt_int q
theorem ZH:C8 X (compareOp .GtE) (Tx fun i j=>.bl (decide (j<=i))):=d8 fun _ _ _ _ _ _ _ q=>ge_int q
theorem mD:C8 X (compareOp .Is) (fun x y H Q=>y=.Bp/\Q (.bl (decide (x=.Bp))) H):=by
 intro pins s σ H x y v u Q I g T h;obtain⟨rfl,q⟩:=h;cases T;refine is_none_gen (Bd I q ?_);cases x<;>first
  |(cases g;rfl)
  |(obtain⟨t,rfl⟩:=g;rfl)
theorem jg:C8 X (compareOp .IsNot) (fun x y H Q=>y=.Bp/\Q (.bl (!decide (x=.Bp))) H):=by
 intro pins s σ H x y v u Q I g T h;obtain⟨rfl,q⟩:=h;cases T;refine isnot_none_gen (Bd I q ?_);cases x<;>first
  |(cases g;rfl)
  |(obtain⟨t,rfl⟩:=g;rfl)
theorem C8.or{f:dO}{r U:R2}(h:C8 X f r)(h':C8 X f U):C8 X f (fun x y H Q=>r x y H Q\/U x y H Q):=by
 intro pins s σ H x y v u Q I T g q;rcases q with q|q
 .exact h pins s σ H x y v u Q I T g q
 .exact h' pins s σ H x y v u Q I T g q
theorem Ax(b:Expr){op:CmpOp}(h:op≠.In:=by decide)(g:op≠.NotIn:=by decide):behindInMarks op b=false:=by
 have U:(op==CmpOp.In)=false:=by cases op<;>first|rfl|exact absurd rfl h
 have T:(op==CmpOp.NotIn)=false:=by cases op<;>first|rfl|exact absurd rfl g
 cases b<;>simp[behindInMarks,U,T]
theorem PJ{op:CmpOp}{r:R2}(U:C8 X (compareOp op) r)(ha:PE X a ta)(hb:PE X b tb)(hm:behindInMarks op b=false):PE X (.Compare a [op] [b] pos) (a8 r ta tb):=by
 intro pins s σ H Q I h;exact wpAny_Compare1 (fQ ha hb I h fun v u s2 x y Z Y T g q=>U pins s2 σ Z x y v u Q Y T g q) hm
def pZ(t:TE):TT:=fun σ H Q=>t σ H fun x H'=>∃k,x=.bl k/\Q k H'
theorem Ct{op:CmpOp}{r:R2}(ho:C8 X (compareOp op) r)(ha:PE X a ta)(hb:PE X b tb)(hm:behindInMarks op b=false):PT X (.Compare a [op] [b] pos) (pZ (a8 r ta tb)):=by
 intro pins s σ H Q I h;refine wpAny_isTrue_Compare1 (BU (ha pins s σ H _ I h) fun v s1 ⟨x,H1,I1,U,q1⟩=>BU (hb pins s1 σ H1 _ I1 q1) fun u s2 ⟨y,H2,I2,T,Z⟩=>
  BU (ho pins s2 σ H2 x y v u _ I2 U T Z) fun c s3 ⟨z,H3,I3,g,k,e,Y⟩=>?_) hm
 subst e;cases g;exact wpAny_truthy_bool ⟨H3,I3,Y⟩
theorem N5:(sizeLine:Nat)<2^63:=by rw[sizeLine_eq];decide
theorem YJ:C8 X (binaryOp .Add) (fun x y H Q=>∃i j,x=.str i/\y=.str j/\i.length+j.length<=sizeLine/\Q (.str (i++j)) H):=by
 intro pins s σ H x y v u Q I U T h;obtain⟨i,j,rfl,rfl,Y,q⟩:=h;obtain⟨t,rfl⟩:=U;obtain⟨g,rfl⟩:=T;exact add_str (fun g tk=>⟨.str (i++j),H,I.tok _,⟨_,rfl⟩,q⟩) Y
theorem vals1{x:V}{us:FS}(r:Vals [x] us):∃u,us=[u]/\RelV x u:=by
 cases r with
 |cons T g=>cases g;exact⟨_,rfl,T⟩
theorem Qk:FO X (.builtin "abs") (fun xs H Q=>∃i,xs=[.int i]/\Q (.int (if i<0 then -i else i)) H):=by
 intro pins s σ H xs us Q I r h;obtain⟨i,rfl,q⟩:=h;obtain⟨u,rfl,t,rfl⟩:=vals1 r;exact call_abs_int fun u tk=>⟨.int (if i<0 then -i else i),H,I.tok _,⟨_,rfl⟩,q⟩
end
structure fH(h:Heap)(x dx C:Addr)(mA:Fa):Prop where
 obj:h.get? x=some (PySem.W.instObj C dx)
 ns:h.Ns1 dx mA
 ne:dx≠x
theorem cW{h:Heap}{dx:Addr}{mA:Fa}(n:h.Ns1 dx mA):∃od,h.get? dx=some od/\∀name,PySem.W.lookIn name od=some (mA name):=by
 obtain⟨o,es,ep,U,hd,hk,_,hm⟩:=n;refine⟨o,U,fun name=>?_⟩;have e:=hm name;unfold nsFind findBy at e;rw[<-Array.find?_toList]at e;unfold PySem.W.lookIn;rw[hd];dsimp only;split
 .rename_i y q;rw[q]at e;exact bP some e
 .rename_i q;rw[q]at e;have a:es.toList.any (·.refKey)=false:=by
   rw[List.any_eq_false];intro y T;obtain⟨z,t,g⟩:=hk y (Array.mem_toList_iff.mp T);simp[DictEntry.refKey,g]
  have Y:¬es.toList.any (·.refKey)=true:=by rw[a];exact aN
  rw[if_neg Y];exact bP some e
theorem fH.look{h:Heap}{x dx C:Addr}{mA:Fa}(I:fH h x dx C mA):∃od,PySem.W.InstAt h x (PySem.W.instObj C dx) C (some od)/\∀name,PySem.W.lookIn name od=some (mA name) :=
 let⟨od,g,T⟩:=cW I.ns
 ⟨od,⟨I.obj,rfl,rfl,g⟩,T⟩
section
variable{P:Io}{w:Mw}{H:Hp}{h:Heap}{a C dx:Addr}{fs:List (Str×V)}
theorem jB(Av:Eo P w H h)(e:H a=some (.ins C dx fs)):∃mA,fH h a dx C mA/\(∀f,eH (fs.lookup f) (mA f))/\PySem.Within mA (fs.map cx)/\fs.length<=1000/\H dx=some (.own a):=by
 obtain⟨d,z,ne,ob,mA,n,r,q⟩:=(show Ci P w H h a (.ins C dx fs) from Av a _ e);exact⟨mA,⟨ob,n,ne⟩,r,q,z,d⟩
end
structure lg(K:As)(C:Addr):Prop where
 pg:PySem.W.plainGet K C Str.empty=true
 hd:PySem.W.hasDictIn K C=true
 po:PySem.W.plainOver K C=true
 sa:PySem.W.findIn K Pi "__setattr__" = some (some (.builtin "object.__setattr__"))
theorem lg.get{K:As}{C:Addr}(c:lg K C)(f:Str):PySem.W.plainGet K C f=true:=c.pg
section
variable{X:Cx}{pins:Da}{σ:St}{H:Hp}{s:IN}{A:Re}{E:AT}{Q:AT}{c:Nh}{b:Bool}
inductive II(K:As)(H:Hp):V->Value->Prop where
 |Bp:II K H .Bp (.type "NoneType")
 |bl (x:Bool):II K H (.bl x) (.type "bool")
 |int (i:Int):II K H (.int i) (.type "int")
 |str (x:Str):II K H (.str x) (.type "str")
 |Xs (x:UInt64):II K H (.Xs x) (.type "float")
 |lst {a:Addr} {xs:HQ} (e:H a=some Os):II K H Mt me
 |GN {a:Addr} {o:Obj} {xs:HQ} (e:H a=some (.GN o Os)):II K H Mt me
 |tup {a:Addr} {xs:HQ} (e:H a=some Op):II K H Mt IF
 |dK {a:Addr} {kvs:List (Key×V)} (e:H a=some (.dK kvs)):II K H Mt l8
 |dT {a:Addr} {kvs:List (List Key×V)} (e:H a=some (.dT kvs)):II K H Mt l8
 |ins {a C dx:Addr} {fs:List (Str×V)} (e:H a=some (.ins C dx fs)) (cl:lg K C) (ha:PySem.W.findIn K Pi "__class__" = some (some bn))
   (hn:PySem.W.specialIn K bn "__get__" = some (some mo)) (htk:PySem.W.takesIn K bn=some true)
   (hm:PySem.W.mroIn K C iS=some true):II K H Mt Pi
theorem Zc{x:V}{u t:Nh}(I:Db)(g:RelV x u)(ty:II X.K H x t)(e:PySem.W.kitOne X.K t c=some b)(h:∀tk,Q (.bool b) {s with toks:=tk}) :
  wpAny EQ A (call (.builtin "isinstance") [u,c]) Q E s:=by
 cases ty with
 |Bp=>cases (show u=Value.none from g);exact bI PySem.W.kitx_none I.HU True.intro e Lz h
 |bl y=>cases (show u=Value.bool y from g);exact bI PySem.W.kitx_bool I.HU True.intro e Lz h
 |int i=>obtain⟨t,q⟩:=(show ∃t,u=Value.int i t from g);cases q;exact bI PySem.W.kitx_int I.HU True.intro e Lz h
 |str y=>obtain⟨t,q⟩:=(show ∃t,u=Value.str y t from g);cases q;exact bI PySem.W.kitx_str I.HU True.intro e Lz h
 |Xs y=>obtain⟨t,q⟩:=(show ∃t,u=Value.float y t from g);cases q;exact bI PySem.W.kitx_float I.HU True.intro e Lz h
 | @lst a xs ea=>
  cases (show u=Value.ref a from g);obtain⟨_,_,n,_,T⟩:=(show Ci X.prog X.w H s.heap a Os from I.Av a _ ea);exact bI PySem.W.kitx_list I.HU ⟨_,T,rfl⟩ e Lz h
 | @GN a ob xs ea=>
  cases (show u=Value.ref a from g);obtain⟨_,_,_,n,_,T⟩:=(show Ci X.prog X.w H s.heap a (.GN ob Os) from I.Av a _ ea);exact bI PySem.W.kitx_list I.HU ⟨_,T,rfl⟩ e Lz h
 | @tup a xs ea=>
  cases (show u=Value.ref a from g);obtain⟨_,_,_,p⟩:=(show Ci X.prog X.w H s.heap a Op from I.Av a _ ea);obtain⟨o,T,U,_⟩:=p;exact bI PySem.W.kitx_tuple I.HU ⟨o,T,U⟩ e Lz h
 | @dK a kvs ea=>
  cases (show u=Value.ref a from g);obtain⟨_,_,vs,_,p⟩:=(show Ci X.prog X.w H s.heap a (.dK kvs) from I.Av a _ ea);obtain⟨o,es,ep,T,U,_⟩:=p;exact bI PySem.W.kitx_dict I.HU ⟨o,T,U.1⟩ e Lz h
 | @dT a kvs ea=>
  cases (show u=Value.ref a from g);obtain⟨_,_,xs,_,o,es,ep,T,U,_⟩:=(show Ci X.prog X.w H s.heap a (.dT kvs) from I.Av a _ ea);exact bI PySem.W.kitx_dict I.HU ⟨o,T,U.1⟩ e Lz h
 | @ins a C dx fs ea cl ha hn htk hm=>
  cases (show u=Value.ref a from g);obtain⟨mA,O,_⟩:=jB I.Av ea;obtain⟨od,J,_⟩:=O.look;exact bI (PySem.W.kitx_own (cl.get _) cl.hd ha hn htk hm) I.HU J e Lz h
end
structure DC(k:Nat)(A:Re):Prop where
 hd:A.handled=none
 dp:A.depth+3*k+5<recursionLimit
 un:A.units+16*k+200<cLine
theorem DC.mono{j k:Nat}{A:Re}(r:DC k A)(h:j<=k:=by decide):DC j A:=⟨r.hd,by have:=r.dp;lia,by have:=r.un;lia⟩
theorem DC.deeper{k:Nat}{A:Re}(r:DC oF A)(env:Env):DC k (A.deeper env) :=
 ⟨r.hd,by have:=r.dp;show A.depth+1+3*k+5<_;lia,by have:=r.un;show A.units+3+16*k+200<_;lia⟩
theorem DC.depth{k:Nat}{A:Re}(r:DC k A):A.depth<recursionLimit:=by have:=r.dp;lia
theorem DC.units{k:Nat}{A:Re}(r:DC k A):A.units+64<cLine:=by have:=r.un;lia
def qq:TA:=fun _ H Q=>Q [] H
def oX(T:TE)(g:TA):TA:=fun σ H Q=>T σ H fun x Y=>g σ Y fun xs U=>Q (x::xs) U
section
variable{X:Cx}{e:Expr}{es:Ov}{te:TE}{t:TA}{pos:Pos}
theorem AU:PA X [] qq:=fun _ _ _ _ H Q I h=>Calls.spliced_nil ⟨[],H,I,.nil,h⟩
theorem AG(ha:PE X e te)(hr:PA X es t)(Z:starEach ur X.env=MR::starEach es X.env:=by rfl):PA X ur (oX te t):=by
 intro pos pins s σ H Q I h;rw[Z];show wpAny _ _ (spliced (MR::backTo pos SE)) _ _ s;refine Calls.spliced_cons (BU (ha pins s σ H _ I h) fun u s1 ⟨x,H1,I1,T,Y⟩=>?_);exact BU (hr pos pins s1 σ H1 _ I1 Y) fun us s2 ⟨xs,H2,I2,g,U⟩=>⟨x::xs,H2,I2,.cons T g,U⟩
def sD(t:TA):TE:=fun σ H Q=>t σ H fun xs g=>xs.length<=sizeLine/\∀p,g p=none->Q (.ref p) (upd g p Op)
def rd(t:TA):TE:=fun σ H Q=>t σ H fun xs g=>xs.length<=sizeLine/\∀p,g p=none->Q (.ref p) (upd g p Os)
theorem Ry{U}(h:PA X es t):PE X (.Tuple es U pos) (sD t):=by
 intro pins s σ H Q I Y;refine wpAny_Tuple_spliced (BU (h pos pins s σ H _ I Y) fun us s1 ⟨xs,T,g,r,z,q⟩=>⟨by rw[<-r.length];exact z,?_⟩);have Z:T s1.heap.objs.size=none:=g.Av.fresh em;refine⟨.ref s1.heap.objs.size,upd T s1.heap.objs.size Op,g.laid (t':=s1.toks) (fun b u e=>aF _ e) em ?_,rfl,q _ Z⟩;exact⟨z,us,r,⟨_,Heap.get?_push_size _ rfl,rfl,_,rfl⟩⟩
theorem Jt(h:PA X es t):PE X (.List es pos) (rd t):=by
 intro pins s σ H Q I U;refine wpAny_List_spliced (BU (h pos pins s σ H _ I U) fun us s1 ⟨xs,T,g,r,z,q⟩=>⟨by rw[<-r.length];exact z,?_⟩);have Y:T s1.heap.objs.size=none:=g.Av.fresh em;refine⟨.ref s1.heap.objs.size,upd T s1.heap.objs.size Os,g.laid (t':=s1.toks) (fun b u e=>aF _ e) em ?_,rfl,q _ Y⟩;exact⟨z,us,0,r,Heap.get?_push_size _ rfl⟩
end
abbrev Sp:=List V->Hp->VK->XK->Prop
abbrev Ho:=List Env->Hp->Shared->XK->Value->Shared->Prop
structure ZP(P:Io)(w:Mw)(K:As)(mg:Fa)(base:Heap)(A:Re)(outer:List Env)(s:IN)(H:Hp):Prop where
 frames:A.frames=some outer
 mod:Mod K mg base
 bs:∀b o,base.get? b=some o->s.heap.get? b=some o/\H b=none
 Rm:base.objs.size<=s.heap.objs.size
 Il:s.heap.FunFrames base outer
 Qv:∀b∈Gq outer,H b=none
 Av:Eo P w H s.heap
 bare:AllBare s.gens
 kt:KTb mg H
def CE(outer:List Env)(P:Io)(w:Mw)(H:Hp)(s:IN)(Q:VK)(u:Nh)(s':IN):Prop :=
 ∃v H',s'.os=s.os/\AllBare s'.gens/\Un (Gq outer) [] H H' s.heap s'.heap/\Eo P w H' s'.heap/\RelV v u/\Q v H'
def CR(CX:Ho)(outer:List Env)(P:Io)(w:Mw)(H:Hp)(s:IN)(Q:VK)(E:XK)(r:Result)(s':IN):Prop :=
 match r with
 |.ok (.ret u)=>CE outer P w H s Q u s'
 |.ok _=>False
 |.error e=>CX outer H s E e s'
structure AH(P:Io)(w:Mw)(K:As)(mg:Fa)(base:Heap)(CX:Ho)(k:Nat)(f:Addr)(fd:IR)(ps:MA)(sp:Sp):Prop where
 len:∀vs H Q E,sp vs H Q E->vs.length=ps.length
 run:∀(A:Re) (outer:List Env) (s:IN) (H:Hp) (args:Args) (us:FS) (vs:HQ) (Q:VK) (E:XK),DC k A->ZP P w K mg base A outer s H->BindsTo s fd args (ps.zip us)->Vals vs us->sp vs H Q E ->
  codeAny (model P w) A (.call (.ref f) args) (CR CX outer P w H s Q E) s
theorem AH.mono{P:Io}{w:Mw}{K:As}{mg:Fa}{base:Heap}{CX:Ho}{j k:Nat}{f:Addr}{fd:IR}{ps:MA}{sp:Sp}(F:AH P w K mg base CX j f fd ps sp)(h:j<=k:=by decide) :
  AH P w K mg base CX k f fd ps sp:=⟨F.len,fun A outer s H args us vs Q E g=>F.run A outer s H args us vs Q E (g.mono h)⟩
theorem AH.imp{P:Io}{w:Mw}{K:As}{mg:Fa}{base:Heap}{CX:Ho}{k:Nat}{f:Addr}{fd:IR}{ps:MA}{sp g:Sp}(F:AH P w K mg base CX k f fd ps sp)
 (h:∀vs H Q E,g vs H Q E->sp vs H Q E):AH P w K mg base CX k f fd ps g :=
 ⟨fun vs H Q E q=>F.len vs H Q E (h _ _ _ _ q),fun A outer s H args us vs Q E Y Z hb T U=>F.run A outer s H args us vs Q E Y Z hb T (h _ _ _ _ U)⟩
section
variable{X:Cx}{pins:Da}{σ:St}{H:Hp}{s s':IN}
theorem Inv.lZ(I:Db):ZP X.prog X.w X.K X.mg X.base X.A X.stack s H :=
 ⟨I.ok.frames,I.ok.mod,I.bs,Nat.le_trans I.ok.Rm I.sz,I.stack,I.S6,I.Av,I.bare,I.kt⟩
theorem Inv.after{Q:VK}{u:Nh}(I:Db)(h:CE X.stack X.prog X.w H s Q u s'):EP X pins σ Q u s':=by
 obtain⟨v,H',os,bare,un,Av,r,q⟩:=h;obtain⟨U,g,d,t,T⟩:=s';obtain rfl:T=s.os:=os;exact⟨v,H',I.call (h':=U) (g':=g) (d':=d) (t':=t) (ch:=[]) un Av bare (fun b z=>absurd z Ch),r,q⟩
end
def YN(sp:Sp)(g:HQ)(E:XK)(t:TA):TE:=fun σ H Q=>t σ H fun vs T=>sp (vs++g) T Q E
def Binds(K:As)(fd:IR)(ps:MA)(ds:FS):Prop :=
 ∀(s:IN) (us:FS),K.In s.heap->(us++ds).length=ps.length->BindsTo s fd ⟨us,[]⟩ (ps.zip (us++ds))
theorem Binds.all{K:As}{fd:IR}{ps:MA}(h:∀us:List Value,us.length=ps.length->bindArgs fd ⟨us,[]⟩=pure (ps.zip us)):Binds K fd ps []:=fun s us _ g=>by
 rw[List.append_nil]at g ⊢;exact .of_eq (h us g)
def Passes(CX:Ho)(X:Cx)(E:XK):Prop:=∀(pins:Da) (σ:St) (H:Hp) (s:IN) (e:Nh) (s':IN),Inv X pins σ H s->CX X.stack H s E e s'->X.xe e s'
section
variable{X:Cx}{CX:Ho}{k:Nat}{f:Addr}{fd:IR}{ps:MA}{sp:Sp}{dvs:HQ}{ds:FS}{E:XK}{x:Str}{p pos:Pos}{e:Expr}{es:Ov}{t:TA}
theorem j4{pins:Da}{σ:St}{H:Hp}{s:IN}{Q:VK}{us:FS}{vs:HQ}(F:AH X.prog X.w X.K X.mg X.base CX k f fd ps sp)(Y:DC k X.A)(hb:Binds X.K fd ps ds)(hd:Vals dvs ds)(U:Passes CX X E)
 (I:Db)(r:Vals vs us)(h:sp (vs++dvs) H Q E):wpAny EQ X.A (call (.ref f) us) l7 X.xe s:=by
 have T:Vals (vs++dvs) (us++ds):=r.append hd;have Z:(us++ds).length=ps.length:=by rw[<-T.length];exact F.len _ _ _ _ h
 refine wpAny_call (codeAny_mono (F.run X.A X.stack s H ⟨us,[]⟩ (us++ds) (vs++dvs) Q E Y I.lZ (hb s us I.HU Z) T h) fun r s' g=>?_);cases r with
 |error e=>exact U pins σ H s e s' I g
 |ok fl=>
  cases fl with
  |ret u=>exact I.after g
  |next=>exact False.elim g
  |brk=>exact False.elim g
  |cont=>exact False.elim g
theorem Xy(F:AH X.prog X.w X.K X.mg X.base CX k f fd ps sp)(Z:DC k X.A)(hg:Gl X x)(hm:X.mg x=some (.ref f))(hk:PySem.W.keepIn X.K (.ref f)=true)(hb:Binds X.K fd ps ds)(hd:Vals dvs ds)(Y:Passes CX X E)
 (ha:PA X ur t)(T:Id=false:=by decide)(he:starEach ur X.env=MR::starEach es X.env:=by rfl)(g:(backTo pos SE).any cx=false:=by rfl) :
  PE X Iv (YN sp dvs E t):=by
 intro pins s σ H Q I h;refine wpAny_Call_Name_kw (Kq I hg hm ?_ T);refine PySem.W.callWith_K (h₀:=X.base) I.ok.mod.P0 hk (BU bi fun us s1 ⟨vs,H1,U,r,q⟩=>⟨U.HU,?_⟩) he g;exact j4 F Z hb hd Y U r q
end
structure Ag(N P:MA)(sc:Scope):Prop where
 kind:sc.kind=.function
 co:sc.isCoroutine=false
 gen:sc.isGenerator=false
 nd:N.Nodup
 pre:N.take P.length=P
 par:∀x∈P,sc.names.lookup x=some .local\/sc.names.lookup x=some .cell
 kd:∀y∈sc.names,y.2≠.free
theorem UQ{kindOf:Str->Option NameKind}{x:Str}:∀ {binds:List (Str×Value)} {m:Fa},(∀v,(x,v) ∉ binds)->bindL kindOf binds m x=m x
 |[],_,_=>rfl
 |(n,v)::r,m,h=>by
  unfold bindL;rw[UQ fun w g=>h w (aT _ g)];split
  .have:x≠n:=by rintro rfl;exact h v af
   simp[this]
  .rfl
theorem Tu{kindOf:Str->Option NameKind}{x:Str}:∀ {binds:List (Str×Value)} {m:Fa},(∀v,(x,v) ∉ binds)->bindC kindOf binds m x=m x
 |[],_,_=>rfl
 |(n,v)::r,m,h=>by
  unfold bindC;rw[Tu fun w g=>h w (aT _ g)];split
  .rfl
  .have:x≠n:=by rintro rfl;exact h v af
   simp[this]
theorem T7{kindOf:Str->Option NameKind}{x:Str}{v:Nh}:∀ {P:MA} {vs:FS} {i:Nat} {m:Fa},P.Nodup->P[i]? = some x->vs[i]? = some v->kindOf x=some .local ->
  bindL kindOf (P.zip vs) m x=some v
 |[],_,_,_,_,h,_,_=>by simp at h
 |_::_,[],_,_,_,_,h,_=>by simp at h
 |p::P,w::vs,0,m,nd,T,g,hk=>by
  simp at T g;subst T;subst g;show bindL kindOf ((p,w)::P.zip vs) m p=_;unfold bindL;rw[UQ fun v U=>(List.nodup_cons.mp nd).1 (List.of_mem_zip U).1,if_pos hk];simp
 |p::P,w::vs,i+1,m,nd,T,g,hk=>by
  show bindL kindOf ((p,w)::P.zip vs) m x=_;unfold bindL;exact T7 (i:=i) (List.nodup_cons.mp nd).2 (by simpa using T) (by simpa using g) hk
theorem UP{kindOf:Str->Option NameKind}{x:Str}{v:Nh}:∀ {P:MA} {vs:FS} {i:Nat} {m:Fa},P.Nodup->P[i]? = some x->vs[i]? = some v->kindOf x≠some .local ->
  bindC kindOf (P.zip vs) m x=some v
 |[],_,_,_,_,h,_,_=>by simp at h
 |_::_,[],_,_,_,_,h,_=>by simp at h
 |p::P,w::vs,0,m,nd,T,g,hk=>by
  simp at T g;subst T;subst g;show bindC kindOf ((p,w)::P.zip vs) m p=_;unfold bindC;rw[Tu fun v U=>(List.nodup_cons.mp nd).1 (List.of_mem_zip U).1,if_neg hk];simp
 |p::P,w::vs,i+1,m,nd,T,g,hk=>by
  show bindC kindOf ((p,w)::P.zip vs) m x=_;unfold bindC;exact UP (i:=i) (List.nodup_cons.mp nd).2 (by simpa using T) (by simpa using g) hk
def start(N:MA)(vs:HQ):St:=vs.map some++List.replicate (N.length-vs.length) none
def Cp(CX:Ho)(P:Io)(w:Mw)(K:As)(mg:Fa)(base:Heap)(N:MA)(qual:Str)(scope:Scope)(f:Addr)(cd:Nh)(A:Re)(outer:List Env)(s:IN)(H:Hp)(E:XK):Cx where
 prog:=P
 w:=w
 K:=K
 mg:=mg
 base:=base
 A:=A.deeper PZ
 N:=N
 s₀:=s
 H₀:=H
 env:=envOfC qual scope s.heap.objs.size f cd
 outer:=outer
 stack:=envOfC qual scope s.heap.objs.size f cd::outer
 ex:=[]
 calm:=true
 fn:=fun _=>true
 pn:=[]
 xe:=fun e s'=>wpAny (model P w) (A.deeper PZ) (leaving PZ e) (fun _ s''=>CX outer H s E e s'') (fun e' s''=>CX outer H s E e' s'') s'
theorem Va{sc:Scope}{n:Nat}{x:Str}(h:sc.names.lookup x=some .cell):∃c,(cellsFrom n sc.names []).lookup x=some c:=by
 have q:=PySem.W.cellsFrom_some sc.names n [] (.inl h);exact Option.isSome_iff_exists.mp q
theorem Zw{CX:Ho}{P:Io}{w:Mw}{K:As}{mg:Fa}{base:Heap}{N ps:MA}{qual:Str}{scope:Scope}{f:Addr}{cd:Nh}{A:Re}{outer:List Env}{s s1:IN}{H:Hp}{E:XK}{us:FS}{vs:HQ}
 (S:Ag N ps scope)(hd:A.handled=none)(T:ZP P w K mg base A outer s H)(hl:vs.length=ps.length)(r:Vals vs us)
 (x:InCallC s s.heap.objs.size (bindL (envOfC qual scope s.heap.objs.size f cd).kindOf (ps.zip us) fun _=>none) (cellsFrom IS scope.names []) (bindC (envOfC qual scope s.heap.objs.size f cd).kindOf (ps.zip us) fun _=>none) s1) :
  Inv (Cp CX P w K mg base N qual scope f cd A outer s H E) [] (start N vs) H s1:=by
 have hpl:ps.length<=N.length:=by have:=bP List.length S.pre;rw[List.length_take]at this;lia
 obtain⟨h1,tk,rfl,hk⟩:=x.done;have U:∀b:Addr,b ∉ (Cp CX P w K mg base N qual scope f cd A outer s H E).ex:=fun b z=>absurd (show b∈([]:List Addr) from z) Ch;refine⟨⟨T.mod,S.kind,rfl,rfl,Nat.le_refl _,fun y z c h1 g=>?_,fun y Y=>?_,fun y c _ h=>?_,fun _=>hd,Around.frames_deeper T.frames,.inr ⟨rfl,rfl⟩,fun b z=>absurd z (U b),T.bs,T.Rm,fun b _ _=>U b,fun b z=>absurd z (U b),T.Il,T.Qv,T.kt⟩,
  rfl,T.bare,Un.kept hk,⟨_,x.toInCall.ns,fun i y v h1 g h3=>?_⟩,fun y c h=>⟨_,x.cell y c h⟩,T.Av.fresh em,fun y c h=>?_,fun p hp=>absurd (show p∈([]:List (Addr×Obj)) from hp) Ch,T.Av.kept hk,?_⟩
 .exact name_of_addr x.apart (PySem.mem_of_lookup h1) (PySem.mem_of_lookup g)
 .have Y:scope.names.lookup y=some .cell\/scope.names.lookup y=some .free:=Y;rcases Y with Y|Y
  .exact Va Y
  .exact absurd rfl (S.kd _ (PySem.mem_of_lookup Y))
 .exact bD (x.above y c (PySem.mem_of_lookup h))
 .have hi:i<vs.length:=by
   unfold start at g;by_cases hi:i<vs.length
   .exact hi
   .rw[List.getElem?_append_right tW]at g;rw[List.getElem?_replicate]at g;split at g<;>cases g
  have ha:vs[i]? = some v:=by
   unfold start at g;rw[List.getElem?_append_left tW,List.getElem?_map]at g;cases e:vs[i]? with
   |none=>rw[e]at g;cases g
   |some a=>rw[e]at g;cases g;rfl
  obtain⟨u,hu,rv⟩:=r.get ha;have hp:ps[i]? = some y:=by
   rw[<-S.pre,List.getElem?_take_of_lt AS];exact h1
  have Z:ps.Nodup:=by rw[<-S.pre];exact S.nd.sublist (List.take_sublist _ _)
  refine⟨u,rv,?_⟩;rcases S.par y (aK hp) with k|k
  .exact .inl ⟨k,T7 Z hp hu k⟩
  .obtain⟨c,e⟩:=Va (n:=s.heap.objs.size+1) k;refine .inr ⟨.inl k,c,e,?_⟩;have q:=x.cell y c e;rw[UP Z hp hu (by show scope.names.lookup y≠_;rw[k];decide)]at q;exact q
 .exact T.Av.fresh (bD (x.above y c (PySem.mem_of_lookup h)))
 .unfold start;show _=N.length;rw[List.length_append,List.length_map,List.length_replicate]
  lia
theorem fi{CX:Ho}{P:Io}{w:Mw}{K:As}{mg:Fa}{base:Heap}{k:Nat}{f:Addr}{name qual:Str}{params:Arguments}{g:tY}{scope:Scope}{dV kV doc pm cdv ct oc:Nh}{an od:Option Addr}
 {osl:Array (Option Value)}{N ps:MA}{sp:Sp}(lk:K.lookup f=some ⟨oc,od,.func (PySem.W.fnOf name qual params g scope dV kV doc pm an cdv ct),osl⟩)(hcd:PySem.W.codeIn K cdv qual=true)(S:Ag N ps scope)
 (len:∀vs H Q E,sp vs H Q E->vs.length=ps.length)
 (Y:∀(A:Re) (outer:List Env) (s:IN) (H:Hp) (vs:HQ) (Q:VK) (E:XK),DC k (A.deeper (envOfC qual scope s.heap.objs.size f cdv))->sp vs H Q E ->
   ∃t,Ie (Cp CX P w K mg base N qual scope f cdv A outer s H E) g t/\t { nx:=fun _ H'=>Q .Bp H',rt:=Q} (start N vs) H) :
  AH P w K mg base CX oF f (PySem.W.fnOf name qual params g scope dV kV doc pm an cdv ct) ps sp:=by
 refine⟨len,fun A outer s H args us vs Q E hr e0 hb r hsp=>?_⟩;have hl:=len _ _ _ _ hsp;have KX:K.In s.heap:=e0.mod.P0.keeps fun b o e=>(e0.bs b o e).1;have lim:s.heap.NoLimit:=e0.mod.nolimit.keeps fun b o e=>(e0.bs b o e).1;have U:∀y∈ps.zip us,scope.names.lookup y.1=some .local\/(scope.names.lookup y.1=some .cell/\((cellsFrom IS scope.names []).lookup y.1).isSome=true):=fun⟨n,v⟩ hy=>by
  rcases S.par n (List.of_mem_zip hy).1 with q|q
  .exact .inl q
  .exact .inr ⟨q,PySem.W.cellsFrom_some _ _ _ (.inl q)⟩
 refine codeAny_call_function hr.depth (KX _ _ lk) rfl S.co S.gen rfl (PySem.W.codeRec_of KX hcd) (hb _ _ _ _ ?_);refine wpAny_newFunctionEnv_cells S.kind U fun env he s1 x=>?_;subst he;refine⟨lim.keeps x.toInCall.keep,codeAny_func ?_⟩;obtain⟨t,ht,hq⟩:=Y A outer s H vs Q E (hr.deeper _) hsp;have I:Inv (Cp CX P w K mg base N qual scope f cdv A outer s H E) [] (start N vs) H s1:=Zw S hr.hd e0 hl r x;refine aX (ht [] s1 (start N vs) H _ I hq) (fun fl s' Z=>?_) fun e s' Z=>Z;have fin:∀ {T:St} {H':Hp} {v:V} {u:Nh},Inv (Cp CX P w K mg base N qual scope f cdv A outer s H E) [] T H' s'->RelV v u->Q v H'->CE outer P w H s Q u s' :=
  fun {T H' v u} J rv q=>⟨v,H',J.os,J.bare,J.base,J.Av,rv,q⟩
 cases fl with
 |ret u=>
  obtain⟨v,T,H',J,rv,q⟩:=Z;exact fin J rv q
 |next=>
  obtain⟨T,H',J,q⟩:=Z;exact fin (v:=V.Bp) (u:=Value.none) J rfl q
 |brk=>
  obtain⟨_,_,_,q⟩:=Z;exact False.elim q
 |cont=>
  obtain⟨_,_,_,q⟩:=Z;exact False.elim q
section
variable{X:Cx}{x:Str}{p pos:Pos}{e:Expr}{es:Ov}{t:TA}{id T:String}{r:List V->Hp->VK->Prop}
def qW(r:List V->Hp->VK->Prop)(t:TA):TE:=fun σ H Q=>t σ H fun vs g=>r vs g Q
theorem BR(hc:FO X (.builtin id) r)(hg:Gl X x)(hm:X.mg x=none)(hv:bootBuiltins x=some (.builtin id))(ha:PA X ur t)(hn:x ≠ "__name__":=by decide)(U:Id=false:=by decide)
 (he:starEach ur X.env=MR::starEach es X.env:=by rfl)(g:(backTo pos SE).any cx=false:=by rfl):PE X Iv (qW r t):=by
 intro pins s σ H Q I h;refine wpAny_Call_Name_kw (GR I hg hm hv ?_ hn U);exact PyProof.Rows.callWith_builtin1 (BU bi fun us s1 ⟨vs,H1,I1,Y,Z⟩=>hc pins s1 σ H1 vs us Q I1 Y Z) he g
theorem UM(hc:FO X (.type T) r)(hg:Gl X x)(hm:X.mg x=none)(hv:bootBuiltins x=some (.type T))(ha:PA X ur t)(hn:x ≠ "__name__":=by decide)(U:Id=false:=by decide)
 (he:starEach ur X.env=MR::starEach es X.env:=by rfl)(g:(backTo pos SE).any cx=false:=by rfl):PE X Iv (qW r t):=by
 intro pins s σ H Q I h;refine wpAny_Call_Name_kw (GR I hg hm hv ?_ hn U);exact ak (BU bi fun us s1 ⟨vs,H1,I1,Y,Z⟩=>hc pins s1 σ H1 vs us Q I1 Y Z) he g
end
end L2
namespace HT
open PySem PyProof.Rows
section
variable{prog:Io}{w:Mw}{A:Re}{E:AT}{s:IN}
theorem jZ{t b:Addr}{vs g:FS}{Q:AT}(ht:IsTup s.heap t vs.toArray)(hb:IsTup s.heap b g.toArray)(hv:vs≠[])
 (h1:g=[]->Q (.ref t) s)(h2:g≠[]->Q GE {s with heap:=s.heap.push { cls:=.type "tuple",data:=.seq (vs++g).toArray} })
 (hsz:vs.length+g.length<=sizeLine):wpAny At A (binaryOp .Add (.ref t) (.ref b)) Q E s:=by
 obtain⟨⟨cls,dd,data,sl⟩,ho,hc,n,hd⟩:=id ht;obtain⟨⟨cls2,dd2,data2,U⟩,T,Z,n2,Y⟩:=id hb;simp only at hc hd Z Y;subst hc hd Z Y;have e:vs.toArray++g.toArray=(vs++g).toArray:=by simp
 by_cases hw:g=[]
 .exact concat_meets ⟨_,ho,rfl⟩ ⟨_,T,rfl⟩ noFill_tuple_add seq_tuple_add PySem.F.slot_tuple_add PySem.F.entry_tuple_add (PySem.F.args_tuple_add_2 _ _)
   (tuple_addW1 t b vs.toArray g.toArray n n2 dd dd2 sl U (by simpa using hv) (by simp[hw])) ⟨ho,T,h1 hw⟩
 .refine concat_meets ⟨_,ho,rfl⟩ ⟨_,T,rfl⟩ noFill_tuple_add seq_tuple_add PySem.F.slot_tuple_add PySem.F.entry_tuple_add (PySem.F.args_tuple_add_2 _ _)
   (tuple_addW2 t b vs.toArray g.toArray n n2 dd dd2 sl U (by simpa using hv) (by simpa using hw) (by rw[List.size_toArray,List.size_toArray];exact hsz)) ⟨ho,T,?_⟩
  rw[e];exact h2 hw
def Bt(n d:Nat):Option Int->Nat
 |none=>d
 |some v=>if v<0 then(v+(n:Int)).toNat else min v.toNat n
theorem kA(n d:Nat)(hd:d<=n)(o:Option Int):Bt n d o<=n:=by
 cases o with
 |none=>exact hd
 |some v=>
  show(if v<0 then(v+(n:Int)).toNat else min v.toNat n)<=n;by_cases g:v<0
  .rw[if_pos g];lia
  .rw[if_neg g];exact Nat.min_le_right _ _
theorem Xe(v:Int)(n d:Nat):(if v<0 then max (v+(n:Int)) 0 else min v (n:Int))=((Bt n d (some v):Nat):Int):=by
 show(if v<0 then max (v+(n:Int)) 0 else min v (n:Int))=(((if v<0 then(v+(n:Int)).toNat else min v.toNat n):Nat):Int);by_cases g:v<0
 .simp only[if_pos g];lia
 .simp only[if_neg g];lia
theorem ZK(lo hi:Option Int)(n:Nat):Builtin.Slice.sliceAdjust lo hi 1 (n:Int)=(((Bt n 0 lo:Nat):Int),((Bt n n hi:Nat):Int)):=by
 have g:¬((1:Int)<0):=by lia
 unfold Builtin.Slice.sliceAdjust;simp only[g,if_false];refine Prod.ext ?_ ?_
 .cases lo with
  |none=>rfl
  |some v=>exact Xe v n 0
 .cases hi with
  |none=>rfl
  |some v=>exact Xe v n n
theorem Y1(i j:Nat):Builtin.Slice.slicePlaces (i:Int) (j:Int) 1=j-i:=by
 unfold Builtin.Slice.slicePlaces;have g:(1:Int) > 0:=by lia
 simp only[g,if_true,Int.ediv_one];split<;>lia
theorem Rx{v:Nh}{o:Option Int}{Q:Option Int->Shared->Prop}(p:IsPart v o)(h:Q o s):wpAny At A (Builtin.Slice.slicePartIndex v) Q E s:=by
 cases p with
 |none=>exact slicePart_none h
 |int i t=>exact slicePart_int h
theorem QI{sl:Addr}{Y U:Nh}{lo hi:Option Int}{n:Nat}{Q:Int×Int×Nat->Shared->Prop}(hs:s.heap.IsSliceOf sl Y U .none)(pl:IsPart Y lo)(Z:IsPart U hi)
 (h:Q (((Bt n 0 lo:Nat):Int),1,Bt n n hi-Bt n 0 lo) s):wpAny At A (Builtin.Slice.sliceApplied (.ref sl) (pure (n:Int))) Q E s:=by
 obtain⟨os,g,hcs,T⟩:=id hs;unfold Builtin.Slice.sliceApplied Builtin.Slice.sliceFields;refine aA (aA (aW g T (x:=Y) rfl (aA (aW g T (x:=U) rfl (aA (aW g T (x:=.none) rfl ge))))));refine aA (slicePart_none ?_);show wpAny _ _ (if((1:Int)==0)=true then _ else _) _ _ s;rw[if_neg BY];refine aA (Rx pl (aA (Rx Z (aA ge))));show wpAny _ _ (match Builtin.Slice.sliceAdjust lo hi 1 (n:Int) with|(lo,hi)=>pure (lo,(1:Int),Builtin.Slice.slicePlaces lo hi 1)) _ _ s;rw[ZK lo hi n];show wpAny _ _ (pure (((Bt n 0 lo:Nat):Int),(1:Int),Builtin.Slice.slicePlaces ((Bt n 0 lo:Nat):Int) ((Bt n n hi:Nat):Int) 1)) _ _ s;rw[Y1];exact aB h
theorem fK(xs:Array Value)(i k:Nat):((List.range k).filterMap fun(m:Nat)=>xs[((i:Int)+(m:Int)*1).toNat]?).toArray=((xs.toList.drop i).take k).toArray:=by
 have e:(fun(m:Nat)=>xs[((i:Int)+(m:Int)*1).toNat]?)=fun m=>xs[i+m]? := by
  funext m
  have:((i:Int)+(m:Int)*1).toNat=i+m:=by lia
  rw[this]
 rw[e];have:=pick_run xs i k;rw[List.filterMap_map]at this;have g:((fun x=>xs[x]?) ∘ fun x=>i+x)=fun m=>xs[i+m]?:=rfl;rw[g]at this;rw[this]
theorem PM{t sl:Addr}{items:Array Value}{vl vu:Nh}{lo hi:Option Int}{Q:AT}(T:IsTup s.heap t items)(hs:s.heap.IsSliceOf sl vl vu .none)(pl:IsPart vl lo)(pu:IsPart vu hi)
 (hw:¬(Bt items.size 0 lo=0/\Bt items.size items.size hi=items.size))
 (h:Q GE {s with heap:=s.heap.push { cls:=.type "tuple",data:=.seq ((items.toList.drop (Bt items.size 0 lo)).take ln).toArray} })
 (hsz:items.size<=sizeLine):wpAny At A (getItem (.ref t) (.ref sl)) Q E s:=by
 have g:sizeOk (.seq ((items.toList.drop (Bt items.size 0 lo)).take ln).toArray):=by
  show((items.toList.drop (Bt items.size 0 lo)).take ln).toArray.size<=sizeLine;rw[List.size_toArray,List.length_take,List.length_drop,Array.length_toList]
  lia
 have hj:Bt items.size items.size hi<=items.size:=kA _ _ em hi;obtain⟨os,U,Z,hds⟩:=id hs;have hTs:s.TypeIs (.ref sl) "slice" := ⟨os,U,Z⟩;unfold getItem
 try with_reducible refine aR ?_
 first|refine aA ge|skip
 refine aA (wpAny_sequenceKey T.typeIs BY ?_);refine aA (aZ (name:=Str.ofString "__getitem__") T.typeIs PyProof.Rows.slot_tuple_getitem
  (aY PyProof.Rows.slot_tuple_getitem T.typeIs entry_tuple_getitem ?_ (args_tuple_getitem _ _)))
 show wpAny _ _ (Builtin.Tuple.tupleItemsOf (.ref t)>>=_) _ _ s;refine aA (tupleItemsOf_ T ?_);refine aA (wpAny_typeOf hTs ?_);rw[if_pos BY];refine aA (QI hs pl pu ?_);have Y:¬((((Bt items.size 0 lo:Nat):Int)==0&&(1:Int)==1&&ln==items.size)=true):=by
  intro q;rw[Bool.and_eq_true,Bool.and_eq_true]at q;have q1:((Bt items.size 0 lo:Nat):Int)=0:=eq_of_beq q.1.1;have q2:Bt items.size items.size hi-Bt items.size 0 lo=items.size:=eq_of_beq q.2;exact hw ⟨by lia,by lia⟩
 show wpAny _ _ (if(((Bt items.size 0 lo:Nat):Int)==0&&(1:Int)==1&&ln==items.size)=true then _ else _) _ _ s;rw[if_neg Y,fK]
 first
  |exact aA (m:=Builtin.Tuple.tupleExact _) (bC (aB ⟨_,rfl,wpAny_pure h⟩) g)
  |exact aA (m:=Builtin.Tuple.tupleExact _) (bC (aA (aB (aB ⟨_,rfl,wpAny_pure h⟩))) g)
  |exact aA (aA (m:=Builtin.Tuple.tupleExact _) (bC (aB (aB ⟨_,rfl,wpAny_pure h⟩)) g))
  |exact aA (aA (m:=Builtin.Tuple.tupleExact _) (bC (aB ⟨_,rfl,wpAny_pure h⟩) g))
end
end HT
namespace L2
open PySem PySem.Spec PyProof.Rows
abbrev TO:=St->Hp->(Option Int->Hp->Prop)->Prop
def PO(X:Cx)(e:Option Expr)(t:TO):Prop :=
 ∀(pins:Da) (s:IN) (σ:St) (H:Hp) (Q:Option Int->Hp->Prop),Inv X pins σ H s->t σ H Q ->
  wpAny EQ X.A (evalPart e X.env) (fun u s'=>∃o H',Inv X pins σ H' s'/\IsPart u o/\Q o H') X.xe s
def ik:TO:=fun _ H Q=>Q none H
def pB(t:TE):TO:=fun σ H Q=>t σ H fun x g=>∃i,x=.int i/\Q (some i) g
theorem intsAre_of{ns:XV}:∀ {us:FS},Vals oR us->IntsAre us ns:=by
 induction ns with
 |nil=>intro us r;rw[List.map_nil]at r;cases r;exact .nil
 |cons n ns U=>
  intro us r;rw[List.map_cons]at r;cases r with
  |cons T g=>
   obtain⟨t,e⟩:=T;subst e;exact .cons n t (U g)
section
variable{X:Cx}{e:Expr}{te:TE}{lo hi:Option Expr}{tl th:TO}{pos p2:Pos}
theorem ie:PO X none ik:=by
 intro pins s σ H Q I h;rw[evalPart_none];exact aB ⟨none,H,I,.none,h⟩
theorem je(h:PE X e te):PO X (some e) (pB te):=by
 intro pins s σ H Q I U;rw[evalPart_some];refine BU (h pins s σ H _ I U) fun u s1 ⟨x,Z,Y,g,T⟩=>?_;obtain⟨i,rfl,q⟩:=T;obtain⟨t,rfl⟩:=g;exact⟨some i,Z,Y,.int i t,q⟩
def Vj(X:Cx)(r:V->Option Int->Option Int->Hp->VK->Prop):Prop :=
 ∀(pins:Da) (s:IN) (σ:St) (H:Hp) (x:V) (v U g:Nh) (lo hi:Option Int) (sl:Addr) (Q:VK),Inv X pins σ H s->RelV x v->s.heap.IsSliceOf sl U g .none->IsPart U lo->IsPart g hi->r x lo hi H Q ->
  ∃T id,typeLookup (.type T) "__getitem__" = pure (some (.builtin id))/\s.TypeIs v T/\wpAny EQ X.A (getItem v (.ref sl)) l7 X.xe s
theorem Vj.or{r Y:V->Option Int->Option Int->Hp->VK->Prop}(h:Vj X r)(h':Vj X Y):Vj X (fun x lo hi H Q=>r x lo hi H Q\/Y x lo hi H Q):=by
 intro pins s σ H x v T g lo hi sl Q I U hs pl Z q;rcases q with q|q
 .exact h pins s σ H x v T g lo hi sl Q I U hs pl Z q
 .exact h' pins s σ H x v T g lo hi sl Q I U hs pl Z q
def sm(r:V->Option Int->Option Int->Hp->VK->Prop)(te:TE)(tl th:TO):TE:=fun σ H Q=>te σ H fun x U=>tl σ U fun l T=>th σ T fun u g=>r x l u g Q
theorem eW{r:V->Option Int->Option Int->Hp->VK->Prop}(hr:Vj X r)(he:PE X e te)(hl:PO X lo tl)(hu:PO X hi th):PE X (.Subscript e (.Slice lo hi none p2) pos) (sm r te tl th):=by
 intro pins s σ H Q I h;refine Subscript_ (BU (he pins s σ H _ I h) fun v s1 ⟨x,H1,I1,r1,q1⟩=>?_);refine wpAny_Slice (BU (hl pins s1 σ H1 _ I1 q1) fun Y s2 ⟨l,H2,I2,pl,q2⟩=>BU (hu pins s2 σ H2 _ I2 q2) fun U g ⟨u,Z,I3,pu,q3⟩=>?_);rw[evalPart_none];refine aB ?_;have I4:Inv X pins σ Z uA:=I3.kept (t':=g.toks) fun b ob q=>aF _ q;obtain⟨T,id,hT,ht,hg⟩:=hr pins uA σ Z x v Y U l u g.heap.objs.size Q I4 r1 (Heap.IsSliceOf.new ..) pl pu q3;show wpAny EQ X.A (subscriptTail e (.Slice lo hi none p2) v (.ref g.heap.objs.size)) l7 X.xe uA;exact tail_any (ops:=[.ref g.heap.objs.size,v]) ht hT hg (by with_unfolding_all rfl)
def N7(xs:HQ)(lo hi:Option Int):List V:=(xs.drop (HT.Bt xs.length 0 lo)).take t9
theorem PY(xs:HQ)(lo hi:Option Int):(N7 xs lo hi).length<=xs.length:=by
 unfold N7;rw[List.length_take,List.length_drop]
 lia
def qy(K:As):V->Option Int->Option Int->Hp->VK->Prop:=fun x lo hi H Q=>∃a xs,x=.ref a/\BI K H a xs /\
 ¬(HT.Bt xs.length 0 lo=0/\HT.Bt xs.length xs.length hi=xs.length)/\∀p,H p=none->Q (.ref p) (upd H p (.tup (N7 xs lo hi)))
theorem mL:Vj X (qy X.K):=by
 intro pins s σ H x v vl vu lo hi sl Q I Z hs pl pu h;obtain⟨a,xs,rfl,hx,hw,q⟩:=h;cases Z;obtain⟨T,r,Y,U⟩:=I.tuple hx;have g:T.toArray.size=xs.length:=by rw[List.size_toArray];exact r.length.symm
 refine⟨"tuple",_,PyProof.Rows.slot_tuple_getitem.lookup,Y.typeIs,?_⟩;refine HT.PM Y hs pl pu (by rw[g];exact hw) ?_ (by rw[g];exact U);rw[g];refine⟨.ref s.heap.objs.size,_,I.laid (t':=s.toks) (o:=.tup (N7 xs lo hi)) (fun b ob q=>aF _ q) em ?_,rfl,q _ (I.Av.fresh em)⟩;exact⟨aQ (PY xs lo hi) U,_,(r.drop (HT.Bt xs.length 0 lo)).take t9,IsTup.new _ _⟩
theorem Vals.XY{xs:HQ}{us:FS}(r:Vals xs us):us=[] ↔ xs=[]:=by
 cases r with
 |nil=>simp
 |cons _ _=>simp
end
def RJ(n:Nat)(i:Int):Option Nat:=if 0<=i then(if i<n then some i.toNat else none) else if -(n:Int)<=i then some (i+n).toNat else none
def Gm{α:Type}(xs:tV)(i:Int):Option α:=(RJ xs.length i).bind fun j=>xs[j]?
theorem YE{n:Nat}{i:Int}{j:Nat}(h:RJ n i=some j):seqIndex? i n=some j/\j<n/\-(n:Int)<=i/\i<n:=by
 unfold RJ at h;by_cases h0:0<=i
 .rw[if_pos h0]at h;by_cases g:i<n
  .rw[if_pos g]at h;have e:i.toNat=j:=ax h;exact⟨by rw[seqIndex_of h0 g,e],by lia,by lia,g⟩
  .rw[if_neg g]at h;cases h
 .rw[if_neg h0]at h;by_cases g:-(n:Int)<=i
  .rw[if_pos g]at h;have e:(i+n).toNat=j:=ax h;exact⟨by rw[seqIndex_neg AS g,e],by lia,g,by lia⟩
  .rw[if_neg g]at h;cases h
theorem Si{α:Type}{xs:tV}{i:Int}{v:α}(h:Gm xs i=some v):∃j,seqIndex? i xs.length=some j/\xs[j]? = some v/\j<xs.length/\-(xs.length:Int)<=i/\i<xs.length:=by
 unfold Gm at h;cases e:RJ xs.length i with
 |none=>rw[e]at h;cases h
 |some j=>
  rw[e]at h;obtain⟨Y,U,T,g⟩:=YE e;exact⟨j,Y,h,U,T,g⟩
theorem Kw{α:Type}{xs:tV}{j:Nat}{v:α}(h:xs[j]? = some v):Gm xs (j:Int)=some v:=by
 have g:j<xs.length:=(aE.mp h).1;have e:RJ xs.length (j:Int)=some j:=by
  unfold RJ;rw[if_pos AS,if_pos AS];simp
 unfold Gm;rw[e];exact h
theorem dn{α:Type}(xs:tV)(v:α):Gm (xs++[v]) (-1)=some v:=by
 have g:(xs++[v]).length=xs.length+1:=by simp
 have e:RJ (xs++[v]).length (-1)=some xs.length:=by
  unfold RJ;rw[g,if_neg BY,if_pos AS]
  congr 1
  lia
 unfold Gm;rw[e];show(xs++[v])[xs.length]? = some v;simp
def XF(b:Expr):Prop:=∀o i,subscripted b false o i=operate [o,i] (getItem o i)
def Pu(X:Cx)(r:R2):Prop :=
 ∀(value slice:Expr) (pins:Da) (s:IN) (σ:St) (H:Hp) (x y:V) (v u:Nh) (Q:VK),Inv X pins σ H s->RelV x v->RelV y u->r x y H Q ->
  subscripted slice false v u=operate [v,u] (getItem v u)->wpAny EQ X.A (subscriptTail value slice v u) l7 X.xe s
def tJ(X:Cx)(id:String)(r:V->List V->Hp->VK->Prop):Prop :=
 ∀(pins:Da) (s:IN) (σ:St) (H:Hp) (x:V) (xs:HQ) (v:Nh) (us:FS) (Q:VK),Inv X pins σ H s->RelV x v->Vals xs us->r x xs H Q ->
  wpAny EQ X.A (call (.builtin id) (v::us)) l7 X.xe s
section
variable{X:Cx}{a b:Expr}{ta tb:TE}{pos:Pos}
theorem Pu.or{r U:R2}(h:Pu X r)(h':Pu X U):Pu X (fun x y H Q=>r x y H Q\/U x y H Q):=by
 intro value slice pins s σ H x y v u Q I T g q Y;rcases q with q|q
 .exact h value slice pins s σ H x y v u Q I T g q Y
 .exact h' value slice pins s σ H x y v u Q I T g q Y
theorem CI{r:R2}(Y:Pu X r)(ha:PE X a ta)(hb:PE X b tb)(U:XF b):PE X (.Subscript a b pos) (a8 r ta tb):=by
 intro pins s σ H Q I h;exact Subscript_ (fQ ha hb I h fun v u s2 x y H2 Z T g q=>Y a b pins s2 σ H2 x y v u Q Z T g q (U _ _))
def mS(K:As):R2:=fun x y H Q=>∃p xs i v,x=.ref p/\y=.int i/\Aq K H p xs/\Gm xs i=some v/\Q v H
def da(K:As):R2:=fun x y H Q=>∃p xs i v,x=.ref p/\y=.int i/\BI K H p xs/\Gm xs i=some v/\Q v H
def nr:R2:=fun x y H Q=>∃z i c,x=.str z/\y=.int i/\z.length<=sizeLine/\Gm z.cps.toList i=some c/\Q (.str ⟨#[c]⟩) H
theorem Md:Pu X (mS X.K):=by
 intro value slice pins s σ H x y v u Q I rx ry h hs;obtain⟨p,xs,i,z,rfl,rfl,hq,he,q⟩:=h;cases rx;obtain⟨t,rfl⟩:=ry;obtain⟨Y,r,U,hz⟩:=I.list hq;obtain⟨j,g,h2,h3,h4,h5⟩:=Si he;obtain⟨w,ew,T⟩:=r.get h2;have hl:=r.length;have hn:=N5;have fin:EP X pins σ Q w s:=⟨z,H,I,T,q⟩;by_cases h0:0<=i
 .have Z:i.toNat=j:=by
   rw[seqIndex_of h0 h5]at g;exact ax g
  exact item_listR U.isList h0 AS (by rw[Z];simpa using ew) fin hs
 .have Z:(i+(Y.toArray.size:Int)).toNat=j:=by
   rw[seqIndex_neg AS h4]at g;rw[List.size_toArray,<-hl];exact ax g
  exact subscriptTail_builtinR (x:=w) U.isList.typeIs slot_list_getitem.lookup
   (wpAny_getItem_list_neg (Q:=fun r s'=>r=w/\EP X pins σ Q r s') U.isList AS (by rw[List.size_toArray]<;>lia) AS (by rw[Z];simpa using ew) ⟨rfl,fin⟩) hs
theorem C9:Pu X (da X.K):=by
 intro value slice pins s σ H x y v u Q I Y U h hs;obtain⟨p,xs,i,z,rfl,rfl,hq,he,q⟩:=h;cases Y;obtain⟨t,rfl⟩:=U;obtain⟨Z,r,T,hz⟩:=I.tuple hq;obtain⟨j,h1,h2,h3,h4,h5⟩:=Si he;obtain⟨w,ew,g⟩:=r.get h2;have hl:=r.length;have hn:=N5;have fin:EP X pins σ Q w s:=⟨z,H,I,g,q⟩;exact subscriptTail_builtinR (x:=w) T.typeIs slot_tuple_getitem.lookup
  (getItem_tuple (j:=j) (Q:=fun r s'=>r=w/\EP X pins σ Q r s') T AS AS (by rw[List.size_toArray,<-hl];exact h1) (by simpa using ew) ⟨rfl,fin⟩) hs
theorem ny:Pu X nr:=by
 intro value slice pins s σ H x y v u Q I U T h Y;obtain⟨z,i,c,rfl,rfl,hz,he,q⟩:=h;obtain⟨t,rfl⟩:=U;obtain⟨t',rfl⟩:=T;obtain⟨j,g,h2,h3,h4,h5⟩:=Si he;have Z:z.cps.toList.length=z.length:=by simp[Str.length]
 rw[Z]at g h4 h5;have hn:=N5;exact tail_any (typeIs_str s z t) slot_str_getitem.lookup (getItem_str (c:=c) (by
  have e1:decide (i < -(2^63:Int))=false:=bM AS;have e2:decide (i >= 2^63)=false:=bM AS;rw[e1,e2,Bool.or_false]) (by rw[g];simpa using h2) ⟨.str ⟨#[c]⟩,H,I.tok _,⟨_,rfl⟩,q⟩) Y
def sj(K:As):R2:=fun x y H Q=>mS K x y H Q\/da K x y H Q\/nr x y H Q
theorem mP:Pu X (sj X.K):=Md.or (C9.or ny)
theorem Y9(g:FS)(n j:Nat)(u:Nh):Obj.mapSeq (·.setIfInBounds j u) { cls:=.type "list",data:=.seq g.toArray n}={ cls:=.type "list",data:=.seq (g.set j u).toArray n}:=by
 simp[Obj.mapSeq]
theorem Inv.lst{pins:Da}{σ:St}{H:Hp}{s:IN}{p:Addr}{xs:HQ}(I:Db)(h:H p=some Os) :
  ∃(g:FS) (n:Nat),Vals xs g/\s.heap.get? p=some { cls:=.type "list",data:=.seq g.toArray n}/\xs.length<=sizeLine:=by
 obtain⟨z,g,n,r,e⟩:=I.Av p _ h;exact⟨g,n,r,e,z⟩
theorem Inv.kI{pins:Da}{σ:St}{H:Hp}{s:IN}{p:Addr}{xs ys:HQ}{g its':FS}{n T:Nat}{f:Obj->Obj}(I:Db)(h:H p=some Os)
 (Y:s.heap.get? p=some { cls:=.type "list",data:=.seq g.toArray n})(U:f { cls:=.type "list",data:=.seq g.toArray n}={ cls:=.type "list",data:=.seq its'.toArray T})(r:Vals ys its')(hz:ys.length<=sizeLine)(t:Nat) :
  Inv X pins σ (upd H p Mj) {s with heap:=s.heap.update p f,toks:=t}:=by
 have e:(s.heap.update p f).get? p=some { cls:=.type "list",data:=.seq its'.toArray T}:=by
  rw[Heap.get?_update_self f Y (by rw[U]<;>rfl),U]
 refine I.write (x:=p) (e:=p) (by rw[h];trivial) lm (fun b u hb q=>(Heap.get?_update_other _ _ (Ne.symm hb)).trans q) ⟨_,e⟩ ?_;exact⟨hz,its',T,r,e⟩
def pq:V->V->V->Hp->(Hp->Prop)->Prop:=fun o i v H Q=>∃p xs k j,o=.ref p/\i=.int k/\H p=some Os/\RJ xs.length k=some j/\Q (upd H p (.lst (xs.set j v)))
theorem set_list:fT X pq:=by
 intro pins s σ H o i v ov iv u Q I ro ri rv h;obtain⟨p,xs,k,j,rfl,rfl,Z,hj,q⟩:=h;cases ro;obtain⟨t,rfl⟩:=ri;obtain⟨g,n,r,U,hz⟩:=I.lst Z;obtain⟨T,h2,h3,h4⟩:=YE hj;have Y:=r.length;have hn:=N5;have I':Inv X pins σ (upd H p (.lst (xs.set j v))) {s with heap:=s.heap.update p (Obj.mapSeq (·.setIfInBounds j u))} :=
  I.kI Z U (Y9 g n j u) (r.set rv j) (by rw[List.length_set];exact hz) s.toks
 by_cases h0:0<=k
 .have hk:k.toNat=j:=by
   rw[seqIndex_of h0 h4]at T;exact ax T
  exact PySem.W.ki_setAt U h0 AS (by rw[List.size_toArray,<-Y];exact h4) (by rw[hk];exact⟨_,I',q⟩)
 .have hk:(k+(g.toArray.size:Int)).toNat=j:=by
   rw[seqIndex_neg AS h3]at T;rw[List.size_toArray,<-Y];exact ax T
  exact PySem.W.ki_setBack U AS (by rw[List.size_toArray,<-Y];exact h3) AS (by rw[hk];exact⟨_,I',q⟩)
theorem WC(lo hi:Option Int)(n:Nat):(sliceBounds lo hi none n).1=((HT.Bt n 0 lo:Nat):Int)/\(sliceBounds lo hi none n).2.1=((HT.Bt n n hi:Nat):Int)/\(sliceBounds lo hi none n).2.2=1:=by
 refine⟨?_,?_,rfl⟩
 .cases lo with
  |none=>simp[sliceBounds,HT.Bt]
  |some i=>
   simp only[sliceBounds,HT.Bt,Option.getD_none,show(1:Int) > 0 by decide,if_true];by_cases h:i<0
   .simp only[h,if_true]<;>lia
   .simp only[h,if_false]<;>lia
 .cases hi with
  |none=>simp[sliceBounds,HT.Bt]
  |some i=>
   simp only[sliceBounds,HT.Bt,Option.getD_none,show(1:Int) > 0 by decide,if_true];by_cases h:i<0
   .simp only[h,if_true]<;>lia
   .simp only[h,if_false]<;>lia
theorem Uc(g:FS)(lo hi:Option Int):slicePick g.toArray lo hi none=((g.drop (HT.Bt g.length 0 lo)).take (HT.Bt g.length g.length hi-HT.Bt g.length 0 lo)).toArray:=by
 obtain⟨Y,U,T⟩:=WC lo hi g.toArray.size;unfold slicePick;rw[Y,U,T];simp only[sliceRange_one,pick_run,List.size_toArray]<;>rfl
def sF(K:As):V->Option Int->Option Int->Hp->VK->Prop:=fun x lo hi H Q=>∃a xs,x=.ref a/\Aq K H a xs/\∀p,H p=none->Q (.ref p) (upd H p (.lst (N7 xs lo hi)))
theorem i9:Vj X (sF X.K):=by
 intro pins s σ H x v vl vu lo hi sl Q I U hs Z Y h;obtain⟨a,xs,rfl,hx,q⟩:=h;cases U;obtain⟨its,r,T,hz⟩:=I.list hx;have g:=r.length;refine⟨"list",_,slot_list_getitem.lookup,T.isList.typeIs,?_⟩;refine wpAny_getItem_list_slice T.isList hs Z Y .none Ch ?_ (by rw[List.size_toArray]<;>lia);rw[Uc,<-g];refine⟨.ref s.heap.objs.size,_,I.laid (t':=s.toks) (o:=.lst (N7 xs lo hi)) (fun b ob q=>aF _ q) em ?_,rfl,q _ (I.Av.fresh em)⟩;exact⟨aQ (PY xs lo hi) hz,_,0,(r.drop (HT.Bt xs.length 0 lo)).take t9,Heap.get?_push_size _ rfl⟩
theorem CS:FO X (.builtin "len") (fun xs H Q=>∃p ys,xs=[.ref p]/\(Aq X.K H p ys\/BI X.K H p ys)/\Q (.int ys.length) H):=by
 intro pins s σ H xs us Q I r h;obtain⟨p,ys,rfl,T,q⟩:=h;obtain⟨u,rfl,rx⟩:=vals1 r;cases rx;have hn:=N5;rcases T with T|T
 .obtain⟨Z,U,Y,hz⟩:=I.list T;have g:=U.length;exact Calls.call_len_list Y.isList tt ⟨.int ys.length,H,I.tok _,⟨s.toks+1,by rw[List.size_toArray,g]⟩,q⟩
 .obtain⟨Z,U,Y,hz⟩:=I.tuple T;have g:=U.length;exact len_tuple Y tt ⟨.int ys.length,H,I.tok _,⟨s.toks+1,by rw[List.size_toArray,g]⟩,q⟩
theorem FO.or{f:Nh}{r g:List V->Hp->VK->Prop}(h:FO X f r)(h':FO X f g):FO X f (fun xs H Q=>r xs H Q\/g xs H Q):=by
 intro pins s σ H xs us Q I rs q;rcases q with q|q
 .exact h pins s σ H xs us Q I rs q
 .exact h' pins s σ H xs us Q I rs q
theorem VV:FO X me (fun xs H Q=>∃p ys,xs=[.ref p]/\(Aq X.K H p ys\/BI X.K H p ys)/\∀l,H l=none->Q (.ref l) (upd H l Mj)):=by
 intro pins s σ H xs us Q I r h;obtain⟨p,ys,rfl,Z,q⟩:=h;obtain⟨u,rfl,rx⟩:=vals1 r;cases rx;have fin:∀(g:FS),Vals ys g->ys.length<=sizeLine->∀(h':Heap) (U:Nat),(∀b o',s.heap.get? b=some o'->h'.get? b=some o') ->
   h'.get? s.heap.objs.size=some { cls:=.type "list",dict:=none,data:=.seq g.toArray U,slots:=#[]}->EP X pins σ Q GE Pz:=fun g T Y h' U kp e=>
  ⟨.ref s.heap.objs.size,_,I.laid (t':=s.toks) kp em (show Ci X.prog X.w _ h' _ Mj from⟨Y,g,U,T,e⟩),rfl,q _ (I.Av.fresh em)⟩
 rcases Z with Z|Z
 .obtain⟨g,T,pl,Y⟩:=I.list Z;have hlen:=T.length;obtain⟨o,ho,hc,n,hd⟩:=pl.isList;exact call_list_seq p lm ho hc hd (fun h' U kp e=>fin g T Y h' U kp e) tt
 .obtain⟨g,T,pl,Y⟩:=I.tuple Z;have hlen:=T.length;obtain⟨o,ho,hc,n,hd⟩:=pl;exact call_list_seq p (.inr rfl) ho hc hd (fun h' U kp e=>fin g T Y h' U kp e) tt
theorem UU:FO X IF (fun xs H Q=>∃p ys,xs=[.ref p]/\((Aq X.K H p ys/\∀l,H l=none->Q (.ref l) (upd H l (.tup ys)))\/(BI X.K H p ys/\Q (.ref p) H))):=by
 intro pins s σ H xs us Q I r h;obtain⟨p,ys,rfl,h⟩:=h;obtain⟨u,rfl,rx⟩:=vals1 r;cases rx;rcases h with ⟨Y,q⟩|⟨Y,q⟩
 .obtain⟨g,T,U,Z⟩:=I.list Y;have hlen:=T.length;refine call_tuple_list U.isList (fun h' kp=>?_) tt;have I1:Inv X pins σ H Pz:=I.kept (t':=s.toks) kp;have I2:Inv X pins σ (upd H h'.objs.size (.tup ys)) {s with heap:=h'.push { cls:=.type "tuple",data:=.seq g.toArray} } :=
   I1.laid (t':=s.toks) (fun b o e=>aF _ e) em (show Ci X.prog X.w _ _ _ (.tup ys) from⟨Z,g,T,IsTup.new _ _⟩)
  exact⟨.ref h'.objs.size,_,I2,rfl,q _ (I1.Av.fresh em)⟩
 .obtain⟨g,T,U,Z⟩:=I.tuple Y;exact call_tuple_same U ⟨.ref p,H,I,rfl,q⟩
def qN(K:As)(T:String)(x:V)(H:Hp):Prop:=match x with
 |.str _=>T = "str"
 |.int _=>T = "int"
 |.ref p=>(T = "list" /\ ∃xs,Aq K H p xs)\/(T = "tuple" /\ ∃o,K.lookup p=some o/\o.cls=.type "tuple" /\ o.dict=none) \/
   (T = "dict" /\((∃kvs,H p=some (.dK kvs))\/∃kvs,H p=some (.dT kvs)))\/(T = "set" /\ ∃S n,H p=some (.set S n))
 |_=>False
theorem k7{pins:Da}{σ:St}{H:Hp}{s:IN}{T:String}{x:V}{v:Nh}(I:Db)(r:RelV x v)(ty:qN X.K T x H) :
  s.TypeIs v T/\∀a,v=.ref a->∃ob,s.heap.get? a=some ob/\ob.dict=none:=by
 cases x with
 |str z=>
  obtain⟨t,rfl⟩:=r;cases (show T = "str" from ty);exact⟨typeIs_str s z t,fun _ e=>nomatch e⟩
 |int i=>
  obtain⟨t,rfl⟩:=r;cases (show T = "int" from ty);exact⟨typeIs_int s i t,fun _ e=>nomatch e⟩
 |ref p=>
  cases r;rcases ty with ⟨rfl,xs,Z⟩|⟨rfl,o,hk,hc,hd⟩|⟨rfl,hk⟩|⟨rfl,S,n,hk⟩
  .obtain⟨Y,_,U,_⟩:=I.list Z;refine⟨U.isList.typeIs,fun a e=>?_⟩;cases e;obtain⟨o,n,e,c,hd,_⟩:=U;exact⟨o,e,hd⟩
  .refine⟨⟨o,I.HU p o hk,hc⟩,fun a e=>?_⟩;cases e;exact⟨o,I.HU _ o hk,hd⟩
  .have z:∃o,s.heap.get? p=some o/\o.ExactDict:=by
    rcases hk with ⟨kvs,hk⟩|⟨kvs,hk⟩
    .obtain⟨_,_,_,_,o,_,_,e,ex,_⟩:=I.Av p _ hk;exact⟨o,e,ex⟩
    .obtain⟨_,_,_,_,o,_,_,e,ex,_⟩:=I.Av p _ hk;exact⟨o,e,ex⟩
   obtain⟨o,e,ex⟩:=z;refine⟨⟨o,e,ex.1⟩,fun a g=>?_⟩;cases g;exact⟨o,e,ex.2.1⟩
  .obtain⟨o,_,_,_,e,ex,_⟩:=I.Av p _ hk;refine⟨⟨o,e,ex.1⟩,fun a g=>?_⟩;cases g;exact⟨o,e,ex.2.1⟩
 |_=>exact False.elim ty
def kK(K:As)(T:String)(r:V->List V->Hp->VK->Prop)(U:TE)(t:TA):TE:=fun σ H Q=>U σ H fun x g=>qN K T x g/\t σ g fun xs Y=>r x xs Y Q
variable{o e:Expr}{es:Ov}{to:TE}{t:TA}{name:Str}{apos cpos:Pos}{T id:String}{r:V->List V->Hp->VK->Prop}
theorem IB(pa:PlainAttrs T)(slot:Slot T name id)(hty:typeOf (.builtin id)=pure (.type "method_descriptor"))(hm:tJ X id r)(ho:PE X o to)(ha:PA X ur t)
 (Y:attributeBase o name X.env (eval o X.env)=eval o X.env:=by rfl)
 (Z:((backTo cpos (starEach ur X.env)).all (fun x=>!x.1)&&(backToKw cpos (keywordEach [] X.env)).all (fun x=>x.1.isSome)
   && decide ((e::es).length+([]:List Keyword).length+(if([]:List Keyword).isEmpty then 0 else 1)<30))=true:=by rfl)
 (U:(apos.endLine==cpos.line)=true:=by rfl)(hs:starEach ur X.env=MR::starEach es X.env:=by rfl)(g:(backTo cpos SE).any cx=false:=by rfl) :
  PE X (.Call (.Attribute o name apos) ur [] cpos) (kK X.K T r to t):=by
 intro pins s σ H Q I h;refine wpAny_Call_method_late Y Z U rfl (BU (ho pins s σ H _ I h) fun v s1 ⟨x,H1,I1,r1,ty,q1⟩=>?_);obtain⟨h1,h2⟩:=k7 I1 r1 ty;refine⟨T,id,pa,slot,hty,h1,h2,?_⟩;have hA:=ha cpos pins s1 σ H1 _ I1 q1;rw[hs]at hA ⊢;refine Calls.callWith_builtin (by show(false||(backTo cpos SE).any cx)=false;rw[g]<;>rfl) (Calls.evalArgs_plain ?_);exact BU hA fun us s2 ⟨vs,H2,I2,r2,q2⟩=>hm pins s2 σ H2 x vs v us Q I2 r1 r2 q2
end
def qL(X:Cx)(id:String)(r:V->List V->Hp->VK->Prop):Prop :=
 ∀(pins:Da) (s:IN) (σ:St) (H:Hp) (x:V) (xs:HQ) (v:Nh) (us:FS) (Q:VK),Inv X pins σ H s->RelV x v->Vals xs us->r x xs H Q ->
  wpAny EQ X.A (call (.builtin id) (v::us)) l7 X.xe s
theorem Vals.one:∀ {x:V} {us:FS},Vals [x] us->∃u,us=[u]/\RelV x u
 |_,_,.cons r .nil=>⟨_,rfl,r⟩
theorem Vals.two:∀ {x y:V} {us:FS},Vals [x,y] us->∃u v,us=[u,v]/\RelV x u/\RelV y v
 |_,_,_,.cons r (.cons q .nil)=>⟨_,_,rfl,r,q⟩
theorem Vals.rep{xs:HQ}{us:FS}(h:Vals xs us):∀k:Nat,Vals (List.replicate k xs).flatten (List.replicate k us).flatten
 |0=>.nil
 |k+1=>by
  rw[List.replicate_succ,List.replicate_succ,List.flatten_cons,List.flatten_cons];exact Vals.append h (Vals.rep h k)
theorem foldl_rep(g:FS):∀(k:Nat) (T:FS),
  List.foldl (fun Y U=>Y++U) T.toArray (List.replicate k g.toArray)=(T++(List.replicate k g).flatten).toArray
 |0,T=>by simp
 |k+1,T=>by
  have e:T.toArray++g.toArray=(T++g).toArray:=by simp
  have Z:(T++g)++(List.replicate k g).flatten=T++(List.replicate oF g).flatten:=by
   rw[List.replicate_succ,List.flatten_cons,List.append_assoc]
  rw[<-Z,<-foldl_rep g k (T++g),<-e,List.replicate_succ,List.foldl_cons]
section
variable{X:Cx}{pins:Da}{σ:St}{H:Hp}{s:IN}{l:Addr}{xs ys:HQ}
theorem Inv.kJ{g its':FS}{n:Nat}{f:Array Value->Array Value}{t':Nat}(I:Db)(Z:H l=some Os)
 (e:s.heap.get? l=some { cls:=.type "list",data:=.seq g.toArray n})(Y:f g.toArray=its'.toArray)(T:Vals ys its')(hz:ys.length<=sizeLine) :
  Inv X pins σ (upd H l Mj) {s with heap:=s.heap.update l (Obj.mapSeq f),toks:=t'}:=by
 have q:=PySem.IsL.update e f;rw[Y]at q;refine I.write (x:=l) (e:=l) (by rw[Z];exact trivial) lm (fun b' u hb U=>(Heap.get?_update_other s.heap (Obj.mapSeq f) (Ne.symm hb)).trans U) ⟨_,q⟩ ?_;exact⟨hz,its',_,T,q⟩
theorem Inv.nV{g:FS}{t':Nat}(I:Db)(T:Vals ys g)(hz:ys.length<=sizeLine) :
  Inv X pins σ (upd H s.heap.objs.size Mj) {s with heap:=s.heap.push { cls:=.type "list",data:=.seq g.toArray},toks:=t'} :=
 I.laid (fun _ _ q=>aF _ q) em ⟨hz,g,0,T,Heap.get?_push_size _ rfl⟩
theorem Inv.fresh(I:Db):H s.heap.objs.size=none:=I.Av.fresh em
theorem Inv.SW(I:Db)(T:H l=some Os):xs.length<=sizeLine/\∃(g:FS) (n:Nat),Vals xs g/\xs.length=g.length/\s.heap.get? l=some { cls:=.type "list",data:=.seq g.toArray n}:=by
 obtain⟨z,g,n,r,e⟩:=I.Av l _ T;exact⟨z,g,n,r,r.length,e⟩
theorem WT{n:Nat}(h:n<=sizeLine):Builtin.List.listTooLong n=false:=by
 unfold Builtin.List.listTooLong;exact bM AS
end
section
variable{X:Cx}
def X3:V->List V->Hp->VK->Prop:=fun x vs H Q=>∃l xs y,x=.ref l/\vs=[y]/\H l=some Os/\xs.length<sizeLine/\Q .Bp (upd H l (.lst (xs++[y])))
theorem FH:qL X "list.append" X3:=by
 intro pins s σ H x vs v us Q I Y Z h;obtain⟨l,xs,y,rfl,rfl,U,hz,q⟩:=h;cases Y;obtain⟨u,rfl,ru⟩:=Z.one;obtain⟨z,g,n,r,hl,e⟩:=I.SW U;refine call_meets F.slot_list_append ⟨_,e,rfl⟩ F.entry_list_append (F.args_list_append_2 _ _) (PySem.list_append l g.toArray n u (by rw[List.size_toArray];lia)) ⟨e,?_⟩;refine⟨.Bp,_,I.kJ (its':=g++[u]) U e Ch (r.append (.cons ru .nil)) ?_,rfl,q⟩;rw[List.length_append,List.length_singleton]
 lia
def X9:V->List V->Hp->VK->Prop:=fun x vs H Q=>∃l b xs g,x=.ref l/\vs=[.ref b]/\H l=some Os/\H b=some (.lst g)/\xs.length+g.length<=sizeLine/\Q .Bp (upd H l (.lst (xs++g)))
theorem Lx:qL X "list.extend" X9:=by
 intro pins s σ H x vs v us Q I rx rv h;obtain⟨l,b,xs,zs,rfl,rfl,hH,hB,hz,q⟩:=h;cases rx;obtain⟨u,rfl,ru⟩:=rv.one;cases ru;obtain⟨z,T,n,r,hl,e⟩:=I.SW hH;obtain⟨z2,g,n2,r2,hl2,e2⟩:=I.SW hB;have Y:T.toArray.size+g.toArray.size<=sizeLine:=by rw[List.size_toArray,List.size_toArray];lia
 have U:¬(!T.toArray.isEmpty&&Builtin.List.listTooLong (T.toArray.size+g.toArray.size))=true:=by
  rw[WT Y,Bool.and_false];exact aN
 refine call_meets F.slot_list_extend ⟨_,e,rfl⟩ F.entry_list_extend (F.args_list_extend_2 _ _)
  (AutoSeq1.list_extend_list_list_0 l T.toArray n b g.toArray n2 U (by rw[List.size_toArray];lia) AS) ⟨e,e2,?_⟩
 refine⟨.Bp,_,I.kJ (its':=T++g) hH e Ch (r.append r2) ?_,rfl,q⟩;rw[List.length_append]
 lia
def rp:R2:=fun x y H Q=>∃l b xs g,x=.ref l/\y=.ref b/\H l=some Os/\H b=some (.lst g)/\xs.length+g.length<=sizeLine/\∀p,H p=none->Q (.ref p) (upd H p (.lst (xs++g)))
theorem Vv:C8 X (binaryOp .Add) rp:=by
 intro pins s σ H x y v u Q I Y U h;obtain⟨l,b,xs,zs,rfl,rfl,hH,hB,hz,q⟩:=h;cases Y;cases U;obtain⟨z,T,n,r,hl,e⟩:=I.SW hH;obtain⟨z2,g,n2,Z,hl2,e2⟩:=I.SW hB;refine PySem.P.add_list e e2 ?_ (by rw[List.size_toArray,List.size_toArray];lia);have ea:T.toArray++g.toArray=(T++g).toArray:=by simp
 rw[ea];exact⟨.ref _,_,I.nV (t':=s.toks) (r.append Z) (by rw[List.length_append];lia),rfl,q _ I.fresh⟩
def rL:R2:=fun x y H Q=>∃l k xs,x=.ref l/\y=.int k/\H l=some Os/\-(2^63)<=k/\k<2^63/\xs.length*k.toNat<=sizeLine /\
 ∀p,H p=none->Q (.ref p) (upd H p (.lst (List.replicate k.toNat xs).flatten))
theorem len_rep{α:Type}(xs:tV)(k:Nat):(List.replicate k xs).flatten.length=k*xs.length:=by
 induction k with
 |zero=>simp
 |succ k g=>rw[List.replicate_succ,List.flatten_cons,List.length_append,g,Nat.succ_mul,Nat.add_comm]
theorem ZZ:C8 X (binaryOp .Mult) rL:=by
 intro pins s σ H x y v u Q I rx ry h;obtain⟨l,k,xs,rfl,rfl,hH,h1,h2,hz,q⟩:=h;cases rx;obtain⟨t,rfl⟩:=ry;obtain⟨z,g,n,r,hl,e⟩:=I.SW hH;have hlen:g.toArray.size*k.toNat<=sizeLine:=by rw[List.size_toArray,<-hl];exact hz
 have hcap:¬g.toArray.size*k.toNat > (2^63-1) / 8:=by
  have:(sizeLine:Nat)<=(2^63-1) / 8:=by decide
  lia
 have hfit:¬(!Builtin.List.listFitsIndex k)=true:=by
  rw[fitsIndex_both h1 h2];exact aN
 have Y:¬Builtin.List.listTooLong (g.toArray.size*k.toNat)=true:=by
  rw[WT hlen];exact aN
 have Z:List.foldl (fun x1 x2=>x1++x2) #[] (List.replicate (if g.toArray.isEmpty=true then 0 else k.toNat) g.toArray)=(List.replicate k.toNat g).flatten.toArray:=by
  have f0:∀m:Nat,List.foldl (fun x1 x2=>x1++x2) #[] (List.replicate m g.toArray)=(List.replicate m g).flatten.toArray:=fun m=>by
   have:=foldl_rep g m [];rw[List.nil_append]at this;exact this
  rw[f0];cases g with
  |nil=>simp
  |cons a r'=>rw[if_neg Ch]
 refine wpAny_binaryOp_repeat_ref (T := "list") (U := "int") BY ⟨_,e,rfl⟩ (fun s'=>typeIs_int s' k t) noFill_list_mul F.fills_int_mul F.slot_int_rmul repeat_list F.slot_int_index.lookup
  (call_meets F.slot_int_rmul (typeIs_int s k t) F.entry_int_rmul (F.args_int_rmul_2 _ _) (int___rmul___int_list k t l g.toArray n)
   ⟨e,rfl,⟨_,e,rfl⟩,call_meets F.slot_list_mul ⟨_,e,rfl⟩ F.entry_list_mul (F.args_list_mul_2 _ _) (AutoListH.list___mul___list_int_3 l g.toArray n k t hfit hcap Y) ⟨e,?_⟩⟩)
 rw[Z];exact⟨.ref _,_,I.nV (t':=s.toks) (r.rep k.toNat) (by rw[len_rep,Nat.mul_comm];exact hz),rfl,q _ I.fresh⟩
end
end L2
namespace Att
open PySem PySem.W PySem.Calls PyProof.Rows
theorem RO{P:Params}{h:Heap}:∀(ns:XV) (vs:FS),WellAll P h vs (ns.map WData.int)->IntsAre vs ns:=by
 intro ns
 induction ns with
 |nil=>
  intro vs w;rw[List.map_nil]at w;cases w;exact .nil
 |cons n ns g=>
  intro vs w;rw[List.map_cons]at w;cases w with
  |cons a b=>
   cases a;exact .cons _ _ (g _ b)
theorem Zr{l:OpenLaw}{n:Nat}(hn:l.most=some n){P:Params}{h:Heap}{args:List WData}{vals:FS}
 (g:l.row.toRowW.claim.pre args=true)(hwl:WellAll P h vals args) :
  ∃a vs ns,vals=[Value.ref a]/\args=[WData.list (ns.map WData.int)]/\h.get? a=some { cls:=.type "list",data:=.seq vs.toArray}/\IntsAre vs ns/\ns.length<=n:=by
 have hsh:WShape.hasAll [] args [.list .int]=true:=(pre_splitW g).1;have hc:l.pre.holds [] { args:=args}=true:=(pre_splitW g).2;obtain⟨d,r,rfl,h1,h2⟩:=hasAllW_cons hsh;obtain rfl:=hasAllW_nil h2;obtain⟨xs,rfl,h3⟩:=hasW_list h1;obtain⟨ns,rfl⟩:=items_int h3;have T:ns.length<=n:=by
  unfold OpenLaw.pre at hc;have Z:(WTm.not (.lt (.lit (.int (n:Int))) (.len (.arg 0)))).holds [] { args:=[.list (ns.map .int)]}=true:=by
   have Z:=(holds_andW hc).1;rw[hn]at Z;exact Z
  have Y:=condW_of Z (w_not (w_lt w_lit (w_len_list (w_arg rfl))));rw[List.length_map]at Y;refine Nat.le_of_not_lt fun q=>?_;have q':(n:Int)<((ns.length:Nat):Int):=by lia
  first
   |(rw[decide_eq_true q']at Y;exact absurd Y BY)
   |(simp at Y;lia)
 cases hwl with
 |cons w1 w2=>
  cases w2;cases w1 with
  |list ho U=>exact⟨_,_,ns,rfl,rfl,ho,RO ns _ U,T⟩
theorem cg(l:OpenLaw)(args:List WData):l.row.toRowW.claim.post args KM args=true :=
 postW_of (r:=l.row.toRowW) (X:=(true==true))
  (show WShape.has [] KM .bool=true by first|rfl|decide|simp[WShape.has,WShape.arms,WShape.armsAll])
  (show(WTm.eq .res (.lit KM)).value [] { args:=args,res:=some KM,after:=args}=some (.bool (true==true)) from w_eq_bool (w_res rfl) w_lit) rfl
theorem Wm{l:OpenLaw}{n:Nat}{q:Io}{loose:MA}{XP:(Str->Option Value)->Heap->Prop}{YP:World->Heap->Prop}{d:DefRec}
 (hn:l.most=some n)(hdf:d.params.defaults=[])
 (call:∀(w:Mw) (s₀ g:IN) (mg mb:Fa) (fa:Addr) (o:Obj) (pm cd doc:Nh) (a:Addr) (vs:FS) (ns:XV),
   Ground q loose [] XP w s₀ mg mb g.heap->YP w g.heap ->
   g.heap.get? fa=some o->o.data=.func (docDef d.name d.params d.body d.scope pm cd doc)->g.heap.CodeRec cd d.name->mg d.name=some (.ref fa) ->
   g.heap.get? a=some { cls:=.type "list",data:=.seq vs.toArray}->IntsAre vs ns->ns.length<=n->g.gens=#[] ->
   codeAny (model l.prog w) callerA (.call (.ref fa) ⟨[.ref a],[]⟩) uw g) :
  WalkO q loose XP YP l.row.toRowW d [] (fun f vs=>PySem.call f vs):=by
 intro w s₀ g mg mb G Y fa o pm cd doc dV kV ho hd hcd hD hmg hg args vals as T hlay hrd hwl hlo;obtain rfl:dV=.none:=Dflts.none hD hdf;obtain rfl:kV=.none:=Dflts.noKw hD;obtain⟨a,vs,ns,rfl,rfl,U,hints,Z⟩:=Zr hn T hwl;refine enter_call (codeAny_mono (call w s₀ g mg mb fa o pm cd doc a vs ns G Y ho (fd_plain hd) hcd hmg U hints Z hg) fun r s' hq=>?_);obtain⟨rfl,h2,h3,h4⟩:=hq;exact⟨.inl ⟨.bool true,.bool true,[],rfl,fun _=>rfl,.bool true,cg l _,fun _=>⟨List.Pairwise.nil,fun _ hm=>(nomatch hm)⟩⟩,h2,h3,h4⟩
end Att
namespace L2
open PySem PySem.Spec PyProof.Rows
theorem T3:∀ {vs:FS} {ns:XV},IntsAre vs ns->Vals oR vs
 |_,_,.nil=>.nil
 |_,_,.cons n t h=>.cons ⟨t,rfl⟩ (T3 h)
def fW(H:Hp):Prop:=∀b,H b=none\/∃o xs,H b=some (.GN o Os)
theorem eU{P:Io}{w:Mw}{K:As}{mg mb:Fa}{CX:Ho}{k:Nat}{fa a:Addr}{fd:IR}{x:Str}{sp:Sp}{g:IN}{vs:FS}{ns:XV}
 (KX:K.In g.heap)(hns:g.heap.Ns mainGlobals mg)(hb:g.heap.Ns builtinsNs mb)(hbb:∀x:Str,x ≠ "__name__" -> mb x=bootBuiltins x)(hlim:g.heap.NoLimit)(hg:g.gens=#[])
 (ha:g.heap.get? a=some { cls:=.type "list",data:=.seq vs.toArray})(hi:IntsAre vs ns)(hl:ns.length<=sizeLine)(hr:DC k callerA)(hkt:∀H,KTb mg H)
 (F:∀base:Heap,K.In base->base.Ns mainGlobals mg->AH P w K mg base CX k fa fd [x] sp)(U:∀(s:IN) (u:Nh),BindsTo s fd ⟨[u],[]⟩ [(x,u)])
 (hsp:∀H:Hp,fW H->Aq K H a oR->sp [.ref a] H (fun v _=>v=.bl true) fun _ _ _=>False)
 (hCX:∀H e s',CX [] H g (fun _ _ _=>False) e s'->False) :
  codeAny (model P w) callerA (.call (.ref fa) ⟨[.ref a],[]⟩) uw g:=by
 have rv:=T3 hi;have Z:=hi.length;have core:∀H:Hp,fW H->Aq K H a oR->Eo P w H g.heap->(∀b,H b≠none->b=a)->(H a≠none->K.lookup a=none) ->
   codeAny (model P w) callerA (.call (.ref fa) ⟨[.ref a],[]⟩) uw g:=by
  intro H hO hS Av hA hK;have base_of:∀ {b:Addr} {o:Obj},g.heap.get? b=some o->H b=none->(NW g.heap H).get? b=some o:=fun e n=>d9 e n;have noA:∀ {b:Addr} {o:Obj} {es:Array DictEntry} {ep:Nat},g.heap.get? b=some o->o.data=.dict es ep->H b=none:=fun {b o es ep} e d=>by
   cases q:H b with
   |none=>rfl
   |some u=>
    have e':b=a:=hA b (by rw[q];simp);subst e';rw[ha]at e;cases e;have d':Data.seq vs.toArray _=Data.dict es ep:=d;cases d'
  have T:∀ {b:Addr} {m:Fa},g.heap.Ns b m->(NW g.heap H).Ns b m:=fun {b m} ⟨o,es,ep,e,d,r⟩=>⟨o,es,ep,base_of e (noA e d),d,r⟩;have hKb:K.In (NW g.heap H):=fun b o e=>base_of (KX b o e) (by
   cases q:H b with
   |none=>rfl
   |some u=>
    have e':b=a:=hA b (by rw[q];simp);subst e';rw[hK (by rw[q];simp)]at e;cases e)
  have hM:Mod K mg (NW g.heap H):=⟨hKb,T hns,⟨mb,T hb,hbb⟩,let⟨mc,h1,h2⟩:=hlim;⟨mc,T h1,h2⟩⟩;have e0:ZP P w K mg (NW g.heap H) callerA [] g H:=⟨rfl,hM,fun b o e=>ic e,Nat.le_of_eq (dB _ _),trivial,fun b hb=>absurd (show b∈([]:List Addr) from hb) Ch,Av,.of_eq hg,hkt H⟩;refine codeAny_mono ((F _ hKb (T hns)).run callerA [] g H ⟨[.ref a],[]⟩ [.ref a] [.ref a] _ _ hr e0 (U g Mt) (.cons rfl .nil) (hsp H hO hS)) fun r s' h=>?_;cases r with
  |error e=>exact(hCX H e s' h).elim
  |ok fl=>
   cases fl with
   |next=>exact False.elim h
   |brk=>exact False.elim h
   |cont=>exact False.elim h
   |ret u=>
    obtain⟨v,H',os,bare,un,hok',r',q⟩:=h;have q':v=.bl true:=q;subst q';obtain rfl:u=Value.bool true:=r';refine⟨rfl,OldK.of_keep fun b o e=>?_,os,bare⟩;cases q:H b with
    |none=>exact un.keep b o e q (by intro z;exact absurd (show b∈([]:List Addr) from z) Ch) Ch
    |some u=>
     rcases hO b with z|⟨ob,xs,z⟩
     .rw[q]at z;cases z
     .have z2:=un.GY b ob _ z;obtain⟨e1,_⟩:=Av b _ z;obtain⟨e2,_⟩:=hok' b _ z2;rw[e]at e1;cases e1;exact e2
 cases hk:K.lookup a with
 |some o=>
  have e:=KX a o hk;rw[ha]at e;cases e;refine core (fun _=>none) (fun _=>.inl rfl) (.inr ⟨_,vs.toArray,_,hk,rfl,rfl,rfl,by rw[List.size_toArray,Z];exact hl,by simpa using rv⟩) (fun b u z=>by have Y:(none:Option HO)=some u:=z;cases Y) (fun b z=>absurd rfl z) fun z=>absurd rfl z
 |none=>
  refine core (fun b=>if b=a then some (.GN { cls:=.type "list",data:=.seq vs.toArray} (.lst oR)) else none) (fun b=>?_) (.inl (.inr ⟨{ cls:=.type "list",data:=.seq vs.toArray},if_pos rfl⟩)) (fun b u z=>?_) (fun b z=>?_) fun _=>hk
  .by_cases hb:b=a
   .exact .inr ⟨_,_,if_pos hb⟩
   .exact .inl (if_neg hb)
  .by_cases hb:b=a
   .have Y:=(if_pos hb).symm.trans z;cases Y;subst hb;exact⟨ha,by rw[List.length_map];exact hl,vs,_,rv,ha⟩
   .have Y:=(if_neg hb).symm.trans z;cases Y
  .by_cases hb:b=a
   .exact hb
   .exact absurd (if_neg hb) z
theorem ju{l:PySem.W.OpenLaw}{n k:Nat}{q:Io}{loose:MA}{XP:(Str->Option Value)->Heap->Prop}{YP:World->Heap->Prop}{d:DefRec}{K:Params->PySem.W.Frag}{CX:World->Ho}{sp:World->Sp}{x:Str}
 (hn:l.most=some n)(hn2:n<=sizeLine)(hdf:d.params.defaults=[])(hr:DC k callerA)(hkt:∀(w:Mw) (mg:Fa) (h:Heap),(K w.params).In h->h.Ns mainGlobals mg->∀H,KTb mg H)
 (hY:∀(w:Mw) (h:Heap),YP w h->(K w.params).In h)
 (F:∀(w:Mw) (mg:Fa) (fa:Addr) (h:Heap),(K w.params).In h->h.Ns mainGlobals mg->mg d.name=some (.ref fa) ->
   ∃fd:FuncData,(∀(s:IN) (u:Nh),BindsTo s fd ⟨[u],[]⟩ [(x,u)]) /\
    ∀base:Heap,(K w.params).In base->base.Ns mainGlobals mg->AH l.prog w (K w.params) mg base (CX w) k fa fd [x] (sp w))
 (hsp:∀(w:Mw) (H:Hp) (a:Addr) (ns:XV),ns.length<=n->fW H->Aq (K w.params) H a oR->sp w [.ref a] H (fun v _=>v=.bl true) fun _ _ _=>False)
 (hCX:∀(w:Mw) (H:Hp) (s:IN) (e:Nh) (s':IN),CX w [] H s (fun _ _ _=>False) e s'->False) :
  PySem.W.WalkO q loose XP YP l.row.toRowW d [] (fun f vs=>PySem.call f vs):=by
 refine Att.Wm hn hdf fun w s₀ Z mg mb fa o pm cd doc a vs ns G Y ho hd hcd hmg hobj hints U hg=>?_;have KX:=hY w _ Y;obtain⟨fd,hb,hF⟩:=F w mg fa _ KX G.T.g hmg;exact eU (hkt:=hkt w mg _ KX G.T.g) KX G.T.g G.T.b G.T.builtins G.T.nolimit hg hobj hints (aQ U hn2) hr hF hb (fun H hO hS=>hsp w H a ns U hO hS) fun H e s'=>hCX w H Z e s'
abbrev Ah:Ho:=fun _ _ _ _ _ _=>False
abbrev E0:XK:=fun _ _ _=>False
theorem oU{X:Cx}:Passes Ah X E0:=fun _ _ _ _ _ _ _ h=>h.elim
structure T6(K:As)(x qual:Str)(st:Stmt)(f:Addr)(fd:IR):Prop where
 ex:∃(oc:Nh) (od:Option Addr) (kV doc pm:Nh) (an:Option Addr) (cdv ct:Nh) (osl:Array (Option Value)),
  fd=PySem.W.fnOf x qual (HJ st) (EE st) (AL st) .none kV doc pm an cdv ct/\K.lookup f=some ⟨oc,od,.func fd,osl⟩/\PySem.W.codeIn K cdv qual=true
 kp:PySem.W.keepIn K (.ref f)=true
section
variable{P:Io}{w:Mw}{K:As}{mg:Fa}{base:Heap}
theorem T6.ok{x qual:Str}{st:Stmt}{f:Addr}{fd:IR}{N ps:MA}{k:Nat}{sp:Sp}(F:T6 K x qual st f fd)(S:Ag N ps (AL st))(len:∀vs H Q E,sp vs H Q E->vs.length=ps.length)
 (g:∀(cdv:Nh) (A:Re) (outer:List Env) (s:IN) (H:Hp) (vs:HQ) (Q:VK) (E:XK),DC k (A.deeper (envOfC qual (AL st) s.heap.objs.size f cdv))->sp vs H Q E ->
   ∃t,Ie (Cp Ah P w K mg base N qual (AL st) f cdv A outer s H E).JL (EE st) t/\t { nx:=fun _ H'=>Q .Bp H',rt:=Q} (start N vs) H):AH P w K mg base Ah oF f fd ps sp:=by
 obtain⟨oc,od,kV,doc,pm,an,cdv,ct,osl,rfl,lk,U⟩:=F.ex;refine fi lk U S len fun A outer s H vs Q E Y T=>?_;obtain⟨t,h,q⟩:=g cdv A outer s H vs Q E Y T;exact⟨t,h.JL,q⟩
theorem T6.binds{x qual:Str}{st:Stmt}{f:Addr}{fd:IR}{ps:MA}(F:T6 K x qual st f fd)
 (h:∀(kV doc pm:Nh) (an:Option Addr) (cdv ct:Nh) (us:FS),us.length=ps.length->bindArgs uG ⟨us,[]⟩=pure (ps.zip us)):Binds K fd ps []:=by
 obtain⟨oc,od,kV,doc,pm,an,cdv,ct,osl,rfl,lk,g⟩:=F.ex;exact .all (h kV doc pm an cdv ct)
theorem a7{x qual:Str}{st:Stmt}{f:Addr}{oc:Nh}{od an:Option Addr}{osl:Array (Option Value)}{kV doc pm cdv ct:Nh}(l:K.lookup f=some ⟨oc,od,.func uG,osl⟩)
 (c:PySem.W.codeIn K cdv qual=true)(k:PySem.W.keepIn K (.ref f)=true):T6 K x qual st f uG:=⟨⟨oc,od,kV,doc,pm,an,cdv,ct,osl,rfl,l,c⟩,k⟩
end
theorem UI{n:Nat}(h:n<=1000):n<sizeLine:=aS h BY
section
variable{X:Cx}
theorem pv(i:Nat){x:Str}{pos:Pos}(U:X.N[i]? = some x:=by rfl)(T:mK X.env.scope x:=by first|exact Or.inl rfl|exact Or.inr Cl|exact Or.inr (Or.inr rfl))(hd:Id=false:=by decide)
 (g:(x==("__classdict__" : Str))=false:=by decide):PE X (.Name x pos) (QA i):=nX U T hd g
end
theorem VT{A B:Prop}(h:B):if false=true then A else B:=by
 rw[if_neg aN];exact h
theorem Eu{A B:Prop}(h:A):if true=true then A else B:=by
 rw[if_pos rfl];exact h
theorem Ed{c A B:Prop}[Decidable c](T:c->A)(g:¬c->B):if c then A else B:=by
 by_cases h:c
 .rw[if_pos h];exact T h
 .rw[if_neg h];exact g h
def AK(H H':Hp):Prop:=∀b o,H b=some o->H' b=some o
theorem AK.refl(H:Hp):AK H H:=fun _ _ h=>h
theorem AK.trans{H T g:Hp}(a:AK H T)(b:AK T g):AK H g:=fun c o h=>b c o (a c o h)
theorem AK.seq{K:As}{H H':Hp}{a:Addr}{xs:HQ}(e:AK H H')(h:Aq K H a xs):Aq K H' a xs:=by
 rcases h with (h|⟨o,h⟩)|h
 .exact .inl (.inl (e _ _ h))
 .exact .inl (.inr ⟨o,e _ _ h⟩)
 .exact .inr h
section
variable{X:Cx}
def ND(i j:Int):Prop:=∃m:Nat,m<=1000000/\i.natAbs<2^m/\j.natAbs<2^m
theorem ND.ok{i j:Int}(h:ND i j):IntMulOk i j:=by
 obtain⟨m,hm,T,g⟩:=h;exact IntMulOk.of_le (intBits_le_iff.mpr T) (intBits_le_iff.mpr g) AS
theorem Cs:C8 X (binaryOp .Mult) (rI (fun i j=>QH i j\/ND i j) fun i j=>.int (i*j)) :=
 XA fun _ _ _ _ _ _ _ g q=>mul_int q (g.elim (fun z=>z.ok) fun z=>z.ok)
def qC(_i j:Int):Prop:=j≠0/\∃m:Nat,m<=9000/\j.natAbs<2^m
theorem Fe:C8 X (binaryOp .FloorDiv) (rI qC fun i j=>.int (i.fdiv j)):=XA fun i j _ _ _ _ _ T q=>by
 obtain⟨h0,m,hm,U⟩:=T;refine floordiv_int h0 q (.inl (PyProof.noPylong_of_log2 ?_));have g:j.natAbs≠0:=by lia
 have:j.natAbs.log2<m:=(Nat.log2_lt g).mpr U
 lia
mutual
def Br(K:As)(H:Hp):PyData->V->Prop
 |.none,v=>v=.Bp
 |.bool b,v=>v=.bl b
 |.int i,v=>v=.int i
 |.str x,v=>v=.str x
 |.tuple g,v=>∃a xs,v=.ref a/\BI K H a xs/\HF K H g xs
 |.list g,v=>∃a xs,v=.ref a/\Aq K H a xs/\HF K H g xs
 |.dict _,_=>False
def HF(K:As)(H:Hp):List PyData->List V->Prop
 |[],xs=>xs=[]
 |d::g,xs=>∃x r,xs=x::r/\Br K H d x/\HF K H g r
end
theorem AK.tup{K:As}{H H':Hp}{a:Addr}{xs:HQ}(e:AK H H')(h:BI K H a xs):BI K H' a xs:=by
 rcases h with (h|⟨o,h⟩)|h
 .exact .inl (.inl (e _ _ h))
 .exact .inl (.inr ⟨o,e _ _ h⟩)
 .exact .inr h
mutual
theorem Br.reads{pins:Da}{σ:St}{H:Hp}{s:IN}(I:Db):∀ {d:KB} {v:V} {u:Nh},Br X.K H d v->RelV v u->∃as,Reads s.heap u d as
 |.none,_,u,h,r=>by rw[Br]at h;subst h;cases r;exact⟨_,.none⟩
 |.bool b,_,u,h,r=>by rw[Br]at h;subst h;cases r;exact⟨_,.bool b⟩
 |.int i,_,u,h,r=>by rw[Br]at h;subst h;obtain⟨t,rfl⟩:=r;exact⟨_,.int i t⟩
 |.str x,_,u,h,r=>by rw[Br]at h;subst h;obtain⟨t,rfl⟩:=r;exact⟨_,.str x t⟩
 |.tuple ds,_,u,h,r=>by
  rw[Br]at h;obtain⟨a,xs,e1,Z,Y⟩:=h;subst e1;cases r;obtain⟨U,g,⟨o,e,c,n,hd⟩,_⟩:=I.tuple Z;obtain⟨as,T⟩:=HF.reads I Y g;exact⟨_,.tuple e c hd (by simpa using T)⟩
 |.list ds,_,u,h,r=>by
  rw[Br]at h;obtain⟨a,xs,e1,Z,Y⟩:=h;subst e1;cases r;obtain⟨U,g,⟨o,n,e,c,_,hd⟩,_⟩:=I.list Z;obtain⟨as,T⟩:=HF.reads I Y g;exact⟨_,.list e c hd (by simpa using T)⟩
 |.dict _,_,_,h,_=>by rw[Br]at h;exact h.elim
theorem HF.reads{pins:Da}{σ:St}{H:Hp}{s:IN}(I:Db):∀ {ds:By} {xs:HQ} {us:FS},HF X.K H ds xs->Vals xs us->∃as,ReadsAll s.heap us ds as
 |[],_,us,h,r=>by rw[HF]at h;subst h;cases r;exact⟨_,.nil⟩
 |_::_,_,us,h,r=>by
  rw[HF]at h;obtain⟨x,q,e1,h1,Z⟩:=h;subst e1;cases r with
  |cons Y U=>
   obtain⟨as,T⟩:=Br.reads I h1 Y;obtain⟨bs,g⟩:=HF.reads I Z U;exact⟨_,.cons T g⟩
end
def eu(K:As)(neg:Bool):R2:=fun x y H Q=>∃d e,Br K H d x/\Br K H e y/\SeqAt.shaped d=true/\SeqAt.shaped e=true/\Q (.bl (if neg then !PyData.eqv d e else PyData.eqv d e)) H
theorem mM(Z:dl):C8 X (compareOp .Eq) (eu X.K false):=by
 intro pins s σ H x y v u Q I T g h;obtain⟨d,e,h1,h2,s1,s2,q⟩:=h;obtain⟨as,Y⟩:=Br.reads I h1 T;obtain⟨bs,U⟩:=Br.reads I h2 g;exact eq_dataH Y U s1 s2 Z ⟨.bl _,H,I,rfl,q⟩
theorem kW(Z:dl):C8 X (compareOp .NotEq) (eu X.K true):=by
 intro pins s σ H x y v u Q I T g h;obtain⟨d,e,h1,h2,s1,s2,q⟩:=h;obtain⟨as,Y⟩:=Br.reads I h1 T;obtain⟨bs,U⟩:=Br.reads I h2 g;exact ne_dataH Y U s1 s2 Z ⟨.bl _,H,I,rfl,q⟩
end
def MC(X:Cx)(g:Ov)(t:TT):Prop :=
 ∀(pins:Da) (s:IN) (σ:St) (H:Hp) (Q:Bool->Hp->Prop),Inv X pins σ H s->t σ H Q ->
  wpAny EQ X.A (forIn g true fun c r=>if r=true then do let ok <-isTrue c X.env (eval c X.env);pure (ForInStep.yield ok) else pure (ForInStep.yield r)) (TP X pins σ Q) X.xe s
def HI:TT:=fun _ H Q=>Q true H
theorem EW{X:Cx}:MC X [] HI:=fun _ _ σ H _ I h=>wpAny_tests_nil ⟨H,I,h⟩
theorem jJ{X:Cx}{c:Expr}{t:TT}(h:PT X c t):MC X [c] t:=by
 intro pins s σ H Q I g;simp only[List.forIn_cons,List.forIn_nil,if_true];refine aA (aA (BU (h pins s σ H Q I g) fun b s1 q=>?_));exact aB (aB q)
def F0(N T:MA)(sc g:Scope):List (Option Nat)->Nat->Bool
 |[],_=>true
 |none::r,i=>F0 N T sc g r SL
 |some j::r,i=>(match N[i]?,T[j]? with
   |some n,some m=>n==m&&sc.names.lookup n==some .free&&g.names.lookup n==some .cell
   |_,_=>false)&&F0 N T sc g r SL
theorem Qs{N Y:MA}{sc g:Scope}:∀ {fr:LE} {k:Nat},F0 N Y sc g fr k=true->∀ {i j:Nat},fr[i]? = some (some j) ->
  ∃n,N[k+i]? = some n/\Y[j]? = some n/\sc.names.lookup n=some .free/\g.names.lookup n=some .cell
 |[],_,_,i,j,e=>by simp at e
 |none::r,k,h,0,j,e=>by simp at e
 |none::r,k,h,i+1,j,e=>by
  have q:=Qs (fr:=r) (k:=k+1) h (i:=i) (j:=j) (by simpa using e);have z:k+SL=k+1+i:=by lia
  rw[z];exact q
 |some U::r,k,h,0,j,e=>by
  have e':U=j:=by simpa using e
  subst e';rw[F0,Bool.and_eq_true]at h;have T:=h.1;split at T
  .rename_i n m hn hm;simp only[Bool.and_eq_true,beq_iff_eq]at T;obtain⟨⟨rfl,h2⟩,Z⟩:=T;exact⟨n,by simpa using hn,hm,h2,Z⟩
  .cases T
 |some U::r,k,h,i+1,j,e=>by
  rw[F0,Bool.and_eq_true]at h;have q:=Qs (fr:=r) (k:=k+1) h.2 (i:=i) (j:=j) (by simpa using e);have z:k+SL=k+1+i:=by lia
  rw[z];exact q
def carry(fr:LE)(σ:St):St:=fr.map fun o=>match o with
 |some j=>(σ[j]?).join
 |none=>none
theorem Zp{fr:LE}{σ:St}{i:Nat}{v:V}(h:(carry fr σ)[i]? = some (some v)):∃j,fr[i]? = some (some j)/\σ[j]? = some (some v):=by
 unfold carry at h;rw[List.getElem?_map]at h;cases e:fr[i]? with
 |none=>rw[e]at h;cases h
 |some o=>
  rw[e]at h;cases o with
  |none=>simp at h
  |some j=>
   refine⟨j,rfl,?_⟩;simp only[Option.map_some,Option.some.injEq]at h;cases q:σ[j]? with
   |none=>rw[q]at h;cases h
   |some w=>rw[q]at h;simp at h;rw[h]
theorem HE{env:Env}:∀(names:List (Str×NameKind)) (cs:List (Str×Addr)),(∀x∈names,x.2=NameKind.free->∃c,env.cells.lookup x.1=some c)->(∀x c,cs.lookup x=some c->env.cells.lookup x=some c) ->
  ∃cl,(forIn names cs (fun(x:Str×NameKind) (r:List (Str×Addr))=>do if(x.2==NameKind.free)=true then do let a <-cellOf env x.1;pure (ForInStep.yield ((x.1,a)::r)) else pure (ForInStep.yield r)):Sem (List (Str×Addr)))=pure cl /\
   (∀x c,cl.lookup x=some c->env.cells.lookup x=some c)/\(∀x,(∃c,cs.lookup x=some c)->∃c,cl.lookup x=some c)/\∀x∈names,x.2=NameKind.free->∃c,cl.lookup x.1=some c
 |[],cs,_,Z=>⟨cs,rfl,Z,fun _ q=>q,fun _ z=>(by cases z)⟩
 |(n,k)::r,cs,h1,Z=>by
  rw[List.forIn_cons];by_cases hk:(k==NameKind.free)=true
  .obtain⟨c,hc⟩:=h1 (n,k) af (by simpa using hk);have h2':∀x T,((n,c)::cs).lookup x=some T->env.cells.lookup x=some T:=fun x T e=>by
    rw[List.lookup_cons]at e;cases g:x==n with
    |true=>rw[g]at e;have:=beq_iff_eq.mp g;subst this;simp at e;rw[<-e];exact hc
    |false=>rw[g]at e;exact Z x T e
   obtain⟨cl,q1,q2,U,q4⟩:=HE r ((n,c)::cs) (fun x g=>h1 x (aT _ g)) h2';have hn:∃T,cl.lookup n=some T:=U n ⟨c,by rw[List.lookup_cons,beq_self_eq_true]⟩;refine⟨cl,?_,q2,fun x g=>?_,fun x g Y=>?_⟩
   .simp only[hk,if_true];unfold cellOf;rw[hc];exact q1
   .refine U x ?_;rw[List.lookup_cons];cases hxn:x==n with
    |true=>exact⟨c,rfl⟩
    |false=>exact g
   .rcases aO.mp g with e|g
    .subst e;exact hn
    .exact q4 x g Y
  .obtain⟨cl,q1,q2,U,q4⟩:=HE r cs (fun x g=>h1 x (aT _ g)) Z;refine⟨cl,?_,q2,U,fun x g Y=>?_⟩
   .simp only[hk];exact q1
   .rcases aO.mp g with e|g
    .subst e;exact absurd (by simpa using Y) hk
    .exact q4 x g Y
def A3(X:Cx)(scope:Scope)(cl:List (Str×Addr))(N:MA)(C:Addr)(s₀:IN)(H₀:Hp)(fp:al):Cx where
 prog:=X.prog
 w:=X.w
 K:=X.K
 mg:=X.mg
 base:=X.base
 A:=X.A
 N:=N
 s₀:=s₀
 H₀:=H₀
 env:=compEnvC scope cl C X.env
 outer:=X.stack
 stack:=X.stack
 ex:=fp
 fn:=fun _=>false
 calm:=X.calm
 pn:=[]
 xe:=fun _ _=>False
def PF(wi:TI)(fr:LE)(ix:Nat)(T:TT)(te:TE):TE:=fun σ H Q=>wi σ H fun J Z=>∀D,Z D=none->∃W:Nat->Nat->List V->Hp->Prop,(∃m,W 0 m [] (upd Z D re)) /\
 ∀i m ys H,W i m ys H->H D=some Mj/\((J.stop i H/\Q (.ref D) H)\/(J.go i H/\ys.length<sizeLine/\∀x H',J.F4 i H x H' ->
  T f8 H' fun b Y=>if b=true then te f8 Y fun y U=>U D=some Mj/\∃g,g<m/\W SL g tQ (upd U D (.lst tQ))
   else ∃g,g<m/\W SL g ys Y))
structure D8(scope:Scope)(N:MA)(x:Str)(ix:Nat):Prop where
 kind:scope.kind=.function
 cell:∀y∈scope.names,y.2≠.cell
 names:∀y∈scope.names,y.2=.local->scope.names.lookup y.1=some .local
 free:∀y∈scope.names,y.2=.free->scope.names.lookup y.1=some .free
 loc:scope.names.lookup x=some .local
 nd:N.Nodup
 at_:N[ix]? = some x
theorem lookup_mem{names:List (Str×NameKind)}{n:Str}{k:NameKind}:names.lookup n=some k->(n,k)∈names:=by
 induction names with
 |nil=>intro h;cases h
 |cons y r g=>
  intro h;obtain⟨m,j⟩:=y;rw[List.lookup_cons]at h;cases e:n==m with
  |true=>rw[e]at h;have:=beq_iff_eq.mp e;subst this;simp at h;subst h;exact af
  |false=>rw[e]at h;exact aT _ (g h)
theorem Vp{scope:Scope}{env:Env}(hc:∀y∈scope.names,y.2≠.cell){n:Str}(h:(relabel scope env).names.lookup n=some .cell\/(relabel scope env).names.lookup n=some .free):∃k,(n,k)∈scope.names/\k=NameKind.free:=by
 have key:∀T,(relabel scope env).names.lookup n=some T->(T=.cell\/T=.free)->∃k,(n,k)∈scope.names/\k=NameKind.free:=fun T h hk=>by
  have hm:=lookup_mem h;unfold relabel at hm;obtain⟨⟨m,k⟩,U,e⟩:=aU.mp hm;dsimp only at e;by_cases g:(k==NameKind.free&&env.scope.kind==.function&&env.kindOf m==some .cell)=true
  .rw[if_pos g]at e
   injection e with Y Z
   subst Y;refine⟨k,U,?_⟩;simp only[Bool.and_eq_true,beq_iff_eq]at g;exact g.1.1
  .rw[if_neg g]at e
   injection e with Y Z
   subst Y Z;rcases hk with rfl|rfl
   .exact absurd rfl (hc _ U)
   .exact⟨_,U,rfl⟩
 rcases h with h|h
 .exact key _ h lm
 .exact key _ h (.inr rfl)
section
variable{X:Cx}{elt iter:Expr}{x:Str}{px pos:Pos}{ifs:Ov}{scope:Scope}{wi:TI}{fr:LE}{ix:Nat}{tif:TT}{te:TE}{N:MA}
theorem Lf{prog:Io}{w:Mw}{A:Re}{R:Result->Shared->Prop}{s:IN}{elt target iter:Expr}{ifs:Ov}{scope:Scope}{pos:Pos}{it acc:Nh}{env:Env}(I:Nat->Shared->Prop)
 (turn:∀n s,I n s->wpAny At A (pyNext it) (fun r g=>match r with
   |none=>R (.ok .next) g
   |some v=>wpAny At A (letOwnedTupleGo target it v>>=fun _=>assign target env v) (fun _ Z=>
     wpAny At A (forIn ifs true fun c r=>if r=true then do let ok <-isTrue c env (eval c env);pure (ForInStep.yield ok) else pure (ForInStep.yield r)) (fun ok T=>
      if ok=true then wpAny At A (eval elt env) (fun x Y=>
       wpAny At A (call (.builtin "list.append") [acc,x]) (fun _ U=>∃m,m<n/\I m U) um Y) um T
      else ∃m,m<n/\I m T) um Z) um g) um s)
 (n:Nat)(h:I n s) :
  codeAny At A (.compLoop (.ListComp elt [⟨target,iter,ifs,0⟩] scope pos) 0 it acc env) R s:=by
 refine codeAny_loop rfl I (fun n s hI=>?_) n h;show wpAny _ A ((compTurn (.ListComp elt [⟨target,iter,ifs,0⟩] scope pos) 0 it acc env).onRaise (fun x=>do noteFrame x env;theTreesLotGoes x)) _ _ s;refine wpAny_noted ?_;rw[compTurn_list];refine aA (wpAny_standAt (aA (aX (turn n s hI) (fun r g h₁=>?_) fun _ _ h'=>h')));cases r with
 |none=>exact aB h₁
 |some v=>
  show wpAny At A (letOwnedTupleGo target it v>>=fun _=>assign target env v>>=_) _ _ g;rw[<-bind_assoc];refine aA (aX h₁ (fun _ Z h₂=>aA (aX h₂ (fun ok T h₃=>?_) fun _ _ h'=>h')) fun _ _ h'=>h');cases ok with
  |false=>exact aB ⟨rfl,h₃⟩
  |true=>
   exact aA (aA (aX h₃ (fun x Y h₄=>aA (aX h₄ (fun _ U h₅=>aB (aB ⟨rfl,h₅⟩)) fun _ _ h'=>h')) fun _ _ h'=>h'))
theorem Po{pins:Da}{σ:St}{Z:Hp}{s2:IN}{Q:VK}{it:Addr}{fp:al}{tn:Nat->Heap->Prop}{J:It}{cl:List (Str×Addr)}{E:AT}{RR:Value->Addr->Result->Shared->Prop}
 (S:D8 scope N x ix)(hcalm:oN){tgE:Expr}{g:TG}(Rv:St->Prop)(r0:Rv (carry fr σ))(hpg:∀C,PG (A3 X scope cl N C s2 Z fp) tgE g)(hfr:uO)(hlen:fr.length=N.length)
 (hif:uX)(he:uZ)
 (Y:Inv X pins σ Z s2)(T:Turn X.prog X.w X.K tgE J fp it tn)(st2:tn 0 s2.heap)(f2:∀b∈fp,MJ X pins Z b)
 (c1:∀x c,cl.lookup x=some c->X.env.cells.lookup x=some c)(c2:∀x∈scope.names,x.2=NameKind.free->∃c,cl.lookup x.1=some c)
 (W:∀D,Z D=none->∃W:Nat->Nat->List V->Hp->Prop,(∃m,W 0 m [] (upd Z D re)) /\
   ∀i m ys H,W i m ys H->H D=some Mj/\((J.stop i H/\Q (.ref D) H)\/(J.go i H/\ys.length<sizeLine/\∀x H',J.F4 i H x H'->∀σ',Rv σ'->g x σ' H' fun σ6 H6=>Rv σ6 /\
    tif σ6 H6 fun b Z=>if b=true then te σ6 Z fun y H3=>H3 D=some Mj/\∃m',m'<m/\W SL m' tQ (upd H3 D (.lst tQ))
     else ∃m',m'<m/\W SL m' ys Z)))
 (fin:uU) :
  wpAny EQ X.A (newList []) (fun acc s₃=>wpAny EQ X.A tf (fun cenv s₄=>
   codeAny EQ X.A (.compStart (.ListComp elt [⟨tgE,iter,ifs,0⟩] scope pos) 0 (.ref it) acc {cenv with scope:=relabel scope X.env}) (RR acc cenv.locals) s₄) E s₃) E s2:=by
 refine bC (wpAny_newFunctionEnv S.cell (by intro y hy;simp at hy) (fun h₁ hns₁ U=>?_) S.kind);dsimp only at hns₁ U ⊢;generalize hHp:s2.heap.push { cls:=.type "list",dict:=none,data:=.seq ([]:List Value).toArray}=Hq at hns₁ U ⊢;have hC:Hq.objs.size=s2.heap.objs.size+1:=by rw[<-hHp,Heap.size_push]
 have hDC:s2.heap.objs.size≠Hq.objs.size:=by rw[hC];exact aJ (bX _)
 have below:∀b,b<s2.heap.objs.size->b≠Hq.objs.size/\b≠s2.heap.objs.size:=fun b hb=>⟨by rw[hC];exact aJ (bT hb),Nat.ne_of_lt hb⟩;have old:∀b o,s2.heap.get? b=some o->h₁.get? b=some o:=fun b o e=>U.extBut b o (below b (aG e)).1 (aF _ (hHp ▸ aF _ e));have hacc:h₁.get? s2.heap.objs.size=some { cls:=.type "list",data:=.seq ([]:List Value).toArray}:=U.extBut _ _ hDC (aF _ (hHp ▸ aL _ rfl));have hD2:Z s2.heap.objs.size=none:=Y.Av.fresh em;have hC2:Z Hq.objs.size=none:=Y.Av.fresh (by rw[hC];exact Nat.le_succ _);have fpo:∀b∈fp,b<s2.heap.objs.size:=fun b hb=>by
  obtain⟨o,e,_⟩:=T.obj _ _ st2 b hb;exact aG e
 obtain⟨W,⟨m0,w0⟩,turn⟩:=W s2.heap.objs.size hD2;have ok:(A3 X scope cl N Hq.objs.size s2 Z fp).Ok:=by
  refine⟨Y.ok.mod,S.kind,Y.ok.glob,Y.ok.blt,by show s2.heap.objs.size<=Hq.objs.size;rw[hC];exact Nat.le_succ _,?_,?_,?_,fun _=>Y.ok.hd hcalm,Y.ok.frames,.inl rfl,?_,Y.bs,Nat.le_trans Y.ok.Rm Y.sz,?_,?_,Y.stack,Y.S6,Y.kt⟩
  .exact fun a b c h1 h2=>Y.ok.inj a b c (c1 _ _ h1) (c1 _ _ h2)
  .intro y hy;obtain⟨k,hm,rfl⟩:=Vp S.cell hy;exact c2 _ hm rfl
  .intro y c hf;cases hf
  .intro b hb;refine⟨(below b (fpo b hb)).1,fun y c e=>?_⟩;obtain⟨_,_,_,_,f5,_⟩:=f2 b hb;exact f5 y c (c1 _ _ e)
  .intro b o e hb;obtain⟨_,_,_,f4,_,_⟩:=f2 b hb;rcases f4 with z|z
   .exact Y.ok.SV b o e z
   .exact absurd (aH (aG e) (aQ Y.ok.Rm z)) (Nat.lt_irrefl _)
  .intro b hb hs;obtain⟨_,f1,f3,_⟩:=f2 b hb;rcases aO.mp (Y.Oj b hs) with z|z
   .exact f1 z
   .exact f3 z
 have I4:Inv bv [] (carry fr σ) (upd Z s2.heap.objs.size re) {s2 with heap:=h₁,toks:=s2.toks+([]:List (Str×Value)).length}:=by
  refine⟨ok,rfl,Y.bare,Un.laid old em hD2,⟨_,hns₁,fun i y v h1 h2 h3=>?_⟩,fun y c e=>?_,?_,fun y c e=>?_,fun p hp=>(by cases hp),Y.Av.laid old em ⟨bK _,[],0,.nil,hacc⟩,?_⟩
  .obtain⟨j,e1,e2⟩:=Zp h2;obtain⟨n,n1,n2,n3,n4⟩:=Qs hfr e1;rw[Nat.zero_add]at n1;have:y=n:=by
    have h1':N[i]? = some y:=h1;rw[h1']at n1;exact ax n1
   subst this;obtain⟨m,hn,hl⟩:=Y.loc;obtain⟨u,ru,lk⟩:=hl j y v n2 e2 (.inr (.inl n4));refine⟨u,ru,?_⟩;obtain⟨c,hc⟩:=c2 _ (lookup_mem n3) rfl;rcases lk with ⟨k1,_⟩|⟨_,c',hc',hcell⟩
   .have k1':X.env.scope.names.lookup y=some .local:=k1;rw[n4]at k1';cases k1'
   .have:=c1 _ _ hc;rw[hc']at this;cases this;refine .inr ⟨?_,c,hc,hcell.keeps old⟩;rcases h3 with z|z|z
    .obtain⟨k,hm⟩:∃k,(y,k)∈scope.names/\k=NameKind.local:=by
      have hm:=lookup_mem z;have hm':(y,NameKind.local)∈(relabel scope X.env).names:=hm;unfold relabel at hm';obtain⟨⟨m',k⟩,hy,e⟩:=aU.mp hm';dsimp only at e;by_cases hcond:(k==NameKind.free&&X.env.scope.kind==.function&&X.env.kindOf m'==some .cell)=true
      .rw[if_pos hcond]at e;injection e with _ e2';cases e2'
      .rw[if_neg hcond]at e;injection e with e1' e2';subst e1' e2';exact⟨_,hy,rfl⟩
     obtain⟨hm,rfl⟩:=hm;have:=S.names _ hm rfl;rw[n3]at this;cases this
    .exact .inl z
    .exact .inr z
  .obtain⟨v,z⟩:=Y.cell y c (c1 _ _ e);exact⟨v,z.keeps old⟩
  .show upd Z s2.heap.objs.size _ Hq.objs.size=none;rw[AJ (Ne.symm hDC)];exact hC2
  .obtain⟨v,o,ho,_⟩:=Y.cell y c (c1 _ _ e);rw[AJ (below c (aG ho)).2];exact Y.Gn y c (c1 _ _ e)
  .show(carry fr σ).length=N.length;unfold carry;rw[List.length_map];exact hlen
 have fpX:∀(p:Da) (H':Hp),(∀q∈p,q.1∈fp->False)->(∀b∈fp,H' b=none)->∀b∈fp,MJ bv p H' b:=fun p H' hp hn b hb=>by
  obtain⟨_,f1,f3,f4,f5,_⟩:=f2 b hb;refine⟨hn b hb,(below b (fpo b hb)).1,fun hs=>ok.Sx b hb hs,.inl hb,fun y c e=>f5 y c (c1 _ _ e),fun q hq e=>?_⟩;exact hp q hq (e ▸ hb)
 have hxv:(relabel scope X.env).names.lookup x=some .local:=lookup_relabel_local S.loc;have loop:∀s₃:Shared,s₃={s2 with heap:=h₁,toks:=s2.toks+([]:List (Str×Value)).length} ->
   codeAny EQ X.A (.compLoop (.ListComp elt [⟨tgE,iter,ifs,0⟩] scope pos) 0 (.ref it) (.ref s2.heap.objs.size) (compEnvC scope cl Hq.objs.size X.env)) (RR (.ref s2.heap.objs.size) Hq.objs.size) s₃:=by
  rintro s₃ rfl;refine Lf (fun n s'=>∃i ys σ' H',Inv bv [] σ' H' s'/\Rv σ'/\tn i s'.heap/\(∀b∈fp,H' b=none)/\W i n ys H') ?_ m0
   ⟨0,[],carry fr σ,_,I4,r0,T.keep _ _ _ st2 fun b _ o e=>old b o e,fun b hb=>by rw[AJ (below b (fpo b hb)).2];exact(f2 b hb).1,w0⟩
  rintro n s3 ⟨i,ys,σ3,H3,I3,hσ,st3,fr3,w3⟩;obtain⟨hD3,way⟩:=turn i n ys H3 w3;rcases way with ⟨stop,qn⟩|⟨go,hsz,step⟩
  .refine aX (T.done bv rfl rfl rfl hcalm i [] s3 σ3 H3 (fun _ _=>False) I3 (fpX [] H3 (fun _ z=>by cases z) fr3) st3 stop) (fun r s4 ⟨hr,I5⟩=>?_) fun _ _ z=>z.elim;subst hr;obtain⟨m,hn,_⟩:=id I5.loc;refine fin _ _ s4 H3 m hn qn (fun h' hs'=>?_) (Ne.symm hDC) (fun b o e=>(below b (aG e)).1) I5.free (by rw[hC];exact Nat.le_succ _);have nC:∀b u,H3 b=some u->b≠Hq.objs.size:=fun b u e z=>by
    have:=I5.free;rw[show(A3 X scope cl N Hq.objs.size s2 Z fp).env.locals=Hq.objs.size from rfl,<-z,e]at this;cases this
   have keepU:Un (Gq X.stack) fp Z H3 s2.heap h':=by
    have u:=I5.base;refine⟨fun b o e n hb hx=>?_,fun b o e n hb hx=>?_,fun b o e n hx=>u.free b o e n hx,fun b o e hx=>?_,u.BL,u.GY,u.Hi,fun b xs o q e hx=>(hs'.2 b (below b (aG e)).1).trans (u.Hd b xs o q e hx)⟩
    .exact(hs'.2 b (below b (aG e)).1).trans (u.keep b o e n hb hx)
    .obtain⟨sl,e1⟩:=u.slot b o e n hb hx;exact⟨sl,(hs'.2 b (below b (aG e)).1).trans e1⟩
    .obtain⟨o',e1⟩:=u.there b o e hx;exact⟨o',(hs'.2 b (below b (aG e)).1).trans e1⟩
   have hok':Eo X.prog X.w H3 h':=fun b u e=>(I5.Av b u e).Hf (fun c v hc q=>(hs'.2 c (by
    rcases hc with rfl|hc
    .exact nC _ _ e
    .exact nC _ _ hc)).trans q) (fun _ q=>q) fun _ _ q=>q
   refine Y.gU (s':={s4 with heap:=h'}) (ch:=fp) I5.os keepU hok' I5.bare fun b hb=>?_;obtain⟨_,f1,_,f4,f5,f6⟩:=f2 b hb;exact⟨f4,f1,f5,f6⟩
  .refine aX (T.item bv rfl rfl rfl hcalm i [] s3 σ3 H3 (fun _ _=>False) I3 (fpX [] H3 (fun _ z=>by cases z) fr3) st3 go) (fun r s4 ⟨u,hr,h4⟩=>?_) fun _ _ z=>z.elim;subst hr;show wpAny EQ X.A (letOwnedTupleGo tgE (.ref it) u>>=fun _=>assign tgE (compEnvC scope cl Hq.objs.size X.env) u) _ _ s4;refine aA (aX h4 (fun _ s5 ⟨xv,H5,I5,r5,y5,st5,fr5⟩=>?_) fun _ _ z=>z.elim);have I5':=I5.pinned (fpX [] H5 (fun _ z=>by cases z) fr5) (T.obj _ _ st5);refine aX (hpg _ _ s5 σ3 H5 xv u _ I5' r5 (step xv H5 y5 σ3 hσ)) (fun _ s6 ⟨σ6,H6,I6,rv6,step5⟩=>?_) fun _ _ z=>z.elim;refine aX (hif _ _ _ _ _ _ s6 _ H6 _ I6 step5) (fun b s7 ⟨H7,I7,q7⟩=>?_) fun _ _ z=>z.elim;have again:∀ {s8:IN} {H8:Hp} {k:Nat} {zs:HQ},Inv bv ([]++Og fp s5.heap) σ6 H8 s8->W SL k zs H8->k<n ->
     ∃m,m<n/\∃i ys σ' H',Inv bv [] σ' H' s8/\Rv σ'/\tn i s8.heap/\(∀b∈fp,H' b=none)/\W i m ys H':=fun {s8 H8 k zs} I8 w8 hk=>by
    refine⟨k,hk,i+1,zs,_,H8,I8.M8,rv6,T.keep _ _ _ st5 fun b hb o e=>(I8.pin (b,o) (aa _ (aa _ (Kg hb e)))).1,fun b hb=>?_,w8⟩;obtain⟨o,e,d⟩:=T.obj _ _ st5 b hb;exact(I8.pin (b,o) (aa _ (aa _ (Kg hb e)))).2.1
   cases b with
   |false=>
    rw[if_neg aN]at q7 ⊢;obtain⟨k,hk,w7⟩:=q7;exact again I7 w7 hk
   |true=>
    rw[if_pos rfl]at q7 ⊢;refine aX (he _ _ _ _ _ _ s7 _ H7 _ I7 q7) (fun yv s8 ⟨y,H8,I8,r8,hD8,k,hk,w8⟩=>?_) fun _ _ z=>z.elim;refine aX (FH (X:=A3 X scope cl N Hq.objs.size s2 Z fp) _ s8 _ H8 (.ref s2.heap.objs.size) [y] (.ref s2.heap.objs.size) [yv] (fun _ H9=>H9=upd H8 s2.heap.objs.size (.lst tQ)) I8 rfl (.cons r8 .nil) ⟨_,ys,y,rfl,rfl,hD8,hsz,rfl⟩) (fun _ s9 ⟨_,H9,I9,_,e9⟩=>?_) fun _ _ z=>z.elim;subst e9;exact again I9 w8 hk
 exact codeAny_compStart_list (loop _ rfl) (T.self X.A 0 _ _ _ (T.keep _ _ _ st2 fun b _ o e=>old b o e) (loop _ rfl))
theorem RD{pins:Da}{σ:St}{U:Hp}{s2:IN}{Q:VK}{it:Addr}{fp:al}{tn:Nat->Heap->Prop}{J:It}{cl:List (Str×Addr)}{E:AT}{RR:Value->Addr->Result->Shared->Prop}
 (S:D8 scope N x ix)(Y:oN)(hfr:uO)(hlen:fr.length=N.length)
 (hif:uX)(he:uZ)
 (I2:Inv X pins σ U s2)(T:Turn X.prog X.w X.K (.Name x px) J fp it tn)(st2:tn 0 s2.heap)(f2:∀b∈fp,MJ X pins U b)
 (c1:∀x c,cl.lookup x=some c->X.env.cells.lookup x=some c)(c2:∀x∈scope.names,x.2=NameKind.free->∃c,cl.lookup x.1=some c)
 (W:∀D,U D=none->∃W:Nat->Nat->List V->Hp->Prop,(∃m,W 0 m [] (upd U D re)) /\
   ∀i m ys H,W i m ys H->H D=some Mj/\((J.stop i H/\Q (.ref D) H)\/(J.go i H/\ys.length<sizeLine/\∀x H',J.F4 i H x H' ->
    tif f8 H' fun b U=>if b=true then te f8 U fun y H3=>H3 D=some Mj/\∃m',m'<m/\W SL m' tQ (upd H3 D (.lst tQ))
     else ∃m',m'<m/\W SL m' ys U)))
 (fin:uU) :
  wpAny EQ X.A (newList []) (fun acc s₃=>wpAny EQ X.A tf (fun g s₄=>
   codeAny EQ X.A (.compStart Ix 0 (.ref it) acc {g with scope:=relabel scope X.env}) (RR acc g.locals) s₄) E s₃) E s2:=by
 have hxv:(relabel scope X.env).names.lookup x=some .local:=lookup_relabel_local S.loc;refine Po S Y (fun Z=>∀v,Z.set ix v=(carry fr σ).set ix v) (fun _=>rfl) (fun C=>A5 (X:=A3 X scope cl N C s2 U fp) S.nd S.at_ (.inl hxv) (.inr hxv)) hfr hlen hif he I2 T st2 f2 c1 c2 (fun D hD=>?_) fin;obtain⟨W,w0,st⟩:=W D hD;refine⟨W,w0,fun i m ys H w=>?_⟩;obtain⟨h1,h2|⟨h2,h3,h4⟩⟩:=st i m ys H w
 .exact⟨h1,.inl h2⟩
 .refine⟨h1,.inr ⟨h2,h3,fun x H' hy Z hr=>?_⟩⟩;have:=h4 x H' hy;rw[<-hr]at this;exact⟨fun v=>by rw[List.set_set,hr],this⟩
theorem jo(S:D8 scope N x ix)(Z:oN)(hfr:uO)(hlen:fr.length=N.length)(U:∀y∈scope.names,y.2=.free->X.env.scope.names.lookup y.1=some .cell\/X.env.scope.names.lookup y.1=some .free)
 (hi:PI X (.Name x px) iter wi)(hif:uX)(he:uZ)
 (hs:∀x,foldedSetIterable iter X.env x=pure x:=by intro _;rfl):PE X Ix (PF wi fr ix tif te):=by
 intro pins s σ H Q I hw;obtain⟨cl,Y,c1,_,c2⟩:=HE (env:=X.env) scope.names [] (fun y hy hf=>I.ok.has y.1 (U y hy hf)) (fun y c z=>by cases z);have g:closureFor scope X.env=pure cl:=by
  have e:closureFor scope X.env=Ty:=rfl;rw[e,Y]
  rfl
 rw[eval_ListComp];refine wpAny_comprehension_free (use:=none) rfl hs g S.kind S.names (BU (hi pins s σ H _ I hw) fun v s1 h1=>BU h1 fun itv s2 h2=>?_);obtain⟨it,fp,tn,J,H2,e,I2,T,st2,f2,W⟩:=h2;subst e;refine RD (RR:=fun acc C=>compPost EQ X.A X.xe none l7 acc C) S Z hfr hlen hif he I2 T st2 f2 c1 c2 W ?_;intro D C s' H' m hn q hI _ _ _ _;exact⟨m,hn,fun h' hs'=>⟨.ref D,H',hI h' hs',rfl,q⟩⟩
theorem ZF{i : Nat}{y : Str}{py spos : Pos}(hN : X.N.Nodup)(hy : X.N[i]? = some y)(hly : X.env.scope.names.lookup y = some .local)(S : D8 scope N x ix)(hcalm : X.calm = true)(hfr : F0 N X.N scope X.env.scope fr 0 = true)(hlen : fr.length = N.length)
 (hfree : ∀ y∈scope.names,y.2 = .free->X.env.scope.names.lookup y.1 = some .cell\/X.env.scope.names.lookup y.1 = some .free)
 (hi : PI X (.Name x px) iter wi)(hif : ∀ cl C s₀ H₀ fp,MC Ev ifs tif)(he : ∀ cl C s₀ H₀ fp,PE Ev elt te)
 (hsw : swapsWith Ix (some (.Name y py)) spos.line X.env = pure true:=by rfl)
 (hs : ∀ x,foldedSetIterable iter X.env x = pure x:=by intro _; rfl) :
    PS X (.Assign [.Name y py] Ix spos) (SI (PF wi fr ix tif te) (Dj i)):=by
  intro pins s σ H D I hw
  obtain ⟨cl,hclos,c1,_,c2⟩:=HE (env:=X.env) scope.names [] (fun y hy hf => I.ok.has y.1 (hfree y hy hf)) (fun y c z => by cases z)
  have hclos' : closureFor scope X.env = pure cl:=by
    have e : closureFor scope X.env = SB:=rfl
    rw [e,hclos]
    rfl
  rw [exec_Assign_Name_used _ _ _ _ hsw]
  refine aA (wpAny_standAt (aA ?_))
  show wpAny _ X.A (do let _ <- comprehension Ix scope X.env _ (newList []) false (eval iter X.env) (some (assign (.Name y py) X.env))) _ _ s
  refine aA (aX (wpAny_comprehension_free (use:=some (assign (.Name y py) X.env)) (Q:=fun _ s' => SP X pins D .next s') rfl hs hclos' S.kind S.names
    (BU (hi pins s σ H _ I hw) fun v s1 h1 => BU h1 fun itv s2 h2 => ?_)) (fun _ s' hq => aB (aB hq)) fun _ _ e => e)
  obtain ⟨it,fp,tn,J,H2,e,I2,T,st2,f2,W⟩:=h2
  subst e
  refine RD (Q:=fun x H1 => Dj i x σ H1 D.nx) (RR:=fun acc C => compPost EQ X.A X.xe (some (assign (.Name y py) X.env)) (fun _ s' => SP X pins D .next s') acc C) S hcalm hfr hlen hif he I2 T st2 f2 c1 c2 W ?_
  intro D' C s' H' m hn q hI hCD hold hfreeC hsz
  have I5 : Inv X pins σ H' s':=hI s'.heap (Heap.SameBut.refl ..)
  refine wpAny_assign_Name (Ol I5 hN hy (.inl hly) (v:=.ref D') rfl (fun s'' I6 ⟨a,hsb,ha⟩ => ?_) (.inr hly))
  have hL : C≠X.env.locals:=fun z => by
    obtain ⟨_,⟨o,_,_,e,_⟩,_⟩:=I2.loc
    exact hold _ _ e z.symm
  have hcl : ∀ z c,X.env.cells.lookup z = some c->c≠C:=fun z c e => by
    obtain ⟨_,o,ho,_⟩:=I2.cell z c e
    exact hold _ _ ho
  have hCa : C≠a:=by
    rcases ha with z | z
    . rw [z]; exact hL
    . exact Ne.symm (hcl _ _ z)
  refine ⟨m,hn.sameBut hsb hCa,fun h' hs' => ⟨_,H',I6.turned (t':=s''.toks) (it:=C) (fun b o hb e => (hs'.2 b hb).trans e) hfreeC hL (.inr (aQ I2.sz hsz)) hcl fun p hp => ?_,q⟩⟩
  obtain ⟨e,_⟩:=I2.pin p hp
  exact hold _ _ e
end
end L2
namespace FM
def gi(a b:Int):Int:=(Int.gcd a b:Int)
theorem VB(a b:Int):Int.gcd b (a.fmod b)=Int.gcd a b:=by
 have e:a.fmod b=a-b*a.fdiv b:=Int.fmod_def a b;rw[e,Int.gcd_comm a b];exact Int.gcd_sub_mul_left_right b a (a.fdiv b)
theorem UO(a b:Int)(hb:b≠0):(a.fmod b).natAbs<b.natAbs:=by
 rcases Int.lt_or_gt_of_ne hb with h|h
 .have U:-(a.fmod b)=(-a).fmod (-b):=by
   rw[Int.fmod_def,Int.fmod_def,Int.neg_fdiv_neg];have:-b*a.fdiv b=-(b*a.fdiv b):=Int.neg_mul _ _
   lia
  have T:=Int.fmod_nonneg_of_pos (-a) (show 0 < -b by lia);have g:=Int.fmod_lt_of_pos (-a) (show 0 < -b by lia)
  lia
 .have T:=Int.fmod_nonneg_of_pos a h;have g:=Int.fmod_lt_of_pos a h
  lia
theorem MW{a b:Int}(hb:b≠0):0<gi a b:=by
 have:0<Int.gcd a b:=Int.gcd_pos_of_ne_zero_right a hb;unfold gi;lia
theorem Yr{a b:Int}(hb:b≠0):(gi a b).natAbs<=b.natAbs:=by
 have h:Int.gcd a b ∣ b.natAbs:=by
  have:=Int.gcd_dvd_right a b;exact Int.natAbs_dvd_natAbs.mpr this
 have g:0<b.natAbs:=by lia
 have:=Nat.le_of_dvd g h;unfold gi;lia
def gs(t b:Int):Int:=if b<0 then -gi t b else gi t b
theorem gL{t b:Int}(hb:b≠0):gs t b≠0:=by
 have:=MW (a:=t) hb;unfold gs;split<;>lia
theorem gO{t b:Int}(hb:b≠0):(gs t b).natAbs<=b.natAbs:=by
 have:=Yr (a:=t) hb;unfold gs;split<;>lia
theorem HM{g x k:Int}(hg:g≠0)(e:x=g*k):x.fdiv g=k:=by
 subst e;exact Int.mul_fdiv_cancel_left k hg
theorem P6(a b:Int):gi a b ∣ a:=Int.gcd_dvd_left a b
theorem N8(a b:Int):gi a b ∣ b:=Int.gcd_dvd_right a b
theorem Wf{t b:Int}(hb:b≠0):t.fdiv (gs t b)=(Rat.divInt t b).num:=by
 have T:=MW (a:=t) hb;obtain⟨k,hk⟩:=P6 t b;rw[Rat.num_divInt,Int.gcd_comm b t];show t.fdiv (gs t b)=b.sign*t / gi t b;unfold gs;generalize gi t b=g at T hk ⊢;rcases Int.lt_or_gt_of_ne hb with h|h
 .rw[if_pos h,Int.sign_eq_neg_one_of_neg h,HM (k:=-k) AS (by rw[hk];simp[Int.mul_neg,Int.neg_mul])];have:-1*t=g*(-k):=by rw[hk];simp[Int.mul_neg]
  rw[this,Int.mul_ediv_cancel_left _ AS]
 .rw[if_neg AS,Int.sign_eq_one_of_pos h,HM (k:=k) AS hk,Int.one_mul,hk,Int.mul_ediv_cancel_left _ AS]
theorem Vf{t b:Int}(hb:b≠0):b.fdiv (gs t b)=((Rat.divInt t b).den:Int):=by
 have T:=MW (a:=t) hb;obtain⟨k,hk⟩:=N8 t b;rw[Rat.den_divInt,if_neg hb,Int.gcd_comm b t];have e:(((b.natAbs / Int.gcd t b:Nat)):Int)=(b.natAbs:Int) / gi t b:=by unfold gi;simp
 rw[e];unfold gs;generalize gi t b=g at T hk ⊢;rcases Int.lt_or_gt_of_ne hb with h|h
 .rw[if_pos h,HM (k:=-k) AS (by rw[Int.neg_mul_neg];exact hk)];have:(b.natAbs:Int)=g*(-k):=by rw[Int.mul_neg,<-hk];lia
  rw[this,Int.mul_ediv_cancel_left _ AS]
 .rw[if_neg AS,HM (k:=k) AS hk];have:(b.natAbs:Int)=g*k:=by rw[<-hk];lia
  rw[this,Int.mul_ediv_cancel_left _ AS]
theorem FP(a b:Int):(a.fdiv b).natAbs<=a.natAbs:=by
 cases a with
 |ofNat n=>
  cases n with
  |zero=>
   have e:Int.fdiv (.ofNat 0) b=0:=Int.zero_fdiv b;rw[e];exact bK _
  |succ k=>
   cases b with
   |ofNat j=>exact Nat.div_le_self oF j
   |negSucc j=>exact Nat.succ_le_succ (Nat.div_le_self k (j+1))
 |negSucc k=>
  cases b with
  |ofNat j=>
   cases j with
   |zero=>exact bK _
   |succ j=>exact Nat.succ_le_succ (Nat.div_le_self k (j+1))
  |negSucc j=>exact Nat.div_le_self oF (j+1)
theorem ma{t b:Int}(hb:b≠0):(Rat.divInt t b).num.natAbs<=t.natAbs:=by
 rw[<-Wf hb];exact FP _ _
theorem lY{t b:Int}(hb:b≠0):(Rat.divInt t b).den<=b.natAbs:=by
 have h:=FP b (gs t b);rw[Vf hb]at h
 simpa using h
theorem Zy(p:Rat):(p.den:Int)≠0:=by
 have:=p.den_nz
 lia
theorem Hr(p:Rat):Rat.divInt p.num p.den=p:=Rat.num_divInt_den p
theorem V0(p q:Rat):Rat.divInt (p.num*q.num) (p.den*q.den)=p*q:=by
 rw[<-Rat.divInt_mul_divInt,Hr,Hr]
theorem XJ(p q:Rat):(p.den:Int)*q.den≠0:=Int.mul_ne_zero (Zy p) (Zy q)
theorem iG{p q:Rat}(g:p.num=q.num)(T:(p.den:Int)=(q.den:Int)):p=q:=Rat.ext g AS
theorem Qy{x y:Int}{m n:Nat}(T:x.natAbs<2^m)(g:y.natAbs<2^n):(x*y).natAbs<2^(m+n):=by
 rw[Int.natAbs_mul,Nat.pow_add];exact Nat.mul_lt_mul'' T g
theorem PD{x:Nat}{m n:Nat}(g:x<2^m)(h:m<=n):x<2^n:=aH g (bg BY h)
def Fits(p:Rat)(n:Nat):Prop:=p.num.natAbs<2^n/\p.den<2^n
theorem Fits.mono{p:Rat}{m n:Nat}(h:Fits p m)(l:m<=n:=by decide):Fits p n:=⟨PD h.1 l,PD h.2 l⟩
theorem Fits.d{p:Rat}{n:Nat}(h:Fits p n):((p.den:Int)).natAbs<2^n:=by simpa using h.2
theorem Fits.lQ{t b:Int}{n:Nat}(hb:b≠0)(T:t.natAbs<2^n)(g:b.natAbs<2^n):Fits (Rat.divInt t b) n :=
 ⟨aS (ma hb) T,Nat.lt_of_le_of_lt (lY hb) g⟩
theorem dd{p q:Rat}{m n:Nat}(h:Fits p m)(k:Fits q n):((p.den:Int)*q.den).natAbs<2^(m+n):=Qy h.d k.d
theorem nn{p q:Rat}{m n:Nat}(h:Fits p m)(k:Fits q n):(p.num*q.num).natAbs<2^(m+n):=Qy h.1 k.1
theorem Fits.times{p q:Rat}{m n:Nat}(h:Fits p m)(k:Fits q n):Fits (p*q) (m+n):=by
 rw[<-V0];exact .lQ (XJ p q) (nn h k) (dd h k)
end FM
namespace FM
theorem jY(a b:Int):Int.gcd (if a<0 then -a else a) (if b<0 then -b else b)=Int.gcd a b:=by
 split<;>split<;>simp[Int.gcd_neg,Int.neg_gcd]
theorem abs_nonneg(a:Int):0<=(if a<0 then -a else a):=by split<;>lia
theorem lh{g a b:Int}(h:Int.gcd g 0=Int.gcd a b)(h0:0<=g):g=gi a b:=by
 unfold gi;rw[<-h,Int.gcd_zero_right]
 lia
theorem jW{g a b:Int}(h:Int.gcd g 0=Int.gcd a b):(if g<0 then -g else g)=gi a b:=by
 unfold gi;rw[<-h,Int.gcd_zero_right];split<;>lia
theorem fmod_nonneg{g l:Int}(T:l≠0)(h:0<=l):0<=g.fmod l:=Int.fmod_nonneg_of_pos g AS
end FM
namespace L2
open PySem PySem.Spec PyProof.Rows
structure Fn(K:As)(mg:Fa)(x:Str)(st:Stmt)(ps:MA)(f:Addr)(fd:IR):Prop where
 F:T6 K x x st f fd
 b:Binds K fd ps []
 m:mg x=some (.ref f)
section
variable{X:Cx}{k:Nat}{f:Addr}{fd:IR}{ps:MA}{sp:Sp}{x:Str}{st:Stmt}{p pos:Pos}{e:Expr}{es:Ov}{t:TA}
theorem Bs(T:Fn X.K X.mg x st ps f fd)(G:AH X.prog X.w X.K X.mg X.base Ah k f fd ps sp)(Y:DC k X.A)(hg:Gl X x)(ha:PA X ur t)
 (U:Id=false:=by decide)(Z:starEach ur X.env=MR::starEach es X.env:=by rfl)(g:(backTo pos SE).any cx=false:=by rfl) :
  PE X Iv (YN sp [] E0 t):=Xy G Y hg T.m T.F.kp T.b .nil oU ha U Z g
end
theorem Lc{t u:TS}{D:Ends}{σ:St}{H:Hp}(P:St->Hp->Prop)(U:∀nx:St->Hp->Prop,(∀g H',P g H'->nx g H')->t {D with nx:=nx} σ H)(T:∀g H',P g H'->u D g H'):fP t u D σ H:=U _ T
theorem XZ:2<=sizeLine:=by decide
theorem Ak{H:Hp}{p:Addr}(h:H p=none)(o:HO):AK H (upd H p o):=fun b u q=>by rw[AJ (AV q h)];exact q
def SameBut(l:Addr)(H H':Hp):Prop:=∀b o,b≠l->H b=some o->H' b=some o
theorem SameBut.of{l:Addr}{H H':Hp}(h:AK H H'):SameBut l H H':=fun b o _ q=>h b o q
theorem SameBut.trans{l:Addr}{H T g:Hp}(a:SameBut l H T)(b:SameBut l T g):SameBut l H g:=fun c o n h=>b c o n (a c o n h)
theorem SameBut.upd{l:Addr}{H:Hp}{o:HO}:SameBut l H (upd H l o):=fun b u n q=>by rw[AJ n];exact q
def KH(p:Rat):List V:=[.int p.num,.int (p.den:Int)]
def Rt(K:As)(H:Hp)(p:Rat)(v:V):Prop:=∃a,v=.ref a/\BI K H a (KH p)
theorem Rt.of{K:As}{H:Hp}{p:Rat}{a:Addr}(h:H a=some (.tup (KH p))):Rt K H p Mt:=⟨a,rfl,.of h⟩
def Aj(p:Rat):PyData:=.tuple [.int p.num,.int (p.den:Int)]
theorem OB{i j:Int}{m n:Nat}(T:i.natAbs<2^m)(g:j.natAbs<2^n)(h:m+n<=1000000):QH i j\/ND i j :=
 .inr ⟨m+n,h,FM.PD T (Nat.le_add_right _ _),FM.PD g (Nat.le_add_left _ _)⟩
theorem Ci.get{P:Io}{w:Mw}{H:Hp}{h:Heap}{a:Addr}{o:HO}(x:Ci P w H h a o):∃u,h.get? a=some u:=by
 cases o with
 |lst xs=>obtain⟨_,_,_,_,e⟩:=x;exact⟨_,e⟩
 |tup xs=>obtain⟨_,_,_,o,e,_⟩:=x;exact⟨o,e⟩
 |dK kvs=>obtain⟨_,_,_,_,o,_,_,e,_⟩:=x;exact⟨o,e⟩
 |dT kvs=>obtain⟨_,_,_,_,o,_,_,e,_⟩:=x;exact⟨o,e⟩
 |set S n=>obtain⟨o,_,_,_,e,_⟩:=x;exact⟨o,e⟩
 |ins C dx fs=>obtain⟨_,_,_,e,_⟩:=x;exact⟨_,e⟩
 |own y=>obtain⟨o,e⟩:=x;exact⟨o,e⟩
 |xd fs=>obtain⟨_,⟨o,_,_,e,_⟩,_⟩:=x;exact⟨o,e⟩
 |gG lo hi=>obtain⟨_,_,_,e⟩:=x;exact⟨_,e⟩
 |GN ob u=>obtain⟨e,_⟩:=x;exact⟨_,e⟩
 |Pc ps=>exact⟨_,(show h.get? a=some _ from x)⟩
 |met f y=>exact⟨_,(show h.get? a=some _ from x)⟩
 |ext φ=>obtain⟨_,⟨o,e⟩,_⟩:=x;exact⟨o,e⟩
structure Ym(P:Io)(w:Mw)(outer:List Env)(H:Hp)(s:IN)(ea:Addr)(cls a0:Nh)(H':Hp)(s':IN)(B:Heap):Prop where
 os:s'.os=s.os
 bare:AllBare s'.gens
 oK:Heap.FlyingW B outer ea cls a0 s'.heap
 keep:∀b o,s.heap.get? b=some o->H b=none->b ∉ Gq outer->B.get? b=some o
 there:∀b o,s.heap.get? b=some o->b ∉ Gq outer->∃o',B.get? b=some o'
 slot:∀b o,s.heap.get? b=some o->b∈Gq outer->∃sl,s'.heap.get? b=some {o with slots:=sl}
 free:∀b o,s.heap.get? b=some o->H b=none->H' b=none
 BL:∀b xs,H b=some Op->H' b=some Op
 GY:∀b o u,H b=some (.GN o u)->H' b=some (.GN o u)
 Hi:∀b ps,H b=some (.Pc ps)->∃more,H' b=some (.Pc (ps++more))
 Hd:∀b xs o,H b=some Op->s.heap.get? b=some o->B.get? b=some o
 Av:Eo P w H' B
 new:s.heap.get? ea=none
def CK(P:Io)(w:Mw):Ho:=fun outer H s E e s'=>∃ea cls a0 H' B,e=.ref ea/\Ym P w outer H s ea cls a0 H' s' B/\E cls none H'
theorem QO{base h:Heap}{l:List Env}(F:h.FunFrames base l){b:Addr}(hb:b∈Gq l):∃o,h.get? b=some o/\∀vs,o.data≠.fields vs:=(F.mem hb).2
section
variable{P:Io}{w:Mw}{K:As}{mg:Fa}{base:Heap}{N:MA}{qual:Str}{scope:Scope}{f:Addr}{cd:Nh}{A:Re}{outer:List Env}{s:IN}{H:Hp}{E:XK}
theorem i5{pins:Da}{σ:St}{Z:Hp}{s1:IN}{h':Heap}{ea:Addr}{cls:Nh}{args:FS}(I:Inv (Cp ce P w K mg base N qual scope f cd A outer s H E) pins σ Z s1)
 (hx:Heap.MadeExcOf s1.heap h' ea cls args)(hE:E cls none Z):(Cp ce P w K mg base N qual scope f cd A outer s H E).xe (.ref ea) {s1 with heap:=h'}:=by
 show wpAny (model P w) (A.deeper PZ) (leaving PZ (.ref ea)) _ _ _;have FF:=I.stack;have hfr:(A.deeper PZ).frames=some (envOfC qual scope s.heap.objs.size f cd::outer):=I.ok.frames;have hin:∀env∈(envOfC qual scope s.heap.objs.size f cd::outer),∀b,env.frame=some b->b∈(envOfC qual scope s.heap.objs.size f cd::outer).filterMap (·.frame):=fun env he b hb=>List.mem_filterMap.mpr ⟨env,he,hb⟩;have T:∀b o,s.heap.get? b=some o->b≠s.heap.objs.size:=fun b o e=>aJ (aG e);have out:∀b,b≠s.heap.objs.size->b ∉ Gq outer->b ∉ (envOfC qual scope s.heap.objs.size f cd::outer).filterMap (·.frame):=fun b h1 h2 hm=>by
  rcases aO.mp (I.Oj b hm) with z|z
  .exact h1 z
  .exact h2 z
 have g:∀b u,Z b=some u->b ∉ (envOfC qual scope s.heap.objs.size f cd::outer).filterMap (·.frame):=fun b u e hm=>by
  have:=I.S6 b hm;rw[e]at this;cases this
 refine wpAny_leaves_madeW (base:=PySem.W.hideAll s1.heap ((envOfC qual scope s.heap.objs.size f cd::outer).filterMap (·.frame))) hfr rfl (fun b o q=>PySem.W.of_hideAll _ q) (PySem.W.funFrames_hide FF hin) hx fun h2 t fl _ _ up=>?_;have Y:Eo P w Z (PySem.W.hideAll s1.heap ((envOfC qual scope s.heap.objs.size f cd::outer).filterMap (·.frame))):=fun b u e=>
  (I.Av b u e).Hf (fun c v hc q=>PySem.W.hideAll_get _ q (by
   rcases hc with rfl|hc
   .exact g _ _ e
   .exact g _ _ hc)) (fun _ q=>q) fun _ _ q=>q
 refine⟨ea,cls,.ref t,Z,_,rfl,⟨I.os,I.bare,fl,fun b o e n hb=>?_,fun b o e hb=>?_,fun b o e hb=>?_,fun b o e n=>I.base.free b o e n uD,I.base.BL,I.base.GY,I.base.Hi,fun b xs o q e=>PySem.W.hideAll_get _ (I.base.Hd b xs o q e uD) (g b _ (I.base.BL b xs q)),Y,?_⟩,hE⟩
 .exact PySem.W.hideAll_get _ (I.base.keep b o e n hb uD) (out b (T b o e) hb)
 .obtain⟨o',U⟩:=I.base.there b o e uD;exact⟨o',PySem.W.hideAll_get _ U (out b (T b o e) hb)⟩
 .obtain⟨sl,U⟩:=I.base.slot b o e (I.ok.Qv b hb) hb uD;obtain⟨o',e2,hd⟩:=QO I.Il hb;rw[U]at e2;cases e2;obtain⟨sl',e3⟩:=up b _ (hx.keeps _ _ U) hd;exact⟨sl',e3⟩
 .cases q:s.heap.get? ea with
  |none=>rfl
  |some o=>
   obtain⟨o',U⟩:=I.base.there ea o q uD;have:=hx.new;rw[U]at this;cases this
theorem o8{E':XK}(hE:∀c a H',E' c a H'->E c a H'):Passes ce (Cp ce P w K mg base N qual scope f cd A outer s H E) E':=by
 intro pins σ H1 s1 e s2 I ⟨ea,cls,a0,H2,B,ee,F,hq⟩;subst ee;show wpAny (model P w) (A.deeper PZ) (leaving PZ (.ref ea)) _ _ _;have T:∀b o,s.heap.get? b=some o->b≠s.heap.objs.size:=fun b o e=>aJ (aG e);have out:∀b,b≠s.heap.objs.size->b ∉ Gq outer->b ∉ Gq (Cp ce P w K mg base N qual scope f cd A outer s H E).stack:=fun b h1 h2 hm=>by
  rcases aO.mp (I.Oj b hm) with z|z
  .exact h1 z
  .exact h2 z
 refine wpAny_leaves_onW I.ok.frames rfl F.oK fun h3 fl up=>?_;refine⟨ea,cls,a0,H2,B,rfl,⟨F.os.trans I.os,F.bare,fl,fun b o e n hb=>?_,fun b o e hb=>?_,fun b o e hb=>?_,fun b o e n=>?_,fun b xs q=>F.BL b xs (I.base.BL b xs q),fun b o u q=>F.GY b o u (I.base.GY b o u q),fun b ps q=>?_,fun b xs o q e=>F.Hd b xs o (I.base.BL b xs q) (I.base.Hd b xs o q e uD),F.Av,?_⟩,hE _ _ _ hq⟩
 .exact F.keep b o (I.base.keep b o e n hb uD) (I.base.free b o e n uD) (out b (T b o e) hb)
 .obtain⟨o',g⟩:=I.base.there b o e uD;exact F.there b o' g (out b (T b o e) hb)
 .obtain⟨sl,g⟩:=I.base.slot b o e (I.ok.Qv b hb) hb uD;have Y:b∈Gq (Cp ce P w K mg base N qual scope f cd A outer s H E).stack:=by
   show b∈Gq (envOfC qual scope s.heap.objs.size f cd::outer);unfold Gq;rw[List.filterMap_cons];exact aT _ hb
  obtain⟨sl2,Z⟩:=F.slot b _ g Y;obtain⟨o',e3,hd⟩:=QO I.Il hb;rw[g]at e3;cases e3;obtain⟨U,e4⟩:=up b _ Z hd;exact⟨U,e4⟩
 .obtain⟨o',g⟩:=I.base.there b o e uD;exact F.free b o' g (I.base.free b o e n uD)
 .obtain⟨m1,g⟩:=I.base.Hi b ps q;obtain⟨m2,Z⟩:=F.Hi b _ g;exact⟨m1++m2,by rw[Z,Array.append_assoc]⟩
 .cases q:s.heap.get? ea with
  |none=>rfl
  |some o=>
   obtain⟨o',g⟩:=I.base.there ea o q uD;have:=F.new;rw[g]at this;cases this
theorem T6.tK{x:Str}{st:Stmt}{fd:IR}{ps:MA}{k:Nat}{sp:Sp}(F:T6 K x x st f fd)(S:Ag N ps (AL st))(len:∀vs H Q E,sp vs H Q E->vs.length=ps.length)
 (g:∀(cdv:Nh) (A:Re) (outer:List Env) (s:IN) (H:Hp) (vs:HQ) (Q:VK) (E:XK),DC k (A.deeper (envOfC x (AL st) s.heap.objs.size f cdv))->sp vs H Q E ->
   ∃t,Ie (Cp ce P w K mg base N x (AL st) f cdv A outer s H E) (EE st) t/\t { nx:=fun _ H'=>Q .Bp H',rt:=Q} (start N vs) H):AH P w K mg base ce oF f fd ps sp:=by
 obtain⟨oc,od,kV,doc,pm,an,cdv,ct,osl,rfl,lk,U⟩:=F.ex;exact fi lk U S len fun A outer s H vs Q E Y T=>g cdv A outer s H vs Q E Y T
end
structure Exc(K:As)(mg:Fa)(x:Str)(C:Addr):Prop where
 m:mg x=some Pi
 q:PySem.W.excIn K C [.type "ValueError",.type "Exception",.type "BaseException",.type "object"] "ValueError.__new__" = true
theorem iw{K:As}{h:Heap}{C:Addr}{bB:FS}{T:String}(P0:K.In h)(g:PySem.W.excIn K C bB T=true) :
  ∃U N nm Z bs hd sn sub ab col dd k0 k1 k2 k3 k5 mN,h.get? C=some (excClassObj nm Z C N bs U hd sn sub ab col dd k0 k1 k2 k3 k5 T)/\h.Ns N mN/\mN "__init__" = none/\OwnTail h bB U:=by
 unfold PySem.W.excIn at g;split at g
 .rename_i dd cd sl lk;split at g
  .rename_i C1 U k0 k1 k2 k3 n1 k5 e1 e2;simp only[Bool.and_eq_true,beq_iff_eq,Bool.not_eq_true']at g;obtain⟨⟨⟨⟨⟨y1,y2⟩,y3⟩,y4⟩,Y⟩,y6⟩:=g;subst y1 y2;obtain⟨nm,bs,mro,N,Z,hd,sn,sub,ab,col,del⟩:=cd;dsimp only at e1 y3 Y y6;subst e1 y3;have e3:sl=#[k0,k1,k2,k3,some (.builtin n1),k5]:=by
    cases sl with
    |mk l=>simp only at e2;rw[e2]
   subst e3;exact⟨U,N,nm,Z,bs,hd,sn,sub,ab,col,dd,k0,k1,k2,k3,k5,_,P0 _ _ lk,.of_isNs (PySem.W.isNs_of_in P0 Y),PySem.W.nsMap_none_of_in P0 Y y6,PySem.W.tail_of_in P0 y4⟩
  .cases g
 .cases g
section
variable{X:Cx}{x:Str}{C:Addr}{np cpos pos:Pos}{e:Expr}{te:TE}{E:XK}
def Lets(X:Cx)(E:XK):Prop:=∀(pins:Da) (σ:St) (H:Hp) (s:IN) (h':Heap) (ea:Addr) (cls:Nh) (args:FS),Inv X pins σ H s->Heap.MadeExcOf s.heap h' ea cls args->E cls none H->X.xe (.ref ea) Pz
def mG(C:Addr)(E:XK)(te:TE):TS:=fun _ σ H=>te σ H fun _ g=>E Pi none g
theorem eC(T:Exc X.K X.mg x C)(hL:Lets X E)(U:oN)(hg:Gl X x)(he:PE X e te)(hd:Id=false:=by decide)
 (Y:starEach [e] X.env=[MR]:=by rfl):PS X (.Raise (some (.Call tj [e] [] cpos)) none pos) (mG C E te):=by
 intro pins s σ H D I h;obtain⟨tl,N,nm,qn,bs,g,sn,sub,ab,col,dd,k0,k1,k2,k3,k5,mN,hC,hN,hni,TL⟩:=iw I.ok.mod.P0 T.q;refine wpAny_Raise_call_subT (C:=C) (nm:=nm) (q:=qn) (N:=N) (bs:=bs) (bm:=tl) (hdct:=g) (sn:=sn) (sub:=sub) (ab:=ab) (col:=col) (dd:=dd) (k0:=k0) (k1:=k1) (k2:=k2) (k3:=k3) (k5:=k5)
  PySem.F.excBase_ValueError (mN:=mN) (TL.hasType BY) (I.ok.hd U) (by rw[Y];rfl) hni (Kq I hg T.m ⟨rfl,?_⟩ hd)
 rw[Y];refine Calls.evalArgs_plain (Calls.spliced_cons (BU (he pins s σ H _ I h) fun u s1 ⟨v,H1,Z,r1,q1⟩=>Calls.spliced_nil ?_));exact⟨rfl,by show 1<=sizeLine;decide,Z.bk _ _ hC,hN.keeps Z.bk,TL.keeps Z.bk,fun h' ea hm=>hL pins σ H1 s1 h' ea _ _ Z hm q1⟩
end
def Us(X:Cx)(pins:Da)(σ:St)(E:XK)(e:Nh)(s':IN):Prop:=∃H0 s0,Inv X pins σ H0 s0/\CK X.prog X.w X.stack H0 s0 E e s'
abbrev TX:=St->Hp->VK->XK->Prop
def qU(X:Cx)(e:Expr)(t:TX):Prop :=
 ∀(pins:Da) (s:IN) (σ:St) (H:Hp) (Q:VK) (E:XK),Inv X pins σ H s->t σ H Q E->wpAny EQ X.A (eval e X.env) l7 (Us X pins σ E) s
section
variable{X:Cx}{k:Nat}{f:Addr}{fd:IR}{ps:MA}{sp:Sp}{x:Str}{st:Stmt}{p pos:Pos}{e:Expr}{es:Ov}{t:TA}
def mQ(sp:Sp)(t:TA):TX:=fun σ H Q E=>t σ H fun vs g=>sp (vs++[]) g Q E
theorem iX{pins:Da}{σ:St}{H:Hp}{s:IN}{Q:VK}{E:XK}{us:FS}{vs:HQ}(F:AH X.prog X.w X.K X.mg X.base (CK X.prog X.w) k f fd ps sp)(U:DC k X.A)(hb:Binds X.K fd ps [])
 (I:Db)(r:Vals vs us)(h:sp (vs++[]) H Q E):wpAny EQ X.A (call (.ref f) us) l7 (Us X pins σ E) s:=by
 rw[List.append_nil]at h;have Y:(us++[]).length=ps.length:=by rw[List.append_nil,<-r.length];exact F.len _ _ _ _ h
 have T:=hb s us I.HU Y;rw[List.append_nil]at T;refine wpAny_call (codeAny_mono (F.run X.A X.stack s H ⟨us,[]⟩ us vs Q E U I.lZ T r h) fun r s' g=>?_);cases r with
 |error e=>exact⟨H,s,I,g⟩
 |ok Z=>
  cases Z with
  |ret u=>exact I.after g
  |next=>exact False.elim g
  |brk=>exact False.elim g
  |cont=>exact False.elim g
theorem kQ(T:Fn X.K X.mg x st ps f fd)(G:AH X.prog X.w X.K X.mg X.base (CK X.prog X.w) k f fd ps sp)(Z:DC k X.A)(hg:Gl X x)(ha:PA X.JL ur t)
 (U:Id=false:=by decide)(he:starEach ur X.env=MR::starEach es X.env:=by rfl)(g:(backTo pos SE).any cx=false:=by rfl) :
  qU X Iv (mQ sp t):=by
 intro pins s σ H Q E I h;refine wpAny_Call_Name_kw (Kq I hg T.m ?_ U);refine PySem.W.callWith_K (h₀:=X.base) I.ok.mod.P0 T.F.kp (aX (ha pos pins s σ H _ (I.He _) h) (fun us s1 ⟨vs,H1,Y,r,q⟩=>⟨Y.HU,?_⟩) fun _ _ z=>z.elim) he g;exact iX G Z T.b Y.EZ r q
end
theorem land{X:Cx}{pins:Da}{σ:St}{H0 H':Hp}{s0 s':IN}{ea:Addr}{cls a0:Nh}{B:Heap}(I:Inv X pins σ H0 s0)(F:Ym X.prog X.w X.stack H0 s0 ea cls a0 H' s' B)
 {h':Heap}{tk:Nat}(st:B.StaysIn h')(up:s'.heap.UpToSlots h'):Inv X pins σ H' { s' with heap:=h',toks:=tk}:=by
 have g:∀b o,s0.heap.get? b=some o->b∈Gq X.stack->∃sl,h'.get? b=some {o with slots:=sl}:=fun b o e hb=>by
  obtain⟨sl,T⟩:=F.slot b o e hb;obtain⟨o',Y,hd⟩:=QO I.stack hb;rw[e]at Y;cases Y;obtain⟨U,Z⟩:=up b _ T hd;exact⟨U,Z⟩
 refine I.gU (s':={ s' with heap:=h',toks:=tk}) (ch:=[]) F.os ⟨fun b o e n hb _=>st b o (F.keep b o e n hb),fun b o e n hb _=>g b o e hb,fun b o e n _=>F.free b o e n,fun b o e _=>?_,F.BL,F.GY,F.Hi,fun b xs o q e _=>st b o (F.Hd b xs o q e)⟩ (F.Av.kept st) F.bare fun b z=>absurd z Ch;by_cases hb:b∈Gq X.stack
 .obtain⟨sl,T⟩:=g b o e hb;exact⟨_,T⟩
 .obtain⟨o',T⟩:=F.there b o e hb;exact⟨o',st _ _ T⟩
def NC(ea:Addr)(cls:Nh):HO:=.ext fun h=>∃o vs,h.get? ea=some o/\o.cls=cls/\o.data=.fields vs
theorem oy{X:Cx}{pins:Da}{σ:St}{H0 H':Hp}{s0 s' Y:IN}{ea:Addr}{cls a0:Nh}{B:Heap}(I:Inv X pins σ H0 s0)(F:Ym X.prog X.w X.stack H0 s0 ea cls a0 H' s' B)
 (g:Inv X pins σ H' Y)(ho:∃o vs,Y.heap.get? ea=some o/\o.cls=cls/\o.data=.fields vs):H' ea=none/\Inv X pins σ (upd H' ea (NC ea cls)) Y:=by
 have hn:H' ea=none:=by
  cases q:H' ea with
  |none=>rfl
  |some u=>
   obtain⟨o,e⟩:=(F.Av ea u q).get;rw[F.oK.2.1]at e;cases e
 have ne:∀b o,s0.heap.get? b=some o->b≠ea:=fun b o e z=>by rw[z,F.new]at e;cases e
 have up:∀b,b≠ea->upd H' ea (NC ea cls) b=H' b:=fun b z=>AJ z;have neT:∀b u,H' b=some u->b≠ea:=fun b u e z=>by rw[z,hn]at e;cases e
 refine⟨hn,g.ok,g.os,g.bare,⟨g.base.keep,g.base.slot,fun b o e n hx=>?_,g.base.there,fun b xs e=>?_,fun b o u e=>?_,fun b ps e=>?_,g.base.Hd⟩,g.loc,g.cell,?_,fun y c e=>?_,fun p hp=>?_,fun b u e=>?_,g.len⟩
 .obtain⟨o',T⟩:=I.base.there b o e hx;rw[up b (ne b o' T)];exact g.base.free b o e n hx
 .have:=g.base.BL b xs e;rw[up b (neT _ _ this)];exact this
 .have:=g.base.GY b o u e;rw[up b (neT _ _ this)];exact this
 .obtain⟨m,T⟩:=g.base.Hi b ps e;exact⟨m,by rw[up b (neT _ _ T)];exact T⟩
 .obtain⟨m,⟨o,_,_,e,_⟩,_⟩:=I.loc;rw[up _ (ne _ o e)];exact g.free
 .obtain⟨v,o,T,_⟩:=I.cell y c e;rw[up _ (ne _ o T)];exact g.Gn y c e
 .obtain⟨T,e2,Z⟩:=g.pin p hp;have e0:=(I.pin p hp).1;exact⟨T,by rw[up _ (ne _ _ e0)];exact e2,Z⟩
 .by_cases hb:b=ea
  .subst hb;rw[AR]at e;cases e;obtain⟨o,vs,T,e2,Z⟩:=ho;exact⟨⟨o,vs,T,e2,Z⟩,⟨o,T⟩,fun h1 h2 ⟨o1,U,q1,q2⟩ k=>⟨o1,U,k _ q1,q2⟩⟩
  .rw[up b hb]at e;exact(g.Av b u e).Hf (fun c v _ q=>q) (fun c q=>by rw[up c (neT _ _ q)];exact q) fun c xs q=>by rw[up c (neT _ _ q)];exact q
structure HD(K:As)(C G:Addr)(b:Bool):Prop where
 cl:(PySem.W.clsIn K G).isSome=true
 ty:PySem.W.typeIn K (.ref G)=some tO
 ex:PySem.W.subIn K (.ref G) OF=some true
 sub:PySem.W.subIn K Pi (.ref G)=some b
theorem V8{M:Model}{A:Re}{E:AT}{s:IN}{K:As}{e C G:Addr}{T:Obj}{b:Bool}{Q:jp}(X:K.In s.heap)(he:s.heap.get? e=some T)(hc:T.cls=.ref C)(B:HD K C G b)
 (h:Q b s):wpAny M A (excMatches (.ref e) (.ref G)) Q E s:=by
 have l1:PySem.W.Looks M s.heap (isInstance (.ref G) IF) false:=(PySem.W.looks_typeIn X B.ty).andThen (PySem.W.Looks.of_pure tc_notTuple);have l2:PySem.W.Looks M s.heap (isType (.ref G)) true:=by
  have z:=B.cl;unfold PySem.W.clsIn at z;split at z
  .rename_i c' d' cd' U ho;intro A' Q' E' s' k q;unfold isType loadHead;exact aA (wpAny_loadPart (k _ _ (X _ _ ho)) (aB q))
  .cases z
 have l3:PySem.W.Looks M s.heap (isSubtype (.ref G) OF) true:=PySem.W.looks_subIn X B.ex;have Z:PySem.W.Looks M s.heap (typeOf (.ref e)) Pi:=hc ▸ (PySem.W.Looks.ld he).andThen .now
 have Y:PySem.W.Looks M s.heap (isSubtype Pi (.ref G)) b:=PySem.W.looks_subIn X B.sub;obtain⟨hp,g,d,tk,os⟩:=s;unfold excMatches isExcClass;refine aA (l1.at ?_);simp only[Bool.false_eq_true,if_false];refine aA ge;simp only[List.forIn_cons,List.forIn_nil];refine aA (aA (aA (aA (l2.at ?_))));simp only[if_true];refine l3.at ?_;simp only[Bool.not_true,Bool.false_eq_true,if_false];refine aB (aB (aA (Z.at (aA (aA (aA (Y.at ?_)))))));cases b with
 |true=>
  simp only[if_true];exact aB (aB (aB h))
 |false=>
  simp only[Bool.false_eq_true,if_false];exact aB (aB (aB h))
def Cx.held(X:Cx)(ea:Addr):Cx:={X with A:=X.A.mark (some (.ref ea)),calm:=false,xe:=fun _ _=>False}
theorem Inv.held{X:Cx}{pins:Da}{σ:St}{H:Hp}{s:IN}(I:Db)(ea:Addr):Inv (X.held ea) pins σ H s :=
 ⟨⟨I.ok.mod,I.ok.kind,I.ok.glob,I.ok.blt,I.ok.above,I.ok.inj,I.ok.has,I.ok.WM,fun z=>(by cases z),I.ok.frames,I.ok.dM,I.ok.lS,I.ok.bs,I.ok.Rm,I.ok.SV,I.ok.Sx,I.ok.Il,I.ok.Qv,I.ok.kt⟩,I.os,I.bare,I.base,I.loc,I.cell,I.free,I.Gn,I.pin,I.Av,I.len⟩
theorem Inv.oB{X:Cx}{pins:Da}{σ:St}{H:Hp}{s:IN}{ea:Addr}(ok:X.Ok)(I:Inv (X.held ea) pins σ H s):Inv X pins σ H s :=
 ⟨ok,I.os,I.bare,I.base,I.loc,I.cell,I.free,I.Gn,I.pin,I.Av,I.len⟩
theorem rj{X:Cx}{pins:Da}{σ:St}{H:Hp}{s:IN}{M:Model}{A:Re}{E:AT}{i:Nat}{n:Str}{pos:Pos}{Q:Unit->Shared->Prop}(I:Db)(hN:X.N.Nodup)(hi:X.N[i]? = some n)
 (hl:X.env.scope.names.lookup n=some .local)(h:∀s',Inv X pins (σ.set i none) H s'->Q () s'):wpAny M A (do bindName X.env n .none;unbindBehindTheSuite X.env n pos) Q E s:=by
 obtain⟨m,hn,hlk⟩:=id I.loc;have Z:(X.env.scope.kind==.class||(X.env.scope.kind==.module&&X.env.locals != X.env.globals))=false:=by rw[I.ok.kind];rfl
 refine wpAny_nameGoes_keeps hl hn Z fun h' v hn' g=>h _ ?_;have hiS:i<σ.length:=by rw[I.len];exact(aE.mp hi).1
 obtain⟨oL,_,_,hoL,_⟩:=id hn;have tr:Eo X.prog X.w H h':=fun b ob e=>(I.Av b ob e).Hf (fun c w' U q=>(g.2 c (by
  rintro rfl;rcases U with U|U
  .rw[<-U,I.free]at e;cases e
  .rw[I.free]at U;cases U)).trans q) (fun _ q=>q) fun _ _ q=>q
 refine⟨I.ok,I.os,I.bare,⟨fun b o e n hb T=>?_,fun b o e n hb T=>?_,I.base.free,fun b o e T=>?_,I.base.BL,I.base.GY,I.base.Hi,fun b xs o q e T=>(g.2 b nw).trans (I.base.Hd b xs o q e T)⟩,⟨_,hn',fun j y v' Y e2 e3=>?_⟩,fun y c e=>?_,I.free,I.Gn,fun p hp=>?_,tr,by simpa using I.len⟩
 .exact(g.2 b nw).trans (I.base.keep b o e n hb T)
 .obtain⟨sl,Y⟩:=I.base.slot b o e n hb T;exact⟨sl,(g.2 b nw).trans Y⟩
 .obtain⟨o',Y⟩:=I.base.there b o e T;exact⟨o',(g.2 b nw).trans Y⟩
 .by_cases hj:j=i
  .subst hj;rw[List.getElem?_set_self hiS]at e2;cases e2
  .rw[List.getElem?_set_ne (Ne.symm hj)]at e2;obtain⟨u',r',q⟩:=hlk j y v' Y e2 e3;refine⟨u',r',?_⟩;rcases q with ⟨k,e⟩|⟨k,c,e,z⟩
   .refine .inl ⟨k,?_⟩;have:y≠n:=fun e=>hj (QP hN Y (e ▸ hi));simp[this,e]
   .exact .inr ⟨k,c,e,z.sameBut g (I.RE y c e)⟩
 .obtain⟨w',z⟩:=I.cell y c e;exact⟨w',z.sameBut g (I.RE y c e)⟩
 .obtain⟨e,n',ne,nf,d⟩:=I.pin p hp;exact⟨(g.2 p.1 ne).trans e,n',ne,nf,d⟩
open PySem PySem.Spec PyProof.Rows PySem.Builtin.ObjectAttr PySem.Builtin.Getset_descriptor
structure D0(K:As)(C:Addr):Prop where
 cl:(PySem.W.clsIn K C).isSome=true
 ga:PySem.W.findIn K Pi "__getattribute__" = some (some (.builtin "BaseException.__getattribute__"))
 gh:PySem.W.findIn K Pi "__getattr__" = some none
 at_:PySem.W.findIn K Pi "__class__" = some (some bn)
 gt:PySem.W.specialIn K bn "__get__" = some (some mo)
 tk:PySem.W.takesIn K bn=some true
 ob:PySem.W.mroIn K C iS=some true
 be:PySem.W.mroIn K C OF=some true
def excAt(x C:Addr)(h:Heap):Prop:=∃o vs,h.get? x=some o/\o.cls=.ref C/\o.data=.fields vs
theorem excAt.ty{x C:Addr}{h:Heap}(p:excAt x C h)(M:Model):PySem.W.Looks M h (typeOf (.ref x)) Pi:=by
 obtain⟨o,_,e,c,_⟩:=p;exact c ▸ (PySem.W.Looks.ld e).andThen .now
theorem eP{K:As}{C:Addr}{h:Heap}(X:K.In h)(z:(PySem.W.clsIn K C).isSome=true)(M:Model):PySem.W.Looks M h (isType Pi) true:=by
 unfold PySem.W.clsIn at z;split at z
 .rename_i Z Y U g T;intro A' Q' E' s' k q;exact aA (wpAny_loadPart (k _ _ (X _ _ T)) (aB q))
 .cases z
section
variable{prog:Io}{w:Mw}{A:Re}{E:AT}{K:As}{x C:Addr}{h:Heap}{g:Array GenState}{d:Drawn}{t:Nat}{os:OsState}
theorem eY(X:K.In h)(F:D0 K C)(M:Model):PySem.W.Looks M h (find (.ref x) Pi "__class__") (.bind mo bn):=by
 have a1:=PySem.W.looks_findIn (M:=M) X F.at_;have a2:PySem.W.Looks M h (getOf (some bn)) (some mo):=PySem.W.looks_specialIn X F.gt;have a3:=PySem.W.looks_takesIn (M:=M) X F.tk;exact a1.andThen (a2.andThen ((show PySem.W.Looks M h (dataDescriptor? (some bn) (some mo)) (some (.builtin "getset_descriptor.__get__",.builtin "object.__class__")) from a3.andThen .now).andThen (PySem.W.Looks.tag .now)))
theorem jM{T:Nh}{R:Result->Shared->Prop}(X:K.In h)(F:D0 K C)(p:excAt x C h)(U:R (.ok (.ret Pi)) ⟨h,g,d,t,os⟩) :
  codeAny At A (.call mo ⟨[.builtin "object.__class__",.ref x,T],[]⟩) R ⟨h,g,d,t,os⟩:=by
 have b0:=p.ty At;have b1:=PySem.W.looks_mroIn (M:=model prog w) X F.ob;refine codeAny_call_builtin PySem.W.KF.slot_gs.plain PySem.W.KF.entry_gs ?_;refine PySem.W.KF.slot_gs.check _ _ _ _ _ _ _ _ PySem.W.KF.type_class (PySem.W.KF.args_gs _ _ _) ?_;unfold Builtin.«getset_descriptor.__get__» descrGet;rw[PySem.W.dga_obj];refine aA ge;unfold descrGetter descrCheckInstance descrNameAndClass isInstance;simp only[PySem.W.KF.owner_class]
 repeat lk
 refine⟨Code.quiet_builtin _ am,codeAny_builtin PySem.W.KF.entry_class ?_⟩;unfold Builtin.«object.__class__» shownTypeOf
 repeat lk
 exact U
theorem cF{tk:Tok}{Q:Fin->Shared->Prop}(X:K.In h)(F:D0 K C)(p:excAt x C h)(T:Q (.done (.ret Pi)) ⟨h,g,d,t,os⟩) :
  wpAny At A (Builtin.«object.__getattribute__» ⟨[.ref x,.str "__class__" tk],[]⟩) Q E ⟨h,g,d,t,os⟩:=by
 have b0:=p.ty At;have b1:=eY (x:=x) X F At;unfold Builtin.«object.__getattribute__»
 repeat lk
 refine wpAny_run (jM X F p ?_);exact aB (aB T)
theorem cj{T:Nh}{Q:Unit->Shared->Prop}(X:K.In h)(F:D0 K C)(p:excAt x C h)(U:Q () ⟨h,g,d,t,os⟩) :
  wpAny At A (checkBuiltinCall "BaseException.__getattribute__" ⟨[.ref x,T],[]⟩) Q E ⟨h,g,d,t,os⟩:=by
 have Z:builtinKind "BaseException.__getattribute__" = some .slot:=by decide +kernel
 have Y:splitId "BaseException.__getattribute__" = some ("BaseException","__getattribute__"):=by decide +kernel
 have c3:=PySem.F.args_bexc_ga (.ref x) T;have b0:=p.ty At;have b1:=PySem.W.looks_mroIn (M:=model prog w) X F.be;simp only[checkBuiltinCall,Z,Y];refine aA ?_;unfold isInstance
 repeat lk
 exact U
theorem a6{Q:Of}(X:K.In h)(F:D0 K C)(p:excAt x C h)(T:Q (some Pi) ⟨h,g,d,t+1,os⟩) :
  wpAny At A (getAttr? (.ref x) "__class__") Q E ⟨h,g,d,t,os⟩:=by
 have b0:=p.ty At;have b1:=PySem.W.looks_findIn (M:=model prog w) X F.ga;have b2:=PySem.W.looks_findIn (M:=model prog w) X F.gh;unfold getAttr? getAttrBy? getAttrBy;refine aA (wpAny_mkText (aA (bW (aR (aA (b0.at (aA (b1.at ?_))))))));have U:(Value.builtin "BaseException.__getattribute__" == Value.builtin "object.__getattribute__")=false:=by decide +kernel
 have Y:¬((onTheHeap (Value.ref C)&&Value.builtin "BaseException.__getattribute__" == Value.builtin "object.__getattribute__")=true):=by rw[U,Bool.and_false];exact aN
 show wpAny _ _ (if(onTheHeap (Value.ref C)&&Value.builtin "BaseException.__getattribute__" == Value.builtin "object.__getattribute__")=true then _ else _) _ _ _;rw[if_neg Y];unfold getAttrByItsOwn;refine aA (show wpAny _ _ (typeLookup (Value.ref C) "__getattr__") _ _ _ from b2.at ?_);refine aA (bW (aR ?_));show wpAny _ _ (boundAndCalled _ _ _) _ _ _;unfold boundAndCalled;have f3:=(PySem.F.excAttr_ValueError).ga.bind (.ref x);refine aA (wpAny_of_eq f3 ?_);refine wpAny_call (codeAny_call_builtin (PySem.F.excAttr_ValueError).ga.plain PySem.F.entry_bexc_ga (cj X F p (cF X F p ?_)));exact aB (aB T)
end
theorem eB{K:As}{x C:Addr}(F:D0 K C):PySem.W.KitX K (.ref x) Pi (excAt x C) where
 ty:=fun M h _ p=>p.ty M
 it:=fun M h X _=>eP X F.cl M
 ne:=fun h tp dd its n sl X htp=>by
  have z:=F.cl;refine au.mpr fun q=>?_;have e:C=tp:=Value.ref.inj (beq_iff_eq.mp q);subst e;unfold PySem.W.clsIn at z;split at z
  .rename_i c' d' cd' sl' ho;have y:=(X _ _ ho).symm.trans htp;cases y
  .cases z
 ca:=fun {prog w A E Q s} X p k=>by
  obtain⟨h,g,d,t,os⟩:=s;exact a6 X F p k
def Dy:V->Value
 |.ref C=>.ref C
 |.ty n=>.type n
 |_=>.none
theorem XC{c:V}{u:Nh}(r:RelV c u)(h:Dy c≠.none):u=Dy c:=by
 cases c with
 |ref C=>exact r
 |ty n=>exact r
 |_=>exact absurd rfl h
section
variable{X:Cx}
def sJ(K:As):List V->Hp->VK->Prop:=fun xs H Q=>∃x c t b,xs=[x,c]/\Dy c≠.none/\II K H x t/\PySem.W.kitOne K t (Dy c)=some b/\Q (.bl b) H
theorem IJ:FO X (.builtin "isinstance") (sJ X.K):=by
 intro pins s σ H xs us Q I r h;obtain⟨x,c,t,b,rfl,U,ty,e,q⟩:=h;obtain⟨u,v,rfl,T,g⟩:=r.two;rw[XC g U];exact Zc I T ty e fun tk=>⟨.bl b,H,I.tok tk,rfl,q⟩
def oT(K:As):List V->Hp->VK->Prop:=fun xs H Q=>∃ea C c b,xs=[.ref ea,c]/\Dy c≠.none/\H ea=some (NC ea Pi)/\D0 K C/\PySem.W.kitOne K Pi (Dy c)=some b/\Q (.bl b) H
theorem Zz:FO X (.builtin "isinstance") (oT X.K):=by
 intro pins s σ H xs us Q I r h;obtain⟨ea,C,c,b,rfl,Y,U,F,e,q⟩:=h;obtain⟨u,v,rfl,T,g⟩:=r.two;rw[XC g Y];cases (show u=Value.ref ea from T);obtain⟨p,_,_⟩:=(show Ci X.prog X.w H s.heap ea (NC ea Pi) from I.Av ea _ U);exact bI (eB F) I.HU p e Lz fun tk=>⟨.bl b,H,I.tok tk,rfl,q⟩
end
theorem kX(K:As):PySem.W.kitOne K IF IF=some true:=rfl
theorem k8(K:As):PySem.W.kitOne K (.type "int") (.type "int")=some true:=rfl
theorem lA(K:As):PySem.W.kitOne K (.type "bool") (.type "bool")=some true:=rfl
theorem ni(K:As):PySem.W.kitOne K (.type "int") (.type "bool")=some false:=by kernel_rfl
theorem oJ(K:As):PySem.W.kitOne K (.type "bool") (.type "int")=some true:=by kernel_rfl
theorem nW(K:As):PySem.W.kitOne K me IF=some false:=by kernel_rfl
theorem nQ(K:As):PySem.W.kitOne K IF me=some false:=by kernel_rfl
theorem mE(K:As):PySem.W.kitOne K me me=some true:=rfl
theorem nU(K:As):PySem.W.kitOne K (.type "int") IF=some false:=by kernel_rfl
theorem ky(K:As):PySem.W.kitOne K (.type "bool") IF=some false:=by kernel_rfl
theorem j5(K:As):PySem.W.kitOne K (.type "NoneType") IF=some false:=by kernel_rfl
theorem oC(K:As):PySem.W.kitOne K (.type "str") IF=some false:=by kernel_rfl
theorem kx(K:As):PySem.W.kitOne K IF (.type "int")=some false:=by kernel_rfl
theorem kO(K:As):PySem.W.kitOne K me (.type "int")=some false:=by kernel_rfl
theorem lq(K:As):PySem.W.kitOne K (.type "NoneType") (.type "int")=some false:=by kernel_rfl
theorem lx(K:As):PySem.W.kitOne K (.type "str") (.type "int")=some false:=by kernel_rfl
theorem nO(K:As):PySem.W.kitOne K (.type "int") me=some false:=by kernel_rfl
theorem kq(K:As):PySem.W.kitOne K (.type "bool") me=some false:=by kernel_rfl
theorem kj(K:As):PySem.W.kitOne K (.type "NoneType") me=some false:=by kernel_rfl
theorem mw(K:As):PySem.W.kitOne K (.type "str") me=some false:=by kernel_rfl
def freeOk(g:Scope)(names:List (Str×NameKind)):Bool:=names.all fun y=>y.2 != .free||g.names.lookup y.1==some .cell||g.names.lookup y.1==some .free
theorem Ll{g:Scope}{names:List (Str×NameKind)}(h:freeOk g names=true):∀y∈names,y.2=.free->g.names.lookup y.1=some .cell\/g.names.lookup y.1=some .free:=fun y T U=>by
 have q:=ao.mp h y T;rw[U]at q;simp only[bne_self_eq_false,Bool.false_or,Bool.or_eq_true,beq_iff_eq]at q;exact q
def B0(scope:Scope)(N:MA)(x:Str)(ix:Nat):Bool :=
 scope.kind==.function&&(scope.names.all fun y=>y.2 != .cell&&(y.2 != .local||scope.names.lookup y.1==some .local)&&(y.2 != .free||scope.names.lookup y.1==some .free))&&scope.names.lookup x==some .local&&decide N.Nodup&&N[ix]? == some x
theorem Fl{scope:Scope}{N:MA}{x:Str}{ix:Nat}(h:B0 scope N x ix=true):D8 scope N x ix:=by
 unfold B0 at h;simp only[Bool.and_eq_true,beq_iff_eq,decide_eq_true_eq,List.all_eq_true,bne_iff_ne,Bool.or_eq_true]at h;obtain⟨⟨⟨⟨h1,U⟩,h3⟩,Z⟩,Y⟩:=h;exact⟨h1,fun y g=>(U y g).1.1,fun y g T=>(U y g).1.2.resolve_left fun z=>z T,fun y g T=>(U y g).2.resolve_left fun z=>z T,h3,Z,Y⟩
section
variable{X:Cx}{elt iter:Expr}{x:Str}{px pos:Pos}{ifs:Ov}{scope:Scope}{wi:TI}{tif:TT}{te:TE}
theorem FV(N:MA)(ix:Nat)(fr:LE)(hi:PI X (.Name x px) iter wi)(g:uX)(U:uZ)
 (h1:B0 scope N x ix=true:=by decide +kernel)(h2:X.calm=true:=by rfl)(h3:F0 N X.N scope X.env.scope fr 0=true:=by rfl)(Z:fr.length=N.length:=by rfl)(Y:freeOk X.env.scope scope.names=true:=by rfl)
 (T:∀x,foldedSetIterable iter X.env x=pure x:=by intro _;rfl):PE X Ix (PF wi fr ix tif te) :=
 jo (Fl h1) h2 h3 Z (Ll Y) hi g U T
theorem Pr{i:Nat}{y:Str}{Z g:Pos}(N:MA)(ix:Nat)(fr:LE)(hN:X.N.Nodup)(hy:X.N[i]? = some y)(U:X.env.scope.names.lookup y=some .local)
 (hi:PI X (.Name x px) iter wi)(Y:uX)(he:uZ)
 (h1:B0 scope N x ix=true:=by decide +kernel)(h2:X.calm=true:=by rfl)(h3:F0 N X.N scope X.env.scope fr 0=true:=by rfl)(h4:fr.length=N.length:=by rfl)(h5:freeOk X.env.scope scope.names=true:=by rfl)
 (T:swapsWith Ix (some (.Name y Z)) g.line X.env=pure true:=by rfl)
 (hs:∀x,foldedSetIterable iter X.env x=pure x:=by intro _;rfl):PS X (.Assign [.Name y Z] Ix g) (SI (PF wi fr ix tif te) (Dj i)) :=
 ZF hN hy U (Fl h1) h2 h3 h4 (Ll h5) hi Y he T hs
end
section
variable{X:Cx}{k:Nat}{f:Addr}{fd:IR}{ps:MA}{sp:Sp}{x:Str}{st:Stmt}{p pos:Pos}{e:Expr}{es:Ov}{t:TA}{E:XK}
theorem a9(T:Fn X.K X.mg x st ps f fd)(G:AH X.prog X.w X.K X.mg X.base (CK X.prog X.w) k f fd ps sp)(Y:DC k X.A)(hg:Gl X x)(hP:Passes (CK X.prog X.w) X E)(ha:PA X ur t)
 (U:Id=false:=by decide)(Z:starEach ur X.env=MR::starEach es X.env:=by rfl)(g:(backTo pos SE).any cx=false:=by rfl) :
  PE X Iv (YN sp [] E t):=Xy G Y hg T.m T.F.kp T.b .nil hP ha U Z g
end
end L2
inductive Tr where
 |nil
 |cons (b r:Tr)
 deriving DecidableEq
namespace Tr
def bs:Tr->List Tr
 |.nil=>[]
 |.cons b r=>b::r.bs
def of:List Tr->Tr
 |[]=>.nil
 |b::r=>.cons b (of r)
theorem Uo:∀t:Tr,of t.bs=t
 |.nil=>rfl
 |.cons b r=>by rw[bs,of,Uo r]
theorem O9:∀l:List Tr,(of l).bs=l
 |[]=>rfl
 |b::r=>by rw[of,bs,O9 r]
theorem mj{t u:Tr}(h:t.bs=u.bs):t=u:=by rw[<-Uo t,h,Uo]
def len:Tr->Nat
 |.nil=>0
 |.cons _ r=>r.len+1
theorem JH:∀t:Tr,t.bs.length=t.len
 |.nil=>rfl
 |.cons _ r=>by rw[bs,List.length_cons,JH r,len]
def AQ:Tr->Nat
 |.nil=>1
 |.cons b r=>b.AQ+r.AQ
def deep:Tr->Nat
 |.nil=>0
 |.cons b r=>max (b.deep+1) r.deep
def lt:Tr->Tr->Bool
 |.nil,.nil=>false
 |.nil,.cons _ _=>true
 |.cons _ _,.nil=>false
 |.cons b r,.cons c q=>if b=c then lt r q else lt b c
theorem lt_irrefl:∀t:Tr,lt t t=false
 |.nil=>rfl
 |.cons b r=>by rw[lt,if_pos rfl];exact lt_irrefl r
theorem lt_trans:∀a b c:Tr,lt a b=true->lt b c=true->lt a c=true
 |.nil,.nil,_,h,_=>by cases h
 |.nil,.cons _ _,.nil,_,h=>by cases h
 |.nil,.cons _ _,.cons _ _,_,_=>rfl
 |.cons _ _,.nil,_,h,_=>by cases h
 |.cons _ _,.cons _ _,.nil,_,h=>by cases h
 |.cons a r,.cons b s,.cons c t,T,g=>by
  rw[lt]at T g ⊢;by_cases Z:a=b
  .subst Z;rw[if_pos rfl]at T;by_cases U:a=c
   .subst U;rw[if_pos rfl]at g ⊢;exact lt_trans r s t T g
   .rw[if_neg U]at g ⊢;exact g
  .rw[if_neg Z]at T;by_cases U:b=c
   .subst U;rw[if_neg Z];exact T
   .rw[if_neg U]at g;have Y:=lt_trans a b c T g;by_cases e3:a=c
    .subst e3;rw[lt_irrefl]at Y;cases Y
    .rw[if_neg e3];exact Y
theorem Kz:∀a b:Tr,lt a b=false->lt b a=false->a=b
 |.nil,.nil,_,_=>rfl
 |.nil,.cons _ _,h,_=>by cases h
 |.cons _ _,.nil,_,h=>by cases h
 |.cons a r,.cons b s,T,g=>by
  rw[lt]at T g;by_cases e:a=b
  .subst e;rw[if_pos rfl]at T g;rw[Kz r s T g]
  .rw[if_neg e]at T;rw[if_neg (Ne.symm e)]at g;exact absurd (Kz a b T g) e
theorem Py(a b c:Tr)(h:lt a c=true):lt a b=true\/lt b c=true:=by
 cases T:lt a b with
 |true=>exact .inl rfl
 |false=>
  right
  cases g:lt b a with
  |true=>exact lt_trans b a c g h
  |false=>rw[<-Kz a b T g];exact h
theorem lt_asymm{a b:Tr}(h:lt a b=true):lt b a=false:=by
 cases g:lt b a with
 |false=>rfl
 |true=>have:=lt_trans a b a h g;rw[lt_irrefl]at this;cases this
def ei:Tr->Bool
 |.nil=>true
 |.cons b r=>b.ei&&r.ei&&(match r with
  |.nil=>true
  |.cons c _=>!lt b c)
def ins(x:Tr):List Tr->List Tr
 |[]=>[x]
 |y::r=>if lt x y=true then y::ins x r else x::y::r
def C5:List Tr->List Tr
 |[]=>[]
 |x::r=>ins x (C5 r)
end Tr
namespace TH
open PySem PyProof.Rows PySem.SeqAt
def Vs(h:Heap):Tr->List Value->Prop
 |.nil,us=>us=[]
 |.cons b r,us=>∃(a:Addr) (g rest:FS),us=.ref a::rest/\h.IsTuple a g.toArray/\Vs h b g/\Vs h r rest
theorem Vs.length{h:Heap}:∀ {t:Tr} {us:FS},Vs h t us->us.length=t.len
 |.nil,us,e=>by rw[Vs]at e;rw[e];rfl
 |.cons b r,us,e=>by
  rw[Vs]at e;obtain⟨a,g,rest,rfl,_,_,q⟩:=e;rw[List.length_cons,Tr.len,Vs.length q]
theorem Ik{h:Heap}{a:Addr}{x y:Array Value}(Y:h.IsTuple a x)(U:h.IsTuple a y):x=y:=by
 obtain⟨o,e,_,n,d⟩:=Y;obtain⟨o',g,_,Z,T⟩:=U;rw[e]at g;cases g;rw[d]at T;cases T;rfl
theorem Vs.inj{h:Heap}:∀ {t u:Tr} {us:FS},Vs h t us->Vs h u us->t=u
 |.nil,.nil,_,_,_=>rfl
 |.nil,.cons _ _,us,e,f=>by
  rw[Vs]at e;rw[Vs]at f;obtain⟨_,_,_,f,_⟩:=f;rw[e]at f;cases f
 |.cons _ _,.nil,us,e,f=>by
  rw[Vs]at e;rw[Vs]at f;obtain⟨_,_,_,e,_⟩:=e;rw[f]at e;cases e
 |.cons b r,.cons c q,us,e,f=>by
  rw[Vs]at e f;obtain⟨a,U,rest,rfl,h1,h2,h3⟩:=e;obtain⟨a',g,T,e',k1,Z,Y⟩:=f;cases e';have:=Ik h1 k1;have e2:U=g:=by simpa using this
  subst e2;rw[Vs.inj h2 Z,Vs.inj h3 Y]
theorem ZD{s:IN}:∀(t u:Tr) (A:Re) (us vs:FS),Vs s.heap t us->Vs s.heap u vs->A.units+t.deep<=cLine ->
  ∀j (h1:j<us.length) (Z:j<vs.length),EqAt A s us[j] vs[j] (decide (t.bs[j]? = u.bs[j]?))
 |.nil,u,A,us,vs,e,f,_,j,h1,Z=>by
  rw[Vs]at e;subst e;exact absurd h1 (ai _)
 |.cons b r,.nil,A,us,vs,e,f,_,j,h1,Z=>by
  rw[Vs]at f;subst f;exact absurd Z (ai _)
 |.cons b r,.cons c q,A,us,vs,e,f,hu,j,h1,Z=>by
  rw[Vs]at e f;obtain⟨a,T,rest,rfl,k1,k2,k3⟩:=e;obtain⟨a',g,U,rfl,l1,l2,l3⟩:=f;have hd:(Tr.cons b r).deep=max (b.deep+1) r.deep:=rfl;cases j with
  |zero=>
   show EqAt A s Mt (.ref a') (decide (some b=some c));by_cases ea:a=a'
   .subst ea;have:=Ik k1 l1;have e2:T=g:=by simpa using this
    subst e2;rw[Vs.inj k2 l2,decide_eq_true rfl];exact EqAt.same _
   .refine EqAt.of_refs ea ?_;have key:=RcAt.tuples (s:=s) (A:=A) (e:=fun j=>decide (b.bs[j]? = c.bs[j]?)) k1 l1 AS fun j x1 x2=>by
     have:=ZD b c A.in1 T g k2 l2 (by rw[show A.in1.units=A.units+1 from rfl];lia) j (by simpa using x1) (by simpa using x2)
     simpa using this
    have ev:((List.range (min T.toArray.size g.toArray.size)).all (fun j=>decide (b.bs[j]? = c.bs[j]?))&&T.toArray.size==g.toArray.size)=decide (some b=some c):=by
     have z1:T.toArray.size=b.bs.length:=by rw[Tr.JH,<-Vs.length k2];simp
     have z2:g.toArray.size=c.bs.length:=by rw[Tr.JH,<-Vs.length l2];simp
     rw[z1,z2];by_cases Y:b=c
     .subst Y;simp
     .rw[decide_eq_false (fun z=>Y (ax z))];cases hl:b.bs.length==c.bs.length with
      |false=>rw[Bool.and_false]
      |true=>
       rw[Bool.and_true];have hl':b.bs.length=c.bs.length:=by simpa using hl
       refine au.mpr fun z=>Y (Tr.mj (List.ext_getElem? fun i=>?_));by_cases hi:i<b.bs.length
       .have:=ao.mp z i (ar.mpr AS)
        simpa using this
       .rw[List.getElem?_eq_none AS,List.getElem?_eq_none AS]
    rw[ev]at key;exact key
  |succ j=>
   exact ZD r q A rest U k3 l3 AS j (by simpa using h1) (by simpa using Z)
theorem Sa{s:IN}{t u:Tr}{A:Re}{a b:Addr}{g its':FS}(U:s.heap.IsTuple a g.toArray)(k1:Vs s.heap t g)(T:s.heap.IsTuple b its'.toArray)(k2:Vs s.heap u its')(Y:A.units+t.deep<cLine) :
  EqAt A s Mt (.ref b) (decide (t=u)):=by
 have:=ZD (.cons t .nil) (.cons u .nil) A [.ref a] [.ref b] ⟨a,g,[],rfl,U,k1,by rw[Vs]⟩ ⟨b,its',[],rfl,T,k2,by rw[Vs]⟩ (by show A.units+max (t.deep+1) 0<=cLine;lia) 0 Ch Ch
 simpa[Tr.bs]using this
section
open PySem.AutoSeq1 (wpAny_loadPart')
open PySem.MeetsSeq PySem.MeetsSeq2 PySem.MeetsSeq3
theorem WL(n0:Nat)(ih:∀(t u:Tr) (A:Re) (s:IN) (a b:Addr) (its its':FS),t.deep<n0->s.heap.IsTuple a its.toArray->Vs s.heap t its->s.heap.IsTuple b its'.toArray->Vs s.heap u its'->A.units+t.deep<cLine ->
   ∀(prog:Io) (w:Mw) (E:AT) (Q:AT),Q (.bool (Tr.lt t u)) s->wpAny At A (richCompare .Lt Mt (.ref b)) Q E s)
 (l b:Addr)(items T:Array Value)(n n2:Nat)(dd dd2:Option Addr)(sl sl2:Array (Option Value))(t u:Tr)(ht:t.deep<=n0) :
  Meets (Builtin.«tuple.__lt__» ⟨[.ref l,.ref b],[]⟩)
   (fun A R s=>s.heap.get? l=some { cls:=.type "tuple",dict:=dd,data:=.seq items n,slots:=sl}/\s.heap.get? b=some { cls:=.type "tuple",dict:=dd2,data:=.seq T n2,slots:=sl2} /\
    Vs s.heap t items.toList/\Vs s.heap u T.toList/\A.units+t.deep<cLine/\R (.ok (.ret (.bool (Tr.lt t u)))) s) :=
 .of_wp fun prog w A R s h=>by
  obtain⟨hp,g,d,tk,os⟩:=s;obtain⟨hl,hb,hi,hj,hun,h⟩:=h;have f2:=AutoSeq1.sub_tuple_tuple;have z1:items.size=t.len:=by rw[<-Vs.length hi];simp
  have z2:T.size=u.len:=by rw[<-Vs.length hj];simp
  wp_walk using wpAny_loadPart' hl,wpAny_loadPart' hb,wpAny_forIn_list _ (fun rest b s'=>b.1=none/\s'=⟨hp,g,d,tk,os⟩/\∃(vs ws:FS) (t' u':Tr),rest=vs.zip ws /\
   Vs hp t' vs/\Vs hp u' ws/\t'.deep<=t.deep/\t'.len+T.size=u'.len+items.size/\R (.ok (.ret (.bool (Tr.lt t' u')))) ⟨hp,g,d,tk,os⟩) _
  case turn=>
   rintro⟨y,x⟩ rest b s' ⟨hb',rfl,vs,ws,t',u',hz,Z,Y,hdp,U,hR⟩;cases t' with
   |nil=>rw[Vs]at Z;subst Z;rw[List.zip_nil_left]at hz;cases hz
   |cons bt rt=>
    cases u' with
    |nil=>rw[Vs]at Y;subst Y;rw[List.zip_nil_right]at hz;cases hz
    |cons bu ru=>
     rw[Vs]at Z Y;obtain⟨a1,i1,v1,rfl,p1,p2,p3⟩:=Z;obtain⟨a2,i2,v2,rfl,q1,q2,q3⟩:=Y;rw[List.zip_cons_cons]at hz
     injection hz with hyx hrest
     injection hyx with hy hx
     subst hy hx;have hdd:(Tr.cons bt rt).deep=max (bt.deep+1) rt.deep:=rfl;rw[Tr.lt]at hR;simp only[Tr.len]at U;have he:=Sa (s:=⟨hp,g,d,tk,os⟩) (A:=A.in1) p1 p2 q1 q2 (by rw[show A.in1.units=A.units+1 from rfl];lia);refine aA (he prog w _ _ ?_);cases hc:decide (bt=bu) with
     |true=>
      rw[if_pos (az hc)]at hR
      wp_walk
      exact⟨rfl,rfl,_,_,_,_,hrest,p3,q3,by lia,by lia,hR⟩
     |false=>
      rw[if_neg (bZ hc)]at hR;have hri:=ih bt bu A.in1 ⟨hp,g,d,tk,os⟩ a1 a2 i1 i2 AS p1 p2 q1 q2 (by rw[show A.in1.units=A.units+1 from rfl];lia) prog w
      wp_walk using hri
      exact⟨_,rfl,by simpa using hR⟩
  case fin=>
   rintro⟨b1,b2⟩ s' ⟨hb',rfl,vs,ws,t',u',hz,Z,Y,hdp,U,hR⟩;simp only at hb';subst hb';have hv:Tr.lt t' u'=decide (items.size<T.size):=by
    cases t' with
    |nil=>
     cases u' with
     |nil=>
      simp only[Tr.len]at U;exact(bM AS).symm
     |cons c q=>
      simp only[Tr.len]at U;exact(decide_eq_true AS).symm
    |cons bt rt=>
     cases u' with
     |nil=>
      simp only[Tr.len]at U;exact(bM AS).symm
     |cons c q=>
      rw[Vs]at Z Y;obtain⟨_,_,_,rfl,_⟩:=Z;obtain⟨_,_,_,rfl,_⟩:=Y;rw[List.zip_cons_cons]at hz;cases hz
   rw[hv]at hR
   wp_walk
   exact⟨_,rfl,by simpa[Builtin.Tuple.tupleCompareSizes]using hR⟩
  case h=>
   exact⟨rfl,rfl,items.toList,T.toList,t,u,rfl,hi,hj,Nat.le_refl _,by lia,h⟩
theorem Yv:∀(n0:Nat) (t u:Tr) (A:Re) (s:IN) (a b:Addr) (g its':FS),t.deep<n0->s.heap.IsTuple a g.toArray->Vs s.heap t g->s.heap.IsTuple b its'.toArray->Vs s.heap u its'->A.units+t.deep<cLine ->
   ∀(prog:Io) (w:Mw) (E:AT) (Q:AT),Q (.bool (Tr.lt t u)) s->wpAny At A (richCompare .Lt Mt (.ref b)) Q E s
 |0,_,_,_,_,_,_,_,_,h,_,_,_,_,_=>absurd h (ai _)
 |n0+1,t,u,A,s,a,b,g,its',hd,hl,ht,hb,hu',hun=>fun prog w E Q h=>by
  obtain⟨⟨cls,dd,data,sl⟩,ho,hc,n,Y⟩:=id hl;obtain⟨⟨cls2,dd2,data2,sl2⟩,U,Z,n2,T⟩:=id hb;simp only at hc Y Z T;subst hc Y Z T;exact richCompare_meets_room (op:=.Lt) ⟨_,ho,rfl⟩ ⟨_,U,rfl⟩ PySem.F.slot_tuple_lt PySem.F.entry_tuple_lt (PySem.F.args_tuple_lt_2 _ _) (WL n0 (Yv n0) a b g.toArray its'.toArray n n2 dd dd2 sl sl2 t u AS)
   ⟨ho,U,by simpa using ht,by simpa using hu',hun,show Value.bool (Tr.lt t u)≠Value.notImplemented/\Q (.bool (Tr.lt t u)) s from⟨(fun x=>nomatch x),h⟩⟩ AS
end
end TH
namespace SM
open PySem.W PyProof.Rows
def Wp{α:Type}(lt:Nat->Nat->Bool)(n:Nat):KasT α->(α->Prop)->Prop
 |.ret a,Q=>Q a
 |.ask i j k,Q=>i<n/\j<n/\Wp lt n (k (lt i j)) Q
theorem Wp.mono{α:Type}{lt:Nat->Nat->Bool}{n:Nat}{Q T:α->Prop}(g:∀a,Q a->T a):∀t:KasT α,Wp lt n t Q->Wp lt n t T
 |.ret a,h=>g a h
 |.ask i j k,h=>⟨h.1,h.2.1,Wp.mono g (k (lt i j)) h.2.2⟩
theorem Wp.bind{α β:Type}{lt:Nat->Nat->Bool}{n:Nat}{f:α->KasT β}{Q:β->Prop}:∀t:KasT α,Wp lt n t (fun a=>Wp lt n (f a) Q)->Wp lt n (t.bind f) Q
 |.ret _,h=>h
 |.ask i j k,h=>⟨h.1,h.2.1,Wp.bind (k (lt i j)) h.2.2⟩
theorem LM{p:tZ}{i j:Nat}(g:j<=p.size)(k:Nat):(kas_rev p i j).getD k 0=if i<=k/\k<j then p.getD (i+j-1-k) 0 else p.getD k 0:=by
 have e:=getElem?_mirror_all (i:=i) g k;unfold kas_rev;rw[Array.getD_eq_getD_getElem?,Array.getD_eq_getD_getElem?,Array.getD_eq_getD_getElem?,e];split<;>rfl
theorem Wk{p:tZ}{src d:Nat}(g:src<p.size)(hd:d<=src)(k:Nat) :
  (bubble p src d).getD k 0=if k=src-d then p.getD src 0 else if src-d<k/\k<=src then p.getD (k-1) 0 else p.getD k 0:=by
 have e:=getElem?_bubble g d hd k;simp only[Array.getD_eq_getD_getElem?,e];split
 .rfl
 .split<;>rfl
section
variable{O:KeyOrd}{key:Nat->O.α}{n:Nat}
def Key(key:Nat->O.α)(p:tZ)(i:Nat):O.α:=key (p.getD i 0)
def Up(key:Nat->O.α)(p:tZ)(m:Nat):Prop:=∀i j,i<=j->j<m->O.kle (Key key p i) (Key key p j)
def Dn(key:Nat->O.α)(p:tZ)(m:Nat):Prop:=∀i j,i<=j->j<m->O.kle (Key key p j) (Key key p i)
structure Pm(n:Nat)(p:tZ):Prop where
 perm:p.Perm (List.toArray (List.range n))
 pos:0<n
theorem Pm.size{p:tZ}(h:Pm n p):p.size=n:=by rw[h.perm.size_eq];simp
theorem Pm.lt{p:tZ}(h:Pm n p)(i:Nat):p.getD i 0<n:=by
 rw[Array.getD_eq_getD_getElem?];by_cases hi:i<p.size
 .rw[Array.getElem?_eq_getElem hi];have hm:p[i]∈p:=Array.getElem_mem hi;have:=(h.perm.mem_iff).mp hm
  simpa using this
 .rw[Array.getElem?_eq_none AS];exact h.pos
theorem Pm.rev{p:tZ}(h:Pm n p)(i j:Nat):Pm n (kas_rev p i j):=⟨(mirror_perm _ _ _ _).trans h.perm,h.pos⟩
theorem Pm.bubble{p:tZ}(h:Pm n p)(i j:Nat):Pm n (bubble p i j):=⟨(bubble_perm _ _ _).trans h.perm,h.pos⟩
abbrev IE(key:Nat->O.α):Nat->Nat->Bool:=fun i j=>O.blt (key i) (key j)
theorem Up.one{p:tZ}:Up key p 1:=fun i j T g=>by
 have:i=j:=by lia
 subst this;exact bh _
theorem Up.more{p:tZ}{m:Nat}(h:Up key p m)(Y:1<=m)(hk:O.kle (Key key p (m-1)) (Key key p m)):Up key p (m+1):=fun i j g U=>by
 by_cases e:j=m
 .subst e;by_cases T:i=j
  .subst T;exact bh _
  .exact KeyOrd.kle_trans (h i (j-1) AS AS) hk
 .exact h i j g AS
theorem Dn.more{p:tZ}{m:Nat}(h:Dn key p m)(Y:1<=m)(hk:O.kle (Key key p m) (Key key p (m-1))):Dn key p (m+1):=fun i j g U=>by
 by_cases e:j=m
 .subst e;by_cases T:i=j
  .subst T;exact bh _
  .exact KeyOrd.kle_trans hk (h i (j-1) AS AS)
 .exact h i j g AS
theorem asc{p:tZ}(g:Pm n p):∀(f m:Nat),1<=m->Up key p m->Wp (IE key) n (kas_asc p f m) fun r=>m<=r/\r<=m+f/\Up key p r/\(r=m+f\/O.klt (Key key p r) (Key key p (r-1)))
 |0,m,_,h=>⟨aI _,Nat.le_refl _,h,.inl rfl⟩
 |f+1,m,U,h=>by
  refine⟨g.lt _,g.lt _,?_⟩;cases c:IE key (p.getD m 0) (p.getD (m-1) 0) with
  |true=>exact⟨aI _,by lia,h,.inr c⟩
  |false=>
   simp only[Bool.false_eq_true,if_false];refine Wp.mono (fun r T=>?_) _ (asc g f (m+1) AS (h.more U c));exact⟨by lia,by lia,T.2.2.1,T.2.2.2.elim (fun z=>.inl AS) .inr⟩
def Eq(key:Nat->O.α)(p:tZ)(m q:Nat):Prop:=q<m/\∀k,m-(q+1)<=k->k<m->Key key p k=Key key p (m-1)
theorem rev_eq{p:tZ}{m q:Nat}(h:Eq key p m q)(hm:m<=p.size)(k:Nat):Key key (kas_rev p (m-(q+1)) m) k=Key key p k:=by
 unfold Key;rw[LM hm];split
 .have a:=h.2 (m-(q+1)+m-1-k) (by have:=h.1;lia) (by have:=h.1;lia);have b:=h.2 k AS AS;exact a.trans b.symm
 .rfl
theorem desc:∀(f:Nat) (p:tZ) (m q:Nat),Pm n p->1<=m->m+f<=n->Dn key p m->Eq key p m q->Wp (IE key) n (kas_desc f p m q) fun r=>Pm n r.1/\m<=r.2.1/\r.2.1<=m+f/\Dn key r.1 r.2.1/\Eq key r.1 r.2.1 r.2.2
 |0,p,m,q,g,_,_,h,e=>⟨g,Nat.le_refl _,Nat.le_refl _,h,e⟩
 |f+1,p,m,q,g,h1,hf,h,e=>by
  refine⟨g.lt _,g.lt _,?_⟩;have hm:m<=p.size:=by rw[g.size];lia
  cases c:IE key (p.getD m 0) (p.getD (m-1) 0) with
  |true=>
   have ck:O.klt (Key key p m) (Key key p (m-1)):=c;simp only[if_true];have fin:∀T:Array Nat,Pm n T->(∀k,Key key T k=Key key p k)->Wp (IE key) n (kas_desc f T (m+1) 0) fun r=>Pm n r.1/\m<=r.2.1/\r.2.1<=m+(f+1)/\Dn key r.1 r.2.1/\Eq key r.1 r.2.1 r.2.2:=fun T Y hk=>by
    have hd:Dn key T (m+1):=fun i j Z hj=>by rw[hk,hk];exact h.more h1 (KeyOrd.kle_of_klt ck) i j Z hj
    have he:Eq key T (m+1) 0:=⟨by lia,fun k h1 h2=>by rw[show k=m+1-1 by lia]⟩;exact Wp.mono (fun r U=>⟨U.1,by lia,by lia,U.2.2.2.1,U.2.2.2.2⟩) _ (desc f T (m+1) 0 Y AS AS hd he)
   split
   .exact fin _ (g.rev _ _) (rev_eq e hm)
   .exact fin _ g fun _=>rfl
  |false=>
   simp only[Bool.false_eq_true,if_false];refine⟨g.lt _,g.lt _,?_⟩;cases d:IE key (p.getD (m-1) 0) (p.getD m 0) with
   |true=>
    simp only[if_true];exact⟨g,Nat.le_refl _,Nat.le_add_right _ _,h,e⟩
   |false=>
    simp only[Bool.false_eq_true,if_false];have ek:Key key p m=Key key p (m-1):=KeyOrd.kle_antisymm (show O.kle (Key key p m) (Key key p (m-1)) from d) (show O.kle (Key key p (m-1)) (Key key p m) from c);refine Wp.mono (fun r U=>⟨U.1,by lia,by lia,U.2.2.2.1,U.2.2.2.2⟩) _ (desc f p (m+1) (q+1) g AS AS (h.more h1 (by rw[ek];exact bh _)) ⟨by have:=e.1;lia,fun k h2 h3=>?_⟩);rw[show m+1-1=m by lia,ek];by_cases z:k=m
    .rw[z,ek]
    .exact e.2 k AS AS
theorem mR{p:tZ}{m:Nat}(h:Dn key p m)(hm:m<=p.size):Up key (kas_rev p 0 m) m:=fun i j g T=>by
 unfold Key;rw[LM hm,LM hm,if_pos ⟨bK _,by lia⟩,if_pos ⟨bK _,by lia⟩];exact h (0+m-1-j) (0+m-1-i) AS AS
theorem tail3{p:tZ}{m:Nat}(g:Pm n p)(U:1<=m)(hm:m<=n)(h:Dn key p m):Wp (IE key) n (kas_tail3 m n p) fun r=>Pm n r.2/\1<=r.1/\r.1<=n/\Up key r.2 r.1:=by
 unfold kas_tail3;refine Wp.bind _ (Wp.mono (fun r T=>?_) _ (asc (g.rev 0 m) (n-m) m U (mR h (by rw[g.size];exact hm))));exact⟨g.rev 0 m,by lia,by lia,T.2.2.1⟩
theorem descPart{p:tZ}{m:Nat}(Y:Pm n p)(h1:1<=m)(hm:m+1<=n)(h:Dn key p (m+1)):Wp (IE key) n (kas_descPart m n p) fun r=>Pm n r.2/\1<=r.1/\r.1<=n/\Up key r.2 r.1:=by
 unfold kas_descPart;refine Wp.bind _ (Wp.mono (fun r U=>?_) _ (desc (n-(m+1)) p (m+1) 0 Y AS AS h ⟨by lia,fun k h1 h2=>by rw[show k=m+1-1 by lia]⟩));obtain⟨a,b,c,d,e⟩:=U;have T:r.2.1<=r.1.size:=by rw[a.size];lia
 split
 .refine tail3 (a.rev _ _) AS AS fun i j g Z=>?_;rw[rev_eq e T,rev_eq e T];exact d i j g Z
 .exact tail3 a AS AS d
theorem count{p:tZ}(g:Pm n p):Wp (IE key) n (kas_count n p) fun r=>Pm n r.2/\1<=r.1/\r.1<=n/\Up key r.2 r.1:=by
 have hn:=g.pos;unfold kas_count;refine Wp.bind _ (Wp.mono (fun m hm=>?_) _ (asc g (n-1) 1 em Up.one));obtain⟨Z,h2,Y,h4⟩:=hm;split
 .exact⟨g,Z,by lia,Y⟩
 .rename_i hne;have U:m≠n:=by simpa using hne
  have hk:O.klt (Key key p m) (Key key p (m-1)):=by
   rcases h4 with z|z
   .exact absurd AS U
   .exact z
  have hz:m<=p.size:=by rw[g.size];lia
  split
  .refine⟨g.lt _,g.lt _,?_⟩;cases c:IE key (p.getD 0 0) (p.getD (m-1) 0) with
   |true=>simp only[if_true];exact⟨g,Z,by lia,Y⟩
   |false=>
    simp only[Bool.false_eq_true,if_false];have all:∀k,k<m->Key key p k=Key key p (m-1):=fun k T=>KeyOrd.kle_antisymm (Y k (m-1) AS AS) (KeyOrd.kle_trans (show O.kle (Key key p (m-1)) (Key key p 0) from c) (Y 0 k AS T));have ek:∀k,Key key (kas_rev p 0 m) k=Key key p k:=fun k=>by
     by_cases T:k<m
     .have:Key key (kas_rev p 0 m) k=Key key p (0+m-1-k):=by
       unfold Key;rw[LM hz,if_pos ⟨bK _,T⟩]
      rw[this,all _ AS,all k T]
     .unfold Key;rw[LM hz,if_neg AS]
    refine descPart (g.rev _ _) Z AS fun i j hij hj=>?_;rw[ek,ek];by_cases e:j=m
    .subst e;by_cases e2:i=j
     .subst e2;exact bh _
     .rw[all i AS];exact KeyOrd.kle_of_klt hk
    .rw[all i AS,all j AS];exact bh _
  .have:m=1:=by lia
   subst this;refine descPart g Z AS fun i j hij hj=>?_;by_cases e:i=j
   .subst e;exact bh _
   .rw[show i=0 by lia,show j=1 by lia];exact KeyOrd.kle_of_klt hk
theorem place{p:tZ}{k:Nat}(T:Pm n p)(g:Up key p k):∀(f l r:Nat),l<=r->r<=k->r-l<=f->(∀i,i<l->O.kle (Key key p i) (Key key p k))->(∀i,r<=i->i<k->O.klt (Key key p k) (Key key p i)) ->
  Wp (IE key) n (kas_place p k f l r) fun x=>x<=k/\(∀i,i<x->O.kle (Key key p i) (Key key p k))/\∀i,x<=i->i<k->O.klt (Key key p k) (Key key p i)
 |0,l,r,h1,U,h3,a,b=>by
  have:l=r:=by lia
  subst this;exact⟨U,a,b⟩
 |f+1,l,r,h1,U,h3,a,b=>by
  unfold kas_place;split
  .have:l=r:=by lia
   subst this;exact⟨U,a,b⟩
  .refine⟨T.lt _,T.lt _,?_⟩;cases c:IE key (p.getD k 0) (p.getD ((l+r) / 2) 0) with
   |true=>
    simp only[if_true];exact place T g f l ((l+r) / 2) AS AS AS a fun i Y Z=>KeyOrd.klt_of_klt_of_kle (show O.klt (Key key p k) (Key key p ((l+r) / 2)) from c) (g _ _ Y Z)
   |false=>
    simp only[Bool.false_eq_true,if_false];exact place T g f ((l+r) / 2+1) r AS U AS (fun i Y=>KeyOrd.kle_trans (g i ((l+r) / 2) AS AS) (show O.kle (Key key p ((l+r) / 2)) (Key key p k) from c)) b
theorem bin:∀(f:Nat) (p:tZ) (k:Nat),Pm n p->1<=k->k+f=n->Up key p k->Wp (IE key) n (kas_bin f p k) fun r=>Pm n r/\Up key r n
 |0,p,k,g,_,hk,h=>by
  have:k=n:=by lia
  subst this;exact⟨g,h⟩
 |f+1,p,k,g,h1,hk,h=>by
  have U:k<p.size:=by rw[g.size];lia
  refine Wp.bind _ (Wp.mono (fun l hl=>?_) _ (place g h k 0 k (bK _) em AS (fun i z=>absurd z AS) fun i z1 z2=>absurd z1 AS));obtain⟨hlk,T,Y⟩:=hl;refine bin f _ oF (g.bubble _ _) AS AS fun i j hij hj=>?_;have Z:∀x,Key key (PyProof.Rows.bubble p k (k-l)) x=if x=l then Key key p k else if l<x/\x<=k then Key key p (x-1) else Key key p x:=fun x=>by
   unfold Key;rw[Wk U AS,show k-(k-l)=l by lia];split
   .rfl
   .split<;>rfl
  rw[Z,Z]
  repeat' split
  all_goals first
   |(exfalso;lia)
   |exact bh _
   |exact T _ AS
   |exact KeyOrd.kle_of_klt (Y _ AS AS)
   |exact h _ _ AS AS
theorem sort(hn:0<n):Wp (IE key) n (kas_sort n) fun p=>Pm n p/\Up key p n:=by
 have T:Pm n (List.toArray (List.range n)):=⟨Array.Perm.refl _,hn⟩;unfold kas_sort;refine Wp.bind _ (Wp.mono (fun r g=>?_) _ (count T));obtain⟨a,b,c,d⟩:=g;split
 .rw[show max r.1 1=r.1 by lia];exact bin _ _ _ a b AS d
 .have:r.1=n:=by lia
  rw[this]at d;exact⟨a,d⟩
end
end SM
namespace Tr
theorem QT(x:Tr):∀l:List Tr,(ins x l).Perm (x::l)
 |[]=>.refl _
 |y::r=>by
  rw[ins];split
  .exact((QT x r).cons y).trans (.swap x y r)
  .exact .refl _
theorem LA:∀l:List Tr,(C5 l).Perm l
 |[]=>.refl _
 |x::r=>by
  rw[C5];exact(QT x (C5 r)).trans ((LA r).cons x)
abbrev TU(l:iF):Prop:=l.Pairwise fun a b=>lt a b=false
theorem Vt(x:Tr):∀l:List Tr,TU l->TU (ins x l)
 |[],_=>List.pairwise_singleton _ _
 |y::r,h=>by
  obtain⟨T,Y⟩:=bo.mp h;rw[ins];split
  .rename_i c;refine bo.mpr ⟨fun z g=>?_,Vt x r Y⟩;rcases aO.mp ((QT x r).mem_iff.mp g) with rfl|g
   .exact lt_asymm c
   .exact T z g
  .rename_i c;have U:lt x y=false:=by simpa using c
   refine bo.mpr ⟨fun z g=>?_,h⟩;rcases aO.mp g with rfl|g
   .exact U
   .cases e:lt x z with
    |false=>rfl
    |true=>
     rcases Py x y z e with q|q
     .rw[U]at q;cases q
     .rw[T z g]at q;cases q
theorem LP:∀l:List Tr,TU (C5 l)
 |[]=>List.Pairwise.nil
 |x::r=>by rw[C5];exact Vt x _ (LP r)
theorem MM:∀ {l m:iF},TU l->TU m->l.Perm m->l=m
 |[],m,_,_,p=>(List.nil_perm.mp p).symm
 |x::r,[],_,_,p=>absurd p.length_eq Ch
 |x::r,y::q,Y,U,p=>by
  obtain⟨a1,a2⟩:=bo.mp Y;obtain⟨b1,b2⟩:=bo.mp U;have T:x∈y::q:=p.mem_iff.mp af;have g:y∈x::r:=p.mem_iff.mpr af;have e:x=y:=by
   rcases aO.mp T with e|T
   .exact e
   .rcases aO.mp g with e|g
    .exact e.symm
    .exact Kz x y (a1 y g) (b1 x T)
  subst e;rw[MM a2 b2 (List.Perm.cons_inv p)]
theorem dC{l m:iF}(h:TU m)(p:m.Perm l):m=C5 l:=MM h (LP l) (p.trans (LA l).symm)
theorem YQ{l m:iF}(h:m.Pairwise fun a b=>lt b a=false)(p:m.Perm l):m=(C5 l).reverse:=by
 have:m.reverse=C5 l:=dC (List.pairwise_reverse.mpr h) ((List.reverse_perm m).trans p);rw[<-this,List.reverse_reverse]
theorem O3(n:Nat):∀l:List Tr,(of l).deep<=n ↔ ∀c∈l,c.deep+1<=n
 |[]=>by simp[of,deep]
 |b::r=>by
  rw[of,deep,List.forall_mem_cons,<-O3 n r]
  lia
theorem cD{l m:iF}(p:l.Perm m):(of l).deep<=(of m).deep:=(O3 _ l).mpr fun c g=>(O3 _ m).mp em c (p.mem_iff.mp g)
theorem eK(t:Tr):(of t.bs.reverse).deep<=t.deep:=by
 have:=cD (List.reverse_perm t.bs)
 rwa [Uo]at this
def ord:PyProof.Rows.KeyOrd where
 α:=Tr
 blt:=lt
 irrefl:=lt_irrefl
 trans:=lt_trans
 negTrans:=Py
 total:=Kz
end Tr
namespace TH
open PySem PySem.W PyProof.Rows PySem.SeqAt
theorem Vs.at{h:Heap}:∀ {t:Tr} {us:FS} {i:Nat},Vs h t us->i<us.length->∃(a:Addr) (g:FS) (c:Tr),us.getD i Value.none=.ref a/\h.IsTuple a g.toArray/\Vs h c g/\t.bs[i]? = some c/\c.deep<t.deep
 |.nil,us,i,e,hi=>by rw[Vs]at e;subst e;exact absurd hi (ai _)
 |.cons b r,us,i,e,hi=>by
  rw[Vs]at e;obtain⟨a,g,rest,rfl,h1,h2,h3⟩:=e;have hd:(Tr.cons b r).deep=max (b.deep+1) r.deep:=rfl;cases i with
  |zero=>exact⟨a,g,b,rfl,h1,h2,rfl,by lia⟩
  |succ i=>
   obtain⟨a',T,c,q1,Z,Y,U,q5⟩:=Vs.at (i:=i) h3 tW;exact⟨a',T,c,by simpa using q1,Z,Y,by simpa[Tr.bs]using U,by lia⟩
theorem Vs.Kx{h:Heap}:∀(ts:iF) (us:FS),us.length=ts.length->(∀i,i<ts.length->∃(a:Addr) (g:FS) (c:Tr),us[i]? = some Mt/\h.IsTuple a g.toArray/\Vs h c g/\ts[i]? = some c)->Vs h (Tr.of ts) us
 |[],us,U,_=>by
  rw[Tr.of,Vs];exact bO (by simpa using U)
 |t::ts,[],U,_=>by simp at U
 |t::ts,u::us,U,h=>by
  rw[Tr.of,Vs];obtain⟨a,g,c,Z,e2,e3,Y⟩:=h 0 Ch;simp at Z Y;subst Z Y;refine⟨a,g,us,rfl,e2,e3,Vs.Kx ts us (by simpa using U) fun i hi=>?_⟩;obtain⟨a',T,c',q1,q2,q3,q4⟩:=h SL tW;exact⟨a',T,c',by simpa using q1,q2,q3,by simpa using q4⟩
theorem Vs.all{h:Heap}{t:Tr}{us:FS}(e:Vs h t us):∀i,i<t.bs.length->∃(a:Addr) (g:FS) (c:Tr),us[i]? = some Mt/\h.IsTuple a g.toArray/\Vs h c g/\t.bs[i]? = some c:=fun i hi=>by
 have T:i<us.length:=by rw[Vs.length e,<-Tr.JH];exact hi
 obtain⟨a,g,c,U,q2,Z,Y,_⟩:=e.at T;refine⟨a,g,c,?_,q2,Z,Y⟩;rw[List.getD_eq_getElem?_getD,List.getElem?_eq_getElem T]at U;rw[List.getElem?_eq_getElem T]
 simpa using U
section
variable{prog:Io}{w:Mw}{A:Re}{E:AT}{s:IN}{t u:Tr}{a b:Addr}{its its':FS}{Q:jp}
theorem XQ(U:s.heap.IsTuple a its.toArray)(k1:Vs s.heap t its)(T:s.heap.IsTuple b its'.toArray)(k2:Vs s.heap u its')(g:A.units+t.deep<cLine)(h:Q (Tr.lt t u) s):wpAny At A (oneLt' false Mt (.ref b)) Q E s:=by
 rw[oneLt'_eq];simp only[Bool.false_eq_true,if_false];exact aA (Yv (t.deep+1) t u A s a b its its' (bX _) U k1 T k2 g prog w E _ (wpAny_truthy_bool h))
theorem jU(h1:s.heap.IsTuple a its.toArray)(k1:Vs s.heap t its)(h2:s.heap.IsTuple b its'.toArray)(k2:Vs s.heap u its')(hu:A.units+t.deep<cLine)(h:Q (Tr.lt t u) s):wpAny At A (oneLt' true Mt (.ref b)) Q E s:=by
 rw[oneLt'_eq];simp only[if_true];refine aA (wpAny_cRoomFor AS ?_);obtain⟨⟨cls,dd,data,sl⟩,ho,hc,n,U⟩:=id h1;obtain⟨⟨cls2,dd2,data2,Z⟩,ho2,Y,n2,g⟩:=id h2;simp only at hc U Y g;subst hc U Y g;refine aA (wpAny_callSpecialIfBound?_slot (T := "tuple") ⟨_,ho,rfl⟩ PySem.F.slot_tuple_lt (call_meets PySem.F.slot_tuple_lt ⟨_,ho,rfl⟩ PySem.F.entry_tuple_lt (PySem.F.args_tuple_lt_2 _ _)
  (WL t.deep (Yv t.deep) a b its.toArray its'.toArray n n2 dd dd2 sl Z t u em) ⟨ho,ho2,by simpa using k1,by simpa using k2,hu,?_⟩))
 exact wpAny_truthy_bool h
theorem Xc:∀(t u:Tr) (us vs:FS) (i:Nat),Vs s.heap t us->Vs s.heap u vs->A.units+t.deep<=cLine->Q (Tr.lt t u) s->KatLex prog w A false (decide (t.len<u.len)) Q (us.zip vs) i s
 |.nil,.nil,us,vs,i,e,f,_,h=>by
  rw[Vs]at e;subst e;rw[List.zip_nil_left];exact kat_nil h
 |.nil,.cons c q,us,vs,i,e,f,_,h=>by
  rw[Vs]at e;subst e;rw[List.zip_nil_left];refine kat_nil ?_;rw[show decide (Tr.nil.len<(Tr.cons c q).len)=true from decide_eq_true (Nat.zero_lt_succ _)];exact h
 |.cons b r,.nil,us,vs,i,e,f,_,h=>by
  rw[Vs]at f;subst f;rw[List.zip_nil_right];refine kat_nil ?_;rw[show decide ((Tr.cons b r).len<Tr.nil.len)=false from bM (ai _)];exact h
 |.cons b r,.cons c q,us,vs,i,e,f,hu,h=>by
  rw[Vs]at e f;obtain⟨a,its,rest,rfl,k1,Z,k3⟩:=e;obtain⟨a',its',T,rfl,Y,U,l3⟩:=f;have hd:(Tr.cons b r).deep=max (b.deep+1) r.deep:=rfl;rw[List.zip_cons_cons,show decide ((Tr.cons b r).len<(Tr.cons c q).len)=decide (r.len<q.len) from by simp[Tr.len]];rw[Tr.lt]at h;refine kat_cons (Sa k1 Z Y U AS prog w _ _ ?_);by_cases g:b=c
  .rw[decide_eq_true g];rw[if_pos g]at h;exact kat_yes (Xc r q rest T SL k3 l3 AS h)
  .rw[decide_eq_false g];rw[if_neg g]at h;exact kat_no (by rw[Bool.false_and];exact XQ k1 Z Y U AS h)
theorem jQ(h1:s.heap.IsTuple a its.toArray)(k1:Vs s.heap t its)(h2:s.heap.IsTuple b its'.toArray)(k2:Vs s.heap u its')(hu:A.units+t.deep<cLine)(h:Q (Tr.lt t u) s):wpAny At A (keyLt' (tuples' false) Mt (.ref b)) Q E s:=by
 obtain⟨o,Z,hc,n,hd⟩:=id h1;obtain⟨o2,g,hc2,n2,T⟩:=id h2;refine kat_lt Z hd g T ?_;have Y:its.toArray.size=t.len:=by rw[<-Vs.length k1];simp
 have U:its'.toArray.size=u.len:=by rw[<-Vs.length k2];simp
 rw[Y,U];exact Xc t u its its' 0 k1 k2 AS h
def U5(g:SortKind):Prop:=g=general'\/g=oneType'\/g=tuples' false
theorem iY{Z:SortKind}(g:U5 Z)(Y:s.heap.IsTuple a its.toArray)(k1:Vs s.heap t its)(U:s.heap.IsTuple b its'.toArray)(k2:Vs s.heap u its')(T:A.units+t.deep<cLine)(h:Q (Tr.lt t u) s):wpAny At A (keyLt' Z Mt (.ref b)) Q E s:=by
 rcases g with rfl|rfl|rfl
 .exact XQ Y k1 U k2 T h
 .rw[keyLt'_oneType];exact jU Y k1 U k2 T h
 .exact jQ Y k1 U k2 T h
theorem Pw{M:Model}{h:Heap}{a:Addr}{x:Array Value}(U:h.IsTuple a x):Looks M h (typeOf Mt) IF:=by
 obtain⟨o,g,T,_⟩:=U;exact T ▸ (Looks.ld g).andThen .now
theorem UJ{M:Model}:∀(t:Tr) (us:FS) {Q:List (Option Value)->Shared->Prop},Vs s.heap t us->(∀fs:List (Option Value),(∀v,some v∈fs->Looks M s.heap (typeOf v) IF)->Q fs s)->wpAny M A (us.mapM firstOfTuple') Q E s
 |.nil,us,Q,e,h=>by
  rw[Vs]at e;subst e;rw[List.mapM_nil];exact aB (h [] fun _ z=>by cases z)
 |.cons b r,us,Q,e,h=>by
  rw[Vs]at e;obtain⟨a,its,rest,rfl,h1,g,h3⟩:=e;obtain⟨o,Y,hc,n,hd⟩:=id h1;rw[List.mapM_cons];refine aA ?_;rw[kas_first_eq];refine aA (Looks.here (show Looks M s.heap (typeOf Mt) o.cls from(Looks.ld Y).andThen .now) ?_);rw[hc,if_neg (by first|decide|simp)];refine aA (listItems_at Y hd (aB ?_));refine aA (UJ r rest (Q:=fun bs s'=>wpAny M A (pure (its.toArray[0]? :: bs)) Q E s') h3 fun fs U=>aB (h _ fun v hv=>?_));rcases aO.mp hv with z|z
  .cases b with
   |nil=>rw[Vs]at g;subst g;simp at z
   |cons c q=>
    rw[Vs]at g;obtain⟨a',its',T,rfl,Z,_⟩:=g;simp at z;subst z;exact Pw Z
  .exact U v z
theorem Xb{M:Model}{vs:FS}{Q:Of}(Y:∀v∈vs,Looks M s.heap (typeOf v) IF)(h0:vs=[]->Q none s)(Z:Q (some IF) s):wpAny M A (oneTypeOnly' vs.toArray) Q E s:=by
 rw[oneTypeOnly'_eq,List.mapM_toArray,map_eq_pure_bind];refine aA (aA (kas_mapM (r:=Value.type "tuple") _ (fun v T Q' U=>(Y v T).here U) ge));cases vs with
 |nil=>exact aB (h0 rfl)
 |cons f r=>
  have g:((List.map (fun _=>Value.type "tuple") (f::r)).toArray.all fun x=>x==Value.type "tuple")=true:=by
   simp only[List.all_toArray,List.all_map,List.all_eq_true];intro _ _
   rfl
  have e0:(List.map (fun _=>Value.type "tuple") (f::r)).toArray[0]? = some (Value.type "tuple"):=by simp
  rw[e0];simp only[g,if_true];exact aB Z
theorem jA{M:Model}{t:Tr}{us:FS}{Q:SortKind->Shared->Prop}(e:Vs s.heap t us)(h:∀Z,U5 Z->Q Z s):wpAny M A (keyKind' us.toArray) Q E s:=by
 rw[kat_kind_eq,List.mapM_toArray,map_eq_pure_bind];refine aA (aA (UJ t us e fun fs Y=>aB ?_));split
 .refine aA (bR ?_);have e1:fs.toArray.filterMap id=(fs.filterMap id).toArray:=by simp
  rw[e1];have U:∀v∈fs.filterMap id,Looks M s.heap (typeOf v) IF:=fun v T=>Y v (by simpa using T);refine aA (Xb U (fun _=>?_) ?_)
  .exact aB (h _ (.inr (.inr rfl)))
  .exact aB (h _ (.inr (.inr rfl)))
 .split
  .exact aB (h _ lm)
  .have U:∀v∈us,Looks M s.heap (typeOf v) IF:=fun v T=>by
    obtain⟨i,hi,rfl⟩:=List.getElem_of_mem T;obtain⟨a,its,c,g,q2,_⟩:=e.at hi;rw[List.getD_eq_getElem?_getD,List.getElem?_eq_getElem hi]at g;simp at g;rw[g];exact Pw q2
   refine aA (Xb U (fun _=>?_) ?_)
   .exact aB (h _ lm)
   .exact aB (h _ (.inr lm))
theorem Uy{α:Type}{cmp:Nat->Nat->(Bool->Shared->Prop)->Shared->Prop}{lt:Nat->Nat->Bool}{n:Nat}{U:α->Prop}(g:∀i j C,i<n->j<n->C (lt i j) s->cmp i j C s):∀T:KasT α,SM.Wp lt n T U->T.kasWp cmp (fun a s'=>s'=s/\U a) s
 |.ret a,h=>⟨rfl,h⟩
 |.ask i j k,h=>g i j _ h.1 h.2.1 (Uy g (k (lt i j)) h.2.2)
end
end TH
namespace TH
open PySem PySem.W PyProof.Rows PySem.SeqAt
theorem Vs.keeps{h h':Heap}(k:Tl):∀ {t:Tr} {us:FS},Vs h t us->Vs h' t us
 |.nil,us,e=>by rw[Vs]at e ⊢;exact e
 |.cons b r,us,e=>by
  rw[Vs]at e ⊢;obtain⟨a,g,rest,rfl,⟨o,U,T,hd⟩,Z,Y⟩:=e;exact⟨a,g,rest,rfl,⟨o,k _ _ U T,T,hd⟩,Z.keeps k,Y.keeps k⟩
theorem map_getD{α:Type}(d:α)(l:tV):(List.range l.length).map (fun i=>l.getD i d)=l:=by
 refine List.ext_getElem Ch fun i T g=>?_;simp[g]
theorem Vs.rev{h:Heap}{t:Tr}{us:FS}(e:Vs h t us):Vs h (Tr.of t.bs.reverse) us.reverse:=by
 have T:us.length=t.bs.length:=by rw[e.length,Tr.JH]
 refine Vs.Kx _ _ (by simp[T]) fun i hi=>?_;rw[List.length_reverse]at hi;obtain⟨a,g,c,q1,Z,Y,U⟩:=e.all (t.bs.length-1-i) AS;exact⟨a,g,c,by rw[List.getElem?_reverse AS,T];exact q1,Z,Y,by rw[List.getElem?_reverse hi];exact U⟩
section
variable{prog:Io}{w:Mw}{A:Re}{E:AT}{s:IN}
theorem eO{κ:SortKind}{t:Tr}{g:FS}(hκ:U5 κ)(e:Vs s.heap t g)(h2:2<=g.length)(h64:g.length<64)(hu:A.units+t.deep<=cLine) :
  wpAny At A ((sortRuns').run (SortSt.mk' κ (g.toArray.zip g.toArray) #[] 7 none)) (fun r s'=>s'=s/\failedOf r.2=none/\∃ix:List Nat,ix.length=g.length/\(∀i∈ix,i<g.length) /\
   (arrOf r.2).map (·.2)=(ix.map fun i=>g.getD i Value.none).toArray/\(ix.map fun i=>t.bs.getD i .nil)=(Tr.C5 t.bs).reverse) E s:=by
 have hl:g.length=t.bs.length:=by rw[e.length,Tr.JH]
 have key:∀i,i<g.length->∃(a:Addr) (T:FS),g.getD i Value.none=.ref a/\s.heap.IsTuple a T.toArray/\Vs s.heap (t.bs.getD i .nil) T/\(t.bs.getD i .nil).deep<t.deep:=fun i hi=>by
  obtain⟨a,T,c,q1,q2,Z,q4,q5⟩:=e.at hi;have:t.bs.getD i .nil=c:=by rw[List.getD_eq_getElem?_getD,q4];rfl
  rw[this];exact⟨a,T,q1,q2,Z,q5⟩
 refine kat_run (Q:=fun U s'=>s'=s/\failedOf U=none/\∃ix:List Nat,ix.length=g.length/\(∀i∈ix,i<g.length)/\(arrOf U).map (·.2)=(ix.map fun i=>g.getD i Value.none).toArray/\(ix.map fun i=>t.bs.getD i .nil)=(Tr.C5 t.bs).reverse)
  (G:=fun p s'=>s'=s/\SM.Pm g.length p/\SM.Up (O:=Tr.ord) (fun i=>t.bs.getD i .nil) p g.length) rfl h2 h64 (fun p U s' hp har hf hG=>?_)
  (Uy (lt:=SM.IE (O:=Tr.ord) fun i=>t.bs.getD i .nil) (n:=g.length) (fun i j C hi Y hC=>?_) _ (SM.sort AS))
 .obtain⟨rfl,hpm,hup⟩:=hG;have h1:p.toList.Perm (List.range g.length):=by simpa using Array.perm_iff_toList_perm.mp hpm.perm
  refine⟨rfl,hf,p.toList,by rw[Array.length_toList,hp],fun i hi=>ar.mp (h1.mem_iff.mp hi),kat_snds rfl har,?_⟩;have perm:(p.toList.map fun i=>t.bs.getD i .nil).Perm t.bs:=by
   have h3:=h1.map fun i=>t.bs.getD i Tr.nil
   rwa [hl,map_getD]at h3
  refine Tr.YQ (List.pairwise_iff_getElem.mpr fun i j hi Y hij=>?_) perm;rw[List.length_map,Array.length_toList,hp]at hi Y;have:=hup i j AS Y;have e1:∀k,k<g.length->∀hk,(p.toList.map fun i=>t.bs.getD i Tr.nil)[k]' hk=t.bs.getD (p.getD k 0) .nil:=fun k hk hk'=>by
   rw[List.getElem_map,Array.getElem_toList,Array.getD,dif_pos AS]
   rfl
  rw[e1 i hi,e1 j Y];exact this
 .obtain⟨a,T,q1,q2,Z,q4⟩:=key i hi;obtain⟨a',its',r1,r2,r3,r4⟩:=key j Y;unfold kas_ask;rw[q1,r1];exact iY hκ q2 Z r2 r3 AS hC
theorem Z2(b:Bool)(us:FS)(hz:us.length<2):(if b=true then((if b=true then(us.toArray.zip us.toArray).reverse else us.toArray.zip us.toArray).map (·.2)).reverse else(if b=true then(us.toArray.zip us.toArray).reverse else us.toArray.zip us.toArray).map (·.2))=us.toArray:=by
 match us,hz with
 |[],_=>cases b<;>simp
 |[x],_=>cases b<;>simp
theorem OV{a : Addr}{us : FS}{t : Tr}{n : Nat}{b : Bool}{P : PySem.Fin->Shared->Prop}(ho : s.heap.get? a = some (seqObj "list" us.toArray n))(e : Vs s.heap t us)(h64 : us.length < 64)(hu : A.units + t.deep<=cLine)
 (h : ∀ ix : List Nat,ix.length = us.length->(∀ i∈ix,i < us.length)->(ix.map fun i => t.bs.getD i .nil) = (if b then Tr.C5 t.bs else (Tr.C5 t.bs).reverse)->P (.done (.ret .none)) { s with heap:=sortedHeap s.heap a us (ix.map fun i => us.getD i Value.none).toArray }) :
    wpAny At A (Builtin.«list.sort» ⟨[.ref a],[(Str.ofString "reverse",.bool b)]⟩) P E s:=by
  rw [list_sort_rev]
  have ha : a < s.heap.objs.size:=aG ho
  refine aA (listItems_at ho rfl ?_)
  refine aA (listUpdate_at ho rfl ?_ (by rw [List.size_toArray,sizeLine_eq]; lia) (bK _))
  obtain ⟨e1,ho1⟩ : ∃ e1,(s.heap.update a (Obj.mapSeq fun _ => #[])).get? a = some (seqObj "list" #[] e1):=⟨_,get?_update_seq ho (fun _ => #[])⟩
  refine aA (seqEpoch_at ho1 rfl ?_)
  refine aA (wpAny_newTuple ?_ (by show us.length<=_; rw [sizeLine_eq]; lia))
  refine aA (wpAny_newList ?_ (bK _))
  refine aR ?_
  have ho6 : (((s.heap.update a uH).push ra).push LT).get? a = some (seqObj "list" #[] e1):=by
    rw [Heap.get?_push_ne _ _ _ (by rw [size_push',Heap.size_update]; exact aJ (bT ha)),Heap.get?_push_ne _ _ _ (by rw [Heap.size_update]; exact aJ ha)]
    exact ho1
  have keep : ∀ c o,s.heap.get? c = some o->o.cls = .type "tuple" -> (((s.heap.update a uH).push ra).push LT).get? c = some o:=fun c o hc hcl => by
    have hne : c≠a:=fun z => by
      rw [z,ho] at hc
      cases hc
      exact absurd (show Value.type "list" = Value.type "tuple" from hcl) BY
    refine aF _ (aF _ ?_)
    rw [Heap.get?_update_ne _ _ _ _ hne]
    exact hc
  show wpAny At A _ P E { s with heap:=((s.heap.update a uH).push ra).push LT }
  have e6:=e.keeps keep
  dsimp only
  have step : ∀ T : Sem PySem.Fin,wpAny At A T P E { s with heap:=((s.heap.update a uH).push ra).push LT } ->
      wpAny At A (if b = true then (do let _ <- rule "list.sort.reverse"; T) else T) P E { s with heap:=((s.heap.update a uH).push ra).push LT }:=by
    intro T hT
    split
    . exact aA (bR hT)
    . exact hT
  refine step _ ?_
  by_cases h2 : us.toArray.size < 2
  . rw [if_pos h2,if_pos h2]
    refine aA ge
    rw [StateT.run_pure]
    refine aA ge
    dsimp only
    have hz : us.length < 2:=by simpa using h2
    have hout:=Z2 b us hz
    refine aA (seqEpoch_at ho6 rfl ?_)
    refine aA (listUpdate_at ho6 rfl ?_ (bK _) (by
      refine aQ (Nat.le_of_eq (bP Array.size hout)) ?_
      rw [List.size_toArray,sizeLine_eq]; lia))
    simp only [bne_self_eq_false,Bool.false_eq_true,if_false]
    have hl : us.length = t.bs.length:=by rw [e.length,Tr.JH]
    have fin:=h (List.range us.length) Ch (fun i hi => ar.mp hi) (by
      rw [hl,map_getD]
      match hbs : t.bs,(show t.bs.length < 2 by lia) with
      | [],_ => cases b <;> rfl
      | [_],_ => cases b <;> rfl)
    rw [map_getD] at fin
    rw [<- hout] at fin
    exact aB fin
  . rw [if_neg h2,if_neg h2]
    have hz : 2<=us.length:=by simpa using h2
    refine aA (jA (s:={ s with heap:=((s.heap.update a uH).push ra).push LT }) e6 fun κ hκ => ?_)
    have hl : us.length = t.bs.length:=by rw [e.length,Tr.JH]
    obtain ⟨ws,tw,ew,hwl,hws,hdp,pick⟩ : ∃ (ws : List Value) (tw : Tr),Vs (((s.heap.update a (Obj.mapSeq fun _ => #[])).push (seqObj "tuple" us.toArray 0)).push (seqObj "list" #[] 0)) tw ws/\ws.length = us.length /\
        (if b = true then (us.toArray.zip us.toArray).reverse else us.toArray.zip us.toArray) = ws.toArray.zip ws.toArray/\tw.deep<=t.deep /\
        ∀ (_b : Bool) (ix : List Nat),ix.length = ws.length->(∀ i∈ix,i < ws.length)->(ix.map fun i => tw.bs.getD i .nil) = (Tr.C5 tw.bs).reverse->∃ iy : List Nat,iy.length = us.length/\(∀ i∈iy,i < us.length)/\(iy.map fun i => t.bs.getD i .nil) = (if b then Tr.C5 t.bs else (Tr.C5 t.bs).reverse) /\
          (if b = true then ((ix.map fun i => ws.getD i Value.none).toArray).reverse else (ix.map fun i => ws.getD i Value.none).toArray) = (iy.map fun i => us.getD i Value.none).toArray:=by
      cases b with
      | false => exact ⟨us,t,e6,rfl,rfl,Nat.le_refl _,fun _ ix h1 h2 h3 => ⟨ix,h1,h2,h3,rfl⟩⟩
      | true=>
        have hsrt : Tr.C5 t.bs.reverse = Tr.C5 t.bs:=Tr.dC (Tr.LP _) ((Tr.LA _).trans (List.reverse_perm _))
        refine ⟨us.reverse,Tr.of t.bs.reverse,e6.rev,by simp,kat_pairs (ks:=us) (vs:=us) true rfl,Tr.eK t,fun _ ix h1 h2 h3 => ⟨(ix.map fun i => us.length - 1 - i).reverse,by simpa using h1,fun i hi => ?_,?_,?_⟩⟩
        . rw [List.mem_reverse,List.mem_map] at hi
          obtain ⟨k,hk,rfl⟩:=hi
          have:=h2 k hk
          rw [List.length_reverse] at this
          lia
        . rw [Tr.O9,hsrt] at h3
          rw [List.map_reverse,List.map_map]
          have : (ix.map ((fun i => t.bs.getD i Tr.nil) ∘ fun i => us.length - 1 - i)) = ix.map fun i => t.bs.reverse.getD i .nil:=av fun i hi => by
            have:=h2 i hi
            rw [List.length_reverse] at this
            show t.bs.getD (us.length - 1 - i) Tr.nil = _
            rw [List.getD_eq_getElem?_getD,List.getD_eq_getElem?_getD,List.getElem?_reverse AS,hl]
          rw [this,h3,List.reverse_reverse]
          rfl
        . rw [if_pos rfl,List.map_reverse,List.map_map,List.reverse_toArray]
          congr 2
          exact av fun i hi => by
            have:=h2 i hi
            rw [List.length_reverse] at this
            show us.reverse.getD i Value.none = us.getD (us.length - 1 - i) Value.none
            rw [List.getD_eq_getElem?_getD,List.getD_eq_getElem?_getD,List.getElem?_reverse AS]
    rw [hws]
    refine aA (aX (eO (s:={ s with heap:=((s.heap.update a uH).push ra).push LT }) hκ ew AS AS AS) ?_ fun _ _ z => z)
    rintro ⟨⟨⟩,st'⟩ s' ⟨rfl,hf,ix,hil,hix,hout,hst⟩
    dsimp only
    refine aA (seqEpoch_at ho6 rfl ?_)
    obtain ⟨iy,y1,y2,y3,hfin⟩ : ∃ iy : List Nat,iy.length = us.length/\(∀ i∈iy,i < us.length)/\(iy.map fun i => t.bs.getD i .nil) = (if b then Tr.C5 t.bs else (Tr.C5 t.bs).reverse) /\
        (if b = true then ((arrOf st').map (·.2)).reverse else (arrOf st').map (·.2)) = (iy.map fun i => us.getD i Value.none).toArray:=by
      rw [show (arrOf st').map (·.2) = _ from hout]
      exact pick b ix hil hix hst
    refine aA (listUpdate_at ho6 rfl ?_ (bK _) (by
      refine aQ (Nat.le_of_eq (bP Array.size hfin)) ?_
      rw [List.size_toArray,List.length_map,y1,sizeLine_eq]; lia))
    rw [show failedOf st' = none from hf]
    simp only [bne_self_eq_false,Bool.false_eq_true,if_false]
    have fin:=h iy y1 y2 y3
    rw [<- hfin] at fin
    exact aB fin
end
end TH
namespace ET
open PySem
section
variable{prog:Io}{w:Mw}{A:Re}{E:AT}{s:IN}
theorem next_item{it t:Addr}{i:Nat}{items}{x:Nh}{Q:AT}(hit:s.heap.IsTupleIter it t i)(Z:s.heap.IsTuple t items)(Y:items[i]? = some x)
 (hQ:∀h',h'.IsTupleIter it t SL->Heap.SameBut it s.heap h'->Q x Pz):wpAny At A (Builtin.SmallTypes.nextOf (.ref it)) Q E s:=by
 obtain⟨o,g,hc,hd⟩:=id hit;obtain⟨ol,T,_,nl,U⟩:=Z;unfold Builtin.SmallTypes.nextOf;refine aA (aZ (name:=Str.ofString "__next__") hit.typeIs F.slot_tuple_iterator_next
  (aY F.slot_tuple_iterator_next hit.typeIs F.entry_tuple_iterator_next ?_ (F.args_tuple_iterator_next_1 _)))
 show wpAny _ _ (field (.ref it) 0>>=_) _ _ s;refine aA (aW g hd (x:=.ref t) rfl ?_);show wpAny _ _ (if(Value.ref t==Value.none)=true then _ else _) _ _ s;rw[if_neg (show ¬((Value.ref t==Value.none)=true) from aN)];show wpAny _ _ (field (.ref it) 1>>=_) _ _ s;refine aA (aW g hd (x:=.int i 0) rfl ?_);show wpAny _ _ (seqItems? (.ref t)>>=_) _ _ s;refine aA (aV T U ?_);simp only[Int.toNat_natCast,Y];refine aA (wpAny_setField g hd Ch (aB ⟨x,rfl,wpAny_pure (hQ _ ?_ (ah ..))⟩));exact⟨_,Heap.get?_update_self _ g (Obj.isFreed_of_fields (Obj.data_mapFields hd _)),(Obj.cls_mapFields ..).trans hc,by
  rw[Obj.data_mapFields hd];simp[rawInt]⟩
theorem next_end{it t:Addr}{i:Nat}{items}{Q:AT}(Y:A.handled=none)(hit:s.heap.IsTupleIter it t i)(ht:s.heap.IsTuple t items)(Z:items[i]? = none)
 (hE:∀h' e,Heap.ExtBut it s.heap h'->(∃o,h'.get? e=some o/\o.cls=.type "StopIteration")->E (.ref e) Pz):wpAny At A (Builtin.SmallTypes.nextOf (.ref it)) Q E s:=by
 obtain⟨o,T,hc,hd⟩:=id hit;obtain⟨ol,g,_,nl,U⟩:=ht;unfold Builtin.SmallTypes.nextOf;refine aA (aZ (name:=Str.ofString "__next__") hit.typeIs F.slot_tuple_iterator_next
  (aY F.slot_tuple_iterator_next hit.typeIs F.entry_tuple_iterator_next ?_ (F.args_tuple_iterator_next_1 _)))
 show wpAny _ _ (field (.ref it) 0>>=_) _ _ s;refine aA (aW T hd (x:=.ref t) rfl ?_);show wpAny _ _ (if(Value.ref t==Value.none)=true then _ else _) _ _ s;rw[if_neg (show ¬((Value.ref t==Value.none)=true) from aN)];show wpAny _ _ (field (.ref it) 1>>=_) _ _ s;refine aA (aW T hd (x:=.int i 0) rfl ?_);show wpAny _ _ (seqItems? (.ref t)>>=_) _ _ s;refine aA (aV g U ?_);simp only[Int.toNat_natCast,Z];refine aA (bR (aA (wpAny_setField T hd Ch ?_)));show wpAny _ _ (newExc (.type "StopIteration") []>>=_) _ _ _;refine aA ?_;simp only[newExc,newTuple];refine aA (bC ?_ (by size_fits));refine aA (m:=firstArgMember _ _) (wpAny_of_eq (a:=Value.none) (by first|rfl|(simp only[firstArgMember];rfl)) ?_);refine bC ?_ (by size_fits);simp only[raiseNew];refine aA (wpAny_handled ?_)
 first|rw[show A.in1.handled=none from Y]|rw[Y]
 refine aA (aB (wpAny_throw ?_));exact hE _ _ (((ah ..).extBut.push _).push _) ⟨_,Heap.get?_push_size _ rfl,rfl⟩
end
section
open AutoSeq1 (wpAny_loadPart')
theorem cI(l:Addr)(items:Array Value)(n:Nat)(Y:Option Addr)(sl:Array (Option Value)) :
  Meets (Builtin.«enumerate.__new__» ⟨[.type "enumerate",.ref l],[]⟩) (fun _ R s=>s.heap.get? l=some { cls:=.type "tuple",dict:=Y,data:=.seq items n,slots:=sl} /\
   R (.ok (.ret (.ref (s.heap.push { cls:=.type "tuple_iterator",data:=.fields #[.ref l,.int 0 0]}).objs.size)))
    {s with heap:=(s.heap.push { cls:=.type "tuple_iterator",data:=.fields #[.ref l,.int 0 0]}).push { cls:=.type "enumerate",data:=.fields #[.none,.bool false,.ref s.heap.objs.size,rawInt 0,.none,.none]} }) :=
 .of_wp fun prog w A R s h=>by
  obtain⟨hp,g,d,tk,os⟩:=s;obtain⟨T,h⟩:=h;have Z:=sub_enumerate;have U:Heap.IsTuple (Shared.heap ⟨hp,g,d,tk,os⟩) l items:=⟨_,T,rfl,n,rfl⟩
  wp_walk using wpAny_loadPart' T
  refine wpAny_stack_any fun st=>aB ?_;split
  .rename_i c _ _ _ _ _;cases (c==Value.type "enumerate")
   .wp_walk using wpAny_loadPart' T,wpAny_pyIter_tuple U
    exact⟨_,rfl,h⟩
   .wp_walk using wpAny_loadPart' T,wpAny_pyIter_tuple U
    exact⟨_,rfl,h⟩
  .wp_walk using wpAny_loadPart' T,wpAny_pyIter_tuple U
   exact⟨_,rfl,h⟩
theorem ZY{prog:Io}{w:Mw}{A:Re}{E:AT}{s:IN}{l:Addr}{items:Array Value}{Q:AT}(hL:s.heap.IsTuple l items)
 (h:∀h',IsEnum h' IS s.heap.objs.size 0 .none->h'.IsTupleIter s.heap.objs.size l 0->h'.objs.size=s.heap.objs.size+2 ->
   (∀b o,s.heap.get? b=some o->h'.get? b=some o)->Q (.ref IS) Pz) :
  wpAny At A (call (.type "enumerate") [.ref l]) Q E s:=by
 obtain⟨⟨c,U,dt,sl⟩,Z,T,n,hd⟩:=hL
 replace T:c=.type "tuple" := T
 replace hd:dt=.seq items n:=hd
 subst T hd;refine callType_new F.called_enumerate BY (F.typeCall_enumerate_1 _) (F.newCall_enumerate_1 _) (fun obj=>F.args_object_init_2 obj _) F.entry_enumerate_new
  (cI l items n U sl) ⟨Z,?_⟩
 have g:(s.heap.push { cls:=.type "tuple_iterator",data:=.fields #[.ref l,.int 0 0]}).objs.size=s.heap.objs.size+1:=Heap.size_push ..;show _/\_;rw[g];have Y:IsEnum ((s.heap.push { cls:=.type "tuple_iterator",data:=.fields #[.ref l,.int 0 0]}).push
   { cls:=.type "enumerate",data:=.fields #[.none,.bool false,.ref s.heap.objs.size,rawInt 0,.none,.none]}) IS s.heap.objs.size 0 .none:=by
  have:=aL (s.heap.push { cls:=.type "tuple_iterator",data:=.fields #[.ref l,.int 0 0]})
   (o:={ cls:=.type "enumerate",data:=.fields #[.none,.bool false,.ref s.heap.objs.size,rawInt 0,.none,.none]}) rfl
  rw[g]at this;exact this
 refine⟨⟨_,Y,rfl⟩,h _ Y ⟨_,Heap.get?_push_of_some _ (aL _ rfl),rfl,rfl⟩ (by rw[Heap.size_push,g]) fun b o x=>aF _ (aF _ x)⟩
end
theorem draws{prog:Io}{w:Mw}{A:Re}(hh:A.handled=none)(it a:Addr)(its:FS)(hne:a≠it) :
  Draws prog w A it [it,a] its.length (fun i x=>its[i]? = some x) (fun i h=>h.IsTupleIter it a i/\h.IsTuple a its.toArray) where
 live:=fun i h st=>let⟨o,e,_⟩:=st.1;⟨o,e⟩
 frame:=fun i h h' st k=>by
  obtain⟨⟨o,e,r⟩,o2,e2,r2⟩:=st;exact⟨⟨o,k it Ch o e,r⟩,o2,k a Ch o2 e2,r2⟩
 item:=fun i s Q E hi st hQ=>next_item st.1 st.2 (x:=its[i]) (by simp[hi]) fun h' st' sb=>
  hQ _ h' s.toks (by simp[hi]) ⟨st',let⟨o,e,r⟩:=st.2;⟨o,(sb.2 a hne).trans e,r⟩⟩ sb
 done:=fun s Q E st hE=>next_end hh st.1 st.2 Ch hE
end ET
namespace L2
open PySem PySem.Spec PyProof.Rows
def Ts(H:Hp):Tr->List V->Prop
 |.nil,xs=>xs=[]
 |.cons b r,xs=>∃(a:Addr) (ys g:HQ),xs=.ref a::g/\H a=some (.tup ys)/\Ts H b ys/\Ts H r g
def Tv(H:Hp)(t:Tr)(v:V):Prop:=∃(a:Addr) (ys:HQ),v=.ref a/\H a=some (.tup ys)/\Ts H t ys
theorem Ts.same{H H':Hp}(e:AK H H'):∀ {t:Tr} {xs:HQ},Ts H t xs->Ts H' t xs
 |.nil,xs,h=>by rw[Ts]at h ⊢;exact h
 |.cons b r,xs,h=>by
  rw[Ts]at h ⊢;obtain⟨a,ys,g,Z,Y,U,T⟩:=h;exact⟨a,ys,g,Z,e _ _ Y,U.same e,T.same e⟩
theorem Tv.same{H H':Hp}{t:Tr}{v:V}(h:Tv H t v)(e:AK H H'):Tv H' t v:=let⟨a,ys,U,T,g⟩:=h;⟨a,ys,U,e _ _ T,g.same e⟩
def MK(H H':Hp):Prop:=∀b xs,H b=some Op->H' b=some Op
theorem MK.of{H H':Hp}(e:AK H H'):MK H H':=fun b xs h=>e b _ h
theorem MK.upd{H:Hp}{l:Addr}{ys:HQ}{o:HO}(g:H l=some Mj):MK H (upd H l o):=fun b xs h=>by
 rw[AJ (Yw h g (by intro z;cases z))];exact h
theorem Ts.BL{H H':Hp}(e:MK H H'):∀ {t:Tr} {xs:HQ},Ts H t xs->Ts H' t xs
 |.nil,xs,h=>by rw[Ts]at h ⊢;exact h
 |.cons b r,xs,h=>by
  rw[Ts]at h ⊢;obtain⟨a,ys,g,Z,Y,U,T⟩:=h;exact⟨a,ys,g,Z,e _ _ Y,U.BL e,T.BL e⟩
theorem Tv.BL{H H':Hp}{t:Tr}{v:V}(h:Tv H t v)(e:MK H H'):Tv H' t v:=let⟨a,ys,U,T,g⟩:=h;⟨a,ys,U,e _ _ T,g.BL e⟩
theorem Ts.length{H:Hp}:∀ {t:Tr} {xs:HQ},Ts H t xs->xs.length=t.len
 |.nil,xs,h=>by rw[Ts]at h;rw[h];rfl
 |.cons b r,xs,h=>by
  rw[Ts]at h;obtain⟨a,ys,T,rfl,_,_,g⟩:=h;rw[List.length_cons,Tr.len,g.length]
theorem Ts.len{H:Hp}{t:Tr}{xs:HQ}(h:Ts H t xs):xs.length=t.bs.length:=by rw[h.length,Tr.JH]
theorem Ts.get{H:Hp}:∀ {t:Tr} {xs:HQ} {i:Nat} {v:V},Ts H t xs->xs[i]? = some v->∃c,t.bs[i]? = some c/\Tv H c v
 |.nil,xs,i,v,h,e=>by rw[Ts]at h;subst h;simp at e
 |.cons b r,xs,i,v,h,e=>by
  rw[Ts]at h;obtain⟨a,ys,zs,rfl,Z,Y,U⟩:=h;cases i with
  |zero=>simp at e;subst e;exact⟨b,rfl,a,ys,rfl,Z,Y⟩
  |succ i=>
   obtain⟨c,T,g⟩:=U.get (i:=i) (v:=v) (by simpa using e);exact⟨c,by simpa[Tr.bs]using T,g⟩
theorem Ts.Kx{H:Hp}:∀(ts:iF) (xs:HQ),xs.length=ts.length->(∀(i:Nat) (v:V),xs[i]? = some v->∃c,ts[i]? = some c/\Tv H c v)->Ts H (Tr.of ts) xs
 |[],xs,g,_=>by
  rw[Tr.of,Ts];exact bO (by simpa using g)
 |t::ts,[],g,_=>by simp at g
 |t::ts,x::xs,g,h=>by
  rw[Tr.of,Ts];obtain⟨c,T,a,ys,rfl,h1,Z⟩:=h 0 x rfl;simp at T;subst T;exact⟨a,ys,xs,rfl,h1,Z,Ts.Kx ts xs (by simpa using g) fun i v e=>by
   obtain⟨c,Y,U⟩:=h SL v (by simpa using e);exact⟨c,by simpa using Y,U⟩⟩
theorem Ts.pick{H:Hp}{t:Tr}{xs:HQ}(h:Ts H t xs)(ix:List Nat)(hi:∀i∈ix,i<xs.length):Ts H (Tr.of (ix.map fun i=>t.bs.getD i .nil)) (ix.map fun i=>xs.getD i .Bp):=by
 refine Ts.Kx _ _ Ch fun i v e=>?_;rw[List.getElem?_map]at e ⊢;cases q:ix[i]? with
 |none=>rw[q]at e;cases e
 |some k=>
  rw[q]at e;have hk:k<xs.length:=hi k (aK q);simp only[Option.map_some,Option.some.injEq]at e;obtain⟨c,T,g⟩:=h.get (i:=k) (v:=v) (by rw[<-e,List.getD_eq_getElem?_getD,List.getElem?_eq_getElem hk];rfl);refine⟨c,?_,g⟩;simp only[Option.map_some,List.getD_eq_getElem?_getD,T]
  rfl
section
variable{X:Cx}{pins:Da}{σ:St}{H:Hp}{s:IN}
theorem Ts.vs(I:Db):∀ {t:Tr} {xs:HQ} {us:FS},Ts H t xs->Vals xs us->TH.Vs s.heap t us
 |.nil,xs,us,h,r=>by
  rw[Ts]at h;subst h;cases r;rw[TH.Vs]
 |.cons b rr,xs,us,h,r=>by
  rw[Ts]at h;obtain⟨a,ys,zs,rfl,h1,h2,Z⟩:=h;cases r with
  |cons Y U=>
   cases Y;obtain⟨g,T,p,_⟩:=I.tuple (BI.of (K:=X.K) h1);rw[TH.Vs];exact⟨a,g,_,rfl,p,Ts.vs I h2 T,Ts.vs I Z U⟩
end
def mX(K:As)(a:Addr):It :=
 ⟨fun i H=>∃xs x,BI K H a xs/\xs[i]? = some x,fun i H v H'=>∃p x,v=.ref p/\H p=none/\H'=upd H p (.tup [.int i,x])/\∀xs,BI K H a xs->xs[i]? = some x,fun i H=>∃xs,BI K H a xs/\xs.length=i⟩
theorem cy{P:Io}{w:Mw}{K:As}{elts:Ov}{x1}{pos:Pos}(a e it:Addr)(hne:e≠it) :
  Turn P w K (.Tuple elts x1 pos) (mX K a) [e,it] e (fun i h=>(∃old,IsEnum h e it (i:Nat) old)/\h.IsTupleIter it a i) where
 mem:=by simp
 obj:=fun i h st b hb=>by
  rcases aO.mp hb with rfl|hb
  .obtain⟨⟨old,q⟩,_⟩:=st;exact⟨_,q,fun v z=>by cases z⟩
  .have e2:b=it:=by simpa using hb
   subst e2;obtain⟨_,o,q,c,d⟩:=st;exact⟨o,q,fun v z=>by rw[d]at z;cases z⟩
 keep:=fun i h h' st k=>by
  obtain⟨⟨old,q⟩,o,q2,r⟩:=st;exact⟨⟨old,k e Ch _ q⟩,o,k it Ch _ q2,r⟩
 item:=by
  intro X hP hw hK hc i pins s σ H E I hf st hg;subst hP hw hK;obtain⟨xs,x,hq,hx⟩:=hg;obtain⟨its,rv,p,hz⟩:=I.tuple hq;obtain⟨u,hu,ru⟩:=rv.get hx;obtain⟨⟨old,he⟩,hit⟩:=st;have hai:a≠it:=fun z=>by
   obtain⟨o,e1,c1,_⟩:=p;obtain⟨o2,e2,c2,_⟩:=hit;rw[z,e2]at e1;cases e1;rw[c1]at c2;exact absurd c2 BY
  have hae:a≠e:=fun z=>by
   obtain⟨o,e1,c1,_⟩:=p;rw[z,he]at e1;cases e1;exact absurd (show Value.type "enumerate" = Value.type "tuple" from c1) BY
  have hlt:i<its.length:=(aE.mp hu).1;have hE0:=hf e Ch;have hI0:=hf it Ch;refine wpAny_pyNext_enum_itemD (ET.draws (prog:=X.prog) (w:=X.w) (A:=X.A.in1) ad it a its hai) he ⟨hit,p⟩ hlt hne (by simp[hne,Ne.symm hae]) fun y h' tk hy ho hs' hT hsz hk=>⟨_,rfl,wpAny_letOwnedTupleGo_enum (s:={s with heap:=h',toks:=tk+1}) ho fun h'' he'' sb=>?_⟩;have hyu:y=u:=by rw[hu]at hy;exact(ax hy).symm
  subst hyu;have keep:∀b o,b≠e->b≠it->s.heap.get? b=some o->h''.get? b=some o:=fun b o h1 h2 q=>(sb.2 b h1).trans (hk b o h1 h2 q);have hTe:s.heap.objs.size≠e:=aq (aG he);have hTi:s.heap.objs.size≠it:=let⟨_,q,_⟩:=hit;aq (aG q);have hT'':h''.get? s.heap.objs.size=some { cls:=.type "tuple",data:=.seq #[.int i tk,y]}:=(sb.2 _ hTe).trans hT;have hTn:H s.heap.objs.size=none:=I.Av.fresh em;have neT:∀b o,s.heap.get? b=some o->b≠s.heap.objs.size:=fun b o q=>aJ (aG q);have F5:∀b o,H b=some o->b≠e/\b≠it:=fun b o q=>⟨(fun z=>by rw[z,hE0.1]at q;cases q),(fun z=>by rw[z,hI0.1]at q;cases q)⟩;refine⟨.ref s.heap.objs.size,upd H s.heap.objs.size (.tup [.int i,x]),?_,rfl,⟨_,x,rfl,hTn,rfl,fun ys hy=>by rw[I.UL hy hq];exact hx⟩,⟨⟨_,by simpa using he''⟩,?_⟩,fun b hb=>?_⟩
  .show Inv X pins σ _ {s with heap:=h'',gens:=s.gens,drawn:=s.drawn,toks:=tk+1};refine I.step (h':=h'') (g':=s.gens) (d':=s.drawn) (t':=tk+1) (ch:=[e,it]) (fun b hb=>?_) (fun b o _ _ hc q _=>keep b o No No q) (fun b o _ _ hc q _=>⟨o.slots,keep b o No No q⟩)
    (fun b o _ q n=>by rw[AJ (neT b o q)];exact n) (fun b o hc q=>⟨o,keep b o No No q⟩) (fun b ys q=>by rw[AJ (AV q hTn)];exact q) (fun b o u q=>by rw[AJ (AV q hTn)];exact q)
    (fun b ps q=>⟨#[],by rw[AJ (AV q hTn),q];simp⟩) (fun b _ o hc _ q=>keep b o No No q) (fun m hm=>?_) (fun b o q=>?_) I.bare
   .rcases aO.mp hb with rfl|hb
    .exact⟨hE0.2.2.2.1,hE0.2.1,hE0.2.2.2.2.1,hE0.2.2.2.2.2⟩
    .have e2:b=it:=by simpa using hb
     subst e2;exact⟨hI0.2.2.2.1,hI0.2.1,hI0.2.2.2.2.1,hI0.2.2.2.2.2⟩
   .obtain⟨o,es,ep,ho,r⟩:=hm;exact⟨o,es,ep,keep _ o (Ne.symm hE0.2.1) (Ne.symm hI0.2.1) ho,r⟩
   .by_cases hb:b=s.heap.objs.size
    .subst hb;rw[AR]at q;cases q;exact⟨XZ,[.int i tk,y],.cons ⟨tk,rfl⟩ (.cons ru .nil),_,hT'',rfl,_,rfl⟩
    .rw[AJ hb]at q;refine(I.Av b o q).Hf (fun c v hc r=>keep c v ?_ ?_ r) (fun c r=>by rw[AJ (AV r hTn)];exact r) fun c ys r=>by rw[AJ (AV r hTn)];exact r
     .rcases hc with rfl|hc
      .exact(F5 _ _ q).1
      .exact(F5 _ _ hc).1
     .rcases hc with rfl|hc
      .exact(F5 _ _ q).2
      .exact(F5 _ _ hc).2
  .obtain⟨⟨o,q,r⟩,_⟩:=hs';exact⟨o,(sb.2 it (Ne.symm hne)).trans q,r⟩
  .rcases aO.mp hb with rfl|hb
   .rw[AJ (Ne.symm hTe)];exact hE0.1
   .have e2:b=it:=by simpa using hb
    subst e2;rw[AJ (Ne.symm hTi)];exact hI0.1
 done:=by
  intro X hP hw hK hc i pins s σ H E I hf st hg;subst hP hw hK;obtain⟨xs,hq,hx⟩:=hg;obtain⟨its,rv,p,hz⟩:=I.tuple hq;obtain⟨⟨old,he⟩,hit⟩:=st;have hai:a≠it:=fun z=>by
   obtain⟨o,e1,c1,_⟩:=p;obtain⟨o2,e2,c2,_⟩:=hit;rw[z,e2]at e1;cases e1;rw[c1]at c2;exact absurd c2 BY
  have hl:its.length=i:=by rw[<-rv.length];exact hx
  subst hl;obtain⟨f0,f1,f2,f3,f4,f5⟩:=hf it Ch;exact wpAny_pyNext_enum_endD (ET.draws (prog:=X.prog) (w:=X.w) (A:=X.A.in1) ad it a its hai) he ⟨hit,p⟩ fun h' eb=>⟨rfl,I.turned (t':=s.toks) (fun b o hb q=>eb b o hb q) f0 f1 f3 f4 f5⟩
 self:=fun _ _ _ _ _ st h=>by
  obtain⟨⟨old,he⟩,_⟩:=st;exact wpAny_pyIter_enum he h
def p7(K:As)(T:TA):TI:=fun σ H R=>T σ H fun vs g=>∃a,vs=[.ref a]/\(∃xs,BI K g a xs)/\R (mX K a) g
theorem gz{X:Cx}{elts:Ov}{x1}{g:Pos}{a:Expr}{ta:TA}{p pos:Pos}(hg:Gl X "enumerate")(hm:X.mg "enumerate" = none)(ha:PA X [a] ta)(hs:starEach [a] X.env=[SZ]:=by rfl) :
  PI X (.Tuple elts x1 g) (.Call (.Name "enumerate" p) [a] [] pos) (p7 X.K ta):=by
 intro pins s σ H R I h;refine Call_ (GR I hg hm boot_enumerate (ak (BU bi fun us s1 ⟨vs,H1,U,r1,q1⟩=>?_) hs rfl));obtain⟨t,e,⟨xs,hq⟩,q⟩:=q1;subst e;cases r1 with
 |cons r rr=>
  cases rr;cases r;obtain⟨Y,rv,p',hz⟩:=U.tuple hq;refine ET.ZY (show s1.heap.IsTuple t Y.toArray from p') fun h' he hit hsz hk=>wpAny_pyIter_enum he ?_;have I2:Inv X pins σ H1 {s1 with heap:=h'}:=U.kept (t':=s1.toks) hk;have hn:s1.heap.objs.size+1≠s1.heap.objs.size:=by lia
  refine⟨s1.heap.objs.size+1,[s1.heap.objs.size+1,s1.heap.objs.size],_,_,H1,rfl,I2,cy t _ _ hn,⟨⟨_,he⟩,hit⟩,fun b hb=>?_,q⟩;have T:s1.heap.objs.size<=b:=by
   have Z:b=s1.heap.objs.size+1\/b=s1.heap.objs.size:=by simpa using hb
   rcases Z with z|z
   .rw[z];exact Nat.le_succ _
   .rw[z];exact aI _
  exact U.QK T (U.Av.fresh T)
end L2
namespace TH
open PySem PySem.W PyProof.Rows PySem.SeqAt
section
variable{prog:Io}{w:Mw}{A:Re}{E:AT}{s:IN}
theorem SS(a:Addr):Builtin.«list.sort» ⟨[.ref a],[]⟩=Builtin.«list.sort» ⟨[.ref a],[(Str.ofString "reverse",.bool false)]⟩:=by
 rw[list_sort_rev,list_sort_plain]
 rfl
theorem Ng{a:Addr}{us:FS}{t:Tr}{n:Nat}{P:PySem.Fin->Shared->Prop}(U:s.heap.get? a=some (seqObj "list" us.toArray n))(e:Vs s.heap t us)(g:us.length<64)(T:A.units+t.deep<=cLine)
 (h:∀ix:List Nat,ix.length=us.length->(∀i∈ix,i<us.length)->(ix.map fun i=>t.bs.getD i .nil)=(Tr.C5 t.bs).reverse->P (.done (.ret .none)) {s with heap:=sortedHeap s.heap a us (ix.map fun i=>us.getD i Value.none).toArray}) :
  wpAny At A (Builtin.«list.sort» ⟨[.ref a],[]⟩) P E s:=by
 rw[SS];exact OV (b:=false) U e g T h
theorem Wt{l:Addr}{vs:FS}{Q:List Value->Shared->Prop}(hl:s.heap.IsTuple l vs.toArray)
 (h:Q vs uo)(hsz:vs.length<=sizeLine) :
    wpAny At A (collect (.ref l)) Q E s:=by
  obtain⟨o,ho,hc,n,hd⟩:=id hl
  unfold collect
  refine aA (wpAny_runValue (codeAny_builtin entry_proto_collect' ?_))
  show wpAny _ _ (do again (.builtin "list.__iadd__" ⟨[<-newList [],.ref l],[]⟩)) _ _ s
  refine aA (wpAny_newList (aB ⟨Code.quiet_builtin _ am,codeAny_builtin entry_list_iadd' ?_⟩))
  show wpAny _ _ (Builtin.List.listExtendWith GE (.ref l) GE) _ _ {s with heap:=s.heap.push LT}
  unfold Builtin.List.listExtendWith
  have ho':(s.heap.push LT).get? l=some o:=aF _ ho
  refine aA (wpAny_typeOf (T := "tuple") ⟨o,ho',hc⟩ ?_)
  have ht:(Value.type "tuple" == Value.type "tuple")=true:=by rfl
  rw[if_pos (by rw[ht];simp)]
  refine aA (listItems_at ho' hd ?_)
  refine aA (listItems_at (xs:=#[]) (n:=0) (aL _ rfl) rfl ?_)
  rw[if_neg Ch]
  refine aA (listUpdate_at (xs:=#[]) (n:=0) (aL _ rfl) rfl ?_ (bK _) (by show(#[]++vs.toArray).size<=sizeLine+1;simp only[Array.size_append,List.size_toArray,List.length_nil];lia))
  refine aB ?_
  show wpAny At A (do
      let o <-load s.heap.objs.size
      match o.data with
      |.seq xs _=>pure xs.toList
      |_=>unsupported "internal:collect") Q E uo
  refine aA (wpAny_load (get?_update_seq (aL _ rfl) _) ?_)
  show wpAny _ _ (pure ((#[]:Array Value)++vs.toArray).toList) Q E _
  rw[show((#[]:Array Value)++vs.toArray).toList=vs by simp]
  exact aB h
theorem Pg{l:Addr}{vs:FS}{Q:List Value->Shared->Prop}(g:s.heap.IsList l vs.toArray\/s.heap.IsTuple l vs.toArray)
 (h:Q vs uo)(hsz:vs.length<=sizeLine):wpAny At A (collect (.ref l)) Q E s:=g.elim (fun z=>collect_list z h hsz) fun z=>Wt z h hsz
theorem oM{l:Addr}{us:FS}{t:Tr}{Q:AT}(hl:s.heap.IsList l us.toArray\/s.heap.IsTuple l us.toArray)(e:Vs s.heap t us)(Z:us.length<64)(hu:A.units+2+t.deep<=cLine)
 (h:∀(h':Heap) (ix:List Nat) (e1:Nat),ix.length=us.length->(∀i∈ix,i<us.length)->(ix.map fun i=>t.bs.getD i .nil)=(Tr.C5 t.bs).reverse->(∀c o,s.heap.get? c=some o->h'.get? c=some o) ->
   h'.get? IS=some (seqObj "list" (ix.map fun i=>us.getD i Value.none).toArray e1)->Q (.ref IS) Pz) :
  wpAny At A (call (.builtin "sorted") [.ref l]) Q E s:=by
 refine Calls.call_function_entry kind_sorted plain_sorted entry_sorted (args_sorted1 _) ?_;unfold Builtin.«sorted»;refine aA (m:=checkCount "sorted" 1 1 _) ge;refine aA (Pg hl ?_ (by rw[sizeLine_eq];lia));refine aA (wpAny_newList ?_ (by rw[sizeLine_eq];lia));have g:((s.heap.push LT).update s.heap.objs.size Rs).objs.size=s.heap.objs.size+1:=by
  rw[Heap.size_update,size_push']
 have U:(((s.heap.push LT).update s.heap.objs.size Rs).push Uf).get? IS=some Uf:=by
  rw[<-g];exact aL _ rfl
 have keep:∀b o,s.heap.get? b=some o->o.cls=.type "tuple" ->(((s.heap.push LT).update s.heap.objs.size Rs).push Uf).get? b=some o:=fun b o q _=>by
  have T:b<s.heap.objs.size:=aG q;rw[Heap.get?_push_ne _ _ _ (by rw[g];exact aJ (bT T)),Heap.get?_update_ne _ _ _ _ (aJ T),Heap.get?_push_ne _ _ _ (aJ T)];exact q
 show wpAny _ _ _ _ _ {s with heap:=((s.heap.push LT).update s.heap.objs.size Rs).push Uf};rw[g];refine aA (aR (aY slot_list_sort ⟨_,U,rfl⟩ entry_list_sort (Ng (s:={s with heap:=((s.heap.push LT).update s.heap.objs.size Rs).push Uf}) U (e.keeps keep) Z (by
  rw[show A.in1.in1.units=A.units+2 from rfl];lia) fun ix a1 a2 a3=>⟨_,rfl,?_⟩) (args_list_sort _)))
 obtain⟨e1,Y⟩:=sortedAll_at s.heap us (ix.map fun i=>us.getD i Value.none).toArray;exact aB ⟨_,rfl,h _ ix e1 a1 a2 a3 (fun _ _=>sortedAll_old) Y⟩
theorem OU{l:Addr}{us:FS}{t:Tr}{b:Bool}{Q:AT}(hl:s.heap.IsList l us.toArray\/s.heap.IsTuple l us.toArray)(e:Vs s.heap t us)(Z:us.length<64)(hu:A.units+2+t.deep<=cLine)
 (h:∀(h':Heap) (ix:List Nat) (e1:Nat),ix.length=us.length->(∀i∈ix,i<us.length)->(ix.map fun i=>t.bs.getD i .nil)=(if b then Tr.C5 t.bs else(Tr.C5 t.bs).reverse)->(∀c o,s.heap.get? c=some o->h'.get? c=some o) ->
   h'.get? IS=some (seqObj "list" (ix.map fun i=>us.getD i Value.none).toArray e1)->Q (.ref IS) Pz) :
  wpAny At A (call (.builtin "sorted") [.ref l] [(Str.ofString "reverse",.bool b)]) Q E s:=by
 refine call_function_entry_kw kind_sorted plain_sorted entry_sorted (args_sorted_rev _ _) ?_;unfold Builtin.«sorted»;refine aA (m:=checkCount "sorted" 1 1 _) ge;refine aA (Pg hl ?_ (by rw[sizeLine_eq];lia));refine aA (wpAny_newList ?_ (by rw[sizeLine_eq];lia));have g:((s.heap.push LT).update s.heap.objs.size Rs).objs.size=s.heap.objs.size+1:=by
  rw[Heap.size_update,size_push']
 have U:(((s.heap.push LT).update s.heap.objs.size Rs).push Uf).get? IS=some Uf:=by
  rw[<-g];exact aL _ rfl
 have keep:∀b o,s.heap.get? b=some o->o.cls=.type "tuple" ->(((s.heap.push LT).update s.heap.objs.size Rs).push Uf).get? b=some o:=fun b o q _=>by
  have T:b<s.heap.objs.size:=aG q;rw[Heap.get?_push_ne _ _ _ (by rw[g];exact aJ (bT T)),Heap.get?_update_ne _ _ _ _ (aJ T),Heap.get?_push_ne _ _ _ (aJ T)];exact q
 show wpAny _ _ _ _ _ {s with heap:=((s.heap.push LT).update s.heap.objs.size Rs).push Uf};rw[g];refine aA (aR (wpAny_call_entry_kw slot_list_sort ⟨_,U,rfl⟩ entry_list_sort (OV (b:=b) (s:={s with heap:=((s.heap.push LT).update s.heap.objs.size Rs).push Uf}) U (e.keeps keep) Z (by
  rw[show A.in1.in1.units=A.units+2 from rfl];lia) fun ix a1 a2 a3=>⟨_,rfl,?_⟩) (args_list_sort_rev _ _)))
 obtain⟨e1,Y⟩:=sortedAll_at s.heap us (ix.map fun i=>us.getD i Value.none).toArray;exact aB ⟨_,rfl,h _ ix e1 a1 a2 a3 (fun _ _=>sortedAll_old) Y⟩
end
end TH
namespace L2
open PySem PySem.Spec PyProof.Rows
theorem Vals.pick{xs:HQ}{us:FS}(r:Vals xs us):∀ix:List Nat,(∀i∈ix,i<xs.length)->Vals (ix.map fun i=>xs.getD i .Bp) (ix.map fun i=>us.getD i Value.none)
 |[],_=>.nil
 |i::ix,h=>by
  refine .cons ?_ (Vals.pick r ix fun k hk=>h k (aT _ hk));have hi:=h i af;obtain⟨u,T,g⟩:=r.get (i:=i) (x:=xs[i]) (by simp[hi]);show RelV (xs.getD i .Bp) (us.getD i Value.none);rw[List.getD_eq_getElem?_getD,List.getD_eq_getElem?_getD,T,List.getElem?_eq_getElem hi];exact g
section
variable{X:Cx}
def Zu(K:As):List V->Hp->VK->Prop:=fun xs H Q=>∃(p:Addr) (ys:HQ) (t:Tr),xs=[.ref p]/\(Aq K H p ys\/BI K H p ys)/\Ts H t ys/\ys.length<64/\t.deep<=60 /\
 ∀(l:Addr) (g:HQ),H l=none->Ts H (Tr.of (Tr.C5 t.bs)) g->Q (.ref l) (upd H l (.lst g))
theorem WR{pins:Da}{σ:St}{H:Hp}{s:IN}{Q:VK}{t:Tr}{ts:iF}{ys:HQ}{g:FS}{h':Heap}{ix:List Nat}{e1:Nat}(I:Db)(ht:Ts H t ys)(Y:Vals ys g)(U:ys.length<64)
 (a1:ix.length=g.length)(a2:∀i∈ix,i<g.length)(a3:(ix.map fun i=>t.bs.getD i .nil)=ts)(keep:∀c o,s.heap.get? c=some o->h'.get? c=some o)
 (hD:h'.get? IS=some (seqObj "list" (ix.map fun i=>g.getD i Value.none).toArray e1))(q:∀(l:Addr) (zs:HQ),H l=none->Ts H (Tr.of ts) zs->Q (.ref l) (upd H l (.lst zs))) :
  EP X pins σ Q (.ref IS) Pz:=by
 have Z:=Y.length;have T:∀i∈ix,i<ys.length:=fun i hi=>by rw[Z];exact a2 i hi
 refine⟨.ref IS,upd H IS (.lst (ix.map fun i=>ys.getD i .Bp)),I.laid (t':=s.toks) keep (Nat.le_succ _) ⟨?_,_,e1,Y.pick ix T,hD⟩,rfl,q _ _ (I.Av.fresh (Nat.le_succ _)) ?_⟩
 .rw[List.length_map,a1,<-Z];exact bD (aH U PP)
 .rw[<-a3];exact ht.pick ix T
theorem dk{e:Expr}{t:TA}{p pos kp kp2:Pos}{j}(hu:dl)(hg:Gl X "sorted")(hm:X.mg "sorted" = none)(ha:PA X [e] t)
 (he:backTo pos (starEach [e] X.env)=MR::backTo pos (starEach [] X.env):=by rfl)(g:(backTo pos (starEach [e] X.env)).any cx=false:=by rfl) :
  PE X (.Call (.Name "sorted" p) [e] [⟨some "reverse",.Constant KM j kp2,kp⟩] pos) (fun σ H Q=>t σ H fun vs H1=>Zu X.K vs H1 Q):=by
 intro pins s σ H Q I h;refine wpAny_Call_Name_kw (GR I hg hm boot_sorted ?_ BY BY);refine callWith_kw (BU bi fun us s1 ⟨vs,H1,U,r1,q1⟩=>kws_cons (Constant_bool (kws_nil ?_))) he g;obtain⟨p,ys,t,rfl,Z,ht,h64,hd,q⟩:=q1;obtain⟨u,rfl,r2⟩:=r1.one;cases r2;rcases Z with Z|Z
 .obtain⟨Y,T,pl,hz⟩:=U.list Z;have hl:=T.length;exact TH.OU (b:=true) (.inl pl.isList) (ht.vs U T) AS AS fun h' ix e1 a1 a2 a3 keep hD=>WR U ht T h64 a1 a2 a3 keep hD q
 .obtain⟨Y,T,pl,hz⟩:=U.tuple Z;have hl:=T.length;exact TH.OU (b:=true) (.inr (show s1.heap.IsTuple p Y.toArray from pl)) (ht.vs U T) AS AS fun h' ix e1 a1 a2 a3 keep hD=>WR U ht T h64 a1 a2 a3 keep hD q
end
def CW(Pv:Nat->List V->Hp->Prop)(n:Nat)(D:Addr):Nat->Nat->List V->Hp->Prop:=fun i m ys H=>m=n-i/\i<=n/\H D=some Mj/\Pv i ys H
theorem EB{Pv:Nat->List V->Hp->Prop}{n i:Nat}{D:Addr}{ys:HQ}{y:V}{H:Hp}(hi:i<n)(p:Pv SL tQ (upd H D (.lst tQ))):∃g,g<n-i/\CW Pv n D SL g tQ (upd H D (.lst tQ)) :=
 ⟨n-SL,by lia,rfl,hi,AR,p⟩
theorem Xf{Pv:Nat->List V->Hp->Prop}{n i:Nat}{D:Addr}{ys:HQ}{H:Hp}(hi:i<n)(T:H D=some Mj)(p:Pv SL ys H):∃g,g<n-i/\CW Pv n D SL g ys H:=⟨n-SL,by lia,rfl,hi,T,p⟩
theorem Fp{J:It}{n:Nat}{D:Addr}{H1:Hp}{fr:LE}{σ:St}{ix:Nat}{U:TT}{te:TE}{G:Hp->Prop}(Pv:Nat->List V->Hp->Prop)(h0:Pv 0 [] (upd H1 D re))
 (hgo:∀i ys H,i<n->Pv i ys H->H D=some Mj->J.go i H/\ys.length<sizeLine/\∀x H',J.F4 i H x H' ->
   U f8 H' fun b Z=>if b=true then te f8 Z fun y Y=>Y D=some Mj/\∃g,g<n-i/\CW Pv n D SL g tQ (upd Y D (.lst tQ))
    else ∃g,g<n-i/\CW Pv n D SL g ys Z)
 (T:∀ys H,Pv n ys H->H D=some Mj->J.stop n H/\G H) :
  ∃W:Nat->Nat->List V->Hp->Prop,(∃m,W 0 m [] (upd H1 D re)) /\
   ∀i m ys H,W i m ys H->H D=some Mj/\((J.stop i H/\G H)\/(J.go i H/\ys.length<sizeLine/\∀x H',J.F4 i H x H' ->
    U f8 H' fun b Z=>if b=true then te f8 Z fun y Y=>Y D=some Mj/\∃g,g<m/\W SL g tQ (upd Y D (.lst tQ))
     else ∃g,g<m/\W SL g ys Z)):=by
 refine⟨CW Pv n D,⟨n,by simp,Nat.zero_le _,AR,h0⟩,?_⟩;rintro i m ys H ⟨rfl,hi,hH,p⟩;refine⟨hH,?_⟩;by_cases hlt:i<n
 .exact .inr (hgo i ys H hlt p hH)
 .have e:i=n:=by lia
  subst e;exact .inl (T ys H p hH)
section
variable{X:Cx}
theorem NB(hc:oN):FO X (.builtin "sum") (fun xs H Q=>∃(p:Addr) (ns:XV),xs=[.ref p]/\Aq X.K H p oR/\Q (.int ns.sum) H):=by
 intro pins s σ H xs us Q I r h;obtain⟨p,ns,rfl,hq,q⟩:=h;obtain⟨u,rfl,r1⟩:=r.one;cases r1;obtain⟨g,Z,pl,hz⟩:=I.list hq;have hi:=intsAre_of Z;obtain⟨xs,Y⟩:=hi.allInts.items;have T:s.heap.IsList p (intItems xs):=Y ▸ pl.isList
 refine sum_intListG ad T fun h' tk U hk=>?_;have e1:ns=xs.toList.map cx:=by
  rw[<-nums_intItems,<-Y];exact(show numsOf g.toArray.toList=ns from hi.numsOf).symm
 have e2:preSum (numAt xs) xs.size=ns.sum:=by
  rw[preSum_eq,List.take_of_length_le Ch,e1]
 rw[e2];exact⟨.int _,H,I.kept (t':=tk) hk,⟨U,rfl⟩,q⟩
end
section
variable{X:Cx}{scope:Scope}{cl:List (Str×Addr)}{N:MA}{C:Addr}{s₀:IN}{H₀:Hp}{fp:al}
theorem Jd:Pu Ev (da X.K):=C9
end
mutual
def Dt(l:Addr)(H:Hp):PyData->V->Prop
 |.none,v=>v=.Bp
 |.bool b,v=>v=.bl b
 |.int i,v=>v=.int i
 |.str x,v=>v=.str x
 |.tuple g,v=>∃(a:Addr) (xs:HQ),v=.ref a/\a≠l/\H a=some Op/\Ay l H g xs
 |.list g,v=>∃(a:Addr) (xs:HQ),v=.ref a/\a≠l/\H a=some Os/\Ay l H g xs
 |.dict _,_=>False
def Ay(l:Addr)(H:Hp):List PyData->List V->Prop
 |[],xs=>xs=[]
 |d::g,xs=>∃x r,xs=x::r/\Dt l H d x/\Ay l H g r
end
mutual
theorem Dt.but{l:Addr}{H H':Hp}(e:SameBut l H H'):∀ {d:KB} {v:V},Dt l H d v->Dt l H' d v
 |.none,_,h=>by rw[Dt]at h ⊢;exact h
 |.bool _,_,h=>by rw[Dt]at h ⊢;exact h
 |.int _,_,h=>by rw[Dt]at h ⊢;exact h
 |.str _,_,h=>by rw[Dt]at h ⊢;exact h
 |.tuple _,_,h=>by
  rw[Dt]at h ⊢;obtain⟨a,xs,U,n,T,g⟩:=h;exact⟨a,xs,U,n,e _ _ n T,Ay.but e g⟩
 |.list _,_,h=>by
  rw[Dt]at h ⊢;obtain⟨a,xs,U,n,T,g⟩:=h;exact⟨a,xs,U,n,e _ _ n T,Ay.but e g⟩
 |.dict _,_,h=>by rw[Dt]at h;exact h.elim
theorem Ay.but{l:Addr}{H H':Hp}(e:SameBut l H H'):∀ {ds:By} {xs:HQ},Ay l H ds xs->Ay l H' ds xs
 |[],_,h=>by rw[Ay]at h ⊢;exact h
 |_::_,_,h=>by
  rw[Ay]at h ⊢;obtain⟨x,r,U,T,g⟩:=h;exact⟨x,r,U,Dt.but e T,Ay.but e g⟩
end
theorem Dt.same{l:Addr}{H H':Hp}{d:KB}{v:V}(h:Dt l H d v)(e:AK H H'):Dt l H' d v:=Dt.but (.of e) h
theorem Ay.same{l:Addr}{H H':Hp}{d:By}{v:HQ}(h:Ay l H d v)(e:AK H H'):Ay l H' d v:=Ay.but (.of e) h
theorem Ay.len{l:Addr}{H:Hp}:∀ {ds:By} {xs:HQ},Ay l H ds xs->xs.length=ds.length
 |[],_,h=>by rw[Ay]at h;rw[h];rfl
 |_::_,_,h=>by
  rw[Ay]at h;obtain⟨x,r,rfl,_,g⟩:=h;rw[List.length_cons,List.length_cons,Ay.len g]
theorem Ay.get{l:Addr}{H:Hp}:∀ {ds:By} {xs:HQ} {i:Nat} {v:V},Ay l H ds xs->xs[i]? = some v->∃d,ds[i]? = some d/\Dt l H d v
 |[],_,i,v,h,e=>by rw[Ay]at h;subst h;simp at e
 |d::ds,_,i,v,h,e=>by
  rw[Ay]at h;obtain⟨x,r,rfl,Y,U⟩:=h;cases i with
  |zero=>simp at e;subst e;exact⟨d,rfl,Y⟩
  |succ i=>
   obtain⟨c,T,g⟩:=U.get (i:=i) (v:=v) (by simpa using e);exact⟨c,by simpa using T,g⟩
theorem Ay.nil{l:Addr}{H:Hp}:Ay l H [] []:=by rw[Ay]
theorem Ay.cons{l:Addr}{H:Hp}{d:KB}{ds:By}{x:V}{xs:HQ}(h:Dt l H d x)(k:Ay l H ds xs):Ay l H (d::ds) (x::xs):=by
 rw[Ay];exact⟨x,xs,rfl,h,k⟩
theorem Ay.app{l:Addr}{H:Hp}:∀ {ds es:By} {xs ys:HQ},Ay l H ds xs->Ay l H es ys->Ay l H (ds++es) (xs++ys)
 |[],_,_,_,h,k=>by rw[Ay]at h;subst h;exact k
 |d::ds,es,_,ys,h,k=>by
  rw[Ay]at h;obtain⟨x,r,rfl,T,g⟩:=h;exact .cons T (g.app k)
theorem Dt.int{l:Addr}{H:Hp}{i:Int}:Dt l H (.int i) (.int i):=by rw[Dt]
theorem Dt.bool{l:Addr}{H:Hp}{b:Bool}:Dt l H (.bool b) (.bl b):=by rw[Dt]
theorem Dt.Bp{l:Addr}{H:Hp}:Dt l H .none .Bp:=by rw[Dt]
theorem Dt.str{l:Addr}{H:Hp}{x:Str}:Dt l H (.str x) (.str x):=by rw[Dt]
theorem Dt.tup{l a:Addr}{H:Hp}{ds:By}{xs:HQ}(n:a≠l)(h:H a=some Op)(k:Ay l H ds xs):Dt l H (.tuple ds) Mt:=by rw[Dt];exact⟨a,xs,rfl,n,h,k⟩
theorem Dt.lst{l a:Addr}{H:Hp}{ds:By}{xs:HQ}(n:a≠l)(h:H a=some Os)(k:Ay l H ds xs):Dt l H (.list ds) Mt:=by rw[Dt];exact⟨a,xs,rfl,n,h,k⟩
def Ok(n:Nat)(d:KB):Prop:=d.canLay0=true/\d.depth<=n
def gg(n:Nat)(ds:By):Prop:=PyData.canLayAll0 ds=true/\PyData.depthAll ds<=n
theorem Ok.shaped{n:Nat}{d:KB}(h:Ok n d)(hn:n<=64):SeqAt.shaped d=true:=by
 unfold SeqAt.shaped;rw[h.1,Bool.true_and];exact decide_eq_true (aQ h.2 hn)
theorem Ok.tup{n:Nat}{ds:By}(h:gg n ds):Ok (n+1) (.tuple ds):=⟨by simp only[PyData.canLay0];exact h.1,by simp only[PyData.depth];exact Nat.succ_le_succ h.2⟩
theorem Ok.int{n:Nat}{i:Int}:Ok n (.int i):=⟨by simp[PyData.canLay0],by simp[PyData.depth]⟩
mutual
theorem NF:∀d:PyData,d.canLay0=true->PyData.eqv d d=true
 |.none,_=>by simp[PyData.eqv]
 |.bool _,_=>by simp[PyData.eqv]
 |.int _,_=>by simp[PyData.eqv]
 |.str _,_=>by simp[PyData.eqv]
 |.tuple g,h=>by simp only[PyData.eqv];exact MF g (by simpa only[PyData.canLay0]using h)
 |.list g,h=>by simp only[PyData.eqv];exact MF g (by simpa only[PyData.canLay0]using h)
 |.dict _,h=>by simp[PyData.canLay0]at h
theorem MF:∀ds:List PyData,PyData.canLayAll0 ds=true->PyData.eqvAll ds ds=true
 |[],_=>by simp[PyData.eqvAll]
 |d::ds,h=>by
  simp only[PyData.canLayAll0,Bool.and_eq_true]at h;simp only[PyData.eqvAll,NF d h.1,MF ds h.2,Bool.and_self]
end
def Ql:PyData->String
 |.none => "NoneType"
 |.bool _ => "bool"
 |.int _ => "int"
 |.str _ => "str"
 |.tuple _ => "tuple"
 |.list _ => "list"
 |.dict _ => "dict"
theorem Dt.ty{K:As}{l:Addr}{H:Hp}:∀ {d:KB} {v:V},Dt l H d v->II K H v (.type (Ql d))
 |.none,_,h=>by rw[Dt]at h;subst h;exact .Bp
 |.bool _,_,h=>by rw[Dt]at h;subst h;exact .bl _
 |.int _,_,h=>by rw[Dt]at h;subst h;exact .int _
 |.str _,_,h=>by rw[Dt]at h;subst h;exact .str _
 |.tuple _,_,h=>by rw[Dt]at h;obtain⟨a,xs,rfl,_,g,_⟩:=h;exact .tup g
 |.list _,_,h=>by rw[Dt]at h;obtain⟨a,xs,rfl,_,g,_⟩:=h;exact .lst g
 |.dict _,_,h=>by rw[Dt]at h;exact h.elim
def FQ:PyData->Bool
 |.tuple _=>true
 |_=>false
def FJ:PyData->Bool
 |.list _=>true
 |_=>false
def Jx:PyData->Bool
 |.int _=>true
 |.bool _=>true
 |_=>false
def IT:PyData->Bool
 |.bool _=>true
 |_=>false
theorem Ld(K:As):∀d:PyData,(∀g,d≠.dict g)->PySem.W.kitOne K (.type (Ql d)) IF=some (FQ d)
 |.none,_=>j5 K
 |.bool _,_=>ky K
 |.int _,_=>nU K
 |.str _,_=>oC K
 |.tuple _,_=>kX K
 |.list _,_=>nW K
 |.dict g,h=>absurd rfl (h g)
theorem Qc(K:As):∀d:PyData,(∀g,d≠.dict g)->PySem.W.kitOne K (.type (Ql d)) me=some (FJ d)
 |.none,_=>kj K
 |.bool _,_=>kq K
 |.int _,_=>nO K
 |.str _,_=>mw K
 |.tuple _,_=>nQ K
 |.list _,_=>mE K
 |.dict g,h=>absurd rfl (h g)
theorem lV(K:As):PySem.W.kitOne K (.type "NoneType") (.type "bool")=some false:=by kernel_rfl
theorem mY(K:As):PySem.W.kitOne K (.type "str") (.type "bool")=some false:=by kernel_rfl
theorem mH(K:As):PySem.W.kitOne K IF (.type "bool")=some false:=by kernel_rfl
theorem mf(K:As):PySem.W.kitOne K me (.type "bool")=some false:=by kernel_rfl
theorem WQ(K:As):∀d:PyData,(∀g,d≠.dict g)->PySem.W.kitOne K (.type (Ql d)) (.type "int")=some (Jx d)
 |.none,_=>lq K
 |.bool _,_=>oJ K
 |.int _,_=>k8 K
 |.str _,_=>lx K
 |.tuple _,_=>kx K
 |.list _,_=>kO K
 |.dict g,h=>absurd rfl (h g)
theorem Tp(K:As):∀d:PyData,(∀g,d≠.dict g)->PySem.W.kitOne K (.type (Ql d)) (.type "bool")=some (IT d)
 |.none,_=>lV K
 |.bool _,_=>lA K
 |.int _,_=>ni K
 |.str _,_=>mY K
 |.tuple _,_=>mH K
 |.list _,_=>mf K
 |.dict g,h=>absurd rfl (h g)
theorem Dt.nodict{l:Addr}{H:Hp}{d:KB}{v:V}(h:Dt l H d v):∀g,d≠.dict g:=fun g z=>by subst z;rw[Dt]at h;exact h
end L2
namespace Tr
theorem Qg{t c:Tr}(h:c∈t.bs):c.deep<t.deep:=by
 induction t with
 |nil=>cases h
 |cons b r _ g=>
  rw[bs]at h;have hd:(cons b r).deep=max (b.deep+1) r.deep:=rfl;rcases aO.mp h with rfl|h
  .lia
  .have:=g h;lia
theorem D4:∀t:Tr,0<t.AQ
 |.nil=>Nat.one_pos
 |.cons b r=>by rw[AQ];have:=D4 b;lia
theorem Lr{t c:Tr}(h:c∈t.bs):c.AQ<t.AQ:=by
 induction t with
 |nil=>cases h
 |cons b r _ g=>
  rw[bs]at h;have hk:(cons b r).AQ=b.AQ+r.AQ:=rfl;have U:=D4 b;have T:=D4 r;rcases aO.mp h with rfl|h
  .lia
  .have:=g h;lia
theorem UH:∀t:Tr,1+(t.bs.map fun c=>(c.AQ:Int)).sum=(t.AQ:Int)
 |.nil=>rfl
 |.cons b r=>by
  rw[bs,List.map_cons,List.sum_cons,AQ];have:=UH r
  lia
theorem Od:∀t:Tr,t.bs.length<t.AQ
 |.nil=>Nat.one_pos
 |.cons b r=>by
  rw[bs,List.length_cons,AQ];have:=Od r;have:=D4 b
  lia
end Tr
namespace L2
open PySem PySem.Spec PyProof.Rows
mutual
def HY:PyData->Option Tr
 |.tuple g=>Em g
 |_=>none
def Em:List PyData->Option Tr
 |[]=>some .nil
 |d::g=>(HY d).bind fun b=>(Em g).map fun r=>.cons b r
end
section
variable{X:Cx}
def pA:R2:=fun x y H Q=>∃a b xs ys,x=.ref a/\y=.ref b/\H a=some Op/\H b=some (.tup ys)/\xs.length+ys.length<=sizeLine/\∀p H',AK H H'->H' p=some (.tup (xs++ys))->Q (.ref p) H'
theorem iJ:C8 X (binaryOp .Add) pA:=by
 intro pins s σ H x y v u Q I rx ry h;obtain⟨a,b,xs,ys,rfl,rfl,ha,hb,hz,q⟩:=h;cases rx;cases ry;obtain⟨its,r1,p1,_⟩:=I.tuple (BI.of (K:=X.K) ha);obtain⟨its2,Z,p2,_⟩:=I.tuple (BI.of (K:=X.K) hb);by_cases hv:its=[]
 .have hx:=r1.XY.mp hv;subst hv hx;obtain⟨⟨cls,dd,data,sl⟩,ho,hc,n,hd⟩:=id p1;obtain⟨⟨cls2,dd2,data2,Y⟩,g,U,n2,T⟩:=id p2;simp only at hc hd U T;subst hc hd U T;exact concat_meets ⟨_,ho,rfl⟩ ⟨_,g,rfl⟩ noFill_tuple_add seq_tuple_add PySem.F.slot_tuple_add PySem.F.entry_tuple_add (PySem.F.args_tuple_add_2 _ _)
   (tuple_addW0 a b _ _ n n2 dd dd2 sl Y Ch) ⟨ho,g,⟨.ref b,H,I,rfl,q b H (.refl H) (by simpa using hb)⟩⟩
 .refine HT.jZ p1 p2 hv (fun z=>?_) (fun z=>?_) (by rw[<-r1.length,<-Z.length];exact hz)
  .have hy:=Z.XY.mp z;subst hy;exact⟨.ref a,H,I,rfl,q a H (.refl H) (by simpa using ha)⟩
  .refine⟨.ref s.heap.objs.size,_,I.laid (t':=s.toks) (o:=.tup (xs++ys)) (fun b ob q=>aF _ q) em ?_,rfl,q _ _ (Ak (I.Av.fresh em) _) AR⟩;exact⟨by rw[List.length_append];exact hz,_,r1.append Z,IsTup.new _ _⟩
end
end L2
namespace Tim
open PySem PyProof.Rows
section pure
end pure
section
section pure
end pure
section pure
end pure
end
end Tim
set_option maxHeartbeats 0
set_option maxHeartbeats 4000000
namespace L2
open PySem PySem.Spec PyProof.Rows
abbrev Ph(x y:Str)(U T:Pos)(tk:Nat)(g:Pos):Expr:=.Tuple [.Name x U,.Name y T] tk g
theorem iO{ix g:Nat}(h:ix≠g)(σ:St)(a b c d:Option V):((((σ.set ix a).set g b).set ix c).set g d)=(σ.set ix c).set g d:=by
 rw[List.set_comm _ _ h.symm,List.set_set,List.set_set]
def M6(K:As)(wi:TI)(fr:LE)(ix Z:Nat)(Y:TT)(te:TE):TE:=fun σ H Q=>wi σ H fun J H1=>∀D,H1 D=none->∃W:Nat->Nat->List V->Hp->Prop,(∃m,W 0 m [] (upd H1 D re)) /\
 ∀i m ys H,W i m ys H->H D=some Mj/\((J.stop i H/\Q (.ref D) H)\/(J.go i H/\ys.length<sizeLine/\∀x H',J.F4 i H x H'->∃a U T,x=.ref a/\BI K H' a [U,T] /\
  Y (((carry fr σ).set ix (some U)).set Z (some T)) H' fun b H2=>if b=true then te (((carry fr σ).set ix (some U)).set Z (some T)) H2 fun y H3=>H3 D=some Mj/\∃g,g<m/\W SL g tQ (upd H3 D (.lst tQ))
   else ∃g,g<m/\W SL g ys H2))
section
variable{X:Cx}{elt iter:Expr}{x y:Str}{px py tp pos:Pos}{tk:Nat}{ifs:Ov}{scope:Scope}{wi:TI}{fr:LE}{ix iy:Nat}{tif:TT}{te:TE}{N:MA}
theorem Px{pins:Da}{σ:St}{Y:Hp}{s2:IN}{Q:VK}{it:Addr}{fp:al}{tn:Nat->Heap->Prop}{J:It}{cl:List (Str×Addr)}{E:AT}{RR:Value->Addr->Result->Shared->Prop}
 (S:D8 scope N x ix)(S2:D8 scope N y iy)(hxy:ix≠iy)(U:oN)(hfr:uO)(hlen:fr.length=N.length)
 (hif:uX)(he:uZ)
 (I2:Inv X pins σ Y s2)(T:Turn X.prog X.w X.K (Ph x y px py tk tp) J fp it tn)(st2:tn 0 s2.heap)(f2:∀b∈fp,MJ X pins Y b)
 (c1:∀x c,cl.lookup x=some c->X.env.cells.lookup x=some c)(c2:∀x∈scope.names,x.2=NameKind.free->∃c,cl.lookup x.1=some c)
 (W:∀D,Y D=none->∃W:Nat->Nat->List V->Hp->Prop,(∃m,W 0 m [] (upd Y D re)) /\
   ∀i m ys H,W i m ys H->H D=some Mj/\((J.stop i H/\Q (.ref D) H)\/(J.go i H/\ys.length<sizeLine/\∀x H',J.F4 i H x H'->∃a v1 v2,x=.ref a/\BI X.K H' a [v1,v2] /\
    tif (((carry fr σ).set ix (some v1)).set iy (some v2)) H' fun b Y=>if b=true then te (((carry fr σ).set ix (some v1)).set iy (some v2)) Y fun y H3=>H3 D=some Mj/\∃m',m'<m/\W SL m' tQ (upd H3 D (.lst tQ))
     else ∃m',m'<m/\W SL m' ys Y)))
 (fin:uU) :
  wpAny EQ X.A (newList []) (fun acc s₃=>wpAny EQ X.A tf (fun Z s₄=>
   codeAny EQ X.A (.compStart TW 0 (.ref it) acc {Z with scope:=relabel scope X.env}) (RR acc Z.locals) s₄) E s₃) E s2:=by
 have hxv:(relabel scope X.env).names.lookup x=some .local:=lookup_relabel_local S.loc;have hyv:(relabel scope X.env).names.lookup y=some .local:=lookup_relabel_local S2.loc;refine Po (g:=Y8 X.K 2 (MB (Dj ix) (MB (Dj iy) ZG))) S U (fun σ'=>∀v w,(σ'.set ix v).set iy w=((carry fr σ).set ix v).set iy w) Fr (fun C=>Jw (X:=A3 X scope cl N C s2 Y fp) U (CM (A5 (X:=A3 X scope cl N C s2 Y fp) S.nd S.at_ (.inl hxv) (.inr hxv)) (CM (A5 (X:=A3 X scope cl N C s2 Y fp) S2.nd S2.at_ (.inl hyv) (.inr hyv)) IU))) hfr hlen hif he I2 T st2 f2 c1 c2 (fun D hD=>?_) fin;obtain⟨W,w0,st⟩:=W D hD;refine⟨W,w0,fun i m ys H w=>?_⟩;obtain⟨h1,h2|⟨h2,h3,h4⟩⟩:=st i m ys H w
 .exact⟨h1,.inl h2⟩
 .refine⟨h1,.inr ⟨h2,h3,fun x H' hy σ' hr=>?_⟩⟩;obtain⟨a,v1,v2,rfl,hs,q⟩:=h4 x H' hy;rw[<-hr]at q;exact⟨a,[v1,v2],rfl,hs,rfl,v1,[v2],rfl,v2,[],rfl,rfl,fun v w=>by rw[iO hxy,hr],q⟩
theorem ej(S:D8 scope N x ix)(S2:D8 scope N y iy)(hxy:ix≠iy)(Z:oN)(hfr:uO)(hlen:fr.length=N.length)(U:∀y∈scope.names,y.2=.free->X.env.scope.names.lookup y.1=some .cell\/X.env.scope.names.lookup y.1=some .free)
 (hi:PI X (Ph x y px py tk tp) iter wi)(hif:uX)(he:uZ)
 (hs:∀x,foldedSetIterable iter X.env x=pure x:=by intro _;rfl):PE X TW (M6 X.K wi fr ix iy tif te):=by
 intro pins s σ H Q I hw;obtain⟨cl,Y,c1,_,c2⟩:=HE (env:=X.env) scope.names [] (fun y hy hf=>I.ok.has y.1 (U y hy hf)) (fun y c z=>by cases z);have g:closureFor scope X.env=pure cl:=by
  have e:closureFor scope X.env=Ty:=rfl;rw[e,Y]
  rfl
 rw[eval_ListComp];refine wpAny_comprehension_free (use:=none) rfl hs g S.kind S.names (BU (hi pins s σ H _ I hw) fun v s1 h1=>BU h1 fun itv s2 h2=>?_);obtain⟨it,fp,tn,J,H2,e,I2,T,st2,f2,W⟩:=h2;subst e;refine Px (RR:=fun acc C=>compPost EQ X.A X.xe none l7 acc C) S S2 hxy Z hfr hlen hif he I2 T st2 f2 c1 c2 W ?_;intro D C s' H' m hn q hI _ _ _ _;exact⟨m,hn,fun h' hs'=>⟨.ref D,H',hI h' hs',rfl,q⟩⟩
theorem Wz{i : Nat}{z : Str}{pz spos : Pos}(hN : X.N.Nodup)(hy : X.N[i]? = some z)(hly : X.env.scope.names.lookup z = some .local)(S : D8 scope N x ix)(S2 : D8 scope N y iy)(hxy : ix≠iy)(hcalm : X.calm = true)(hfr : F0 N X.N scope X.env.scope fr 0 = true)(hlen : fr.length = N.length)
 (hfree : ∀ y∈scope.names,y.2 = .free->X.env.scope.names.lookup y.1 = some .cell\/X.env.scope.names.lookup y.1 = some .free)
 (hi : PI X (Ph x y px py tk tp) iter wi)(hif : ∀ cl C s₀ H₀ fp,MC Ev ifs tif)(he : ∀ cl C s₀ H₀ fp,PE Ev elt te)
 (hsw : swapsWith TW (some (.Name z pz)) spos.line X.env = pure true:=by rfl)
 (hs : ∀ x,foldedSetIterable iter X.env x = pure x:=by intro _; rfl) :
    PS X (.Assign [.Name z pz] TW spos) (SI (M6 X.K wi fr ix iy tif te) (Dj i)):=by
  intro pins s σ H D I hw
  obtain ⟨cl,hclos,c1,_,c2⟩:=HE (env:=X.env) scope.names [] (fun y hy hf => I.ok.has y.1 (hfree y hy hf)) (fun y c z => by cases z)
  have hclos' : closureFor scope X.env = pure cl:=by
    have e : closureFor scope X.env = SB:=rfl
    rw [e,hclos]
    rfl
  rw [exec_Assign_Name_used _ _ _ _ hsw]
  refine aA (wpAny_standAt (aA ?_))
  show wpAny _ X.A (do let _ <- comprehension TW scope X.env _ (newList []) false (eval iter X.env) (some (assign (.Name z pz) X.env))) _ _ s
  refine aA (aX (wpAny_comprehension_free (use:=some (assign (.Name z pz) X.env)) (Q:=fun _ s' => SP X pins D .next s') rfl hs hclos' S.kind S.names
    (BU (hi pins s σ H _ I hw) fun v s1 h1 => BU h1 fun itv s2 h2 => ?_)) (fun _ s' hq => aB (aB hq)) fun _ _ e => e)
  obtain ⟨it,fp,tn,J,H2,e,I2,T,st2,f2,W⟩:=h2
  subst e
  refine Px (Q:=fun x H1 => Dj i x σ H1 D.nx) (RR:=fun acc C => compPost EQ X.A X.xe (some (assign (.Name z pz) X.env)) (fun _ s' => SP X pins D .next s') acc C) S S2 hxy hcalm hfr hlen hif he I2 T st2 f2 c1 c2 W ?_
  intro D' C s' H' m hn q hI hCD hold hfreeC hsz
  have I5 : Inv X pins σ H' s':=hI s'.heap (Heap.SameBut.refl ..)
  refine wpAny_assign_Name (Ol I5 hN hy (.inl hly) (v:=.ref D') rfl (fun s'' I6 ⟨a,hsb,ha⟩ => ?_) (.inr hly))
  have hL : C≠X.env.locals:=fun z => by
    obtain ⟨_,⟨o,_,_,e,_⟩,_⟩:=I2.loc
    exact hold _ _ e z.symm
  have hcl : ∀ z c,X.env.cells.lookup z = some c->c≠C:=fun z c e => by
    obtain ⟨_,o,ho,_⟩:=I2.cell z c e
    exact hold _ _ ho
  have hCa : C≠a:=by
    rcases ha with z | z
    . rw [z]; exact hL
    . exact Ne.symm (hcl _ _ z)
  refine ⟨m,hn.sameBut hsb hCa,fun h' hs' => ⟨_,H',I6.turned (t':=s''.toks) (it:=C) (fun b o hb e => (hs'.2 b hb).trans e) hfreeC hL (.inr (aQ I2.sz hsz)) hcl fun p hp => ?_,q⟩⟩
  obtain ⟨e,_⟩:=I2.pin p hp
  exact hold _ _ e
end
section
variable{X:Cx}{elt iter:Expr}{x y:Str}{px py tp pos:Pos}{tk:Nat}{ifs:Ov}{scope:Scope}{wi:TI}{tif:TT}{te:TE}
theorem OE(N:MA)(ix g:Nat)(fr:LE)(hi:PI X (Ph x y px py tk tp) iter wi)(U:uX)(he:uZ)
 (h1:B0 scope N x ix=true:=by decide +kernel)(Y:B0 scope N y g=true:=by decide +kernel)(T:ix≠g:=by decide)(h2:X.calm=true:=by rfl)(h3:F0 N X.N scope X.env.scope fr 0=true:=by rfl)(h4:fr.length=N.length:=by rfl)(h5:freeOk X.env.scope scope.names=true:=by rfl)
 (Z:∀x,foldedSetIterable iter X.env x=pure x:=by intro _;rfl):PE X La (M6 X.K wi fr ix g tif te) :=
 ej (Fl h1) (Fl Y) T h2 h3 h4 (Ll h5) hi U he Z
theorem VJ{i:Nat}{z:Str}{pz g:Pos}(N:MA)(ix T:Nat)(fr:LE)(hN:X.N.Nodup)(hy:X.N[i]? = some z)(Z:X.env.scope.names.lookup z=some .local)
 (hi:PI X (Ph x y px py tk tp) iter wi)(hif:uX)(he:uZ)
 (h1:B0 scope N x ix=true:=by decide +kernel)(h1':B0 scope N y T=true:=by decide +kernel)(U:ix≠T:=by decide)(h2:X.calm=true:=by rfl)(h3:F0 N X.N scope X.env.scope fr 0=true:=by rfl)(h4:fr.length=N.length:=by rfl)(h5:freeOk X.env.scope scope.names=true:=by rfl)
 (Y:swapsWith La (some (.Name z pz)) g.line X.env=pure true:=by rfl)
 (hs:∀x,foldedSetIterable iter X.env x=pure x:=by intro _;rfl):PS X (.Assign [.Name z pz] La g) (SI (M6 X.K wi fr ix T tif te) (Dj i)) :=
 Wz hN hy Z (Fl h1) (Fl h1') U h2 h3 h4 (Ll h5) hi hif he Y hs
end
theorem Qr{K:As}{J:It}{n:Nat}{D:Addr}{H1:Hp}{fr:LE}{σ:St}{ix iy:Nat}{Z:TT}{te:TE}{G:Hp->Prop}(Pv:Nat->List V->Hp->Prop)(h0:Pv 0 [] (upd H1 D re))
 (hgo:∀i ys H,i<n->Pv i ys H->H D=some Mj->J.go i H/\ys.length<sizeLine/\∀x H',J.F4 i H x H'->∃a U T,x=.ref a/\BI K H' a [U,T] /\
   Z uE H' fun b H2=>if b=true then te uE H2 fun y H3=>H3 D=some Mj/\∃g,g<n-i/\CW Pv n D SL g tQ (upd H3 D (.lst tQ))
    else ∃g,g<n-i/\CW Pv n D SL g ys H2)
 (Y:∀ys H,Pv n ys H->H D=some Mj->J.stop n H/\G H) :
  ∃W:Nat->Nat->List V->Hp->Prop,(∃m,W 0 m [] (upd H1 D re)) /\
   ∀i m ys H,W i m ys H->H D=some Mj/\((J.stop i H/\G H)\/(J.go i H/\ys.length<sizeLine/\∀x H',J.F4 i H x H'->∃a U T,x=.ref a/\BI K H' a [U,T] /\
    Z uE H' fun b H2=>if b=true then te uE H2 fun y H3=>H3 D=some Mj/\∃g,g<m/\W SL g tQ (upd H3 D (.lst tQ))
     else ∃g,g<m/\W SL g ys H2)):=by
 refine⟨CW Pv n D,⟨n,by simp,Nat.zero_le _,AR,h0⟩,?_⟩;rintro i m ys H ⟨rfl,hi,hH,p⟩;refine⟨hH,?_⟩;by_cases hlt:i<n
 .exact .inr (hgo i ys H hlt p hH)
 .have:i=n:=by lia
  subst this;exact .inl (Y ys H p hH)
end L2
namespace ZT
open PySem PyProof.Rows
structure Apart(z TI TO i1 i2:Addr)(f1 f2:al):Prop where
 a1:TI≠z/\TI≠TO/\TI≠i1/\TI≠i2
 a2:TO≠z/\TO≠i1/\TO≠i2
 a3:i1≠z/\i2≠z/\i1≠i2
 b1:z ∉ f1/\TO ∉ f1/\i2 ∉ f1
 b2:z ∉ f2/\TO ∉ f2/\i1 ∉ f2
section
variable{prog:Io}{w:Mw}{A:Re}{E:AT}{s:IN}{z TI TO i1 i2:Addr}{f1 f2:al}{n1 n2 k:Nat}{P1 P2:Nat->Value->Prop}{S1 S2:Nat->Heap->Prop}{a b:Nh}
theorem An{f:al}{x:Addr}{h h':Heap}(g:x ∉ f)(e:Heap.SameBut x h h'):∀c∈f,∀o,h.get? c=some o->h'.get? c=some o:=fun c T o q=>(e.2 c fun y=>g (y ▸ T)).trans q
theorem item{Q:AT}(D1:uR)(D2:uS)(ap:sw)(hz:kS)(hI:Nk)(hO:IsPair s.heap TO a b)
 (t1:S1 k s.heap)(t2:S2 k s.heap)(l1:k<n1)(l2:k<n2)
 (q:∀x y h' tk,P1 k x->P2 k y->IsZip h' z TI TO (rawInt s.heap.objs.size)->IsPair h' TO x y->S1 oF h'->S2 oF h'->IsPair h' s.heap.objs.size x y->h'.objs.size=s.heap.objs.size+1 ->
   (∀c o,c≠z->c≠TO->c≠i1->c≠i2->s.heap.get? c=some o->h'.get? c=some o)->Q GE KT) :
  wpAny At A cr (fun fin s'=>∃v,fin=.done (.ret v)/\Q v s') E s:=by
 obtain⟨⟨c1,c2,c3,c4⟩,⟨c5,c6,c7⟩,⟨c8,c9,c10⟩,⟨d1,d2,d3⟩,d4,d5,d6⟩:=ap;show wpAny _ _ (field SC 2>>=_) _ _ _;refine aA (aW hz rfl (x:=.bool false) rfl ?_);show wpAny _ _ (field SC 3>>=_) _ _ _;refine aA uI;show wpAny _ _ uc _ _ _;unfold Builtin.SmallTypes.ownedTupleIsFree;refine aA (aA (aW hz rfl (x:=.none) rfl ge));simp only[if_true];refine aA (bR (aA (aW hz rfl (x:=.ref TO) rfl (aA (aj hz Ch fun g1 z1 Y=>aA ?_)))));have Y:Heap.SameBut z s.heap g1:=Y;have z1:IsZip g1 z TI TO .ellipsis:=z1;simp only[List.zipIdx_cons,List.zipIdx_nil,List.forIn_cons,List.forIn_nil];refine aA (aA (bQ ?_));show wpAny _ _ im _ _ _;refine aA (D1.item k _ _ _ l1 (D1.frame _ _ _ t1 (An d1 Y)) fun x g2 tk2 p1 u1 U=>aB ?_);have o2:IsPair g2 TO a b:=(U.2 _ c6).trans ((Y.2 _ c5).trans hO);refine aA (aV o2 rfl (aA (wpAny_updateSeq_pair o2 fun g3 o3 T=>aA (wpAny_letGo ge))));have o3:IsPair g3 TO x b:=o3;have t2':S2 k g3:=D2.frame _ _ _ (D2.frame _ _ _ (D2.frame _ _ _ t2 (An d4 Y)) (An d6 U)) (An d5 T);refine aA (aA (bQ ?_));show wpAny _ _ WF _ _ _;refine aA (D2.item k _ _ _ l2 t2' fun y g4 tk4 p2 u2 m4=>aB ?_);have T:Heap.SameBut TO g2 g3:=T;have m4:Heap.SameBut i2 g3 g4:=m4;have o4:IsPair g4 TO x b:=(m4.2 _ c7).trans o3;refine aA (aV o4 rfl (aA (wpAny_updateSeq_pair o4 fun g o5 m5=>aA (wpAny_letGo (aB ge)))));have m5:Heap.SameBut TO g4 g:=m5;have o5:IsPair g TO x y:=o5;refine aA (aV o5 rfl (aA (wpAny_newTuple ?_)));have U:Heap.SameBut i1 g1 g2:=U;have sz:g.objs.size=s.heap.objs.size:=by rw[m5.1,m4.1,T.1,U.1,Y.1]
 have z5:IsZip g z TI TO .ellipsis:=(m5.2 _ c5.symm).trans ((m4.2 _ c9.symm).trans ((T.2 _ c5.symm).trans ((U.2 _ c8.symm).trans z1)));have kp:∀c o,c≠z->c≠TO->c≠i1->c≠i2->s.heap.get? c=some o->g.get? c=some o:=fun c o Z e2 e3 e4 e=>(m5.2 _ e2).trans ((m4.2 _ e4).trans ((T.2 _ e2).trans ((U.2 _ e3).trans ((Y.2 _ Z).trans e))));have v1:S1 oF g:=D1.frame _ _ _ (D1.frame _ _ _ (D1.frame _ _ _ u1 (An d2 T)) (An d3 m4)) (An d2 m5);have v2:S2 oF g:=D2.frame _ _ _ u2 (An d5 m5);show wpAny _ _ (Builtin.SmallTypes.ownedTupleHandOut SC (.ref g.objs.size)>>=_) _ _ _;unfold Builtin.SmallTypes.ownedTupleHandOut;have z6:IsZip (g.push { cls:=.type "tuple",data:=.seq #[x,y]}) z TI TO .ellipsis:=aF _ z5;refine aA (aA (aj z6 Ch fun g7 z7 m7=>aj (show IsZip g7 z TI TO (rawInt g.objs.size) from z7) Ch fun g8 z8 m8=>?_));have z8:IsZip g8 z TI TO (rawInt g.objs.size):=z8;have up:∀c o,c≠z->(g.push { cls:=.type "tuple",data:=.seq #[x,y]}).get? c=some o->g8.get? c=some o:=fun c o Z e=>(m8.2 _ Z).trans ((m7.2 _ Z).trans e);have zl:z<g.objs.size:=aG z5;refine aB ⟨_,rfl,?_⟩;show Q (.ref g.objs.size) _;have fin:=q x y g8 tk4 p1 p2 (by rw[<-sz];exact z8) (up _ _ c5 (aF _ o5)) (D1.frame _ _ _ v1 fun c hc o e=>up c o (fun y=>d1 (y ▸ hc)) (aF _ e)) (D2.frame _ _ _ v2 fun c hc o e=>up c o (fun y=>d4 (y ▸ hc)) (aF _ e))
  (by rw[<-sz];exact up _ _ (aq zl) (aL _ rfl)) (by rw[<-sz,m8.1,m7.1,Heap.size_push]) fun c o Z e2 e3 e4 e=>up c o Z (aF _ (kp c o Z e2 e3 e4 e))
 rw[sz];exact fin
theorem ended{Q:Fin->Shared->Prop}(D1:uR)(D2:uS)(ap:sw)(hz:kS)(hI:Nk)(hO:IsPair s.heap TO a b)
 (t1:S1 k s.heap)(t2:S2 k s.heap)(he:k=n1\/(k<n1/\k=n2))
 (q:∀h' e tk,td->(∃o,h'.get? e=some o/\o.cls=.type "StopIteration")->E (.ref e) KT) :
  wpAny At A cr Q E s:=by
 obtain⟨⟨c1,c2,c3,c4⟩,⟨c5,c6,c7⟩,⟨c8,c9,c10⟩,⟨d1,d2,d3⟩,d4,d5,d6⟩:=ap;show wpAny _ _ (field SC 2>>=_) _ _ _;refine aA (aW hz rfl (x:=.bool false) rfl ?_);show wpAny _ _ (field SC 3>>=_) _ _ _;refine aA uI;show wpAny _ _ uc _ _ _;unfold Builtin.SmallTypes.ownedTupleIsFree;refine aA (aA (aW hz rfl (x:=.none) rfl ge));simp only[if_true];refine aA (bR (aA (aW hz rfl (x:=.ref TO) rfl (aA (aj hz Ch fun g1 z1 Z=>aA ?_)))));have Z:Heap.SameBut z s.heap g1:=Z;have z1:IsZip g1 z TI TO .ellipsis:=z1;simp only[List.zipIdx_cons,List.zipIdx_nil,List.forIn_cons,List.forIn_nil];refine aA (aA (bQ ?_));show wpAny _ _ im _ _ _;have Y:=D1.frame _ _ _ t1 (An d1 Z);rcases he with he|⟨he1,he2⟩
 .rw[he]at Y;refine aA (D1.done _ _ _ Y fun g2 e T g=>?_);obtain⟨o,g,hc⟩:=g;have z2:IsZip g2 z TI TO .ellipsis:=T _ _ c8.symm z1;have ez:e≠z:=fun y=>by subst y;rw[z2]at g;cases g;simp at hc
  exact aj z2 Ch fun g3 _ U=>q g3 e _ (fun c o e1 e2 e3 e4 y=>(U.2 _ e1).trans (T _ _ e3 ((Z.2 _ e1).trans y))) ⟨o,(U.2 _ ez).trans g,hc⟩
 .refine aA (D1.item k _ _ _ he1 Y fun x g2 tk2 p1 u1 T=>aB ?_);have o2:IsPair g2 TO a b:=(T.2 _ c6).trans ((Z.2 _ c5).trans hO);refine aA (aV o2 rfl (aA (wpAny_updateSeq_pair o2 fun g3 o3 U=>aA (wpAny_letGo ge))));have t2':S2 k g3:=D2.frame _ _ _ (D2.frame _ _ _ (D2.frame _ _ _ t2 (An d4 Z)) (An d6 T)) (An d5 U);rw[he2]at t2';have T:Heap.SameBut i1 g1 g2:=T;have U:Heap.SameBut TO g2 g3:=U;refine aA (aA (bQ ?_));show wpAny _ _ WF _ _ _;refine aA (D2.done _ _ _ t2' fun g4 e m4 g=>?_);obtain⟨o,g,hc⟩:=g;have z4:IsZip g4 z TI TO .ellipsis:=m4 _ _ c9.symm ((U.2 _ c5.symm).trans ((T.2 _ c8.symm).trans z1));have ez:e≠z:=fun y=>by subst y;rw[z4]at g;cases g;simp at hc
  exact aj z4 Ch fun g5 _ m5=>q g5 e _ (fun c o e1 e2 e3 e4 y=>(m5.2 _ e1).trans (m4 _ _ e4 ((U.2 _ e2).trans ((T.2 _ e3).trans ((Z.2 _ e1).trans y))))) ⟨o,(m5.2 _ ez).trans g,hc⟩
theorem next_item{Q:Of}(D1:lp)(D2:lv)(ap:sw)(hz:kS)(hI:Nk)(hO:IsPair s.heap TO a b)
 (t1:S1 k s.heap)(T:S2 k s.heap)(l1:k<n1)(l2:k<n2)
 (q:∀x y h' tk,P1 k x->P2 k y->IsZip h' z TI TO (rawInt s.heap.objs.size)->IsPair h' TO x y->S1 oF h'->S2 oF h'->IsPair h' s.heap.objs.size x y->h'.objs.size=s.heap.objs.size+1 ->
   (∀c o,c≠z->c≠TO->c≠i1->c≠i2->s.heap.get? c=some o->h'.get? c=some o)->Q (some GE) KT) :
  wpAny At A (pyNext SC) Q E s:=by
 have g:s.TypeIs SC "zip" := ⟨_,hz,rfl⟩;unfold pyNext;exact aA (bW (aZ (name:=Str.ofString "__next__") g bJ
  (aY bJ g F.entry_zip_next (item D1 D2 ap hz hI hO t1 T l1 l2 fun x y h' tk r1 r2 r3 r4 r5 r6 Z Y U=>aB (q x y h' tk r1 r2 r3 r4 r5 r6 Z Y U)) (F.args_zip_next_1 _))))
theorem next_end{Q:Of}(D1:lp)(D2:lv)(ap:sw)(hz:kS)(hI:Nk)(hO:IsPair s.heap TO a b)
 (t1:S1 k s.heap)(Y:S2 k s.heap)(Z:k=n1\/(k<n1/\k=n2))
 (q:∀h' tk,td->Q none KT) :
  wpAny At A (pyNext SC) Q E s:=by
 have U:s.TypeIs SC "zip" := ⟨_,hz,rfl⟩;unfold pyNext;refine aA (bW (aZ (name:=Str.ofString "__next__") U bJ
  (aY bJ U F.entry_zip_next (ended D1 D2 ap hz hI hO t1 Y Z fun h' e tk kp g=>?_) (F.args_zip_next_1 _))))
 obtain⟨o,g,hc⟩:=g;exact aA (wpAny_isInstance (T := "StopIteration") (b:=true) ⟨o,g,hc⟩ isSubtype_stop (aB (q _ _ kp)))
end
end ZT
namespace ZT
open PySem PyProof.Rows
def Sq(b:Bool)(h:Heap)(l:Addr)(xs:FS):Prop:=if b then h.IsTuple l xs.toArray else h.IsList l xs.toArray
def BO(b:Bool)(l:Addr):Obj:=if b then { cls:=.type "tuple_iterator",data:=.fields #[.ref l,.int 0 0]} else { cls:=.type "list_iterator",data:=.fields #[.ref l,.int 0 0]}
def JA(b:Bool)(h:Heap)(it l:Addr)(k:Nat):Prop:=if b then h.IsTupleIter it l k else h.IsListIter it l k
theorem Sq.push{b:Bool}{h:Heap}{l:Addr}{xs:FS}(o:Obj)(x:Sq b h l xs):Sq b (h.push o) l xs:=by
 cases b with
 |true=>obtain⟨u,e,r⟩:=(show h.IsTuple l xs.toArray from x);exact(show(h.push o).IsTuple l xs.toArray from⟨u,Heap.get?_push_of_some _ e,r⟩)
 |false=>obtain⟨u,e,r⟩:=(show h.IsList l xs.toArray from x);exact(show(h.push o).IsList l xs.toArray from⟨u,Heap.get?_push_of_some _ e,r⟩)
theorem Sq.keep{b:Bool}{h h':Heap}{l:Addr}{xs:FS}(x:Sq b h l xs)(k:∀o,h.get? l=some o->h'.get? l=some o):Sq b h' l xs:=by
 cases b with
 |true=>obtain⟨u,e,r⟩:=(show h.IsTuple l xs.toArray from x);exact(show h'.IsTuple l xs.toArray from⟨u,k _ e,r⟩)
 |false=>obtain⟨u,e,r⟩:=(show h.IsList l xs.toArray from x);exact(show h'.IsList l xs.toArray from⟨u,k _ e,r⟩)
theorem Sq.lt{b:Bool}{h:Heap}{l:Addr}{xs:FS}(x:Sq b h l xs):l<h.objs.size:=by
 cases b with
 |true=>obtain⟨u,e,r⟩:=(show h.IsTuple l xs.toArray from x);exact aG e
 |false=>obtain⟨u,e,r⟩:=(show h.IsList l xs.toArray from x);exact aG e
section
variable{prog:Io}{w:Mw}{A:Re}{E:AT}{s:IN}
theorem Ma{b:Bool}{l:Addr}{xs:FS}{Q:AT}(x:Sq b s.heap l xs)(h:Q GE {s with heap:=s.heap.push (BO b l)}):wpAny At A (pyIter (.ref l)) Q E s:=by
 cases b with
 |true=>exact wpAny_pyIter_tuple x h
 |false=>exact wpAny_pyIter_list x h
theorem EG(T:A.handled=none)(b:Bool)(it l:Addr)(xs:FS)(g:l≠it):Draws prog w A it [it,l] xs.length (fun i v=>xs[i]? = some v) (fun i h=>JA b h it l i/\Sq b h l xs):=by
 cases b with
 |true=>exact ET.draws T it l xs g
 |false=>
  have:=Draws.list (prog:=prog) (w:=w) T it l g xs.toArray
  simpa[JA,Sq]using this
def zh(b1 b2:Bool)(h:Heap)(g T:Addr):Heap :=
 ((((h.push (BO b1 g)).push (BO b2 T)).push { cls:=.type "tuple",data:=.seq #[.ref h.objs.size,.ref (h.push (BO b1 g)).objs.size]}).push { cls:=.type "tuple",data:=.seq #[.none,.none]}).push
  { cls:=.type "zip",data:=.fields #[.none,.bool false,.bool false,.ref ((h.push (BO b1 g)).push (BO b2 T)).objs.size,.ref (((h.push (BO b1 g)).push (BO b2 T)).push { cls:=.type "tuple",data:=.seq #[.ref h.objs.size,.ref (h.push (BO b1 g)).objs.size]}).objs.size]}
theorem i8(b1 b2:Bool)(T Y:Addr)(xs ys:FS) :
  Meets (Builtin.«zip.__new__» ⟨[.type "zip",.ref T,.ref Y],[]⟩) (fun _ R s=>Sq b1 s.heap T xs/\Sq b2 s.heap Y ys /\
   R (.ok (.ret (.ref ((((s.heap.push (BO b1 T)).push (BO b2 Y)).push { cls:=.type "tuple",data:=.seq #[.ref s.heap.objs.size,.ref (s.heap.push (BO b1 T)).objs.size]}).push { cls:=.type "tuple",data:=.seq #[.none,.none]}).objs.size)) ) {s with heap:=zh b1 b2 s.heap T Y}) :=
 .of_wp fun prog w A R s h=>by
  obtain⟨U,g,d,tk,os⟩:=s;obtain⟨h1,h2,h⟩:=h;have Z:=sub_zip;have i1:∀(A:Re) (E:AT) (Q:AT),Q (.ref U.objs.size) ⟨U.push (BO b1 T),g,d,tk,os⟩->wpAny At A (pyIter (.ref T)) Q E ⟨U,g,d,tk,os⟩:=fun A E Q q=>Ma (s:=⟨U,g,d,tk,os⟩) h1 q;have i2:∀(A:Re) (E:AT) (Q:AT),Q (.ref (U.push (BO b1 T)).objs.size) ⟨(U.push (BO b1 T)).push (BO b2 Y),g,d,tk,os⟩->wpAny At A (pyIter (.ref Y)) Q E ⟨U.push (BO b1 T),g,d,tk,os⟩:=fun A E Q q=>Ma (s:=⟨U.push (BO b1 T),g,d,tk,os⟩) (h2.push _) q
  wp_walk using i1,i2
  exact⟨_,rfl,h⟩
theorem U4{b1 b2:Bool}{U T:Addr}{xs ys:FS}{Q:AT}(h1:Sq b1 s.heap U xs)(h2:Sq b2 s.heap T ys)
 (h:∀h',IsZip h' rc WP W1 .none->IsPair h' WP GE (.ref IS)->IsPair h' W1 .none .none ->
   JA b1 h' s.heap.objs.size U 0->JA b2 h' IS T 0->(∀c o,s.heap.get? c=some o->h'.get? c=some o)->Q (.ref rc) Pz) :
  wpAny At A (call (.type "zip") [.ref U,.ref T]) Q E s:=by
 refine callType_new F.called_zip BY (F.typeCall_zip_2 _ _) (F.newCall_zip_2 _ _) (fun obj=>F.args_object_init_3 obj _ _) F.entry_zip_new (i8 b1 b2 U T xs ys) ⟨h1,h2,?_⟩;have n1:(s.heap.push (BO b1 U)).objs.size=s.heap.objs.size+1:=Heap.size_push ..;have up:∀(g:Heap) (o:Obj) (c:Addr) (u:Obj),g.get? c=some u->(g.push o).get? c=some u:=fun g o c u e=>aF _ e;have a0:(s.heap.push (BO b1 U)).get? s.heap.objs.size=some (BO b1 U):=aL _ (by cases b1<;>rfl);generalize hg1:s.heap.push (BO b1 U)=g1 at n1 a0;have k1:∀c o,s.heap.get? c=some o->g1.get? c=some o:=fun c o e=>by rw[<-hg1];exact up _ _ _ _ e
 have n2:(g1.push (BO b2 T)).objs.size=s.heap.objs.size+2:=by rw[Heap.size_push,n1]
 have a1:(g1.push (BO b2 T)).get? IS=some (BO b2 T):=by rw[<-n1];exact aL _ (by cases b2<;>rfl)
 generalize hg2:g1.push (BO b2 T)=g2 at n2 a1;have k2:∀c o,g1.get? c=some o->g2.get? c=some o:=fun c o e=>by rw[<-hg2];exact up _ _ _ _ e
 have n3:(g2.push { cls:=.type "tuple",data:=.seq #[.ref s.heap.objs.size,.ref IS]}).objs.size=s.heap.objs.size+3:=by rw[Heap.size_push,n2]
 have a2:IsPair (g2.push { cls:=.type "tuple",data:=.seq #[.ref s.heap.objs.size,.ref IS]}) WP GE (.ref IS):=by rw[<-n2];exact aL _ rfl
 generalize Z:g2.push { cls:=.type "tuple",data:=.seq #[.ref s.heap.objs.size,.ref IS]}=g3 at n3 a2;have k3:∀c o,g2.get? c=some o->g3.get? c=some o:=fun c o e=>by rw[<-Z];exact up _ _ _ _ e
 have n4:(g3.push { cls:=.type "tuple",data:=.seq #[.none,.none]}).objs.size=s.heap.objs.size+4:=by rw[Heap.size_push,n3]
 have a3:IsPair (g3.push { cls:=.type "tuple",data:=.seq #[.none,.none]}) W1 .none .none:=by rw[<-n3];exact aL _ rfl
 generalize Y:g3.push { cls:=.type "tuple",data:=.seq #[.none,.none]}=g4 at n4 a3;have k4:∀c o,g3.get? c=some o->g4.get? c=some o:=fun c o e=>by rw[<-Y];exact up _ _ _ _ e
 have ez:zh b1 b2 s.heap U T=g4.push { cls:=.type "zip",data:=.fields #[.none,.bool false,.bool false,.ref WP,.ref W1]}:=by
  unfold zh;rw[hg1,hg2,n1,Z,Y,n2,n3]
 have a4:IsZip (g4.push { cls:=.type "zip",data:=.fields #[.none,.bool false,.bool false,.ref WP,.ref W1]}) rc WP W1 .none:=by rw[<-n4];exact aL _ rfl
 rw[n1,Z,Y,n4,ez];show _/\_;have k5:∀c o,g4.get? c=some o->(g4.push { cls:=.type "zip",data:=.fields #[.none,.bool false,.bool false,.ref WP,.ref W1]}).get? c=some o:=fun c o e=>up _ _ _ _ e;refine⟨⟨_,a4,rfl⟩,h _ a4 (k5 _ _ (k4 _ _ a2)) (k5 _ _ a3) ?_ ?_ fun c o e=>k5 _ _ (k4 _ _ (k3 _ _ (k2 _ _ (k1 _ _ e))))⟩
 .have:=k5 _ _ (k4 _ _ (k3 _ _ (k2 _ _ a0)));cases b1 with
  |true=>exact⟨_,this,rfl,rfl⟩
  |false=>exact⟨_,this,rfl,rfl⟩
 .have:=k5 _ _ (k4 _ _ (k3 _ _ a1));cases b2 with
  |true=>exact⟨_,this,rfl,rfl⟩
  |false=>exact⟨_,this,rfl,rfl⟩
end
end ZT
namespace L2
open PySem PySem.Spec PyProof.Rows
def B7(b:Bool)(H:Hp)(a:Addr)(xs:HQ):Prop:=if b then H a=some Op else H a=some Os
theorem B7.inj{b:Bool}{H:Hp}{a:Addr}{xs ys:HQ}(h:B7 b H a xs)(k:B7 b H a ys):xs=ys:=by
 cases b with
 |true=>have h:H a=some Op:=h;have k:H a=some (.tup ys):=k;rw[h]at k;cases k;rfl
 |false=>have h:H a=some Os:=h;have k:H a=some Mj:=k;rw[h]at k;cases k;rfl
theorem B7.none{b:Bool}{H:Hp}{a c:Addr}{xs:HQ}(h:B7 b H a xs)(k:H c=none):a≠c:=fun z=>by
 subst z;cases b with
 |true=>have h:H a=some Op:=h;rw[k]at h;cases h
 |false=>have h:H a=some Os:=h;rw[k]at h;cases h
theorem B7.raw{X:Cx}{pins:Da}{σ:St}{H:Hp}{s:IN}(I:Db){b:Bool}{a:Addr}{xs:HQ}(h:B7 b H a xs):∃g,Vals xs g/\ZT.Sq b s.heap a g:=by
 cases b with
 |true=>
  obtain⟨g,T,p,_⟩:=I.tuple (BI.of (K:=X.K) (show H a=some Op from h));exact⟨g,T,p⟩
 |false=>
  obtain⟨g,T,p,_⟩:=I.list (Aq.of (K:=X.K) (show H a=some Os from h));exact⟨g,T,p.isList⟩
def lG(b1 b2:Bool)(a1 a2:Addr):It :=
 ⟨fun i H=>∃xs x ys y,B7 b1 H a1 xs/\B7 b2 H a2 ys/\xs[i]? = some x/\ys[i]? = some y,
  fun i H v H'=>∃p x y,v=.ref p/\H p=none/\H'=upd H p (.tup [x,y])/\(∀xs,B7 b1 H a1 xs->xs[i]? = some x)/\∀ys,B7 b2 H a2 ys->ys[i]? = some y,
  fun i H=>∃xs ys,B7 b1 H a1 xs/\B7 b2 H a2 ys/\(i=xs.length\/(i<xs.length/\i=ys.length))⟩
def tL(b1 b2:Bool)(a1 a2 z TI TO i1 i2:Addr):Nat->Heap->Prop:=fun i h=>IsZip h z TI TO .none/\IsPair h TI (.ref i1) (.ref i2)/\(∃a b,IsPair h TO a b)/\ZT.JA b1 h i1 a1 i/\ZT.JA b2 h i2 a2 i
theorem GU{b:Bool}{h:Heap}{it l:Addr}{k:Nat}(x:ZT.JA b h it l k):∃o,h.get? it=some o/\∀v,o.data≠.cell v:=by
 cases b with
 |true=>obtain⟨o,e,_,d⟩:=(show h.IsTupleIter it l k from x);exact⟨o,e,fun v z=>by rw[d]at z;cases z⟩
 |false=>obtain⟨o,e,_,d⟩:=(show h.IsListIter it l k from x);exact⟨o,e,fun v z=>by rw[d]at z;cases z⟩
theorem Fb{b:Bool}{h h':Heap}{it l:Addr}{k:Nat}(x:ZT.JA b h it l k)(e:∀o,h.get? it=some o->h'.get? it=some o):ZT.JA b h' it l k:=by
 cases b with
 |true=>obtain⟨o,q,r⟩:=(show h.IsTupleIter it l k from x);exact(show h'.IsTupleIter it l k from⟨o,e _ q,r⟩)
 |false=>obtain⟨o,q,r⟩:=(show h.IsListIter it l k from x);exact(show h'.IsListIter it l k from⟨o,e _ q,r⟩)
theorem ey{P:Io}{w:Mw}{K:As}{elts:Ov}{x1}{pos:Pos}{b1 b2:Bool}{a1 a2 z TI TO i1 i2:Addr}(ne:[z,TI,TO,i1,i2].Nodup) :
  Turn P w K (.Tuple elts x1 pos) (lG b1 b2 a1 a2) [z,TI,TO,i1,i2] z (tL b1 b2 a1 a2 z TI TO i1 i2) where
 mem:=by simp
 obj:=fun i h st b hb=>by
  obtain⟨h1,h2,⟨u,v,h3⟩,h4,h5⟩:=st;have hb:b=z\/b=TI\/b=TO\/b=i1\/b=i2:=by simpa using hb
  rcases hb with rfl|rfl|rfl|rfl|rfl
  .exact⟨_,h1,fun v y=>by cases y⟩
  .exact⟨_,h2,fun v y=>by cases y⟩
  .exact⟨_,h3,fun v y=>by cases y⟩
  .exact GU h4
  .exact GU h5
 keep:=fun i h h' st k=>by
  obtain⟨h1,h2,⟨u,v,h3⟩,h4,h5⟩:=st;exact⟨k z Ch _ h1,k TI Ch _ h2,⟨u,v,k TO Ch _ h3⟩,Fb h4 fun o e=>k i1 Ch o e,Fb h5 fun o e=>k i2 Ch o e⟩
 item:=by
  intro X hP hw hK hc i pins s σ H E I hf st hg;subst hP hw hK;obtain⟨xs,x,ys,y,q1,q2,hx,hy⟩:=hg;obtain⟨us,rv1,p1⟩:=q1.raw I;obtain⟨vs,rv2,p2⟩:=q2.raw I;obtain⟨u,hu,ru⟩:=rv1.get hx;obtain⟨v,hv,rv⟩:=rv2.get hy;obtain⟨t1,t2,⟨ta,tb,t3⟩,t4,t5⟩:=st;have e1:∀b∈[z,TI,TO,i1,i2],a1≠b:=fun b hb=>q1.none (hf b hb).1;have e2:∀b∈[z,TI,TO,i1,i2],a2≠b:=fun b hb=>q2.none (hf b hb).1;simp only[List.nodup_cons,List.mem_cons,List.not_mem_nil,or_false,not_or]at ne;obtain⟨⟨n1,n2,n3,n4⟩,⟨n5,n6,n7⟩,⟨n8,n9⟩,n10,_⟩:=ne;have ap:ZT.Apart z TI TO i1 i2 [i1,a1] [i2,a2]:=⟨⟨Ne.symm n1,n5,n6,n7⟩,⟨Ne.symm n2,n8,n9⟩,⟨Ne.symm n3,Ne.symm n4,n10⟩,
   ⟨by simp[n3,Ne.symm (e1 z Ch)],by simp[n8,Ne.symm (e1 TO Ch)],by simp[Ne.symm n10,Ne.symm (e1 i2 Ch)]⟩,⟨by simp[n4,Ne.symm (e2 z Ch)],by simp[n9,Ne.symm (e2 TO Ch)],by simp[n10,Ne.symm (e2 i1 Ch)]⟩⟩
  refine ZT.next_item ud ue ap t1 t2 t3 ⟨t4,p1⟩ ⟨t5,p2⟩ (aE.mp hu).1 (aE.mp hv).1
   fun u' v' h' tk r1 r2 r3 r4 r5 r6 r7 r8 r9=>⟨_,rfl,wpAny_letOwnedTupleGo_zip (s:={s with heap:=h',toks:=tk}) r3 fun h'' z'' sb=>?_⟩
  rw[hu]at r1;rw[hv]at r2;cases r1;cases r2;have keep:∀b o,b ∉ [z,TI,TO,i1,i2]->s.heap.get? b=some o->h''.get? b=some o:=fun b o hb q=>by
   simp only[List.mem_cons,List.not_mem_nil,or_false,not_or]at hb;exact(sb.2 b hb.1).trans (r9 b o hb.1 hb.2.2.1 hb.2.2.2.1 hb.2.2.2.2 q)
  have lt:∀b∈[z,TI,TO,i1,i2],b<s.heap.objs.size:=fun b hb=>by
   have hb:b=z\/b=TI\/b=TO\/b=i1\/b=i2:=by simpa using hb
   rcases hb with rfl|rfl|rfl|rfl|rfl
   .exact aG t1
   .exact aG t2
   .exact aG t3
   .obtain⟨o,e,_⟩:=GU t4;exact aG e
   .obtain⟨o,e,_⟩:=GU t5;exact aG e
  have hTn:H s.heap.objs.size=none:=I.Av.fresh em;have hT'':h''.get? s.heap.objs.size=some { cls:=.type "tuple",data:=.seq #[u,v]}:=(sb.2 _ (aq (lt z Ch))).trans r7;have neT:∀b o,s.heap.get? b=some o->b≠s.heap.objs.size:=fun b o q=>aJ (aG q);have F5:∀b o,H b=some o->b ∉ [z,TI,TO,i1,i2]:=fun b o q hb=>by rw[(hf b hb).1]at q;cases q
  refine⟨.ref s.heap.objs.size,upd H s.heap.objs.size (.tup [x,y]),?_,rfl,⟨_,x,y,rfl,hTn,rfl,fun zs hz=>by rw[hz.inj q1];exact hx,fun zs hz=>by rw[hz.inj q2];exact hy⟩,⟨z'',?_,⟨u,v,?_⟩,?_,?_⟩,fun b hb=>?_⟩
  .show Inv X pins σ _ {s with heap:=h'',gens:=s.gens,drawn:=s.drawn,toks:=tk};refine I.step (h':=h'') (g':=s.gens) (d':=s.drawn) (t':=tk) (ch:=[z,TI,TO,i1,i2]) (fun b hb=>?_) (fun b o _ _ hc q _=>keep b o hc q) uF
    (fun b o _ q n=>by rw[AJ (neT b o q)];exact n) (fun b o hc q=>⟨o,keep b o hc q⟩) (fun b ys q=>by rw[AJ (AV q hTn)];exact q) (fun b o u q=>by rw[AJ (AV q hTn)];exact q)
    (fun b ps q=>⟨#[],by rw[AJ (AV q hTn),q];simp⟩) (fun b _ o hc _ q=>keep b o hc q) (fun m hm=>?_) (fun b o q=>?_) I.bare
   .obtain⟨_,f1,_,f3,f4,f5⟩:=hf b hb;exact⟨f3,f1,f4,f5⟩
   .obtain⟨o,es,ep,ho,r⟩:=hm;exact⟨o,es,ep,keep _ o (fun hb=>(hf _ hb).2.1 rfl) ho,r⟩
   .by_cases hb:b=s.heap.objs.size
    .subst hb;rw[AR]at q;cases q;exact⟨XZ,[u,v],.cons ru (.cons rv .nil),_,hT'',rfl,_,rfl⟩
    .rw[AJ hb]at q;refine(I.Av b o q).Hf (fun c w hc r=>keep c w ?_ r) (fun c r=>by rw[AJ (AV r hTn)];exact r) fun c ys r=>by rw[AJ (AV r hTn)];exact r
     rcases hc with rfl|hc
     .exact F5 _ _ q
     .exact F5 _ _ hc
  .exact(sb.2 _ (Ne.symm n1)).trans (r9 _ _ (Ne.symm n1) n5 n6 n7 t2)
  .exact(sb.2 _ (Ne.symm n2)).trans r4
  .exact Fb r5.1 fun o e=>(sb.2 _ (Ne.symm n3)).trans e
  .exact Fb r6.1 fun o e=>(sb.2 _ (Ne.symm n4)).trans e
  .rw[AJ (aJ (lt b hb))];exact(hf b hb).1
 done:=by
  intro X hP hw hK hc i pins s σ H E I hf st hg;subst hP hw hK;obtain⟨xs,ys,q1,q2,he⟩:=hg;obtain⟨us,rv1,p1⟩:=q1.raw I;obtain⟨vs,rv2,p2⟩:=q2.raw I;obtain⟨t1,t2,⟨ta,tb,t3⟩,t4,t5⟩:=st;have e1:∀b∈[z,TI,TO,i1,i2],a1≠b:=fun b hb=>q1.none (hf b hb).1;have e2:∀b∈[z,TI,TO,i1,i2],a2≠b:=fun b hb=>q2.none (hf b hb).1;simp only[List.nodup_cons,List.mem_cons,List.not_mem_nil,or_false,not_or]at ne;obtain⟨⟨n1,n2,n3,n4⟩,⟨n5,n6,n7⟩,⟨n8,n9⟩,n10,_⟩:=ne;have ap:ZT.Apart z TI TO i1 i2 [i1,a1] [i2,a2]:=⟨⟨Ne.symm n1,n5,n6,n7⟩,⟨Ne.symm n2,n8,n9⟩,⟨Ne.symm n3,Ne.symm n4,n10⟩,
   ⟨by simp[n3,Ne.symm (e1 z Ch)],by simp[n8,Ne.symm (e1 TO Ch)],by simp[Ne.symm n10,Ne.symm (e1 i2 Ch)]⟩,⟨by simp[n4,Ne.symm (e2 z Ch)],by simp[n9,Ne.symm (e2 TO Ch)],by simp[n10,Ne.symm (e2 i1 Ch)]⟩⟩
  have he':i=us.length\/(i<us.length/\i=vs.length):=by rw[<-rv1.length,<-rv2.length];exact he
  refine ZT.next_end ud ue ap t1 t2 t3 ⟨t4,p1⟩ ⟨t5,p2⟩ he' fun h' tk kp=>⟨rfl,?_⟩;have keep:∀b o,b ∉ [z,TI,TO,i1,i2]->s.heap.get? b=some o->h'.get? b=some o:=fun b o hb q=>by
   simp only[List.mem_cons,List.not_mem_nil,or_false,not_or]at hb;exact kp b o hb.1 hb.2.2.1 hb.2.2.2.1 hb.2.2.2.2 q
  have F5:∀b o,H b=some o->b ∉ [z,TI,TO,i1,i2]:=fun b o q hb=>by rw[(hf b hb).1]at q;cases q
  show Inv X pins σ _ {s with heap:=h',gens:=s.gens,drawn:=s.drawn,toks:=tk};refine I.step (h':=h') (g':=s.gens) (d':=s.drawn) (t':=tk) (ch:=[z,TI,TO,i1,i2]) (fun b hb=>?_) (fun b o _ _ hc q _=>keep b o hc q) uF
    (fun b o _ q n=>n) (fun b o hc q=>⟨o,keep b o hc q⟩) (fun b ys q=>q) (fun b o u q=>q)
    (fun b ps q=>⟨#[],by rw[q];simp⟩) (fun b _ o hc _ q=>keep b o hc q) (fun m hm=>?_) (fun b o q=>?_) I.bare
  .obtain⟨_,f1,_,f3,f4,f5⟩:=hf b hb;exact⟨f3,f1,f4,f5⟩
  .obtain⟨o,es,ep,ho,r⟩:=hm;exact⟨o,es,ep,keep _ o (fun hb=>(hf _ hb).2.1 rfl) ho,r⟩
  .refine(I.Av b o q).Hf (fun c w hc r=>keep c w ?_ r) (fun c r=>r) fun c ys r=>r;rcases hc with rfl|hc
   .exact F5 _ _ q
   .exact F5 _ _ hc
 self:=fun _ _ _ _ _ st h=>wpAny_pyIter_zip st.1 h
def sY(T:TA):TI:=fun σ H R=>T σ H fun vs g=>∃(b1 b2:Bool) (a1 a2:Addr),vs=[.ref a1,.ref a2]/\(∃xs,B7 b1 g a1 xs)/\(∃ys,B7 b2 g a2 ys)/\R (lG b1 b2 a1 a2) g
theorem WJ{X:Cx}{elts:Ov}{x1}{g:Pos}{a b:Expr}{ta:TA}{p pos:Pos}(hg:Gl X "zip")(hm:X.mg "zip" = none)(ha:PA X [a,b] ta)(hs:starEach [a,b] X.env=[SZ,Pa]:=by rfl)(T:starEach [b] X.env=[Pa]:=by rfl) :
  PI X (.Tuple elts x1 g) (.Call (.Name "zip" p) [a,b] [] pos) (sY ta):=by
 intro pins s σ H R I h;refine Call_ (GR I hg hm boot_zip (ak (BU bi fun us s1 ⟨vs,H1,Y,r1,q1⟩=>?_) (by rw[hs,T]) (by rw[T];rfl)));obtain⟨b1,b2,l1,l2,e,⟨xs,h1⟩,⟨ys,h2⟩,q⟩:=q1;subst e;cases r1 with
 |cons r Z=>
  cases Z with
  |cons r' Z=>
   cases Z;cases r;cases r';obtain⟨us,_,p1⟩:=h1.raw Y;obtain⟨vs,_,p2⟩:=h2.raw Y;refine ZT.U4 p1 p2 fun h' z1 z2 z3 z4 z5 hk=>wpAny_pyIter_zip z1 ?_;have I2:Inv X pins σ H1 {s1 with heap:=h'}:=Y.kept (t':=s1.toks) hk;refine⟨_,[s1.heap.objs.size+4,s1.heap.objs.size+2,s1.heap.objs.size+3,s1.heap.objs.size,s1.heap.objs.size+1],_,_,H1,rfl,I2,ey ?_,⟨z1,z2,⟨_,_,z3⟩,z4,z5⟩,fun b hb=>?_,q⟩
   .simp
   have U:s1.heap.objs.size<=b:=by
    have hb2:b=s1.heap.objs.size+4\/b=s1.heap.objs.size+2\/b=s1.heap.objs.size+3\/b=s1.heap.objs.size\/b=s1.heap.objs.size+1:=by simpa using hb
    rcases hb2 with h|h|h|h|h<;>rw[h]<;>first|exact aI _|exact Nat.le_add_right _ _
   exact Y.QK U (Y.Av.fresh U)
section
variable{X:Cx}
theorem ia:C8 X (compareOp .IsNot) (fun x y H Q=>∃b c,x=.bl b/\y=.bl c/\Q (.bl (!(b==c))) H):=by
 intro pins s σ H x y v u Q I T g h;obtain⟨b,c,rfl,rfl,q⟩:=h;cases T;cases g;exact aB (Bd I q (by cases b<;>cases c<;>rfl))
end
def Xi(K:As)(a:Addr):It :=
 ⟨fun i H=>∃xs x,Aq K H a xs/\xs[i]? = some x,fun i H v H'=>∃p x,v=.ref p/\H p=none/\H'=upd H p (.tup [.int i,x])/\∀xs,Aq K H a xs->xs[i]? = some x,fun i H=>∃xs,Aq K H a xs/\xs.length=i⟩
theorem YK{P:Io}{w:Mw}{K:As}{elts:Ov}{x1}{pos:Pos}(a e it:Addr)(hne:e≠it) :
  Turn P w K (.Tuple elts x1 pos) (Xi K a) [e,it] e (fun i h=>(∃old,IsEnum h e it (i:Nat) old)/\h.IsListIter it a i) where
 mem:=by simp
 obj:=fun i h st b hb=>by
  rcases aO.mp hb with rfl|hb
  .obtain⟨⟨old,q⟩,_⟩:=st;exact⟨_,q,fun v z=>by cases z⟩
  .have e2:b=it:=by simpa using hb
   subst e2;obtain⟨_,o,q,c,d⟩:=st;exact⟨o,q,fun v z=>by rw[d]at z;cases z⟩
 keep:=fun i h h' st k=>by
  obtain⟨⟨old,q⟩,o,q2,r⟩:=st;exact⟨⟨old,k e Ch _ q⟩,o,k it Ch _ q2,r⟩
 item:=by
  intro X hP hw hK hc i pins s σ H E I hf st hg;subst hP hw hK;obtain⟨xs,x,hq,hx⟩:=hg;obtain⟨its,rv,pL,hz⟩:=I.list hq;have p:=pL.isList;obtain⟨u,hu,ru⟩:=rv.get hx;obtain⟨⟨old,he⟩,hit⟩:=st;have hai:a≠it:=fun z=>by
   obtain⟨o,e1,c1,_⟩:=p;obtain⟨o2,e2,c2,_⟩:=hit;rw[z,e2]at e1;cases e1;rw[c1]at c2;exact absurd c2 BY
  have hae:a≠e:=fun z=>by
   obtain⟨o,e1,c1,_⟩:=p;rw[z,he]at e1;cases e1;exact absurd (show Value.type "enumerate" = Value.type "list" from c1) BY
  have hlt:i<its.length:=(aE.mp hu).1;have hE0:=hf e Ch;have hI0:=hf it Ch;refine wpAny_pyNext_enum_itemD (Draws.list (prog:=X.prog) (w:=X.w) (A:=X.A.in1) ad it a hai its.toArray) he ⟨hit,p⟩ (by simpa using hlt) hne (by simp[hne,Ne.symm hae]) fun y h' tk hy ho hs' hT hsz hk=>⟨_,rfl,wpAny_letOwnedTupleGo_enum (s:={s with heap:=h',toks:=tk+1}) ho fun h'' he'' sb=>?_⟩;have hyu:y=u:=by
   have hy:its[i]? = some y:=by simpa using hy
   rw[hu]at hy;exact(ax hy).symm
  subst hyu;have keep:∀b o,b≠e->b≠it->s.heap.get? b=some o->h''.get? b=some o:=fun b o h1 h2 q=>(sb.2 b h1).trans (hk b o h1 h2 q);have hTe:s.heap.objs.size≠e:=aq (aG he);have hTi:s.heap.objs.size≠it:=let⟨_,q,_⟩:=hit;aq (aG q);have hT'':h''.get? s.heap.objs.size=some { cls:=.type "tuple",data:=.seq #[.int i tk,y]}:=(sb.2 _ hTe).trans hT;have hTn:H s.heap.objs.size=none:=I.Av.fresh em;have neT:∀b o,s.heap.get? b=some o->b≠s.heap.objs.size:=fun b o q=>aJ (aG q);have F5:∀b o,H b=some o->b≠e/\b≠it:=fun b o q=>⟨(fun z=>by rw[z,hE0.1]at q;cases q),(fun z=>by rw[z,hI0.1]at q;cases q)⟩;refine⟨.ref s.heap.objs.size,upd H s.heap.objs.size (.tup [.int i,x]),?_,rfl,⟨_,x,rfl,hTn,rfl,fun ys hy=>by rw[I.Uz hy hq];exact hx⟩,⟨⟨_,by simpa using he''⟩,?_⟩,fun b hb=>?_⟩
  .show Inv X pins σ _ {s with heap:=h'',gens:=s.gens,drawn:=s.drawn,toks:=tk+1};refine I.step (h':=h'') (g':=s.gens) (d':=s.drawn) (t':=tk+1) (ch:=[e,it]) (fun b hb=>?_) (fun b o _ _ hc q _=>keep b o No No q) (fun b o _ _ hc q _=>⟨o.slots,keep b o No No q⟩)
    (fun b o _ q n=>by rw[AJ (neT b o q)];exact n) (fun b o hc q=>⟨o,keep b o No No q⟩) (fun b ys q=>by rw[AJ (AV q hTn)];exact q) (fun b o u q=>by rw[AJ (AV q hTn)];exact q)
    (fun b ps q=>⟨#[],by rw[AJ (AV q hTn),q];simp⟩) (fun b _ o hc _ q=>keep b o No No q) (fun m hm=>?_) (fun b o q=>?_) I.bare
   .rcases aO.mp hb with rfl|hb
    .exact⟨hE0.2.2.2.1,hE0.2.1,hE0.2.2.2.2.1,hE0.2.2.2.2.2⟩
    .have e2:b=it:=by simpa using hb
     subst e2;exact⟨hI0.2.2.2.1,hI0.2.1,hI0.2.2.2.2.1,hI0.2.2.2.2.2⟩
   .obtain⟨o,es,ep,ho,r⟩:=hm;exact⟨o,es,ep,keep _ o (Ne.symm hE0.2.1) (Ne.symm hI0.2.1) ho,r⟩
   .by_cases hb:b=s.heap.objs.size
    .subst hb;rw[AR]at q;cases q;exact⟨XZ,[.int i tk,y],.cons ⟨tk,rfl⟩ (.cons ru .nil),_,hT'',rfl,_,rfl⟩
    .rw[AJ hb]at q;refine(I.Av b o q).Hf (fun c v hc r=>keep c v ?_ ?_ r) (fun c r=>by rw[AJ (AV r hTn)];exact r) fun c ys r=>by rw[AJ (AV r hTn)];exact r
     .rcases hc with rfl|hc
      .exact(F5 _ _ q).1
      .exact(F5 _ _ hc).1
     .rcases hc with rfl|hc
      .exact(F5 _ _ q).2
      .exact(F5 _ _ hc).2
  .obtain⟨⟨o,q,r⟩,_⟩:=hs';exact⟨o,(sb.2 it (Ne.symm hne)).trans q,r⟩
  .rcases aO.mp hb with rfl|hb
   .rw[AJ (Ne.symm hTe)];exact hE0.1
   .have e2:b=it:=by simpa using hb
    subst e2;rw[AJ (Ne.symm hTi)];exact hI0.1
 done:=by
  intro X hP hw hK hc i pins s σ H E I hf st hg;subst hP hw hK;obtain⟨xs,hq,hx⟩:=hg;obtain⟨its,rv,pL,hz⟩:=I.list hq;have p:=pL.isList;obtain⟨⟨old,he⟩,hit⟩:=st;have hai:a≠it:=fun z=>by
   obtain⟨o,e1,c1,_⟩:=p;obtain⟨o2,e2,c2,_⟩:=hit;rw[z,e2]at e1;cases e1;rw[c1]at c2;exact absurd c2 BY
  have hl:its.length=i:=by rw[<-rv.length];exact hx
  subst hl;obtain⟨f0,f1,f2,f3,f4,f5⟩:=hf it Ch;exact wpAny_pyNext_enum_endD (Draws.list (prog:=X.prog) (w:=X.w) (A:=X.A.in1) ad it a hai its.toArray) he ⟨hit,p⟩ fun h' eb=>⟨rfl,I.turned (t':=s.toks) (fun b o hb q=>eb b o hb q) f0 f1 f3 f4 f5⟩
 self:=fun _ _ _ _ _ st h=>by
  obtain⟨⟨old,he⟩,_⟩:=st;exact wpAny_pyIter_enum he h
def kC(K:As)(T:TA):TI:=fun σ H R=>T σ H fun vs g=>∃a,vs=[.ref a]/\(∃xs,Aq K g a xs)/\R (Xi K a) g
theorem Vh{X:Cx}{elts:Ov}{x1}{g:Pos}{a:Expr}{ta:TA}{p pos:Pos}(hg:Gl X "enumerate")(hm:X.mg "enumerate" = none)(ha:PA X [a] ta)(hs:starEach [a] X.env=[SZ]:=by rfl) :
  PI X (.Tuple elts x1 g) (.Call (.Name "enumerate" p) [a] [] pos) (kC X.K ta):=by
 intro pins s σ H R I h;refine Call_ (GR I hg hm boot_enumerate (ak (BU bi fun us s1 ⟨vs,H1,U,r1,q1⟩=>?_) hs rfl));obtain⟨t,e,⟨xs,hq⟩,q⟩:=q1;subst e;cases r1 with
 |cons r rr=>
  cases rr;cases r;obtain⟨Y,rv,p',hz⟩:=U.list hq;refine call_enumerate_list (show s1.heap.IsList t Y.toArray from p'.isList) fun h' he hit hsz hk=>wpAny_pyIter_enum he ?_;have I2:Inv X pins σ H1 {s1 with heap:=h'}:=U.kept (t':=s1.toks) hk;have hn:s1.heap.objs.size+1≠s1.heap.objs.size:=by lia
  refine⟨s1.heap.objs.size+1,[s1.heap.objs.size+1,s1.heap.objs.size],_,_,H1,rfl,I2,YK t _ _ hn,⟨⟨_,he⟩,hit⟩,fun b hb=>?_,q⟩;have T:s1.heap.objs.size<=b:=by
   have Z:b=s1.heap.objs.size+1\/b=s1.heap.objs.size:=by simpa using hb
   rcases Z with z|z
   .rw[z];exact Nat.le_succ _
   .rw[z];exact aI _
  exact U.QK T (U.Av.fresh T)
theorem cK{K:As}{a:Addr}{xs:HQ}{g:TG}{tb:TS}{D:Ends}{σ:St}{H:Hp}(Pv:Nat->St->Hp->Prop)(h0:Pv 0 σ H)(hl:∀i σ H,i<=xs.length->Pv i σ H->Aq K H a xs)
 (hs:∀i x σ H,xs[i]? = some x->Pv i σ H->∀p,H p=none->g (.ref p) σ (upd H p (.tup [.int (i:Nat),x])) fun T Z=>tb {D with nx:=Pv SL,ct:=Pv SL,bk:=D.nx} T Z)(hd:∀σ H,Pv xs.length σ H->D.nx σ H) :
  ∃W:Nat->Nat->St->Hp->Prop,(∃m,W 0 m σ H)/\∀i m σ H,W i m σ H ->
   ((Xi K a).stop i H/\D.nx σ H)\/((Xi K a).go i H/\∃N:St->Hp->Prop,(∀U H',N U H'->∃m',m'<m/\W SL m' U H')/\∀x H',(Xi K a).F4 i H x H'->g x σ H' fun T Z=>tb uQ T Z):=by
 refine⟨fun i m σ H=>m=xs.length-i/\i<=xs.length/\Pv i σ H,⟨xs.length,by simp,Nat.zero_le _,h0⟩,?_⟩;rintro i m σ H ⟨rfl,hi,p⟩;have q:=hl i σ H hi p;by_cases Y:i<xs.length
 .refine .inr ⟨⟨xs,xs[i],q,by simp[Y]⟩,Pv SL,fun U H' p'=>⟨xs.length-SL,by lia,rfl,Y,p'⟩,fun x H' y=>?_⟩;obtain⟨pp,x',rfl,hn,rfl,y⟩:=y;exact hs i x' σ _ (y xs q) p pp hn
 .have e:i=xs.length:=by lia
  subst e;exact .inl ⟨⟨xs,q,rfl⟩,hd σ H p⟩
def j8(i:Expr):Prop:=∀g T,subscripted i false g T=operate [g,T] (getItem g T)
theorem iA{prog:Io}{w:Mw}{A:Re}{E:AT}{s:IN}{env:Env}{value slice:Expr}{pos:Pos}{T id:String}{Q:AT}
 (hl:typeLookup (.type T) "__getitem__" = pure (some (.builtin id)))(hs:j8 slice)
 (h:wpAny At A (eval value env) (fun o Z=>wpAny At A (eval slice env) (fun i g=>g.TypeIs o T/\wpAny At A (getItem o i) Q E g) E Z) E s) :
  wpAny At A (eval (.Subscript value slice pos) env) Q E s:=by
 refine Subscript_ (aX h (fun o Z h₁=>aX h₁ (fun i g U=>?_) fun _ _ x=>x) fun _ _ x=>x);obtain⟨hT,U⟩:=U;unfold subscriptTail;refine aA ?_;rw[getitemInPython_of_ne hT.not_modules];refine aA (bU hT hl ?_);have fin:wpAny At A (subscripted slice false o i) (fun r Y=>wpAny At A (letTemporaryGo value o r>>=fun _=>pure r) Q E Y) E g:=by
  rw[hs o i];exact wpAny_operating (aX U (fun r Y h₃=>aA (wpAny_letTemporaryGo (aB h₃))) fun _ _ x=>x)
 first
  |exact aB (aA fin)
  |exact aA (aB (aA fin))
  |exact aA fin
end L2
namespace L2
open PySem PySem.Spec PyProof.Rows
theorem Inv.many{X:Cx}{pins:Da}{σ:St}{H H':Hp}{s:IN}{h':Heap}{t':Nat}(I:Db)(k:∀b u,s.heap.get? b=some u->h'.get? b=some u)(g:∀b,b<s.heap.objs.size->H' b=H b)(Av:Eo X.prog X.w H' h') :
  Inv X pins σ H' {s with heap:=h',toks:=t'}:=by
 have lt:∀b o,H b=some o->b<s.heap.objs.size:=fun b o e=>(I.Av b o e).lt;have up:∀b o,H b=some o->H' b=some o:=fun b o e=>by rw[g b (lt b o e)];exact e
 show Inv X pins σ H' {s with heap:=h',gens:=s.gens,drawn:=s.drawn,toks:=t'};refine I.step (h':=h') (ch:=[]) (fun b hb=>nomatch hb) (fun b o _ _ _ e _=>k b o e) (fun b o _ _ _ e _=>⟨o.slots,k b o e⟩) (fun b o _ e n=>by rw[g b (aG e)];exact n) (fun b o _ e=>⟨o,k b o e⟩)
  (fun b xs e=>up b _ e) (fun b o u e=>up b _ e) (fun b ps e=>⟨#[],by rw[up b _ e];simp⟩) (fun b _ o _ _ e=>k b o e) (fun m hm=>?_) Av I.bare
 obtain⟨o,es,ep,T,r⟩:=hm;exact⟨o,es,ep,k _ o T,r⟩
theorem Tw:∀as:List Addr,Vals (as.map V.ref) (as.map Value.ref)
 |[]=>.nil
 |a::as=>.cons rfl (Tw as)
end L2
namespace TH
open PySem PyProof.Rows PySem.SeqAt
def Kf:Tr->List Int
 |.nil=>[]
 |.cons b r=>reduceHash (Builtin.Tuple.tupleHashOf (Kf b))::Kf r
def BZ(t:Tr):Int:=reduceHash (Builtin.Tuple.tupleHashOf (Kf t))
section
variable{prog:Io}{w:Mw}{E:AT}
theorem IsTuple.ty{h:Heap}{a:Addr}{x:Array Value}{s:IN}(e:s.heap=h)(k:h.IsTuple a x):s.TypeIs Mt "tuple" := by
 subst e;obtain⟨o,g,T,_⟩:=k;exact⟨o,g,T⟩
def Xx(prog:Io)(w:Mw)(E:AT)(t:Tr):Prop:=∀(us:FS) (A:Re) (s:IN) (b:Array Int) (Q:Array Int->Shared->Prop),Vs s.heap t us->A.units+t.deep<=cLine ->
 (∀tk g,g.toList=b.toList++Kf t->Q g {s with toks:=tk})->wpAny At A (forIn us b fun x r=>do let h <-pyHash x;pure PUnit.unit;pure (ForInStep.yield (r.push h))) Q E s
theorem Pn{t:Tr}(row:Xx prog w E t){a:Addr}{g:FS}{A:Re}{s:IN}{Q:Int->Shared->Prop}(U:s.heap.IsTuple a g.toArray)(h2:Vs s.heap t g)(hu:A.units+t.deep<cLine)
 (h:∀tk,Q (BZ t) {s with toks:=tk}):wpAny At A (pyHash Mt) Q E s:=by
 have Z:=IsTuple.ty rfl U;obtain⟨o,Y,hc,n,hd⟩:=id U;refine PySem.W.pyHash_slot (T := "tuple") Z F.slot_tuple_hash F.entry_tuple_hash (F.args_tuple_hash_1 _) (beq_builtin_none _) (.inr AS) ?_;show wpAny _ _ (Builtin.Tuple.tupleItemsOf Mt>>=_) _ _ s;refine aA (wpAny_tupleItemsOf Y hd ?_);refine aA ?_;rw[<-Array.forIn_toList];refine row g A.in1 s #[] _ h2 (by rw[Around.in1_units];lia) fun tk b hb=>?_;show wpAny _ _ (retInt (Builtin.Tuple.tupleHashOf b.toList)) _ _ _;rw[hb];exact aA (wpAny_mkInt (aB ⟨_,_,rfl,h _⟩))
theorem Qm:∀t:Tr,Xx prog w E t
 |.nil=>fun us A s b Q e _ h=>by rw[Vs]at e;subst e;exact aB (h s.toks b (by simp[Kf]))
 |.cons c r=>fun us A s b Q e hu h=>by
  rw[Vs]at e;obtain⟨a,T,rest,rfl,Z,Y,U⟩:=e;have hd:(Tr.cons c r).deep=max (c.deep+1) r.deep:=rfl;rw[List.forIn_cons];refine aA (aA (Pn (Qm c) Z Y AS fun tk=>?_));refine aA (aB ge);exact Qm r rest A _ _ Q U AS fun g b' hb=>h g b' (by simp[hb,Kf,BZ])
theorem jv{t:Tr}{a:Addr}{g:FS}{A:Re}{s:IN}{Q:Int->Shared->Prop}(Y:s.heap.IsTuple a g.toArray)(U:Vs s.heap t g)(T:A.units+t.deep<cLine)
 (h:∀tk,Q (BZ t) {s with toks:=tk}):wpAny At A (pyHash Mt) Q E s:=Pn (Qm t) Y U T h
def Good(h:Heap)(n:Nat)(v:Nh):Prop:=∃a g t,v=.ref a/\h.IsTuple a g.toArray/\Vs h t g/\t.deep<n
theorem Nc{h:Heap}:∀ {t:Tr} {us:FS} {n:Nat},Vs h t us->t.deep<=n->∀v∈us,Good h n v
 |.nil,us,n,e,_,v,g=>by rw[Vs]at e;subst e;cases g
 |.cons c r,us,n,e,hd,v,g=>by
  rw[Vs]at e;obtain⟨a,T,rest,rfl,Z,Y,U⟩:=e;rw[Tr.deep]at hd;rcases aO.mp g with rfl|g
  .exact⟨a,T,c,rfl,Z,Y,by lia⟩
  .exact Nc U AS v g
theorem U8:∀(n:Nat) {v:Nh} {A:Re} {s:IN} {Q:jp},Good s.heap n v->Q true s->wpAny At A (hashByValue n v) Q E s
 |0,v,A,s,Q,⟨_,_,_,_,_,_,z⟩,_=>absurd z (ai _)
 |n+1,v,A,s,Q,⟨a,T,t,e,h1,h2,hd⟩,h=>by
  subst e;have hT:=IsTuple.ty rfl h1;obtain⟨o,ho,hc,k,Z⟩:=id h1;unfold hashByValue;refine aA (bU hT F.slot_tuple_hash.lookup ?_);refine aA (aV ho Z ?_);refine aA ?_;show wpAny _ _ (forIn T.toArray _ _) _ _ s;rw[<-Array.forIn_toList];refine wpAny_forIn_list _ (fun rest r s'=>r.1=none/\s'=s/\∀v∈rest,Good s.heap n v) _ ?_ ?_ _ _ ⟨rfl,rfl,Nc h2 AS⟩
  .rintro v rest r s' ⟨Y,rfl,g⟩;refine aA (U8 n (g v af) ?_);simp only[Bool.not_true,Bool.false_eq_true,if_false];exact aB ⟨rfl,rfl,fun u U=>g u (aT _ U)⟩
  .rintro⟨r1,r2⟩ s' ⟨Y,rfl,_⟩;simp only at Y;subst Y;exact aB h
theorem quiet:∀(n:Nat) {v:Nh} {A:Re} {s:IN} {Q:jp},Good s.heap n v->Q true s->wpAny At A (eqIsQuiet n v) Q E s
 |0,v,A,s,Q,⟨_,_,_,_,_,_,z⟩,_=>absurd z (ai _)
 |n+1,v,A,s,Q,⟨a,T,t,e,h1,h2,hd⟩,h=>by
  subst e;have hT:=IsTuple.ty rfl h1;obtain⟨o,ho,hc,k,Z⟩:=id h1;unfold eqIsQuiet;refine aA (bU hT F.slot_tuple_eq.lookup ?_);show wpAny _ _ (isInstance Mt IF>>=_) _ _ s;refine aA (wpAny_isInstance hT isSubtype_tuple_tuple ?_);simp only[Bool.not_true,Bool.false_eq_true,if_false];refine aA (aV ho Z ?_);refine aA ?_;show wpAny _ _ (forIn T.toArray _ _) _ _ s;rw[<-Array.forIn_toList];refine wpAny_forIn_list _ (fun rest r s'=>r.1=none/\s'=s/\∀v∈rest,Good s.heap n v) _ ?_ ?_ _ _ ⟨rfl,rfl,Nc h2 AS⟩
  .rintro v rest r s' ⟨Y,rfl,g⟩;refine aA (quiet n (g v af) ?_);simp only[Bool.not_true,Bool.false_eq_true,if_false];exact aB ⟨rfl,rfl,fun u U=>g u (aT _ U)⟩
  .rintro⟨r1,r2⟩ s' ⟨Y,rfl,_⟩;simp only at Y;subst Y;exact aB h
theorem QS:∀(n:Nat) {v:Nh} {A:Re} {s:IN} {Q:jp},Good s.heap n v->Q false s->wpAny At A (ofAClassStatement n v) Q E s
 |0,v,A,s,Q,⟨_,_,_,_,_,_,z⟩,_=>absurd z (ai _)
 |n+1,v,A,s,Q,⟨a,its,t,e,Z,h2,hd⟩,h=>by
  subst e;have hT:=IsTuple.ty rfl Z;obtain⟨o,ho,hc,k,Y⟩:=id Z;unfold ofAClassStatement;refine aA (wpAny_typeOf hT ?_);have ht:("tuple" == "tuple")=true:=by rfl
  dsimp only;rw[if_pos ht];refine aA ge;simp only[Bool.not_true,Bool.false_eq_true,if_false];refine aA (aV ho Y ?_);refine aA ?_;rw[<-Array.forIn_toList];refine wpAny_forIn_list _ (fun rest r s'=>r.1=none/\s'=s/\∀v∈rest,Good s.heap n v) _ ?_ ?_ _ _ ⟨rfl,rfl,Nc h2 AS⟩
  .rintro v rest r s' ⟨U,rfl,g⟩;refine aA (QS n (g v af) ?_);simp only[Bool.false_eq_true,if_false];exact aB ⟨rfl,rfl,fun u T=>g u (aT _ T)⟩
  .rintro⟨r1,r2⟩ s' ⟨U,rfl,_⟩;simp only at U;subst U;exact aB h
theorem eA{x:Nh}{l:FS}{A:Re}{s:IN}{Q:jp}(hx:Good s.heap 8 x)(hl:∀y∈l,Good s.heap 8 y)(h:Q false s):wpAny At A (searchCouldBeSeen x l) Q E s:=by
  unfold searchCouldBeSeen
  refine aA ?_
  refine wpAny_forIn_list _ (fun rest r s'=>r.1=none/\s'=s/\∀v∈rest,Good s.heap 8 v) _ ?_ ?_ _ _ ⟨rfl,rfl,hl⟩
  . rintro v rest r s' ⟨hr,rfl,hall⟩
    have go:∀b:Bool,wpAny At A (if b=true then pure (ForInStep.yield (none,())) else do
        let q <-eqIsQuiet 8 x
        if(!q)=true then pure (ForInStep.done (some true,())) else do
          let q <-eqIsQuiet 8 v
          if(!q)=true then pure (ForInStep.done (some true,())) else do
            let q <-ofAClassStatement 8 x
            if q=true then pure (ForInStep.done (some true,())) else do
              let q <-ofAClassStatement 8 v
              if q=true then pure (ForInStep.done (some true,())) else pure (ForInStep.yield (none,())))
        (fun st s''=>match st with
          |ForInStep.yield r=>r.1=none/\s''=s'/\∀v∈rest,Good s'.heap 8 v
          |ForInStep.done r=>False) E s':=fun b=>by
      cases b with
      |true=>rw[if_pos rfl];exact aB ⟨rfl,rfl,fun u hu'=>hall u (aT _ hu')⟩
      |false=>
        rw[if_neg aN]
        refine aA (quiet 8 hx ?_)
        simp only[Bool.not_true,Bool.false_eq_true,if_false]
        refine aA (quiet 8 (hall v af) ?_)
        simp only[Bool.not_true,Bool.false_eq_true,if_false]
        refine aA (QS 8 hx ?_)
        simp only[Bool.false_eq_true,if_false]
        refine aA (QS 8 (hall v af) ?_)
        simp only[Bool.false_eq_true,if_false]
        exact aB ⟨rfl,rfl,fun u hu'=>hall u (aT _ hu')⟩
    refine aX (go _) (fun st s'' z=>?_) fun _ _ z=>z
    cases st with
    |yield r=>exact z
    |done r=>exact z.elim
  . rintro⟨r1,r2⟩ s' ⟨hr,rfl,_⟩
    simp only at hr
    subst hr
    exact aB h
end
end TH
namespace TH
open PySem PyProof.Rows PySem.SeqAt
abbrev ES:=Array (Int×Tr)
def PV(g:ES)(i:Nat):Int:=(g[i]?.map cx).getD 0
def YO(g:ES)(t:SetTable)(x:Tr)(h:Int):Option (Option Nat) :=
 if t.gaveWay then none else
 match t.probe (PV g) h (t.probeStart h) with
 |some (.empty j none)=>some (some j)
 |some (.candidate _ i _)=>match g[i]? with
  |some (_,y)=>if y=x then some none else none
  |none=>none
 |_=>none
def JE(st:ES×SetTable)(x:Tr):Option (ES×SetTable) :=
 if(st.2.fits st.1.size&&decide (st.1.size<=1000)&&st.2.plain)=false then none else
 match YO st.1 st.2 x (BZ x) with
 |none=>none
 |some none=>some st
 |some (some slot)=>
  if(st.2.put slot).1.tooFull=false then some (SetTable.insertAt st.1 (st.2.put slot).2 (BZ x,x),(st.2.put slot).1) else
  if((st.2.put slot).1.fits (SetTable.insertAt st.1 (st.2.put slot).2 (BZ x,x)).size&&decide (SetTable.sizeAbove (SetTable.grown (st.1.size+1))<=100000))=false then none else
  match (st.2.put slot).1.relaid ((SetTable.insertAt st.1 (st.2.put slot).2 (BZ x,x)).map cx) (SetTable.grown (st.1.size+1)) with
  |none=>none
  |some (g,order)=>
   if(order.filterMap ((SetTable.insertAt st.1 (st.2.put slot).2 (BZ x,x))[·]?)).size=(SetTable.insertAt st.1 (st.2.put slot).2 (BZ x,x)).size then
    some (order.filterMap ((SetTable.insertAt st.1 (st.2.put slot).2 (BZ x,x))[·]?),g) else none
def QM(G:Value->Tr->Prop)(h:Heap)(p:Int×Value)(q:Int×Tr):Prop:=p.1=q.1/\q.2.deep<8/\G p.2 q.2/\∃a g,p.2=.ref a/\h.IsTuple a g.toArray/\Vs h q.2 g
abbrev EJ(G:Value->Tr->Prop)(h:Heap)(ev:ST)(g:ES):Prop:=Paired (QM G h) ev.toList g.toList
variable{G:Value->Tr->Prop}
section
variable{α β:Type}{F:α->β->Prop}
theorem Paired.get:∀ {l:tV} {m:List β},Paired F l m->∀ {i:Nat} {y:β},m[i]? = some y->∃x,l[i]? = some x/\F x y
 |_,_,.nil,i,y,h=>by simp at h
 |_,_,.cons g r,0,y,h=>by simp at h;subst h;exact⟨_,rfl,g⟩
 |_,_,.cons g r,i+1,y,h=>Paired.get r (by simpa using h)
theorem Paired.none:∀ {l:tV} {m:List β},Paired F l m->∀ {i:Nat},m[i]? = Option.none->l[i]? = Option.none:=fun {l m} r i h=>by
 have:=r.length;rw[List.getElem?_eq_none_iff]at h ⊢
 lia
theorem Paired.app{T:tV}{g:List β}(k:Paired F T g):∀ {l:tV} {m:List β},Paired F l m->Paired F (l++T) (m++g)
 |_,_,.nil=>k
 |_,_,.cons h r=>.cons h (Paired.app k r)
theorem Paired.take:∀ {l:tV} {m:List β} (n:Nat),Paired F l m->Paired F (l.take n) (m.take n)
 |_,_,0,_=>by simpa using Paired.nil
 |_,_,n+1,.nil=>by simpa using Paired.nil
 |_,_,n+1,.cons h r=>.cons h (Paired.take n r)
theorem Paired.drop:∀ {l:tV} {m:List β} (n:Nat),Paired F l m->Paired F (l.drop n) (m.drop n)
 |_,_,0,h=>h
 |_,_,n+1,.nil=>by simpa using Paired.nil
 |_,_,n+1,.cons h r=>Paired.drop n r
theorem Paired.pick{l:tV}{m:List β}(r:Paired F l m):∀(o:List Nat),Paired F (o.filterMap (l[·]?)) (o.filterMap (m[·]?))
 |[]=>.nil
 |i::o=>by
  rw[List.filterMap_cons,List.filterMap_cons];cases e:m[i]? with
  |none=>rw[Paired.none r e];exact Paired.pick r o
  |some y=>
   obtain⟨x,g,h⟩:=Paired.get r e;rw[g];exact .cons h (Paired.pick r o)
theorem Paired.imp{G:α->β->Prop}(h:∀a b,F a b->G a b):∀ {l:tV} {m:List β},Paired F l m->Paired G l m
 |_,_,.nil=>.nil
 |_,_,.cons k r=>.cons (h _ _ k) (Paired.imp h r)
end
theorem J4{α:Type}(xs:Array α)(p:Nat)(x:α):(SetTable.insertAt xs p x).toList=xs.toList.take p++x::xs.toList.drop p:=by
 unfold SetTable.insertAt;simp[List.extract];rw[List.take_of_length_le Ch]
theorem EJ.fst{h:Heap}{ev:ST}{g:ES}(r:EJ G h ev g):ev.map cx=g.map cx:=by
 have key:∀ {l:List (Int×Value)} {m:List (Int×Tr)},Paired (QM G h) l m->l.map cx=m.map cx:=fun r=>by
  induction r with
  |nil=>rfl
  |cons k _ T=>rw[List.map_cons,List.map_cons,T,k.1]
 apply Array.toList_inj.mp
 simpa using key r
theorem EJ.size{h:Heap}{ev:ST}{g:ES}(r:EJ G h ev g):ev.size=g.size:=by simpa using Paired.length r
theorem EJ.PV{h:Heap}{ev:ST}{g:ES}(r:EJ G h ev g)(i:Nat):(ev[i]?.map cx).getD 0=PV g i:=by
 have:=bP (fun a:Array Int=>a[i]?) r.fst;simp only[Array.getElem?_map]at this;rw[TH.PV,this]
theorem EJ.good{h:Heap}{ev:ST}{et:ES}(r:EJ G h ev et):∀p∈ev.toList,Good h 8 p.2:=by
 have key:∀ {l:List (Int×Value)} {m:List (Int×Tr)},Paired (QM G h) l m->∀p∈l,Good h 8 p.2:=fun r=>by
  induction r with
  |nil=>intro p g;cases g
  |cons k _ U=>
   intro p g;rcases aO.mp g with rfl|g
   .obtain⟨_,hd,_,a,T,e,Z,Y⟩:=k;exact⟨a,T,_,e,Z,Y,hd⟩
   .exact U p g
 exact key r
theorem EJ.at{h:Heap}{ev:ST}{Y:ES}(r:EJ G h ev Y){i:Nat}{z:Int}{y:Tr}(e:Y[i]? = some (z,y)):∃a g,ev[i]? = some (z,.ref a)/\h.IsTuple a g.toArray/\Vs h y g/\y.deep<8:=by
 obtain⟨⟨Z,v⟩,h1,T,hd,_,a,g,U,h3,h4⟩:=Paired.get r (by simpa using e);have T:Z=z:=T;have U:v=.ref a:=U;subst T U;exact⟨a,g,by simpa using h1,h3,h4,hd⟩
theorem EJ.keeps{h h':Heap}{ev:ST}{Y:ES}(k:Tl)(r:EJ G h ev Y):EJ G h' ev Y :=
 Paired.imp (fun p q ⟨e,hd,hg,a,g,e2,h1,h2⟩=>⟨e,hd,hg,a,g,e2,(by obtain⟨o,Z,U,n,T⟩:=h1;exact⟨o,k _ _ Z U,U,n,T⟩),h2.keeps k⟩) r
section
variable{prog:Io}{w:Mw}{E:AT}{A:Re}{s:IN}{a xa:Addr}{o:Obj}{ev:ST}{et:ES}{ep:Nat}{t:SetTable}{x:Tr}{its:FS}{h:Int}
theorem cA{r:Option Nat}{Q:SetFound->Shared->Prop}(ho:s.heap.get? a=some o)(hd:o.data=.set ev ep t)(hf:t.fits et.size=true)(R:EJ G s.heap ev et)(U:s.heap.IsTuple xa its.toArray)(T:Vs s.heap x its)(hxd:x.deep<8)
 (hu:A.units+8<cLine)(g:YO et t x h=some r)(h0:r=none->Q (.there none) s)(h1:∀j,r=some j->Q (.free j false) s):wpAny At A (setSearch a (.ref xa) h true) Q E s:=by
 have Y:t.fits ev.size=true:=by rw[R.size];exact hf
 unfold YO at g;by_cases hg:t.gaveWay=true
 .rw[if_pos hg]at g;cases g
 rw[if_neg hg]at g;unfold setSearch;rw[show(100000:Nat)=99999+1 from rfl,setSearchFrom];refine aA (bL ho hd Y ?_);dsimp only;rw[if_neg hg];have hpr:∀f:Nat->Int,(∀i,f i=PV et i)->t.probe f h ((none:Option SetTable.Probe).getD (t.probeStart h))=t.probe (PV et) h (t.probeStart h):=fun f hf=>by
  rw[show f=PV et from funext hf];rfl
 generalize Z:t.probe _ h ((none:Option SetTable.Probe).getD (t.probeStart h))=pr;have hpr':pr=t.probe (PV et) h (t.probeStart h):=Z.symm.trans (hpr _ fun i=>R.PV i);clear Z hpr;subst hpr';cases hp:t.probe (PV et) h (t.probeStart h) with
 |none=>rw[hp]at g;cases g
 |some met=>
  rw[hp]at g;cases met with
  |empty j dummy=>
   cases dummy with
   |none=>cases g;exact aB (h1 j rfl)
   |some d=>cases g
  |candidate j i next=>
   cases he:et[i]? with
   |none=>simp only[he]at g;cases g
   |some zy=>
    obtain⟨z,y⟩:=zy;simp only[he]at g;by_cases hy:y=x
    .rw[if_pos hy]at g;cases g;subst hy;obtain⟨b,its2,e1,e2,e3,e4⟩:=R.at he;cases hl:t.led with
     |true=>
      simp only[Bool.not_true,Bool.false_eq_true,if_false];rw[e1];refine aA (aR (Sa e2 e3 U T AS prog w E _ ?_));rw[decide_eq_true rfl];refine aA (bL ho hd Y ?_);exact aB (h0 rfl)
     |false=>
      simp only[Bool.not_false,if_true];refine aA (eA ⟨xa,its,_,rfl,U,T,hxd⟩ (fun v hv=>?_) ?_)
      .obtain⟨p,hp1,rfl⟩:=aU.mp hv;exact R.good p (Array.mem_toList_iff.mpr (Array.mem_filter.mp (Array.mem_toList_iff.mp hp1)).1)
      simp only[Bool.false_eq_true,if_false];rw[e1];refine aA (aR (Sa e2 e3 U T AS prog w E _ ?_));rw[decide_eq_true rfl];refine aA (bL ho hd Y ?_);exact aB (h0 rfl)
    .rw[if_neg hy]at g;cases g
theorem Ij{n:Nat}(h:n<=100000):n<=sizeLine:=aQ h PP
theorem Xa{T:Heap}(U:T.get? a=some o)(hd:o.data=.set ev ep t)(g:ST)(t':SetTable):(T.update a (Obj.putSet g t')).get? a=some {o with data:=.set g (ep+1) t'}:=by
 have:=bN (Obj.putSet g t') U (by rw[putSet_of g t' hd];rfl);rw[putSet_of g t' hd]at this;exact this
theorem VX{T:Heap}(Y:T.get? a=some o)(Z:o.cls=.type "set")(g:Obj->Obj):∀b u,T.get? b=some u->u.cls=.type "tuple" ->(T.update a g).get? b=some u:=fun b u q U=>by
 have:a≠b:=fun z=>by
  subst z;rw[Y]at q;cases q;rw[Z]at U
  injection U with z
  exact absurd z BY
 rw[Heap.get?_update_other _ _ this];exact q
theorem nG{et' : ES}{t' : SetTable}{Q : jp}(ho : s.heap.get? a = some o)(hc : o.cls = .type "set")(hd : o.data = .set ev ep t)(R : EJ G s.heap ev et)(hx1 : s.heap.IsTuple xa its.toArray)(hx2 : Vs s.heap x its)(hxd : x.deep < 8)(hxg : G (.ref xa) x)
 (hu : A.units + 8 < cLine)(hs : JE (et,t) x = some (et',t'))
 (k : ∀ (b : Bool) (h' : Heap) (tk : Nat) (ev' : ST) (ep' : Nat),Heap.SameBut a s.heap h'->h'.get? a = some { o with data:=.set ev' ep' t' }->EJ G h' ev' et'->Q b { s with heap:=h',toks:=tk }) :
    wpAny At A (setAdd a (.ref xa)) Q E s:=by
  unfold setAdd
  refine aR (aA (jv hx1 hx2 AS fun tk => ?_))
  unfold setAddHashed
  refine aR ?_
  unfold JE at hs
  by_cases h1 : (t.fits et.size && decide (et.size<=1000) && t.plain) = false
  . rw [if_pos h1] at hs; cases hs
  rw [if_neg h1] at hs
  simp only [Bool.not_eq_false,Bool.and_eq_true,decide_eq_true_eq] at h1
  obtain ⟨⟨hf,hz⟩,hpl⟩:=h1
  have hf' : t.fits ev.size = true:=by rw [R.size]; exact hf
  cases hsr : YO et t x (BZ x) with
  | none => simp only [hsr] at hs; cases hs
  | some r=>
    simp only [hsr] at hs
    rw [show (100000 : Nat) = 99999 + 1 from rfl,setAddHashedIn]
    refine aA (bL (s:={ s with toks:=tk }) ho hd hf' ?_)
    dsimp only
    have hbs : byScan (.ref xa) ev = false:=rfl
    rw [hbs,if_neg aN]
    refine aA (cA (s:={ s with toks:=tk }) ho hd hf R hx1 hx2 hxd hu hsr (fun hr => ?_) fun j hr => ?_)
    . subst hr
      cases hs
      exact aB (k _ s.heap tk ev ep (Heap.SameBut.refl ..) (by rw [ho,<- hd]) R)
    . subst hr
      dsimp only at hs ⊢
      refine aA (bL (s:={ s with toks:=tk }) ho hd hf' ?_)
      dsimp only
      have hpl2 : (t.put j).1.plain = true:=hpl
      rw [if_pos hpl2]
      refine aA (U8 8 (s:={ s with toks:=tk }) ⟨xa,its,x,rfl,hx1,hx2,hxd⟩ ?_)
      simp only [if_true]
      have R1 : EJ G s.heap kw (SetTable.insertAt et (t.put j).2 (BZ x,x)):=by
        unfold EJ
        rw [J4,J4]
        exact Paired.app (.cons ⟨rfl,hxd,hxg,xa,its,rfl,hx1,hx2⟩ (Paired.drop _ R)) (Paired.take _ R)
      have hz1 : (SetTable.insertAt ev (t.put j).2 (BZ x,Value.ref xa)).size<=1001:=by
        have h2:=bP List.length (J4 ev (t.put j).2 (BZ x,Value.ref xa))
        simp only [Array.length_toList,List.length_append,List.length_take,List.length_cons,List.length_drop] at h2
        have:=R.size
        lia
      have hz2 : (SetTable.insertAt et (t.put j).2 (BZ x,x)).size = (SetTable.insertAt ev (t.put j).2 (BZ x,Value.ref xa)).size:=R1.size.symm
      refine aA (wpAny_storeSet_of (s:={ s with toks:=tk }) ho hd ?_ (Ij AS))
      have g1:=Xa ho hd kw (t.put j).1
      have k1:=VX ho hc (Obj.putSet kw (t.put j).1)
      have sb1:=ah s.heap a (Obj.putSet kw (t.put j).1)
      by_cases hfull : (t.put j).1.tooFull = false
      . rw [if_pos hfull] at hs
        cases hs
        rw [hfull]
        simp only [Bool.and_false,Bool.false_eq_true,if_false]
        exact aB (k _ _ tk _ _ sb1 g1 (R1.keeps k1))
      . rw [if_neg hfull] at hs
        have hfull : (t.put j).1.tooFull = true:=by simpa using hfull
        rw [hfull]
        simp only [Bool.not_false,Bool.and_true,if_true]
        by_cases h2 : ((t.put j).1.fits (SetTable.insertAt et (t.put j).2 (BZ x,x)).size && decide (SetTable.sizeAbove (SetTable.grown (et.size + 1))<=100000)) = false
        . rw [if_pos h2] at hs; cases hs
        rw [if_neg h2] at hs
        simp only [Bool.not_eq_false,Bool.and_eq_true,decide_eq_true_eq] at h2
        obtain ⟨hfit,hsa⟩:=h2
        cases hrl : (t.put j).1.relaid ((SetTable.insertAt et (t.put j).2 (BZ x,x)).map cx) (SetTable.grown (et.size + 1)) with
        | none => simp only [hrl] at hs; cases hs
        | some to=>
          obtain ⟨t2,order⟩:=to
          simp only [hrl] at hs
          by_cases h3 : (order.filterMap ((SetTable.insertAt et (t.put j).2 (BZ x,x))[·]?)).size = (SetTable.insertAt et (t.put j).2 (BZ x,x)).size
          . rw [if_pos h3] at hs
            cases hs
            have R2 : EJ G s.heap (order.filterMap KK) (order.filterMap ((SetTable.insertAt et (t.put j).2 (BZ x,x))[·]?)):=by
              unfold EJ
              have:=Paired.pick R1 order.toList
              simpa using this
            have g2:=Xa g1 rfl (order.filterMap KK) t'
            have k2:=VX g1 hc (Obj.putSet (order.filterMap KK) t')
            have sb2:=ah (s.heap.update a (Obj.putSet kw (t.put j).1)) a (Obj.putSet (order.filterMap KK) t')
            refine aA ?_
            unfold setRelay
            refine aA (bL g1 rfl (by rw [<- hz2]; exact hfit) ?_)
            dsimp only
            rw [R.size,if_neg (Nat.not_lt.mpr (Ij hsa))]
            refine aA ?_
            rw [R1.fst,hrl]
            have hsz : (order.filterMap KK).size = (SetTable.insertAt ev (t.put j).2 (BZ x,Value.ref xa)).size:=by rw [R2.size,h3,hz2]
            have hne : ¬ ((order.filterMap KK).size != (SetTable.insertAt ev (t.put j).2 (BZ x,Value.ref xa)).size) = true:=by simp [hsz]
            show wpAny _ _ (do if (order.filterMap KK).size != (SetTable.insertAt ev (t.put j).2 (BZ x,Value.ref xa)).size then unsupported "internal:set-table-lost-an-element"
                               pure (order.filterMap KK,t')) _ _ _
            rw [if_neg hne]
            refine aB ?_
            refine wpAny_storeSet_of g1 rfl ?_ (Ij (by rw [hsz]; lia))
            exact aB (k _ _ tk _ _ (sb1.trans sb2) g2 ((R2.keeps k1).keeps k2))
          . rw [if_neg h3] at hs; cases hs
end
end TH
namespace TH
open PySem
def grow:List Tr->Tr->List Tr
 |_,.nil=>[]
 |pre,.cons b r=>((Tr.of (Tr.C5 (b.bs++[.nil]))::grow [] b).map fun g=>Tr.of (Tr.C5 (pre++g::r.bs)))++grow (pre++[b]) r
def q8(t:Tr):List Tr:=Tr.of (Tr.C5 (t.bs++[.nil]))::grow [] t
def ups(l:iF):List Tr:=l.flatMap q8
def Ob(st:ES×SetTable):List Tr->Option (ES×SetTable)
 |[]=>some st
 |x::r=>(JE st x).bind fun g=>Ob g r
def MX(led:Bool):ES×SetTable:=(#[],.fresh 0 0 led)
def RA(st:ES×SetTable):List Tr:=st.1.toList.map (·.2)
def tz:Nat->List Tr
 |0=>[.nil]
 |n+1=>(Tr.C5 ((ups (tz n)).eraseDups)).reverse
end TH
namespace TH
open PySem PyProof.Rows PySem.SeqAt
def Uk(G:Value->Tr->Prop)(h:Heap)(v:Nh)(x:Tr):Prop:=x.deep<8/\G v x/\∃a g,v=.ref a/\h.IsTuple a g.toArray/\Vs h x g
abbrev Kp(G:Value->Tr->Prop)(h:Heap)(vs:FS)(xs:iF):Prop:=Paired (Uk G h) vs xs
variable{G:Value->Tr->Prop}
theorem Uk.keeps{h h':Heap}(k:Tl){v:Nh}{x:Tr}(r:Uk G h v x):Uk G h' v x:=by
 obtain⟨hd,hg,a,g,e,h1,Z⟩:=r;exact⟨hd,hg,a,g,e,(by obtain⟨o,Y,U,n,T⟩:=h1;exact⟨o,k _ _ Y U,U,n,T⟩),Z.keeps k⟩
theorem Kp.keeps{h h':Heap}(k:Tl){vs:FS}{xs:iF}(r:Kp G h vs xs):Kp G h' vs xs:=Paired.imp (fun _ _ z=>z.keeps k) r
def Na(G:Value->Tr->Prop)(h:Heap)(S:Addr)(st:ES×SetTable):Prop:=∃o ev ep,h.get? S=some o/\o.ExactSet/\o.data=.set ev ep st.2/\EJ G h ev st.1
theorem Na.keeps{h h':Heap}{S:Addr}{st:ES×SetTable}(x:Na G h S st)(g:∀o,h.get? S=some o->h'.get? S=some o)(k:Tl):Na G h' S st:=by
 obtain⟨o,ev,ep,Z,Y,U,T⟩:=x;exact⟨o,ev,ep,g _ Z,Y,U,T.keeps k⟩
section
variable{prog:Io}{w:Mw}{A:Re}{R:Result->Shared->Prop}{I S:Addr}{fp wr:al}{St:Nat->Heap->Prop}{items:Array Value}{xs:iF}{st':ES×SetTable}
theorem gy(W:Walks prog w A.in1 I fp wr items.size (fun i v=>items[i]? = some v) St)(hSf:S ∉ fp)(hcl:∀i h b o,St i h->b∈wr->h.get? b=some o->o.cls≠.type "tuple")(hu:A.units+10<cLine) :
  ∀(k i:Nat) (s:IN) (st:ES×SetTable),items.size-i=k->i<=items.size->St i s.heap->Na G s.heap S st->Kp G s.heap items.toList xs->Ob st (xs.drop i)=some st' ->
   (∀(h':Heap) (tk:Nat),(∀b o,b≠S->b ∉ wr->s.heap.get? b=some o->h'.get? b=some o)->(∀b o,s.heap.get? b=some o->o.cls=.type "tuple" -> h'.get? b=some o)->Na G h' S st'->R (.ok (.ret .none)) KT) ->
   codeAny At A (.builtin "set.update.loop" ⟨[.ref S,.ref I],[]⟩) R s:=by
 have hSw:S ∉ wr:=fun h=>hSf (W.sub _ h);intro k
 induction k with
 |zero=>
  intro i s st hk hi U hS hT g hR;have hin:i=items.size:=by lia
  subst hin;have Y:=Paired.length hT;rw[List.drop_of_length_le (by rw[<-Y];simp)]at g;cases g;refine codeAny_builtin F.entry_set_update_loop ?_;rw[Around.under_plainId F.plain_set_update_loop _];show wpAny _ A.in1 (pyNext (.ref I)>>=_) _ _ s;refine aA (W.done s _ _ U fun h' tk hm=>?_);show wpAny _ A.in1 (ret Value.none) _ _ _;have kt:∀b o,s.heap.get? b=some o->o.cls=.type "tuple" -> h'.get? b=some o:=fun b o e T=>hm b o (fun hb=>hcl _ _ b o U hb e T) e;exact aB (hR h' tk (fun b o _ hb e=>hm b o hb e) kt (hS.keeps (fun o e=>hm S o hSw e) kt))
 |succ k ih=>
  intro i s st hk hi U hS hT g hR;have hlt:i<items.size:=by lia
  refine codeAny_builtin F.entry_set_update_loop ?_;rw[Around.under_plainId F.plain_set_update_loop _];show wpAny _ A.in1 (pyNext (.ref I)>>=_) _ _ s;refine aA (W.item i s _ _ hlt U fun v h1 tk hP hst' hm=>?_);have kt:∀b o,s.heap.get? b=some o->o.cls=.type "tuple" -> h1.get? b=some o:=fun b o e T=>hm b o (fun hb=>hcl _ _ b o U hb e T) e;have hS1:=hS.keeps (fun o e=>hm S o hSw e) kt;have hT1:=hT.keeps kt;have Y:=Paired.length hT;have hxi:i<xs.length:=by rw[<-Y];simpa using hlt
  have hx:xs[i]? = some xs[i]:=aM hxi;obtain⟨v',hv',hxd,hxg,xa,its,e1,e2,e3⟩:=Paired.get hT1 hx;have hvv:v'=v:=by
   have h2:items.toList[i]? = some v:=by simpa using hP
   rw[h2]at hv';exact(ax hv').symm
  subst hvv;subst e1;rw[List.drop_eq_getElem_cons hxi,Ob]at g;cases Z:JE st xs[i]with
  |none=>rw[Z]at g;cases g
  |some st1=>
   rw[Z]at g;obtain⟨o,ev,ep,g1,g2,g3,g4⟩:=hS1;obtain⟨et,t⟩:=st;obtain⟨et1,t1⟩:=st1;show wpAny _ A.in1 (holding [Value.ref xa] (setAdd S (.ref xa))>>=_) _ _ _;refine aA (aR (nG (s:={s with heap:=h1,toks:=tk}) g1 g2.1 g3 g4 e2 e3 hxd hxg (by rw[Around.in1_units];lia) Z fun b h2 tk2 ev2 ep2 sb gS R2=>?_));have GH:∀b o,h1.get? b=some o->o.cls=.type "tuple" -> h2.get? b=some o:=fun b o' e T=>by
    rw[sb.2 b fun z=>?_]
    .exact e
    .subst z;rw[g1]at e;cases e;rw[g2.1]at T
     injection T with T
     exact absurd T BY
   refine aB ⟨plainId_quiet F.plain_set_update_loop _,ih SL {s with heap:=h2,toks:=tk2} (et1,t1) AS hlt (W.frame _ _ _ hst' fun b hb o' e=>?_) ⟨_,ev2,ep2,gS,g2,rfl,R2⟩ (hT1.keeps GH) g fun h3 tk3 m3 kt3 S3=>?_⟩
   .rw[sb.2 b fun z=>hSf (z ▸ hb)];exact e
   .refine hR h3 tk3 (fun b o' hbS hb e=>?_) (fun b o' e T=>kt3 b o' (GH b o' (kt b o' e T) T) T) S3;refine m3 b o' hbS hb ?_;show h2.get? b=some o';rw[sb.2 b hbS];exact hm b o' hb e
end
end TH
namespace TH
open PySem PyProof.Rows PySem.SeqAt
section
variable{G:Value->Tr->Prop}{prog:Io}{w:Mw}{A:Re}{E:AT}{s:IN}{l:Addr}{us:FS}{xs:iF}
abbrev HA(led:Bool):Obj:={ cls:=.type "set",dict:=none,data:=.set #[] 0 (.fresh 0 0 led)}
theorem Yb(v:Nh){Q1:AT}(k:Q1 GE {s with heap:=s.heap.push (HA (!w.params.followText "set-order"))}) :
  codeAny At A (.call (.builtin "set.__new__") ⟨[.type "set",v],[]⟩) (wants Q1 E) s:=by
 refine codeAny_of_tree (show wpAny _ A.in1 (checkBuiltinCall "set.__new__" ⟨[.type "set",v],[]⟩>>=fun _=>again (.builtin "set.__new__" ⟨[.type "set",v],[]⟩)) _ _ s from ?_);refine aA (wpAny_of_eq (F.newCall_set_1 v) (aB ⟨plainId_quiet F.plain_set_new _,codeAny_builtin F.entry_set_new ?_⟩));rw[Around.under_plainId F.plain_set_new _];unfold Builtin.«set.__new__»;unfold Builtin.Frozenset.newClass;have q:=sub_set_self;obtain⟨h0,g,T,t0,o0⟩:=s;dsimp only
 wp_walk
 refine wpAny_askSetting ge;dsimp only;simp only[newObj];exact aA (wpAny_alloc (aB (aB k)))
theorem Wx{Q:AT}(hA:A.handled=none)(hL:s.heap.IsList l us.toArray)(hT:Kp G s.heap us xs)(hu:A.units+20<cLine){st:ES×SetTable}(Z:Ob (MX (!w.params.followText "set-order")) xs=some st)
 (k:∀(T:Heap) (tk:Nat),Na G T s.heap.objs.size st->(∀b u,s.heap.get? b=some u->T.get? b=some u)->Q GE {s with heap:=T,toks:=tk}) :
  wpAny At A (call (.type "set") [.ref l]) Q E s:=by
 obtain⟨mc,mt,hmro⟩:=F.called_set.mro;have q1:=F.called_set.made;have q2:=F.called_set.sub;have q3:=F.called_set.notType;have q4:=F.called_set.canCreate;have q5:=F.typeCall_set_1 (.ref l);refine wpAny_call (codeAny_of_tree (show wpAny _ _ (callAny (.type "set") _) _ _ _ from ?_));refine aB ⟨Code.quiet_builtin _ am,codeAny_builtin F.entry_type_call ?_⟩;rw[Around.under_plain (weight_type_call_type "set" [.ref l] []) rfl]
 repeat (any_goals (first|assumption|wp_step))
 have hnew:=Yb (prog:=prog) (w:=w) (s:=s) (A:=A.in1) (E:=E) (.ref l) (Q1:=fun v s1=>v=.ref s.heap.objs.size/\s1={s with heap:=s.heap.push (HA (!w.params.followText "set-order"))}) ⟨rfl,rfl⟩;refine codeAny_mono hnew fun r s1 hr=>?_;cases r with
 |error e=>exact hr
 |ok fl=>
  cases fl with
  |next=>exact hr.elim
  |brk=>exact hr.elim
  |cont=>exact hr.elim
  |ret obj=>
   obtain⟨rfl,rfl⟩:=hr;generalize (!w.params.followText "set-order")=led at Z;have gS:(s.heap.push (HA led)).get? s.heap.objs.size=some (HA led):=aL _ rfl;have tS:Shared.TypeIs {s with heap:=s.heap.push (HA led)} GE "set" := ⟨_,gS,rfl⟩;have q6:=F.called_set.init.lookup;have q7:=F.called_set.init.bind GE
   repeat (any_goals (first|assumption|wp_step))
   have U:codeAny At A.in1 (.call (.builtin "set.__init__") ⟨[.ref s.heap.objs.size,.ref l],[]⟩)
     (wants (fun v s2=>v=.none/\∃T tk,s2={s with heap:=T,toks:=tk}/\Na G T s.heap.objs.size st/\∀b u,s.heap.get? b=some u->T.get? b=some u) E) {s with heap:=s.heap.push (HA led)}:=by
    refine codeAny_call_builtin F.called_set.init.plain F.entry_set_init (check_set_init_1 tS ?_);obtain⟨⟨c0,d0,dt0,sl0⟩,gl,c1,n0,dt1⟩:=id hL;simp only at c1 dt1;subst c1 dt1;have gl1:(s.heap.push (HA led)).get? l=some ⟨.type "list",d0,.seq us.toArray n0,sl0⟩:=aF _ gl;have Y:(s.heap.push (HA led)).IsList l us.toArray:=⟨_,gl1,rfl,n0,rfl⟩;have s1:=F.sub_list_set;have s2:=F.sub_list_frozenset;have s3:(Value.type "list" == Value.type "dict")=false:=by decide
    unfold Builtin.«set.__init__» noKeywords Builtin.Frozenset.updateFrom;generalize ePI:pyIter=PI
    wp_walk
    subst ePI;refine wpAny_pyIter_list Y (aA (wpAny_runValue ?_));have ll:l<s.heap.objs.size:=aG gl;have zI:(s.heap.push (HA led)).objs.size=s.heap.objs.size+1:=Heap.size_push ..;have neI:l≠(s.heap.push (HA led)).objs.size:=by rw[zI];exact aJ (bT ll)
    have nfp:s.heap.objs.size ∉ [(s.heap.push (HA led)).objs.size,l]:=by
     simp only[List.mem_cons,List.not_mem_nil,or_false,not_or];exact⟨by rw[zI];exact aJ (bX _),Nat.ne_of_gt ll⟩
    have hA3:A.in1.in1.in1.handled=none:=by simp[hA]
    refine gy (G:=G) (xs:=xs) (st':=st) (Walks.list hA3 _ l neI us.toArray) nfp (fun i h b o hit hb e hc=>?_) (by simp only[Around.in1_units];lia) _ 0 _ (MX led) rfl (bK _) ⟨⟨_,Heap.get?_push_size _ rfl,rfl,rfl⟩,Y.push _⟩ ?_ ?_ Z fun T tk m2 GH S2=>?_
    .obtain⟨⟨oi,gi,ci,_⟩,_⟩:=hit;have:b=(s.heap.push (HA led)).objs.size:=by simpa using hb
     subst this;rw[gi]at e;cases e;rw[ci]at hc
     injection hc with hc
     exact absurd hc BY
    .exact⟨HA led,#[],0,Heap.get?_push_of_some _ gS,⟨rfl,rfl,rfl⟩,rfl,.nil⟩
    .exact hT.keeps fun b o e _=>aF _ (aF _ e)
    .refine aB ?_;show wpAny _ _ (ret Value.none) _ _ _;refine aB ⟨rfl,T,tk,rfl,S2,fun b u e=>?_⟩;have lb:b<s.heap.objs.size:=aG e;refine m2 b u (aJ lb) ?_ (aF _ (aF _ e));simp only[List.mem_cons,List.not_mem_nil,or_false];rw[zI];exact aJ (bT lb)
   refine codeAny_mono U fun r2 s2 g=>?_;cases r2 with
   |error e=>exact g
   |ok f2=>
    cases f2 with
    |next=>exact g.elim
    |brk=>exact g.elim
    |cont=>exact g.elim
    |ret v2=>
     obtain⟨rfl,T,tk,rfl,S2,k2⟩:=g
     repeat (any_goals (first|assumption|wp_step))
     exact k T tk S2 k2
end
end TH
namespace TH
open PySem PyProof.Rows PySem.SeqAt
theorem SR:entryFor table "set.__iter__" = some Builtin.«frozenset.__iter__» :=
 entryFor_alias (id' := "frozenset.__iter__") M0 rfl am M0
theorem FA:Slot "set_iterator" "__next__" "set_iterator.__next__" :=
 .of (owner := "set_iterator") (n := "__next__") (by rw[typeLookup_type,builtinLookup_eq_fast];kernel_rfl) am
  (by decide +kernel) am (by first|exact .inl am|exact .inr am) (by rw[isSubtype_type];kernel_rfl)
theorem MO:entryFor table "set_iterator.__next__" = some Builtin.«set_iterator.__next__»:=entryFor_of_fast M0
theorem Nr(a:Nh):argsOk "set_iterator.__next__" ⟨[a],[]⟩:=by unfold argsOk;kernel_rfl
theorem Nt:Slot "set_iterator" "__iter__" "set_iterator.__iter__" :=
 .of (owner := "set_iterator") (n := "__iter__") (by rw[typeLookup_type,builtinLookup_eq_fast];kernel_rfl) am
  (by decide +kernel) am (by first|exact .inl am|exact .inr am) (by rw[isSubtype_type];kernel_rfl)
theorem Ta:entryFor table "set_iterator.__iter__" = some Builtin.«dict_keyiterator.__iter__» :=
 entryFor_alias (id' := "dict_keyiterator.__iter__") M0 rfl am M0
theorem Ug(a:Nh):argsOk "set_iterator.__iter__" ⟨[a],[]⟩:=by unfold argsOk;kernel_rfl
section
variable{α:Type}{next:Nat->Nat}
theorem Xl:∀(n k:Nat) (left:tV) (out:Array α),left.length=n->(pickOrder.go next n k left out).toList.Perm (out.toList++left)
 |0,k,left,out,h=>by
  have:left=[]:=bO h;subst this;rw[pickOrder.go];simp
 |n+1,k,left,out,h=>by
  rw[pickOrder.go];have g:next k % left.length<left.length:=Nat.mod_lt _ AS;rw[List.getElem?_eq_getElem g];refine(Xl n oF _ _ (by rw[List.length_eraseIdx_of_lt g];lia)).trans ?_;rw[Array.toList_push,List.append_assoc];refine List.Perm.append_left _ ?_;rw[List.eraseIdx_eq_take_drop_succ];have e:left.take (next k % left.length)++left[next k % left.length]::left.drop (next k % left.length+1)=left:=by rw[<-List.drop_eq_getElem_cons g,List.take_append_drop]
  have p:=List.perm_middle (a:=left[next k % left.length]) (l₁:=left.take (next k % left.length)) (l₂:=left.drop (next k % left.length+1));rw[e]at p;exact p.symm
theorem cw(xs:Array α):(pickOrder next xs).toList.Perm xs.toList:=by
 unfold pickOrder
 simpa using Xl xs.size 0 xs.toList #[] Ch
end
end TH
namespace TH
open PySem PyProof.Rows PySem.SeqAt
def Gw(w:Mw)(S:Addr)(ep:Nat)(ev:ST):Array (Int×Value):=if w.params.followText "set-order" = true then pickOrder (w.params.setOrder S ep) ev else ev
theorem UE(w:Mw)(S:Addr)(ep:Nat)(ev:ST):(Gw w S ep ev).toList.Perm ev.toList:=by
 unfold Gw;split
 .exact cw ev
 .exact .refl _
theorem Lw(w:Mw)(S:Addr)(ep:Nat)(ev:ST):(Gw w S ep ev).size=ev.size:=by simpa using (UE w S ep ev).length_eq
def Jm(t:SetTable):Nat->Nat
 |0=>0
 |i+1=>t.place.getD i 0+1
def FI(w:Mw)(t:SetTable)(i:Nat):Nat:=if w.params.followText "set-order" = true then 0 else Jm t i
def OH(t:SetTable)(n:Nat):Bool:=(List.range (n+1)).all fun i=>decide (SetTable.below t.place (Jm t i)=i)
abbrev Lu(w:Mw)(S:Addr)(t:SetTable)(ep n i:Nat):Obj:={ cls:=.type "set_iterator",data:=.fields #[rawInt ((FI w t i:Nat):Int),rawInt (i:Int),.ref S,rawInt (n:Int),rawInt (ep:Int)]}
structure GQ(w:Mw)(o:Obj)(ev:ST)(ep:Nat)(t:SetTable):Prop where
 ex:o.ExactSet
 dat:o.data=.set ev ep t
 fit:t.fits ev.size=true
 plain:t.plain=true
 led:t.led=!w.params.followText "set-order"
 walk:OH t ev.size=true
section
variable{prog:Io}{w:Mw}{A:Re}{E:AT}{s:IN}{S I:Addr}{o:Obj}{ev:ST}{ep i:Nat}{t:SetTable}
theorem SQ{Q:jp}(h:Q (w.params.followText "set-order") s):wpAny At A setsByText Q E s:=by
 unfold setsByText;exact aA (wpAny_askSetting (aB h))
theorem GQ.Z6(W:GQ w o ev ep t):(!t.plain&&decide (ev.size > 1))=false:=by rw[W.plain];rfl
theorem GQ.place(W:GQ w o ev ep t):t.place.size=ev.size:=by
 have:=W.fit;unfold SetTable.fits at this;simp only[Bool.and_eq_true,beq_iff_eq]at this;exact this.1
theorem VC{Q:Option (Value×Nat)->Shared->Prop}(W:GQ w o ev ep t)(ho:s.heap.get? S=some o)(hi:i<=ev.size)(h:Q ((Gw w S ep ev)[i]?.map fun e=>(e.2,FI w t SL)) s) :
  wpAny At A (setNext S (FI w t i) i ep) Q E s:=by
 unfold setNext;refine aA (bL ho W.dat W.fit ?_);refine aA (SQ ?_);cases hb:w.params.followText "set-order" with
 |true=>
  rw[if_pos rfl];have U:¬(ep != ep)=true:=by simp
  rw[if_neg U];unfold setWalk;refine aA (aA (bL ho W.dat W.fit ?_));refine aA (SQ ?_);rw[if_pos hb];refine aA (wpAny_askSetting ge);refine aB ?_;have e:Gw w S ep ev=pickOrder (w.params.setOrder S ep) ev:=by unfold Gw;rw[if_pos hb]
  rw[e]at h;have Y:FI w t i=FI w t SL:=by unfold FI;rw[if_pos hb,if_pos hb]
  rw[Y];exact h
 |false=>
  rw[if_neg aN];refine wpAny_ite_split (fun hd=>?_) fun _=>?_
  .have:(!t.plain&&decide (ev.size > 1))=true:=hd;rw[W.Z6]at this;cases this
  .refine aA ?_;have hl:t.led=true:=by rw[W.led,hb];rfl
   have hn:¬(!t.led && !ev.isEmpty)=true:=by rw[hl];simp
   show wpAny _ _ (if(!t.led && !ev.isEmpty)=true then unsupported "set:maker-not-led" else pure ()) _ _ _;rw[if_neg hn];refine aB ge;have g:=W.walk;unfold OH at g;have g:=ao.mp g i (ar.mpr AS);have g:SetTable.below t.place (Jm t i)=i:=by simpa using g
   have e1:FI w t i=Jm t i:=by unfold FI;rw[hb];rfl
   have Y:FI w t SL=Jm t SL:=by unfold FI;rw[hb];rfl
   have e3:Gw w S ep ev=ev:=by unfold Gw;rw[hb];rfl
   rw[Y,e3]at h;rw[e1,g];by_cases T:i<ev.size
   .have Z:i<t.place.size:=by rw[W.place];exact T
    rw[Array.getElem?_eq_getElem T]at h ⊢;rw[Array.getElem?_eq_getElem Z];have e4:Jm t SL=t.place[i]+1:=by
     rw[Jm,Array.getD_eq_getD_getElem?,Array.getElem?_eq_getElem Z]
     rfl
    rw[e4]at h;exact h
   .rw[Array.getElem?_eq_none AS]at h ⊢;exact h
theorem eI{Q:Of}{z:Int}{v:Nh}(W:GQ w o ev ep t)(Y:s.heap.get? S=some o)(g:s.heap.get? I=some (Lu w S t ep ev.size i))(U:(Gw w S ep ev)[i]? = some (z,v))
 (h:∀h',h'.get? I=some (Lu w S t ep ev.size SL)->Heap.SameBut I s.heap h'->Q (some v) Pz):wpAny At A (pyNext (.ref I)) Q E s:=by
 have Z:s.TypeIs (.ref I) "set_iterator" := ⟨_,g,rfl⟩;have hlt:i<ev.size:=by
  have:=(Array.getElem?_eq_some_iff.mp U).1;rw[Lw]at this;exact this
 unfold pyNext;refine aA (bW (aZ (name:=Str.ofString "__next__") Z FA (aY FA Z MO ?_ (Nr _))));unfold Builtin.«set_iterator.__next__»;refine aA (wpAny_of_eq (a:=(Value.ref I,[])) rfl ?_);refine aA (wpAny_fieldsOf g rfl ?_);show wpAny _ _ (setEntries S>>=_) _ _ s;refine aA (wpAny_setEntries_of Y W.dat W.fit ?_);have T:¬((ev.size:Int) != (ev.size:Int))=true:=by simp
 dsimp only;rw[if_neg T];refine aA ?_;show wpAny _ _ (setNext S (FI w t i) i ep) _ _ _;refine VC W Y AS ?_;rw[U];show wpAny _ _ (setField (.ref I) 0 (rawInt ((FI w t SL:Nat):Int))>>=_) _ _ _;refine aA (wpAny_setField g rfl Ch ?_);have g1:(s.heap.update I (Obj.mapFields (·.setIfInBounds 0 (rawInt ((FI w t SL:Nat):Int))))).get? I=some { cls:=.type "set_iterator",data:=.fields #[rawInt ((FI w t SL:Nat):Int),rawInt (i:Int),.ref S,rawInt (ev.size:Int),rawInt (ep:Int)]} :=
  bN _ g rfl
 refine aA (wpAny_setField g1 rfl Ch ?_);refine aB ⟨_,rfl,wpAny_pure (h _ ?_ ((ah ..).trans (ah ..)))⟩;exact bN _ g1 rfl
theorem dW{Q:Of}(hh:A.handled=none)(W:GQ w o ev ep t)(Z:s.heap.get? S=some o)(Y:s.heap.get? I=some (Lu w S t ep ev.size ev.size))
 (h:∀h',Heap.ExtBut I s.heap h'->Q none Pz):wpAny At A (pyNext (.ref I)) Q E s:=by
 have hT:s.TypeIs (.ref I) "set_iterator" := ⟨_,Y,rfl⟩;unfold pyNext;refine aA (bW (aZ (name:=Str.ofString "__next__") hT FA (aY FA hT MO ?_ (Nr _))));unfold Builtin.«set_iterator.__next__»;refine aA (wpAny_of_eq (a:=(Value.ref I,[])) rfl ?_);refine aA (wpAny_fieldsOf Y rfl ?_);show wpAny _ _ (setEntries S>>=_) _ _ s;refine aA (wpAny_setEntries_of Z W.dat W.fit ?_);have g:¬((ev.size:Int) != (ev.size:Int))=true:=by simp
 dsimp only;rw[if_neg g];refine aA ?_;show wpAny _ _ (setNext S (FI w t ev.size) ev.size ep) _ _ _;refine VC W Z em ?_;rw[Array.getElem?_eq_none (by rw[Lw];exact aI _)];show wpAny _ _ (setField (.ref I) 2 Value.none>>=_) _ _ _;refine aA (wpAny_setField Y rfl Ch ?_);refine aA ?_;simp only[newExc,newTuple];refine aA (bC ?_ (by size_fits));refine aA (m:=firstArgMember _ _) (wpAny_of_eq (a:=Value.none) (by first|rfl|(simp only[firstArgMember];rfl)) (bC ?_ (by size_fits)));simp only[raiseNew];refine aA (wpAny_handled ?_);have U:A.in1.handled=none:=hh;rw[U];refine aA (aB (wpAny_throw ?_));refine aA (wpAny_isInstance (b:=true) (T := "StopIteration") ⟨_,Heap.get?_push_size _ rfl,rfl⟩ isSubtype_stop ?_);exact aB (h _ (((ah ..).extBut.push _).push _))
theorem dy{Q:AT}(T:s.heap.get? I=some (Lu w S t ep ev.size i))(h:Q (.ref I) s):wpAny At A (pyIter (.ref I)) Q E s:=by
 have g:s.TypeIs (.ref I) "set_iterator" := ⟨_,T,rfl⟩;refine wpAny_pyIter_slot g Nt (aY Nt g Ta ?_ (Ug _));show wpAny _ _ (ret (.ref I)) _ _ s;exact aB ⟨_,rfl, "set_iterator",_,g,FA.lookup,h⟩
theorem Zd(hh:A.handled=none)(hne:S≠I)(W:GQ w o ev ep t) :
  Walks prog w A I [I,S] [I] ev.size (fun i v=>∃z,(Gw w S ep ev)[i]? = some (z,v)) (fun i h=>h.get? I=some (Lu w S t ep ev.size i)/\h.get? S=some o) where
 sub:=fun b hb=>by simp at hb;simp[hb]
 frame:=fun _ _ _ x k=>⟨k I Ch _ x.1,k S Ch _ x.2⟩
 item:=fun i s Q E hi x hQ=>by
  have hi':i<(Gw w S ep ev).size:=by rw[Lw];exact hi
  obtain⟨z,v,hx⟩:∃z v,(Gw w S ep ev)[i]? = some (z,v):=⟨(Gw w S ep ev)[i].1,(Gw w S ep ev)[i].2,by rw[Array.getElem?_eq_getElem hi']⟩;refine eI W x.2 x.1 hx fun h' g sb=>hQ v h' s.toks ⟨z,hx⟩ ⟨g,(sb.2 S hne).trans x.2⟩ fun b u hb e=>?_;rw[sb.2 b fun q=>hb (by simp[q])];exact e
 done:=fun s Q E x hQ=>dW hh W x.2 x.1 fun h' eb=>hQ h' s.toks fun b u hb e=>eb b u (fun q=>hb (by simp[q])) e
 self:=fun _ _ _ _ x hQ=>dy x.1 hQ
theorem fD{Q:jp}(Y:s.TypeIs (.ref S) "set")(h:Q false s):wpAny At A (Builtin.List.listLengthHint (.ref S)) Q E s:=by
 unfold Builtin.List.listLengthHint;refine aA (bU Y PySem.F.slot_set_len.lookup ?_);generalize g:("set.__len__" : String)=U
 wp_delta
 rw[show splitId U=some ("set","__len__") from by subst g;decide +kernel];subst g;refine aA (wpAny_isInstance (b:=true) (T := "set") Y (by rw[isSubtype_type];kernel_rfl) ?_);refine wpAny_ite_split (fun z=>absurd z BY) fun _=>?_;refine wpAny_ite_split (fun _=>?_) fun z=>absurd am z;exact aA (wpAny_typeOf Y (aB h))
theorem dg{Q:AT}(W:GQ w o ev ep t)(g:s.heap.get? S=some o)(h:Q GE {s with heap:=s.heap.push (Lu w S t ep ev.size 0)}) :
  wpAny At A (pyIter (.ref S)) Q E s:=by
 have T:s.TypeIs (.ref S) "set" := ⟨o,g,W.ex.1⟩;refine wpAny_pyIter_slot T PySem.F.slot_set_iter (aY PySem.F.slot_set_iter T SR ?_ (PySem.F.args_set_iter_1 _));unfold Builtin.«frozenset.__iter__»;refine aA (wpAny_of_eq (a:=S) rfl ?_);unfold Builtin.Frozenset.sizeOf;refine aA (aA (wpAny_setEntries_of g W.dat W.fit ge));unfold setDrawn;refine aA (aA (bL g W.dat W.fit (aA (SQ ge))));have hd:(!w.params.followText "set-order" && (!t.plain&&decide (ev.size > 1)))=false:=by rw[W.Z6];simp
 refine wpAny_ite_split (fun z=>?_) fun _=>?_
 .have:(!w.params.followText "set-order" && (!t.plain&&decide (ev.size > 1)))=true:=z;rw[hd]at this;cases this
 refine aA ge;unfold setEpoch;refine aA (aA (bL g W.dat W.fit ge));have U:FI w t 0=0:=by unfold FI Jm;split<;>rfl
 refine aA (bC (aB ⟨_,rfl, "set_iterator",_,⟨_,Heap.get?_push_size _ rfl,rfl⟩,FA.lookup,?_⟩));unfold Lu at h;rw[U]at h;exact h
theorem jr(W:GQ w o ev ep t):PySem.W.KdlSrc prog w "set" S S ev.size (fun i v=>∃z,(Gw w S ep ev)[i]? = some (z,v)) (fun h=>h.get? S=some o) where
 type:=fun _ ho=>⟨o,ho,W.ex.1⟩
 there:=fun _ ho=>⟨aG ho,Heap.lt_size ho⟩
 keep:=fun _ _ ho k=>k S lm _ ho
 notList:=by decide
 notTuple:=by decide
 hint:=fun _ _ s _ ho h=>fD ⟨o,ho,W.ex.1⟩ h
 iter:=fun A s hh ho=>⟨Lu w S t ep ev.size 0,_,(fun E Q h=>dg W ho h),Zd hh (aJ (aG ho)) W,⟨aL _ rfl,Heap.get?_push_of_some _ ho⟩⟩
end
end TH
namespace TH
open PySem PyProof.Rows PySem.SeqAt
theorem Paired.perm{α β:Type}{F:α->β->Prop}{l l':tV}(p:l'.Perm l):∀ {m:List β},Paired F l m->∃g,g.Perm m/\Paired F l' g:=by
 induction p with
 |nil=>intro m r;exact⟨m,.refl _,r⟩
 |cons x _ ih=>
  intro m r;cases r with
  |cons h U=>
   obtain⟨g,p',q⟩:=ih U;exact⟨_::g,p'.cons _,.cons h q⟩
 |swap x y l=>
  intro m r;cases r with
  |cons h U=>
   cases U with
   |cons h' T=>exact⟨_::_::_,List.Perm.swap ..,.cons h' (.cons h T)⟩
 |trans _ _ Z Y=>
  intro m r;obtain⟨m1,p1,q1⟩:=Y r;obtain⟨m2,p2,q2⟩:=Z q1;exact⟨m2,p2.trans p1,q2⟩
variable{G:Value->Tr->Prop}
theorem X7{h:Heap}:∀ {l:List (Int×Value)} {m:List (Int×Tr)},Paired (QM G h) l m->Vs h (Tr.of (m.map (·.2))) (l.map (·.2))
 |_,_,.nil=>by rw[List.map_nil,List.map_nil,Tr.of,Vs]
 |_,_,.cons (a:=(z,v)) ⟨_,_,_,a,g,e,U,T⟩ r=>by
  have e:v=.ref a:=e;subst e;rw[List.map_cons,List.map_cons,Tr.of,Vs];exact⟨a,g,_,rfl,U,T,X7 r⟩
theorem UG{h:Heap}:∀ {l:List (Int×Value)} {m:List (Int×Tr)},Paired (QM G h) l m->∀c∈m.map (·.2),c.deep<8
 |_,_,.nil,c,g=>by cases g
 |_,_,.cons ⟨_,hd,_⟩ r,c,g=>by
  rw[List.map_cons]at g;rcases aO.mp g with rfl|g
  .exact hd
  .exact UG r c g
theorem cS{h:Heap}:∀ {l:List (Int×Value)} {m:List (Int×Tr)},Paired (QM G h) l m->Paired G (l.map (·.2)) (m.map (·.2))
 |_,_,.nil=>.nil
 |_,_,.cons ⟨_,_,hg,_⟩ r=>.cons hg (cS r)
theorem Paired.fz{α β:Type}{F:α->β->Prop}{l:tV}{m:List β}(r:Paired F l m)(d:α)(e:β):∀(ix:List Nat),(∀i∈ix,i<l.length)->Paired F (ix.map fun i=>l.getD i d) (ix.map fun i=>m.getD i e)
 |[],_=>.nil
 |i::ix,h=>by
  have Y:=r.length;have hi:=h i af;have hm:m[i]? = some m[i]:=aM AS;obtain⟨x,U,T⟩:=Paired.get r hm;rw[List.map_cons,List.map_cons];refine .cons ?_ (Paired.fz r d e ix fun j g=>h j (aT _ g));rw[List.getD_eq_getElem?_getD,List.getD_eq_getElem?_getD,U,hm];exact T
theorem en{l m:iF}(p:l.Perm m):Tr.C5 l=Tr.C5 m:=Tr.MM (Tr.LP l) (Tr.LP m) ((Tr.LA l).trans (p.trans (Tr.LA m).symm))
section
variable{prog:Io}{w:Mw}{A:Re}{E:AT}{s:IN}
theorem gather{T:String}{r d:Addr}{n:Nat}{P:Nat->Value->Prop}{OK:Heap->Prop}{R:List Value->Shared->Prop}(K:PySem.W.KdlSrc prog w T r d n P OK)(hA:A.handled=none)(Av:OK s.heap)(hn:n<=sizeLine)
 (k:∀(U:Heap) (tk:Nat) (g:Array Value),s.heap.objs.size<U.objs.size->(∀b u,s.heap.get? b=some u->U.get? b=some u)->ItemsOf P g n->R g.toList {s with heap:=U,toks:=tk}) :
  wpAny At A (collect (.ref r)) R E s:=by
 obtain⟨lr,ld⟩:=K.there _ Av;unfold collect;refine aA (wpAny_runValue (codeAny_builtin entry_proto_collect' ?_));rw[Around.under_plainId PySem.F.plain_proto_collect _];show wpAny _ A.in1 (newList []>>=fun v=>again (.builtin "list.__iadd__" ⟨[v,.ref r],[]⟩)) _ _ s;refine aA (bC (aB ⟨plainId_quiet PySem.F.plain_list_iadd _,codeAny_builtin entry_list_iadd' ?_⟩));rw[Around.under_plainId PySem.F.plain_list_iadd _];have g0:(s.heap.push { cls:=.type "list",data:=.seq ([]:List Value).toArray}).get? s.heap.objs.size=some { cls:=.type "list",data:=.seq #[]}:=aL _ rfl;have main:=PySem.W.kdl_extend (A:=A) (s:={s with heap:=s.heap.push { cls:=.type "list",data:=.seq ([]:List Value).toArray} }) K hA
  (K.keep _ _ Av fun _ _ _ e=>aF _ e) s.heap.objs.size (aq lr) (aq ld) GE 0 g0
  (R:=fun q s1=>∃U tk g c,q=.ok (.ret GE)/\s1={s with heap:=U,toks:=tk}/\(∀b u,s.heap.get? b=some u->U.get? b=some u)/\U.get? s.heap.objs.size=some { cls:=.type "list",dict:=none,data:=.seq g c,slots:=#[]}/\ItemsOf P g n)
  (fun U tk g c Z Y ha=>⟨U,tk,g,c,rfl,rfl,fun b u e=>Z b u (aJ (aG e)) (aF _ e),Y,ha⟩) hn
 refine aX main (fun fin s1 x=>?_) fun e s1 x=>?_
 .cases fin with
  |done f=>
   obtain⟨U,tk,g,c,e,rfl,Z,Y,ha⟩:=x;cases e;show wpAny _ A (load s.heap.objs.size>>=_) _ _ _;exact aA (wpAny_load Y (aB (k U tk g (aG Y) Z ha)))
  |again c1=>
   refine⟨x.1,codeAny_mono x.2 fun q s2 y=>?_⟩;obtain⟨U,tk,g,c,rfl,rfl,Z,Y,ha⟩:=y;show wpAny _ A (load s.heap.objs.size>>=_) _ _ _;exact aA (wpAny_load Y (aB (k U tk g (aG Y) Z ha)))
 .obtain⟨_,_,_,_,z,_⟩:=x;cases z
end
section
variable{prog:Io}{w:Mw}{A:Re}{E:AT}{s:IN}{S:Addr}{o:Obj}{ev:ST}{et:ES}{ep:Nat}{t:SetTable}
theorem Yd{Q:AT}(hA:A.handled=none)(W:GQ w o ev ep t)(ho:s.heap.get? S=some o)(R:EJ G s.heap ev et)(h64:et.size<64)(hu:A.units+20<cLine)
 (h:∀(h':Heap) (D tk Z:Nat) (us:FS),s.heap.objs.size<=D->(∀b u,s.heap.get? b=some u->h'.get? b=some u)->h'.get? D=some (seqObj "list" us.toArray Z)->Paired G us (Tr.C5 (et.toList.map (·.2))).reverse->us.length<64 ->
   Q (.ref D) KT):wpAny At A (call (.builtin "sorted") [.ref S]) Q E s:=by
 have hsz:=R.size;refine Calls.call_function_entry kind_sorted plain_sorted entry_sorted (args_sorted1 _) ?_;unfold Builtin.«sorted»;refine aA (m:=checkCount "sorted" 1 1 _) ge;refine aA (gather (A:=A.in1) (jr W) hA ho (Ij AS) fun Y tk g z1 k1 T=>?_);have hal:g.toList=(Gw w S ep ev).toList.map (·.2):=by
  apply List.ext_getElem?;intro j;rw[List.getElem?_map];by_cases hj:j<g.size
  .have Z:g[j]? = some g[j]:=Array.getElem?_eq_getElem hj;obtain⟨z,e2⟩:=T.2 j _ Z;rw[Array.getElem?_toList,Z,Array.getElem?_toList,e2]
   rfl
  .have hj2:¬j<(Gw w S ep ev).size:=by rw[Lw,<-T.1];exact hj
   rw[List.getElem?_eq_none (by simpa using hj),List.getElem?_eq_none (by simpa using hj2)]
   rfl
 obtain⟨m,pm,rm⟩:=Paired.perm (UE w S ep ev) R;have hvs:=X7 rm;rw[<-hal]at hvs;have hd:(Tr.of (m.map (·.2))).deep<=8:=(Tr.O3 8 _).mpr fun c hc=>by have:=UG rm c hc;lia
 have U:g.toList.length<64:=by rw[Array.length_toList,T.1,hsz];exact h64
 refine aA (wpAny_newList ?_ (Ij AS));have g1:(Y.push (seqObj "list" g.toList.toArray 0)).get? Y.objs.size=some (seqObj "list" g.toList.toArray 0):=aL _ rfl;have k2:∀b u,s.heap.get? b=some u->(Y.push (seqObj "list" g.toList.toArray 0)).get? b=some u:=fun b u e=>aF _ (k1 b u e);refine aA (aR (aY slot_list_sort ⟨_,g1,rfl⟩ entry_list_sort (Ng (s:={s with heap:=Y.push (seqObj "list" g.toList.toArray 0),toks:=tk}) g1 (hvs.keeps fun b u e _=>k2 b u e) U
  (by rw[show A.in1.in1.units=A.units+2 from rfl];lia) fun ix a1 a2 a3=>⟨_,rfl,?_⟩) (args_list_sort _)))
 obtain⟨Z,he1⟩:=sortedHeap_at (vs:=g.toList) (out:=(ix.map fun i=>g.toList.getD i Value.none).toArray) g1;refine aB ⟨_,rfl,h _ Y.objs.size tk Z (ix.map fun i=>g.toList.getD i Value.none) ?_ (fun b u e=>?_) he1 ?_ (by rw[List.length_map,a1];exact U)⟩
 .exact bD z1
 .have lb:b<Y.objs.size:=aG (k1 b u e);rw[sortedHeap_old (aJ lb) (by rw[Heap.size_push];exact bT lb)];exact k2 b u e
 .have hg:=cS rm;rw[<-hal]at hg;have:=Paired.fz hg Value.none Tr.nil ix a2;rw[Tr.O9]at a3;rw[a3,en (pm.map (·.2))]at this;exact this
end
end TH
namespace TH
open PySem PyProof.Rows PySem.SeqAt
section
variable{prog:Io}{w:Mw}{E:AT}
def Uw(prog:Io)(w:Mw)(E:AT)(t:Tr):Prop:=∀(us:FS) (A:Re) (s:IN) (b:Array Int) (Q:Array Int->Shared->Prop),Vs s.heap t us->A.units+t.deep<=cLine ->
 (∀g,g.toList=b.toList++Kf t->Q g {s with toks:=s.toks+(t.AQ-1)})->wpAny At A (forIn us b fun x r=>do let h <-pyHash x;pure PUnit.unit;pure (ForInStep.yield (r.push h))) Q E s
theorem OQ{t:Tr}(row:Uw prog w E t){a:Addr}{g:FS}{A:Re}{s:IN}{Q:Int->Shared->Prop}(U:s.heap.IsTuple a g.toArray)(h2:Vs s.heap t g)(hu:A.units+t.deep<cLine)
 (h:Q (BZ t) {s with toks:=s.toks+t.AQ}):wpAny At A (pyHash Mt) Q E s:=by
 have Z:=IsTuple.ty rfl U;obtain⟨o,Y,hc,n,hd⟩:=id U;refine PySem.W.pyHash_slot (T := "tuple") Z F.slot_tuple_hash F.entry_tuple_hash (F.args_tuple_hash_1 _) (beq_builtin_none _) (.inr AS) ?_;show wpAny _ _ (Builtin.Tuple.tupleItemsOf Mt>>=_) _ _ s;refine aA (wpAny_tupleItemsOf Y hd ?_);refine aA ?_;rw[<-Array.forIn_toList];refine row g A.in1 s #[] _ h2 (by rw[Around.in1_units];lia) fun b hb=>?_;show wpAny _ _ (retInt (Builtin.Tuple.tupleHashOf b.toList)) _ _ _;rw[hb];have hk:s.toks+(t.AQ-1)+1=s.toks+t.AQ:=by have:=Tr.D4 t;lia
 refine aA (wpAny_mkInt (aB ⟨_,_,rfl,?_⟩));rw[hk];exact h
theorem OT:∀t:Tr,Uw prog w E t
 |.nil=>fun us A s b Q e _ h=>by rw[Vs]at e;subst e;exact aB (h b (by simp[Kf]))
 |.cons c r=>fun us A s b Q e hu h=>by
  rw[Vs]at e;obtain⟨a,g,rest,rfl,Z,Y,U⟩:=e;have hd:(Tr.cons c r).deep=max (c.deep+1) r.deep:=rfl;have hk:(Tr.cons c r).AQ=c.AQ+r.AQ:=rfl;have hr:=Tr.D4 r;rw[List.forIn_cons];refine aA (aA (OQ (OT c) Z Y AS ?_));refine aA (aB ge);refine OT r rest A _ _ Q U AS fun b' hb=>?_;have T:s.toks+c.AQ+(r.AQ-1)=s.toks+((Tr.cons c r).AQ-1):=by lia
  have:=h b' (by simp[hb,Kf,BZ]);rw[<-T]at this;exact this
def LQ(prog:Io)(w:Mw):HeapKind prog w Tr where
 is:=fun h t a=>t.deep<8/\∃its,h.IsTuple a its.toArray/\Vs h t its
 hash:=BZ
 draws:=Tr.AQ
 room:=fun A=>A.units+8<cLine
 inj:=fun⟨_,i1,a1,a2⟩ ⟨_,i2,b1,b2⟩=>by
  have:=Ik a1 b1;have e:i1=i2:=by simpa using this
  subst e;exact Vs.inj a2 b2
 keeps:=fun {h h' k a d o es ep} ⟨hd,its,h1,h2⟩ ho hdt sb=>by
  have kt:∀b u,h.get? b=some u->u.cls=.type "tuple" ->(∃x n,u.data=.seq x n)->h'.get? b=some u:=fun b u e _ ⟨x,n,hx⟩=>by
   rw[sb.2 b fun z=>?_]
   .exact e
   .subst z;rw[ho]at e;cases e;rw[hdt]at hx;cases hx
  have kv:∀ {t:Tr} {us:FS},Vs h t us->Vs h' t us:=fun {t}=>by
   induction t with
   |nil=>intro us e;rw[Vs]at e ⊢;exact e
   |cons b r ih1 ih2=>
    intro us e;rw[Vs]at e ⊢;obtain⟨a,its,rest,e1,⟨u,hu,hc,n,hx⟩,e3,e4⟩:=e;exact⟨a,its,rest,e1,⟨u,kt _ _ hu hc ⟨_,n,hx⟩,hc,n,hx⟩,ih1 e3,ih2 e4⟩
  obtain⟨u,hu,hc,n,hx⟩:=h1;exact⟨hd,its,⟨u,kt _ _ hu hc ⟨_,n,hx⟩,hc,n,hx⟩,kv h2⟩
 pyHash:=fun hr ⟨hd,its,h1,h2⟩ h=>OQ (OT _) h1 h2 AS h
 eqBool:=fun {A E s x y a b Q} hr ⟨hd,its,h1,h2⟩ ⟨_,its2,k1,k2⟩ h=>Sa h1 h2 k1 k2 AS prog w E Q h
 quiet:=fun⟨hd,its,h1,h2⟩ h=>quiet 8 ⟨_,its,_,rfl,h1,h2,hd⟩ h
end
end TH
namespace TH
open PySem PyProof.Rows
def Bx:Option Tr->Int
 |none=>4238894112
 |some t=>BZ t
def Ft:Option Tr->Nat
 |none=>1
 |some t=>t.AQ
def KS(h:Heap):Option Tr->Value->Prop
 |none,v=>v=.none
 |some t,v=>∃a,v=.ref a/\t.deep<8/\∃g,h.IsTuple a g.toArray/\Vs h t g
abbrev KE:=Option Tr×Value×Value
def EK(x:KE):DictEntry:=⟨Bx x.1,x.2.1,x.2.2⟩
theorem Q5{p:Nat->Bool}{j:Nat}:∀ {n:Nat},j<n->p j=true->(∀i,i<n->p i=true->i=j)->(List.range n).filter p=[j]
 |0,h,_,_=>absurd h (ai _)
 |n+1,h,U,g=>by
  rw[List.range_succ,List.filter_append];by_cases e:j=n
  .subst e;have:(List.range j).filter p=[]:=List.filter_eq_nil_iff.mpr fun i hi T=>by
    have:=ar.mp hi;have:=g i AS T
    lia
   rw[this];simp[U]
  .have hn:p n=false:=by
    cases q:p n with
    |false=>rfl
    |true=>exact absurd (g n AS q).symm e
   rw[Q5 (show j<n by lia) U fun i hi=>g i AS];simp[hn]
section
variable{prog:Io}{w:Mw}{A:Re}{E:AT}{s:IN}{d:Addr}{o:Obj}{es:Array DictEntry}{ep:Nat}{xs:List KE}{k:Option Tr}{kv:Nh}
theorem MP(g:es.toList=xs.map EK)(j:Nat):es[j]? = (xs[j]?).map EK:=by rw[<-Array.getElem?_toList,g,List.getElem?_map]
theorem Vx(g:es.toList=xs.map EK):es.size=xs.length:=by rw[<-Array.length_toList,g,List.length_map]
theorem T9(Z:es.toList=xs.map EK)(U:tR)(T:∀x∈xs,x.1≠k):placesWithHash es.size (fun i=>es[i]?.map (·.hash)) (Bx k)=[]:=by
 unfold placesWithHash;refine List.filter_eq_nil_iff.mpr fun i hi g=>?_;dsimp only at g;rw[MP Z]at g;cases q:xs[i]? with
 |none=>rw[q]at g;simp at g
 |some x=>
  rw[q]at g;have Y:=aK q;have:Bx x.1=Bx k:=by simpa[EK]using g
  exact T x Y (U x Y this)
theorem RF(U:es.toList=xs.map EK)(Y:tR)(hn:(xs.map cx).Nodup){j:Nat}{x:KE}(T:xs[j]? = some x)(Z:x.1=k):placesWithHash es.size (fun i=>es[i]?.map (·.hash)) (Bx k)=[j]:=by
 unfold placesWithHash;have hl:j<xs.length:=(aE.mp T).1;refine Q5 (by rw[Vx U];exact hl) (by dsimp only;rw[MP U,T,<-Z];simp[EK]) fun i hi g=>?_;dsimp only at g;rw[MP U]at g;cases q:xs[i]? with
 |none=>rw[q]at g;simp at g
 |some y=>
  rw[q]at g;have hy:=Y y (aK q) (by simpa[EK]using g);have h1:(xs.map cx)[i]? = some k:=by rw[List.getElem?_map,q];show some y.1=_;rw[hy]
  have h2:(xs.map cx)[j]? = some k:=by rw[List.getElem?_map,T];show some x.1=_;rw[Z]
  exact(List.getElem?_inj (aE.mp h1).1 hn).mp (h1.trans h2.symm)
theorem S4{Q:jp}(h:Q true s):wpAny At A (eqBool .none .none) Q E s:=by
 unfold eqBool;rw[if_pos (by rfl)];exact aA (bR (aB h))
theorem KS.inj{h:Heap}{x y:Option Tr}{v:Nh}(a:KS h x v)(b:KS h y v):x=y:=by
 cases x with
 |none=>
  cases y with
  |none=>rfl
  |some t=>
   obtain⟨_,e,_⟩:=b;rw[show v=.none from a]at e;cases e
 |some u=>
  cases y with
  |none=>
   obtain⟨_,e,_⟩:=a;rw[show v=.none from b]at e;cases e
  |some t=>
   obtain⟨a1,Y,U⟩:=a;obtain⟨a2,g,T⟩:=b;rw[Y]at g;cases g;obtain⟨_,i1,b1,b2⟩:=U;obtain⟨_,i2,c1,Z⟩:=T;have:i1=i2:=by simpa using Ik b1 c1
   subst this;rw[Vs.inj b2 Z]
theorem dA{Q:Option Nat->Shared->Prop}(hu:A.units+8<cLine)(hk:KS s.heap k kv)(ho:s.heap.get? d=some o)(hd:o.data=.dict es ep)(he:es.toList=xs.map EK)(his:∀x∈xs,KS s.heap x.1 x.2.1)(hn:(xs.map cx).Nodup)(Y:tR)
 (hno:(∀x∈xs,x.1≠k)->Q none s)(Z:∀(j:Nat) (x:KE),xs[j]? = some x->x.1=k->Q (some j) s):wpAny At A (dictFind d kv (Bx k)) Q E s:=by
 unfold dictFind
 try with_reducible refine aR ?_
 refine aA (wpAny_dictEntries ho hd ?_);cases k with
 |none=>
  have hk:kv=.none:=hk;subst hk;dsimp only;by_cases g:∃x∈xs,x.1=none
  .obtain⟨x,hm,g⟩:=g;obtain⟨j,hj⟩:=ba.mp hm;have hp:=RF (k:=none) he Y hn hj g;have T:es[j]? = some ⟨Bx none,.none,x.2.2⟩:=by
    rw[MP he,hj];have h1:=his x hm;rw[g]at h1;show some (EK x)=_;unfold EK;rw[g,show x.2.1=Value.none from h1]
   rw[hp];rw[if_pos (by simp[T,carriedByValue])];unfold dictWalkPlain;simp only[List.forIn_cons,List.forIn_nil,T];refine aA (aA ?_);rw[if_pos Ch];refine aA (wpAny_dictEpoch ho hd (aA (S4 (aA (wpAny_dictEpoch ho hd ?_)))));rw[if_neg Ch,if_pos rfl];exact aA (bR (aB (aB (aB (Z j x hj g)))))
  .have hp:=T9 (k:=none) he Y fun x hm z=>g ⟨x,hm,z⟩;rw[hp,if_pos (by simp[carriedByValue])];unfold dictWalkPlain;simp only[List.forIn_nil];exact aA (aB (aB (hno fun x hm z=>g ⟨x,hm,z⟩)))
 |some t=>
  obtain⟨a,rfl,U⟩:=hk;dsimp only;have hany:¬(es.any fun e=>e.key==Value.ref a&&e.hash != Bx (some t))=true:=by
   intro z;rw[<-Array.any_toList,he,List.any_eq_true]at z;obtain⟨e,hm,z⟩:=z;obtain⟨x,g,rfl⟩:=aU.mp hm;rw[Bool.and_eq_true]at z;have h1:x.2.1=.ref a:=by simpa[EK]using z.1
   have h2:=his x g;rw[h1]at h2;have h3:=h2.inj (show KS s.heap (some t) Mt from⟨a,rfl,U⟩);have h4:=z.2;rw[EK,h3]at h4;simp at h4
  by_cases g:∃x∈xs,x.1=some t
  .obtain⟨x,hm,g⟩:=g;obtain⟨j,hj⟩:=ba.mp hm;have hp:=RF (k:=some t) he Y hn hj g;have h1:=his x hm;rw[g]at h1;obtain⟨b,hb,htb⟩:=h1;have T:es[j]? = some ⟨Bx (some t),.ref b,x.2.2⟩:=by
    rw[MP he,hj];show some (EK x)=_;unfold EK;rw[g,hb]
   have hst:([j].filterMap fun i=>es[i]?.map (·.key))=[.ref b]:=by simp[T]
   rw[hp,hst,if_neg (by simp[carriedByValue]),if_neg hany];by_cases hone:(([Value.ref b]:List Value)==[Value.ref a])=true<;>(first|rw[if_pos hone]|rw[if_neg hone])<;>(first|refine aA (aB ?_)|refine aA (wpAny_tableMayTell_quiet (knd:=LQ prog w) U (fun v hv=>⟨t,b,List.mem_singleton.mp hv,htb⟩) ?_))<;>(
    rw[if_neg Ch];simp only[List.forIn_cons,List.forIn_nil,T];refine aA (aA ?_);rw[if_pos Ch];refine aA (wpAny_dictEpoch ho hd (aA ((LQ prog w).eqBool (x:=t) (y:=t) hu htb U (aA (wpAny_dictEpoch ho hd ?_)))));rw[if_neg Ch,if_pos Ch,if_neg Ch];refine aA (bR ?_);rw[if_pos Ch];exact aB (aB (aB (Z j x hj g))))
  .have hp:=T9 (k:=some t) he Y fun x hm z=>g ⟨x,hm,z⟩;rw[hp,if_neg (by simp[carriedByValue]),if_neg hany];rw[if_neg Ch];refine aA (wpAny_tableMayTell_quiet (knd:=LQ prog w) U (fun v hv=>by cases hv) ?_);rw[if_neg Ch];simp only[List.forIn_nil];exact aA (aB (aB (hno fun x hm z=>g ⟨x,hm,z⟩)))
theorem Zf{Q:Int->Shared->Prop}(Y:A.units+8<cLine)(hk:KS s.heap k kv)(h:Q (Bx k) {s with toks:=s.toks+Ft k}):wpAny At A (pyHash kv) Q E s:=by
 cases k with
 |some t=>
  obtain⟨a,rfl,T⟩:=hk;exact(LQ prog w).pyHash Y T h
 |none=>
  have hk:kv=.none:=hk;subst hk;have g:s.TypeIs .none "NoneType" := rfl;unfold pyHash pyHashByItsType;have U:[Value.none].any Value.onHeap=false:=rfl;refine aA ?_;rw[cRoomFor,if_neg (by rw[U];exact aN)];refine aB ?_;refine aA (bU g F.slot_NoneType_hash.lookup ?_);show wpAny _ _ (if(some (Value.builtin "NoneType.__hash__")==some Value.none)=true then _ else _) Q E s;rw[if_neg (by rw[beq_builtin_none];exact aN)];refine aA (bU g F.slot_NoneType_hash.lookup ?_);show wpAny _ _ (callSpecialIfBoundUnlessNone? .none "__hash__" _>>=_) Q E s;refine aA (wpAny_callSpecialIfBoundUnlessNone?_slot g F.slot_NoneType_hash
   (aY F.slot_NoneType_hash g F.entry_NoneType_hash
    (show wpAny _ _ (do ret (<-mkInt 4238894112)) _ _ s from wpAny_ret_mkInt ?_) (F.args_NoneType_hash_1 _)))
  show wpAny _ _ (if(decide (-(2:Int)^63<=4238894112)&&decide ((4238894112:Int)<2^63))=true then _ else _) Q E _;rw[if_pos BY];exact aB h
def Gk(xs:List KE)(k:Option Tr):Option KE:=xs.find? fun x=>decide (x.1=k)
theorem RZ(hn:(xs.map cx).Nodup){j:Nat}{x:KE}(g:xs[j]? = some x)(T:x.1=k):Gk xs k=some x:=by
 unfold Gk;cases q:xs.find? (fun x=>decide (x.1=k)) with
 |none=>exact absurd (decide_eq_true T) (bc.mp q x (aK g))
 |some y=>
  have Y:y.1=k:=by simpa using List.find?_some q
  obtain⟨i,hi⟩:=ba.mp (List.mem_of_find?_eq_some q);have U:(xs.map cx)[i]? = some k:=by rw[List.getElem?_map,hi];show some y.1=_;rw[Y]
  have Z:(xs.map cx)[j]? = some k:=by rw[List.getElem?_map,g];show some x.1=_;rw[T]
  have:=(List.getElem?_inj (aE.mp U).1 hn).mp (U.trans Z.symm);subst this;rw[hi]at g;exact g
theorem Rb(h:∀x∈xs,x.1≠k):Gk xs k=none:=bc.mpr fun x g=>by simpa using h x g
structure Ki(h:Heap)(d:Addr)(xs:List KE):Prop where
 ob:∃o es ep,h.get? d=some o/\o.ExactDict/\o.data=.dict es ep/\es.toList=xs.map EK
 ks:∀x∈xs,KS h x.1 x.2.1
 nd:(xs.map cx).Nodup
theorem Ki.ty(hm:Ki s.heap d xs):s.TypeIs (.ref d) "dict" := let⟨o,_,_,g,T,_⟩:=hm.ob;⟨o,g,T.1⟩
theorem gE{Q:Of}(U:A.units+8<cLine)(hk:KS s.heap k kv)(hm:Ki s.heap d xs)(T:tR)(h:Q ((Gk xs k).map (·.2.2)) {s with toks:=s.toks+Ft k}):wpAny At A (dictGet d kv) Q E s:=by
 obtain⟨o,es,ep,Y,_,hd,he⟩:=hm.ob;unfold dictGet
 try with_reducible refine aR ?_
 refine aA (Zf U hk (aA (dA (s:={s with toks:=s.toks+Ft k}) U hk Y hd he hm.ks hm.nd T (fun g=>?_) fun j x Z hx=>?_)))
 .rw[Rb g]at h;exact aB h
 .rw[RZ hm.nd Z hx]at h;refine aA (wpAny_dictEntries (s:={s with toks:=s.toks+Ft k}) Y hd ?_);rw[MP he j,Z];exact aB h
theorem kf{x:KE}{Q:AT}(U:A.in1.units+8<cLine)(hk:KS s.heap k kv)(hm:Ki s.heap d xs)(g:tR)(T:Gk xs k=some x)(h:Q x.2.2 {s with toks:=s.toks+Ft k}):wpAny At A (getItem (.ref d) kv) Q E s:=by
 unfold getItem
 try with_reducible refine aR ?_
 refine aA (wpAny_sequenceKey hm.ty BY ?_);refine aA (aZ (name:=Str.ofString "__getitem__") hm.ty slot_dict_getitem (aY slot_dict_getitem hm.ty entry_dict_getitem ?_ (args_dict_getitem _ _)));show wpAny _ _ (dictGet d kv>>=_) _ _ s;refine aA (gE U hk hm g ?_);rw[T];exact aB ⟨x.2.2,rfl,wpAny_pure h⟩
theorem qz{Q:AT}(U:A.in1.units+8<cLine)(hk:KS s.heap k kv)(hd:(d==sysModules)=false)(hm:Ki s.heap d xs)(g:tR)(neg:Bool)
 (h:Q (.bool (if neg then !(Gk xs k).isSome else(Gk xs k).isSome)) {s with toks:=s.toks+Ft k}):wpAny At A (compareOp (if neg then .NotIn else .In) kv (.ref d)) Q E s:=by
 have key:∀ {Q:jp},Q (Gk xs k).isSome {s with toks:=s.toks+Ft k}->wpAny At A (contains (.ref d) kv) Q E s:=fun {Q} h=>by
  unfold contains
  try with_reducible refine aR ?_
  refine aA (bU hm.ty slot_dict_contains.lookup ?_);show wpAny _ _ (if(some (Value.builtin "dict.__contains__")==some Value.none)=true then _ else _) _ E s;rw[if_neg (by rw[beq_builtin_none];exact aN)];refine aA (wpAny_callSpecialUnlessNone?_slot (name:=Str.ofString "__contains__") hm.ty slot_dict_contains (aY slot_dict_contains hm.ty entry_dict_contains ?_ (args_dict_contains _ _)));show wpAny _ _ (dictGet d kv>>=_) _ _ s;refine aA (gE U hk hm g ?_);cases T:Gk xs k with
  |some p=>
   rw[T]at h;show wpAny _ _ (ret KM) _ _ _;exact aB ⟨_,rfl,wpAny_truthy_bool h⟩
  |none=>
   rw[T]at h;show wpAny _ _ (Builtin.Dict.pendingKey? d kv>>=_) _ _ _;exact aA (wpAny_pendingKey_other hd (aB ⟨_,rfl,wpAny_truthy_bool h⟩))
 cases neg with
 |false=>
  show wpAny _ _ (do return .bool (<-contains (.ref d) kv)) Q E s;exact aA (key (aB h))
 |true=>
  show wpAny _ _ (do return .bool (!(<-contains (.ref d) kv))) Q E s;exact aA (key (aB h))
def putN(k:Option Tr)(v:Nh)(x:KE):KE:=if x.1=k then(x.1,x.2.1,v) else x
def IY(xs:List KE)(k:Option Tr)(kv v:Nh):List KE:=if(Gk xs k).isSome then xs.map (putN k v) else xs++[(k,kv,v)]
theorem VW(v:Nh):∀xs:List KE,(xs.map (putN k v)).map cx=xs.map cx
 |[]=>rfl
 |x::xs=>by
  rw[List.map_cons,List.map_cons,List.map_cons,VW v xs]
  congr 1
  unfold putN;split<;>rfl
theorem R6{v:Nh}:∀ {xs:List KE} {j:Nat} {x:KE},(xs.map cx).Nodup->xs[j]? = some x->x.1=k->(xs.map EK).modify j (fun e=>{e with val:=v})=(xs.map (putN k v)).map EK
 |[],_,_,_,h,_=>by simp at h
 |y::ys,0,x,hn,h,g=>by
  have:y=x:=by simpa using h
  subst this;rw[List.map_cons,List.nodup_cons]at hn;rw[List.map_cons,List.map_cons,List.map_cons];have T:ys.map (putN k v)=ys:=by
   refine(av fun z U=>?_).trans (List.map_id _);unfold putN;rw[if_neg fun e=>hn.1 (by rw[g,<-e];exact List.mem_map_of_mem U)]
   rfl
  rw[T];show { EK y with val:=v}::ys.map EK=_
  congr 1
  unfold putN;rw[if_pos g]
  rfl
 |y::ys,j+1,x,hn,h,g=>by
  have h':ys[j]? = some x:=by simpa using h
  rw[List.map_cons,List.nodup_cons]at hn;rw[List.map_cons,List.map_cons,List.map_cons];have Y:putN k v y=y:=by
   unfold putN;rw[if_neg fun e=>hn.1 (by rw[e,<-g];exact List.mem_map_of_mem (aK h'))]
  rw[Y];show EK y::(ys.map EK).modify j _=_;rw[R6 hn.2 h' g]
theorem KS.keep{h h':Heap}{k:Option Tr}{v:Nh}{o:Obj}{es ep}(a:KS h k v)(prog:Io)(w:Mw)(U:h.get? d=some o)(hd:o.data=.dict es ep)(g:Heap.SameBut d h h'):KS h' k v:=by
 cases k with
 |none=>exact a
 |some t=>
  obtain⟨a1,Y,T⟩:=a;exact⟨a1,Y,(LQ prog w).keeps T U hd g⟩
theorem pP{v:Nh}{Q:Unit->Shared->Prop}(hu:A.in1.units+8<cLine)(hk:KS s.heap k kv)(hm:Ki s.heap d xs)(hap:tR)(hz:xs.length<=sizeLine)
 (hQ:∀h',Ki h' d (IY xs k kv v)->Heap.SameBut d s.heap h'->Q () {s with heap:=h',toks:=s.toks+Ft k}):wpAny At A (setItem (.ref d) kv v) Q E s:=by
 unfold setItem
 try with_reducible refine aR ?_
 refine aA (wpAny_sequenceKey hm.ty BY ?_);refine aA (aZ (name:=Str.ofString "__setitem__") hm.ty slot_dict_setitem (aY slot_dict_setitem hm.ty entry_dict_setitem ?_ (args_dict_setitem _ _ _)));show wpAny _ _ (Builtin.Dict.notOrdered "__setitem__" ⟨[.ref d,kv,v],[]⟩>>=_) _ _ s;refine aA (wpAny_notOrdered_dict hm.ty ?_);show wpAny _ _ (dictSet d kv v>>=_) _ _ s;refine aA ?_;have fin:∀h',Ki h' d (IY xs k kv v)->Heap.SameBut d s.heap h'->wpAny At A.in1 (ret .none) (fun fin s'=>∃v,fin=.done (.ret v)/\wpAny At A (pure ()) Q E s') E {s with heap:=h',toks:=s.toks+Ft k}:=fun h' h1 h2=>aB ⟨.none,rfl,wpAny_pure (hQ h' h1 h2)⟩;obtain⟨o,es,ep,g,hc,hd,Z⟩:=hm.ob;unfold dictSet
 try with_reducible refine aR ?_
 refine aA (Zf hu hk ?_);unfold dictSetHashed
 try with_reducible refine aR ?_
 refine aA (dA (s:={s with toks:=s.toks+Ft k}) hu hk g hd Z hm.ks hm.nd hap (fun Y=>?_) fun j x hj hx=>?_)
 .have T:IY xs k kv v=xs++[(k,kv,v)]:=by unfold IY;rw[Rb Y];rfl
  rw[T]at fin;refine aA (bR (wpAny_updateDictKeys (hz:=by rw[Vx Z];exact hz) (s:={s with toks:=s.toks+Ft k}) g hd (fin _ ⟨⟨_,_,ep+1,Heap.get?_update_self _ g (Obj.isFreed_of_dict (Obj.data_mapDictKeys hd _)),hc.mapDictKeys _,Obj.data_mapDictKeys hd _,?_⟩,fun y U=>?_,?_⟩ (ah ..))))
  .simp[Z,EK]
  .rcases bH.mp U with h|h
   .exact(hm.ks y h).keep prog w g hd (ah ..)
   .rw[List.mem_singleton.mp h];exact hk.keep prog w g hd (ah ..)
  .rw[List.map_append,List.nodup_append];refine⟨hm.nd,by simp,fun a ha b hb=>?_⟩;have:b=k:=by simpa using hb
   subst this;obtain⟨y,U,rfl⟩:=aU.mp ha;exact Y y U
 .have T:IY xs k kv v=xs.map (putN k v):=by unfold IY;rw[RZ hm.nd hj hx];rfl
  rw[T]at fin;refine aA (bR (aA (wpAny_updateDict (s:={s with toks:=s.toks+Ft k}) g hd (wpAny_point (fin _ ⟨⟨_,_,ep,Heap.get?_update_self _ g (Obj.isFreed_of_dict (Obj.data_mapDict hd _)),hc.mapDict _,Obj.data_mapDict hd _,?_⟩,fun y U=>?_,?_⟩ (ah ..))))))
  .have:=R6 (v:=v) hm.nd hj hx;rw[<-Z]at this;obtain⟨l⟩:=es
   simpa using this
  .obtain⟨z,hz',rfl⟩:=aU.mp U;unfold putN;split<;>exact(hm.ks z hz').keep prog w g hd (ah ..)
  .rw[VW];exact hm.nd
end
end TH
namespace L2
open PySem PySem.Spec PyProof.Rows
abbrev KR:=Option Tr×V×V
def SH(q:KR)(x:TH.KE):Prop:=x.1=q.1/\RelV q.2.1 x.2.1/\RelV q.2.2 x.2.2
def dN(d:Addr)(r:List KR):HO:=.ext fun h=>(d==sysModules)=false/\∃o es ep xs,h.get? d=some o/\o.ExactDict/\o.data=.dict es ep/\es.toList=xs.map TH.EK/\PySem.Paired SH r xs
def KQ(H:Hp):Option Tr->V->Prop
 |none,v=>v=.Bp
 |some t,v=>t.deep<8/\Tv H t v
theorem KQ.same{H H':Hp}{k:Option Tr}{v:V}(h:KQ H k v)(e:AK H H'):KQ H' k v:=by
 cases k with
 |none=>exact h
 |some t=>exact⟨h.1,h.2.same e⟩
structure VP(H:Hp)(d:Addr)(r:List KR)(k:Option Tr):Prop where
 at_:H d=some (dN d r)
 ks:∀q∈r,KQ H q.1 q.2.1
 nd:(r.map cx).Nodup
 ap:∀q∈r,TH.Bx q.1=TH.Bx k->q.1=k
theorem RB{α β:Type}{R:α->β->Prop}{l:tV}{m:List β}(h:PySem.Paired R l m):∀x∈m,∃q∈l,R q x:=by
 induction h with
 |nil=>intro x g;cases g
 |cons a _ T=>
  intro x g;rcases aO.mp g with rfl|g
  .exact⟨_,.head _,a⟩
  .obtain⟨q,Y,U⟩:=T x g;exact⟨q,.tail _ Y,U⟩
theorem Tq{r:List KR}{xs:List TH.KE}(h:PySem.Paired SH r xs):xs.map cx=r.map cx:=by
 induction h with
 |nil=>rfl
 |cons a _ g=>rw[List.map_cons,List.map_cons,g,a.1]
section
variable{X:Cx}{pins:Da}{σ:St}{H:Hp}{s:IN}{pos:Pos}
theorem KQ.raw(I:Db){k:Option Tr}{v:V}{u:Nh}(h:KQ H k v)(r:RelV v u):TH.KS s.heap k u:=by
 cases k with
 |none=>
  have h:v=.Bp:=h;subst h;exact r
 |some t=>
  obtain⟨Z,a,ys,rfl,Y,U⟩:=h;obtain⟨g,T,p,_⟩:=I.tuple (BI.of (K:=X.K) Y);exact⟨a,r,Z,g,p,U.vs I T⟩
theorem VE(I:Db){d:Addr}{r:List KR}{k:Option Tr}(h:VP H d r k):(d==sysModules)=false/\∃xs,TH.Ki s.heap d xs/\PySem.Paired SH r xs/\∀x∈xs,TH.Bx x.1=TH.Bx k->x.1=k:=by
 obtain⟨Z,o,es,ep,xs,g1,g2,g3,g4,g⟩:=(show Ci X.prog X.w H s.heap d (dN d r) from I.Av d _ h.at_).1;refine⟨Z,xs,⟨⟨o,es,ep,g1,g2,g3,g4⟩,fun x T=>?_,by rw[Tq g];exact h.nd⟩,g,fun x T=>?_⟩
 .obtain⟨q,Y,U,h3,_⟩:=RB g x T;rw[U];exact(h.ks q Y).raw I h3
 .obtain⟨q,Y,U,_⟩:=RB g x T;rw[U];exact h.ap q Y
theorem QF{r:List KR}{xs:List TH.KE}(h:PySem.Paired SH r xs)(k:Option Tr):match r.find? og with
  |some q=>∃x,TH.Gk xs k=some x/\RelV q.2.2 x.2.2
  |none=>TH.Gk xs k=none:=by
 induction h with
 |nil=>exact rfl
 | @cons q x l m a _ g=>
  unfold TH.Gk at g ⊢;rw[List.find?_cons,List.find?_cons,a.1];by_cases z:q.1=k
  .simp only[decide_eq_true z];exact⟨x,rfl,a.2.2⟩
  .simp only[decide_eq_false z];exact g
def rg:R2:=fun x y H Q=>∃d r k q,x=.ref d/\KQ H k y/\VP H d r k/\r.find? og=some q/\Q q.2.2 H
theorem mV{o i:Expr}{U ty:TE}(hu:dl)(ho:PE X o U)(hi:PE X i ty)(hs:j8 i):PE X (.Subscript o i pos) (a8 rg U ty):=by
 intro pins s σ H Q I h;refine iA PySem.F.slot_dict_getitem.lookup hs (BU (ho pins s σ H _ I h) fun u s1 ⟨x,H1,I1,rx,q1⟩=>BU (hi pins s1 σ H1 _ I1 q1) fun iv s2 ⟨y,H2,T,Z,q2⟩=>?_);obtain⟨d,r,k,q,rfl,hk,hD,hf,q3⟩:=q2;obtain rfl:u=Value.ref d:=rx;obtain⟨hsm,xs,hm,hp,g⟩:=VE T hD;have Y:=QF hp k;rw[hf]at Y;obtain⟨x,h1,h2⟩:=Y;exact⟨hm.ty,TH.kf (by show X.A.in1.units+8<cLine;rw[Around.in1_units];lia) (hk.raw T Z) hm g h1 ⟨q.2.2,H2,T.tok _,h2,q3⟩⟩
def rG(neg:Bool):R2:=fun x y H Q=>∃d r k,y=.ref d/\KQ H k x/\VP H d r k/\Q (.bl (if neg then !(r.find? og).isSome else(r.find? og).isSome)) H
theorem my(hu:dl)(neg:Bool):C8 X (compareOp (if neg then .NotIn else .In)) (rG neg):=by
 intro pins s σ H x y v u Q I Z Y h;obtain⟨d,r,k,rfl,hk,hD,q⟩:=h;obtain rfl:u=Value.ref d:=Y;obtain⟨g,xs,hm,hp,U⟩:=VE I hD;have T:=QF hp k;have e:(TH.Gk xs k).isSome=(r.find? og).isSome:=by
  split at T
  .rename_i q e;obtain⟨x,h1,_⟩:=T;rw[h1,e];rfl
  .rename_i e;rw[T,e];rfl
 refine TH.qz (by show X.A.in1.units+8<cLine;rw[Around.in1_units];lia) (hk.raw I Z) g hm U neg ?_;rw[e];exact⟨.bl _,H,I.tok _,rfl,q⟩
def Gu(r:List KR)(k:Option Tr)(g v:V):List KR:=if(r.find? og).isSome then r.map (fun q=>if q.1=k then(q.1,q.2.1,v) else q) else r++[(k,g,v)]
theorem jI{r:List KR}{xs:List TH.KE}{k:Option Tr}{T v:V}{U u:Nh}(h:PySem.Paired SH r xs)(hk:RelV T U)(Y:RelV v u):PySem.Paired SH (Gu r k T v) (TH.IY xs k U u):=by
 have g:=QF h k;unfold Gu TH.IY;split at g
 .rename_i q e;obtain⟨x,Z,_⟩:=g;rw[Z,e];simp only[Option.isSome_some,if_true];clear e Z hk
  induction h with
  |nil=>exact .nil
  | @cons q x l m a _ ih=>
   rw[List.map_cons,List.map_cons];refine .cons ?_ ih;unfold TH.putN;rw[a.1];by_cases z:q.1=k
   .rw[if_pos z,if_pos z];exact⟨rfl,a.2.1,Y⟩
   .rw[if_neg z,if_neg z];exact a
 .rename_i e;rw[g,e];exact h.snoc ⟨rfl,hk,Y⟩
def pD:YR:=fun o i v H Q=>∃d r k,o=.ref d/\KQ H k i/\VP H d r k/\r.length<=1000/\Q (upd H d (dN d (Gu r k i v)))
theorem lT(hu:dl):fT X pD:=by
 intro pins s σ H o i v ov iv u Q I ro Z rv h;obtain⟨d,r,k,rfl,hk,hD,hl,q⟩:=h;obtain rfl:ov=Value.ref d:=ro;obtain⟨g,xs,hm,hp,U⟩:=VE I hD;have hle:xs.length=r.length:=by have:=bP List.length (Tq hp);simpa using this
 refine TH.pP (by show X.A.in1.units+8<cLine;rw[Around.in1_units];lia) (hk.raw I Z) hm U (aQ (by lia:xs.length<=1000) PP) fun h' T sb=>?_;obtain⟨o',es,ep,Y,g2,g3,g4⟩:=T.ob;refine⟨_,I.write (x:=d) (e:=d) (o:=dN d (Gu r k i v)) (t':=s.toks+TH.Ft k) (by rw[hD.at_];exact trivial) lm (fun b w' hb e=>(sb.2 b hb).trans e) ⟨o',Y⟩ ?_,q⟩;exact⟨⟨g,o',es,ep,_,Y,g2,g3,g4,jI hp Z rv⟩,⟨o',Y⟩,fun h1 h2 ⟨a,o,es,ep,xs,q,r⟩ k=>⟨a,o,es,ep,xs,k _ q,r⟩⟩
def la:TE:=fun _ H Q=>∀p,H p=none->Q (.ref p) (upd H p (dN p []))
theorem ed:PE X (.Dict [] [] pos) la:=fun pins s σ H Q I h=>by
 refine wpAny_Dict_empty ⟨.ref s.heap.objs.size,_,I.laid (a:=s.heap.objs.size) (o:=dN s.heap.objs.size []) (t':=s.toks) (fun _ _ q=>aF _ q) em ?_,rfl,h _ (I.Av.fresh em)⟩;have hb:sysModules<s.heap.objs.size:=bj BY (I.mod.glob.keeps I.bk).lt;have hn:(s.heap.objs.size==sysModules)=false:=beq_eq_false_iff_ne.mpr (Ne.symm (aJ hb));exact⟨⟨hn,_,#[],0,[],Heap.get?_push_size _ rfl,⟨rfl,rfl,rfl⟩,rfl,rfl,.nil⟩,⟨_,Heap.get?_push_size _ rfl⟩,fun U T ⟨a,o,es,ep,xs,q,r⟩ k=>⟨a,o,es,ep,xs,k _ q,r⟩⟩
theorem find_key{r:List KR}{k:Option Tr}{q:KR}(h:r.find? og=some q):q∈r/\q.1=k:=⟨List.mem_of_find?_eq_some h,by simpa using List.find?_some h⟩
end
section
variable{X:Cx}
theorem bq(hc:oN):FO X (.builtin "sum") (fun xs H Q=>∃(p:Addr) (ns:XV),xs=[.ref p]/\BI X.K H p oR/\Q (.int ns.sum) H):=by
 intro pins s σ H xs us Q I r h;obtain⟨p,ns,rfl,hq,q⟩:=h;obtain⟨u,rfl,r1⟩:=r.one;cases r1;obtain⟨Y,rv,pl,hz⟩:=I.tuple hq;have hi:=intsAre_of rv;obtain⟨xs,hx⟩:=hi.allInts.items;have g:s.heap.IsTuple p (intItems xs):=hx ▸ pl
 have U:p<s.heap.objs.size:=by obtain⟨_,e,_⟩:=g;exact aG e
 have e1:ns=xs.toList.map cx:=by
  rw[<-nums_intItems,<-hx];exact(show numsOf Y.toArray.toList=ns from hi.numsOf).symm
 have e2:preSum (numAt xs) xs.size=ns.sum:=by
  rw[preSum_eq,List.take_of_length_le Ch,e1]
 refine call_sum_walkG (wpAny_pyIter_tuple g ?_);refine⟨_,[_,p],[_],_,_,_,numAt xs,rfl,Walks.tuple (A:=X.A.in1) ad _ p (aJ U) (intItems xs),
  ⟨⟨_,Heap.get?_push_size _ rfl,rfl,rfl⟩,g.push _⟩,fun c T=>?_,(fun _ _=>intItems_at),fun h' tk Z hk=>?_⟩
 .show c<(s.heap.push _).objs.size;rw[Heap.size_push];rcases aO.mp T with rfl|T
  .exact bX _
  .rw[List.mem_singleton.mp T];exact bT U
 .have e3:preSum (numAt xs) (intItems xs).size=ns.sum:=by
   rw[<-e2];simp[intItems]
  rw[e3];exact⟨.int _,H,I.kept (t':=tk) (PyProof.Rows.LSm.kept_iter hk),⟨Z,rfl⟩,q⟩
end
end L2
set_option maxHeartbeats 1000000
namespace L2
open PySem PySem.Spec PyProof.Rows
theorem Rd.same{H H':Hp}{a:Addr}{u:HO}(e:AK H H')(h:Rd H a u):Rd H' a u:=by
 rcases h with h|⟨o,h⟩
 .exact .inl (e _ _ h)
 .exact .inr ⟨o,e _ _ h⟩
def Bq:Tr->List PyData
 |.nil=>[]
 |.cons b r=>.tuple (Bq b)::Bq r
def kM:Option Tr->PyData
 |none=>.none
 |some t=>.tuple (Bq t)
mutual
def Du(H:Hp):PyData->V->Prop
 |.none,v=>v=.Bp
 |.bool b,v=>v=.bl b
 |.int i,v=>v=.int i
 |.str x,v=>v=.str x
 |.tuple T,v=>∃a xs,v=.ref a/\H a=some Op/\Au H T xs
 |.list T,v=>∃a xs,v=.ref a/\H a=some Os/\Au H T xs
 |.dict g,v=>(∃ea C:Addr,g=[(.int (C:Nat),.none)]/\v=.ref ea/\H ea=some (NC ea Pi))\/(∃(a:Addr) (ns:XV),g=[(.none,.list (ns.map .int))]/\v=.ref a/\Rd H a (.lst oR))\/MU H g v
def Au(H:Hp):List PyData->List V->Prop
 |[],xs=>xs=[]
 |d::g,xs=>∃x r,xs=x::r/\Du H d x/\Au H g r
def MU(H:Hp):List (PyData×PyData)->V->Prop
 |[],_=>False
 |(g,T)::t,v=>g=.bool true/\T=.none/\∃a r,v=.ref a/\H a=some (dN a r)/\(r.map cx).Nodup/\Nf H t r
def Nf(H:Hp):List (PyData×PyData)->List KR->Prop
 |[],r=>r=[]
 |(k,d)::t,r=>∃q g,r=q::g/\k=kM q.1/\KQ H q.1 q.2.1/\Du H d q.2.2/\Nf H t g
end
mutual
theorem Du.same{H H':Hp}(e:AK H H'):∀ {d:KB} {v:V},Du H d v->Du H' d v
 |.none,_,h=>by rw[Du]at h ⊢;exact h
 |.bool _,_,h=>by rw[Du]at h ⊢;exact h
 |.int _,_,h=>by rw[Du]at h ⊢;exact h
 |.str _,_,h=>by rw[Du]at h ⊢;exact h
 |.tuple _,_,h=>by
  rw[Du]at h ⊢;obtain⟨a,xs,T,g,U⟩:=h;exact⟨a,xs,T,e _ _ g,Au.same e U⟩
 |.list _,_,h=>by
  rw[Du]at h ⊢;obtain⟨a,xs,T,g,U⟩:=h;exact⟨a,xs,T,e _ _ g,Au.same e U⟩
 |.dict _,_,h=>by
  rw[Du]at h ⊢;rcases h with ⟨ea,C,T,Y,g⟩|⟨a,ns,T,Y,g⟩|h
  .exact .inl ⟨ea,C,T,Y,e _ _ g⟩
  .exact .inr (.inl ⟨a,ns,T,Y,g.same e⟩)
  .exact .inr (.inr (MU.same e h))
theorem Au.same{H H':Hp}(e:AK H H'):∀ {ds:By} {xs:HQ},Au H ds xs->Au H' ds xs
 |[],_,h=>by rw[Au]at h ⊢;exact h
 |_::_,_,h=>by
  rw[Au]at h ⊢;obtain⟨x,r,U,T,g⟩:=h;exact⟨x,r,U,Du.same e T,Au.same e g⟩
theorem MU.same{H H':Hp}(e:AK H H'):∀ {g:List (PyData×PyData)} {v:V},MU H g v->MU H' g v
 |[],_,h=>by rw[MU]at h;exact h.elim
 |(_,_)::_,_,h=>by
  rw[MU]at h ⊢;obtain⟨h1,h2,a,r,Z,Y,U,T⟩:=h;exact⟨h1,h2,a,r,Z,e _ _ Y,U,Nf.same e T⟩
theorem Nf.same{H H':Hp}(e:AK H H'):∀ {g:List (PyData×PyData)} {r:List KR},Nf H g r->Nf H' g r
 |[],_,h=>by rw[Nf]at h ⊢;exact h
 |(_,_)::_,_,h=>by
  rw[Nf]at h ⊢;obtain⟨q,T,h1,h2,Z,Y,U⟩:=h;exact⟨q,T,h1,h2,Z.same e,Du.same e Y,Nf.same e U⟩
end
mutual
theorem Du.br{K:As}{H:Hp}:∀ {d:KB} {v:V},d.canLay0=true->Du H d v->Br K H d v
 |.none,_,_,h=>by rw[Du]at h;rw[Br];exact h
 |.bool _,_,_,h=>by rw[Du]at h;rw[Br];exact h
 |.int _,_,_,h=>by rw[Du]at h;rw[Br];exact h
 |.str _,_,_,h=>by rw[Du]at h;rw[Br];exact h
 |.tuple _,_,c,h=>by
  rw[Du]at h;rw[Br];obtain⟨a,xs,U,T,g⟩:=h;exact⟨a,xs,U,BI.of T,Au.br (by simp only[PyData.canLay0,Bool.and_eq_true]at c;first|exact c|exact c.2|exact c.1) g⟩
 |.list _,_,c,h=>by
  rw[Du]at h;rw[Br];obtain⟨a,xs,U,T,g⟩:=h;exact⟨a,xs,U,Aq.of T,Au.br (by simp only[PyData.canLay0,Bool.and_eq_true]at c;first|exact c|exact c.2|exact c.1) g⟩
 |.dict _,_,c,h=>by simp[PyData.canLay0]at c
theorem Au.br{K:As}{H:Hp}:∀ {ds:By} {xs:HQ},PyData.canLayAll0 ds=true->Au H ds xs->HF K H ds xs
 |[],_,_,h=>by rw[Au]at h;rw[HF];exact h
 |_::_,_,c,h=>by
  rw[Au]at h;rw[HF];obtain⟨x,r,U,T,g⟩:=h;simp only[PyData.canLayAll0,Bool.and_eq_true]at c;exact⟨x,r,U,Du.br c.1 T,Au.br c.2 g⟩
end
theorem Au.nil{H:Hp}:Au H [] []:=by rw[Au]
theorem Au.cons{H:Hp}{d:KB}{ds:By}{x:V}{xs:HQ}(h:Du H d x)(k:Au H ds xs):Au H (d::ds) (x::xs):=by rw[Au];exact⟨x,xs,rfl,h,k⟩
theorem Au.un{H:Hp}{d:KB}{ds:By}{xs:HQ}(h:Au H (d::ds) xs):∃x r,xs=x::r/\Du H d x/\Au H ds r:=by rw[Au]at h;exact h
theorem Au.nil_eq{H:Hp}{xs:HQ}(h:Au H [] xs):xs=[]:=by rw[Au]at h;exact h
theorem Au.len{H:Hp}:∀ {ds:By} {xs:HQ},Au H ds xs->xs.length=ds.length
 |[],_,h=>by rw[h.nil_eq];rfl
 |_::_,_,h=>by obtain⟨x,r,rfl,_,g⟩:=h.un;simp[g.len]
theorem Au.get{H:Hp}:∀ {ds:By} {xs:HQ} {i:Nat} {d:KB},Au H ds xs->ds[i]? = some d->∃v,xs[i]? = some v/\Du H d v
 |[],_,i,_,_,e=>by simp at e
 |_::_,_,0,_,h,e=>by
  obtain⟨x,r,rfl,Y,_⟩:=h.un;simp at e;subst e;exact⟨x,rfl,Y⟩
 |_::_,_,i+1,_,h,e=>by
  obtain⟨x,r,rfl,_,U⟩:=h.un;obtain⟨v,T,g⟩:=U.get (i:=i) (by simpa using e);exact⟨v,by simpa using T,g⟩
theorem Au.back{H:Hp}{ds:By}{xs:HQ}{i:Nat}{v:V}(h:Au H ds xs)(e:xs[i]? = some v):∃d,ds[i]? = some d/\Du H d v:=by
 have U:=h.len;have hi:i<ds.length:=by rw[<-U];exact(aE.mp e).1
 have hd:ds[i]? = some ds[i]:=by simp[hi]
 obtain⟨w,g,T⟩:=h.get hd;rw[e]at g;cases g;exact⟨_,hd,T⟩
theorem Au.app{H:Hp}:∀ {ds es:By} {xs ys:HQ},Au H ds xs->Au H es ys->Au H (ds++es) (xs++ys)
 |[],_,_,_,h,k=>by rw[h.nil_eq];exact k
 |_::_,_,_,_,h,k=>by obtain⟨x,r,rfl,T,g⟩:=h.un;exact .cons T (g.app k)
theorem Au.take{H:Hp}:∀ {ds:By} {xs:HQ} (i:Nat),Au H ds xs->Au H (ds.take i) (xs.take i)
 |_,_,0,_=>by rw[List.take_zero,List.take_zero];exact .nil
 |[],_,i+1,h=>by rw[h.nil_eq];exact .nil
 |_::_,_,i+1,h=>by obtain⟨x,r,rfl,T,g⟩:=h.un;exact .cons T (g.take i)
theorem Au.drop{H:Hp}:∀ {ds:By} {xs:HQ} (i:Nat),Au H ds xs->Au H (ds.drop i) (xs.drop i)
 |_,_,0,h=>h
 |[],_,i+1,h=>by rw[h.nil_eq];exact .nil
 |_::_,_,i+1,h=>by obtain⟨x,r,rfl,T,g⟩:=h.un;exact g.drop i
inductive Oc where
 |lst (xs:By)|kR (kvs:List (List Key×PyData))|Z0 (kvs:List (Option Tr×PyData))
inductive L where
 |no|d (x:KB)|own (c:Oc)
abbrev Dv:=List L
def TQ(G:Hp):List (List Key×PyData)->List (List Key×V)->Prop
 |[],r=>r=[]
 |q::t,r=>∃v g,r=(q.1,v)::g/\Du G q.2 v/\TQ G t g
theorem TQ.same{G g:Hp}(e:AK G g):∀ {t:List (List Key×PyData)} {r:List (List Key×V)},TQ G t r->TQ g t r
 |[],r,h=>h
 |q::t,r,h=>by
  obtain⟨v,T,rfl,Y,U⟩:=h;exact⟨v,T,rfl,Y.same e,TQ.same e U⟩
abbrev gF(kvs:List (Option Tr×PyData)):List (PyData×PyData):=kvs.map fun q=>(kM q.1,q.2)
abbrev ZC(kvs:List (Option Tr×PyData)):PyData:=.dict ((.bool true,.none)::gF kvs)
def J8(G:Hp)(a:Addr):Oc->HO->Prop
 |.lst xs,o=>∃ys,o=.lst ys/\Au G xs ys
 |.kR kvs,o=>∃r,o=.dT r/\TQ G kvs r
 |.Z0 kvs,o=>∃r,o=dN a r/\(r.map cx).Nodup/\Nf G (gF kvs) r
theorem J8.same{G U:Hp}{a:Addr}{c:Oc}{o:HO}(h:J8 G a c o)(e:AK G U):J8 U a c o:=by
 cases c with
 |Z0 kvs=>obtain⟨r,T,g,Y⟩:=h;exact⟨r,T,g,Nf.same e Y⟩
 |lst xs=>obtain⟨ys,T,g⟩:=h;exact⟨ys,T,g.same e⟩
 |kR kvs=>obtain⟨ys,T,g⟩:=h;exact⟨ys,T,g.same e⟩
theorem J8.VO{G:Hp}{a:Addr}{c:Oc}{xs:HQ}(h:J8 G a c Op):False:=by
 cases c with
 |Z0 kvs=>obtain⟨r,g,T,U⟩:=h;unfold dN at g;cases g
 |lst xs=>obtain⟨ys,g,T⟩:=h;cases g
 |kR kvs=>obtain⟨ys,g,T⟩:=h;cases g
def Nw(G0 H0 G:Hp):Prop:=∀a o,G a=some o->G0 a=some o\/H0 a=none\/∃xs,o=HO.tup xs
structure Rw(G0 H0 G H:Hp)(σ:St)(δ:Dv)(ts:Nl):Prop where
 ext:AK G0 G
 new:Nw G0 H0 G
 ins:AK G H
 keep:AK H0 H
 len:σ.length=δ.length
 dat:∀(i:Nat) (x:KB),δ[i]? = some (L.d x)->∃v,σ[i]? = some (some v)/\Du G x v
 own:∀(i:Nat) (xs:Oc),δ[i]? = some (L.own xs)->∃(a:Addr) (ys:HO),σ[i]? = some (some (V.ref a))/\G a=none/\H0 a=none/\H a=some ys/\J8 G a xs ys
 apart:∀(i j:Nat) (xs ys:Oc),i≠j->δ[i]? = some (L.own xs)->δ[j]? = some (L.own ys)->σ[i]?≠σ[j]?
 CJ:∀p∈ts,Du G p.1 p.2
def DE(X:Cx)(e:Expr)(f:GM):Prop:=∃t,PE X e t/\∀δ x,f δ=some x->∀G0 H0 G H σ ts (Q:VK),Rw G0 H0 G H σ δ ts->(∀v g H',Rw G0 H0 g H' σ δ ((x,v)::ts)->Q v H')->t σ H Q
def DA(X:Cx)(es:Ov)(f:Go):Prop:=∃t,PA X es t/\∀δ xs,f δ=some xs->∀G0 H0 G H σ ts (Q:List V->Hp->Prop),Rw G0 H0 G H σ δ ts->(∀vs g H',Rw G0 H0 g H' σ δ (xs.zip vs++ts)->vs.length=xs.length->Q vs H')->t σ H Q
def DT(X:Cx)(e:Expr)(f:NE):Prop:=∃t,PT X e t/\∀δ b,f δ=some b->∀G0 H0 G H σ ts (Q:Bool->Hp->Prop),Rw G0 H0 G H σ δ ts->(∀g H',Rw G0 H0 g H' σ δ ts->Q b H')->t σ H Q
section
variable{G0 H0 G H:Hp}{σ:St}{δ:Dv}{ts:Nl}
theorem Rw.drop{p:PyData×V}(r:Rw G0 H0 G H σ δ (p::ts)):Rw G0 H0 G H σ δ ts:={r with CJ:=fun q g=>r.CJ q (.tail _ g)}
theorem Rw.less{us:Nl}(r:Jv)(h:∀p∈us,p∈ts):Rw G0 H0 G H σ δ us:={r with CJ:=fun q g=>r.CJ q (h q g)}
theorem Rw.put{x:KB}{v:V}(r:Jv)(h:Du G x v):Rw G0 H0 G H σ δ ((x,v)::ts):={r with CJ:=fun q g=>by rcases aO.mp g with rfl|g;exact h;exact r.CJ q g}
theorem Rw.newObj{p:Addr}{o:HO}(r:Jv)(g:H p=none):Rw G0 H0 (upd G p o) (upd H p o) σ δ ts:=by
 have hG:G p=none:=by
  cases q:G p with
  |none=>rfl
  |some u=>rw[r.ins _ _ q]at g;cases g
 have h0:H0 p=none:=by
  cases q:H0 p with
  |none=>rfl
  |some u=>rw[r.keep _ _ q]at g;cases g
 have e:AK G (upd G p o):=Ak hG o;refine⟨r.ext.trans e,fun a u h=>?_,fun a u h=>?_,r.keep.trans (Ak g o),r.len,fun i x h=>?_,fun i xs h=>?_,r.apart,fun q hq=>(r.CJ q hq).same e⟩
 .by_cases ha:a=p
  .subst ha;exact .inr (.inl h0)
  .rw[AJ ha]at h;exact r.new _ _ h
 .by_cases ha:a=p
  .subst ha;rw[AR]at h ⊢;exact h
  .rw[AJ ha]at h ⊢;exact r.ins _ _ h
 .obtain⟨v,U,T⟩:=r.dat i x h;exact⟨v,U,T.same e⟩
 .obtain⟨a,ys,U,T,Z,Y,k5⟩:=r.own i xs h;have ha:a≠p:=fun z=>by subst z;rw[Y]at g;cases g
  exact⟨a,ys,U,by rw[AJ ha];exact T,Z,by rw[AJ ha];exact Y,k5.same e⟩
theorem Rw.jz{p:Addr}{xs:HQ}{H':Hp}(r:Jv)(e:AK H H')(g:H' p=some Op):Rw G0 H0 (upd G p Op) H' σ δ ts:=by
 have T:AK G (upd G p Op):=fun a o h=>by
  by_cases ha:a=p
  .subst ha;have:=e _ _ (r.ins _ _ h);rw[g]at this;rw[AR];exact this
  .rw[AJ ha];exact h
 refine⟨r.ext.trans T,fun a u h=>?_,fun a u h=>?_,r.keep.trans e,r.len,fun i x h=>?_,fun i xs h=>?_,r.apart,fun q hq=>(r.CJ q hq).same T⟩
 .by_cases ha:a=p
  .subst ha;rw[AR]at h;cases h;exact .inr (.inr ⟨_,rfl⟩)
  .rw[AJ ha]at h;exact r.new _ _ h
 .by_cases ha:a=p
  .subst ha;rw[AR]at h;rw[g];exact h
  .rw[AJ ha]at h;exact e _ _ (r.ins _ _ h)
 .obtain⟨v,Y,U⟩:=r.dat i x h;exact⟨v,Y,U.same T⟩
 .obtain⟨a,ys,Y,U,k3,Z,k5⟩:=r.own i xs h;have ha:a≠p:=fun z=>by subst z;rw[e _ _ Z]at g;cases g;exact k5.VO
  exact⟨a,ys,Y,by rw[AJ ha];exact U,k3,e _ _ Z,k5.same T⟩
theorem Rw.lift{g H':Hp}(r:Jv)(T:AK G g)(h2:Nw G H g)(h3:AK g H')(h4:AK H H'):Rw G0 H0 g H' σ δ ts:=by
 refine⟨r.ext.trans T,fun a o h=>?_,h3,r.keep.trans h4,r.len,fun i x h=>?_,fun i xs h=>?_,r.apart,fun q hq=>(r.CJ q hq).same T⟩
 .rcases h2 a o h with k|k|k
  .exact r.new a o k
  .right;left
   cases q:H0 a with
   |none=>rfl
   |some u=>rw[r.keep _ _ q]at k;cases k
  .exact .inr (.inr k)
 .obtain⟨v,Z,Y⟩:=r.dat i x h;exact⟨v,Z,Y.same T⟩
 .obtain⟨a,ys,Z,Y,k3,U,k5⟩:=r.own i xs h;refine⟨a,ys,Z,?_,k3,h4 _ _ U,k5.same T⟩;cases q:g a with
  |none=>rfl
  |some u=>
   rcases h2 a u q with z|z|⟨xs',z⟩
   .rw[Y]at z;cases z
   .rw[U]at z;cases z
   .have:=h3 _ _ q;rw[h4 _ _ U,z]at this;cases this;exact k5.VO.elim
end
section
variable{X:Cx}{a b e:Expr}{f g h:GM}{pos:Pos}
theorem AI{i j pos}:DE X (.Constant (.int i) j pos) (fun _=>some (.int i)):=⟨_,AX,fun δ x h G0 H0 G H σ ts Q r k=>by cases h;exact k _ _ _ (r.put Tk)⟩
theorem Gp{i j pos}:DE X (.Constant (.bool i) j pos) (fun _=>some (.bool i)):=⟨_,Jk,fun δ x h G0 H0 G H σ ts Q r k=>by cases h;exact k _ _ _ (r.put Tk)⟩
theorem Fy{j pos}:DE X (.Constant .none j pos) (fun _=>some .none):=⟨_,mr,fun δ x h G0 H0 G H σ ts Q r k=>by cases h;exact k _ _ _ (r.put Tk)⟩
theorem Cd{i j pos}:DE X (.Constant (.str i) j pos) (fun _=>some (.str i)):=⟨_,nA,fun δ x h G0 H0 G H σ ts Q r k=>by cases h;exact k _ _ _ (r.put Tk)⟩
def nm(i:Nat)(δ:Dv):Option PyData:=match δ[i]? with|some (.d x)=>some x|_=>none
theorem qF{i:Nat}{δ:Dv}{x:KB}(h:nm i δ=some x):δ[i]? = some (.d x):=by
 unfold nm at h;split at h
 .rename_i y e;cases h;exact e
 .cases h
theorem AD{i:Nat}{x:Str}(h:PE X (.Name x pos) (QA i)):DE X (.Name x pos) (nm i):=⟨_,h,fun δ y T G0 H0 G H σ ts Q r k=>by
 obtain⟨v,Y,U⟩:=r.dat _ _ (qF T);exact⟨v,Y,k _ _ _ (r.put U)⟩⟩
def AO(o:P5)(f g:GM)(δ:Dv):Option PyData:=(f δ).bind fun x=>(g δ).bind fun y=>o x y
def Ea(X:Cx)(m:dO)(o:P5):Prop:=∃r:R2,C8 X m r/\∀x y z,o x y=some z->∀G0 H0 G H σ δ ts u v (Q:VK),Rw G0 H0 G H σ δ ts->Du G x u->Du G y v->(∀w T H',Rw G0 H0 T H' σ δ ((z,w)::ts)->Q w H')->r u v H Q
theorem two{x y:KB}{f g:GM}{δ:Dv}{o:P5}{z:KB}(h:AO o f g δ=some z):∃x y,f δ=some x/\g δ=some y/\o x y=some z:=by
 unfold AO at h;obtain⟨x,Z,Y⟩:=aC.mp h;obtain⟨y,U,T⟩:=aC.mp Y;exact⟨x,y,Z,U,T⟩
theorem A1{op:Operator}{o:P5}(ho:Ea X (binaryOp op) o)(ha:DE X a f)(hb:DE X b g):DE X (.BinOp a op b pos) (AO o f g):=by
 obtain⟨r,hr,Y⟩:=ho;obtain⟨ta,U,ka⟩:=ha;obtain⟨tb,T,Z⟩:=hb;refine⟨_,A0 hr U T,fun δ z hz G0 H0 G H σ ts Q R0 k=>?_⟩;obtain⟨x,y,h1,h2,h3⟩:=two (x:=.none) (y:=.none) hz;refine ka δ x h1 G0 H0 G H σ ts _ R0 fun u G1 H1 R1=>?_;refine Z δ y h2 G0 H0 G1 H1 σ _ _ R1 fun v G2 H2 R2=>?_;exact Y x y z h3 G0 H0 G2 H2 σ δ ts u v Q (R2.drop.drop) (R2.CJ (x,u) (.tail _ M2)) (R2.CJ (y,v) M2) k
theorem Mc{op:CmpOp}{o:P5}(ho:Ea X (compareOp op) o)(ha:DE X a f)(hb:DE X b g)(hm:behindInMarks op b=false):DE X (.Compare a [op] [b] pos) (AO o f g):=by
 obtain⟨r,hr,Y⟩:=ho;obtain⟨ta,U,ka⟩:=ha;obtain⟨tb,T,Z⟩:=hb;refine⟨_,PJ hr U T hm,fun δ z hz G0 H0 G H σ ts Q R0 k=>?_⟩;obtain⟨x,y,h1,h2,h3⟩:=two (x:=.none) (y:=.none) hz;refine ka δ x h1 G0 H0 G H σ ts _ R0 fun u G1 H1 R1=>?_;refine Z δ y h2 G0 H0 G1 H1 σ _ _ R1 fun v G2 H2 R2=>?_;exact Y x y z h3 G0 H0 G2 H2 σ δ ts u v Q (R2.drop.drop) (R2.CJ (x,u) (.tail _ M2)) (R2.CJ (y,v) M2) k
end
section
variable{X:Cx}
def Mq(o o':P5)(x y:KB):Option PyData:=match o x y with|some z=>some z|none=>o' x y
theorem Ea.or{m:dO}{o o':P5}(h:Ea X m o)(h':Ea X m o'):Ea X m (Mq o o'):=by
 obtain⟨r,hr,kr⟩:=h;obtain⟨r',U,T⟩:=h';refine⟨_,C8.or hr U,fun x y z g G0 H0 G H σ δ ts u v Q Z du Y k=>?_⟩;unfold Mq at g;split at g
 .rename_i z' e;cases g;exact .inl (kr x y z e G0 H0 G H σ δ ts u v Q Z du Y k)
 .exact .inr (T x y z g G0 H0 G H σ δ ts u v Q Z du Y k)
theorem PC{m:dO}{C:Int->Int->Prop}{T:Int->Int->V}{o:Int->Int->Option PyData}(Y:C8 X m (rI C T))(Z:∀i j z,o i j=some z->C i j/\∀H,Du H z (T i j)) :
  Ea X m (fun x y=>match x,y with|.int i,.int j=>o i j|_,_=>none):=by
 refine⟨_,Y,fun x y z g G0 H0 G H σ δ ts u v Q R0 du U k=>?_⟩;dsimp only at g;split at g
 .rename_i i j;rw[Du]at du U;obtain⟨h1,h2⟩:=Z i j z g;exact⟨i,j,du,U,h1,k _ _ _ (R0.put (h2 _))⟩
 .cases g
theorem Ky{m:dO}{T:Int->Int->V}{o:Int->Int->PyData}(Y:C8 X m (Tx T))(Z:∀i j H,Du H (o i j) (T i j)) :
  Ea X m (fun x y=>match x,y with|.int i,.int j=>some (o i j)|_,_=>none):=by
 refine⟨_,Y,fun x y z g G0 H0 G H σ δ ts u v Q R0 du U k=>?_⟩;dsimp only at g;split at g
 .rename_i i j;cases g;rw[Du]at du U;exact⟨i,j,du,U,k _ _ _ (R0.put (Z _ _ _))⟩
 .cases g
def CG:Nat:=1000
theorem Ss{n:Nat}(h:n<=CG):n<sizeLine:=UI h
theorem GW{n:Nat}(h:n<=CG):n<=sizeLine:=bD (UI h)
def dc:PyData->PyData->Option PyData:=fun x y=>match x,y with|.int i,.int j=>some (.int (i+j))|_,_=>none
def YZ:PyData->PyData->Option PyData:=fun x y=>match x,y with|.int i,.int j=>some (.int (i-j))|_,_=>none
def KJ(n:Nat)(i:Int):Bool:=decide (i.natAbs<2^n)
def O1(i j:Int):Bool:=KJ 64 i||KJ 64 j||(KJ 9000 i&&KJ 9000 j)
def Yg:PyData->PyData->Option PyData:=fun x y=>match x,y with|.int i,.int j=>(if O1 i j=true then some (.int (i*j)) else none)|_,_=>none
def lC:PyData->PyData->Option PyData:=fun x y=>match x,y with|.int i,.int j=>(if j≠0/\KJ 9000 j=true then some (.int (i.fdiv j)) else none)|_,_=>none
def ID:PyData->PyData->Option PyData:=fun x y=>match x,y with|.int i,.int j=>(if j≠0 then some (.int (i.fmod j)) else none)|_,_=>none
def OX:PyData->PyData->Option PyData:=fun x y=>match x,y with|.int i,.int j=>(if 0<=j/\j<=1000/\KJ 64 i=true then some (.int (i^j.toNat)) else none)|_,_=>none
theorem iH:Ea X (binaryOp .Add) dc:=Ky Fv fun _ _ _=>by rw[Du]
theorem XI:Ea X (binaryOp .Sub) YZ:=Ky RP fun _ _ _=>by rw[Du]
theorem gJ{i:Int}(h:KJ 64 i=true):-(2^64)<i/\i<2^64:=by
 have:=az h
 lia
theorem hV:Ea X (binaryOp .Mult) Yg:=PC (o:=fun i j=>if O1 i j=true then some (.int (i*j)) else none) Cs fun i j z h=>by
 split at h
 .rename_i q;cases h;refine⟨?_,fun _=>by rw[Du]⟩;unfold O1 at q;rw[Bool.or_eq_true,Bool.or_eq_true,Bool.and_eq_true]at q;rcases q with (q|q)|q
  .exact .inl (.inl (gJ q))
  .exact .inl (.inr (gJ q))
  .exact .inr ⟨9000,by decide,of_decide_eq_true q.1,of_decide_eq_true q.2⟩
 .cases h
theorem iT:Ea X (binaryOp .FloorDiv) lC:=PC (o:=fun i j=>if j≠0/\KJ 9000 j=true then some (.int (i.fdiv j)) else none) Fe fun i j z h=>by
 split at h
 .rename_i q;cases h;exact⟨⟨q.1,9000,Nat.le_refl _,of_decide_eq_true q.2⟩,fun _=>by rw[Du]⟩
 .cases h
theorem JX:Ea X (binaryOp .Mod) ID:=PC (o:=fun i j=>if j≠0 then some (.int (i.fmod j)) else none) MV fun i j z h=>by
 split at h
 .rename_i q;cases h;exact⟨q,fun _=>by rw[Du]⟩
 .cases h
theorem Se:Ea X (binaryOp .Pow) OX:=PC (o:=fun i j=>if 0<=j/\j<=1000/\KJ 64 i=true then some (.int (i^j.toNat)) else none) Q0 fun i j z h=>by
 split at h
 .rename_i q;cases h;exact⟨⟨q.1,by lia,of_decide_eq_true q.2.2⟩,fun _=>by rw[Du]⟩
 .cases h
def Ez(p:Int->Int->Bool):PyData->PyData->Option PyData:=fun x y=>match x,y with|.int i,.int j=>some (.bool (p i j))|_,_=>none
theorem Q2:Ea X (compareOp .Lt) Q4:=Ky (o:=fun i j=>.bool (decide (i<j))) Q9 fun _ _ _=>by rw[Du]
theorem Rl:Ea X (compareOp .Gt) (Ez fun i j=>decide (j<i)):=Ky (o:=fun i j=>.bool (decide (j<i))) Uj fun _ _ _=>by rw[Du]
theorem gn:Ea X (compareOp .GtE) (Ez fun i j=>decide (j<=i)):=Ky (o:=fun i j=>.bool (decide (j<=i))) ZH fun _ _ _=>by rw[Du]
def ME:PyData->PyData->Option PyData:=fun x y=>match x,y with|.list a,.list b=>(if a.length+b.length<=CG then some (.list (a++b)) else none)|_,_=>none
theorem iZ:Ea X (binaryOp .Add) ME:=by
 refine⟨_,Vv,fun x y z g G0 H0 G H σ δ ts u v Q U du dv k=>?_⟩;unfold ME at g;split at g
 .rename_i a b;split at g
  .rename_i hl;cases g;rw[Du]at du dv;obtain⟨p,xs,rfl,h1,Z⟩:=du;obtain⟨q,ys,rfl,h3,Y⟩:=dv;refine⟨p,q,xs,ys,rfl,rfl,U.ins _ _ h1,U.ins _ _ h3,GW (by rw[Z.len,Y.len];exact hl),fun l T=>?_⟩;have R1:=U.newObj (o:=.lst (xs++ys)) T;refine k _ _ _ (R1.put ?_);rw[Du];have e:AK G (upd G l (.lst (xs++ys))):=fun a o h=>by
    have:=U.ins _ _ h;rw[AJ (AV this T)];exact h
   exact⟨l,xs++ys,rfl,AR,(Z.same e).app (Y.same e)⟩
  .cases g
 .cases g
def Oy:PyData->PyData->Option PyData:=fun x y=>match x,y with|.tuple a,.tuple b=>(if a.length+b.length<=CG then some (.tuple (a++b)) else none)|_,_=>none
theorem jV:Ea X (binaryOp .Add) Oy:=by
 refine⟨_,iJ,fun x y z g G0 H0 G H σ δ ts u v Q T du dv k=>?_⟩;unfold Oy at g;split at g
 .rename_i a b;split at g
  .rename_i hl;cases g;rw[Du]at du dv;obtain⟨p,xs,rfl,h1,Z⟩:=du;obtain⟨q,ys,rfl,h3,Y⟩:=dv;refine⟨p,q,xs,ys,rfl,rfl,T.ins _ _ h1,T.ins _ _ h3,GW (by rw[Z.len,Y.len];exact hl),fun l H' e U=>?_⟩;have R1:=T.jz e U;refine k _ _ _ (R1.put ?_);rw[Du];have e1:AK G (upd G l (.tup (xs++ys))):=fun a o h=>by
    by_cases ha:a=l
    .subst ha;have:=e _ _ (T.ins _ _ h);rw[U]at this;rw[AR];exact this
    .rw[AJ ha];exact h
   exact⟨l,xs++ys,rfl,AR,(Z.same e1).app (Y.same e1)⟩
  .cases g
 .cases g
def Vn:PyData->PyData->Option PyData:=fun x y=>match x,y with|.str a,.str b=>(if a.length+b.length<=CG then some (.str (a++b)) else none)|_,_=>none
theorem jw:Ea X (binaryOp .Add) Vn:=by
 refine⟨_,YJ,fun x y z g G0 H0 G H σ δ ts u v Q Y du T k=>?_⟩;unfold Vn at g;split at g
 .rename_i a b;split at g
  .rename_i U;cases g;rw[Du]at du T;exact⟨a,b,du,T,GW U,k _ _ _ (Y.put Tk)⟩
  .cases g
 .cases g
def A6:PyData->PyData->Option PyData:=Mq dc (Mq ME (Mq Oy Vn))
theorem BN:Ea X (binaryOp .Add) A6:=iH.or (iZ.or (jV.or jw))
def YW:PyData->PyData->Option PyData:=fun x y=>match x,y with|.list a,.int k=>(if a.length*k.toNat<=CG/\-1000000<=k/\k<=1000000 then some (.list (List.replicate k.toNat a).flatten) else none)|_,_=>none
theorem Au.rep{H:Hp}{ds:By}{xs:HQ}(h:Au H ds xs):∀n,Au H (List.replicate n ds).flatten (List.replicate n xs).flatten
 |0=>.nil
 |n+1=>by rw[List.replicate_succ,List.replicate_succ,List.flatten_cons,List.flatten_cons];exact h.app (h.rep n)
theorem iK:Ea X (binaryOp .Mult) YW:=by
 refine⟨_,ZZ,fun x y z g G0 H0 G H σ δ ts u v Q U du Z k=>?_⟩;unfold YW at g;split at g
 .rename_i a n;split at g
  .rename_i hl;cases g;rw[Du]at du;rw[Du]at Z;obtain⟨p,xs,rfl,h1,Y⟩:=du;subst Z;refine⟨p,n,xs,rfl,rfl,U.ins _ _ h1,by lia,by lia,GW (by rw[Y.len];exact hl.1),fun l T=>?_⟩;have R1:=U.newObj (o:=.lst (List.replicate n.toNat xs).flatten) T;refine k _ _ _ (R1.put ?_);rw[Du];have e:AK G (upd G l (.lst (List.replicate n.toNat xs).flatten)):=fun a o h=>by
    have:=U.ins _ _ h;rw[AJ (AV this T)];exact h
   exact⟨l,_,rfl,AR,(Y.same e).rep _⟩
  .cases g
 .cases g
def FX:PyData->PyData->Option PyData:=Mq Yg YW
theorem LR:Ea X (binaryOp .Mult) FX:=hV.or iK
theorem Tf{d:KB}(h:SeqAt.shaped d=true):d.canLay0=true:=by unfold SeqAt.shaped at h;rw[Bool.and_eq_true]at h;exact h.1
def En(neg:Bool):PyData->PyData->Option PyData:=fun x y=>if SeqAt.shaped x=true/\SeqAt.shaped y=true then some (.bool (if neg then !PyData.eqv x y else PyData.eqv x y)) else none
theorem cP{m:dO}{neg:Bool}(Y:C8 X m (eu X.K neg)):Ea X m (En neg):=by
 refine⟨_,Y,fun x y z g G0 H0 G H σ δ ts u v Q U du Z k=>?_⟩;unfold En at g;split at g
 .rename_i T;cases g;exact⟨x,y,(du.same U.ins).br (Tf T.1),(Z.same U.ins).br (Tf T.2),T.1,T.2,k _ _ _ (U.put Tk)⟩
 .cases g
theorem O8(g:dl):Ea X (compareOp .Eq) (En false):=cP (mM g)
theorem Kh(g:dl):Ea X (compareOp .NotEq) (En true):=cP (kW g)
def PyData.dh:PyData->Bool
 |.none=>true
 |_=>false
theorem Z5{H:Hp}:∀ {x:KB} {u:V},Du H x u->decide (u=.Bp)=PyData.dh x
 |.none,u,h=>by rw[Du]at h;subst h;rfl
 |.bool _,u,h=>by rw[Du]at h;subst h;rfl
 |.int _,u,h=>by rw[Du]at h;subst h;rfl
 |.str _,u,h=>by rw[Du]at h;subst h;rfl
 |.tuple _,u,h=>by rw[Du]at h;obtain⟨a,xs,rfl,_⟩:=h;rfl
 |.list _,u,h=>by rw[Du]at h;obtain⟨a,xs,rfl,_⟩:=h;rfl
 |.dict [],u,h=>by rw[Du,MU]at h;rcases h with ⟨ea,C,_,rfl,_⟩|⟨a,ns,_,rfl,_⟩|h;rfl;rfl;exact h.elim
 |.dict ((_,_)::_),u,h=>by rw[Du,MU]at h;rcases h with ⟨ea,C,_,rfl,_⟩|⟨a,ns,_,rfl,_⟩|⟨_,_,a,r,rfl,_⟩<;>rfl
def PU(neg:Bool):PyData->PyData->Option PyData:=fun x y=>match y with
 |.none=>some (.bool (if neg then !PyData.dh x else PyData.dh x))
 |_=>none
theorem gH:Ea X (compareOp .Is) (PU false):=by
 refine⟨_,mD,fun x y z g G0 H0 G H σ δ ts u v Q U du T k=>?_⟩;unfold PU at g;split at g
 .cases g;rw[Du]at T;refine⟨T,?_⟩;rw[Z5 du];exact k _ _ _ (U.put (by rw[Du];rfl))
 .cases g
theorem WK:Ea X (compareOp .IsNot) (PU true):=by
 refine⟨_,jg,fun x y z g G0 H0 G H σ δ ts u v Q U du T k=>?_⟩;unfold PU at g;split at g
 .cases g;rw[Du]at T;refine⟨T,?_⟩;rw[Z5 du];exact k _ _ _ (U.put (by rw[Du];rfl))
 .cases g
end
section
variable{X:Cx}{a b c e:Expr}{es:Ov}{f g h:GM}{pos p:Pos}
def Nx:PyData->Option Bool
 |.bool b=>some b
 |_=>none
def XW:PyData->Option Int
 |.int b=>some b
 |_=>none
theorem Rj{x:KB}{b:Bool}(h:Nx x=some b):x=.bool b:=by
 unfold Nx at h;split at h
 .cases h;rfl
 .cases h
theorem Zm{x:KB}{b:Int}(h:XW x=some b):x=.int b:=by
 unfold XW at h;split at h
 .cases h;rfl
 .cases h
theorem WE(ha:DE X a f):DE X (.UnaryOp .USub a pos) (fun δ=>(f δ).bind fun x=>(XW x).map fun i=>.int (-i)):=by
 obtain⟨ta,U,Y⟩:=ha;refine⟨_,YU Wd U,fun δ z Z G0 H0 G H σ ts Q R0 k=>?_⟩;obtain⟨x,h1,h2⟩:=aC.mp Z;obtain⟨i,h3,rfl⟩:=aD.mp h2;have:=Zm h3;subst this;refine Y δ _ h1 G0 H0 G H σ ts _ R0 fun u G1 H1 T=>?_;have:=T.CJ _ M2;rw[Du]at this;exact⟨i,this,k _ _ _ (T.drop.put Tk)⟩
theorem kG(ha:DE X a f):DE X (.UnaryOp .Not a pos) (fun δ=>(f δ).bind fun x=>(Nx x).map fun i=>.bool (!i)):=by
 obtain⟨ta,U,Y⟩:=ha;refine⟨_,Zs U,fun δ z Z G0 H0 G H σ ts Q R0 k=>?_⟩;obtain⟨x,h1,h2⟩:=aC.mp Z;obtain⟨i,h3,rfl⟩:=aD.mp h2;have:=Rj h3;subst this;refine Y δ _ h1 G0 H0 G H σ ts _ R0 fun u G1 H1 T=>?_;have:=T.CJ _ M2;rw[Du]at this;exact⟨i,this,k _ _ _ (T.drop.put Tk)⟩
theorem Q6{op}(ha:DE X a f):DE X (.BoolOp op [a] pos) f:=by
 obtain⟨Y,T,U⟩:=ha;exact⟨_,Q3 T,U⟩
theorem Ro{rest:Ov}(ha:DE X a f)(hb:DE X (.BoolOp .And (b::rest) pos) g):DE X (.BoolOp .And (a::b::rest) pos) (fun δ=>(f δ).bind fun x=>(Nx x).bind fun c=>if c=true then g δ else some lf):=by
 obtain⟨ta,pa,ka⟩:=ha;obtain⟨tb,pb,kb⟩:=hb;refine⟨_,OY pa pb,fun δ z hz G0 H0 G H σ ts Q R0 k=>?_⟩;obtain⟨x,h1,h2⟩:=aC.mp hz;obtain⟨i,h3,T⟩:=aC.mp h2;have:=Rj h3;subst this;refine ka δ _ h1 G0 H0 G H σ ts _ R0 fun u G1 H1 Y=>?_;have Z:=Y.CJ _ M2;rw[Du]at Z;refine⟨i,Z,?_⟩;split
 .rename_i U;rw[if_pos U]at T;exact kb δ z T G0 H0 G1 H1 σ ts Q Y.drop k
 .rename_i U;rw[if_neg U]at T;cases T;exact k _ _ _ (Y.drop.put Tk)
variable{fa fb:NE}
def DW(X:Cx)(e:Expr)(f:NE):Prop:=∃t,PW X e t/\∀δ b,f δ=some b->∀G0 H0 G H σ ts (Q:Bool->Hp->Prop),Rw G0 H0 G H σ δ ts->(∀T H',Rw G0 H0 T H' σ δ ts->Q b H')->t σ H Q
theorem DW.dt(h:DW X e fa):DT X e fa:=let⟨t,p,k⟩:=h;⟨t,p.pt,k⟩
theorem Bw{op:CmpOp}{o:P5}(ho:Ea X (compareOp op) o)(ha:DE X a f)(hb:DE X b g)(hm:behindInMarks op b=false):DT X (.Compare a [op] [b] pos) (fun δ=>(AO o f g δ).bind Nx):=by
 obtain⟨r,hr,kr⟩:=ho;obtain⟨ta,Z,ka⟩:=ha;obtain⟨tb,Y,kb⟩:=hb;refine⟨_,Ct hr Z Y hm,fun δ z hz G0 H0 G H σ ts Q R0 k=>?_⟩;obtain⟨q,h0,h4⟩:=aC.mp hz;have:=Rj h4;subst this;obtain⟨x,y,h1,h2,h3⟩:=two (x:=.none) (y:=.none) h0;refine ka δ x h1 G0 H0 G H σ ts _ R0 fun u G1 H1 R1=>?_;refine kb δ y h2 G0 H0 G1 H1 σ _ _ R1 fun v G2 H2 R2=>?_;refine kr x y _ h3 G0 H0 G2 H2 σ δ ts u v _ (R2.drop.drop) (R2.CJ (x,u) (.tail _ M2)) (R2.CJ (y,v) M2) fun w G3 H3 U=>?_;have T:=U.CJ _ M2;rw[Du]at T;exact⟨z,T,k _ _ U.drop⟩
theorem GF(ha : DE X e f)(he : ∀ whole,isTrue e X.env whole = (do let v <- whole; standAt e.pos; holding [v] (truthy v)):=by intro _; rfl):DT X e (fun δ => (f δ).bind Nx):=by
  obtain ⟨ta,pa,ka⟩:=ha
  refine ⟨_,JD pa he,fun δ z hz G0 H0 G H σ ts Q R0 k => ?_⟩
  obtain ⟨q,h0,h4⟩:=aC.mp hz
  have:=Rj h4; subst this
  refine ka δ _ h0 G0 H0 G H σ ts _ R0 fun u G1 H1 R1 => ?_
  have hu:=R1.CJ _ M2
  rw [Du] at hu
  exact ⟨z,hu,k _ _ R1.drop⟩
theorem Hs(ha:DT X a fa):DT X (.UnaryOp .Not a pos) (fun δ=>(fa δ).map fun c=>!c):=by
 obtain⟨ta,T,U⟩:=ha;refine⟨_,Iz T,fun δ z Y G0 H0 G H σ ts Q R0 k=>?_⟩;obtain⟨i,Z,rfl⟩:=aD.mp Y;exact U δ _ Z G0 H0 G H σ ts _ R0 fun G1 H1 R1=>k _ _ R1
theorem Hl{op:BoolOp}(ha:DT X a fa):DW X (.BoolOp op [a] pos) fa:=by
 obtain⟨Y,T,U⟩:=ha;cases op
 .exact⟨_,iE T,U⟩
 .exact⟨_,Mb T,U⟩
theorem Hy{rest:Ov}(ha:DT X a fa)(hb:DW X (.BoolOp .Or (b::rest) pos) fb):DW X (.BoolOp .Or (a::b::rest) pos) (fun δ=>(fa δ).bind fun c=>if c=true then some true else fb δ):=by
 obtain⟨ta,pa,ka⟩:=ha;obtain⟨tb,Z,kb⟩:=hb;refine⟨_,NV pa Z,fun δ z hz G0 H0 G H σ ts Q R0 k=>?_⟩;obtain⟨i,h3,T⟩:=aC.mp hz;refine ka δ _ h3 G0 H0 G H σ ts _ R0 fun G1 H1 Y=>?_;split
 .rename_i U;rw[if_pos U]at T;cases T;exact k _ _ Y
 .rename_i U;rw[if_neg U]at T;exact kb δ z T G0 H0 G1 H1 σ ts Q Y k
variable{fs:Go}
theorem AE:DA X [] (fun _=>some []):=⟨_,AU,fun δ xs h G0 H0 G H σ ts Q T k=>by cases h;exact k [] G H (by simpa using T) rfl⟩
theorem AB(ha:DE X e f)(hr:DA X es fs)(hs:starEach ur X.env=MR::starEach es X.env:=by rfl):DA X ur (fun δ=>(f δ).bind fun x=>(fs δ).map fun xs=>x::xs):=by
 obtain⟨ta,U,Z⟩:=ha;obtain⟨tr,pr,Y⟩:=hr;refine⟨_,AG U pr hs,fun δ z hz G0 H0 G H σ ts Q R0 k=>?_⟩;obtain⟨x,h1,h2⟩:=aC.mp hz;obtain⟨xs,h3,rfl⟩:=aD.mp h2;refine Z δ x h1 G0 H0 G H σ ts _ R0 fun u G1 H1 R1=>?_;refine Y δ xs h3 G0 H0 G1 H1 σ _ _ R1 fun vs G2 H2 R2 hl=>?_;refine k (u::vs) G2 H2 (R2.less fun q T=>?_) (by simp[hl]);simp only[List.zip_cons_cons,List.cons_append,List.mem_cons,List.mem_append]at T ⊢;rcases T with h|h|h
 .exact .inr (.inl h)
 .exact .inl h
 .exact .inr (.inr h)
theorem Z1{G:Hp}:∀ {xs:By} {vs:HQ},vs.length=xs.length->(∀q∈xs.zip vs,Du G q.1 q.2)->Au G xs vs
 |[],vs,T,_=>by rw[List.eq_nil_of_length_eq_zero T];exact .nil
 |x::xs,[],T,_=>by simp at T
 |x::xs,v::vs,T,h=>.cons (h (x,v) Ch) (Z1 (by simpa using T) fun q U=>h q (by simp[U]))
theorem Rw.args{G0 H0 G H:Hp}{σ:St}{δ:Dv}{ts:Nl}{xs:By}{vs:HQ}(r:Rw G0 H0 G H σ δ (xs.zip vs++ts))(U:vs.length=xs.length):Au G xs vs/\Rw G0 H0 G H σ δ ts :=
 ⟨Z1 U fun q T=>r.CJ q (bf _ T),r.less fun q T=>aa _ T⟩
theorem Rw.Sz{G0 H0 G H:Hp}{σ:St}{δ:Dv}{ts:Nl}{xs:By}{vs:HQ}{p:Addr}(r:Jv)(d:Au G xs vs)(T:H p=none):Rw G0 H0 (upd G p (.lst vs)) (upd H p (.lst vs)) σ δ ((.list xs,.ref p)::ts):=by
 refine(r.newObj T).put ?_;have e:AK G (upd G p (.lst vs)):=fun a o h=>by rw[AJ (AV (r.ins _ _ h) T)];exact h
 rw[Du];exact⟨p,vs,rfl,AR,d.same e⟩
theorem Rw.eF{G0 H0 G H:Hp}{σ:St}{δ:Dv}{ts:Nl}{xs:By}{vs:HQ}{p:Addr}(r:Jv)(d:Au G xs vs)(T:H p=none):Rw G0 H0 (upd G p (.tup vs)) (upd H p (.tup vs)) σ δ ((.tuple xs,.ref p)::ts):=by
 refine(r.newObj T).put ?_;have e:AK G (upd G p (.tup vs)):=fun a o h=>by rw[AJ (AV (r.ins _ _ h) T)];exact h
 rw[Du];exact⟨p,vs,rfl,AR,d.same e⟩
def JO(xs:By):Option ut:=if xs.length<=CG then some xs else none
theorem OW{xs ys:By}(h:JO xs=some ys):xs=ys/\xs.length<=CG:=by
 unfold JO at h;split at h
 .rename_i q;cases h;exact⟨rfl,q⟩
 .cases h
theorem A8{U}(ha:DA X es fs):DE X (.Tuple es U pos) (fun δ=>((fs δ).bind JO).map .tuple):=by
 obtain⟨ta,Y,Z⟩:=ha;refine⟨_,Ry Y,fun δ z hz G0 H0 G H σ ts Q R0 k=>?_⟩;obtain⟨ys,h1,rfl⟩:=aD.mp hz;obtain⟨xs,h2,h3⟩:=aC.mp h1;obtain⟨rfl,hl⟩:=OW h3;refine Z δ _ h2 G0 H0 G H σ ts _ R0 fun vs G1 H1 R1 T=>?_;obtain⟨d,R2⟩:=R1.args T;exact⟨GW (by rw[T];exact hl),fun q hq=>k _ _ _ (R2.eF d hq)⟩
theorem A9(ha:DA X es fs):DE X (.List es pos) (fun δ=>((fs δ).bind JO).map .list):=by
 obtain⟨ta,U,Y⟩:=ha;refine⟨_,Jt U,fun δ z Z G0 H0 G H σ ts Q R0 k=>?_⟩;obtain⟨ys,h1,rfl⟩:=aD.mp Z;obtain⟨xs,h2,h3⟩:=aC.mp h1;obtain⟨rfl,hl⟩:=OW h3;refine Y δ _ h2 G0 H0 G H σ ts _ R0 fun vs G1 H1 R1 T=>?_;obtain⟨d,R2⟩:=R1.args T;exact⟨GW (by rw[T];exact hl),fun q hq=>k _ _ _ (R2.Sz d hq)⟩
theorem Au.Gm{H:Hp}{ds:By}{xs:HQ}{i:Int}{d:KB}(h:Au H ds xs)(e:Gm ds i=some d):∃v,Gm xs i=some v/\Du H d v:=by
 unfold L2.Gm at e ⊢;rw[h.len];obtain⟨j,Z,Y⟩:=aC.mp e;obtain⟨v,U,T⟩:=h.get Y;exact⟨v,by rw[Z];exact U,T⟩
theorem Tt{G:Hp}:∀ns:List Int,Au G (ns.map .int) oR
 |[]=>.nil
 |n::ns=>.cons Tk (Tt ns)
def B1:PyData->PyData->Option PyData:=fun x y=>match x,y with
 |.list xs,.int i=>Gm xs i
 |.tuple xs,.int i=>Gm xs i
 |.dict [(.none,.list xs)],.int i=>Gm xs i
 |.str z,.int i=>if z.length<=CG then(Gm z.cps.toList i).map fun c=>.str ⟨#[c]⟩ else none
 |_,_=>none
theorem Bj(ha:DE X a f)(hb:DE X b g)(hs:XF b):DE X (.Subscript a b pos) (AO B1 f g):=by
 obtain⟨ta,pa,ka⟩:=ha;obtain⟨tb,pb,kb⟩:=hb;refine⟨_,CI mP pa pb hs,fun δ z hz G0 H0 G H σ ts Q R0 k=>?_⟩;obtain⟨x,y,h1,h2,T⟩:=two (x:=.none) (y:=.none) hz;refine ka δ x h1 G0 H0 G H σ ts _ R0 fun u G1 H1 R1=>?_;refine kb δ y h2 G0 H0 G1 H1 σ _ _ R1 fun v G2 H2 R2=>?_;have du:=R2.CJ (x,u) (.tail _ M2);have U:=R2.CJ (y,v) M2;unfold B1 at T;split at T
 .rw[Du]at du;rw[Du]at U;obtain⟨p,xs,rfl,h4,h5⟩:=du;obtain⟨w,Y,Z⟩:=h5.Gm T;exact .inl ⟨p,xs,_,w,rfl,U,Aq.of (R2.ins _ _ h4),Y,k _ _ _ (R2.drop.drop.put Z)⟩
 .rw[Du]at du;rw[Du]at U;obtain⟨p,xs,rfl,h4,h5⟩:=du;obtain⟨w,Y,Z⟩:=h5.Gm T;exact .inr (.inl ⟨p,xs,_,w,rfl,U,BI.of (R2.ins _ _ h4),Y,k _ _ _ (R2.drop.drop.put Z)⟩)
 .rw[Du]at du;rw[Du]at U;rcases du with ⟨ea,C,e1,_⟩|⟨p,ns,e1,rfl,h4⟩|z
  rotate_left 2
  .rw[MU]at z;cases z.1
  .simp at e1
  .obtain rfl:_=ns.map PyData.int:=by simpa using e1
   obtain⟨w,Y,Z⟩:=(Tt (G:=_) ns).Gm T;exact .inl ⟨p,_,_,w,rfl,U,.inl (h4.same R2.ins),Y,k _ _ _ (R2.drop.drop.put Z)⟩
 .rw[Du]at du;rw[Du]at U;split at T
  .rename_i hl;obtain⟨ch,Y,rfl⟩:=aD.mp T;exact .inr (.inr ⟨_,_,ch,du,U,GW hl,Y,k _ _ _ (R2.drop.drop.put Tk)⟩)
  .cases T
 .cases T
end
def Bc(g:AC):Sp:=fun vs H Q _=>∃U x G,g U=some x/\Au G U vs/\AK G H/\∀v T H',AK G T->Nw G H T->AK T H'->AK H H'->Du T x v->Q v H'
section
variable{X:Cx}{a e:Expr}{es:Ov}{f h:GM}{fs:Go}{pos p:Pos}
theorem Ap{k:Nat}{Y:Addr}{fd:IR}{ps:MA}{m:AC}{x:Str}{st:Stmt}(T:Fn X.K X.mg x st ps Y fd)(F:AH X.prog X.w X.K X.mg X.base Ah k Y fd ps (Bc m))(hr:DC k X.A)(hg:Gl X x)(ha:DA X ur fs)
 (U:Id=false:=by decide)(he:starEach ur X.env=MR::starEach es X.env:=by rfl)(g:(backTo pos SE).any cx=false:=by rfl) :
  DE X Iv (fun δ=>(fs δ).bind m):=by
 obtain⟨ta,Z,ka⟩:=ha;refine⟨_,Bs T F hr hg Z U he g,fun δ z hz G0 H0 G H σ ts Q R0 k=>?_⟩;obtain⟨xs,h1,h2⟩:=aC.mp hz;refine ka δ _ h1 G0 H0 G H σ ts _ R0 fun vs G1 H1 R1 hv=>?_;obtain⟨d,R2⟩:=R1.args hv;refine⟨xs,z,G1,h2,by rw[List.append_nil];exact d,R2.ins,fun v G' H' h3 h4 h5 h6 h7=>?_⟩;exact k _ _ _ ((R2.lift h3 h4 h5 h6).put h7)
def PB(X:Cx)(v:Nh)(o:AC):Prop:=∃r,FO X v r/\∀xs z,o xs=some z->∀G0 H0 G H σ δ ts us (Q:VK),Rw G0 H0 G H σ δ ts->Au G xs us->(∀w g H',Rw G0 H0 g H' σ δ ((z,w)::ts)->Q w H')->r us H Q
theorem Df{x:Str}{id:String}{o:AC}(hc:PB X (.builtin id) o)(hg:Gl X x)(hm:X.mg x=none)(g:bootBuiltins x=some (.builtin id))(ha:DA X ur fs)(hn:x ≠ "__name__":=by decide)(U:Id=false:=by decide)
 (he:starEach ur X.env=MR::starEach es X.env:=by rfl)(T:(backTo pos SE).any cx=false:=by rfl):DE X Iv (fun δ=>(fs δ).bind o):=by
 obtain⟨r,hr,Z⟩:=hc;obtain⟨ta,Y,ka⟩:=ha;refine⟨_,BR hr hg hm g Y hn U he T,fun δ z hz G0 H0 G H σ ts Q R0 k=>?_⟩;obtain⟨xs,h1,h2⟩:=aC.mp hz;refine ka δ _ h1 G0 H0 G H σ ts _ R0 fun vs G1 H1 R1 g=>?_;obtain⟨d,R2⟩:=R1.args g;exact Z xs z h2 G0 H0 G1 H1 σ δ ts vs Q R2 d k
theorem L5{x:Str}{T:String}{o:AC}(hc:PB X (.type T) o)(hg:Gl X x)(hm:X.mg x=none)(g:bootBuiltins x=some (.type T))(ha:DA X ur fs)(hn:x ≠ "__name__":=by decide)(Y:Id=false:=by decide)
 (he:starEach ur X.env=MR::starEach es X.env:=by rfl)(U:(backTo pos SE).any cx=false:=by rfl):DE X Iv (fun δ=>(fs δ).bind o):=by
 obtain⟨r,hr,kr⟩:=hc;obtain⟨ta,Z,ka⟩:=ha;refine⟨_,UM hr hg hm g Z hn Y he U,fun δ z hz G0 H0 G H σ ts Q R0 k=>?_⟩;obtain⟨xs,h1,h2⟩:=aC.mp hz;refine ka δ _ h1 G0 H0 G H σ ts _ R0 fun vs G1 H1 R1 g=>?_;obtain⟨d,R2⟩:=R1.args g;exact kr xs z h2 G0 H0 G1 H1 σ δ ts vs Q R2 d k
theorem Au.JS{H:Hp}{d:KB}{xs:HQ}(h:Au H [d] xs):∃x,xs=[x]/\Du H d x:=by
 obtain⟨x,r,rfl,T,g⟩:=h.un;rw[g.nil_eq];exact⟨x,rfl,T⟩
theorem Au.Nm{H:Hp}{d e:KB}{xs:HQ}(h:Au H [d,e] xs):∃x y,xs=[x,y]/\Du H d x/\Du H e y:=by
 obtain⟨x,r,rfl,U,T⟩:=h.un;obtain⟨y,rfl,g⟩:=T.JS;exact⟨x,y,rfl,U,g⟩
def Fj:List PyData->Option PyData
 |[.list xs]=>some (.int xs.length)
 |[.tuple xs]=>some (.int xs.length)
 |[.dict [(.none,.list xs)]]=>some (.int xs.length)
 |_=>none
theorem Gs:PB X (.builtin "len") Fj:=by
 refine⟨_,CS,fun xs z g G0 H0 G H σ δ ts us Q T d k=>?_⟩;unfold Fj at g;split at g
 .cases g;obtain⟨u,rfl,du⟩:=d.JS;rw[Du]at du;obtain⟨p,ys,rfl,U,Y⟩:=du;refine⟨p,ys,rfl,.inl (Aq.of (T.ins _ _ U)),?_⟩;rw[Y.len];exact k _ _ _ (T.put Tk)
 .cases g;obtain⟨u,rfl,du⟩:=d.JS;rw[Du]at du;obtain⟨p,ys,rfl,U,Y⟩:=du;refine⟨p,ys,rfl,.inr (BI.of (T.ins _ _ U)),?_⟩;rw[Y.len];exact k _ _ _ (T.put Tk)
 .cases g;obtain⟨u,rfl,du⟩:=d.JS;rw[Du]at du;rcases du with ⟨ea,C,Z,_⟩|⟨p,ns,Z,rfl,U⟩|z
  rotate_left 2
  .rw[MU]at z;cases z.1
  .simp at Z
  .obtain rfl:_=ns.map PyData.int:=by simpa using Z
   refine⟨p,_,rfl,.inl (.inl (U.same T.ins)),?_⟩;rw[List.length_map]at k ⊢;exact k _ _ _ (T.put Tk)
 .cases g
def IH:List PyData->Option PyData
 |[.list xs]=>some (.tuple xs)
 |[.tuple xs]=>some (.tuple xs)
 |_=>none
theorem Qq:PB X IF IH:=by
 refine⟨_,UU,fun xs z g G0 H0 G H σ δ ts us Q T d k=>?_⟩;unfold IH at g;split at g
 .cases g;obtain⟨u,rfl,du⟩:=d.JS;rw[Du]at du;obtain⟨p,ys,rfl,U,Z⟩:=du;exact⟨p,ys,rfl,.inl ⟨Aq.of (T.ins _ _ U),fun l hl=>k _ _ _ (T.eF Z hl)⟩⟩
 .cases g;obtain⟨u,rfl,du⟩:=d.JS;have Y:=du;rw[Du]at du;obtain⟨p,ys,rfl,U,Z⟩:=du;exact⟨p,ys,rfl,.inr ⟨BI.of (T.ins _ _ U),k _ _ _ (T.put Y)⟩⟩
 .cases g
def PH:List PyData->Option PyData
 |[.list xs]=>some (.list xs)
 |[.tuple xs]=>some (.list xs)
 |_=>none
theorem iU:PB X me PH:=by
 refine⟨_,VV,fun xs z g G0 H0 G H σ δ ts us Q T d k=>?_⟩;unfold PH at g;split at g
 .cases g;obtain⟨u,rfl,du⟩:=d.JS;rw[Du]at du;obtain⟨p,ys,rfl,Z,Y⟩:=du;exact⟨p,ys,rfl,.inl (Aq.of (T.ins _ _ Z)),fun l U=>k _ _ _ (T.Sz Y U)⟩
 .cases g;obtain⟨u,rfl,du⟩:=d.JS;rw[Du]at du;obtain⟨p,ys,rfl,Z,Y⟩:=du;exact⟨p,ys,rfl,.inr (BI.of (T.ins _ _ Z)),fun l U=>k _ _ _ (T.Sz Y U)⟩
 .cases g
theorem Du.ty{K:As}{H:Hp}:∀ {d:KB} {v:V},(∀g,d≠.dict g)->Du H d v->II K H v (.type (Ql d))/\∀g,d≠.dict g
 |.none,_,_,h=>by rw[Du]at h;subst h;exact⟨.Bp,by simp⟩
 |.bool _,_,_,h=>by rw[Du]at h;subst h;exact⟨.bl _,by simp⟩
 |.int _,_,_,h=>by rw[Du]at h;subst h;exact⟨.int _,by simp⟩
 |.str _,_,_,h=>by rw[Du]at h;subst h;exact⟨.str _,by simp⟩
 |.tuple _,_,_,h=>by rw[Du]at h;obtain⟨a,xs,rfl,T,_⟩:=h;exact⟨.tup T,by simp⟩
 |.list _,_,_,h=>by rw[Du]at h;obtain⟨a,xs,rfl,T,_⟩:=h;exact⟨.lst T,by simp⟩
 |.dict _,_,n,h=>absurd rfl (n _)
def Yi(q:PyData->Bool):PyData->Option PyData
 |.dict _=>none
 |x=>some (.bool (q x))
theorem i4{q:PyData->Bool}{x z:KB}(h:Yi q x=some z):(∀g,x≠.dict g)/\z=.bool (q x):=by
 unfold Yi at h;split at h
 .cases h
 .rename_i n;cases h;exact⟨fun g e=>n g e,rfl⟩
theorem MQ{T:String}{q:PyData->Bool}{xT:Str}{p1 g:Pos}(hk:∀d:PyData,(∀kv,d≠.dict kv)->PySem.W.kitOne X.K (.type (Ql d)) (.type T)=some (q d))(hg:Gl X "isinstance")(hm:X.mg "isinstance" = none)(hgT:Gl X xT)(hmT:X.mg xT=none)(Y:bootBuiltins xT=some (.type T))(ha:DE X a f)
 (hnT:xT ≠ "__name__":=by decide)(hdT:(xT==("__debug__" : Str))=false:=by decide)(U:starEach [a,.Name xT g] X.env=SZ::starEach [.Name xT g] X.env:=by rfl)(Z:(backTo pos (starEach [.Name xT g] X.env)).any cx=false:=by rfl) :
  DE X (.Call (.Name "isinstance" p1) [a,.Name xT g] [] pos) (fun δ=>(f δ).bind (Yi q)):=by
 obtain⟨ta,pa,ka⟩:=ha;have pT:PE X (.Name xT g) (tC (.ty T)):=Ib hgT hmT Y rfl hnT hdT;refine⟨_,BR IJ hg hm ay (AG pa (AG pT AU) U) BY BY U Z,fun δ z hz G0 H0 G H σ ts Q R0 k=>?_⟩;obtain⟨x,h1,h2⟩:=aC.mp hz;obtain⟨n1,rfl⟩:=i4 h2;refine ka δ _ h1 G0 H0 G H σ ts _ R0 fun u G1 H1 R1=>?_;have du:=R1.CJ _ M2;obtain⟨t1,t2⟩:=(du.same R1.ins).ty (K:=X.K) n1;exact⟨u,.ty T,_,q x,rfl,by simp[Dy],t1,hk x t2,k _ _ _ (R1.drop.put Tk)⟩
end
inductive Ou where
 |nx (δ:Dv)|rt (x:KB)|bk (δ:Dv)|ct (δ:Dv)|rn (xs:By)
def Fin(G0 H0:Hp)(D:Ends):Ou->Prop
 |.nx δ=>∀σ G H,Rw G0 H0 G H σ δ []->D.nx σ H
 |.rt x=>∀v G H,AK G0 G->Nw G0 H0 G->AK G H->AK H0 H->Du G x v->D.rt v H
 |.bk δ=>∀σ G H,Rw G0 H0 G H σ δ []->D.bk σ H
 |.ct δ=>∀σ G H,Rw G0 H0 G H σ δ []->D.ct σ H
 |.rn xs=>∀a ys G H,AK G0 G->Nw G0 H0 G->AK G H->AK H0 H->H0 a=none->G a=none->H a=some Mj->Au G xs ys->D.rt Mt H
abbrev DF:=Dv->Option Ou
def DS(X:Cx)(st:Stmt)(F:DF):Prop:=∃t,PS X st t/\∀δ r,F δ=some r->∀G0 H0 G H σ D,Rw G0 H0 G H σ δ []->Fin G0 H0 D r->t D σ H
def Mf(X:Cx)(st:tY)(F:DF):Prop:=∃t,Ie X st t/\∀δ r,F δ=some r->∀G0 H0 G H σ D,Rw G0 H0 G H σ δ []->Fin G0 H0 D r->t D σ H
def Af(T F2:DF)(δ:Dv):Option Ou:=match T δ with
 |some (.nx g)=>F2 g
 |o=>o
section
variable{X:Cx}{c e:Expr}{f h:GM}{fa:NE}{pos p:Pos}{st:Stmt}{sts sts':tY}{F1 F2:DF}
theorem CA:Mf X [] (fun δ=>some (.nx δ)):=⟨_,Cw,fun δ r h G0 H0 G H σ D R k=>by cases h;exact k _ _ _ R⟩
theorem AM(h1:DS X st F1)(h2:Mf X sts F2):Mf X (st::sts) (Af F1 F2):=by
 obtain⟨t1,p1,Y⟩:=h1;obtain⟨t2,Z,k2⟩:=h2;refine⟨_,AZ p1 Z,fun δ r h G0 H0 G H σ D R k=>?_⟩;unfold Af at h;split at h
 .rename_i g e1;exact Y δ _ e1 G0 H0 G H σ _ R fun T G' H' R'=>k2 g r h G0 H0 G' H' T D R' k
 .rename_i U;refine Y δ r h G0 H0 G H σ _ R ?_;cases r with
  |nx g=>exact absurd h (U g)
  |rt x=>exact k
  |bk g=>exact k
  |ct g=>exact k
  |rn xs=>exact k
theorem Ab(U:DS X st F1):Mf X [st] F1:=by
 obtain⟨t1,g,T⟩:=U;exact⟨_,Ai g,T⟩
theorem VF:DS X st (fun _=>none):=⟨_,WD,fun _ _ h=>by cases h⟩
theorem BM(T:DE X e f):DS X (.Return (some e) pos) (fun δ=>(f δ).map .rt):=by
 obtain⟨t,p,k⟩:=T;refine⟨_,BV p,fun δ r h G0 H0 G H σ D R q=>?_⟩;obtain⟨x,U,rfl⟩:=aD.mp h;exact k δ x U G0 H0 G H σ [] _ R fun v Y H' g=>q v Y H' g.ext g.new g.ins g.keep (g.CJ _ M2)
theorem Dh(g:DT X c fa)(h1:Mf X sts F1)(h2:Mf X sts' F2):DS X (.If c sts sts' pos) (fun δ=>(fa δ).bind fun c=>if c=true then F1 δ else F2 δ):=by
 obtain⟨tc,pc,kc⟩:=g;obtain⟨t1,p1,k1⟩:=h1;obtain⟨t2,Z,k2⟩:=h2;refine⟨_,FL pc p1 Z,fun δ r h G0 H0 G H σ D R q=>?_⟩;obtain⟨i,h3,T⟩:=aC.mp h;refine kc δ i h3 G0 H0 G H σ [] _ R fun Y H' U=>?_;split
 .rename_i g;rw[if_pos g]at T;exact k1 δ r T G0 H0 Y H' σ D U q
 .rename_i g;rw[if_neg g]at T;exact k2 δ r T G0 H0 Y H' σ D U q
end
section
variable{G0 H0 G H:Hp}{σ:St}{δ:Dv}{ts:Nl}
theorem Rw.Hc{i:Nat}{x:KB}{v:V}(r:Rw G0 H0 G H σ δ ((x,v)::ts)):Rw G0 H0 G H (σ.set i (some v)) (δ.set i (.d x)) ts:=by
 have hl:=r.len;refine⟨r.ext,r.new,r.ins,r.keep,by simp[hl],fun j y h=>?_,fun j ys h=>?_,fun j l ys zs hjl U T=>?_,fun q hq=>r.CJ q (.tail _ hq)⟩
 .by_cases g:i=j
  .subst g;by_cases hi:i<δ.length
   .rw[List.getElem?_set_self hi]at h;cases h;exact⟨v,by rw[List.getElem?_set_self AS],r.CJ _ M2⟩
   .rw[List.getElem?_eq_none mu]at h;cases h
  .rw[List.getElem?_set_ne g]at h;obtain⟨w,Z,Y⟩:=r.dat j y h;exact⟨w,by rw[List.getElem?_set_ne g];exact Z,Y⟩
 .by_cases g:i=j
  .subst g;by_cases hi:i<δ.length
   .rw[List.getElem?_set_self hi]at h;cases h
   .rw[List.getElem?_eq_none mu]at h;cases h
  .rw[List.getElem?_set_ne g]at h;obtain⟨w,Z,Y,k3⟩:=r.own j ys h;exact⟨w,Z,by rw[List.getElem?_set_ne g];exact Y,k3⟩
 .have nj:i≠j:=fun z=>by
   subst z;by_cases hi:i<δ.length
   .rw[List.getElem?_set_self hi]at U;cases U
   .rw[List.getElem?_eq_none mu]at U;cases U
  have nl:i≠l:=fun z=>by
   subst z;by_cases hi:i<δ.length
   .rw[List.getElem?_set_self hi]at T;cases T
   .rw[List.getElem?_eq_none mu]at T;cases T
  rw[List.getElem?_set_ne nj]at U ⊢;rw[List.getElem?_set_ne nl]at T ⊢;exact r.apart j l ys zs hjl U T
end
section
variable{X:Cx}{e:Expr}{f:GM}{pos p:Pos}
theorem Bf{i:Nat}{x:Str}{g:Pos}(hN:X.N.Nodup)(hi:X.N[i]? = some x)(T:Loc X.env.scope x)(Z:DE X e f)(U:swapsWith e (some (.Name x g)) pos.line X.env=pure false:=by rfl)(Y:X.fn x=true\/X.env.scope.names.lookup x=some .local:=by first|exact .inl rfl|exact .inr rfl|assumption) :
  DS X (.Assign [.Name x g] e pos) (fun δ=>(f δ).map fun y=>.nx (δ.set i (.d y))):=by
 obtain⟨t,p,k⟩:=Z;refine⟨_,BB hN hi T p U Y,fun δ r h G0 H0 G H σ D R q=>?_⟩;obtain⟨y,h1,rfl⟩:=aD.mp h;exact k δ y h1 G0 H0 G H σ [] _ R fun v G' H' R'=>q _ _ _ R'.Hc
end
section
variable{G0 H0 G H:Hp}{σ:St}{δ:Dv}{ts:Nl}
theorem Rw.base(r:Jv):Rw G H0 G H σ δ ts:={r with ext:=AK.refl G,new:=fun _ _ h=>.inl h}
theorem Nw.trans{T g:Hp}(a:Nw G0 H0 T)(b:Nw T H0 g):Nw G0 H0 g:=fun c o h=>by
 rcases b c o h with z|z|z
 .exact a c o z
 .exact .inr (.inl z)
 .exact .inr (.inr z)
theorem Rw.Vl{U H':Hp}{g:St}{δ':Dv}{T:Nl}(r:Jv)(q:Rw G H0 U H' g δ' T):Rw G0 H0 U H' g δ' T:={q with ext:=r.ext.trans q.ext,new:=r.new.trans q.new}
def GN(i:Nat)(δ:Dv):Dv:=match δ[i]? with
 |some (.own (.lst xs))=>δ.set i (.d (.list xs))
 |some (.own (.Z0 kvs))=>δ.set i (.d (ZC kvs))
 |_=>δ
theorem Rw.letGo{i:Nat}{c:Oc}{x:KB}(r:Jv)(hi:δ[i]? = some (.own c))(hx:∀a o,G a=none->J8 G a c o->Du (upd G a o) x Mt):∃a o,σ[i]? = some (some Mt)/\G a=none/\H0 a=none/\H a=some o/\J8 G a c o/\Rw G0 H0 (upd G a o) H σ (δ.set i (.d x)) ts:=by
 obtain⟨a,o,k1,k2,k3,k4,k5⟩:=r.own i _ hi;have e:AK G (upd G a o):=Ak k2 _;have g:i<δ.length:=(aE.mp hi).1;refine⟨a,o,k1,k2,k3,k4,k5,r.ext.trans e,fun b o' h=>?_,fun b o' h=>?_,r.keep,by simp[r.len],fun j y h=>?_,fun j zs h=>?_,fun j l us ws hjl Z Y=>?_,fun q hq=>(r.CJ q hq).same e⟩
 .by_cases hb:b=a
  .subst hb;exact .inr (.inl k3)
  .rw[AJ hb]at h;exact r.new _ _ h
 .by_cases hb:b=a
  .subst hb;rw[AR]at h;rw[k4];exact h
  .rw[AJ hb]at h;exact r.ins _ _ h
 .by_cases T:i=j
  .subst T;rw[List.getElem?_set_self g]at h;cases h;exact⟨.ref a,k1,hx a o k2 k5⟩
  .rw[List.getElem?_set_ne T]at h;obtain⟨w,U,m2⟩:=r.dat j y h;exact⟨w,U,m2.same e⟩
 .by_cases T:i=j
  .subst T;rw[List.getElem?_set_self g]at h;cases h
  .rw[List.getElem?_set_ne T]at h;obtain⟨b,us,U,m2,m3,m4,m5⟩:=r.own j zs h;have nb:b≠a:=fun z=>by subst z;exact r.apart i j _ zs T hi h (by rw[k1,U])
   exact⟨b,us,U,by rw[AJ nb];exact m2,m3,m4,m5.same e⟩
 .have nj:i≠j:=fun z=>by subst z;rw[List.getElem?_set_self g]at Z;cases Z
  have nl:i≠l:=fun z=>by subst z;rw[List.getElem?_set_self g]at Y;cases Y
  rw[List.getElem?_set_ne nj]at Z;rw[List.getElem?_set_ne nl]at Y;exact r.apart j l us ws hjl Z Y
theorem lM{a:Addr}{o:HO}{xs:By}(g:G a=none)(h:J8 G a Os o):Du (upd G a o) (.list xs) Mt:=by
 obtain⟨ys,rfl,k5⟩:=h;rw[Du];exact⟨a,ys,rfl,AR,k5.same (Ak g _)⟩
theorem nt{a:Addr}{o:HO}{kvs:List (Option Tr×PyData)}(g:G a=none)(h:J8 G a (.Z0 kvs) o):Du (upd G a o) (ZC kvs) Mt:=by
 obtain⟨r,rfl,n,k5⟩:=h;rw[Du,MU];exact .inr (.inr ⟨rfl,rfl,a,r,rfl,AR,n,Nf.same (Ak g _) k5⟩)
theorem Rw.GN(i:Nat)(r:Jv):∃g,Rw G0 H0 g H σ (L2.GN i δ) ts:=by
 unfold L2.GN;split
 .rename_i xs hi;obtain⟨a,o,_,_,_,_,_,R⟩:=r.letGo (x:=.list xs) hi fun a o h=>lM h;exact⟨_,R⟩
 .rename_i kvs hi;obtain⟨a,o,_,_,_,_,_,R⟩:=r.letGo (x:=ZC kvs) hi fun a o h=>nt h;exact⟨_,R⟩
 .exact⟨G,r⟩
theorem Rw.Z7{i:Nat}{xs:Oc}{ys:HO}{a:Addr}(r:Jv)(d:J8 G a xs ys)(ha:H a=none):Rw G0 H0 G (upd H a ys) (σ.set i (some Mt)) (δ.set i (.own xs)) ts:=by
 have hG:G a=none:=by
  cases q:G a with
  |none=>rfl
  |some u=>rw[r.ins _ _ q]at ha;cases ha
 have h0:H0 a=none:=by
  cases q:H0 a with
  |none=>rfl
  |some u=>rw[r.keep _ _ q]at ha;cases ha
 have e:AK H (upd H a ys):=Ak ha _;have hl:=r.len;have other:∀(j:Nat) (T:Oc),i≠j->(δ.set i (.own xs))[j]? = some (L.own T)->δ[j]? = some (L.own T):=fun j T g h=>by rw[List.getElem?_set_ne g]at h;exact h
 have U:∀(j:Nat) (T:Oc),δ[j]? = some (L.own T)->σ[j]?≠some (some (V.ref a)):=fun j T h z=>by
  obtain⟨b,us,Z,m2,m3,m4,m5⟩:=r.own j T h;rw[z]at Z;cases Z;rw[m4]at ha;cases ha
 refine⟨r.ext,r.new,r.ins.trans e,r.keep.trans e,by simp[hl],fun j y h=>?_,fun j T h=>?_,fun j l us ws hjl h1 Y=>?_,r.CJ⟩
 .by_cases g:i=j
  .subst g;by_cases hi:i<δ.length
   .rw[List.getElem?_set_self hi]at h;cases h
   .rw[List.getElem?_eq_none mu]at h;cases h
  .rw[List.getElem?_set_ne g]at h;obtain⟨w,Z,m2⟩:=r.dat j y h;exact⟨w,by rw[List.getElem?_set_ne g];exact Z,m2⟩
 .by_cases g:i=j
  .subst g;by_cases hi:i<δ.length
   .rw[List.getElem?_set_self hi]at h;cases h;exact⟨a,ys,by rw[List.getElem?_set_self AS],hG,h0,AR,d⟩
   .rw[List.getElem?_eq_none mu]at h;cases h
  .have h:=other j T g h;obtain⟨b,us,Z,m2,m3,m4,m5⟩:=r.own j T h;exact⟨b,us,by rw[List.getElem?_set_ne g];exact Z,m2,m3,e _ _ m4,m5⟩
 .by_cases g:i=j
  .subst g;have hl2:i≠l:=hjl;have Y:=other l ws hl2 Y;by_cases hi:i<δ.length
   .rw[List.getElem?_set_self AS,List.getElem?_set_ne hl2];exact fun z=>U l ws Y z.symm
   .rw[List.getElem?_eq_none mu]at h1;cases h1
  .have h1:=other j us g h1;by_cases hk:i=l
   .subst hk;by_cases hi:i<δ.length
    .rw[List.getElem?_set_self AS,List.getElem?_set_ne g];exact fun z=>U j us h1 z
    .rw[List.getElem?_eq_none mu]at Y;cases Y
   .have Y:=other l ws hk Y;rw[List.getElem?_set_ne g,List.getElem?_set_ne hk];exact r.apart j l us ws hjl h1 Y
theorem Rw.gu{i:Nat}{xs T:Oc}{ys:HO}{a:Addr}(r:Jv)(hi:δ[i]? = some (.own xs))(ha:σ[i]? = some (some Mt))(d:J8 G a T ys):Rw G0 H0 G (upd H a ys) σ (δ.set i (.own T)) ts:=by
 obtain⟨a',ys0,k1,k2,k3,k4,k5⟩:=r.own i xs hi;rw[ha]at k1;cases k1;have Y:i<δ.length:=(aE.mp hi).1;have hl:=r.len;refine⟨r.ext,r.new,fun b o h=>?_,fun b o h=>?_,by simp[hl],fun j y h=>?_,fun j zs h=>?_,fun j l us ws hjl h1 h2=>?_,r.CJ⟩
 .rw[AJ (fun z=>by subst z;rw[k2]at h;cases h)];exact r.ins _ _ h
 .rw[AJ (fun z=>by subst z;rw[k3]at h;cases h)];exact r.keep _ _ h
 .by_cases g:i=j
  .subst g;rw[List.getElem?_set_self Y]at h;cases h
  .rw[List.getElem?_set_ne g]at h;exact r.dat j y h
 .by_cases g:i=j
  .subst g;rw[List.getElem?_set_self Y]at h;cases h;exact⟨a,ys,ha,k2,k3,AR,d⟩
  .rw[List.getElem?_set_ne g]at h;obtain⟨b,us,m1,m2,m3,m4,m5⟩:=r.own j zs h;have nb:b≠a:=fun z=>by subst z;exact r.apart i j xs zs g hi h (by rw[ha,m1])
   exact⟨b,us,m1,m2,m3,by rw[AJ nb];exact m4,m5⟩
 .have f:∀(j:Nat) (us:Oc),(δ.set i (.own T))[j]? = some (L.own us)->∃U,δ[j]? = some (L.own U):=fun j us h=>by
   by_cases g:i=j
   .subst g;exact⟨xs,hi⟩
   .rw[List.getElem?_set_ne g]at h;exact⟨us,h⟩
  obtain⟨U,h1⟩:=f j us h1;obtain⟨Z,h2⟩:=f l ws h2;exact r.apart j l U Z hjl h1 h2
end
section
variable{X:Cx}{a b e:Expr}{es:Ov}{f h:GM}{fs:Go}{pos p:Pos}{st:Stmt}{F:DF}
theorem Q8(i:Nat)(g:DS X st F):DS X st (fun δ=>F (GN i δ)):=by
 obtain⟨t,p,k⟩:=g;refine⟨t,p,fun δ r h G0 H0 G H σ D R q=>?_⟩;obtain⟨U,T⟩:=R.GN i;exact k _ r h G0 H0 U H σ D T q
theorem LJ{i:Nat}{x:Str}{g U:Pos}(hN:X.N.Nodup)(hi:X.N[i]? = some x)(Z:Loc X.env.scope x)(ha:DA X es fs)(hs:swapsWith (.List es U) (some (.Name x g)) pos.line X.env=pure false:=by rfl)(hf:X.fn x=true\/X.env.scope.names.lookup x=some .local:=by first|exact .inl rfl|exact .inr rfl|assumption) :
  DS X (.Assign [.Name x g] (.List es U) pos) (fun δ=>((fs δ).bind JO).map fun ys=>.nx (δ.set i (.own Mj))):=by
 obtain⟨t,p,k⟩:=ha;refine⟨_,BB hN hi Z (Jt p) hs hf,fun δ r h G0 H0 G H σ D R q=>?_⟩;obtain⟨y,h1,rfl⟩:=aD.mp h;obtain⟨xs,h2,h3⟩:=aC.mp h1;obtain⟨rfl,hl⟩:=OW h3;refine k δ _ h2 G0 H0 G H σ [] _ R fun vs G1 H1 R1 Y=>?_;obtain⟨d,R2⟩:=R1.args Y;exact⟨GW (by rw[Y];exact hl),fun l T=>q _ _ _ (R2.Z7 ⟨_,rfl,d⟩ T)⟩
def ow(i:Nat)(δ:Dv):Option ut:=match δ[i]? with
 |some (.own (.lst xs))=>some xs
 |_=>none
theorem Ur{i:Nat}{δ:Dv}{xs:By}(h:ow i δ=some xs):δ[i]? = some (.own Os):=by
 unfold ow at h;split at h
 .rename_i y e;cases h;exact e
 .cases h
theorem Ic{i:Nat}{x:Str}{np ap cp:Pos}(hv:PE X tj (QA i))(he:DE X e f)
 (hP:∀ {Z:TE} {t:TA},PE X tj Z->PA X [e] t->PS X (.Expr (.Call (.Attribute tj "append" ap) [e] [] cp) pos) (Ut (kK X.K "list" X3 Z t)))(T:starEach [e] X.env=MR::starEach [] X.env:=by rfl) :
  DS X (.Expr (.Call (.Attribute tj "append" ap) [e] [] cp) pos) (fun δ=>(f δ).bind fun y=>(ow i δ).bind fun xs=>if xs.length<CG then some (.nx (δ.set i (.own (.lst (xs++[y]))))) else none):=by
 obtain⟨t,p,k⟩:=he;refine⟨_,hP hv (AG p AU T),fun δ r h G0 H0 G H σ D R q=>?_⟩;obtain⟨y,h1,h2⟩:=aC.mp h;obtain⟨xs,h3,U⟩:=aC.mp h2;split at U
 .rename_i hl;cases U;have hi:=Ur h3;obtain⟨a,_,g,k2,k3,k4,⟨ys,rfl,k5⟩⟩:=R.own i _ hi;refine⟨.ref a,g,.inl ⟨rfl,ys,Aq.of k4⟩,?_⟩;refine k δ y h1 G0 H0 G H σ [] _ R fun u G1 H1 Y=>?_;obtain⟨a',_,m1,m2,m3,m4,⟨zs,rfl,m5⟩⟩:=Y.own i _ hi;rw[g]at m1;cases m1;refine⟨a,zs,u,rfl,rfl,m4,Ss (by rw[m5.len];lia),?_⟩;exact q _ _ _ (Y.drop.gu hi g ⟨_,rfl,m5.app (.cons (Y.CJ _ M2) .nil)⟩)
 .cases U
theorem Oh{i:Nat}{x:Str}{np ap cp:Pos}(hv:PE X tj (QA i))(he:DE X e f)
 (hP:∀ {Z:TE} {t:TA},PE X tj Z->PA X [e] t->PS X (.Expr (.Call (.Attribute tj "extend" ap) [e] [] cp) pos) (Ut (kK X.K "list" X9 Z t)))(Y:starEach [e] X.env=MR::starEach [] X.env:=by rfl) :
  DS X (.Expr (.Call (.Attribute tj "extend" ap) [e] [] cp) pos) (fun δ=>(f δ).bind fun y=>(ow i δ).bind fun xs=>match y with|.list zs=>(if xs.length+zs.length<=CG then some (.nx (δ.set i (.own (.lst (xs++zs))))) else none)|_=>none):=by
 obtain⟨t,p,k⟩:=he;refine⟨_,hP hv (AG p AU Y),fun δ r h G0 H0 G H σ D R q=>?_⟩;obtain⟨y,h1,h2⟩:=aC.mp h;obtain⟨xs,h3,g⟩:=aC.mp h2;split at g
 .rename_i zs;split at g
  .rename_i hl;cases g;have hi:=Ur h3;obtain⟨a,_,U,k2,k3,k4,⟨ys,rfl,k5⟩⟩:=R.own i _ hi;refine⟨.ref a,U,.inl ⟨rfl,ys,Aq.of k4⟩,?_⟩;refine k δ _ h1 G0 H0 G H σ [] _ R fun u G1 H1 T=>?_;obtain⟨a',_,m1,m2,m3,m4,⟨us,rfl,m5⟩⟩:=T.own i _ hi;rw[U]at m1;cases m1;have du:=T.CJ _ M2;rw[Du]at du;obtain⟨b,ws,rfl,n1,n2⟩:=du;refine⟨a,b,us,ws,rfl,rfl,m4,T.ins _ _ n1,GW (by rw[m5.len,n2.len];exact hl),?_⟩;exact q _ _ _ (T.drop.gu hi U ⟨_,rfl,m5.app n2⟩)
  .cases g
 .cases g
theorem ZS{i:Nat}{x:Str}{np:Pos}(hv:PE X tj (QA i))(hg:Gl X "len")(hm:X.mg "len" = none)(g:starEach [.Name x np] X.env=(false,eval tj X.env)::starEach [] X.env:=by rfl)(T:(backTo pos (starEach [] X.env)).any cx=false:=by rfl) :
  DE X (.Call (.Name "len" p) [.Name x np] [] pos) (fun δ=>(ow i δ).map fun xs=>.int xs.length):=by
 refine⟨_,BR CS hg hm ae (AG hv AU g) BY BY g T,fun δ z hz G0 H0 G H σ ts Q U k=>?_⟩;obtain⟨xs,h1,rfl⟩:=aD.mp hz;obtain⟨a,_,Z,k2,k3,Y,⟨ys,rfl,k5⟩⟩:=U.own i _ (Ur h1);refine⟨.ref a,Z,a,ys,rfl,.inl (Aq.of Y),?_⟩;rw[k5.len];exact k _ _ _ (U.put Tk)
end
structure J6(J:It)(xs:By)(G:Hp):Prop where
 stop:∀H,AK G H->J.stop xs.length H
 go:∀(i:Nat) (d:KB) H,xs[i]? = some d->AK G H->J.go i H
 F4:∀(i:Nat) (d:KB) H x H',xs[i]? = some d->AK G H->J.F4 i H x H'->∀Gc,AK G Gc->AK Gc H->∃Gc',AK Gc Gc'/\Nw Gc H Gc'/\AK Gc' H'/\AK H H'/\Du Gc' d x
theorem Nw.refl{G H:Hp}:Nw G H G:=fun _ _ h=>.inl h
theorem il{K:As}{G:Hp}{a:Addr}{ys:HQ}{xs:By}(ha:G a=some Mj)(d:Au G xs ys):J6 (Xj K a) xs G where
 stop:=fun H e=>⟨ys,Aq.of (e _ _ ha),by rw[d.len];exact aI _⟩
 go:=fun i x H hx e=>by
  obtain⟨v,h1,_⟩:=d.get hx;exact⟨ys,v,Aq.of (e _ _ ha),h1⟩
 F4:=fun i x H v H' hx e y Gc e1 e2=>by
  obtain⟨rfl,y⟩:=y;have h1:=y ys (Aq.of (e _ _ ha));obtain⟨x',h2,h3⟩:=d.back h1;rw[hx]at h2;cases h2;exact⟨Gc,AK.refl _,Nw.refl,e2,AK.refl _,h3.same e1⟩
theorem nu{K:As}{G:Hp}{a:Addr}{ys:HQ}{xs:By}(ha:G a=some (.tup ys))(d:Au G xs ys):J6 (XG K a) xs G where
 stop:=fun H e=>⟨ys,BI.of (e _ _ ha),by rw[d.len];exact aI _⟩
 go:=fun i x H hx e=>by
  obtain⟨v,h1,_⟩:=d.get hx;exact⟨ys,v,BI.of (e _ _ ha),h1⟩
 F4:=fun i x H v H' hx e y Gc e1 e2=>by
  obtain⟨rfl,y⟩:=y;have h1:=y ys (BI.of (e _ _ ha));obtain⟨x',h2,h3⟩:=d.back h1;rw[hx]at h2;cases h2;exact⟨Gc,AK.refl _,Nw.refl,e2,AK.refl _,h3.same e1⟩
def Jb(lo:Int)(n:Nat):List PyData:=(List.range n).map fun k=>.int (lo+(k:Nat))
theorem Zg{G:Hp}{lo:Int}{n:Nat}:J6 (T1 lo n) (Jb lo n) G where
 stop:=fun H e=>by show n<=_;simp[Jb]
 go:=fun i x H hx e=>by
  have:=(aE.mp hx).1;show i<n
  simpa[Jb]using this
 F4:=fun i x H v H' hx e y Gc e1 e2=>by
  obtain⟨rfl,rfl⟩:=y;unfold Jb at hx;rw[List.getElem?_map]at hx;obtain⟨k,h1,rfl⟩:=aD.mp hx;have hk:k=i:=by
   have:=(aE.mp h1).1;rw[List.getElem?_range (by simpa using this)]at h1;cases h1;rfl
  subst hk;exact⟨Gc,AK.refl _,Nw.refl,e2,AK.refl _,by rw[Du]⟩
theorem QN{Gc H:Hp}{p:Addr}{Z d2:KB}{T g:V}(Y:AK Gc H)(U:H p=none)(h1:Du Gc Z T)(h2:Du Gc d2 g) :
  ∃Gc',AK Gc Gc'/\Nw Gc H Gc'/\AK Gc' (upd H p (.tup [T,g]))/\AK H (upd H p (.tup [T,g]))/\Du Gc' (.tuple [Z,d2]) (.ref p):=by
 have hG:Gc p=none:=by
  cases q:Gc p with
  |none=>rfl
  |some u=>rw[Y _ _ q]at U;cases U
 have e:AK Gc (upd Gc p (.tup [T,g])):=Ak hG _;refine⟨upd Gc p (.tup [T,g]),e,fun a o h=>?_,fun a o h=>?_,Ak U _,?_⟩
 .by_cases ha:a=p
  .subst ha;exact .inr (.inl U)
  .rw[AJ ha]at h;exact .inl h
 .by_cases ha:a=p
  .subst ha;rw[AR]at h ⊢;exact h
  .rw[AJ ha]at h ⊢;exact Y _ _ h
 .rw[Du];exact⟨p,[T,g],rfl,AR,.cons (h1.same e) (.cons (h2.same e) .nil)⟩
def HR(xs:By):List PyData:=xs.zipIdx.map fun q=>.tuple [.int (q.2:Nat),q.1]
theorem J0{xs:By}{i:Nat}{d:KB}(h:(HR xs)[i]? = some d):∃x,xs[i]? = some x/\d=.tuple [.int (i:Nat),x]:=by
 unfold HR at h;rw[List.getElem?_map]at h;obtain⟨q,g,rfl⟩:=aD.mp h;rw[List.getElem?_zipIdx]at g;obtain⟨x,T,rfl⟩:=aD.mp g;exact⟨x,T,by simp⟩
theorem fX{K:As}{G:Hp}{a:Addr}{ys:HQ}{xs:By}(ha:G a=some (.tup ys))(d:Au G xs ys):J6 (mX K a) (HR xs) G where
 stop:=fun H e=>⟨ys,BI.of (e _ _ ha),by rw[d.len];simp[HR]⟩
 go:=fun i x H hx e=>by
  obtain⟨x',h0,rfl⟩:=J0 hx;obtain⟨v,h1,_⟩:=d.get h0;exact⟨ys,v,BI.of (e _ _ ha),h1⟩
 F4:=fun i x H v H' hx e y Gc e1 e2=>by
  obtain⟨x',h0,rfl⟩:=J0 hx;obtain⟨p,u,rfl,hp,rfl,y⟩:=y;have h1:=y ys (BI.of (e _ _ ha));obtain⟨x2,h2,h3⟩:=d.back h1;rw[h0]at h2;cases h2;exact QN e2 hp Tk (h3.same e1)
theorem fM{K:As}{G:Hp}{a:Addr}{ys:HQ}{xs:By}(ha:G a=some Mj)(d:Au G xs ys):J6 (Xi K a) (HR xs) G where
 stop:=fun H e=>⟨ys,Aq.of (e _ _ ha),by rw[d.len];simp[HR]⟩
 go:=fun i x H hx e=>by
  obtain⟨x',h0,rfl⟩:=J0 hx;obtain⟨v,h1,_⟩:=d.get h0;exact⟨ys,v,Aq.of (e _ _ ha),h1⟩
 F4:=fun i x H v H' hx e y Gc e1 e2=>by
  obtain⟨x',h0,rfl⟩:=J0 hx;obtain⟨p,u,rfl,hp,rfl,y⟩:=y;have h1:=y ys (Aq.of (e _ _ ha));obtain⟨x2,h2,h3⟩:=d.back h1;rw[h0]at h2;cases h2;exact QN e2 hp Tk (h3.same e1)
def KO(xs ys:By):List PyData:=(xs.zip ys).map fun q=>.tuple [q.1,q.2]
theorem V9{xs ys:By}{i:Nat}{d:KB}(h:(KO xs ys)[i]? = some d):∃x y,xs[i]? = some x/\ys[i]? = some y/\d=.tuple [x,y]:=by
 unfold KO at h;rw[List.getElem?_map]at h;obtain⟨q,U,rfl⟩:=aD.mp h;obtain⟨T,g⟩:=List.getElem?_zip_eq_some.mp U;exact⟨q.1,q.2,T,g,rfl⟩
theorem j6{G:Hp}{b1 b2:Bool}{a1 a2:Addr}{us vs:HQ}{xs ys:By}(h1:G a1=some (if b1 then .tup us else .lst us))(h2:G a2=some (if b2 then .tup vs else .lst vs))(d1:Au G xs us)(d2:Au G ys vs):J6 (lG b1 b2 a1 a2) (KO xs ys) G where
 stop:=fun H e=>by
  have k1:=e _ _ h1;have k2:=e _ _ h2;refine⟨us,vs,?_,?_,?_⟩
  .cases b1<;>simpa[B7]using k1
  .cases b2<;>simpa[B7]using k2
  .rw[d1.len,d2.len];simp[KO];lia
 go:=fun i x H hx e=>by
  obtain⟨x1,x2,k1,k2,rfl⟩:=V9 hx;obtain⟨v1,k3,_⟩:=d1.get k1;obtain⟨v2,k4,_⟩:=d2.get k2;have m1:=e _ _ h1;have m2:=e _ _ h2;refine⟨us,v1,vs,v2,?_,?_,k3,k4⟩
  .cases b1<;>simpa[B7]using m1
  .cases b2<;>simpa[B7]using m2
 F4:=fun i x H v H' hx e y Gc e1 e2=>by
  obtain⟨x1,x2,k1,k2,rfl⟩:=V9 hx;obtain⟨p,v1,v2,rfl,hp,rfl,y1,y2⟩:=y;have m1:=e _ _ h1;have m2:=e _ _ h2;have z1:=y1 us (by cases b1<;>simpa[B7]using m1);have z2:=y2 vs (by cases b2<;>simpa[B7]using m2);obtain⟨w1,n1,n2⟩:=d1.back z1;obtain⟨w2,n3,n4⟩:=d2.back z2;rw[k1]at n1;cases n1;rw[k2]at n3;cases n3;exact QN e2 hp (n2.same e1) (n4.same e1)
def DI(X:Cx)(tg iter:Expr)(f:Go):Prop:=∃g,PI X tg iter g/\∀δ xs,f δ=some xs->∀G0 H0 G H σ ts (R:It->Hp->Prop),Rw G0 H0 G H σ δ ts->(∀J T H',Rw G0 H0 T H' σ δ ts->J6 J xs T->R J H')->g σ H R
section
variable{X:Cx}{tg a b e:Expr}{f g h:GM}{fs:Go}{pos p:Pos}{sts:tY}{F:DF}
theorem PI.or{U T:TI}(h:PI X tg e U)(h':PI X tg e T):PI X tg e (fun σ H R=>U σ H R\/T σ H R):=fun pins s σ H R I q=>by
 rcases q with q|q
 .exact h pins s σ H R I q
 .exact h' pins s σ H R I q
def Ff:PyData->Option ut
 |.list xs=>some xs
 |.tuple xs=>some xs
 |_=>none
theorem FC(he:DE X e f):DI X tg e (fun δ=>(f δ).bind Ff):=by
 obtain⟨t,p,k⟩:=he;refine⟨_,(EV p).or (VD p),fun δ xs h G0 H0 G H σ ts R R0 q=>?_⟩;obtain⟨x,h1,Y⟩:=aC.mp h;unfold Ff at Y;split at Y
 .cases Y
  left
  refine k δ _ h1 G0 H0 G H σ ts _ R0 fun v G' H' T=>?_;have du:=T.CJ _ M2;rw[Du]at du;obtain⟨a,ys,rfl,U,Z⟩:=du;exact⟨a,rfl,⟨ys,Aq.of (T.ins _ _ U)⟩,q _ _ _ T.drop (il U Z)⟩
 .cases Y
  right
  refine k δ _ h1 G0 H0 G H σ ts _ R0 fun v G' H' T=>?_;have du:=T.CJ _ M2;rw[Du]at du;obtain⟨a,ys,rfl,U,Z⟩:=du;exact⟨a,rfl,⟨ys,BI.of (T.ins _ _ U)⟩,q _ _ _ T.drop (nu U Z)⟩
 .cases Y
def IK:List PyData->Option ut
 |[.int j]=>if -1000000<=j/\j<=1000000 then some (Jb 0 j.toNat) else none
 |_=>none
def YG:List PyData->Option ut
 |[.int i,.int j]=>if -1000000<=i/\i<=1000000/\-1000000<=j/\j<=1000000 then some (Jb i (j-i).toNat) else none
 |_=>none
theorem Jz(hg:Gl X "range")(hm:X.mg "range" = none)(ha:DA X [a] fs)(Y:starEach [a] X.env=[SZ]:=by rfl):DI X tg (.Call (.Name "range" p) [a] [] pos) (fun δ=>(fs δ).bind IK):=by
 obtain⟨t,p,k⟩:=ha;refine⟨_,Jp hg hm p Y,fun δ xs h G0 H0 G H σ ts R R0 q=>?_⟩;obtain⟨x,Z,T⟩:=aC.mp h;refine k δ _ Z G0 H0 G H σ ts _ R0 fun vs G' H' R' U=>?_;obtain⟨d,R2⟩:=R'.args U;unfold IK at T;split at T
 .split at T
  .cases T;obtain⟨u,rfl,du⟩:=d.JS;rw[Du]at du;subst du;exact⟨_,rfl,by lia,by lia,q _ _ _ R2 Zg⟩
  .cases T
 .cases T
theorem UD(hg:Gl X "range")(hm:X.mg "range" = none)(ha:DA X [a,b] fs)(hs:starEach [a,b] X.env=[SZ,Pa]:=by rfl)(U:starEach [b] X.env=[Pa]:=by rfl):DI X tg (.Call (.Name "range" p) [a,b] [] pos) (fun δ=>(fs δ).bind YG):=by
 obtain⟨t,p,k⟩:=ha;refine⟨_,cY hg hm p hs U,fun δ xs h G0 H0 G H σ ts R R0 q=>?_⟩;obtain⟨x,h1,T⟩:=aC.mp h;refine k δ _ h1 G0 H0 G H σ ts _ R0 fun vs G' H' R' Z=>?_;obtain⟨d,R2⟩:=R'.args Z;unfold YG at T;split at T
 .split at T
  .cases T;obtain⟨u,v,rfl,du,Y⟩:=d.Nm;rw[Du]at du Y;subst du Y;exact⟨_,_,rfl,⟨by lia,by lia,by lia,by lia⟩,q _ _ _ R2 Zg⟩
  .cases T
 .cases T
def NL:List PyData->Option ut
 |[.list xs]=>some (HR xs)
 |[.tuple xs]=>some (HR xs)
 |_=>none
theorem TK{elts:Ov}{x1}{T:Pos}(hg:Gl X "enumerate")(hm:X.mg "enumerate" = none)(ha:DA X [a] fs)(hs:starEach [a] X.env=[SZ]:=by rfl):DI X (.Tuple elts x1 T) (.Call (.Name "enumerate" p) [a] [] pos) (fun δ=>(fs δ).bind NL):=by
 obtain⟨t,p,k⟩:=ha;refine⟨_,(Vh hg hm p hs).or (gz hg hm p hs),fun δ xs h G0 H0 G H σ ts R R0 q=>?_⟩;obtain⟨x,h1,Y⟩:=aC.mp h;unfold NL at Y;split at Y
 .cases Y
  left
  refine k δ _ h1 G0 H0 G H σ ts _ R0 fun vs G' H' R' hv=>?_;obtain⟨d,R2⟩:=R'.args hv;obtain⟨u,rfl,du⟩:=d.JS;rw[Du]at du;obtain⟨a,ys,rfl,U,Z⟩:=du;exact⟨a,rfl,⟨ys,Aq.of (R2.ins _ _ U)⟩,q _ _ _ R2 (fM U Z)⟩
 .cases Y
  right
  refine k δ _ h1 G0 H0 G H σ ts _ R0 fun vs G' H' R' hv=>?_;obtain⟨d,R2⟩:=R'.args hv;obtain⟨u,rfl,du⟩:=d.JS;rw[Du]at du;obtain⟨a,ys,rfl,U,Z⟩:=du;exact⟨a,rfl,⟨ys,BI.of (R2.ins _ _ U)⟩,q _ _ _ R2 (fX U Z)⟩
 .cases Y
def zip2:List PyData->Option ut
 |[x,y]=>(Ff x).bind fun xs=>(Ff y).map fun ys=>KO xs ys
 |_=>none
theorem Im{G:Hp}{x:KB}{v:V}{xs:By}(h:Du G x v)(e:Ff x=some xs):∃(b:Bool) (a:Addr) (ys:HQ),v=.ref a/\G a=some (if b then .tup ys else .lst ys)/\Au G xs ys:=by
 unfold Ff at e;split at e
 .cases e;rw[Du]at h;obtain⟨a,ys,rfl,U,T⟩:=h;exact⟨false,a,ys,rfl,U,T⟩
 .cases e;rw[Du]at h;obtain⟨a,ys,rfl,U,T⟩:=h;exact⟨true,a,ys,rfl,U,T⟩
 .cases e
theorem cL{elts:Ov}{x1}{T:Pos}(hg:Gl X "zip")(hm:X.mg "zip" = none)(ha:DA X [a,b] fs)(hs:starEach [a,b] X.env=[SZ,Pa]:=by rfl)(Y:starEach [b] X.env=[Pa]:=by rfl) :
  DI X (.Tuple elts x1 T) (.Call (.Name "zip" p) [a,b] [] pos) (fun δ=>(fs δ).bind zip2):=by
 obtain⟨t,p,k⟩:=ha;refine⟨_,WJ hg hm p hs Y,fun δ xs h G0 H0 G H σ ts R R0 q=>?_⟩;obtain⟨x,h1,U⟩:=aC.mp h;refine k δ _ h1 G0 H0 G H σ ts _ R0 fun vs G' H' R' hv=>?_;obtain⟨d,R2⟩:=R'.args hv;unfold zip2 at U;split at U
 .obtain⟨xs1,h3,h4⟩:=aC.mp U;obtain⟨ys1,h5,rfl⟩:=aD.mp h4;obtain⟨u,v,rfl,du,dv⟩:=d.Nm;obtain⟨b1,a1,us,rfl,Z,n2⟩:=Im du h3;obtain⟨b2,a2,ws,rfl,m1,m2⟩:=Im dv h5;have s1:=R2.ins _ _ Z;have s2:=R2.ins _ _ m1;exact⟨b1,b2,a1,a2,rfl,⟨us,by cases b1<;>simpa[B7]using s1⟩,⟨ws,by cases b2<;>simpa[B7]using s2⟩,q _ _ _ R2 (j6 Z m1 n2 m2)⟩
 .cases U
def DG(X:Cx)(tg:Expr)(set:TD):Prop:=∃g,PG X tg g/\∀δ x U,set x δ=some U->∀G0 H0 G H σ v (Q:St->Hp->Prop),Rw G0 H0 G H σ δ [(x,v)]->(∀T Y H',Rw G0 H0 Y H' T U []->Q T H')->g v σ H Q
theorem E2{i:Nat}{x:Str}(h:PG X (.Name x pos) (Dj i)):DG X (.Name x pos) (fun y δ=>some (δ.set i (.d y))) :=
 ⟨_,h,fun δ y T e G0 H0 G H σ v Q R k=>by cases e;exact k _ _ _ R.Hc⟩
def Et(i j:Nat)(y:KB)(δ:Dv):Option Dv:=match y with
 |.tuple [u,v]=>some ((δ.set i (.d u)).set j (.d v))
 |_=>none
theorem N3{x y:Str}{i j:Nat}{Z Y:Pos}{k1}(h:PG X (.Tuple [.Name x Z,.Name y Y] k1 pos) (Y8 X.K 2 (MB (Dj i) (MB (Dj j) ZG)))):DG X (.Tuple [.Name x Z,.Name y Y] k1 pos) (Et i j):=by
 refine⟨_,h,fun δ z δ' e G0 H0 G H σ v Q R k=>?_⟩;unfold Et at e;split at e
 .cases e;have du:=R.CJ _ M2;rw[Du]at du;obtain⟨a,ys,rfl,n1,n2⟩:=du;obtain⟨U,T,rfl,m1,m2⟩:=n2.Nm;refine⟨a,[U,T],rfl,BI.of (R.ins _ _ n1),rfl,U,[T],rfl,T,[],rfl,rfl,?_⟩;exact k _ _ _ (((R.drop.put m2).put m1).Hc.Hc)
 .cases e
def Ex(set:TD)(U:DF):List PyData->Dv->Option Ou
 |[],δ=>some (.nx δ)
 |x::xs,δ=>match (set x δ).bind U with
  |some (.nx T)=>Ex set U xs T
  |some (.ct T)=>Ex set U xs T
  |some (.bk T)=>some (.nx T)
  |some (.rt v)=>some (.rt v)
  |some (.rn v)=>some (.rn v)
  |none=>none
theorem Dz{set:TD}(hp:PassesOwn EQ X.A X.env X.xe)(hc:oN)(hi:DI X tg e fs)(hg:DG X tg set)(hb:Mf X sts F)(hs:∀x,foldedSetIterable e X.env x=pure x:=by intro _;rfl) :
  DS X (.For tg e sts [] pos) (fun δ=>(fs δ).bind fun xs=>Ex set F xs δ):=by
 obtain⟨wi,pi,ki⟩:=hi;obtain⟨g,pg,kg⟩:=hg;obtain⟨tb,pb,kb⟩:=hb;refine⟨_,Hm hp hc pi pg pb hs,fun δ r h G0 H0 G H σ D R q=>?_⟩;obtain⟨xs,h1,h2⟩:=aC.mp h;refine ki δ xs h1 G0 H0 G H σ [] _ R fun J Ga Ha Ra it=>?_;refine⟨fun i m U H'=>m=xs.length-i/\i<=xs.length/\∃T G',Ex set F (xs.drop i) T=some r/\Rw G0 H0 G' H' U T []/\AK Ga G',⟨xs.length,by simp,Nat.zero_le _,δ,Ga,by simpa using h2,Ra,AK.refl _⟩,?_⟩;rintro i m σ1 H1 ⟨rfl,hi,δ1,G1,f1,R1,s1⟩;have sH:AK Ga H1:=s1.trans R1.ins;by_cases Z:i<xs.length
 .right
  have hx:xs[i]? = some xs[i]:=by simp[Z]
  refine⟨it.go i _ H1 hx sH,fun U H'=>i+1<=xs.length/\∃T G',Ex set F (xs.drop SL) T=some r/\Rw G0 H0 G' H' U T []/\AK Ga G',fun U H' n=>⟨xs.length-SL,by lia,rfl,n⟩,fun x H' y=>?_⟩;obtain⟨G2,e1,e2,e3,e4,e5⟩:=it.F4 i _ H1 x H' hx sH y G1 s1 R1.ins;have R2:=(R1.lift e1 e2 e3 e4).put e5;have s2:=s1.trans e1;rw[List.drop_eq_getElem_cons Z]at f1;unfold Ex at f1;cases hb2:(set xs[i] δ1).bind F with
  |none=>rw[hb2]at f1;cases f1
  |some o=>
   obtain⟨δ2,k1,k2⟩:=aC.mp hb2;rw[hb2]at f1;have R2b:=R2.base;refine kg δ1 _ δ2 k1 G2 H0 G2 H' σ1 x _ R2b fun σ3 G3 H3 R3=>?_;refine kb δ2 o k2 G2 H0 G3 H3 σ3 _ R3 ?_;cases o with
   |nx Y=>exact fun σ4 G4 H4 R4=>⟨Z,Y,G4,f1,R2.drop.Vl R4,s2.trans R4.ext⟩
   |ct Y=>exact fun σ4 G4 H4 R4=>⟨Z,Y,G4,f1,R2.drop.Vl R4,s2.trans R4.ext⟩
   |bk Y=>cases f1;exact fun σ4 G4 H4 R4=>q σ4 G4 H4 (R2.drop.Vl R4)
   |rt v=>cases f1;exact fun w G4 H4 h1 h2 h3 h4 h5=>q w G4 H4 (R2.ext.trans h1) (R2.new.trans h2) h3 h4 h5
   |rn v=>cases f1;exact fun w ys G4 H4 h1 h2=>q w ys G4 H4 (R2.ext.trans h1) (R2.new.trans h2)
 .left
  have e:i=xs.length:=by lia
  subst e;refine⟨it.stop H1 sH,?_⟩;rw[List.drop_length]at f1;unfold Ex at f1;cases f1;exact q _ _ _ R1
end
def tD(f:GM):TE:=fun σ H Q=>∃δ x G0 H0 G ts,f δ=some x/\Rw G0 H0 G H σ δ ts/\∀v g H',Rw G0 H0 g H' σ δ ((x,v)::ts)->Q v H'
def XO(f:NE):TT:=fun σ H Q=>∃δ x G0 H0 G ts,f δ=some x/\Rw G0 H0 G H σ δ ts/\∀g H',Rw G0 H0 g H' σ δ ts->Q x H'
theorem DE.pe{X:Cx}{e:Expr}{f:GM}(h:DE X e f):PE X e (tD f):=by
 obtain⟨t,p,k⟩:=h;intro pins s σ H Q I q;obtain⟨δ,x,G0,H0,G,ts,U,T,g⟩:=q;exact p pins s σ H Q I (k δ x U G0 H0 G H σ ts Q T g)
theorem DT.pt{X:Cx}{e:Expr}{f:NE}(h:DT X e f):PT X e (XO f):=by
 obtain⟨t,p,k⟩:=h;intro pins s σ H Q I q;obtain⟨δ,x,G0,H0,G,ts,U,T,g⟩:=q;exact p pins s σ H Q I (k δ x U G0 H0 G H σ ts Q T g)
def Xn(X:Cx)(g:Ov)(f:NE):Prop:=MC X g (XO f)
theorem HH{X:Cx}:Xn X [] (fun _=>some true):=by
 intro pins s σ H Q I q;obtain⟨δ,x,G0,H0,G,ts,U,T,g⟩:=q;cases U;exact EW pins s σ H Q I (g _ _ T)
theorem ip{X:Cx}{c:Expr}{f:NE}(h:DT X c f):Xn X [c] f:=jJ h.pt
def DD(fr:LE)(δ:Dv):Dv:=fr.map fun o=>match o with
 |some j=>(match δ[j]? with|some (.d x)=>.d x|_=>.no)
 |none=>.no
theorem Rw.inner{G0 H0 G H:Hp}{σ:St}{δ:Dv}{ts:Nl}(fr:LE)(r:Jv):Rw G H G H (carry fr σ) (DD fr δ) ts:=by
 have key:∀(i:Nat) (l:L),(DD fr δ)[i]? = some l->∃o,fr[i]? = some o/\l=(match o with|some j=>(match δ[j]? with|some (.d x)=>.d x|_=>.no)|none=>.no):=fun i l h=>by
  unfold DD at h;rw[List.getElem?_map]at h;obtain⟨o,U,rfl⟩:=aD.mp h;exact⟨o,U,rfl⟩
 have g:∀(i:Nat) (xs:Oc),(DD fr δ)[i]?≠some (L.own xs):=fun i xs h=>by
  obtain⟨o,_,T⟩:=key i _ h;split at T
  .split at T<;>cases T
  .cases T
 refine⟨AK.refl _,Nw.refl,r.ins,AK.refl _,by simp[carry,DD],fun i x h=>?_,fun i xs h=>absurd h (g i xs),fun i j xs ys _ h=>absurd h (g i xs),r.CJ⟩;obtain⟨o,U,T⟩:=key i _ h;split at T
 .rename_i j;split at T
  .rename_i y hy;cases T;obtain⟨v,Z,Y⟩:=r.dat j _ hy;refine⟨v,?_,Y⟩;unfold carry;rw[List.getElem?_map,U];simp[Z]
  .cases T
 .cases T
theorem Rw.other{G0 H0 G H:Hp}{σ:St}{δ:Dv}{ts:Nl}{D:Addr}{o:HO}(r:Jv)(hG:G D=none)(h0:H0 D=none)(Z:∀(i:Nat) (xs:Oc),δ[i]? = some (L.own xs)->σ[i]?≠some (some (V.ref D))):Rw G0 H0 G (upd H D o) σ δ ts:=by
 refine⟨r.ext,r.new,fun a u h=>?_,fun a u h=>?_,r.len,r.dat,fun i xs h=>?_,r.apart,r.CJ⟩
 .rw[AJ (fun z=>by subst z;rw[hG]at h;cases h)];exact r.ins _ _ h
 .rw[AJ (fun z=>by subst z;rw[h0]at h;cases h)];exact r.keep _ _ h
 .obtain⟨a,ys,g,Y,U,T,k5⟩:=r.own i xs h;exact⟨a,ys,g,Y,U,by rw[AJ (fun z=>by subst z;exact Z i xs h g)];exact T,k5⟩
theorem Rw.adopt{G0 H0 G H:Hp}{σ:St}{δ:Dv}{ts:Nl}{D:Addr}{ys:HQ}(r:Jv)(hD:H D=some Mj)(hG:G D=none)(h0:H0 D=none)(ho:∀(i:Nat) (xs:Oc),δ[i]? = some (L.own xs)->σ[i]?≠some (some (V.ref D))):Rw G0 H0 (upd G D Mj) H σ δ ts:=by
 have e:AK G (upd G D Mj):=Ak hG _;refine⟨r.ext.trans e,fun a u h=>?_,fun a u h=>?_,r.keep,r.len,fun i x h=>?_,fun i xs h=>?_,r.apart,fun q hq=>(r.CJ q hq).same e⟩
 .by_cases ha:a=D
  .subst ha;exact .inr (.inl h0)
  .rw[AJ ha]at h;exact r.new _ _ h
 .by_cases ha:a=D
  .subst ha;rw[AR]at h;rw[hD];exact h
  .rw[AJ ha]at h;exact r.ins _ _ h
 .obtain⟨v,g,T⟩:=r.dat i x h;exact⟨v,g,T.same e⟩
 .obtain⟨a,U,g,T,Z,Y,k5⟩:=r.own i xs h;have ha:a≠D:=fun z=>by subst z;exact ho i xs h g
  exact⟨a,U,g,by rw[AJ ha];exact T,Z,Y,k5.same e⟩
def J9(set:TD)(T:NE)(f:GM)(δ:Dv)(x:KB):Option (Option PyData) :=
 (set x δ).bind fun g=>(T g).bind fun b=>if b=true then(f g).map some else some none
def collect(one:PyData->Option (Option PyData)):List PyData->Option ut
 |[]=>some []
 |x::xs=>(one x).bind fun o=>(collect one xs).map fun r=>o.toList++r
def Gb(set:TD)(g:NE)(f:GM)(fr:LE)(fs:Go)(δ:Dv):Option ut :=
 (fs δ).bind fun xs=>(collect (J9 set g f (DD fr δ)) xs).bind JO
def Dq(set:TD)(g:NE)(f:GM)(fr:LE)(fs:Go)(δ:Dv):Option PyData :=
 (Gb set g f fr fs δ).map .list
structure YF(G0 H0 Ga:Hp)(σ:St)(δ:Dv)(ts:Nl)(one:PyData->Option (Option PyData))(xs full:By)(D:Addr)(i:Nat)(ys:HQ)(H:Hp):Prop where
 ex:∃G done rest,Rw G0 H0 G H σ δ ts/\AK Ga G/\G D=none/\collect one (xs.drop i)=some rest/\done++rest=full/\Au G done ys
 h0:H0 D=none
 ap:∀(j:Nat) (us:Oc),δ[j]? = some (L.own us)->σ[j]?≠some (some (V.ref D))
theorem TZ{G0 H0 G H:Hp}{D:Addr}{ys:HQ}(T:G0 D=none)(g:H0 D=some Mj)(n:Nw G0 H0 G)(e:AK G H)(k:AK H0 H):G D=none:=by
 cases q:G D with
 |none=>rfl
 |some o=>
  rcases n _ _ q with z|z|⟨us,z⟩
  .rw[T]at z;cases z
  .rw[g]at z;cases z
  .have:=e _ _ q;rw[k _ _ g,z]at this;cases this
section
variable{X:Cx}{elt iter:Expr}{x y:Str}{px pos:Pos}{ifs:Ov}{scope:Scope}{fs:Go}{tif:NE}{f:GM}
def Ey(i:Nat)(y:KB)(δ:Dv):Option Dv:=some (δ.set i (.d y))
theorem Q7{wi:TI}{ix:Nat}{fr:LE}(ki:ul){δ:Dv}{zs:By}(hz:Gb (Ey ix) tif f fr fs δ=some zs){G0 H0 G H:Hp}{σ:St}{ts:Nl}{Q:VK}(R0:Jv)(k:uk) :
  PF wi fr ix (XO tif) (tD f) σ H Q:=by
 unfold Gb at hz;obtain⟨xs,m2,m3⟩:=aC.mp hz;obtain⟨full,m4,m5⟩:=aC.mp m3;obtain⟨rfl,hfew⟩:=OW m5;refine ki δ xs m2 G0 H0 G H σ ts _ R0 fun J Ga Ha Ra it D hD=>?_;have hGD:Ga D=none:=by
  cases q:Ga D with
  |none=>rfl
  |some u=>rw[Ra.ins _ _ q]at hD;cases hD
 have T:H0 D=none:=by
  cases q:H0 D with
  |none=>rfl
  |some u=>rw[Ra.keep _ _ q]at hD;cases hD
 have g:∀(j:Nat) (us:Oc),δ[j]? = some (L.own us)->σ[j]?≠some (some (V.ref D)):=fun j us h z=>by
  obtain⟨a,ys,k1,k2,k3,k4,k5⟩:=Ra.own j us h;rw[z]at k1;cases k1;rw[k4]at hD;cases hD
 refine Fp (n:=xs.length) (YF G0 H0 Ga σ δ ts (J9 (Ey ix) tif f (DD fr δ)) xs full D) ⟨⟨Ga,[],full,Ra.other hGD T g,AK.refl _,hGD,by simpa using m4,rfl,.nil⟩,T,g⟩ ?_ ?_
 .rintro i ys H1 hlt ⟨⟨G1,done,rest,R1,s1,g1,c1,e1,d1⟩,_,_⟩ hD1;have hx:xs[i]? = some xs[i]:=by simp[hlt]
  have sH:=s1.trans R1.ins;have hyl:ys.length<sizeLine:=Ss (by
   rw[d1.len];have:done.length<=full.length:=by rw[<-e1];simp
   lia)
  refine⟨it.go i _ H1 hx sH,hyl,fun v H' y=>?_⟩;obtain⟨G2,n1,n2,n3,n4,n5⟩:=it.F4 i _ H1 v H' hx sH y G1 s1 R1.ins;have R2:=R1.lift n1 n2 n3 n4;have hD2:=n4 _ _ hD1;have g2:G2 D=none:=TZ g1 hD1 n2 n3 n4;rw[List.drop_eq_getElem_cons hlt]at c1;unfold collect at c1;obtain⟨o,c2,c3⟩:=aC.mp c1;obtain⟨U,c4,rfl⟩:=aD.mp c3;unfold J9 Ey at c2;simp only[Option.bind_some]at c2;obtain⟨b,c5,c6⟩:=aC.mp c2;have Ri:=((R2.inner fr).put n5).Hc (i:=ix);have Ri0:Rw G2 H' G2 H' ((carry fr σ).set ix (some v)) ((DD fr δ).set ix (.d xs[i])) []:=Ri.less fun q hq=>by cases hq
  refine⟨_,b,G2,H',G2,[],c5,Ri0,fun G3 H3 Z=>?_⟩;have R3o:=R2.lift Z.ext Z.new Z.ins Z.keep;have hD3:=Z.keep _ _ hD2;have g3:G3 D=none:=TZ g2 hD2 Z.new Z.ins Z.keep;dsimp only;split
  .rename_i hb;rw[if_pos hb]at c6;obtain⟨w,c7,rfl⟩:=aD.mp c6;refine⟨_,w,G2,H',G3,[],c7,Z,fun u G4 H4 Y=>?_⟩;have R4o:=R2.lift Y.ext Y.new Y.ins Y.keep;have hD4:=Y.keep _ _ hD2;have g4:G4 D=none:=TZ g2 hD2 Y.new Y.ins Y.keep;refine⟨hD4,EB hlt ⟨⟨G4,done++[w],U,R4o.other g4 T g,s1.trans (n1.trans Y.ext),g4,c4,by simpa using e1,(d1.same (n1.trans Y.ext)).app (.cons (Y.CJ _ M2) .nil)⟩,T,g⟩⟩
  .rename_i hb;rw[if_neg hb]at c6;cases c6;exact Xf hlt hD3 ⟨⟨G3,done,U,R3o,s1.trans (n1.trans Z.ext),g3,c4,by simpa using e1,d1.same (n1.trans Z.ext)⟩,T,g⟩
 .rintro ys H1 ⟨⟨G1,done,rest,R1,s1,g1,c1,e1,d1⟩,_,_⟩ hD1;refine⟨it.stop H1 (s1.trans R1.ins),?_⟩;rw[List.drop_length]at c1;cases c1;rw[List.append_nil]at e1;subst e1;exact k _ _ _ _ R1 hD1 g1 T g d1
theorem bw{Z:TI}{ix:Nat}{fr:LE}(ki:uq){δ:Dv}{z:KB}(hz:Dq (Ey ix) tif f fr fs δ=some z){G0 H0 G H:Hp}{σ:St}{ts:Nl}{Q:VK}(R0:Jv)(k:∀v g H',Rw G0 H0 g H' σ δ ((z,v)::ts)->Q v H') :
  PF Z fr ix (XO tif) (tD f) σ H Q:=by
 unfold Dq at hz;obtain⟨full,m1,rfl⟩:=aD.mp hz;refine Q7 ki m1 R0 fun D ys G1 H1 R1 Y g1 U T d1=>?_;have e:AK G1 (upd G1 D Mj):=Ak g1 _;have R2:=R1.adopt Y g1 U T;refine k _ _ _ (R2.put ?_);rw[Du];exact⟨D,ys,rfl,AR,d1.same e⟩
theorem Kt(N:MA)(ix:Nat)(fr:LE)(hi:DI X (.Name x px) iter fs)(g:∀cl C s₀ H₀ fp,Xn Ev ifs tif)(Z:∀cl C s₀ H₀ fp,DE Ev elt f)
 (h1:B0 scope N x ix=true:=by decide +kernel)(h2:X.calm=true:=by rfl)(h3:F0 N X.N scope X.env.scope fr 0=true:=by rfl)(h4:fr.length=N.length:=by rfl)(h5:freeOk X.env.scope scope.names=true:=by rfl)
 (Y:∀x,foldedSetIterable iter X.env x=pure x:=by intro _;rfl):DE X Ix (Dq (Ey ix) tif f fr fs):=by
 obtain⟨wi,pi,T⟩:=hi;exact⟨_,FV N ix fr pi g (fun cl C s₀ H₀ fp=>(Z cl C s₀ H₀ fp).pe) h1 h2 h3 h4 h5 Y,fun δ z U G0 H0 G H σ ts Q R0 k=>bw T U R0 k⟩
end
section
variable{X:Cx}{elt iter:Expr}{x y:Str}{px py tp pos:Pos}{tk:Nat}{ifs:Ov}{scope:Scope}{fs:Go}{tif:NE}{f:GM}
theorem W7{wi:TI}{ix iy:Nat}{fr:LE}(ki:ul){δ:Dv}{zs:By}(hz:Gb (Et ix iy) tif f fr fs δ=some zs){G0 H0 G H:Hp}{σ:St}{ts:Nl}{Q:VK}(R0:Jv)(k:uk) :
  M6 X.K wi fr ix iy (XO tif) (tD f) σ H Q:=by
 unfold Gb at hz;obtain⟨xs,m2,m3⟩:=aC.mp hz;obtain⟨full,m4,m5⟩:=aC.mp m3;obtain⟨rfl,hfew⟩:=OW m5;refine ki δ xs m2 G0 H0 G H σ ts _ R0 fun J Ga Ha Ra it D hD=>?_;have hGD:Ga D=none:=by
  cases q:Ga D with
  |none=>rfl
  |some u=>rw[Ra.ins _ _ q]at hD;cases hD
 have T:H0 D=none:=by
  cases q:H0 D with
  |none=>rfl
  |some u=>rw[Ra.keep _ _ q]at hD;cases hD
 have g:∀(j:Nat) (us:Oc),δ[j]? = some (L.own us)->σ[j]?≠some (some (V.ref D)):=fun j us h z=>by
  obtain⟨a,ys,k1,k2,k3,k4,k5⟩:=Ra.own j us h;rw[z]at k1;cases k1;rw[k4]at hD;cases hD
 refine Qr (n:=xs.length) (YF G0 H0 Ga σ δ ts (J9 (Et ix iy) tif f (DD fr δ)) xs full D) ⟨⟨Ga,[],full,Ra.other hGD T g,AK.refl _,hGD,by simpa using m4,rfl,.nil⟩,T,g⟩ ?_ ?_
 .rintro i ys H1 hlt ⟨⟨G1,done,rest,R1,s1,g1,c1,e1,d1⟩,_,_⟩ hD1;have hx:xs[i]? = some xs[i]:=by simp[hlt]
  have sH:=s1.trans R1.ins;have hyl:ys.length<sizeLine:=Ss (by
   rw[d1.len];have:done.length<=full.length:=by rw[<-e1];simp
   lia)
  refine⟨it.go i _ H1 hx sH,hyl,fun v H' y=>?_⟩;obtain⟨G2,n1,n2,n3,n4,n5⟩:=it.F4 i _ H1 v H' hx sH y G1 s1 R1.ins;have R2:=R1.lift n1 n2 n3 n4;have hD2:=n4 _ _ hD1;have g2:G2 D=none:=TZ g1 hD1 n2 n3 n4;rw[List.drop_eq_getElem_cons hlt]at c1;unfold collect at c1;obtain⟨o,c2,c3⟩:=aC.mp c1;obtain⟨U,c4,rfl⟩:=aD.mp c3;unfold J9 at c2;obtain⟨δ1,c8,c9⟩:=aC.mp c2;obtain⟨b,c5,c6⟩:=aC.mp c9;unfold Et at c8;split at c8
  .rename_i u1 u2 hu;cases c8;rw[hu,Du]at n5;obtain⟨pa,ps,rfl,q1,q2⟩:=n5;obtain⟨w1,w2,rfl,q3,q4⟩:=q2.Nm;have Ri:=(((R2.inner fr).put q4).put q3).Hc (i:=ix) |>.Hc (i:=iy)
   have Ri0:Rw G2 H' G2 H' (((carry fr σ).set ix (some w1)).set iy (some w2)) (((DD fr δ).set ix (.d u1)).set iy (.d u2)) []:=Ri.less fun q hq=>by cases hq
   refine⟨pa,w1,w2,rfl,BI.of (n3 _ _ q1),?_⟩;refine⟨_,b,G2,H',G2,[],c5,Ri0,fun G3 H3 Z=>?_⟩;have R3o:=R2.lift Z.ext Z.new Z.ins Z.keep;have hD3:=Z.keep _ _ hD2;have g3:G3 D=none:=TZ g2 hD2 Z.new Z.ins Z.keep;dsimp only;split
   .rename_i hb;rw[if_pos hb]at c6;obtain⟨w,c7,rfl⟩:=aD.mp c6;refine⟨_,w,G2,H',G3,[],c7,Z,fun u G4 H4 Y=>?_⟩;have R4o:=R2.lift Y.ext Y.new Y.ins Y.keep;have hD4:=Y.keep _ _ hD2;have g4:G4 D=none:=TZ g2 hD2 Y.new Y.ins Y.keep;refine⟨hD4,EB hlt ⟨⟨G4,done++[w],U,R4o.other g4 T g,s1.trans (n1.trans Y.ext),g4,c4,by simpa using e1,(d1.same (n1.trans Y.ext)).app (.cons (Y.CJ _ M2) .nil)⟩,T,g⟩⟩
   .rename_i hb;rw[if_neg hb]at c6;cases c6;exact Xf hlt hD3 ⟨⟨G3,done,U,R3o,s1.trans (n1.trans Z.ext),g3,c4,by simpa using e1,d1.same (n1.trans Z.ext)⟩,T,g⟩
  .cases c8
 .rintro ys H1 ⟨⟨G1,done,rest,R1,s1,g1,c1,e1,d1⟩,_,_⟩ hD1;refine⟨it.stop H1 (s1.trans R1.ins),?_⟩;rw[List.drop_length]at c1;cases c1;rw[List.append_nil]at e1;subst e1;exact k _ _ _ _ R1 hD1 g1 T g d1
theorem R9{Z:TI}{ix iy:Nat}{fr:LE}(ki:uq){δ:Dv}{z:KB}(hz:Dq (Et ix iy) tif f fr fs δ=some z){G0 H0 G H:Hp}{σ:St}{ts:Nl}{Q:VK}(R0:Jv)(k:∀v g H',Rw G0 H0 g H' σ δ ((z,v)::ts)->Q v H') :
  M6 X.K Z fr ix iy (XO tif) (tD f) σ H Q:=by
 unfold Dq at hz;obtain⟨full,m1,rfl⟩:=aD.mp hz;refine W7 ki m1 R0 fun D ys G1 H1 R1 Y g1 U T d1=>?_;have e:AK G1 (upd G1 D Mj):=Ak g1 _;have R2:=R1.adopt Y g1 U T;refine k _ _ _ (R2.put ?_);rw[Du];exact⟨D,ys,rfl,AR,d1.same e⟩
theorem eN(N:MA)(ix g:Nat)(fr:LE)(hi:DI X (.Tuple [.Name x px,.Name y py] tk tp) iter fs)(U:∀cl C s₀ H₀ fp,Xn Ev ifs tif)(he:∀cl C s₀ H₀ fp,DE Ev elt f)
 (h1:B0 scope N x ix=true:=by decide +kernel)(Y:B0 scope N y g=true:=by decide +kernel)(T:ix≠g:=by decide)(h2:X.calm=true:=by rfl)(h3:F0 N X.N scope X.env.scope fr 0=true:=by rfl)(h4:fr.length=N.length:=by rfl)(h5:freeOk X.env.scope scope.names=true:=by rfl)
 (hs:∀x,foldedSetIterable iter X.env x=pure x:=by intro _;rfl):DE X La (Dq (Et ix g) tif f fr fs):=by
 obtain⟨wi,pi,Z⟩:=hi;exact⟨_,OE N ix g fr pi U (fun cl C s₀ H₀ fp=>(he cl C s₀ H₀ fp).pe) h1 Y T h2 h3 h4 h5 hs,fun δ z hz G0 H0 G H σ ts Q R0 k=>R9 Z hz R0 k⟩
theorem Pq{i:Nat}{z:Str}{pz g:Pos}(N:MA)(ix T:Nat)(fr:LE)(hN:X.N.Nodup)(U:X.N[i]? = some z)(hly:X.env.scope.names.lookup z=some .local)(hi:DI X (.Tuple [.Name x px,.Name y py] tk tp) iter fs)(hif:∀cl C s₀ H₀ fp,Xn Ev ifs tif)(he:∀cl C s₀ H₀ fp,DE Ev elt f)
 (h1:B0 scope N x ix=true:=by decide +kernel)(h1':B0 scope N y T=true:=by decide +kernel)(Y:ix≠T:=by decide)(h2:X.calm=true:=by rfl)(h3:F0 N X.N scope X.env.scope fr 0=true:=by rfl)(h4:fr.length=N.length:=by rfl)(h5:freeOk X.env.scope scope.names=true:=by rfl)
 (Z:swapsWith La (some (.Name z pz)) g.line X.env=pure true:=by rfl)
 (hs:∀x,foldedSetIterable iter X.env x=pure x:=by intro _;rfl):DS X (.Assign [.Name z pz] La g) (fun δ=>(Dq (Et ix T) tif f fr fs δ).map fun y=>.nx (δ.set i (.d y))):=by
 obtain⟨wi,pi,ki⟩:=hi;refine⟨_,VJ N ix T fr hN U hly pi hif (fun cl C s₀ H₀ fp=>(he cl C s₀ H₀ fp).pe) h1 h1' Y h2 h3 h4 h5 Z hs,fun δ r h G0 H0 G H σ D R q=>?_⟩;obtain⟨y2,m1,rfl⟩:=aD.mp h;exact R9 ki m1 R fun v G' H' R'=>q _ _ _ R'.Hc
def J5(N:MA)(ds:By):Dv:=ds.map .d++List.replicate (N.length-ds.length) .no
def Dg(ps N:MA)(F:DF)(ds:By):Option PyData:=if ds.length=ps.length then(match F (J5 N ds) with
 |some (.rt x)=>some x
 |some (.nx _)=>some .none
 |some (.rn xs)=>some (.list xs)
 |_=>none) else none
theorem Rw.start{N:MA}{ds:By}{vs:HQ}{G H:Hp}(d:Au G ds vs)(e:AK G H):Rw G H G H (start N vs) (J5 N ds) []:=by
 have Y:=d.len;refine⟨AK.refl _,Nw.refl,e,AK.refl _,by simp[L2.start,J5,Y],fun i x h=>?_,fun i xs h=>?_,fun i j xs ys _ h=>?_,fun q U=>by cases U⟩
 .unfold J5 at h;by_cases hi:i<ds.length
  .rw[List.getElem?_append_left tW,List.getElem?_map]at h;obtain⟨y,T,g⟩:=aD.mp h;cases g;obtain⟨v,h3,Z⟩:=d.get T;refine⟨v,?_,Z⟩;unfold L2.start;rw[List.getElem?_append_left mu,List.getElem?_map,h3];rfl
  .rw[List.getElem?_append_right tW,List.getElem?_replicate]at h;split at h<;>cases h
 .unfold J5 at h;by_cases hi:i<ds.length
  .rw[List.getElem?_append_left tW,List.getElem?_map]at h;obtain⟨y,T,g⟩:=aD.mp h;cases g
  .rw[List.getElem?_append_right tW,List.getElem?_replicate]at h;split at h<;>cases h
 .unfold J5 at h;by_cases hi:i<ds.length
  .rw[List.getElem?_append_left tW,List.getElem?_map]at h;obtain⟨y,T,g⟩:=aD.mp h;cases g
  .rw[List.getElem?_append_right tW,List.getElem?_replicate]at h;split at h<;>cases h
theorem gY{G H g H':Hp}{a:Addr}{ys:HQ}{xs:By}(m1:AK G g)(m2:Nw G H g)(Z:AK g H')(m5:H a=none)(T:g a=none)(Y:H' a=some Mj)(U:Au g xs ys) :
  AK G (upd g a Mj)/\Nw G H (upd g a Mj)/\AK (upd g a Mj) H'/\Du (upd g a Mj) (.list xs) Mt:=by
 refine⟨m1.trans (Ak T _),fun b o hb=>?_,fun b o hb=>?_,?_⟩
 .by_cases z:b=a
  .subst z;exact .inr (.inl m5)
  .rw[AJ z]at hb;exact m2 _ _ hb
 .by_cases z:b=a
  .subst z;rw[AR]at hb;rw[Y];exact hb
  .rw[AJ z]at hb;exact Z _ _ hb
 .rw[Du];exact⟨a,ys,rfl,AR,U.same (Ak T _)⟩
theorem IZ{P:Io}{w:Mw}{K:As}{mg:Fa}{base:Heap}{x:Str}{st:Stmt}{Z:Addr}{fd:IR}{N ps:MA}{k:Nat}{F:DF}(T:Fn K mg x st ps Z fd)(S:Ag N ps (AL st))
 (hb:∀(cdv:Nh) (A:Re) (outer:List Env) (s:IN) (H:Hp) (E:XK),DC k (A.deeper (envOfC x (AL st) s.heap.objs.size Z cdv))->Mf (Cp Ah P w K mg base N x (AL st) Z cdv A outer s H E).JL (EE st) F) :
  AH P w K mg base Ah oF Z fd ps (Bc (Dg ps N F)):=by
 refine T.F.ok S JP fun cdv A outer s H vs Q E hr h=>?_
 .obtain⟨ds,y,G,g,U,_⟩:=h;unfold Dg at g;split at g
  .rename_i hl;rw[U.len];exact hl
  .cases g
 .obtain⟨ds,y,G,g,U,h3,h4⟩:=h;obtain⟨t,p,kk⟩:=hb cdv A outer s H E hr;refine⟨t,p,?_⟩;unfold Dg at g;split at g
  .split at g
   .rename_i z Y;cases g;exact kk _ _ Y G H G H _ _ (Rw.start U h3) fun v G' H' m1 m2 m3 m4 m5=>h4 v G' H' m1 m2 m3 m4 m5
   .rename_i δ Y;cases g;exact kk _ _ Y G H G H _ _ (Rw.start U h3) fun σ' G' H' R=>h4 .Bp G' H' R.ext R.new R.ins R.keep Tk
   .rename_i xs Y;cases g;exact kk _ _ Y G H G H _ _ (Rw.start U h3) fun a ys G' H' m1 m2 m3 m4 m5 m6 m7 m8=>let⟨n1,n2,n3,n4⟩:=gY m1 m2 m3 m5 m6 m7 m8;h4 _ _ H' n1 n2 n3 m4 n4
   .cases g
  .cases g
end
section
variable{X:Cx}{tg a b c e:Expr}{f g h:GM}{fa:NE}{pos p p2:Pos}{sts:tY}{F:DF}
theorem G6{x:Str}{i:Int}{tk:Tok}(hg:Gl X x)(hm:X.mg x=some (.int i tk))(hd:Id=false:=by decide):DE X (.Name x pos) (fun _=>some (.int i)) :=
 ⟨_,EA (v:=.int i) hg hm ⟨tk,rfl⟩ hd,fun δ x h G0 H0 G H σ ts Q r k=>by cases h;exact k _ _ _ (r.put Tk)⟩
theorem oA{set:TD}(he:DE X e f)(hg:DG X tg set)(hs:swapsWithSole [tg] e pos.line X.env=pure false:=by rfl)(hw:swappedStores [tg] e X.env=pure none:=by rfl)
 (h1:(assignEach [tg] X.env).map (·.2)=[assign tg X.env]:=by rfl):DS X (.Assign [tg] e pos) (fun δ=>(f δ).bind fun y=>(set y δ).map .nx):=by
 obtain⟨t,p,k⟩:=he;obtain⟨g,pg,kg⟩:=hg;refine⟨_,VG p pg hs hw h1,fun δ r h G0 H0 G H σ D R q=>?_⟩;obtain⟨y,Z,Y⟩:=aC.mp h;obtain⟨T,U,rfl⟩:=aD.mp Y;exact k δ y Z G0 H0 G H σ [] _ R fun v G' H' R'=>kg δ y T U G0 H0 G' H' σ v _ R' q
def G8(fa:NE)(F:DF):Nat->Dv->Option Ou
 |0,_=>none
 |n+1,δ=>(fa δ).bind fun b=>if b=true then(match F δ with
  |some (.nx T)=>G8 fa F n T
  |some (.ct T)=>G8 fa F n T
  |some (.bk T)=>some (.nx T)
  |some (.rt v)=>some (.rt v)
  |some (.rn v)=>some (.rn v)
  |none=>none) else some (.nx δ)
theorem fF(n:Nat)(hp:PassesOwn EQ X.A X.env X.xe)(hc:DT X c fa)(hb:Mf X sts F):DS X (.While c sts [] pos) (G8 fa F n):=by
 obtain⟨tc,pc,kc⟩:=hc;obtain⟨tb,pb,kb⟩:=hb;refine⟨_,NN hp pc pb,fun δ r h G0 H0 G H σ D R q=>?_⟩;refine⟨fun m Y H'=>∃T G',G8 fa F m T=some r/\Rw G0 H0 G' H' Y T [],⟨n,δ,G,h,R⟩,?_⟩;rintro m σ1 H1 ⟨δ1,G1,f1,R1⟩;cases m with
 |zero=>cases f1
 |succ m=>
  unfold G8 at f1;obtain⟨b,h1,U⟩:=aC.mp f1;refine kc δ1 b h1 G0 H0 G1 H1 σ1 [] _ R1 fun G2 H2 R2=>?_;dsimp only;split
  .rename_i hb;rw[if_pos hb]at U;refine⟨fun Y H'=>∃T G',G8 fa F m T=some r/\Rw G0 H0 G' H' Y T [],fun Y H' z=>⟨m,Nat.lt_succ_self m,z⟩,?_⟩;cases e:F δ1 with
   |none=>rw[e]at U;cases U
   |some o=>
    rw[e]at U;refine kb δ1 o e G0 H0 G2 H2 σ1 _ R2 ?_;cases o with
    |nx Z=>exact fun σ4 G4 H4 R4=>⟨Z,G4,U,R4⟩
    |ct Z=>exact fun σ4 G4 H4 R4=>⟨Z,G4,U,R4⟩
    |bk Z=>cases U;exact q
    |rt v=>cases U;exact q
    |rn v=>cases U;exact q
  .rename_i hb;rw[if_neg hb]at U;cases U;exact q _ _ _ R2
def DO(X:Cx)(o:Option Expr)(f:Dv->Option (Option Int)):Prop:=∃t,PO X o t/\∀δ x,f δ=some x->∀G0 H0 G H σ ts (Q:Option Int->Hp->Prop),Rw G0 H0 G H σ δ ts->(∀T H',Rw G0 H0 T H' σ δ ts->Q x H')->t σ H Q
variable{fo fu:Dv->Option (Option Int)}{lo hi:Option Expr}
theorem IV:DO X none (fun _=>some none):=⟨_,ie,fun δ x h G0 H0 G H σ ts Q r k=>by cases h;exact k _ _ r⟩
theorem IX(Y:DE X e f):DO X (some e) (fun δ=>(f δ).bind fun x=>(XW x).map some):=by
 obtain⟨t,p,k⟩:=Y;refine⟨_,je p,fun δ z h G0 H0 G H σ ts Q r q=>?_⟩;obtain⟨x,h1,h2⟩:=aC.mp h;obtain⟨i,Z,rfl⟩:=aD.mp h2;have:=Zm Z;subst this;refine k δ _ h1 G0 H0 G H σ ts _ r fun v G' H' U=>?_;have T:=U.CJ _ M2;rw[Du]at T;exact⟨i,T,q _ _ U.drop⟩
def cutD(xs:By)(lo hi:Option Int):List PyData:=(xs.drop (HT.Bt xs.length 0 lo)).take t9
theorem Au.cut{H:Hp}{ds:By}{xs:HQ}(h:Au H ds xs)(lo hi:Option Int):Au H (cutD ds lo hi) (N7 xs lo hi):=by
 unfold cutD N7;rw[h.len];exact(h.drop _).take _
def eT(x:KB)(lo hi:Option Int):Option PyData:=match x with
 |.list xs=>some (.list (cutD xs lo hi))
 |.tuple xs=>if ¬(HT.Bt xs.length 0 lo=0/\HT.Bt xs.length xs.length hi=xs.length) then some (.tuple (cutD xs lo hi)) else none
 |_=>none
theorem Gy(he:DE X e f)(hl:DO X lo fo)(hh:DO X hi fu):DE X (.Subscript e (.Slice lo hi none p2) pos) (fun δ=>(f δ).bind fun x=>(fo δ).bind fun l=>(fu δ).bind fun u=>eT x l u):=by
 obtain⟨te,pe,ke⟩:=he;obtain⟨tl,pl,kl⟩:=hl;obtain⟨th,ph,kh⟩:=hh;refine⟨_,eW (i9.or mL) pe pl ph,fun δ z hz G0 H0 G H σ ts Q R0 k=>?_⟩;obtain⟨x,h1,h2⟩:=aC.mp hz;obtain⟨l,h3,h4⟩:=aC.mp h2;obtain⟨u,h5,T⟩:=aC.mp h4;refine ke δ x h1 G0 H0 G H σ ts _ R0 fun v G1 H1 R1=>?_;refine kl δ l h3 G0 H0 G1 H1 σ _ _ R1 fun G2 H2 R2=>?_;refine kh δ u h5 G0 H0 G2 H2 σ _ _ R2 fun G3 H3 U=>?_;have du:=U.CJ _ M2;unfold eT at T;split at T
 .cases T;rw[Du]at du;obtain⟨a,ys,rfl,Z,Y⟩:=du;exact .inl ⟨a,ys,rfl,Aq.of (U.ins _ _ Z),fun q hq=>k _ _ _ (U.drop.Sz (Y.cut l u) hq)⟩
 .split at T
  .rename_i hc;cases T;rw[Du]at du;obtain⟨a,ys,rfl,Z,Y⟩:=du;exact .inr ⟨a,ys,rfl,BI.of (U.ins _ _ Z),by rw[Y.len];exact hc,fun q hq=>k _ _ _ (U.drop.eF (Y.cut l u) hq)⟩
  .cases T
 .cases T
def WO:List PyData->Option (List Int)
 |[]=>some []
 |.int i::r=>(WO r).map fun l=>i::l
 |_::_=>none
theorem Au.ints{H:Hp}:∀ {ds:By} {xs:HQ} {ns:XV},Au H ds xs->WO ds=some ns->xs=ns.map V.int
 |[],xs,ns,h,e=>by cases e;rw[h.nil_eq];rfl
 |.int i::r,xs,ns,h,e=>by
  unfold WO at e;obtain⟨l,Y,rfl⟩:=aD.mp e;obtain⟨x,q,rfl,T,U⟩:=h.un;rw[Du]at T;subst T;rw[List.map_cons,U.ints Y]
 |.none::_,_,_,_,e=>by cases e
 |.bool _::_,_,_,_,e=>by cases e
 |.str _::_,_,_,_,e=>by cases e
 |.tuple _::_,_,_,_,e=>by cases e
 |.list _::_,_,_,_,e=>by cases e
 |.dict _::_,_,_,_,e=>by cases e
def Yj:List PyData->Option PyData
 |[.list xs]=>(WO xs).map fun ns=>.int ns.sum
 |[.tuple xs]=>(WO xs).map fun ns=>.int ns.sum
 |_=>none
theorem Zb(hc:oN):PB X (.builtin "sum") Yj:=by
 refine⟨_,(NB hc).or (bq hc),fun xs z T G0 H0 G H σ δ ts us Q U d k=>?_⟩;unfold Yj at T;split at T
 .obtain⟨ns,h1,rfl⟩:=aD.mp T;obtain⟨u,rfl,du⟩:=d.JS;rw[Du]at du;obtain⟨q,ys,rfl,Z,Y⟩:=du;refine .inl ⟨q,ns,rfl,by rw[<-Y.ints h1];exact Aq.of (U.ins _ _ Z),k _ _ _ (U.put Tk)⟩
 .obtain⟨ns,h1,rfl⟩:=aD.mp T;obtain⟨u,rfl,du⟩:=d.JS;rw[Du]at du;obtain⟨q,ys,rfl,Z,Y⟩:=du;refine .inr ⟨q,ns,rfl,by rw[<-Y.ints h1];exact BI.of (U.ins _ _ Z),k _ _ _ (U.put Tk)⟩
 .cases T
end
open PySem
abbrev fC(x:KB):Dv->Option PyData:=fun _=>some x
abbrev SJ(f:GM):Dv->Option PyData:=fun δ=>(f δ).bind fun x=>(XW x).map fun i=>.int (-i)
abbrev qk(f:GM):Dv->Option PyData:=fun δ=>(f δ).bind fun x=>(Nx x).map fun i=>.bool (!i)
abbrev Wi(f g:GM):Dv->Option PyData:=fun δ=>(f δ).bind fun x=>(Nx x).bind fun c=>if c=true then g δ else some lf
abbrev AF:Dv->Option ut:=fun _=>some []
abbrev AA(f:GM)(fs:Go):Dv->Option ut:=fun δ=>(f δ).bind fun x=>(fs δ).map fun xs=>x::xs
abbrev Az(fs:Go):Dv->Option PyData:=fun δ=>((fs δ).bind JO).map .tuple
abbrev BG(fs:Go):Dv->Option PyData:=fun δ=>((fs δ).bind JO).map .list
abbrev AW(m:AC)(fs:Go):Dv->Option PyData:=fun δ=>(fs δ).bind m
abbrev SN(q:PyData->Bool)(f:GM):Dv->Option PyData:=fun δ=>(f δ).bind (Yi q)
abbrev jn(i:Nat):Dv->Option PyData:=fun δ=>(ow i δ).map fun xs=>.int xs.length
abbrev Gd:Dv->Option (Option Int):=fun _=>some none
abbrev Gf(f:GM):Dv->Option (Option Int):=fun δ=>(f δ).bind fun x=>(XW x).map some
abbrev Iw(f:GM)(T g:Dv->Option (Option Int)):Dv->Option PyData:=fun δ=>(f δ).bind fun x=>(T δ).bind fun l=>(g δ).bind fun u=>eT x l u
abbrev Jf(f:GM):Dv->Option Bool:=fun δ=>(f δ).bind Nx
abbrev B8(o:P5)(f g:GM):Dv->Option Bool:=fun δ=>(AO o f g δ).bind Nx
abbrev K0(f:NE):Dv->Option Bool:=fun δ=>(f δ).map fun c=>!c
abbrev M5(f g:NE):Dv->Option Bool:=fun δ=>(f δ).bind fun c=>if c=true then some true else g δ
abbrev GC(f:GM):Dv->Option ut:=fun δ=>(f δ).bind Ff
abbrev Cy(m:List PyData->Option ut)(fs:Go):Dv->Option ut:=fun δ=>(fs δ).bind m
abbrev GB:Dv->Option Bool:=fun _=>some true
abbrev Es(i:Nat):PyData->Dv->Option Dv:=fun y δ=>some (δ.set i (.d y))
abbrev Ck:DF:=fun δ=>some (.nx δ)
abbrev Bn(f:GM):DF:=fun δ=>(f δ).map .rt
abbrev Fm(c:NE)(F G:DF):DF:=fun δ=>(c δ).bind fun c=>if c=true then F δ else G δ
abbrev Bh(i:Nat)(f:GM):DF:=fun δ=>(f δ).map fun y=>.nx (δ.set i (.d y))
abbrev N4(i:Nat)(fs:Go):DF:=fun δ=>((fs δ).bind JO).map fun ys=>.nx (δ.set i (.own Mj))
abbrev ML(i:Nat)(f:GM):DF:=fun δ=>(f δ).bind fun y=>(ow i δ).bind fun xs=>if xs.length<CG then some (.nx (δ.set i (.own (.lst (xs++[y]))))) else none
abbrev eE(i:Nat)(f:GM):DF:=fun δ=>(f δ).bind fun y=>(ow i δ).bind fun xs=>match y with|.list g=>(if xs.length+g.length<=CG then some (.nx (δ.set i (.own (.lst (xs++g))))) else none)|_=>none
abbrev rq(f:GM)(set:TD):DF:=fun δ=>(f δ).bind fun y=>(set y δ).map .nx
abbrev C4(fs:Go)(set:TD)(F:DF):DF:=fun δ=>(fs δ).bind fun xs=>Ex set F xs δ
abbrev Wa(i:Nat)(F:DF):DF:=fun δ=>F (GN i δ)
abbrev bx:DF:=fun _=>none
theorem Jl{P:Io}{w:Mw}{K:As}{mg:Fa}{base:Heap}{CX:Ho}{k:Nat}{f:Addr}{fd:IR}{ps:MA}{sp:Sp}(h:∀vs H Q E,¬sp vs H Q E):AH P w K mg base CX k f fd ps sp :=
 ⟨fun _ _ _ _ z=>(h _ _ _ _ z).elim,fun _ _ _ _ _ _ _ _ _ _ _ _ _ z=>(h _ _ _ _ z).elim⟩
theorem Kr{P:Io}{w:Mw}{K:As}{mg:Fa}{base:Heap}{CX:Ho}{k:Nat}{f:Addr}{fd:IR}{ps:MA}{sp:Sp}{m:AC}(F:AH P w K mg base CX k f fd ps sp)
 (h:∀ds x,m ds=some x->∀(G H:Hp) (vs:HQ) (Q:VK) (E:XK),Au G ds vs->AK G H->(∀v g H',AK G g->Nw G H g->AK g H'->AK H H'->Du g x v->Q v H')->sp vs H Q E):AH P w K mg base CX k f fd ps (Bc m) :=
 F.imp fun vs H Q E z=>by
  obtain⟨ds,x,G,Z,Y,U,T⟩:=z;exact h ds x Z G H vs Q E Y U T
def BL(G H:Hp):Hp:=fun a=>match H a with
 |some (.tup xs)=>some Op
 |_=>G a
theorem fR{G H:Hp}{a:Addr}{xs:HQ}(h:H a=some Op):BL G H a=some Op:=by unfold BL;rw[h]
section
variable{G0 H0 G H:Hp}{σ:St}{δ:Dv}{ts:Nl}
theorem Rw.BL(r:Jv):Rw G0 H0 (L2.BL G H) H σ δ ts:=by
 have e:AK G (L2.BL G H):=fun a o h=>by
  unfold L2.BL;split
  .rename_i xs g;rw[r.ins _ _ h]at g;exact g.symm ▸ rfl
  .exact h
 refine⟨r.ext.trans e,fun a o h=>?_,fun a o h=>?_,r.keep,r.len,fun i x h=>?_,fun i xs h=>?_,r.apart,fun q hq=>(r.CJ q hq).same e⟩
 .unfold L2.BL at h;split at h
  .cases h;exact .inr (.inr ⟨_,rfl⟩)
  .exact r.new _ _ h
 .unfold L2.BL at h;split at h
  .rename_i xs g;rw[g];exact h
  .exact r.ins _ _ h
 .obtain⟨v,U,T⟩:=r.dat i x h;exact⟨v,U,T.same e⟩
 .obtain⟨a,ys,U,T,Z,Y,k5⟩:=r.own i xs h;refine⟨a,ys,U,?_,Z,Y,k5.same e⟩;unfold L2.BL;rw[Y];split
  .rename_i q;cases q;exact k5.VO.elim
  .exact T
end
theorem LD{G:Hp}:∀ {t:Tr} {xs:HQ},Au G (Bq t) xs->Ts G t xs
 |.nil,xs,h=>by rw[Bq]at h;rw[Ts];exact h.nil_eq
 |.cons b r,xs,h=>by
  rw[Bq]at h;obtain⟨x,q,rfl,g,Y⟩:=h.un;rw[Du]at g;obtain⟨a,ys,rfl,U,T⟩:=g;rw[Ts];exact⟨a,ys,q,rfl,U,LD T,LD Y⟩
theorem RU{G H:Hp}:∀ {t:Tr} {xs:HQ},Ts H t xs->Au (BL G H) (Bq t) xs
 |.nil,xs,h=>by rw[Ts]at h;rw[Bq,h];exact .nil
 |.cons b r,xs,h=>by
  rw[Ts]at h;obtain⟨a,ys,Y,rfl,U,T,g⟩:=h;rw[Bq];refine .cons ?_ (RU g);rw[Du];exact⟨a,ys,rfl,fR U,RU T⟩
mutual
theorem Mo:∀ {ds:By} {t:Tr},Em ds=some t->ds=Bq t
 |[],t,h=>by rw[Em]at h;cases h;rw[Bq]
 |d::ds,t,h=>by
  rw[Em]at h;obtain⟨b,U,T⟩:=aC.mp h;obtain⟨r,g,rfl⟩:=aD.mp T;rw[Bq,<-iP U,<-Mo g]
theorem iP:∀ {d:KB} {t:Tr},HY d=some t->d=.tuple (Bq t)
 |.tuple g,t,h=>by rw[HY]at h;rw[Mo h]
 |.none,_,h=>by simp[HY]at h
 |.bool _,_,h=>by simp[HY]at h
 |.int _,_,h=>by simp[HY]at h
 |.str _,_,h=>by simp[HY]at h
 |.list _,_,h=>by simp[HY]at h
 |.dict _,_,h=>by simp[HY]at h
end
def kE(rev:Bool)(t:Tr):Option PyData:=if t.bs.length<64/\t.deep<=60 then some (.list (Bq (Tr.of (if rev then Tr.C5 t.bs else(Tr.C5 t.bs).reverse)))) else none
def R5(rev:Bool):List PyData->Option PyData
 |[x]=>(Ff x).bind fun g=>(Em g).bind (kE rev)
 |_=>none
section
variable{X:Cx}{a e:Expr}{fs:Go}{pos p:Pos}
theorem jK{rev:Bool}{G0 H0 G H:Hp}{σ:St}{δ:Dv}{ts:Nl}{x z:KB}{u:V}{Q:VK}(Z:Jv)(du:Du G x u)(hz:R5 rev [x]=some z)(k:∀w G' H',Rw G0 H0 G' H' σ δ ((z,w)::ts)->Q w H') :
  ∃(p:Addr) (ys:HQ) (t:Tr),[u]=[.ref p]/\(Aq X.K H p ys\/BI X.K H p ys)/\Ts H t ys/\ys.length<64/\t.deep<=60/\∀(l:Addr) (zs:HQ),H l=none->Ts H (Tr.of (if rev then Tr.C5 t.bs else(Tr.C5 t.bs).reverse)) zs->Q (.ref l) (upd H l (.lst zs)):=by
 unfold R5 at hz;obtain⟨ds,h1,h2⟩:=aC.mp hz;obtain⟨t,h3,g⟩:=aC.mp h2;unfold kE at g;split at g
 .rename_i hc;cases g;have Y:=Mo h3;obtain⟨bb,a,ys,rfl,n1,n2⟩:=Im du h1;rw[Y]at n2;have ht:=(LD n2).same Z.ins;have hl:ys.length=t.bs.length:=by rw[ht.len]
  refine⟨a,ys,t,rfl,?_,ht,by lia,hc.2,fun l zs U T=>?_⟩
  .have:=Z.ins _ _ n1;cases bb
   .exact .inl (Aq.of (by simpa using this))
   .exact .inr (BI.of (by simpa using this))
  .have R1:=Z.BL;exact k _ _ _ (R1.Sz (RU T) U)
 .cases g
theorem fL{e:Expr}{p pos kp g:Pos}{j}(hu:dl)(hg:Gl X "sorted")(hm:X.mg "sorted" = none)(ha:DA X [e] fs)
 (hP:∀ {t:TA},PA X [e] t->PE X (.Call (.Name "sorted" p) [e] [⟨some "reverse",.Constant KM j g,kp⟩] pos) (fun σ H Q=>t σ H fun vs U=>Zu X.K vs U Q)) :
  DE X (.Call (.Name "sorted" p) [e] [⟨some "reverse",.Constant KM j g,kp⟩] pos) (AW (R5 true) fs):=by
 obtain⟨t,p,k⟩:=ha;refine⟨_,hP p,fun δ z Y G0 H0 G H σ ts Q R0 q=>?_⟩;obtain⟨xs,h1,T⟩:=aC.mp Y;refine k δ _ h1 G0 H0 G H σ ts _ R0 fun vs G1 U R1 Z=>?_;obtain⟨d,R2⟩:=R1.args Z;cases xs with
 |nil=>cases T
 |cons x r=>
  cases r with
  |cons y q=>cases T
  |nil=>
   obtain⟨u,rfl,du⟩:=d.JS;exact jK (rev:=true) R2 du T q
end
section
variable{G0 H0 G H:Hp}{σ:St}{δ:Dv}{ts:Nl}
theorem Rw.on{H':Hp}(r:Jv)(e:AK H H'):Rw G0 H0 G H' σ δ ts:=r.lift (AK.refl _) Nw.refl (r.ins.trans e) e
end
section
variable{F F1 F2:DF}{δ δ':Dv}{r:Option Ou}{c:NE}{f g:GM}{fs:Go}
theorem Aa(h:F1 δ=some (.nx δ'))(k:F2 δ'=r):Af F1 F2 δ=r:=by unfold Af;rw[h];exact k
theorem Ku{x:KB}(h:F1 δ=some (.rt x)):Af F1 F2 δ=some (.rt x):=by unfold Af;rw[h]
theorem L4(h:c δ=some true)(k:F1 δ=r):Fm c F1 F2 δ=r:=by show(c δ).bind _=r;rw[h];exact k
theorem Ek(h:c δ=some false)(k:F2 δ=r):Fm c F1 F2 δ=r:=by show(c δ).bind _=r;rw[h];exact k
theorem Bl{i:Nat}{y:KB}(h:f δ=some y):Bh i f δ=some (.nx (δ.set i (.d y))):=by show(f δ).map _=_;rw[h];rfl
theorem F3{y:KB}(h:f δ=some y):Bn f δ=some (.rt y):=by show(f δ).map _=_;rw[h];rfl
theorem BA{o:P5}{x y:KB}{z:Option PyData}(Y:f δ=some x)(U:g δ=some y)(T:o x y=z):AO o f g δ=z:=by unfold AO;rw[Y,U];exact T
theorem Am{m:AC}{xs:By}{z:Option PyData}(U:fs δ=some xs)(T:m xs=z):AW m fs δ=z:=by show(fs δ).bind m=z;rw[U];exact T
theorem AY{x:KB}{xs:By}(U:f δ=some x)(T:fs δ=some xs):AA f fs δ=some (x::xs):=by show(f δ).bind _=_;rw[U];show(fs δ).map _=_;rw[T];rfl
theorem Ig{xs:By}(h:fs δ=some xs)(T:xs.length<=CG):BG fs δ=some (.list xs):=by show((fs δ).bind JO).map _=_;rw[h];show(JO xs).map _=_;unfold JO;rw[if_pos T];rfl
theorem Ks{xs:By}(h:fs δ=some xs)(T:xs.length<=CG):Az fs δ=some (.tuple xs):=by show((fs δ).bind JO).map _=_;rw[h];show(JO xs).map _=_;unfold JO;rw[if_pos T];rfl
theorem Bv{o:P5}{x y:KB}{b:Bool}(Y:f δ=some x)(U:g δ=some y)(T:o x y=some (.bool b)):B8 o f g δ=some b:=by show(AO o f g δ).bind Nx=_;rw[BA Y U T];rfl
theorem Jj{a b:NE}{q:Option Bool}(h:a δ=some false)(k:b δ=q):M5 a b δ=q:=by show(a δ).bind _=q;rw[h];exact k
theorem Jc{a:NE}{b:Bool}(h:a δ=some b):K0 a δ=some (!b):=by show(a δ).map _=_;rw[h];rfl
theorem HP{b:Bool}(h:f δ=some (.bool b)):Jf f δ=some b:=by show(f δ).bind Nx=_;rw[h];rfl
theorem Vo{set:TD}(U:Nat->Dv->Prop):∀(xs:By) (δ:Dv) (n:Nat),U n δ->(∀(i:Nat) (x:KB) (δ:Dv),xs[i]? = some x->U (n+i) δ->∃T δ2,set x δ=some T/\F T=some (.nx δ2)/\U (n+i+1) δ2) ->
  ∃δ',Ex set F xs δ=some (.nx δ')/\U (n+xs.length) δ'
 |[],δ,n,h,_=>⟨δ,rfl,h⟩
 |x::xs,δ,n,h,k=>by
  obtain⟨T,δ2,h1,h2,h3⟩:=k 0 x δ rfl h;obtain⟨δ',h4,h5⟩:=Vo U xs δ2 (n+1) h3 fun i y δ Y Z=>by
   have:=k SL y δ (by simpa using Y) (by rw[show n+SL=n+1+i by lia];exact Z);rw[show n+SL+1=n+1+i+1 by lia]at this;exact this
  refine⟨δ',?_,by rw[List.length_cons,show n+(xs.length+1)=n+1+xs.length by lia];exact h5⟩;unfold Ex;rw[h1,Option.bind_some,h2];exact h4
theorem eD{set:TD}{xs:By}(U:Nat->Dv->Prop)(Y:fs δ=some xs)(h0:U 0 δ)(hs:∀(i:Nat) (x:KB) (δ:Dv),xs[i]? = some x->U i δ->∃T δ2,set x δ=some T/\F T=some (.nx δ2)/\U SL δ2) :
  ∃δ',C4 fs set F δ=some (.nx δ')/\U xs.length δ':=by
 obtain⟨δ',h1,h2⟩:=Vo (F:=F) (set:=set) U xs δ 0 h0 fun i x δ Y Z=>by
  have:=hs i x δ Y (by simpa using Z)
  simpa using this
 refine⟨δ',?_,by simpa using h2⟩;show(fs δ).bind _=_;rw[Y];exact h1
theorem Pl{one:PyData->Option (Option PyData)}{g:PyData->PyData}:∀ {xs:By},(∀x∈xs,one x=some (some (g x)))->collect one xs=some (xs.map g)
 |[],_=>rfl
 |x::xs,h=>by
  unfold collect;rw[h x M2,Option.bind_some,Pl fun y T=>h y (.tail _ T)]
  rfl
theorem comp_map{ix:Nat}{fr:LE}{xs:By}{g:PyData->PyData}(T:fs δ=some xs)(U:xs.length<=CG)(h:∀x∈xs,f ((DD fr δ).set ix (.d x))=some (g x)):Dq (Ey ix) GB f fr fs δ=some (.list (xs.map g)):=by
 unfold Dq Gb;rw[T,Option.bind_some,Pl (g:=g) fun x T=>?_,Option.bind_some,JO,if_pos (by rw[List.length_map];exact U)]
 .rfl
 .unfold J9 Ey;rw[Option.bind_some];show(some true).bind _=_;rw[Option.bind_some,if_pos rfl,h x T]
  rfl
end
theorem E9{ps N:MA}{F:DF}{ds:By}{x:KB}(g:ds.length=ps.length)(h:F (J5 N ds)=some (.rt x)):Dg ps N F ds=some x:=by unfold Dg;rw[if_pos g,h]
theorem SU{lo:Int}{n i:Nat}{x:KB}(h:(Jb lo n)[i]? = some x):x=.int (lo+(i:Nat))/\i<n:=by
 unfold Jb at h;rw[List.getElem?_map]at h;obtain⟨j,g,rfl⟩:=aD.mp h;have T:=(aE.mp g).1;rw[List.getElem?_range (by simpa using T)]at g;cases g;exact⟨rfl,by simpa using T⟩
theorem lW{δ:Dv}{f:GM}{j:Int}(h:f δ=some (.int j))(h0:-1000000<=j)(g:j<=1000000):Cy IK (AA f AF) δ=some (Jb 0 j.toNat):=by
 show(AA f AF δ).bind IK=_;rw[AY h (show AF δ=some [] from rfl)];exact if_pos ⟨h0,g⟩
theorem ZV{n:Nat}{i:Int}(h:i.natAbs<2^n):KJ n i=true:=decide_eq_true h
theorem cE{i j:Int}(h:O1 i j=true):FX (.int i) (.int j)=some (.int (i*j)):=by
 show Mq Yg YW (.int i) (.int j)=_;unfold Mq;rw[show Yg (.int i) (.int j)=some (.int (i*j)) from if_pos h]
theorem mul_r{i j:Int}(h:j.natAbs<2^64):FX (.int i) (.int j)=some (.int (i*j)):=cE (by unfold O1;rw[ZV h];simp)
theorem qD{i j:Int}(h:i.natAbs<2^64):FX (.int i) (.int j)=some (.int (i*j)):=cE (by unfold O1;rw[ZV h];simp)
theorem mod_is{i j:Int}(h:0<j):ID (.int i) (.int j)=some (.int (i % j)):=by
 show(if j≠0 then some (PyData.int (i.fmod j)) else none)=_;rw[if_pos AS,Int.fmod_eq_emod_of_nonneg _ AS]
theorem bz{i:Int}{n:Nat}(hn:n<=1000)(hi:KJ 64 i=true):OX (.int i) (.int (n:Int))=some (.int (i^n)):=by
 show(if 0<=(n:Int)/\(n:Int)<=1000/\KJ 64 i=true then some (PyData.int (i^(n:Int).toNat)) else none)=_;rw[if_pos ⟨by lia,by lia,hi⟩,Int.toNat_natCast]
def GZ(C:Addr):PyData:=.dict [(.int (C:Nat),.none)]
def D7(ns:XV):PyData:=.dict [(.none,.list (ns.map .int))]
theorem nR{H:Hp}{a:Addr}{ns:XV}(h:Rd H a (.lst oR)):Du H (D7 ns) Mt:=by unfold D7;rw[Du];exact .inr (.inl ⟨a,ns,rfl,rfl,h⟩)
def Uh(K:As):Bool:=K.all fun p=>match p.2.cls with|.type n=>n != "list" |_=>true
theorem P8{a:Addr}{o:Obj}:∀ {K:As},K.lookup a=some o->(a,o)∈K
 |[],h=>by cases h
 |(b,u)::K,h=>by
  rw[List.lookup_cons]at h;split at h
  .rename_i e;cases h;rw[show a=b from by simpa using e];exact .head _
  .exact .tail _ (P8 h)
theorem oD{K:As}{H:Hp}{a:Addr}{xs:HQ}(g:Uh K=true)(h:Aq K H a xs):Rd H a Os:=by
 rcases h with h|⟨o,T,n,Y,U,_⟩
 .exact h
 .unfold Uh at g;rw[List.all_eq_true]at g;have:=g _ (P8 Y);rw[U]at this;exact absurd this BY
abbrev Xr:=PyData ⊕ Addr
def Ep(g:Do):Sp:=fun vs H Q E=>∃U r G,g U=some r/\Au G U vs/\AK G H/\match r with
 |.inl x=>∀v T H',AK G T->Nw G H T->AK T H'->AK H H'->Du T x v->Q v H'
 |.inr C=>∀H',AK H H'->E Pi none H'
abbrev gQ:=Ou ⊕ Addr
abbrev HW:=Dv->Option gQ
def nH(G0 H0:Hp)(D:Ends)(E:XK):gQ->Prop
 |.inl o=>Fin G0 H0 D o
 |.inr C=>∀H',AK H0 H'->E Pi none H'
def DX(X:Cx)(E:XK)(st:Stmt)(F:HW):Prop:=∃t,PS X st t/\∀δ r,F δ=some r->∀G0 H0 G H σ D,Rw G0 H0 G H σ δ []->nH G0 H0 D E r->t D σ H
def Td(X:Cx)(E:XK)(g:tY)(F:HW):Prop:=∃t,Ie X g t/\∀δ r,F δ=some r->∀G0 H0 G H σ D,Rw G0 H0 G H σ δ []->nH G0 H0 D E r->t D σ H
section
variable{X:Cx}{E:XK}{b c e:Expr}{es:Ov}{f h:GM}{fs:Go}{fa:NE}{pos p:Pos}{st:Stmt}{sts sts':tY}{F:DF}{J J1 J2:HW}
theorem fE{t:TS}(h:Ie X.JL sts t):Ie X sts t:=fun pins s σ H D I k=>aX (h pins s σ H D (I.He _) k) (fun _ _ z=>z.EZ) fun _ _ z=>z.elim
theorem lJ{t:TE}(h:PE X.JL e t):PE X e t:=fun pins s σ H Q I k=>aX (h pins s σ H Q (I.He _) k) (fun _ _ ⟨v,H',g,r,q⟩=>⟨v,H',g.EZ,r,q⟩) fun _ _ z=>z.elim
theorem lR{t:TT}(h:PT X.JL e t):PT X e t:=fun pins s σ H Q I k=>aX (h pins s σ H Q (I.He _) k) (fun _ _ ⟨H',g,q⟩=>⟨H',g.EZ,q⟩) fun _ _ z=>z.elim
theorem Za{t:TA}(h:PA X.JL es t):PA X es t:=fun p pins s σ H Q I k=>aX (h p pins s σ H Q (I.He _) k) (fun _ _ ⟨v,H',g,r,q⟩=>⟨v,H',g.EZ,r,q⟩) fun _ _ z=>z.elim
abbrev X5(F:DF):HW:=fun δ=>(F δ).map .inl
theorem Rz(h:Mf X.JL sts F):Td X E sts (X5 F):=by
 obtain⟨t,p,k⟩:=h;refine⟨t,fE p,fun δ r h G0 H0 G H σ D R q=>?_⟩;obtain⟨o,g,rfl⟩:=aD.mp h;exact k δ o g G0 H0 G H σ D R q
def Iu(J1 J2:HW)(δ:Dv):Option gQ:=match J1 δ with
 |some (.inl (.nx g))=>J2 g
 |o=>o
theorem Sh:Td X E [] (fun δ=>some (.inl (.nx δ))):=⟨_,Cw,fun δ r h G0 H0 G H σ D R k=>by cases h;exact k _ _ _ R⟩
theorem Kv(h:DX X E st J):Td X E [st] J:=by
 obtain⟨t,p,k⟩:=h;exact⟨t,Ai p,k⟩
theorem Gz(h1:DX X E st J1)(h2:Td X E sts J2):Td X E (st::sts) (Iu J1 J2):=by
 obtain⟨t1,Z,T⟩:=h1;obtain⟨t2,Y,k2⟩:=h2;refine⟨_,AZ Z Y,fun δ r h G0 H0 G H σ D R q=>?_⟩;unfold Iu at h;split at h
 .rename_i g e1;exact T δ _ e1 G0 H0 G H σ _ R fun U G' H' R'=>k2 g r h G0 H0 G' H' U D R' q
 .rename_i o hn;cases r with
  |inr C=>exact T δ _ h G0 H0 G H σ _ R q
  |inl o'=>
   cases o' with
   |nx g=>exact absurd h (hn g)
   |rt x=>exact T δ _ h G0 H0 G H σ _ R q
   |bk x=>exact T δ _ h G0 H0 G H σ _ R q
   |ct x=>exact T δ _ h G0 H0 G H σ _ R q
   |rn x=>exact T δ _ h G0 H0 G H σ _ R q
abbrev XM(c:NE)(J1 J2:HW):HW:=fun δ=>(c δ).bind fun b=>if b=true then J1 δ else J2 δ
theorem Ys(hc:DT X.JL c fa)(h1:Td X E sts J1)(h2:Td X E sts' J2):DX X E (.If c sts sts' pos) (XM fa J1 J2):=by
 obtain⟨tc,pc,kc⟩:=hc;obtain⟨t1,p1,k1⟩:=h1;obtain⟨t2,Z,k2⟩:=h2;refine⟨_,FL (lR pc) p1 Z,fun δ r h G0 H0 G H σ D R q=>?_⟩;obtain⟨b,h3,g⟩:=aC.mp h;refine kc δ _ h3 G0 H0 G H σ [] _ R fun Y U T=>?_;split
 .rename_i hb;rw[if_pos hb]at g;exact k1 δ r g G0 H0 Y U σ D T q
 .rename_i hb;rw[if_neg hb]at g;exact k2 δ r g G0 H0 Y U σ D T q
abbrev R7(C:Addr)(f:GM):HW:=fun δ=>(f δ).map fun _=>.inr C
theorem Qf{x:Str}{C:Addr}{np U:Pos}(T:Exc X.K X.mg x C)(hL:Lets X E)(Z:DE X.JL e f)(g:X.calm=true:=by rfl)(hg:Gl X x:=by rfl)(hd:Id=false:=by decide)
 (Y:starEach [e] X.env=[MR]:=by rfl):DX X E (.Raise (some (.Call tj [e] [] U)) none pos) (R7 C f):=by
 obtain⟨t,p,k⟩:=Z;refine⟨_,eC T hL g hg (lJ p) hd Y,fun δ r h G0 H0 G H σ D R q=>?_⟩;obtain⟨y,h1,rfl⟩:=aD.mp h;exact k δ y h1 G0 H0 G H σ [] _ R fun v G' H' R'=>q _ R'.keep
theorem V2{k:Nat}{m:Do}{T:TA}(ka:∀δ xs,fs δ=some xs->∀G0 H0 G H σ ts (Q:List V->Hp->Prop),Rw G0 H0 G H σ δ ts->(∀vs g H',Rw G0 H0 g H' σ δ (xs.zip vs++ts)->vs.length=xs.length->Q vs H')->T σ H Q)
 {δ:Dv}{r:Xr}(hz:(fs δ).bind m=some r){G0 H0 G H:Hp}{σ:St}{Q:VK}{Y:XK}(R:Rw G0 H0 G H σ δ [])(q1:∀x,r=.inl x->∀v g H',Rw G0 H0 g H' σ δ [(x,v)]->Q v H')(Z:∀C,r=.inr C->∀g H',Rw G0 H0 g H' σ δ []->Y Pi none H') :
  T σ H fun vs U=>Ep m (vs++[]) U Q Y:=by
 obtain⟨xs,h1,h2⟩:=aC.mp hz;refine ka δ _ h1 G0 H0 G H σ [] _ R fun vs G1 U R1 hv=>?_;obtain⟨d,R2⟩:=R1.args hv;refine⟨xs,r,G1,h2,by rw[List.append_nil];exact d,R2.ins,?_⟩;cases r with
 |inl x=>exact fun v g H' h3 h4 h5 h6 h7=>q1 x rfl _ _ _ ((R2.lift h3 h4 h5 h6).put h7)
 |inr C=>exact fun H' h=>Z C rfl _ _ (R2.on h)
section
variable{k:Nat}{fA:Addr}{fd:IR}{ps:MA}{m:Do}{x:Str}{st':Stmt}
abbrev Hw(m:Do)(fs:Go)(nx:PyData->Dv->Ou):HW:=fun δ=>((fs δ).bind m).map fun r=>match r with
 |.inl x=>.inl (nx x δ)
 |.inr C=>.inr C
theorem Ja(T:Fn X.K X.mg x st' ps fA fd)(F:AH X.prog X.w X.K X.mg X.base (CK X.prog X.w) k fA fd ps (Ep m))(hr:DC k X.A)(hP:Passes (CK X.prog X.w) X E)(ha:DA X.JL ur fs)
 {g:Pos}(Z:∀ {t:TE},PE X Iv t->PS X (.Expr Iv g) (Ut t))
 (hg:Gl X x:=by rfl)(Y:Id=false:=by decide)(he:starEach ur X.env=MR::starEach es X.env:=by rfl)(U:(backTo pos SE).any cx=false:=by rfl) :
  DX X E (.Expr Iv g) (Hw m fs fun _ δ=>.nx δ):=by
 obtain⟨ta,pa,ka⟩:=ha;refine⟨_,Z (a9 T F hr hg hP (Za pa) Y he U),fun δ r h G0 H0 G H σ D R q=>?_⟩;obtain⟨z,h1,rfl⟩:=aD.mp h;refine V2 (k:=k) ka h1 R (fun x hx v G' H' R'=>?_) (fun C hC G' H' R'=>?_)
 .subst hx;exact q _ _ _ R'.drop
 .subst hC;exact q _ R'.keep
theorem ng{i:Nat}{y:Str}{U g:Pos}(T:Fn X.K X.mg x st' ps fA fd)(F:AH X.prog X.w X.K X.mg X.base (CK X.prog X.w) k fA fd ps (Ep m))(hr:DC k X.A)(hP:Passes (CK X.prog X.w) X E)(ha:DA X.JL ur fs)
 (hN:X.N.Nodup)(Y:Loc X.env.scope y)(hi:X.N[i]? = some y:=by rfl)(hg:Gl X x:=by rfl)
 (hdb:Id=false:=by decide)(he:starEach ur X.env=MR::starEach es X.env:=by rfl)(Z:(backTo pos SE).any cx=false:=by rfl)
 (hs:swapsWith Iv (some (.Name y U)) g.line X.env=pure false:=by rfl)(hf:X.fn y=true\/X.env.scope.names.lookup y=some .local:=by first|exact .inl rfl|exact .inr rfl|assumption) :
  DX X E (.Assign [.Name y U] Iv g) (Hw m fs fun z δ=>.nx (δ.set i (.d z))):=by
 obtain⟨ta,pa,ka⟩:=ha;refine⟨_,BB hN hi Y (a9 T F hr hg hP (Za pa) hdb he Z) hs hf,fun δ r h G0 H0 G H σ D R q=>?_⟩;obtain⟨z,h1,rfl⟩:=aD.mp h;refine V2 (k:=k) ka h1 R (fun x Y v G' H' R'=>?_) (fun C hC G' H' R'=>?_)
 .subst Y;exact q _ _ _ R'.Hc
 .subst hC;exact q _ R'.keep
end
end
theorem Rw.pk{G0 H0 G H:Hp}{σ:St}{δ:Dv}{ts:Nl}(k:Nat)(o:Option V)(r:Jv):Rw G0 H0 G H (σ.set k o) (δ.set k .no) ts:=by
 have ne:∀(j:Nat) (l:L),l≠.no->(δ.set k .no)[j]? = some l->k≠j/\δ[j]? = some l:=fun j l hl h=>by
  by_cases Y:k=j
  .subst Y;by_cases hi:k<δ.length
   .rw[List.getElem?_set_self hi]at h;cases h;exact absurd rfl hl
   .rw[List.getElem?_eq_none mu]at h;cases h
  .rw[List.getElem?_set_ne Y]at h;exact⟨Y,h⟩
 refine⟨r.ext,r.new,r.ins,r.keep,by simp[r.len],fun j y h=>?_,fun j zs h=>?_,fun j l us ws U h1 Z=>?_,r.CJ⟩
 .obtain⟨n,h⟩:=ne j _ Ch h;obtain⟨w,T,g⟩:=r.dat j y h;exact⟨w,by rw[List.getElem?_set_ne n];exact T,g⟩
 .obtain⟨n,h⟩:=ne j _ Ch h;obtain⟨b,us,T,g⟩:=r.own j zs h;exact⟨b,us,by rw[List.getElem?_set_ne n];exact T,g⟩
 .obtain⟨n1,h1⟩:=ne j _ Ch h1;obtain⟨n2,Z⟩:=ne l _ Ch Z;rw[List.getElem?_set_ne n1,List.getElem?_set_ne n2];exact r.apart j l us ws U h1 Z
section
variable{X:Cx}{a b:Expr}{f:GM}{pos:Pos}
def dS(T:Hb):PyData->Option PyData
 |.dict [(.int C,.none)]=>(T C.toNat).map .bool
 |_=>none
abbrev IM(T:Hb)(f:GM):Dv->Option PyData:=fun δ=>(f δ).bind (dS T)
theorem Fu{T:Hb}{cv:V}{xT:Str}{p1 g:Pos}(hk:∀C b,T C=some b->D0 X.K C/\PySem.W.kitOne X.K Pi (Dy cv)=some b)(hn:Dy cv≠.none)(hg:Gl X "isinstance")(hm:X.mg "isinstance" = none)(hT:PE X (.Name xT g) (tC cv))(ha:DE X a f)
 (U:starEach [a,.Name xT g] X.env=SZ::starEach [.Name xT g] X.env:=by rfl)(Z:(backTo pos (starEach [.Name xT g] X.env)).any cx=false:=by rfl) :
  DE X (.Call (.Name "isinstance" p1) [a,.Name xT g] [] pos) (IM T f):=by
 obtain⟨ta,pa,ka⟩:=ha;refine⟨_,BR Zz hg hm ay (AG pa (AG hT AU) U) BY BY U Z,fun δ z hz G0 H0 G H σ ts Q R0 k=>?_⟩;obtain⟨x,h1,Y⟩:=aC.mp hz;unfold dS at Y;split at Y
 .rename_i C;obtain⟨bb,h3,rfl⟩:=aD.mp Y;refine ka δ _ h1 G0 H0 G H σ ts _ R0 fun u G1 H1 R1=>?_;have du:=R1.CJ _ M2;rw[Du]at du;rcases du with ⟨ea,C',e1,rfl,h4⟩|⟨_,_,e1,_⟩|z
  rotate_left
  .simp at e1
  .rw[MU]at z;cases z.1
  have:C=(C':Nat):=by simpa using e1
  subst this;obtain⟨k1,k2⟩:=hk _ _ h3;rw[Int.toNat_natCast]at k1 k2;exact⟨ea,C',cv,bb,rfl,hn,R1.ins _ _ h4,k1,k2,k _ _ _ (R1.drop.put Tk)⟩
 .cases Y
end
def Hh(ps N:MA)(J:HW)(ds:By):Option Xr:=if ds.length=ps.length then(match J (J5 N ds) with
 |some (.inl (.rt x))=>some (.inl x)
 |some (.inl (.nx _))=>some (.inl .none)
 |some (.inl (.rn xs))=>some (.inl (.list xs))
 |some (.inr C)=>some (.inr C)
 |_=>none) else none
section
variable{P:Io}{w:Mw}{K:As}{mg:Fa}{base:Heap}{x:Str}{st:Stmt}{fA:Addr}{fd:IR}{N ps:MA}{k:Nat}
theorem Yp{qual:Str}{scope:Scope}{U:Nh}{A:Re}{outer:List Env}{s:IN}{H:Hp}{E:XK} :
  Lets (Cp ce P w K mg base N qual scope fA U A outer s H E) E:=fun _ _ _ _ _ _ _ _ I g T=>i5 I g T
theorem Lm{qual:Str}{scope:Scope}{g:Nh}{A:Re}{outer:List Env}{s:IN}{H:Hp}{E:XK}:Passes ce (Cp ce P w K mg base N qual scope fA g A outer s H E) E:=o8 fun _ _ _ z=>z
theorem WH{J:HW}(T:Fn K mg x st ps fA fd)(S:Ag N ps (AL st))
 (hb:∀(cdv:Nh) (A:Re) (outer:List Env) (s:IN) (H:Hp) (E:XK),DC k (A.deeper (envOfC x (AL st) s.heap.objs.size fA cdv))->Td (Cp ce P w K mg base N x (AL st) fA cdv A outer s H E) E (EE st) J) :
  AH P w K mg base ce oF fA fd ps (Ep (Hh ps N J)):=by
 refine T.F.tK S JP fun cdv A outer s H vs Q E hr h=>?_
 .obtain⟨ds,y,G,g,Y,_⟩:=h;unfold Hh at g;split at g
  .rename_i hl;rw[Y.len];exact hl
  .cases g
 .obtain⟨ds,y,G,g,Y,h3,h4⟩:=h;obtain⟨t,p,Z⟩:=hb cdv A outer s H E hr;refine⟨t,p,?_⟩;unfold Hh at g;split at g
  .split at g
   .rename_i z U;cases g;exact Z _ _ U G H G H _ _ (Rw.start Y h3) fun v G' H' m1 m2 m3 m4 m5=>h4 v G' H' m1 m2 m3 m4 m5
   .rename_i δ U;cases g;exact Z _ _ U G H G H _ _ (Rw.start Y h3) fun σ' G' H' R=>h4 .Bp G' H' R.ext R.new R.ins R.keep Tk
   .rename_i xs U;cases g;exact Z _ _ U G H G H _ _ (Rw.start Y h3) fun a ys G' H' m1 m2 m3 m4 m5 m6 m7 m8=>let⟨n1,n2,n3,n4⟩:=gY m1 m2 m3 m5 m6 m7 m8;h4 _ _ H' n1 n2 n3 m4 n4
   .rename_i C U;cases g;exact Z _ _ U G H G H _ _ (Rw.start Y h3) h4
   .cases g
  .cases g
theorem AH.sd{sp g:Sp}(F:AH P w K mg base ce k fA fd ps sp)(h:∀vs H Q E,g vs H Q E->sp vs H Q fun _ _ _=>False):AH P w K mg base Ah k fA fd ps g :=
 ⟨fun vs H Q E z=>F.len _ _ _ _ (h _ _ _ _ z),fun A outer s H args us vs Q E Y Z hb T U=>codeAny_mono (F.run A outer s H args us vs Q _ Y Z hb T (h _ _ _ _ U)) fun r s' z=>by
  cases r with
  |ok fl=>cases fl<;>exact z
  |error e=>obtain⟨_,_,_,_,_,_,_,z⟩:=z;exact z.elim⟩
def good(m:Do)(ds:By):Option PyData:=match m ds with
 |some (.inl x)=>some x
 |_=>none
theorem Uu{m:Do}(F:AH P w K mg base ce k fA fd ps (Ep m)):AH P w K mg base Ah k fA fd ps (Bc (good m)):=F.sd fun vs H Q E z=>by
 obtain⟨Z,x,G,g,Y,U,T⟩:=z;unfold good at g;split at g
 .rename_i y e;cases g;exact⟨Z,.inl x,G,e,Y,U,T⟩
 .cases g
end
abbrev ZR(fs:Go):DF:=fun δ=>(fs δ).map .rn
abbrev RV(i:Nat):DF:=fun δ=>(ow i δ).map .rn
section
variable{X:Cx}{a:Expr}{h:GM}{pos:Pos}
theorem O5{i:Nat}{x:Str}{np:Pos}(Z:PE X tj (QA i)):DS X (.Return (some tj) pos) (RV i):=by
 refine⟨_,BV Z,fun δ r h G0 H0 G H σ D R q=>?_⟩;obtain⟨xs,h1,rfl⟩:=aD.mp h;obtain⟨a,_,Y,U,T,g,⟨ys,rfl,k5⟩⟩:=R.own i _ (Ur h1);exact⟨.ref a,Y,q a ys G H R.ext R.new R.ins R.keep T U g k5⟩
end
section
variable{X:Cx}{elt iter:Expr}{x:Str}{px pos spos:Pos}{ifs:Ov}{scope:Scope}{fs:Go}{tif:NE}{f:GM}
theorem jP(N:MA)(ix:Nat)(fr:LE)(hi:DI X (.Name x px) iter fs)(T:∀cl C s₀ H₀ fp,Xn Ev ifs tif)(he:∀cl C s₀ H₀ fp,DE Ev elt f)
 (h1:B0 scope N x ix=true:=by decide +kernel)(h2:X.calm=true:=by rfl)(h3:F0 N X.N scope X.env.scope fr 0=true:=by rfl)(h4:fr.length=N.length:=by rfl)(h5:freeOk X.env.scope scope.names=true:=by rfl)
 (hs:∀x,foldedSetIterable iter X.env x=pure x:=by intro _;rfl):DS X (.Return (some Ix) spos) (ZR (Gb (Ey ix) tif f fr fs)):=by
 obtain⟨wi,pi,ki⟩:=hi;refine⟨_,BV (FV N ix fr pi T (fun cl C s₀ H₀ fp=>(he cl C s₀ H₀ fp).pe) h1 h2 h3 h4 h5 hs),fun δ r h G0 H0 G H σ D R q=>?_⟩;obtain⟨zs,m1,rfl⟩:=aD.mp h;exact Q7 ki m1 R fun D' ys G' H' g n1 Z Y n4 U=>q _ _ _ _ g.ext g.new g.ins g.keep Y Z n1 U
end
section
variable{N ps:MA} 
theorem S5{F:DF}{ds xs:By}(g:ds.length=ps.length)(h:F (J5 N ds)=some (.rn xs)):Dg ps N F ds=some (.list xs):=by unfold Dg;rw[if_pos g,h]
theorem My{J:HW}{ds:By}{y:KB}(g:ds.length=ps.length)(h:J (J5 N ds)=some (.inl (.rt y))):Hh ps N J ds=some (.inl y):=by unfold Hh;rw[if_pos g,h]
theorem SK{J:HW}{ds:By}{δ:Dv}(g:ds.length=ps.length)(h:J (J5 N ds)=some (.inl (.nx δ))):Hh ps N J ds=some (.inl .none):=by unfold Hh;rw[if_pos g,h]
theorem Mh{J:HW}{ds:By}{C:Addr}(g:ds.length=ps.length)(h:J (J5 N ds)=some (.inr C)):Hh ps N J ds=some (.inr C):=by unfold Hh;rw[if_pos g,h]
end
section
variable{J1 J2:HW}{δ δ':Dv}{r:Option gQ}{c:NE}{fs:Go}{m:Do}{ds:By}   
theorem GV(h:J1 δ=some (.inl (.nx δ')))(k:J2 δ'=r):Iu J1 J2 δ=r:=by unfold Iu;rw[h];exact k
theorem Sr{C:Addr}(h:J1 δ=some (.inr C)):Iu J1 J2 δ=some (.inr C):=by unfold Iu;rw[h]
theorem fw(h:c δ=some true)(k:J1 δ=r):XM c J1 J2 δ=r:=by show(c δ).bind _=r;rw[h];exact k
theorem Yl(h:c δ=some false)(k:J2 δ=r):XM c J1 J2 δ=r:=by show(c δ).bind _=r;rw[h];exact k
theorem FW{nx:PyData->Dv->Ou}{y:KB}(h:fs δ=some ds)(k:m ds=some (.inl y)):Hw m fs nx δ=some (.inl (nx y δ)):=by show((fs δ).bind m).map _=_;rw[h];show(m ds).map _=_;rw[k];rfl
theorem Qo{nx:PyData->Dv->Ou}{C:Addr}(h:fs δ=some ds)(k:m ds=some (.inr C)):Hw m fs nx δ=some (.inr C):=by show((fs δ).bind m).map _=_;rw[h];show(m ds).map _=_;rw[k];rfl
theorem O6{y:KB}(q:m ds=some (.inl y)):good m ds=some y:=by unfold good;rw[q]
end
def only(cs:al)(m:Do)(ds:By):Option Xr:=match m ds with
 |some (.inr C)=>if C∈cs then some (.inr C) else none
 |r=>r
theorem Xq{cs:al}{m:Do}{ds:By}{C:Addr}(h:only cs m ds=some (.inr C)):C∈cs:=by
 unfold only at h;split at h
 .split at h
  .rename_i g;cases h;exact g
  .cases h
 .rename_i n;exact absurd h (n C)
theorem Ow{cs:al}{m:Do}{ds:By}{C:Addr}(h:m ds=some (.inr C))(g:C∈cs):only cs m ds=some (.inr C):=by unfold only;rw[h];exact if_pos g
theorem YC{cs:al}{m:Do}{ds:By}{x:KB}(h:m ds=some (.inl x)):only cs m ds=some (.inl x):=by unfold only;rw[h]
theorem Wh{P:Io}{w:Mw}{K:As}{mg:Fa}{base:Heap}{CX:Ho}{k:Nat}{f:Addr}{fd:IR}{ps:MA}{m:Do}(cs:al)(F:AH P w K mg base CX k f fd ps (Ep m)):AH P w K mg base CX k f fd ps (Ep (only cs m)) :=
 F.imp fun vs H Q E z=>by
  obtain⟨U,r,G,g,T⟩:=z;refine⟨U,r,G,?_,T⟩;unfold only at g;split at g
  .rename_i C e;split at g
   .cases g;exact e
   .cases g
  .exact g
section
theorem add_l{a b:By}(h:a.length+b.length<=CG):A6 (.list a) (.list b)=some (.list (a++b)):=by
 show Mq dc (Mq ME (Mq Oy Vn)) (.list a) (.list b)=_;have:ME (.list a) (.list b)=some (.list (a++b)):=if_pos h;unfold Mq;show(match ME (.list a) (.list b) with|some z=>some z|none=>_)=_;rw[this]
end
section
variable{F F1 F2:DF}{δ δ':Dv}{fs:Go}{xs:By}{set:TD}{r:Option Ou}
theorem ZE{Q:Dv->Prop}(h:F1 δ=some (.nx δ'))(k:∃δ2,F2 δ'=some (.nx δ2)/\Q δ2):∃δ2,Af F1 F2 δ=some (.nx δ2)/\Q δ2:=let⟨δ2,a,b⟩:=k;⟨δ2,Aa h a,b⟩
theorem cu(U:Nat->Dv->Prop)(Y:fs δ=some xs)(h0:U 0 δ)(Z:∀(i:Nat) (x:KB) (δ:Dv),xs[i]? = some x->U i δ->∃T,set x δ=some T/\∃δ2,F T=some (.nx δ2)/\U SL δ2) :
  ∃δ',C4 fs set F δ=some (.nx δ')/\U xs.length δ':=eD U Y h0 fun i x δ a b=>let⟨T,c,δ2,e,g⟩:=Z i x δ a b;⟨T,δ2,c,e,g⟩
theorem QE(T:Nat->Dv->Prop)(U:fs δ=some xs)(h0:T 0 δ)(Y:∀(i:Nat) (x:KB) (δ:Dv),xs[i]? = some x->T i δ->∃g,set x δ=some g/\∃δ2,F g=some (.nx δ2)/\T SL δ2)
 (k:∀δ',T xs.length δ'->F2 δ'=r):Af (C4 fs set F) F2 δ=r:=by
 obtain⟨δ',h1,Z⟩:=cu T U h0 Y;exact Aa h1 (k δ' Z)
theorem Sv{Q:Dv->Prop}(T:Nat->Dv->Prop)(U:fs δ=some xs)(h0:T 0 δ)(Y:∀(i:Nat) (x:KB) (δ:Dv),xs[i]? = some x->T i δ->∃g,set x δ=some g/\∃δ2,F g=some (.nx δ2)/\T SL δ2)(Z:∀δ,T xs.length δ->Q δ) :
  ∃δ',C4 fs set F δ=some (.nx δ')/\Q δ':=let⟨δ',a,b⟩:=cu T U h0 Y;⟨δ',a,Z _ b⟩
theorem jS{f:GM}{x:KB}(h:f δ=some x)(k:Ff x=some xs):GC f δ=some xs:=by show(f δ).bind Ff=_;rw[h];exact k
end
end L2
set_option maxHeartbeats 2000000
namespace L2
open PySem PySem.Spec PyProof.Rows
inductive U1(X:Cx)(C ea:Addr)(k:Nat):List ExceptHandler->TS->Prop
 |hit {x n:Str} {G:Addr} {np hpos:Pos} {b0:Stmt} {suite:tY} {rest:List ExceptHandler} {t:TS} (hg:Gl X x) (hm:X.mg x=some (.ref G)) (hd:Id=false) (hB:HD X.K C G true) (hk:X.N[k]? = some n) (hln:X.env.scope.names.lookup n=some .local) (hb:Ie (X.held ea) (b0::suite) t) :
   U1 X C ea k (.ExceptHandler (some tj) (some n) (b0::suite) hpos::rest) t
 |miss {x n:Str} {G:Addr} {np hpos:Pos} {b0:Stmt} {suite:tY} {rest:List ExceptHandler} {t:TS} (hg:Gl X x) (hm:X.mg x=some (.ref G)) (hd:Id=false) (hB:HD X.K C G false) (r:U1 X C ea k rest t) :
   U1 X C ea k (.ExceptHandler (some tj) (some n) (b0::suite) hpos::rest) t
def Yo(D:Ends)(k:Nat):Ends:={ nx:=fun g T=>D.nx (g.set k none) T,rt:=fun _ _=>False}
section
variable{X:Cx}{pins:Da}{σ:St}{D:Ends}
theorem eL{H0 H':Hp}{s0 s1:IN}{ea C:Addr}{a0:Nh}{B:Heap}{k:Nat}{h5:Heap}(hN:X.N.Nodup)(hcalm:oN)(I:Inv X pins σ H0 s0)(F:Ym X.prog X.w X.stack H0 s0 ea Pi a0 H' s1 B){g:List Env}(hrest:X.stack=X.env::g)(hfr:X.env.frame=some X.env.locals)
 (fl5:Heap.FlyingW B (X.env::g) ea Pi a0 h5)(Y:s1.heap.UpToSlots h5)(I5:Inv X pins σ H' {s1 with heap:=h5,toks:=s1.toks}) :
  ∀ {hs:List ExceptHandler} {t:TS},U1 X C ea k hs t->(H' ea=none->t (Yo D k) (σ.set k (some (.ref ea))) (upd H' ea (NC ea Pi)))->wpAny EQ X.A (handleBy (.ref ea) X.env hs) (SP X pins D) X.xe {s1 with heap:=h5,toks:=s1.toks}:=by
 obtain⟨ob,Z,T⟩:=fl5.there;intro hs t Av q
 induction Av with
 |miss hg hm hd hB r ih=>
  refine wpAny_handleBy_cons (codeAny_handlers_test (Kq (I5.held ea) hg hm ?_ hd)) (by intro q;cases q);exact V8 (K:=X.K) I5.HU Z T hB (ih q)
 | @hit x n G np hpos b0 suite rest t hg hm hd hB hk hln hb=>
  refine wpAny_handleBy_cons (codeAny_handlers_test (Kq (I5.held ea) hg hm ?_ hd)) (by intro q;cases q);refine V8 (K:=X.K) I5.HU Z T hB (codeAny_handlers_suite_as ?_);refine lands_againW fl5 fun h6 fl6 up6=>?_;have I6:Inv X pins σ H' {s1 with heap:=h6,toks:=s1.toks}:=land I F fl6.1 (Y.trans up6);obtain⟨oe,ws,e1,e2,e3,_⟩:=fl6.first
  obtain⟨U,I7⟩:=oy I F I6 ⟨oe,ws,e1,e2,e3⟩;refine K5 (X:=X.held ea) (I7.held ea) hN hk (.inl hln) (v:=.ref ea) rfl (fun s8 I8=>?_) (.inr hln);refine aX (hb pins s8 _ _ (Yo D k) I8 (q U)) (fun fl s9 h9=>?_) fun _ _ z=>z.elim;cases fl with
  |next=>
   obtain⟨σ9,H9,I9,e9⟩:=h9;exact rj (I9.oB I.ok) hN hk hln fun s' I'=>⟨_,_,I',e9⟩
  |brk=>obtain⟨_,_,_,z⟩:=h9;exact z.elim
  |cont=>obtain⟨_,_,_,z⟩:=h9;exact z.elim
  |ret v=>obtain⟨_,_,_,_,_,z⟩:=h9;exact z.elim
end
def oH(k:Nat):Ou->Option Ou
 |.nx δ=>some (.nx (δ.set k .no))
 |_=>none
end L2
set_option maxHeartbeats 1000000
set_option maxHeartbeats 4000000
namespace L2
open PySem PySem.Spec PyProof.Rows
def GT(H:Hp)(v:Nh)(x:Tr):Prop:=∃a ys,v=.ref a/\H a=some (.tup ys)/\Ts H x ys
def YM(S:Addr)(ev:ST)(ep:Nat)(t:SetTable):HO:=.ext fun h=>∃o,h.get? S=some o/\o.ExactSet/\o.data=.set ev ep t
abbrev kF(H:Hp)(p:Int×Value)(q:Int×Tr):Prop:=p.1=q.1/\q.2.deep<8/\GT H p.2 q.2
def fY(H:Hp)(S:Addr)(st:TH.ES×SetTable):Prop:=∃ev ep,H S=some (YM S ev ep st.2)/\PySem.Paired (kF H) ev.toList st.1.toList
theorem GT.same{H H':Hp}{v:Nh}{x:Tr}(h:GT H v x)(e:AK H H'):GT H' v x:=let⟨a,ys,U,T,g⟩:=h;⟨a,ys,U,e _ _ T,g.same e⟩
structure gP(w:Mw)(st:TH.ES×SetTable):Prop where
 fit:st.2.fits st.1.size=true
 plain:st.2.plain=true
 led:st.2.led=!w.params.followText "set-order"
 walk:TH.OH st.2 st.1.size=true
 small:st.1.size<64
section
variable{X:Cx}{pins:Da}{σ:St}{H:Hp}{s:IN}
theorem Zl(I:Db){v:Nh}{x:Tr}(g:GT H v x):∃a T,v=.ref a/\s.heap.IsTuple a T.toArray/\TH.Vs s.heap x T:=by
 obtain⟨a,ys,rfl,Y,U⟩:=g;obtain⟨T,r,p,_⟩:=I.tuple (BI.of (K:=X.K) Y);exact⟨a,T,rfl,p,U.vs I r⟩
theorem WN(I:Db):∀ {t:Tr} {ys:HQ} {us:FS},Ts H t ys->Vals ys us->t.deep<=8->TH.Kp (GT H) s.heap us t.bs
 |.nil,ys,us,h,r,_=>by
  rw[Ts]at h;subst h;cases r;exact .nil
 |.cons b q,ys,us,h,r,hd=>by
  rw[Ts]at h;obtain⟨a,T,rest,rfl,h1,h2,Z⟩:=h;rw[Tr.deep]at hd;cases r with
  |cons Y U=>
   cases Y;have g:GT H Mt b:=⟨a,T,rfl,h1,h2⟩;exact .cons ⟨by lia,g,Zl I g⟩ (WN I Z U AS)
theorem ec(I:Db){l:List (Int×Value)}{m:List (Int×Tr)}(h:PySem.Paired (kF H) l m):PySem.Paired (TH.QM (GT H) s.heap) l m :=
 TH.Paired.imp (fun _ _ ⟨a,b,c⟩=>⟨a,b,c,Zl I c⟩) h
theorem oE:∀ {us:FS} {ts:iF},PySem.Paired (GT H) us ts->∃zs,Vals zs us/\Ts H (Tr.of ts) zs
 |_,_,.nil=>⟨[],.nil,by rw[Tr.of,Ts]⟩
 |_,_,.cons ⟨a,ys,e,Y,U⟩ r=>by
  obtain⟨zs,T,g⟩:=oE r;subst e;exact⟨.ref a::zs,.cons rfl T,by rw[Tr.of,Ts];exact⟨a,ys,zs,rfl,Y,U,g⟩⟩
def pU(w:Mw)(K:As):List V->Hp->VK->Prop:=fun xs H Q=>∃p ys t st,xs=[.ref p]/\Aq K H p ys/\Ts H t ys/\t.deep<=8/\TH.Ob (TH.MX (!w.params.followText "set-order")) t.bs=some st /\
 ∀S H',AK H H'->fY H' S st->Q (.ref S) H'
theorem b9(hc:oN)(hu:dl):FO X (.type "set") (pU X.w X.K):=by
 intro pins s σ H xs us Q I r h;obtain⟨p,ys,t,st,rfl,hq,ht,hd,g,q⟩:=h;obtain⟨u,rfl,Y⟩:=r.one;cases Y;obtain⟨its,U,pl,hz⟩:=I.list hq;refine TH.Wx (G:=GT H) ad pl.isList (WN I ht U hd) AS g fun h2 tk S2 k2=>?_;obtain⟨o,ev,ep,T,g2,g3,g4⟩:=S2;have hf:=I.Av.fresh (aI s.heap.objs.size);have es:=Ak hf (YM s.heap.objs.size ev ep st.2);refine⟨.ref s.heap.objs.size,upd H s.heap.objs.size (YM s.heap.objs.size ev ep st.2),I.laid (t':=tk) k2 em ?_,rfl,q _ _ es ⟨ev,ep,AR,TH.Paired.imp (fun _ _ ⟨a,b,c,_⟩=>⟨a,b,c.same es⟩) g4⟩⟩;exact⟨⟨o,T,g2,g3⟩,⟨o,T⟩,fun h1 h2 ⟨o,q1,Z⟩ k=>⟨o,k _ q1,Z⟩⟩
theorem gw(I:Db){S:Addr}{st:TH.ES×SetTable}(h:fY H S st)(ok:gP X.w st):∃o ev ep,s.heap.get? S=some o/\TH.GQ X.w o ev ep st.2/\TH.EJ (GT H) s.heap ev st.1:=by
 obtain⟨ev,ep,U,T⟩:=h;obtain⟨⟨o,g1,Z,Y⟩,_,_⟩:=(show Ci X.prog X.w H s.heap S (YM S ev ep st.2) from I.Av S _ U);have R:=ec I T;have g:ev.size=st.1.size:=TH.EJ.size R;exact⟨o,ev,ep,g1,⟨Z,Y,by rw[g];exact ok.fit,ok.plain,ok.led,by rw[g];exact ok.walk⟩,R⟩
def l9(w:Mw):List V->Hp->VK->Prop:=fun xs H Q=>∃S st,xs=[.ref S]/\fY H S st/\gP w st/\∀(l:Addr) (g:HQ),H l=none->g.length<64->Ts H (Tr.of (Tr.C5 (TH.RA st)).reverse) g->Q (.ref l) (upd H l (.lst g))
theorem Yz(hc:oN)(hu:dl):FO X (.builtin "sorted") (l9 X.w):=by
 intro pins s σ H xs us Q I r h;obtain⟨S,st,rfl,hS,ok,q⟩:=h;obtain⟨u,rfl,g⟩:=r.one;cases g;obtain⟨o,ev,ep,g1,W,R⟩:=gw I hS ok;refine TH.Yd ad W g1 R ok.small AS fun h' D tk e1 us Y k1 gD hp hl=>?_;obtain⟨T,g,Z⟩:=oE hp;have U:T.length<64:=by rw[g.length];exact hl
 refine⟨.ref D,upd H D (.lst T),I.laid (t':=tk) k1 Y ⟨bD (aH U PP),us,e1,g,gD⟩,rfl,q D T (I.Av.fresh Y) U Z⟩
end
open PySem PyProof.Rows
end L2
set_option maxHeartbeats 1000000
namespace L2
open PySem PySem.Spec PyProof.Rows
def RH(led:Bool)(l z:iF):Bool:=match TH.Ob (TH.MX led) l with
 |some st=>decide ((Tr.C5 (TH.RA st)).reverse=z)&&st.2.fits st.1.size&&st.2.plain&&decide (st.2.led=led)&&TH.OH st.2 st.1.size&&decide (st.1.size<64)
 |none=>false
theorem eG{led:Bool}{l z:iF}(h:RH led l z=true):∃st,TH.Ob (TH.MX led) l=some st/\(Tr.C5 (TH.RA st)).reverse=z/\st.2.fits st.1.size=true/\st.2.plain=true/\st.2.led=led/\TH.OH st.2 st.1.size=true/\st.1.size<64:=by
 unfold RH at h;split at h
 .rename_i st e;simp only[Bool.and_eq_true,decide_eq_true_eq]at h;obtain⟨⟨⟨⟨⟨h1,Z⟩,Y⟩,U⟩,T⟩,g⟩:=h;exact⟨st,e,h1,Z,Y,U,T,g⟩
 .cases h
def ZQ(l:iF):List Tr:=match TH.Ob (TH.MX true) l with
 |some st=>(Tr.C5 (TH.RA st)).reverse
 |none=>[]
def Hc(t:Tr):Option PyData:=if t.deep<=8/\RH true t.bs (ZQ t.bs)=true/\RH false t.bs (ZQ t.bs)=true then some (.list (Bq (Tr.of (ZQ t.bs)))) else none
def Qa:PyData->Option PyData
 |.list g=>(Em g).bind Hc
 |_=>none
section
variable{X:Cx}{e:Expr}{f:GM}{pos p p2 pos2:Pos}
theorem Ye(hc:oN)(hu:dl)(hg:Gl X "sorted")(hm:X.mg "sorted" = none)(hg2:Gl X "set")(hm2:X.mg "set" = none)(ha:DE X e f)
 (Y:starEach [e] X.env=MR::starEach [] X.env:=by rfl)(U:starEach [.Call (.Name "set" p2) [e] [] pos2] X.env=(false,eval (.Call (.Name "set" p2) [e] [] pos2) X.env)::starEach [] X.env:=by rfl)
 (hq1:(backTo pos2 (starEach [] X.env)).any cx=false:=by rfl)(hq2:(backTo pos (starEach [] X.env)).any cx=false:=by rfl) :
  DE X (.Call (.Name "sorted" p) [.Call (.Name "set" p2) [e] [] pos2] [] pos) (fun δ=>(f δ).bind Qa):=by
 obtain⟨ta,pa,ka⟩:=ha;refine⟨_,BR (Yz hc hu) hg hm PyProof.Rows.boot_sorted (AG (UM (b9 hc hu) hg2 hm2 PyProof.Rows.boot_set (AG pa AU Y) BY BY Y hq1) AU U) BY BY U hq2,fun δ z hz G0 H0 G H σ ts Q R0 k=>?_⟩;obtain⟨y,h1,h2⟩:=aC.mp hz;refine ka δ y h1 G0 H0 G H σ ts _ R0 fun u G1 H1 R1=>?_;unfold Qa at h2;split at h2
 .rename_i ds;obtain⟨t,h3,h4⟩:=aC.mp h2;unfold Hc at h4;split at h4
  .rename_i hh;cases h4;have hds:=Mo h3;have du:=R1.CJ (_,u) M2;obtain⟨bb,a,ys,rfl,g,n2⟩:=Im du (show Ff (.list ds)=some ds from rfl);have n1':H1 a=some Mj:=by
    have:=R1.ins _ _ g;cases bb
    .simpa using this
    .exact absurd g (by
      have Z:=du;intro g;rw[Du]at Z;obtain⟨a',ys',e1,e2,_⟩:=Z;cases e1;rw[e2]at g;cases g)
   rw[hds]at n2;have ht:=(LD n2).same R1.ins;have both:∀led,RH led t.bs (ZQ t.bs)=true:=fun led=>by cases led;exact hh.2.2;exact hh.2.1
   obtain⟨st,r1,r2,r3,r4,r5,r6,r7⟩:=eG (both (!X.w.params.followText "set-order"));refine⟨a,ys,t,st,rfl,Aq.of n1',ht,hh.1,r1,fun S H' e1 hS=>⟨S,st,rfl,hS,⟨r3,r4,r5,r6,r7⟩,fun l zs hl hz T=>?_⟩⟩;rw[r2]at T;have R2:=(R1.drop.on e1).BL;exact k _ _ _ (R2.Sz (RU T) hl)
  .cases h4
 .cases h2
end
end L2
set_option maxHeartbeats 4000000
namespace ZT
open PySem PyProof.Rows
abbrev FT(h:Heap)(T:Addr)(a b c:Nh):Prop:=h.get? T=some { cls:=.type "tuple",data:=.seq #[a,b,c]}
section
variable{prog:Io}{w:Mw}{A:Re}{E:AT}{s:IN}{z TI TO i1 i2 i3:Addr}{f1 f2 f3:al}{n1 n2 n3 k:Nat}{P1 P2 P3:Nat->Value->Prop}{S1 S2 S3:Nat->Heap->Prop}{a b c:Nh}
theorem put3{T:Addr}{x:Nh}{k:Nat}{Q:Unit->Shared->Prop}(g:FT s.heap T a b c)
 (h:∀h',h'.get? T=some { cls:=.type "tuple",data:=.seq ((#[a,b,c]:Array Value).setIfInBounds k x)}->Heap.SameBut T s.heap h'->Q () Pz):wpAny At A (updateSeq T (·.setIfInBounds k x)) Q E s:=by
 refine wpAny_updateSeq g rfl (h _ ?_ (ah ..));rw[Heap.get?_update_self _ g rfl];simp[Obj.mapSeq]
structure OS(z TI TO i1 i2 i3:Addr)(f1 f2 f3:al):Prop where
 a1:TO≠z/\TO≠i1/\TO≠i2/\TO≠i3
 a2:i1≠z/\i2≠z/\i3≠z
 b1:z ∉ f1/\TO ∉ f1/\i2 ∉ f1/\i3 ∉ f1
 b2:z ∉ f2/\TO ∉ f2/\i1 ∉ f2/\i3 ∉ f2
 b3:z ∉ f3/\TO ∉ f3/\i1 ∉ f3/\i2 ∉ f3
theorem pC{Q:AT}(D1:uR)(D2:uS)(D3:Draws prog w A i3 f3 n3 P3 S3)(ap:OS z TI TO i1 i2 i3 f1 f2 f3)(hz:kS)(hI:FT s.heap TI (.ref i1) (.ref i2) (.ref i3))(hO:FT s.heap TO a b c)
 (t1:S1 k s.heap)(t2:S2 k s.heap)(t3:S3 k s.heap)(l1:k<n1)(l2:k<n2)(l3:k<n3)
 (q:∀x y u h' tk,P1 k x->P2 k y->P3 k u->IsZip h' z TI TO (rawInt s.heap.objs.size)->FT h' TO x y u->S1 oF h'->S2 oF h'->S3 oF h'->FT h' s.heap.objs.size x y u->h'.objs.size=s.heap.objs.size+1 ->
   (∀c o,c≠z->c≠TO->c≠i1->c≠i2->c≠i3->s.heap.get? c=some o->h'.get? c=some o)->Q GE KT) :
  wpAny At A cr (fun fin s'=>∃v,fin=.done (.ret v)/\Q v s') E s:=by
 obtain⟨⟨c5,c6,c7,c7'⟩,⟨c8,c9,c9'⟩,⟨d1,d2,d3,d3'⟩,⟨d4,d5,d6,d6'⟩,e4,e5,e6,e6'⟩:=ap;show wpAny _ _ (field SC 2>>=_) _ _ _;refine aA (aW hz rfl (x:=.bool false) rfl ?_);show wpAny _ _ (field SC 3>>=_) _ _ _;refine aA uI;show wpAny _ _ uc _ _ _;unfold Builtin.SmallTypes.ownedTupleIsFree;refine aA (aA (aW hz rfl (x:=.none) rfl ge));simp only[if_true];refine aA (bR (aA (aW hz rfl (x:=.ref TO) rfl (aA (aj hz Ch fun g1 z1 m1=>aA ?_)))));have m1:Heap.SameBut z s.heap g1:=m1;have z1:IsZip g1 z TI TO .ellipsis:=z1;simp only[List.zipIdx_cons,List.zipIdx_nil,List.forIn_cons,List.forIn_nil];refine aA (aA (bQ ?_));show wpAny _ _ im _ _ _;refine aA (D1.item k _ _ _ l1 (D1.frame _ _ _ t1 (An d1 m1)) fun x g2 tk2 p1 u1 Z=>aB ?_);have Z:Heap.SameBut i1 g1 g2:=Z;have o2:FT g2 TO a b c:=(Z.2 _ c6).trans ((m1.2 _ c5).trans hO);refine aA (aV o2 rfl (aA (put3 o2 fun g3 o3 Y=>aA (wpAny_letGo ge))));have o3:FT g3 TO x b c:=o3;have Y:Heap.SameBut TO g2 g3:=Y;refine aA (aA (bQ ?_));show wpAny _ _ WF _ _ _;have t2':S2 k g3:=D2.frame _ _ _ (D2.frame _ _ _ (D2.frame _ _ _ t2 (An d4 m1)) (An d6 Z)) (An d5 Y);refine aA (D2.item k _ _ _ l2 t2' fun y g4 tk4 p2 u2 m4=>aB ?_);have m4:Heap.SameBut i2 g3 g4:=m4;have o4:FT g4 TO x b c:=(m4.2 _ c7).trans o3;refine aA (aV o4 rfl (aA (put3 o4 fun g5 o5 m5=>aA (wpAny_letGo ge))));have m5:Heap.SameBut TO g4 g5:=m5;have o5:FT g5 TO x y c:=o5;refine aA (aA (bQ ?_));show wpAny _ _ (Builtin.SmallTypes.nextOf (.ref i3)>>=_) _ _ _;have t3':S3 k g5:=D3.frame _ _ _ (D3.frame _ _ _ (D3.frame _ _ _ (D3.frame _ _ _ (D3.frame _ _ _ t3 (An e4 m1)) (An e6 Z)) (An e5 Y)) (An e6' m4)) (An e5 m5);refine aA (D3.item k _ _ _ l3 t3' fun u g6 tk6 p3 u3 U=>aB ?_);have U:Heap.SameBut i3 g5 g6:=U;have o6:FT g6 TO x y c:=(U.2 _ c7').trans o5;refine aA (aV o6 rfl (aA (put3 o6 fun g o7 T=>aA (wpAny_letGo (aB ge)))));have T:Heap.SameBut TO g6 g:=T;have o7:FT g TO x y u:=o7;refine aA (aV o7 rfl (aA (wpAny_newTuple ?_)));have sz:g.objs.size=s.heap.objs.size:=by rw[T.1,U.1,m5.1,m4.1,Y.1,Z.1,m1.1]
 have z7:IsZip g z TI TO .ellipsis:=(T.2 _ c5.symm).trans ((U.2 _ c9'.symm).trans ((m5.2 _ c5.symm).trans ((m4.2 _ c9.symm).trans ((Y.2 _ c5.symm).trans ((Z.2 _ c8.symm).trans z1)))));have kp:∀c o,c≠z->c≠TO->c≠i1->c≠i2->c≠i3->s.heap.get? c=some o->g.get? c=some o:=fun c o e1 e2 e3 e4 e5 e=>(T.2 _ e2).trans ((U.2 _ e5).trans ((m5.2 _ e2).trans ((m4.2 _ e4).trans ((Y.2 _ e2).trans ((Z.2 _ e3).trans ((m1.2 _ e1).trans e))))));have v1:S1 oF g:=D1.frame _ _ _ (D1.frame _ _ _ (D1.frame _ _ _ (D1.frame _ _ _ (D1.frame _ _ _ u1 (An d2 Y)) (An d3 m4)) (An d2 m5)) (An d3' U)) (An d2 T);have v2:S2 oF g:=D2.frame _ _ _ (D2.frame _ _ _ (D2.frame _ _ _ u2 (An d5 m5)) (An d6' U)) (An d5 T);have v3:S3 oF g:=D3.frame _ _ _ u3 (An e5 T);show wpAny _ _ (Builtin.SmallTypes.ownedTupleHandOut SC (.ref g.objs.size)>>=_) _ _ _;unfold Builtin.SmallTypes.ownedTupleHandOut;have z8:IsZip (g.push { cls:=.type "tuple",data:=.seq #[x,y,u]}) z TI TO .ellipsis:=aF _ z7;refine aA (aA (aj z8 Ch fun g8 w8 m8=>aj (show IsZip g8 z TI TO (rawInt g.objs.size) from w8) Ch fun g9 w9 m9=>?_));have w9:IsZip g9 z TI TO (rawInt g.objs.size):=w9;have up:∀c o,c≠z->(g.push { cls:=.type "tuple",data:=.seq #[x,y,u]}).get? c=some o->g9.get? c=some o:=fun c o e1 e=>(m9.2 _ e1).trans ((m8.2 _ e1).trans e);have zl:z<g.objs.size:=aG z7;refine aB ⟨_,rfl,?_⟩;show Q (.ref g.objs.size) _;have fin:=q x y u g9 tk6 p1 p2 p3 (by rw[<-sz];exact w9) (up _ _ c5 (aF _ o7)) (D1.frame _ _ _ v1 fun c hc o e=>up c o (fun y=>d1 (y ▸ hc)) (aF _ e)) (D2.frame _ _ _ v2 fun c hc o e=>up c o (fun y=>d4 (y ▸ hc)) (aF _ e)) (D3.frame _ _ _ v3 fun c hc o e=>up c o (fun y=>e4 (y ▸ hc)) (aF _ e))
  (by rw[<-sz];exact up _ _ (aq zl) (aL _ rfl)) (by rw[<-sz,m9.1,m8.1,Heap.size_push]) fun c o e1 e2 e3 e4 e5 e=>up c o e1 (aF _ (kp c o e1 e2 e3 e4 e5 e))
 rw[sz];exact fin
theorem mC{Q:Fin->Shared->Prop}(D1:uR)(D2:uS)(D3:Draws prog w A i3 f3 n3 P3 S3)(ap:OS z TI TO i1 i2 i3 f1 f2 f3)(hz:kS)(hI:FT s.heap TI (.ref i1) (.ref i2) (.ref i3))(hO:FT s.heap TO a b c)
 (t1:S1 k s.heap)(t2:S2 k s.heap)(t3:S3 k s.heap)(he:k=n1\/(k<n1/\k=n2)\/(k<n1/\k<n2/\k=n3))
 (q:∀h' e tk,(∀c o,c≠z->c≠TO->c≠i1->c≠i2->c≠i3->s.heap.get? c=some o->h'.get? c=some o)->(∃o,h'.get? e=some o/\o.cls=.type "StopIteration")->E (.ref e) KT) :
  wpAny At A cr Q E s:=by
 obtain⟨⟨c5,c6,c7,c7'⟩,⟨c8,c9,c9'⟩,⟨d1,d2,d3,d3'⟩,⟨d4,d5,d6,d6'⟩,e4,e5,e6,e6'⟩:=ap;show wpAny _ _ (field SC 2>>=_) _ _ _;refine aA (aW hz rfl (x:=.bool false) rfl ?_);show wpAny _ _ (field SC 3>>=_) _ _ _;refine aA uI;show wpAny _ _ uc _ _ _;unfold Builtin.SmallTypes.ownedTupleIsFree;refine aA (aA (aW hz rfl (x:=.none) rfl ge));simp only[if_true];refine aA (bR (aA (aW hz rfl (x:=.ref TO) rfl (aA (aj hz Ch fun g1 z1 Y=>aA ?_)))));have Y:Heap.SameBut z s.heap g1:=Y;have z1:IsZip g1 z TI TO .ellipsis:=z1;simp only[List.zipIdx_cons,List.zipIdx_nil,List.forIn_cons,List.forIn_nil];refine aA (aA (bQ ?_));show wpAny _ _ im _ _ _;have t1':=D1.frame _ _ _ t1 (An d1 Y);rcases he with he|⟨he1,he2⟩|⟨he1,he2,he3⟩
 .rw[he]at t1';refine aA (D1.done _ _ _ t1' fun g2 e g T=>?_);obtain⟨o,T,hc⟩:=T;have z2:IsZip g2 z TI TO .ellipsis:=g _ _ c8.symm z1;have ez:e≠z:=fun y=>by subst y;rw[z2]at T;cases T;simp at hc
  exact aj z2 Ch fun g3 _ U=>q g3 e _ (fun c o e1 e2 e3 e4 e5 y=>(U.2 _ e1).trans (g _ _ e3 ((Y.2 _ e1).trans y))) ⟨o,(U.2 _ ez).trans T,hc⟩
 .refine aA (D1.item k _ _ _ he1 t1' fun x g2 tk2 p1 u1 g=>aB ?_);have g:Heap.SameBut i1 g1 g2:=g;have o2:FT g2 TO a b c:=(g.2 _ c6).trans ((Y.2 _ c5).trans hO);refine aA (aV o2 rfl (aA (put3 o2 fun g3 o3 U=>aA (wpAny_letGo ge))));have U:Heap.SameBut TO g2 g3:=U;have Z:S2 k g3:=D2.frame _ _ _ (D2.frame _ _ _ (D2.frame _ _ _ t2 (An d4 Y)) (An d6 g)) (An d5 U);rw[he2]at Z;refine aA (aA (bQ ?_));show wpAny _ _ WF _ _ _;refine aA (D2.done _ _ _ Z fun g4 e m4 T=>?_);obtain⟨o,T,hc⟩:=T;have z4:IsZip g4 z TI TO .ellipsis:=m4 _ _ c9.symm ((U.2 _ c5.symm).trans ((g.2 _ c8.symm).trans z1));have ez:e≠z:=fun y=>by subst y;rw[z4]at T;cases T;simp at hc
  exact aj z4 Ch fun g5 _ m5=>q g5 e _ (fun c o e1 e2 e3 e4 e5 y=>(m5.2 _ e1).trans (m4 _ _ e4 ((U.2 _ e2).trans ((g.2 _ e3).trans ((Y.2 _ e1).trans y))))) ⟨o,(m5.2 _ ez).trans T,hc⟩
 .refine aA (D1.item k _ _ _ he1 t1' fun x g2 tk2 p1 u1 g=>aB ?_);have g:Heap.SameBut i1 g1 g2:=g;have o2:FT g2 TO a b c:=(g.2 _ c6).trans ((Y.2 _ c5).trans hO);refine aA (aV o2 rfl (aA (put3 o2 fun g3 o3 U=>aA (wpAny_letGo ge))));have U:Heap.SameBut TO g2 g3:=U;have o3:FT g3 TO x b c:=o3;have Z:S2 k g3:=D2.frame _ _ _ (D2.frame _ _ _ (D2.frame _ _ _ t2 (An d4 Y)) (An d6 g)) (An d5 U);refine aA (aA (bQ ?_));show wpAny _ _ WF _ _ _;refine aA (D2.item k _ _ _ he2 Z fun y g4 tk4 p2 u2 m4=>aB ?_);have m4:Heap.SameBut i2 g3 g4:=m4;have o4:FT g4 TO x b c:=(m4.2 _ c7).trans o3;refine aA (aV o4 rfl (aA (put3 o4 fun g5 o5 m5=>aA (wpAny_letGo ge))));have m5:Heap.SameBut TO g4 g5:=m5;have t3':S3 k g5:=D3.frame _ _ _ (D3.frame _ _ _ (D3.frame _ _ _ (D3.frame _ _ _ (D3.frame _ _ _ t3 (An e4 Y)) (An e6 g)) (An e5 U)) (An e6' m4)) (An e5 m5);rw[he3]at t3';refine aA (aA (bQ ?_));show wpAny _ _ (Builtin.SmallTypes.nextOf (.ref i3)>>=_) _ _ _;refine aA (D3.done _ _ _ t3' fun g6 e m6 T=>?_);obtain⟨o,T,hc⟩:=T;have z6:IsZip g6 z TI TO .ellipsis:=m6 _ _ c9'.symm ((m5.2 _ c5.symm).trans ((m4.2 _ c9.symm).trans ((U.2 _ c5.symm).trans ((g.2 _ c8.symm).trans z1))));have ez:e≠z:=fun y=>by subst y;rw[z6]at T;cases T;simp at hc
  exact aj z6 Ch fun g7 _ m7=>q g7 e _ (fun c o e1 e2 e3 e4 e5 y=>(m7.2 _ e1).trans (m6 _ _ e5 ((m5.2 _ e2).trans ((m4.2 _ e4).trans ((U.2 _ e2).trans ((g.2 _ e3).trans ((Y.2 _ e1).trans y))))))) ⟨o,(m7.2 _ ez).trans T,hc⟩
theorem ZL{Q:Of}(D1:lp)(D2:lv)(D3:Draws prog w A.in1 i3 f3 n3 P3 S3)(ap:OS z TI TO i1 i2 i3 f1 f2 f3)(hz:kS)(hI:FT s.heap TI (.ref i1) (.ref i2) (.ref i3))(hO:FT s.heap TO a b c)
 (t1:S1 k s.heap)(Y:S2 k s.heap)(t3:S3 k s.heap)(l1:k<n1)(l2:k<n2)(l3:k<n3)
 (q:∀x y u h' tk,P1 k x->P2 k y->P3 k u->IsZip h' z TI TO (rawInt s.heap.objs.size)->FT h' TO x y u->S1 oF h'->S2 oF h'->S3 oF h'->FT h' s.heap.objs.size x y u->h'.objs.size=s.heap.objs.size+1 ->
   (∀c o,c≠z->c≠TO->c≠i1->c≠i2->c≠i3->s.heap.get? c=some o->h'.get? c=some o)->Q (some GE) KT) :
  wpAny At A (pyNext SC) Q E s:=by
 have U:s.TypeIs SC "zip" := ⟨_,hz,rfl⟩;unfold pyNext;exact aA (bW (aZ (name:=Str.ofString "__next__") U bJ
  (aY bJ U F.entry_zip_next (pC D1 D2 D3 ap hz hI hO t1 Y t3 l1 l2 l3 fun x y u h' tk r1 r2 r3 r4 r5 r6 r7 r8 Z T g=>aB (q x y u h' tk r1 r2 r3 r4 r5 r6 r7 r8 Z T g)) (F.args_zip_next_1 _))))
theorem Zn{Q:Of}(D1:lp)(D2:lv)(D3:Draws prog w A.in1 i3 f3 n3 P3 S3)(ap:OS z TI TO i1 i2 i3 f1 f2 f3)(hz:kS)(hI:FT s.heap TI (.ref i1) (.ref i2) (.ref i3))(hO:FT s.heap TO a b c)
 (t1:S1 k s.heap)(Y:S2 k s.heap)(t3:S3 k s.heap)(Z:k=n1\/(k<n1/\k=n2)\/(k<n1/\k<n2/\k=n3))
 (q:∀h' tk,(∀c o,c≠z->c≠TO->c≠i1->c≠i2->c≠i3->s.heap.get? c=some o->h'.get? c=some o)->Q none KT) :
  wpAny At A (pyNext SC) Q E s:=by
 have U:s.TypeIs SC "zip" := ⟨_,hz,rfl⟩;unfold pyNext;refine aA (bW (aZ (name:=Str.ofString "__next__") U bJ
  (aY bJ U F.entry_zip_next (mC D1 D2 D3 ap hz hI hO t1 Y t3 Z fun h' e tk kp g=>?_) (F.args_zip_next_1 _))))
 obtain⟨o,g,hc⟩:=g;exact aA (wpAny_isInstance (T := "StopIteration") (b:=true) ⟨o,g,hc⟩ isSubtype_stop (aB (q _ _ kp)))
abbrev Oe(a b c:Nh):Obj:={ cls:=.type "tuple",data:=.seq #[a,b,c]}
def kY(b1 b2 b3:Bool)(h:Heap)(g T U:Addr):Heap :=
 (((((h.push (BO b1 g)).push (BO b2 T)).push (BO b3 U)).push (Oe (.ref h.objs.size) (.ref (h.push (BO b1 g)).objs.size) (.ref ((h.push (BO b1 g)).push (BO b2 T)).objs.size))).push (Oe .none .none .none)).push
  { cls:=.type "zip",data:=.fields #[.none,.bool false,.bool false,.ref (((h.push (BO b1 g)).push (BO b2 T)).push (BO b3 U)).objs.size,.ref ((((h.push (BO b1 g)).push (BO b2 T)).push (BO b3 U)).push (Oe (.ref h.objs.size) (.ref (h.push (BO b1 g)).objs.size) (.ref ((h.push (BO b1 g)).push (BO b2 T)).objs.size))).objs.size]}
theorem fU(b1 b2 b3:Bool)(T Y Z:Addr)(xs ys zs:FS) :
  Meets (Builtin.«zip.__new__» ⟨[.type "zip",.ref T,.ref Y,.ref Z],[]⟩) (fun _ R s=>Sq b1 s.heap T xs/\Sq b2 s.heap Y ys/\Sq b3 s.heap Z zs /\
   R (.ok (.ret (.ref (((((s.heap.push (BO b1 T)).push (BO b2 Y)).push (BO b3 Z)).push (Oe GE (.ref (s.heap.push (BO b1 T)).objs.size) (.ref ((s.heap.push (BO b1 T)).push (BO b2 Y)).objs.size))).push (Oe .none .none .none)).objs.size))) {s with heap:=kY b1 b2 b3 s.heap T Y Z}) :=
 .of_wp fun prog w A R s h=>by
  obtain⟨U,g,d,tk,os⟩:=s;obtain⟨h1,h2,h3,h⟩:=h;have hsub:=sub_zip;have i1:∀(A:Re) (E:AT) (Q:AT),Q (.ref U.objs.size) ⟨U.push (BO b1 T),g,d,tk,os⟩->wpAny At A (pyIter (.ref T)) Q E ⟨U,g,d,tk,os⟩:=fun A E Q q=>Ma (s:=⟨U,g,d,tk,os⟩) h1 q;have i2:∀(A:Re) (E:AT) (Q:AT),Q (.ref (U.push (BO b1 T)).objs.size) ⟨(U.push (BO b1 T)).push (BO b2 Y),g,d,tk,os⟩->wpAny At A (pyIter (.ref Y)) Q E ⟨U.push (BO b1 T),g,d,tk,os⟩:=fun A E Q q=>Ma (s:=⟨U.push (BO b1 T),g,d,tk,os⟩) (h2.push _) q;have i3:∀(A:Re) (E:AT) (Q:AT),Q (.ref ((U.push (BO b1 T)).push (BO b2 Y)).objs.size) ⟨((U.push (BO b1 T)).push (BO b2 Y)).push (BO b3 Z),g,d,tk,os⟩->wpAny At A (pyIter (.ref Z)) Q E ⟨(U.push (BO b1 T)).push (BO b2 Y),g,d,tk,os⟩:=fun A E Q q=>Ma (s:=⟨(U.push (BO b1 T)).push (BO b2 Y),g,d,tk,os⟩) ((h3.push _).push _) q
  wp_walk using i1,i2,i3
  exact⟨_,rfl,h⟩
theorem ji(a b c:Nh):checkTypeCall "zip" ⟨[a,b,c],[]⟩=pure ():=by kernel_rfl
theorem ir(a b c:Nh):checkBuiltinCall "zip.__new__" ⟨[.type "zip",a,b,c],[]⟩=pure ():=by kernel_rfl
theorem iI(a b c d:Nh):argsOk "object.__init__" ⟨[a,b,c,d],[]⟩:=by
 unfold argsOk;rw[signature?_of (n:=['_','_','t','i','n','i','_','_']) (o:=['t','c','e','j','b','o']) M0 F.owner_object]
 kernel_rfl
theorem Zo{b1 b2 b3:Bool}{Y U T:Addr}{xs ys zs:FS}{Q:AT}(h1:Sq b1 s.heap Y xs)(h2:Sq b2 s.heap U ys)(h3:Sq b3 s.heap T zs)
 (h:∀h',IsZip h' (s.heap.objs.size+5) W1 rc .none->FT h' W1 GE (.ref IS) (.ref WP)->FT h' rc .none .none .none ->
   JA b1 h' s.heap.objs.size Y 0->JA b2 h' IS U 0->JA b3 h' WP T 0->(∀c o,s.heap.get? c=some o->h'.get? c=some o)->Q (.ref (s.heap.objs.size+5)) Pz) :
  wpAny At A (call (.type "zip") [.ref Y,.ref U,.ref T]) Q E s:=by
 refine callType_new F.called_zip BY (ji _ _ _) (ir _ _ _) (fun obj=>iI obj _ _ _) F.entry_zip_new (fU b1 b2 b3 Y U T xs ys zs) ⟨h1,h2,h3,?_⟩;have up:∀(g:Heap) (o:Obj) (c:Addr) (u:Obj),g.get? c=some u->(g.push o).get? c=some u:=fun g o c u e=>aF _ e;have n1:(s.heap.push (BO b1 Y)).objs.size=s.heap.objs.size+1:=Heap.size_push ..;have a0:(s.heap.push (BO b1 Y)).get? s.heap.objs.size=some (BO b1 Y):=aL _ (by cases b1<;>rfl);generalize hg1:s.heap.push (BO b1 Y)=g1 at n1 a0;have k1:∀c o,s.heap.get? c=some o->g1.get? c=some o:=fun c o e=>by rw[<-hg1];exact up _ _ _ _ e
 have n2:(g1.push (BO b2 U)).objs.size=s.heap.objs.size+2:=by rw[Heap.size_push,n1]
 have a1:(g1.push (BO b2 U)).get? IS=some (BO b2 U):=by rw[<-n1];exact aL _ (by cases b2<;>rfl)
 generalize hg2:g1.push (BO b2 U)=g2 at n2 a1;have k2:∀c o,g1.get? c=some o->g2.get? c=some o:=fun c o e=>by rw[<-hg2];exact up _ _ _ _ e
 have n3:(g2.push (BO b3 T)).objs.size=s.heap.objs.size+3:=by rw[Heap.size_push,n2]
 have a2:(g2.push (BO b3 T)).get? WP=some (BO b3 T):=by rw[<-n2];exact aL _ (by cases b3<;>rfl)
 generalize hg3:g2.push (BO b3 T)=g3 at n3 a2;have k3:∀c o,g2.get? c=some o->g3.get? c=some o:=fun c o e=>by rw[<-hg3];exact up _ _ _ _ e
 have n4:(g3.push (Oe GE (.ref IS) (.ref WP))).objs.size=s.heap.objs.size+4:=by rw[Heap.size_push,n3]
 have a3:FT (g3.push (Oe GE (.ref IS) (.ref WP))) W1 GE (.ref IS) (.ref WP):=by rw[<-n3];exact aL _ rfl
 generalize hg4:g3.push (Oe GE (.ref IS) (.ref WP))=g4 at n4 a3;have k4:∀c o,g3.get? c=some o->g4.get? c=some o:=fun c o e=>by rw[<-hg4];exact up _ _ _ _ e
 have n5:(g4.push (Oe .none .none .none)).objs.size=s.heap.objs.size+5:=by rw[Heap.size_push,n4]
 have a4:FT (g4.push (Oe .none .none .none)) rc .none .none .none:=by rw[<-n4];exact aL _ rfl
 generalize Z:g4.push (Oe .none .none .none)=g5 at n5 a4;have k5:∀c o,g4.get? c=some o->g5.get? c=some o:=fun c o e=>by rw[<-Z];exact up _ _ _ _ e
 have ez:kY b1 b2 b3 s.heap Y U T=g5.push { cls:=.type "zip",data:=.fields #[.none,.bool false,.bool false,.ref W1,.ref rc]}:=by
  unfold kY;rw[hg1,hg2,hg3,n1,n2,hg4,Z,n3,n4]
 have a5:IsZip (g5.push { cls:=.type "zip",data:=.fields #[.none,.bool false,.bool false,.ref W1,.ref rc]}) (s.heap.objs.size+5) W1 rc .none:=by rw[<-n5];exact aL _ rfl
 rw[n1,n2,hg4,Z,n5,ez];show _/\_;have k6:∀c o,g5.get? c=some o->(g5.push { cls:=.type "zip",data:=.fields #[.none,.bool false,.bool false,.ref W1,.ref rc]}).get? c=some o:=fun c o e=>up _ _ _ _ e;refine⟨⟨_,a5,rfl⟩,h _ a5 (k6 _ _ (k5 _ _ a3)) (k6 _ _ a4) ?_ ?_ ?_ fun c o e=>k6 _ _ (k5 _ _ (k4 _ _ (k3 _ _ (k2 _ _ (k1 _ _ e)))))⟩
 .have:=k6 _ _ (k5 _ _ (k4 _ _ (k3 _ _ (k2 _ _ a0))));cases b1 with
  |true=>exact⟨_,this,rfl,rfl⟩
  |false=>exact⟨_,this,rfl,rfl⟩
 .have:=k6 _ _ (k5 _ _ (k4 _ _ (k3 _ _ a1)));cases b2 with
  |true=>exact⟨_,this,rfl,rfl⟩
  |false=>exact⟨_,this,rfl,rfl⟩
 .have:=k6 _ _ (k5 _ _ (k4 _ _ a2));cases b3 with
  |true=>exact⟨_,this,rfl,rfl⟩
  |false=>exact⟨_,this,rfl,rfl⟩
end
end ZT
namespace L2
open PySem PySem.Spec PyProof.Rows
def dm(b1 b2 b3:Bool)(a1 a2 a3:Addr):It :=
 ⟨fun i H=>∃xs x ys y g u,B7 b1 H a1 xs/\B7 b2 H a2 ys/\B7 b3 H a3 g/\xs[i]? = some x/\ys[i]? = some y/\g[i]? = some u,
  fun i H v H'=>∃p x y u,v=.ref p/\H p=none/\H'=upd H p (.tup [x,y,u])/\(∀xs,B7 b1 H a1 xs->xs[i]? = some x)/\(∀ys,B7 b2 H a2 ys->ys[i]? = some y)/\∀g,B7 b3 H a3 g->g[i]? = some u,
  fun i H=>∃xs ys g,B7 b1 H a1 xs/\B7 b2 H a2 ys/\B7 b3 H a3 g/\(i=xs.length\/(i<xs.length/\i=ys.length)\/(i<xs.length/\i<ys.length/\i=g.length))⟩
def qt(b1 b2 b3:Bool)(a1 a2 a3 z TI TO i1 i2 i3:Addr):Nat->Heap->Prop:=fun i h=>IsZip h z TI TO .none/\ZT.FT h TI (.ref i1) (.ref i2) (.ref i3)/\(∃a b c,ZT.FT h TO a b c)/\ZT.JA b1 h i1 a1 i/\ZT.JA b2 h i2 a2 i/\ZT.JA b3 h i3 a3 i
theorem cN{z TI TO i1 i2 i3 a1 a2 a3:Addr}(ne:[z,TI,TO,i1,i2,i3].Nodup)(e1:∀b∈[z,TI,TO,i1,i2,i3],a1≠b)(e2:∀b∈[z,TI,TO,i1,i2,i3],a2≠b)(e3:∀b∈[z,TI,TO,i1,i2,i3],a3≠b):ZT.OS z TI TO i1 i2 i3 [i1,a1] [i2,a2] [i3,a3]:=by
 simp only[List.nodup_cons,List.mem_cons,List.not_mem_nil,or_false,not_or]at ne;obtain⟨⟨n1,n2,n3,n4,T⟩,⟨n5,n6,n7,n7'⟩,⟨n8,n9,g⟩,⟨Z,Y⟩,U,_⟩:=ne;have x:∀ {a:Addr},(∀b∈[z,TI,TO,i1,i2,i3],a≠b)->z≠a/\TO≠a/\i1≠a/\i2≠a/\i3≠a:=fun h=>⟨Ne.symm (h z Ch),Ne.symm (h TO Ch),Ne.symm (h i1 Ch),Ne.symm (h i2 Ch),Ne.symm (h i3 Ch)⟩;have m:∀ {b i a:Addr},b≠i->b≠a->b ∉ [i,a]:=fun h1 h2=>by simp[h1,h2]
 obtain⟨x1,x2,x3,x4,x5⟩:=x e1;obtain⟨y1,y2,y3,y4,y5⟩:=x e2;obtain⟨w1,w2,w3,w4,w5⟩:=x e3;exact⟨⟨Ne.symm n2,n8,n9,g⟩,⟨Ne.symm n3,Ne.symm n4,Ne.symm T⟩,⟨m n3 x1,m n8 x2,m (Ne.symm Z) x4,m (Ne.symm Y) x5⟩,⟨m n4 y1,m n9 y2,m Z y3,m (Ne.symm U) y5⟩,⟨m T w1,m g w2,m Y w3,m U w4⟩⟩
theorem dG{P:Io}{w:Mw}{K:As}{elts:Ov}{x1}{pos:Pos}{b1 b2 b3:Bool}{a1 a2 a3 z TI TO i1 i2 i3:Addr}(ne:[z,TI,TO,i1,i2,i3].Nodup) :
  Turn P w K (.Tuple elts x1 pos) (dm b1 b2 b3 a1 a2 a3) [z,TI,TO,i1,i2,i3] z (qt b1 b2 b3 a1 a2 a3 z TI TO i1 i2 i3) where
 mem:=by simp
 obj:=fun i h st b hb=>by
  obtain⟨h1,h2,⟨u,v,w,h3⟩,h4,h5,h6⟩:=st;have hb:b=z\/b=TI\/b=TO\/b=i1\/b=i2\/b=i3:=by simpa using hb
  rcases hb with rfl|rfl|rfl|rfl|rfl|rfl
  .exact⟨_,h1,fun v y=>by cases y⟩
  .exact⟨_,h2,fun v y=>by cases y⟩
  .exact⟨_,h3,fun v y=>by cases y⟩
  .exact GU h4
  .exact GU h5
  .exact GU h6
 keep:=fun i h h' st k=>by
  obtain⟨h1,h2,⟨u,v,w,h3⟩,h4,h5,h6⟩:=st;exact⟨k z Ch _ h1,k TI Ch _ h2,⟨u,v,w,k TO Ch _ h3⟩,Fb h4 fun o e=>k i1 Ch o e,Fb h5 fun o e=>k i2 Ch o e,Fb h6 fun o e=>k i3 Ch o e⟩
 item:=by
  intro X hP hw hK hc i pins s σ H E I hf st hg;subst hP hw hK;obtain⟨xs,x,ys,y,zs,t,q1,q2,q3,hx,hy,ht⟩:=hg;obtain⟨us,rv1,p1⟩:=q1.raw I;obtain⟨vs,rv2,p2⟩:=q2.raw I;obtain⟨ws,rv3,p3⟩:=q3.raw I;obtain⟨u,hu,ru⟩:=rv1.get hx;obtain⟨v,hv,rv⟩:=rv2.get hy;obtain⟨o3,hw,rw'⟩:=rv3.get ht;obtain⟨t1,t2,⟨ta,tb,tc,t3⟩,t4,t5,t6⟩:=st;have e1:∀b∈[z,TI,TO,i1,i2,i3],a1≠b:=fun b hb=>q1.none (hf b hb).1;have e2:∀b∈[z,TI,TO,i1,i2,i3],a2≠b:=fun b hb=>q2.none (hf b hb).1;have e3:∀b∈[z,TI,TO,i1,i2,i3],a3≠b:=fun b hb=>q3.none (hf b hb).1;refine ZT.ZL ud ue (ZT.EG (prog:=X.prog) (w:=X.w) (A:=X.A.in1) ad b3 i3 a3 ws (e3 i3 Ch)) (cN ne e1 e2 e3) t1 t2 t3 ⟨t4,p1⟩ ⟨t5,p2⟩ ⟨t6,p3⟩ (aE.mp hu).1 (aE.mp hv).1 (aE.mp hw).1
   fun u' v' w' h' tk r1 r2 r2' r3 r4 r5 r6 r6' r7 r8 r9=>⟨_,rfl,wpAny_letOwnedTupleGo_zip (s:={s with heap:=h',toks:=tk}) r3 fun h'' z'' sb=>?_⟩
  rw[hu]at r1;rw[hv]at r2;rw[hw]at r2';cases r1;cases r2;cases r2';have ne':=ne;simp only[List.nodup_cons,List.mem_cons,List.not_mem_nil,or_false,not_or]at ne';obtain⟨⟨n1,n2,n3,n4,n4'⟩,⟨n5,n6,n7,n7'⟩,⟨n8,n9,n9'⟩,⟨n10,n11⟩,n12,_⟩:=ne';have keep:∀b o,b ∉ [z,TI,TO,i1,i2,i3]->s.heap.get? b=some o->h''.get? b=some o:=fun b o hb q=>by
   simp only[List.mem_cons,List.not_mem_nil,or_false,not_or]at hb;exact(sb.2 b hb.1).trans (r9 b o hb.1 hb.2.2.1 hb.2.2.2.1 hb.2.2.2.2.1 hb.2.2.2.2.2 q)
  have lt:∀b∈[z,TI,TO,i1,i2,i3],b<s.heap.objs.size:=fun b hb=>by
   have hb:b=z\/b=TI\/b=TO\/b=i1\/b=i2\/b=i3:=by simpa using hb
   rcases hb with rfl|rfl|rfl|rfl|rfl|rfl
   .exact aG t1
   .exact aG t2
   .exact aG t3
   .obtain⟨o,e,_⟩:=GU t4;exact aG e
   .obtain⟨o,e,_⟩:=GU t5;exact aG e
   .obtain⟨o,e,_⟩:=GU t6;exact aG e
  have hTn:H s.heap.objs.size=none:=I.Av.fresh em;have hT'':h''.get? s.heap.objs.size=some { cls:=.type "tuple",data:=.seq #[u,v,o3]}:=(sb.2 _ (aq (lt z Ch))).trans r7;have neT:∀b o,s.heap.get? b=some o->b≠s.heap.objs.size:=fun b o q=>aJ (aG q);have F5:∀b o,H b=some o->b ∉ [z,TI,TO,i1,i2,i3]:=fun b o q hb=>by rw[(hf b hb).1]at q;cases q
  refine⟨.ref s.heap.objs.size,upd H s.heap.objs.size (.tup [x,y,t]),?_,rfl,⟨_,x,y,t,rfl,hTn,rfl,fun zs hz=>by rw[hz.inj q1];exact hx,fun zs hz=>by rw[hz.inj q2];exact hy,fun zs hz=>by rw[hz.inj q3];exact ht⟩,⟨z'',?_,⟨u,v,o3,?_⟩,?_,?_,?_⟩,fun b hb=>?_⟩
  .show Inv X pins σ _ {s with heap:=h'',gens:=s.gens,drawn:=s.drawn,toks:=tk};refine I.step (h':=h'') (g':=s.gens) (d':=s.drawn) (t':=tk) (ch:=[z,TI,TO,i1,i2,i3]) (fun b hb=>?_) (fun b o _ _ hc q _=>keep b o hc q) uF
    (fun b o _ q n=>by rw[AJ (neT b o q)];exact n) (fun b o hc q=>⟨o,keep b o hc q⟩) (fun b ys q=>by rw[AJ (AV q hTn)];exact q) (fun b o u q=>by rw[AJ (AV q hTn)];exact q)
    (fun b ps q=>⟨#[],by rw[AJ (AV q hTn),q];simp⟩) (fun b _ o hc _ q=>keep b o hc q) (fun m hm=>?_) (fun b o q=>?_) I.bare
   .obtain⟨_,f1,_,f3,f4,f5⟩:=hf b hb;exact⟨f3,f1,f4,f5⟩
   .obtain⟨o,es,ep,ho,r⟩:=hm;exact⟨o,es,ep,keep _ o (fun hb=>(hf _ hb).2.1 rfl) ho,r⟩
   .by_cases hb:b=s.heap.objs.size
    .subst hb;rw[AR]at q;cases q;exact⟨show 3<=sizeLine by decide,[u,v,o3],.cons ru (.cons rv (.cons rw' .nil)),_,hT'',rfl,_,rfl⟩
    .rw[AJ hb]at q;refine(I.Av b o q).Hf (fun c w hc r=>keep c w ?_ r) (fun c r=>by rw[AJ (AV r hTn)];exact r) fun c ys r=>by rw[AJ (AV r hTn)];exact r
     rcases hc with rfl|hc
     .exact F5 _ _ q
     .exact F5 _ _ hc
  .exact(sb.2 _ (Ne.symm n1)).trans (r9 _ _ (Ne.symm n1) n5 n6 n7 n7' t2)
  .exact(sb.2 _ (Ne.symm n2)).trans r4
  .exact Fb r5.1 fun o e=>(sb.2 _ (Ne.symm n3)).trans e
  .exact Fb r6.1 fun o e=>(sb.2 _ (Ne.symm n4)).trans e
  .exact Fb r6'.1 fun o e=>(sb.2 _ (Ne.symm n4')).trans e
  .rw[AJ (aJ (lt b hb))];exact(hf b hb).1
 done:=by
  intro X hP hw hK hc i pins s σ H E I hf st hg;subst hP hw hK;obtain⟨xs,ys,zs,q1,q2,q3,he⟩:=hg;obtain⟨us,rv1,p1⟩:=q1.raw I;obtain⟨vs,rv2,p2⟩:=q2.raw I;obtain⟨ws,rv3,p3⟩:=q3.raw I;obtain⟨t1,t2,⟨ta,tb,tc,t3⟩,t4,t5,t6⟩:=st;have e1:∀b∈[z,TI,TO,i1,i2,i3],a1≠b:=fun b hb=>q1.none (hf b hb).1;have e2:∀b∈[z,TI,TO,i1,i2,i3],a2≠b:=fun b hb=>q2.none (hf b hb).1;have e3:∀b∈[z,TI,TO,i1,i2,i3],a3≠b:=fun b hb=>q3.none (hf b hb).1;have he':i=us.length\/(i<us.length/\i=vs.length)\/(i<us.length/\i<vs.length/\i=ws.length):=by rw[<-rv1.length,<-rv2.length,<-rv3.length];exact he
  refine ZT.Zn ud ue (ZT.EG (prog:=X.prog) (w:=X.w) (A:=X.A.in1) ad b3 i3 a3 ws (e3 i3 Ch)) (cN ne e1 e2 e3) t1 t2 t3 ⟨t4,p1⟩ ⟨t5,p2⟩ ⟨t6,p3⟩ he' fun h' tk kp=>⟨rfl,?_⟩;have keep:∀b o,b ∉ [z,TI,TO,i1,i2,i3]->s.heap.get? b=some o->h'.get? b=some o:=fun b o hb q=>by
   simp only[List.mem_cons,List.not_mem_nil,or_false,not_or]at hb;exact kp b o hb.1 hb.2.2.1 hb.2.2.2.1 hb.2.2.2.2.1 hb.2.2.2.2.2 q
  have F5:∀b o,H b=some o->b ∉ [z,TI,TO,i1,i2,i3]:=fun b o q hb=>by rw[(hf b hb).1]at q;cases q
  show Inv X pins σ _ {s with heap:=h',gens:=s.gens,drawn:=s.drawn,toks:=tk};refine I.step (h':=h') (g':=s.gens) (d':=s.drawn) (t':=tk) (ch:=[z,TI,TO,i1,i2,i3]) (fun b hb=>?_) (fun b o _ _ hc q _=>keep b o hc q) uF
    (fun b o _ q n=>n) (fun b o hc q=>⟨o,keep b o hc q⟩) (fun b ys q=>q) (fun b o u q=>q)
    (fun b ps q=>⟨#[],by rw[q];simp⟩) (fun b _ o hc _ q=>keep b o hc q) (fun m hm=>?_) (fun b o q=>?_) I.bare
  .obtain⟨_,f1,_,f3,f4,f5⟩:=hf b hb;exact⟨f3,f1,f4,f5⟩
  .obtain⟨o,es,ep,ho,r⟩:=hm;exact⟨o,es,ep,keep _ o (fun hb=>(hf _ hb).2.1 rfl) ho,r⟩
  .refine(I.Av b o q).Hf (fun c w hc r=>keep c w ?_ r) (fun c r=>r) fun c ys r=>r;rcases hc with rfl|hc
   .exact F5 _ _ q
   .exact F5 _ _ hc
 self:=fun _ _ _ _ _ st h=>wpAny_pyIter_zip st.1 h
def pd(U:TA):TI:=fun σ H R=>U σ H fun vs g=>∃(b1 b2 b3:Bool) (a1 a2 a3:Addr),vs=[.ref a1,.ref a2,.ref a3]/\(∃xs,B7 b1 g a1 xs)/\(∃ys,B7 b2 g a2 ys)/\(∃T,B7 b3 g a3 T)/\R (dm b1 b2 b3 a1 a2 a3) g
theorem iB{X:Cx}{elts:Ov}{x1}{T:Pos}{a b c:Expr}{ta:TA}{p pos:Pos}(hg:Gl X "zip")(hm:X.mg "zip" = none)(ha:PA X [a,b,c] ta)(hs:starEach [a,b,c] X.env=[SZ,Pa,(false,eval c X.env)]:=by rfl)(Y:starEach [b,c] X.env=[Pa,(false,eval c X.env)]:=by rfl) :
  PI X (.Tuple elts x1 T) (.Call (.Name "zip" p) [a,b,c] [] pos) (pd ta):=by
 intro pins s σ H R I h;refine Call_ (GR I hg hm boot_zip (ak (BU bi fun us s1 ⟨vs,H1,g,r1,q1⟩=>?_) (by rw[hs,Y]) (by rw[Y];rfl)));obtain⟨b1,b2,b3,l1,l2,l3,e,⟨xs,h1⟩,⟨ys,h2⟩,⟨zs,h3⟩,q⟩:=q1;subst e;cases r1 with
 |cons r U=>
  cases U with
  |cons r' U=>
   cases U with
   |cons r'' U=>
    cases U;cases r;cases r';cases r'';obtain⟨us,_,p1⟩:=h1.raw g;obtain⟨vs,_,p2⟩:=h2.raw g;obtain⟨ws,_,p3⟩:=h3.raw g;refine ZT.Zo p1 p2 p3 fun h' z1 z2 z3 z4 z5 z6 hk=>wpAny_pyIter_zip z1 ?_;have I2:Inv X pins σ H1 {s1 with heap:=h'}:=g.kept (t':=s1.toks) hk;refine⟨_,[s1.heap.objs.size+5,s1.heap.objs.size+3,s1.heap.objs.size+4,s1.heap.objs.size,s1.heap.objs.size+1,s1.heap.objs.size+2],_,_,H1,rfl,I2,dG ?_,⟨z1,z2,⟨_,_,_,z3⟩,z4,z5,z6⟩,fun b hb=>?_,q⟩
    .simp
    have Z:s1.heap.objs.size<=b:=by
     have hb2:b=s1.heap.objs.size+5\/b=s1.heap.objs.size+3\/b=s1.heap.objs.size+4\/b=s1.heap.objs.size\/b=s1.heap.objs.size+1\/b=s1.heap.objs.size+2:=by simpa using hb
     rcases hb2 with h|h|h|h|h|h<;>rw[h]<;>first|exact aI _|exact Nat.le_add_right _ _
    exact g.QK Z (g.Av.fresh Z)
def Lp(xs ys zs:By):List PyData:=(xs.zip (ys.zip zs)).map fun q=>.tuple [q.1,q.2.1,q.2.2]
theorem UB{xs ys zs:By}{i:Nat}{d:KB}(h:(Lp xs ys zs)[i]? = some d):∃x y z,xs[i]? = some x/\ys[i]? = some y/\zs[i]? = some z/\d=.tuple [x,y,z]:=by
 unfold Lp at h;rw[List.getElem?_map]at h;obtain⟨q,Z,rfl⟩:=aD.mp h;obtain⟨Y,U⟩:=List.getElem?_zip_eq_some.mp Z;obtain⟨T,g⟩:=List.getElem?_zip_eq_some.mp U;exact⟨q.1,q.2.1,q.2.2,Y,T,g,rfl⟩
theorem jf{Gc H:Hp}{p:Addr}{x y z:KB}{u v w:V}(T:AK Gc H)(g:H p=none)(Y:Du Gc x u)(d2:Du Gc y v)(d3:Du Gc z w):∃Gc',AK Gc Gc'/\Nw Gc H Gc'/\AK Gc' (upd H p (.tup [u,v,w]))/\AK H (upd H p (.tup [u,v,w]))/\Du Gc' (.tuple [x,y,z]) (.ref p):=by
 have U:Gc p=none:=by
  cases q:Gc p with
  |none=>rfl
  |some o=>rw[T _ _ q]at g;cases g
 have e:AK Gc (upd Gc p (.tup [u,v,w])):=Ak U _;refine⟨upd Gc p (.tup [u,v,w]),e,fun b o h=>?_,fun b o h=>?_,Ak g _,?_⟩
 .by_cases hb:b=p
  .subst hb;exact .inr (.inl g)
  .rw[AJ hb]at h;exact .inl h
 .by_cases hb:b=p
  .subst hb;rw[AR]at h ⊢;exact h
  .rw[AJ hb]at h ⊢;exact T _ _ h
 .rw[Du];exact⟨p,_,rfl,AR,.cons (Y.same e) (.cons (d2.same e) (.cons (d3.same e) .nil))⟩
theorem iW{G:Hp}{b1 b2 b3:Bool}{a1 a2 a3:Addr}{us vs ws:HQ}{xs ys zs:By}(h1:G a1=some (if b1 then .tup us else .lst us))(h2:G a2=some (if b2 then .tup vs else .lst vs))(h3:G a3=some (if b3 then .tup ws else .lst ws))(d1:Au G xs us)(d2:Au G ys vs)(d3:Au G zs ws):J6 (dm b1 b2 b3 a1 a2 a3) (Lp xs ys zs) G where
 stop:=fun H e=>by
  have k1:=e _ _ h1;have k2:=e _ _ h2;have k3:=e _ _ h3;refine⟨us,vs,ws,?_,?_,?_,?_⟩
  .cases b1<;>simpa[B7]using k1
  .cases b2<;>simpa[B7]using k2
  .cases b3<;>simpa[B7]using k3
  .rw[d1.len,d2.len,d3.len];simp[Lp];lia
 go:=fun i x H hx e=>by
  obtain⟨x1,x2,x3,k1,k2,k3,rfl⟩:=UB hx;obtain⟨v1,j1,_⟩:=d1.get k1;obtain⟨v2,j2,_⟩:=d2.get k2;obtain⟨v3,j3,_⟩:=d3.get k3;have m1:=e _ _ h1;have m2:=e _ _ h2;have m3:=e _ _ h3;refine⟨us,v1,vs,v2,ws,v3,?_,?_,?_,j1,j2,j3⟩
  .cases b1<;>simpa[B7]using m1
  .cases b2<;>simpa[B7]using m2
  .cases b3<;>simpa[B7]using m3
 F4:=fun i x H v H' hx e y Gc e1 e2=>by
  obtain⟨x1,x2,x3,k1,k2,k3,rfl⟩:=UB hx;obtain⟨p,v1,v2,v3,rfl,hp,rfl,y1,y2,y3⟩:=y;have m1:=e _ _ h1;have m2:=e _ _ h2;have m3:=e _ _ h3;have z1:=y1 us (by cases b1<;>simpa[B7]using m1);have z2:=y2 vs (by cases b2<;>simpa[B7]using m2);have z3:=y3 ws (by cases b3<;>simpa[B7]using m3);obtain⟨w1,n1,n2⟩:=d1.back z1;obtain⟨w2,n3,n4⟩:=d2.back z2;obtain⟨w3,n5,n6⟩:=d3.back z3;rw[k1]at n1;cases n1;rw[k2]at n3;cases n3;rw[k3]at n5;cases n5;exact jf e2 hp (n2.same e1) (n4.same e1) (n6.same e1)
def Sb:List PyData->Option ut
 |[x,y,z]=>(Ff x).bind fun xs=>(Ff y).bind fun ys=>(Ff z).map fun g=>Lp xs ys g
 |_=>none
section
variable{X:Cx}{a b c:Expr}{fs:Go}{pos p:Pos}
theorem hU{elts:Ov}{x1}{g:Pos}(hg:Gl X "zip")(hm:X.mg "zip" = none)(ha:DA X [a,b,c] fs)(hs:starEach [a,b,c] X.env=[SZ,Pa,(false,eval c X.env)]:=by rfl)(U:starEach [b,c] X.env=[Pa,(false,eval c X.env)]:=by rfl) :
  DI X (.Tuple elts x1 g) (.Call (.Name "zip" p) [a,b,c] [] pos) (fun δ=>(fs δ).bind Sb):=by
 obtain⟨t,p,k⟩:=ha;refine⟨_,iB hg hm p hs U,fun δ xs h G0 H0 G H σ ts R R0 q=>?_⟩;obtain⟨x,h1,T⟩:=aC.mp h;refine k δ _ h1 G0 H0 G H σ ts _ R0 fun vs G' H' R' hv=>?_;obtain⟨d,R2⟩:=R'.args hv;unfold Sb at T;split at T
 .obtain⟨xs1,h3,h4⟩:=aC.mp T;obtain⟨ys1,h5,h6⟩:=aC.mp h4;obtain⟨zs1,h7,rfl⟩:=aD.mp h6;obtain⟨v1,r1,rfl,du,d⟩:=d.un;obtain⟨v2,r2,rfl,dv,d⟩:=d.un;obtain⟨w,rfl,dw⟩:=d.JS;obtain⟨b1,a1,us,rfl,Z,n2⟩:=Im du h3;obtain⟨b2,a2,vs,rfl,m1,m2⟩:=Im dv h5;obtain⟨b3,a3,ws,rfl,Y,o2⟩:=Im dw h7;have s1:=R2.ins _ _ Z;have s2:=R2.ins _ _ m1;have s3:=R2.ins _ _ Y;exact⟨b1,b2,b3,a1,a2,a3,rfl,⟨us,by cases b1<;>simpa[B7]using s1⟩,⟨vs,by cases b2<;>simpa[B7]using s2⟩,⟨ws,by cases b3<;>simpa[B7]using s3⟩,q _ _ _ R2 (iW Z m1 Y n2 m2 o2)⟩
 .cases T
def U9(i j l:Nat)(y:KB)(δ:Dv):Option Dv:=match y with
 |.tuple [u,v,w]=>some (((δ.set i (.d u)).set j (.d v)).set l (.d w))
 |_=>none
theorem dU{x y z:Str}{i j l:Nat}{px py Z:Pos}{k1}(h:PG X (.Tuple [.Name x px,.Name y py,.Name z Z] k1 pos) (Y8 X.K 3 (MB (Dj i) (MB (Dj j) (MB (Dj l) ZG))))):DG X (.Tuple [.Name x px,.Name y py,.Name z Z] k1 pos) (U9 i j l):=by
 refine⟨_,h,fun δ z δ' e G0 H0 G H σ v Q R k=>?_⟩;unfold U9 at e;split at e
 .cases e;have du:=R.CJ _ M2;rw[Du]at du;obtain⟨a,ys,rfl,n1,g⟩:=du;obtain⟨Y,r1,rfl,m1,g⟩:=g.un;obtain⟨U,r2,rfl,m2,g⟩:=g.un;obtain⟨T,rfl,m3⟩:=g.JS;refine⟨a,[Y,U,T],rfl,BI.of (R.ins _ _ n1),rfl,Y,[U,T],rfl,U,[T],rfl,T,[],rfl,rfl,?_⟩;exact k _ _ _ ((((R.drop.put m3).put m2).put m1).Hc.Hc.Hc)
 .cases e
end
end L2
set_option maxHeartbeats 1000000
namespace L2
open PySem PySem.Spec PyProof.Rows
abbrev V6(i:Nat)(f:GM):DF:=fun δ=>(f δ).bind fun x=>match x with
 |.list xs=>some (.nx (δ.set i (.own Os)))
 |_=>none
section
variable{X:Cx}{a b:Expr}{f g:GM}{i:Nat}{y:Str}{pos pos' p cp:Pos}
theorem b8(ha:DE X a f)(hb:DE X b g)(hN:X.N.Nodup)(Y:X.N[i]? = some y)(hx:Loc X.env.scope y)
 (hs:swapsWith (.BinOp a .Add b cp) (some (.Name y pos')) pos.line X.env=pure false:=by rfl)(hf:X.fn y=true\/X.env.scope.names.lookup y=some .local:=by first|exact .inl rfl|exact .inr rfl|assumption) :
  DS X (.Assign [.Name y pos'] (.BinOp a .Add b cp) pos) (V6 i (AO ME f g)):=by
 obtain⟨ta,pa,ka⟩:=ha;obtain⟨tb,pb,kb⟩:=hb;refine⟨_,BB hN Y hx (A0 Vv pa pb) hs hf,fun δ r hz G0 H0 G H σ D R q=>?_⟩;obtain⟨z,h1,h2⟩:=aC.mp hz;obtain⟨x,y,h3,h4,T⟩:=two (x:=.none) (y:=.none) h1;refine ka δ x h3 G0 H0 G H σ [] _ R fun u G1 H1 R1=>?_;refine kb δ y h4 G0 H0 G1 H1 σ _ _ R1 fun v G2 H2 R2=>?_;have du:=R2.CJ (x,u) (.tail _ M2);have dv:=R2.CJ (y,v) M2;unfold ME at T;split at T
 .split at T
  .rename_i hl;cases T;cases h2;rw[Du]at du dv;obtain⟨p,xs,rfl,k1,k2⟩:=du;obtain⟨q',ys,rfl,k3,Z⟩:=dv;exact⟨p,q',xs,ys,rfl,rfl,R2.ins _ _ k1,R2.ins _ _ k3,GW (by rw[k2.len,Z.len];exact hl),fun l U=>q _ _ _ (R2.drop.drop.Z7 ⟨_,rfl,k2.app Z⟩ U)⟩
  .cases T
 .cases T
end
end L2
set_option maxHeartbeats 4000000
namespace L2
open PySem PySem.Spec PyProof.Rows
section
variable{X:Cx}
theorem cf{pins:Da}{σ:St}{H:Hp}{s:IN}(I:Db){t:Tr}{v:V}{u:Nh}(h:Tv H t v)(r:RelV v u):∃a g,u=.ref a/\s.heap.IsTuple a g.toArray/\TH.Vs s.heap t g:=by
 obtain⟨a,ys,rfl,Y,U⟩:=h;obtain⟨g,T,p,_⟩:=I.tuple (BI.of (K:=X.K) Y);exact⟨a,g,r,p,U.vs I T⟩
open Classical in
end
end L2
set_option maxHeartbeats 1000000
set_option maxHeartbeats 4000000
namespace ZT
open PySem PyProof.Rows
def NJ(h:Heap)(z TI TO T:Addr)(b:Bool):Prop:=h.get? z=some { cls:=.type "zip",data:=.fields #[rawInt T,.bool b,.bool false,.ref TI,.ref TO]}/\∃o,h.get? T=some o
section
variable{prog:Io}{w:Mw}{A:Re}{E:AT}{s:IN}{z TI TO T i1 i2:Addr}{f1 f2:al}{n1 n2 k:Nat}{P1 P2:Nat->Value->Prop}{S1 S2:Nat->Heap->Prop}{b:Bool}
theorem X8{Q:jp}(hz:NJ s.heap z TI TO T b)(Z:T≠z)(q:∀h',NJ h' z TI TO T true->Heap.SameBut z s.heap h'->Q false Pz):wpAny At A (Builtin.SmallTypes.ownedTupleIsFree SC) Q E s:=by
 obtain⟨hz,o,g⟩:=hz;unfold Builtin.SmallTypes.ownedTupleIsFree;refine aA (aW hz rfl (x:=rawInt T) rfl ?_);show wpAny _ _ (loadIfAlive (Int.toNat (T:Int))>>=_) _ _ _;rw[Int.toNat_natCast];refine aA (PySem.W.kdx_alive g ?_);show wpAny _ _ (field SC 1>>=_) _ _ _;refine aA (aW hz rfl (x:=.bool b) rfl ?_);cases b with
 |true=>exact aA (aB (aB (q _ ⟨hz,o,g⟩ (Heap.SameBut.refl ..))))
 |false=>
  show wpAny _ _ (setField SC 1 KM>>=_) _ _ _;refine aA (aj hz Ch fun g1 Y U=>aB (q g1 ⟨Y,o,(U.2 _ Z).trans g⟩ U))
theorem Z8{Q:AT}(D1:uR)(Z:uS)(ap:sw)(hz:NJ s.heap z TI TO T b)(hI:Nk)
 (hT:T≠z/\T≠i1/\T≠i2)(t1:S1 k s.heap)(t2:S2 k s.heap)(l1:k<n1)(l2:k<n2)
 (q:∀x y h' tk,P1 k x->P2 k y->NJ h' z TI TO T true->S1 oF h'->S2 oF h'->IsPair h' s.heap.objs.size x y->h'.objs.size=s.heap.objs.size+1 ->
   (∀c o,c≠z->c≠i1->c≠i2->s.heap.get? c=some o->h'.get? c=some o)->Q GE KT) :
  wpAny At A cr (fun fin s'=>∃v,fin=.done (.ret v)/\Q v s') E s:=by
 obtain⟨⟨c1,c2,c3,c4⟩,⟨c5,c6,c7⟩,⟨c8,c9,c10⟩,⟨d1,d2,d3⟩,d4,d5,d6⟩:=ap;show wpAny _ _ (field SC 2>>=_) _ _ _;refine aA (aW hz.1 rfl (x:=.bool false) rfl ?_);show wpAny _ _ (field SC 3>>=_) _ _ _;refine aA (aW hz.1 rfl (x:=.ref TI) rfl (aA (aV hI rfl ?_)));show wpAny _ _ uc _ _ _;refine aA (X8 hz hT.1 fun g1 z1 g=>?_);simp only[Bool.false_eq_true,if_false];have g:Heap.SameBut z s.heap g1:=g;rw[<-Array.forIn_toList];simp only[List.forIn_cons,List.forIn_nil];refine aA (aA (aA (aR ?_)));show wpAny _ _ im _ _ _;refine aA (D1.item k _ _ _ l1 (D1.frame _ _ _ t1 (An d1 g)) fun x g2 tk2 p1 u1 U=>aB ge);have U:Heap.SameBut i1 g1 g2:=U;have t2':S2 k g2:=Z.frame _ _ _ (Z.frame _ _ _ t2 (An d4 g)) (An d6 U);refine aA (aA (aR ?_));show wpAny _ _ WF _ _ _;refine aA (Z.item k _ _ _ l2 t2' fun y Y tk4 p2 u2 m4=>aB (aB ge));have m4:Heap.SameBut i2 g2 Y:=m4;show wpAny _ _ (newTuple [x,y]>>=_) _ _ _;refine aA (wpAny_newTuple (hsz:=by rw[sizeLine_eq];show(2:Nat)<=_;decide) ?_);have sz:Y.objs.size=s.heap.objs.size:=by rw[m4.1,U.1,g.1]
 have kp:∀c o,c≠i1->c≠i2->g1.get? c=some o->(Y.push { cls:=.type "tuple",data:=.seq #[x,y]}).get? c=some o:=fun c o e3 e4 e=>aF _ ((m4.2 _ e4).trans ((U.2 _ e3).trans e));obtain⟨z1,o,ho⟩:=z1;have fin:=q x y (Y.push { cls:=.type "tuple",data:=.seq #[x,y]}) tk4 p1 p2 ⟨kp _ _ c8.symm c9.symm z1,o,kp _ _ hT.2.1 hT.2.2 ho⟩ (D1.frame _ _ _ (D1.frame _ _ _ u1 (An d3 m4)) fun c hc o e=>aF _ e) (Z.frame _ _ _ u2 fun c hc o e=>aF _ e)
  (by rw[<-sz];exact aL _ rfl) (by rw[<-sz,Heap.size_push]) fun c o e1 e3 e4 e=>kp c o e3 e4 ((g.2 _ e1).trans e)
 rw[<-sz]at fin;exact aB ⟨_,rfl,fin⟩
theorem eZ{Q:Fin->Shared->Prop}(D1:uR)(D2:uS)(ap:sw)(hz:NJ s.heap z TI TO T b)(hI:Nk)
 (hT:T≠z)(t1:S1 k s.heap)(t2:S2 k s.heap)(he:k=n1\/(k<n1/\k=n2))
 (q:∀h' e tk,(∀c o,c≠z->c≠i1->c≠i2->s.heap.get? c=some o->h'.get? c=some o)->(∃o,h'.get? e=some o/\o.cls=.type "StopIteration")->E (.ref e) KT) :
  wpAny At A cr Q E s:=by
 obtain⟨⟨c1,c2,c3,c4⟩,⟨c5,c6,c7⟩,⟨c8,c9,c10⟩,⟨d1,d2,d3⟩,d4,d5,d6⟩:=ap;show wpAny _ _ (field SC 2>>=_) _ _ _;refine aA (aW hz.1 rfl (x:=.bool false) rfl ?_);show wpAny _ _ (field SC 3>>=_) _ _ _;refine aA (aW hz.1 rfl (x:=.ref TI) rfl (aA (aV hI rfl ?_)));show wpAny _ _ uc _ _ _;refine aA (X8 hz hT fun g1 z1 Y=>?_);simp only[Bool.false_eq_true,if_false];have Y:Heap.SameBut z s.heap g1:=Y;rw[<-Array.forIn_toList];simp only[List.forIn_cons,List.forIn_nil];refine aA (aA (aA (aR ?_)));show wpAny _ _ im _ _ _;have g:=D1.frame _ _ _ t1 (An d1 Y);rcases he with he|⟨he1,he2⟩
 .rw[he]at g;refine aA (D1.done _ _ _ g fun g2 e U ho=>?_);exact q g2 e _ (fun c o e1 e3 e4 y=>U _ _ e3 ((Y.2 _ e1).trans y)) ho
 .refine aA (D1.item k _ _ _ he1 g fun x g2 tk2 p1 u1 U=>aB ge);have U:Heap.SameBut i1 g1 g2:=U;have Z:S2 k g2:=D2.frame _ _ _ (D2.frame _ _ _ t2 (An d4 Y)) (An d6 U);rw[he2]at Z;refine aA (aA (aR ?_));show wpAny _ _ WF _ _ _;refine aA (D2.done _ _ _ Z fun g4 e m4 ho=>?_);exact q g4 e _ (fun c o e1 e3 e4 y=>m4 _ _ e4 ((U.2 _ e3).trans ((Y.2 _ e1).trans y))) ho
theorem Zk{Q:Of}(D1:lp)(D2:lv)(ap:sw)(hz:NJ s.heap z TI TO T b)(hI:Nk)
 (hT:T≠z/\T≠i1/\T≠i2)(t1:S1 k s.heap)(U:S2 k s.heap)(l1:k<n1)(l2:k<n2)
 (q:∀x y h' tk,P1 k x->P2 k y->NJ h' z TI TO T true->S1 oF h'->S2 oF h'->IsPair h' s.heap.objs.size x y->h'.objs.size=s.heap.objs.size+1 ->
   (∀c o,c≠z->c≠i1->c≠i2->s.heap.get? c=some o->h'.get? c=some o)->Q (some GE) KT) :
  wpAny At A (pyNext SC) Q E s:=by
 have g:s.TypeIs SC "zip" := ⟨_,hz.1,rfl⟩;unfold pyNext;exact aA (bW (aZ (name:=Str.ofString "__next__") g bJ
  (aY bJ g F.entry_zip_next (Z8 D1 D2 ap hz hI hT t1 U l1 l2 fun x y h' tk r1 r2 r3 r4 r5 r6 Z Y=>aB (q x y h' tk r1 r2 r3 r4 r5 r6 Z Y)) (F.args_zip_next_1 _))))
theorem US{Q:Of}(D1:lp)(D2:lv)(ap:sw)(hz:NJ s.heap z TI TO T b)(hI:Nk)
 (hT:T≠z)(t1:S1 k s.heap)(Y:S2 k s.heap)(Z:k=n1\/(k<n1/\k=n2))
 (q:∀h' tk,(∀c o,c≠z->c≠i1->c≠i2->s.heap.get? c=some o->h'.get? c=some o)->Q none KT) :
  wpAny At A (pyNext SC) Q E s:=by
 have g:s.TypeIs SC "zip" := ⟨_,hz.1,rfl⟩;unfold pyNext;refine aA (bW (aZ (name:=Str.ofString "__next__") g bJ
  (aY bJ g F.entry_zip_next (eZ D1 D2 ap hz hI hT t1 Y Z fun h' e tk kp U=>?_) (F.args_zip_next_1 _))))
 obtain⟨o,U,hc⟩:=U;exact aA (wpAny_isInstance (T := "StopIteration") (b:=true) ⟨o,U,hc⟩ isSubtype_stop (aB (q _ _ kp)))
end
end ZT
namespace TH
open PySem PyProof.Rows
section
variable{prog:Io}{w:Mw}{A:Re}{E:AT}{s:IN}{z TI TO i1 i2 d:Addr}{f1 f2:al}{P1 P2:Nat->Value->Prop}{S1 S2:Nat->Heap->Prop}
def Vu(h:Heap)(z TI TO d:Addr):Prop:=(IsZip h z TI TO .none/\∃a b,IsPair h TO a b)\/∃T b,ZT.NJ h z TI TO T b/\d<T
theorem Vu.keep{h h':Heap}(st:Vu h z TI TO d)(hz:z<d)(Z:TO<d)(e:Heap.SameBut d h h'):Vu h' z TI TO d:=by
 rcases st with ⟨U,a,b,g⟩|⟨T,b,⟨U,o,g⟩,Y⟩
 .exact .inl ⟨(e.2 _ (aJ hz)).trans U,a,b,(e.2 _ (aJ Z)).trans g⟩
 .exact .inr ⟨T,b,⟨(e.2 _ (aJ hz)).trans U,o,(e.2 _ (aq Y)).trans g⟩,Y⟩
structure gV(z TI TO i1 i2 d:Addr):Prop where
 z:z<d
 I:TI<d
 O:TO<d
 a:i1<d
 b:i2<d
theorem pH{n1 n2 k:Nat}{Q:Of}(lw:gV z TI TO i1 i2 d)(hd:d<s.heap.objs.size)(D1:lp)(D2:lv)(ap:ZT.Apart z TI TO i1 i2 f1 f2)(st:Vu s.heap z TI TO d)(hI:Nk)
 (t1:S1 k s.heap)(t2:S2 k s.heap)(l1:k<n1)(l2:k<n2)
 (q:∀x y h' tk,P1 k x->P2 k y->Vu h' z TI TO d->S1 oF h'->S2 oF h'->IsPair h' s.heap.objs.size x y->h'.objs.size=s.heap.objs.size+1 ->
   (∀c o,c≠z->c≠TO->c≠i1->c≠i2->s.heap.get? c=some o->h'.get? c=some o)->Q (some GE) KT) :
  wpAny At A (pyNext SC) Q E s:=by
 rcases st with ⟨h1,a,b,h2⟩|⟨T,b,h1,U⟩
 .exact ZT.next_item D1 D2 ap h1 hI h2 t1 t2 l1 l2 fun x y h' tk r1 r2 r3 r4 r5 r6 g Z Y=>q x y h' tk r1 r2 (.inr ⟨_,false,⟨r3,_,g⟩,hd⟩) r5 r6 g Z Y
 .exact ZT.Zk D1 D2 ap h1 hI ⟨aq (bj lw.z U),Nat.ne_of_gt (bj lw.a U),Nat.ne_of_gt (bj lw.b U)⟩ t1 t2 l1 l2 fun x y h' tk r1 r2 r3 r5 r6 g Z Y=>q x y h' tk r1 r2 (.inr ⟨T,true,r3,U⟩) r5 r6 g Z fun c o e1 e2 e3 e4 e=>Y c o e1 e3 e4 e
theorem Zh{g Z k:Nat}{Q:Of}(lw:gV z TI TO i1 i2 d)(D1:Draws prog w A.in1 i1 f1 g P1 S1)(D2:Draws prog w A.in1 i2 f2 Z P2 S2)(ap:ZT.Apart z TI TO i1 i2 f1 f2)(st:Vu s.heap z TI TO d)(hI:Nk)
 (t1:S1 k s.heap)(Y:S2 k s.heap)(he:k=g\/(k<g/\k=Z))
 (q:∀h' tk,td->Q none KT) :
  wpAny At A (pyNext SC) Q E s:=by
 rcases st with ⟨U,a,b,h2⟩|⟨T,b,U,h3⟩
 .exact ZT.next_end D1 D2 ap U hI h2 t1 Y he q
 .exact ZT.US D1 D2 ap U hI (aq (bj lw.z h3)) t1 Y he fun h' tk kp=>q h' tk fun c o e1 e2 e3 e4 e=>kp c o e1 e3 e4 e
end
end TH
set_option maxHeartbeats 1000000
set_option maxHeartbeats 4000000
set_option maxHeartbeats 1000000
set_option maxHeartbeats 2000000
namespace L2
open PySem PySem.Spec PyProof.Rows
abbrev TB:=St->Hp->(Hp->Prop)->XK->Prop
def gT(X:Cx)(st:Stmt)(t:TB):Prop:=∀(pins:Da) (s:IN) (σ:St) (H:Hp) (N:Hp->Prop) (E:XK),Inv X pins σ H s->t σ H N E->wpAny EQ X.A (exec st X.env) (fun f s'=>f=.next/\∃H',Inv X pins σ H' s'/\N H') (Us X pins σ E) s
def WI(X:Cx)(g:tY)(t:TB):Prop:=∀(pins:Da) (s:IN) (σ:St) (H:Hp) (N:Hp->Prop) (E:XK),Inv X pins σ H s->t σ H N E->wpAny EQ X.A (execs g X.env) (fun f s'=>f=.next/\∃H',Inv X pins σ H' s'/\N H') (Us X pins σ E) s
section
variable{X:Cx}{st:Stmt}{rest a b:tY}{t u:TB}{e c:Expr}{pos:Pos}
theorem jC:WI X [] (fun _ H N _=>N H):=fun _ _ _ H _ _ I h=>wpAny_execs_nil ⟨rfl,H,I,h⟩
theorem eQ(Y:gT X st t)(U:WI X rest u):WI X (st::rest) (fun σ H N E=>t σ H (fun g=>u σ g N E) E):=by
 intro pins s σ H N E I h;refine wpAny_execs_cons (BU (Y pins s σ H _ E I h) fun f s1 q=>?_);obtain⟨rfl,g,Z,T⟩:=q;exact U pins s1 σ g N E Z T
theorem i7{T:TX}(Z:qU X e T)(Y:swapsWith e none pos.line X.env=pure false:=by rfl):gT X (.Expr e pos) (fun σ H N E=>T σ H (fun _ g=>N g) E):=by
 intro pins s σ H N E I h;exact wpAny_Expr_any (BU (Z pins s σ H _ E I h) fun v s1 ⟨x,g,I1,r1,U⟩=>⟨rfl,g,I1,U⟩) I.quiet Y
theorem oa{T:TT}(Z:PT X.JL c T)(ha:WI X a t)(hb:WI X b u):gT X (.If c a b pos) (fun σ H N E=>T σ H fun d g=>if d=true then t σ g N E else u σ g N E):=by
 intro pins s σ H N E I h;refine wpAny_If (aX (Z pins s σ H _ (I.He _) h) (fun d s1 ⟨g,Y,U⟩=>?_) fun _ _ z=>z.elim);cases d with
 |true=>exact ha pins s1 σ g N E Y.EZ U
 |false=>exact hb pins s1 σ g N E Y.EZ U
def oo(X:Cx)(k:Nat)(T:List ExceptHandler)(t:TB):TS:=fun D σ H=>t σ H (fun U=>D.nx σ U) fun cls _ H'=>∃C,cls=.ref C/\∀ea,∃g,U1 X C ea k T g/\(H' ea=none->g (Yo D k) (σ.set k (some (.ref ea))) (upd H' ea (NC ea cls)))
theorem jG{U:tY}{k:Nat}{h0:ExceptHandler}{hs:List ExceptHandler}(he:WI X U t)(hN:X.N.Nodup)(Z:oN)(hstk:∃rest,X.stack=X.env::rest)(hfr:X.env.frame=some X.env.locals):PS X (.Try U (h0::hs) [] [] pos) (oo X k (h0::hs) t):=by
 intro pins s σ H D I h;refine wpAny_Try_except (aX (he pins s σ H _ _ I h) (fun f s1 q=>?_) fun ev s1 hf=>?_)
 .obtain⟨rfl,H1,I1,q1⟩:=q;exact wpAny_execs_nil ⟨_,H1,I1,q1⟩
 .obtain⟨H0,s0,I,ea,cls,a0,H',B,ee,F,C,hc,q⟩:=hf;subst ee hc;obtain⟨rest,g⟩:=hstk;have F1:=F.oK;rw[g]at F1;have hfrm:X.A.frames=some (X.env::rest):=by rw[<-g];exact I.ok.frames
  refine wpAny_looks_onW hfrm hfr F1 fun h4 Y up4=>?_;refine wpAny_landsW Y fun h5 fl5 up5=>?_;have T:=up4.trans up5;have I5:Inv X pins σ H' {s1 with heap:=h5,toks:=s1.toks}:=land I F fl5.1 T;obtain⟨tb,q1,q2⟩:=q ea;exact eL hN Z I F g hfr fl5 T I5 q1 q2
end
abbrev FB:=Dv->Option (Option Addr)
def nJ(G0 H0:Hp)(σ:St)(δ:Dv)(N:Hp->Prop)(E:XK):Option Addr->Prop
 |none=>∀g H',Rw G0 H0 g H' σ δ []->N H'
 |some C=>∀g H',Rw G0 H0 g H' σ δ []->E Pi none H'
def mz(X:Cx)(st:Stmt)(F:FB):Prop:=∃t,gT X st t/\∀δ r,F δ=some r->∀G0 H0 G H σ N E,Rw G0 H0 G H σ δ []->nJ G0 H0 σ δ N E r->t σ H N E
def DB(X:Cx)(g:tY)(F:FB):Prop:=∃t,WI X g t/\∀δ r,F δ=some r->∀G0 H0 G H σ N E,Rw G0 H0 G H σ δ []->nJ G0 H0 σ δ N E r->t σ H N E
def Vy:FB:=fun _=>some none
def Qe(g F2:FB):FB:=fun δ=>(g δ).bind fun r=>match r with
 |none=>F2 δ
 |some C=>some (some C)
def PK(m:Do)(fs:Go):FB:=fun δ=>((fs δ).bind m).map fun r=>match r with
 |.inl _=>none
 |.inr C=>some C
def Zj(c:NE)(g F2:FB):FB:=fun δ=>(c δ).bind fun b=>if b=true then g δ else F2 δ
section
variable{X:Cx}{st:Stmt}{rest a b:tY}{e c:Expr}{es:Ov}{fs:Go}{fc:NE}{F1 F2:FB}{pos p spos:Pos}
theorem Vk:DB X [] Vy:=⟨_,jC,fun δ r h G0 H0 G H σ N E R q=>by cases h;exact q _ _ R⟩
theorem SX(h1:mz X st F1)(h2:DB X rest F2):DB X (st::rest) (Qe F1 F2):=by
 obtain⟨t1,Y,k1⟩:=h1;obtain⟨t2,U,Z⟩:=h2;refine⟨_,eQ Y U,fun δ r h G0 H0 G H σ N E R q=>?_⟩;obtain⟨g,h3,T⟩:=aC.mp h;refine k1 δ g h3 G0 H0 G H σ _ E R ?_;cases g with
 |none=>exact fun G' H' R'=>Z δ r T G0 H0 G' H' σ N E R' q
 |some C=>cases T;exact q
theorem oS(hc:DT X.JL c fc)(ha:DB X a F1)(hb:DB X b F2):mz X (.If c a b pos) (Zj fc F1 F2):=by
 obtain⟨tc,pc,kc⟩:=hc;obtain⟨t1,Z,k1⟩:=ha;obtain⟨t2,Y,k2⟩:=hb;refine⟨_,oa pc Z Y,fun δ r h G0 H0 G H σ N E R q=>?_⟩;obtain⟨d,h3,g⟩:=aC.mp h;refine kc δ d h3 G0 H0 G H σ [] _ R fun U H' T=>?_;cases d with
 |true=>exact k1 δ r g G0 H0 U H' σ N E T q
 |false=>exact k2 δ r g G0 H0 U H' σ N E T q
theorem Xw{g:Nat}{fA:Addr}{fd:IR}{ps:MA}{m:Do}{x:Str}{st':Stmt}(T:Fn X.K X.mg x st' ps fA fd)(F:AH X.prog X.w X.K X.mg X.base (CK X.prog X.w) g fA fd ps (Ep m))(hr:DC g X.A)(ha:DA X.JL ur fs)
 (hg:Gl X x:=by rfl)(Z:Id=false:=by decide)(he:starEach ur X.env=MR::starEach es X.env:=by rfl)(Y:(backTo pos SE).any cx=false:=by rfl)
 (U:swapsWith Iv none spos.line X.env=pure false:=by rfl):mz X (.Expr Iv spos) (PK m fs):=by
 obtain⟨ta,pa,ka⟩:=ha;refine⟨_,i7 (kQ T F hr hg pa Z he Y) U,fun δ r h G0 H0 G H σ N E R q=>?_⟩;obtain⟨w,h1,rfl⟩:=aD.mp h;refine V2 (k:=g) ka h1 R (fun x hx v G' H' R'=>?_) (fun C hC G' H' R'=>?_)
 .subst hx;exact q _ _ R'.drop
 .subst hC;exact q _ _ R'
end
abbrev Uv(k:Nat)(F:FB)(g:DF):DF:=fun δ=>(F δ).bind fun r=>match r with
 |none=>some (.nx δ)
 |some C=>(g (δ.set k (.d (GZ C)))).bind (oH k)
theorem iD{X:Cx}{k:Nat}{g:tY}{F:FB}{Fh:DF}{Z n:Str}{Gx:Addr}{np hpos tp:Pos}{b0:Stmt}{suite:tY}(hb:DB X g F)(hN:X.N.Nodup)(hB:∀δ C,F δ=some (some C)->HD X.K C Gx true)(hm:X.mg Z=some (.ref Gx))(hs:∀ea,Mf (X.held ea) (b0::suite) Fh)
 (T:X.calm=true:=by rfl)(U:∃rest,X.stack=X.env::rest:=by exact⟨_,rfl⟩)(hfr:X.env.frame=some X.env.locals:=by rfl)(hg:Gl X Z:=by rfl)(hd:(Z==("__debug__" : Str))=false:=by decide)(hk:X.N[k]? = some n:=by rfl)(hln:X.env.scope.names.lookup n=some .local:=by rfl) :
  DS X (.Try g [.ExceptHandler (some (.Name Z np)) (some n) (b0::suite) hpos] [] [] tp) (Uv k F Fh):=by
 obtain⟨tb,pb,kb⟩:=hb;refine⟨_,jG (k:=k) pb hN T U hfr,fun δ r h G0 H0 G H σ D R q=>?_⟩;obtain⟨w,h1,h2⟩:=aC.mp h;refine kb δ w h1 G0 H0 G H σ _ _ R ?_;cases w with
 |none=>cases h2;exact fun G' H' R'=>q _ _ _ R'
 |some C=>
  intro G' H' R';refine⟨C,rfl,fun ea=>?_⟩;obtain⟨th,p1,p2⟩:=hs ea;refine⟨th,.hit hg hm hd (hB δ C h1) hk hln p1,fun hea=>?_⟩;obtain⟨o,h3,Y⟩:=aC.mp h2;have R2:=R'.newObj (o:=NC ea Pi) hea;have de:Du (upd G' ea (NC ea Pi)) (GZ C) (.ref ea):=by unfold GZ;rw[Du];exact .inl ⟨ea,C,rfl,rfl,AR⟩
  refine p2 _ o h3 G0 H0 _ _ _ _ ((R2.put de).Hc) ?_;cases o with
  |nx δ'=>cases Y;exact fun σ4 G4 H4 R4=>q _ _ _ (R4.pk k none)
  |rt v=>cases Y
  |bk v=>cases Y
  |ct v=>cases Y
  |rn v=>cases Y
section
variable{k:Nat}{F F1 F2:FB}{Fh:DF}{δ δ':Dv}{fs:Go}{m:Do}{ds:By}{c:NE}{r:Option (Option Addr)}
theorem Ve(h:F δ=some none):Uv k F Fh δ=some (.nx δ):=by show(F δ).bind _=_;rw[h];rfl
theorem VU{C:Addr}(h:F δ=some (some C))(z:Fh (δ.set k (.d (GZ C)))=some (.nx δ')):Uv k F Fh δ=some (.nx (δ'.set k .no)):=by
 show(F δ).bind _=_;rw[h];show(Fh (δ.set k (.d (GZ C)))).bind (oH k)=_;rw[z];rfl
theorem Oz(h:F1 δ=some none)(q:F2 δ=r):Qe F1 F2 δ=r:=by show(F1 δ).bind _=_;rw[h];exact q
theorem O0{C:Addr}(h:F1 δ=some (some C)):Qe F1 F2 δ=some (some C):=by show(F1 δ).bind _=_;rw[h];rfl
theorem gA(h:c δ=some true)(q:F1 δ=r):Zj c F1 F2 δ=r:=by show(c δ).bind _=_;rw[h];exact q
theorem f9(h:c δ=some false)(q:F2 δ=r):Zj c F1 F2 δ=r:=by show(c δ).bind _=_;rw[h];exact q
theorem VS{y:KB}(h:fs δ=some ds)(q:m ds=some (.inl y)):PK m fs δ=some none:=by show((fs δ).bind m).map _=_;rw[h];show(m ds).map _=_;rw[q];rfl
theorem WW{C:Addr}(h:fs δ=some ds)(q:m ds=some (.inr C)):PK m fs δ=some (some C):=by show((fs δ).bind m).map _=_;rw[h];show(m ds).map _=_;rw[q];rfl
def Cz(P:Addr->Prop)(F:FB):Prop:=∀δ C,F δ=some (some C)->P C
theorem Cz.at{P:Addr->Prop}{F:FB}(h:Cz P F):∀δ C,F δ=some (some C)->P C:=h
variable{P:Addr->Prop}
theorem Cz.nil:Cz P Vy:=fun δ C h=>by cases h
theorem Cz.seq(Z:Cz P F1)(Y:Cz P F2):Cz P (Qe F1 F2):=fun δ C h=>by
 obtain⟨T,U,g⟩:=aC.mp h;cases T with
 |none=>exact Y δ C g
 |some C'=>cases g;exact Z δ _ U
theorem Cz.if(U:Cz P F1)(T:Cz P F2):Cz P (Zj c F1 F2):=fun δ C h=>by
 obtain⟨b,_,g⟩:=aC.mp h;cases b with
 |true=>exact U δ C g
 |false=>exact T δ C g
theorem Cz.call(h:∀ds C,m ds=some (.inr C)->P C):Cz P (PK m fs):=fun δ C z=>by
 obtain⟨w,U,g⟩:=aD.mp z;obtain⟨ds,_,T⟩:=aC.mp U;cases w with
 |inl y=>cases g
 |inr Y=>cases g;exact h ds _ T
end
end L2
set_option maxHeartbeats 4000000
set_option maxHeartbeats 1000000
namespace L2
open PySem PySem.Spec PyProof.Rows
theorem oq{G:Hp}{x:KB}{t:Tr}{v:V}(h:HY x=some t)(d:Du G x v):Tv G t v:=by
 cases x with
 |tuple U=>
  rw[HY]at h;have:=Mo h;subst this;rw[Du]at d;obtain⟨a,xs,rfl,T,g⟩:=d;exact⟨a,xs,rfl,T,LD g⟩
 |_=>simp[HY]at h
end L2
set_option maxHeartbeats 4000000
namespace TH
open PySem PyProof.Rows
theorem U6:typeLookup (.type "zip") "__len__" = pure none:=by rw[typeLookup_type,builtinLookup_eq_fast];kernel_rfl
theorem UX:typeLookup (.type "zip") "__length_hint__" = pure none:=by rw[typeLookup_type,builtinLookup_eq_fast];kernel_rfl
section
variable{prog:Io}{w:Mw}{A:Re}{E:AT}{s:IN}{z TI TO i1 i2 S n:Addr}
theorem ef{Q:jp}(g:s.TypeIs SC "zip")(h:Q true s):wpAny At A (Builtin.List.listLengthHint SC) Q E s:=by
 unfold Builtin.List.listLengthHint;refine aA (bU g U6 ?_);exact aA (bU g UX (aB h))
def YX(us vs:FS)(lo:Addr)(h:Heap)(as:al):Prop:=∀(j:Nat) (a:Addr),as[j]? = some a->lo<a/\∃x y,us[j]? = some x/\vs[j]? = some y/\IsPair h a x y
theorem ou{R:Result->Shared->Prop}{b1 b2:Bool}{l1 l2:Addr}{us vs:FS}{h0:Heap}(hh:A.handled=none)(lw:gV z TI TO i1 i2 S)(hn:n<=z/\n<=TI/\n<=TO/\n<=i1/\n<=i2)(ap:ZT.Apart z TI TO i1 i2 [i1,l1] [i2,l2])
 (n1:l1≠i1)(n2:l2≠i2)(m1:l1<n)(m2:l2<n)(e2:vs.length=us.length)(hs:us.length<=sizeLine)(res:Nh)
 (hR:∀h' tk T c as,(∀c o,c<n->h0.get? c=some o->h'.get? c=some o)->h'.get? S=some { cls:=.type "list",dict:=none,data:=.seq T c,slots:=#[]}->as.length=us.length->YX us vs S h' as->as.Nodup->T.toList=as.map Value.ref->R (.ok (.ret res)) KT) :
  ∀(m i:Nat) (h:Heap) (tk c:Nat) (T:Array Value) (as:al),us.length-i=m->i<=us.length->Vu h z TI TO S->IsPair h TI (.ref i1) (.ref i2)->ZT.JA b1 h i1 l1 i/\ZT.Sq b1 h l1 us->ZT.JA b2 h i2 l2 i/\ZT.Sq b2 h l2 vs->(∀c o,c<n->h0.get? c=some o->h.get? c=some o) ->
   h.get? S=some { cls:=.type "list",dict:=none,data:=.seq T c,slots:=#[]}->T.toList=as.map Value.ref->as.length=i->YX us vs S h as->as.Nodup ->
   codeAny At A (.builtin "list.extend.loop" ⟨[.ref S,.ref z,res],[]⟩) R {s with heap:=h,toks:=tk}:=by
 have D1:=ZT.EG (prog:=prog) (w:=w) (A:=A.in1.in1) hh b1 i1 l1 us n1;have D2:=ZT.EG (prog:=prog) (w:=w) (A:=A.in1.in1) hh b2 i2 l2 vs n2;have low:∀c:Addr,c<n->c≠z/\c≠TO/\c≠i1/\c≠i2:=fun c g=>⟨aJ (aH g hn.1),Nat.ne_of_lt (aH g hn.2.2.1),Nat.ne_of_lt (aH g hn.2.2.2.1),Nat.ne_of_lt (aH g hn.2.2.2.2)⟩;have Y:∀c:Addr,S<=c->c≠z/\c≠TO/\c≠i1/\c≠i2:=fun c g=>⟨aq (aH lw.z g),Nat.ne_of_gt (aH lw.O g),Nat.ne_of_gt (aH lw.a g),Nat.ne_of_gt (aH lw.b g)⟩;intro m
 induction m with
 |zero=>
  intro i h tk c T as hm hi st hI t1 t2 kp hS ha hl hG nda;have hin:i=us.length:=by lia
  subst hin;refine codeAny_builtin PySem.F.entry_extend_loop ?_;rw[Around.under_plainId PySem.F.plain_extend_loop _];show wpAny _ A.in1 (pyNext SC>>=_) _ _ _;refine aA (Zh (s:={s with heap:=h,toks:=tk}) (A:=A.in1) lw D1 D2 ap st hI t1 t2 lm fun h' Z kp'=>?_);have up:∀c o,c≠z/\c≠TO/\c≠i1/\c≠i2->h.get? c=some o->h'.get? c=some o:=fun c o q e=>kp' c o q.1 q.2.1 q.2.2.1 q.2.2.2 e;refine aB (hR h' Z T c as (fun c o g e=>up c o (low c g) (kp c o g e)) (up S _ (Y S em) hS) hl (fun j a U=>?_) nda ha);obtain⟨r1,x,y,r2,r3,r4⟩:=hG j a U;exact⟨r1,x,y,r2,r3,up a _ (Y a (bD r1)) r4⟩
 |succ m ih=>
  intro i h tk c T as hm hi st hI t1 t2 kp hS ha hl hG nda;have hlt:i<us.length:=by lia
  have hsz:T.size=i:=by rw[<-Array.length_toList,ha,List.length_map,hl]
  have hSl:S<h.objs.size:=aG hS;refine codeAny_builtin PySem.F.entry_extend_loop ?_;rw[Around.under_plainId PySem.F.plain_extend_loop _];show wpAny _ A.in1 (pyNext SC>>=_) _ _ _;refine aA (pH (s:={s with heap:=h,toks:=tk}) (A:=A.in1) lw hSl D1 D2 ap st hI t1 t2 hlt AS fun x y h' Z r1 r2 r3 r4 r5 r6 r7 r8=>?_);dsimp only at r6 r7 r8 ⊢;have kp1:∀c o,c≠z/\c≠TO/\c≠i1/\c≠i2->h.get? c=some o->h'.get? c=some o:=fun c o q e=>r8 c o q.1 q.2.1 q.2.2.1 q.2.2.2 e;have hS':=kp1 S _ (Y S em) hS;have sb:Heap.SameBut S h' (h'.update S (Obj.mapSeq (·.push (Value.ref h.objs.size)))):=ah ..;have up:∀b o,b≠S->h'.get? b=some o->(h'.update S (Obj.mapSeq (·.push (Value.ref h.objs.size)))).get? b=some o:=fun b o hb e=>(sb.2 b hb).trans e;have hT:=up _ _ (aq hSl) r6;have nS:n<S:=aS hn.1 lw.z;show wpAny _ A.in1 (updateSeq S (·.push (Value.ref h.objs.size))>>=_) _ _ _;refine aA (wpAny_updateSeq hS' rfl (aB ⟨plainId_quiet PySem.F.plain_extend_loop _,?_⟩) (by rw[hsz];lia) (by show(T.push (Value.ref h.objs.size)).size<=sizeLine+1;rw[Array.size_push,hsz];lia));refine ih SL _ Z _ (T.push (Value.ref h.objs.size)) (as++[h.objs.size]) AS hlt (r3.keep lw.z lw.O sb) (up _ _ (aJ lw.I) (r8 _ _ ap.a1.1 ap.a1.2.1 ap.a1.2.2.1 ap.a1.2.2.2 hI))
   (D1.frame _ _ _ r4 fun c g o e=>up c o ?_ e) (D2.frame _ _ _ r5 fun c g o e=>up c o ?_ e) (fun c o g e=>up c o (aJ (bj g nS)) (kp1 c o (low c g) (kp c o g e)))
   (bN _ hS' rfl) (by rw[Array.toList_push,ha,List.map_append];rfl) (by rw[List.length_append,hl];rfl) (fun j b U=>?_) ?_
  .rcases aO.mp g with rfl|g
   .exact aJ lw.a
   .rw[List.mem_singleton.mp g];exact aJ (bj m1 nS)
  .rcases aO.mp g with rfl|g
   .exact aJ lw.b
   .rw[List.mem_singleton.mp g];exact aJ (bj m2 nS)
  .by_cases hj1:j<as.length
   .rw[List.getElem?_append_left hj1]at U;obtain⟨q1,x',y',q2,q3,q4⟩:=hG j b U;exact⟨q1,x',y',q2,q3,up b _ (aq q1) (kp1 b _ (Y b (bD q1)) q4)⟩
   .rw[List.getElem?_append_right AS]at U;have hj0:j-as.length=0:=by
     have:=(aE.mp U).1;simp at this
     lia
    rw[hj0]at U;have hb:h.objs.size=b:=by simpa using U
    subst hb;have hji:j=i:=by lia
    subst hji;exact⟨hSl,x,y,r1,r2,hT⟩
  .refine List.nodup_append.mpr ⟨nda,by simp,fun a ha b hb=>?_⟩;rw[List.mem_singleton.mp hb];obtain⟨j,U⟩:=ba.mp ha;obtain⟨_,_,_,_,_,q⟩:=hG j a U;exact aJ (aG q)
theorem jd{b1 b2 : Bool}{l1 l2 : Addr}{us vs : FS}{Q : AT}(hh : A.handled = none)(lw : gV z TI TO i1 i2 s.heap.objs.size)(hn : n<=z/\n<=TI/\n<=TO/\n<=i1/\n<=i2)(ap : ZT.Apart z TI TO i1 i2 [i1,l1] [i2,l2])
 (n1 : l1≠i1)(n2 : l2≠i2)(m1 : l1 < n)(m2 : l2 < n)(e2 : vs.length = us.length)(hs : us.length<=sizeLine)
 (hz : kS)(hI : Nk)(hO : IsPair s.heap TO .none .none)(t1 : ZT.JA b1 s.heap i1 l1 0)(p1 : ZT.Sq b1 s.heap l1 us)(t2 : ZT.JA b2 s.heap i2 l2 0)(p2 : ZT.Sq b2 s.heap l2 vs)
 (q : ∀ h' tk acc c as,(∀ c o,c < n->s.heap.get? c = some o->h'.get? c = some o)->h'.get? s.heap.objs.size = some { cls:=.type "list",dict:=none,data:=.seq acc c,slots:=#[] }->as.length = us.length->YX us vs s.heap.objs.size h' as->as.Nodup->acc.toList = as.map Value.ref->Q GE { s with heap:=h',toks:=tk }) :
    wpAny At A (call me [.ref z]) Q E s:=by
  refine callType_codes (Q₁:=fun obj s₁ => obj = .ref s.heap.objs.size/\s₁ = { s with heap:=s.heap.push { cls:=.type "list",data:=.seq #[] } }) PySem.F.called_list (PySem.F.typeCall_list_1 _) PySem.F.entry_list_init
    (code_list_new _ ⟨rfl,rfl⟩) fun obj s₁ h₁ => ?_
  obtain ⟨rfl,rfl⟩:=h₁
  have hS : (s.heap.push { cls:=.type "list",data:=.seq #[] }).get? s.heap.objs.size = some { cls:=.type "list",data:=.seq #[] }:=aL _ rfl
  refine ⟨⟨_,hS,rfl⟩,PySem.F.args_list_init_2 _ _,?_⟩
  show wpAny _ _ (do let old <- Builtin.List.listItems GE; Builtin.List.listUpdate GE (fun _ => #[]); letGo old.toList.reverse; Builtin.List.listExtendWith GE SC .none) _ _ _
  refine aA ?_
  unfold Builtin.List.listItems
  refine aA (aV hS rfl ge)
  show wpAny _ _ (updateSeq s.heap.objs.size (fun _ => #[]) >>= fun _ => letGo (#[] : Array Value).toList.reverse >>= fun _ => Builtin.List.listExtendWith GE SC .none) _ _ _
  refine aA (wpAny_updateSeq hS rfl ?_)
  have hS2:=bN (Obj.mapSeq (fun _ => (#[] : Array Value))) hS rfl
  have oth : ∀ b o,b < s.heap.objs.size->s.heap.get? b = some o->((s.heap.push { cls:=.type "list",data:=.seq #[] }).update s.heap.objs.size (Obj.mapSeq (fun _ => (#[] : Array Value)))).get? b = some o :=
    fun b o hb e => (Heap.get?_update_other _ _ (aq hb)).trans (aF _ e)
  generalize (s.heap.push { cls:=.type "list",data:=.seq #[] }).update s.heap.objs.size (Obj.mapSeq (fun _ => (#[] : Array Value))) = h2 at hS2 oth
  have oth' : ∀ b o,s.heap.get? b = some o->h2.get? b = some o:=fun b o e => oth b o (aG e) e
  refine aA (wpAny_letGo ?_)
  unfold Builtin.List.listExtendWith
  refine aA (wpAny_typeOf (T := "zip") ⟨_,oth' _ _ hz,rfl⟩ ?_)
  have k1 : Builtin.List.listSameRef GE SC = false:=by simp [Builtin.List.listSameRef,Nat.ne_of_gt lw.z]
  have k2 : (Value.type "zip" == Value.type "list") = false:=by decide
  have k3 : (Value.type "zip" == Value.type "tuple") = false:=by decide
  simp only [k1,k2,k3,Bool.or_false,Bool.false_eq_true,if_false]
  refine aA (wpAny_pyIter_zip (oth' _ _ hz) ?_)
  refine aA (aR (ef ⟨_,oth' _ _ hz,rfl⟩ ?_))
  refine wpAny_ite_split (fun _ => ?_) (fun hab => absurd Ch hab)
  refine aA (bR ?_)
  refine aA ?_
  show wpAny _ _ (updateSeq s.heap.objs.size (·.push .none) >>= fun _ => updateSeq s.heap.objs.size (·.pop)) _ _ _
  refine aA (wpAny_updateSeq hS2 rfl ?_)
  have hS3:=bN (Obj.mapSeq (·.push Value.none)) hS2 rfl
  refine wpAny_updateSeq (hz:=by seq_fits) hS3 rfl ?_
  have hS4:=bN (Obj.mapSeq (·.pop)) hS3 rfl
  have oth2 : ∀ b o,s.heap.get? b = some o->((h2.update s.heap.objs.size (Obj.mapSeq (·.push Value.none))).update s.heap.objs.size (Obj.mapSeq (·.pop))).get? b = some o:=fun b o e => (Heap.get?_update_other _ _ (aq (aG e))).trans ((Heap.get?_update_other _ _ (aq (aG e))).trans (oth' b o e))
  generalize (h2.update s.heap.objs.size (Obj.mapSeq (·.push Value.none))).update s.heap.objs.size (Obj.mapSeq (·.pop)) = h3 at hS4 oth2
  refine aB ⟨plainId_quiet PySem.F.plain_extend_loop _,?_⟩
  have:=ou (s:=s) (A:=A.in1) (prog:=prog) (w:=w) (h0:=s.heap) (b1 := b1) (b2 := b2) (S:=s.heap.objs.size) (R:=wants (fun r s₂ => r = .none/\Q GE s₂) E) hh lw hn ap n1 n2 m1 m2 e2 hs .none (fun h' tk acc c as r1 r2 r3 r4 r5 r6 => ⟨rfl,q h' tk acc c as r1 r2 r3 r4 r5 r6⟩) _ 0 h3 s.toks _ #[] [] rfl (bK _)
    (.inl ⟨oth2 _ _ hz,_,_,oth2 _ _ hO⟩) (oth2 _ _ hI) ⟨?_,?_⟩ ⟨?_,?_⟩ (fun c o _ e => oth2 c o e) hS4 rfl rfl (fun j a hj => by simp at hj) List.nodup_nil
  . exact this
  . cases b1 with
    | true => obtain ⟨o,q,r⟩:=(show s.heap.IsTupleIter i1 l1 0 from t1); exact (show h3.IsTupleIter i1 l1 0 from ⟨o,oth2 _ _ q,r⟩)
    | false => obtain ⟨o,q,r⟩:=(show s.heap.IsListIter i1 l1 0 from t1); exact (show h3.IsListIter i1 l1 0 from ⟨o,oth2 _ _ q,r⟩)
  . exact p1.keep fun o e => oth2 _ _ e
  . cases b2 with
    | true => obtain ⟨o,q,r⟩:=(show s.heap.IsTupleIter i2 l2 0 from t2); exact (show h3.IsTupleIter i2 l2 0 from ⟨o,oth2 _ _ q,r⟩)
    | false => obtain ⟨o,q,r⟩:=(show s.heap.IsListIter i2 l2 0 from t2); exact (show h3.IsListIter i2 l2 0 from ⟨o,oth2 _ _ q,r⟩)
  . exact p2.keep fun o e => oth2 _ _ e
end
end TH
namespace L2
open PySem PySem.Spec PyProof.Rows
def so(U:TA):TE:=fun σ H Q=>U σ H fun vs g=>∃(b1 b2:Bool) (a1 a2:Addr) (xs ys:HQ),vs=[.ref a1,.ref a2]/\B7 b1 g a1 xs/\B7 b2 g a2 ys/\ys.length=xs.length/\xs.length<=1000 /\
 ∀(S:Addr) (T:Hp) (as:al),AK g T->g S=none->T S=some (.lst (as.map V.ref))->as.length=xs.length->(∀(j:Nat) a x y,as[j]? = some a->xs[j]? = some x->ys[j]? = some y->g a=none/\T a=some (.tup [x,y]))->Q (.ref S) T
theorem qA{X:Cx}{a b:Expr}{ta:TA}{p p2 pos g:Pos}(hc:oN)(hgd:Gl X "list")(hmd:X.mg "list" = none)(hg:Gl X "zip")(hm:X.mg "zip" = none)(ha:PA X [a,b] ta)
 (he:starEach [.Call (.Name "zip" p2) [a,b] [] g] X.env=(false,eval (.Call (.Name "zip" p2) [a,b] [] g) X.env)::starEach [] X.env:=by rfl)(hpl:(backTo pos (starEach [] X.env)).any cx=false:=by rfl)
 (hs:starEach [a,b] X.env=[SZ,Pa]:=by rfl)(hs2:starEach [b] X.env=[Pa]:=by rfl) :
  PE X (.Call (.Name "list" p) [.Call (.Name "zip" p2) [a,b] [] g] [] pos) (so ta):=by
 intro pins s σ H Q I h;refine wpAny_Call_Name_kw (GR I hgd hmd boot_list ?_ BY BY);refine ak ?_ he hpl;rw[he];show wpAny _ _ (spliced ((false,eval (.Call (.Name "zip" p2) [a,b] [] g) X.env)::backTo pos (starEach [] X.env))) _ _ s;refine Calls.spliced_cons ?_;refine Call_ (GR I hg hm boot_zip (ak (BU (ha g pins s σ H _ I h) fun us s1 ⟨vs,H1,I1,r1,q1⟩=>?_) (by rw[hs,hs2]) (by rw[hs2];rfl)));obtain⟨b1,b2,l1,l2,xs,ys,e,h1,h2,e2,e3,q⟩:=q1;subst e;cases r1 with
 |cons r rr=>
  cases rr with
  |cons r' rr=>
   cases rr;cases r;cases r';obtain⟨us,rv1,p1⟩:=h1.raw I1;obtain⟨vs,rv2,p2⟩:=h2.raw I1;have Z:=p1.lt;have Y:=p2.lt;refine ZT.U4 p1 p2 fun h' z1 z2 z3 z4 z5 hkp=>?_;refine Calls.spliced_nil ?_;have s4:s1.heap.objs.size+4<h'.objs.size:=aG z1;have g1:∀m,m<=4->s1.heap.objs.size+m<h'.objs.size:=fun m hm=>aS (Nat.add_le_add_left hm _) s4;have ne:∀(x:Addr) m,x<s1.heap.objs.size->x≠s1.heap.objs.size+m:=fun x m hx=>aJ (aH hx (Nat.le_add_right _ _));have ap:ZT.Apart (s1.heap.objs.size+4) (s1.heap.objs.size+2) (s1.heap.objs.size+3) s1.heap.objs.size (s1.heap.objs.size+1) [s1.heap.objs.size,l1] [s1.heap.objs.size+1,l2]:=by
    refine⟨⟨by simp,by simp,by simp,by simp⟩,⟨by simp,by simp,by simp⟩,⟨by simp,by simp,by simp⟩,⟨?_,?_,?_⟩,?_,?_,?_⟩
    .simp[Ne.symm (ne l1 4 Z)]
    .simp[Ne.symm (ne l1 3 Z)]
    .simp[Ne.symm (ne l1 1 Z)]
    .simp[Ne.symm (ne l2 4 Y)]
    .simp[Ne.symm (ne l2 3 Y)]
    .simp only[List.mem_cons,List.not_mem_nil,or_false,not_or];exact⟨aJ (bX _),Nat.ne_of_gt Y⟩
   have ll:us.length=xs.length:=rv1.length.symm;have ll2:vs.length=ys.length:=rv2.length.symm;have sl:us.length<=sizeLine:=by rw[ll];exact aQ e3 PP
   refine TH.jd (s:={s1 with heap:=h'}) (n:=s1.heap.objs.size) (z:=s1.heap.objs.size+4) (TI:=s1.heap.objs.size+2) (TO:=s1.heap.objs.size+3) (i1:=s1.heap.objs.size) (i2:=s1.heap.objs.size+1) (b1:=b1) (b2:=b2) (us:=us) (vs:=vs) (I1.ok.hd hc)
    ⟨s4,g1 2 BY,g1 3 BY,g1 0 BY,g1 1 BY⟩ ⟨Nat.le_add_right _ _,Nat.le_add_right _ _,Nat.le_add_right _ _,Nat.le_refl _,Nat.le_add_right _ _⟩ ap (aJ Z) (ne l2 1 Y) Z Y AS sl
    z1 z2 z3 z4 (p1.keep fun o e=>hkp _ _ e) z5 (p2.keep fun o e=>hkp _ _ e) fun h2 tk acc c as kp hS hal hG nda hacc=>?_
   have le:s1.heap.objs.size<=h'.objs.size:=bD (g1 0 BY);have keep:∀b o,s1.heap.get? b=some o->h2.get? b=some o:=fun b o e=>kp b o (aG e) (hkp b o e);have at_:∀(j:Nat) T,as[j]? = some T->∃x y u v,xs[j]? = some x/\ys[j]? = some y/\RelV x u/\RelV y v/\h2.get? T=some { cls:=.type "tuple",data:=.seq #[u,v]}/\h'.objs.size<T:=fun j T U=>by
    obtain⟨k1,u,v,k2,k3,k4⟩:=hG j T U;have hj1:j<xs.length:=by rw[<-ll];exact(aE.mp k2).1
    have hj2:j<ys.length:=by rw[<-ll2];exact(aE.mp k3).1
    obtain⟨u',m1,m2⟩:=rv1.get (aM hj1);obtain⟨v',m3,m4⟩:=rv2.get (aM hj2);rw[k2]at m1;cases m1;rw[k3]at m3;cases m3;exact⟨_,_,u,v,List.getElem?_eq_getElem hj1,List.getElem?_eq_getElem hj2,m2,m4,k4,k1⟩
   let prs:Nat->Option HO:=fun j=>match xs[j]?,ys[j]? with|some x,some y=>some (.tup [x,y])|_,_=>none
   let H':Hp:=fun y=>if y=h'.objs.size then some (.lst (as.map V.ref)) else if y∈as then prs (as.idxOf y) else H1 y
   have hHD:H' h'.objs.size=some (.lst (as.map V.ref)):=if_pos rfl;have hHa:∀(j:Nat) T x y,as[j]? = some T->xs[j]? = some x->ys[j]? = some y->H' T=some (.tup [x,y]):=fun j T x y U hx hy=>by
    obtain⟨_,_,_,_,_,_,_,_,_,hlt⟩:=at_ j T U;show(if T=_ then _ else _)=_;rw[if_neg (aq hlt),if_pos (aK U)];have hi:as.idxOf T=j:=by
     have hm:=aK U;have hli:=List.idxOf_lt_length_iff.mpr hm;have e2:as[as.idxOf T]? = some T:=by rw[List.getElem?_eq_getElem hli,List.getElem_idxOf hli]
     exact(List.getElem?_inj hli nda).mp (e2.trans U.symm)
    rw[hi];show(match xs[j]?,ys[j]? with|some x,some y=>some (HO.tup [x,y])|_,_=>none)=_;rw[hx,hy]
   have hHo:∀y,y<s1.heap.objs.size->H' y=H1 y:=fun y hy=>by
    show(if y=_ then _ else _)=_;rw[if_neg (aJ (aH hy le))];refine if_neg fun hm=>?_;obtain⟨j,U⟩:=bS hm;obtain⟨_,_,_,_,_,_,_,_,_,hlt⟩:=at_ j y U;exact absurd (aH hy le) (Nat.not_lt_of_gt hlt)
   have up:∀b o,H1 b=some o->H' b=some o:=fun b o e=>by
    rw[hHo b (I1.Av b o e).lt];exact e
   have Av:Eo X.prog X.w H' h2:=fun y u e=>by
    by_cases hyD:y=h'.objs.size
    .subst hyD;rw[hHD]at e;cases e;refine⟨by rw[List.length_map,hal];exact sl,as.map Value.ref,c,Tw as,?_⟩;rw[<-hacc,Array.toArray_toList];exact hS
    .by_cases hm:y∈as
     .obtain⟨j,U⟩:=bS hm;obtain⟨x,y',u',v',k1,k2,k3,k4,k5,_⟩:=at_ j y U;rw[hHa j y x y' U k1 k2]at e;cases e;exact⟨XZ,[u',v'],.cons k3 (.cons k4 .nil),_,k5,rfl,_,rfl⟩
     .have e':H1 y=some u:=by
       have:H' y=H1 y:=by
        show(if y=_ then _ else _)=_;rw[if_neg hyD,if_neg hm]
       rw[this]at e;exact e
      exact(I1.Av y u e').Hf (fun b o _ z=>keep b o z) (fun b z=>up _ _ z) fun b xs z=>up _ _ z
   have I3:Inv X pins σ H' {s1 with heap:=h2,toks:=tk}:=I1.many keep hHo Av;refine⟨.ref h'.objs.size,H',I3,rfl,q h'.objs.size H' as up (I1.Av.fresh le) hHD (by rw[hal,ll]) fun j T x y U hx hy=>⟨?_,hHa j T x y U hx hy⟩⟩;obtain⟨_,_,_,_,_,_,_,_,_,hlt⟩:=at_ j T U;exact I1.Av.fresh (bD (aS le hlt))
end L2
set_option maxHeartbeats 1000000
namespace L2
open PySem PySem.Spec PyProof.Rows
section
variable{X:Cx}{a b:Expr}{fs:Go}{p p2 pos pos2:Pos}
def T2(G H H':Hp):Hp:=fun b=>if H b=none then H' b else G b
theorem nY{G H H':Hp}(g:AK G H)(e:AK H H'):AK G (T2 G H H')/\Nw G H (T2 G H H')/\AK (T2 G H H') H':=by
 refine⟨fun b o h=>?_,fun b o h=>?_,fun b o h=>?_⟩
 .unfold T2;rw[if_neg (by rw[g _ _ h];simp)];exact h
 .unfold T2 at h;split at h
  .rename_i z;exact .inr (.inl z)
  .exact .inl h
 .unfold T2 at h;split at h
  .exact h
  .exact e _ _ (g _ _ h)
theorem cb{G Z:Hp}(e:AK G Z):∀ {xs ys:By} {us vs:HQ} {as:al},Au G xs us->Au G ys vs->ys.length=xs.length->as.length=xs.length->(∀(j:Nat) a x y,as[j]? = some a->us[j]? = some x->vs[j]? = some y->Z a=some (.tup [x,y]))->Au Z (KO xs ys) (as.map V.ref)
 |[],ys,us,vs,as,Y,U,T,g,h=>by
  have:as=[]:=bO (by simpa using g);subst this;unfold KO;rw[List.zip_nil_left,List.map_nil,Au];rfl
 |x::xs,[],us,vs,as,Y,U,T,g,h=>by simp at T
 |x::xs,y::ys,us,vs,[],Y,U,T,g,h=>by simp at g
 |x::xs,y::ys,us,vs,a::as,Y,U,T,g,h=>by
  rw[Au]at Y U;obtain⟨u,us',rfl,k1,k2⟩:=Y;obtain⟨v,vs',rfl,m1,m2⟩:=U;have ih:=cb e k2 m2 (by simpa using T) (by simpa using g) fun j a' x' y' h1 h2 h3=>h (j+1) a' x' y' (by simpa using h1) (by simpa using h2) (by simpa using h3);show Au Z (.tuple [x,y]::KO xs ys) (.ref a::as.map V.ref);rw[Au];refine⟨_,_,rfl,?_,ih⟩;rw[Du];refine⟨a,_,rfl,h 0 a u v rfl rfl rfl,?_⟩;rw[Au];refine⟨_,_,rfl,k1.same e,?_⟩;rw[Au];refine⟨_,_,rfl,m1.same e,?_⟩;rw[Au]
def YH:List PyData->Option PyData
 |[x,y]=>(Ff x).bind fun xs=>(Ff y).bind fun ys=>if ys.length=xs.length/\xs.length<=1000 then some (.list (KO xs ys)) else none
 |_=>none
theorem oP(hc:oN)(hgd:Gl X "list")(Z:X.mg "list" = none)(hg:Gl X "zip")(hm:X.mg "zip" = none)(ha:DA X [a,b] fs)
 (he:starEach [.Call (.Name "zip" p2) [a,b] [] pos2] X.env=(false,eval (.Call (.Name "zip" p2) [a,b] [] pos2) X.env)::starEach [] X.env:=by rfl)(Y:(backTo pos (starEach [] X.env)).any cx=false:=by rfl)
 (hs:starEach [a,b] X.env=[SZ,Pa]:=by rfl)(U:starEach [b] X.env=[Pa]:=by rfl) :
  DE X (.Call (.Name "list" p) [.Call (.Name "zip" p2) [a,b] [] pos2] [] pos) (fun δ=>(fs δ).bind YH):=by
 obtain⟨t,pt,k⟩:=ha;refine⟨_,qA hc hgd Z hg hm pt he Y hs U,fun δ z hz G0 H0 G H σ ts Q R0 q=>?_⟩;obtain⟨x,h1,T⟩:=aC.mp hz;refine k δ _ h1 G0 H0 G H σ ts _ R0 fun vs G' H' R' hv=>?_;obtain⟨d,R2⟩:=R'.args hv;unfold YH at T;split at T
 .obtain⟨xs1,h3,h4⟩:=aC.mp T;obtain⟨ys1,h5,h6⟩:=aC.mp h4;split at h6
  .rename_i hl;cases h6;obtain⟨u,v,rfl,du,dv⟩:=d.Nm;obtain⟨b1,a1,us,rfl,n1,g⟩:=Im du h3;obtain⟨b2,a2,ws,rfl,m1,m2⟩:=Im dv h5;have s1:=R2.ins _ _ n1;have s2:=R2.ins _ _ m1;refine⟨b1,b2,a1,a2,us,ws,rfl,by cases b1<;>simpa[B7]using s1,by cases b2<;>simpa[B7]using s2,by rw[g.len,m2.len];exact hl.1,by rw[g.len];exact hl.2,fun S H2 as e hS hS2 hal hp=>?_⟩;obtain⟨g1,g2,g3⟩:=nY R2.ins e;refine q _ _ _ ((R2.lift g1 g2 g3 e).put ?_);rw[Du];refine⟨S,_,rfl,?_,cb g1 g m2 hl.1 (by rw[hal,g.len]) fun j a' x' y' q1 q2 q3=>?_⟩
   .unfold T2;rw[if_pos hS];exact hS2
   .obtain⟨z1,z2⟩:=hp j a' x' y' q1 q2 q3;unfold T2;rw[if_pos z1];exact z2
  .cases h6
 .cases T
end
end L2
set_option maxHeartbeats 4000000
namespace L2
open PySem PySem.Spec PyProof.Rows
section
variable{X:Cx}
def oh:R2:=fun x y H Q=>∃(p:Addr) (ys:HQ) (row t:Tr),y=.ref p/\H p=some Mj/\Ts H row ys/\row.deep<=60/\Tv H t x/\Q (.bl (decide (t∈row.bs))) H
open Classical in
theorem gx(hu:dl):C8 X (compareOp .In) oh:=by
 intro pins s σ H x y v u Q I rx ry h;obtain⟨p,ys,row,t,rfl,hp,ht,hd,tv,q⟩:=h;obtain rfl:u=Value.ref p:=ry;obtain⟨T,r,pl,hz⟩:=I.list (Aq.of (K:=X.K) hp);obtain⟨b,js,rfl,hb,vb⟩:=cf I tv rx;have hl:=r.length;have htl:=ht.len;have at_:∀(i:Nat) (y:Nh),T[i]? = some y->∃c a g,row.bs[i]? = some c/\y=.ref a/\s.heap.IsTuple a g.toArray/\TH.Vs s.heap c g:=fun i y Z=>by
  have hi:i<T.length:=(aE.mp Z).1;have U:ys[i]? = some (ys[i]' AS):=aM _;obtain⟨w,Y,h2⟩:=r.get U;rw[Z]at Y;cases Y;obtain⟨c,hc,tc⟩:=ht.get U;obtain⟨a,g,e,h3,h4⟩:=cf I tc h2;exact⟨c,a,g,hc,e,h3,h4⟩
 have key:∀(i:Nat) (y:Nh) (c:Tr),T[i]? = some y->row.bs[i]? = some c->decide RW=decide (c=t):=fun i y c Z hc=>by
  obtain⟨c',a,g,Y,rfl,h3,h4⟩:=at_ i y Z;rw[hc]at Y;cases Y;refine decide_eq_decide.mpr ⟨fun⟨a',zs',e,k1,k2⟩=>?_,fun e=>⟨a,g,rfl,h3,e ▸ h4⟩⟩;cases e;have:g=zs':=by simpa using TH.Ik h3 k1
  subst this;exact TH.Vs.inj h4 k2
 refine SeqAt.in_listAt (fun y=>decide RW) pl.isList (fun y Z=>?_) ⟨.bl _,H,I,rfl,?_⟩
 .obtain⟨i,hi,rfl⟩:=Array.getElem_of_mem Z;have hi':i<T.length:=by simpa using hi
  have U:T[i]? = some (T.toArray[i]):=by simp[hi']
  obtain⟨c,a,g,Y,h2,h3,h4⟩:=at_ i _ U;have hcd:=Tr.Qg (aK Y);show SeqAt.EqAt _ _ _ _ (decide _);rw[key i _ c U Y,h2];exact TH.Sa h3 h4 hb vb (by first|lia|(rw[Around.in1_units];lia))
 .have e:T.toArray.any (fun y=>decide RW)=decide (t∈row.bs):=by
   rw[show T.toArray.any (fun y=>decide RW)=T.any (fun y=>decide RW) by simp];rw[Bool.eq_iff_iff,List.any_eq_true,decide_eq_true_eq];constructor
   .rintro⟨y,Z,h⟩;obtain⟨i,hi⟩:=ba.mp Z;obtain⟨c,_,_,Y,_⟩:=at_ i y hi;rw[key i y c hi Y]at h;rw[<-of_decide_eq_true h];exact aK Y
   .intro hm;obtain⟨i,hi⟩:=ba.mp hm;have hil:i<T.length:=by have:=(aE.mp hi).1;lia
    refine⟨T[i],List.getElem_mem hil,?_⟩;rw[key i _ t (aM hil) hi];simp
  rw[e];exact q
def ZM:PyData->PyData->Option PyData:=fun x y=>(HY x).bind fun t=>match y with
 |.list g=>(Em g).bind fun row=>if row.deep<=60 then some (.bool (decide (t∈row.bs))) else none
 |_=>none
theorem kP(U:dl):Ea X (compareOp .In) ZM:=by
 refine⟨_,gx U,fun x y z g G0 H0 G H σ δ ts u v Q R du T k=>?_⟩;obtain⟨t,h1,g⟩:=aC.mp g;split at g
 .rename_i ds;obtain⟨row,h2,g⟩:=aC.mp g;split at g
  .rename_i hd;cases g;rw[Du]at T;obtain⟨p,ys,rfl,h3,Z⟩:=T;have Y:=Mo h2;subst Y;exact⟨p,ys,row,t,rfl,R.ins _ _ h3,(LD Z).same R.ins,hd,(oq h1 du).same R.ins,k _ _ _ (R.put Tk)⟩
  .cases g
 .cases g
end
end L2
set_option maxHeartbeats 1000000
namespace L2
open PySem PySem.Spec PyProof.Rows
section
variable{X:Cx}{b c:Expr}         
def dj(neg:Bool):PyData->PyData->Option PyData
 |.bool b,.bool c=>some (.bool (if neg then !(b==c) else b==c))
 |_,_=>none
theorem cZ:Ea X (compareOp .IsNot) (dj true):=by
 refine⟨_,ia,fun x y z g G0 H0 G H σ δ ts u v Q U du T k=>?_⟩;unfold dj at g;split at g
 .cases g;rw[Du]at du T;exact⟨_,_,du,T,k _ _ _ (U.put (by rw[Du];rfl))⟩
 .cases g
end
end L2
set_option maxHeartbeats 4000000
namespace Q55
open PySem L2
abbrev GD:Stmt:=top 15
abbrev LH:Stmt:=top 16
abbrev E8:Stmt:=top 17
abbrev Ge:Stmt:=top 18
abbrev F9:Stmt:=top 19
abbrev CL:Stmt:=top 20
abbrev FR:Stmt:=top 21
abbrev LN:Stmt:=top 22
abbrev NT:Stmt:=top 23
abbrev NH:Stmt:=top 26
abbrev EI:Stmt:=top 27
abbrev M7:Stmt:=top 28
abbrev JN:Stmt:=top 31
abbrev Km:Stmt:=top 32
abbrev G7:Stmt:=top 33
abbrev EX:Stmt:=top 34
abbrev Ef:Stmt:=top 35
abbrev IG:Stmt:=top 36
abbrev Gr:Stmt:=top 37
abbrev MN:Stmt:=top 39
abbrev JY:Stmt:=top 40
abbrev JV:Stmt:=top 42
abbrev Gi:Stmt:=top 43
abbrev NM:Stmt:=top 44
abbrev OC:Stmt:=top 45
abbrev KA:Stmt:=top 48
abbrev JW:Stmt:=top 49
abbrev GG:Stmt:=top 52
abbrev GO:Stmt:=top 53
abbrev El:Stmt:=top 54
abbrev NP:Stmt:=top 55
abbrev IP:Stmt:=top 56
abbrev Lb:Stmt:=top 57
abbrev L3:Stmt:=top 58
abbrev Gg:Stmt:=top 59
abbrev HG:Stmt:=top 61
abbrev FY:Stmt:=top 62
abbrev FZ:Stmt:=top 64
abbrev MD:Stmt:=top 65
abbrev KI:Stmt:=top 66
abbrev MI:Stmt:=top 67
abbrev MH:Stmt:=top 70
abbrev K3:Stmt:=top 71
abbrev KL:Stmt:=top 72
abbrev Iq:Stmt:=top 73
abbrev HN:Stmt:=top 74
abbrev RL:Stmt:=top 75
theorem YB{n:String}:Dy (.ty n)≠.none:=fun z=>nomatch z
theorem mulC{i j:Int}(T:-18446744073709551616<j)(g:j<18446744073709551616):QH i j\/ND i j:=.inl (.inr ⟨T,g⟩)
theorem mulL{i j:Int}(T:-18446744073709551616<i)(g:i<18446744073709551616):QH i j\/ND i j:=.inl (.inl ⟨T,g⟩)
def Oi:Sp:=fun vs H Q _=>∃a b,vs=[.int a,.int b]/\Q (.int (FM.gi a b)) H
def Qd:Sp:=fun vs H Q _=>∃t b m,vs=[.int t,.int b]/\b≠0/\m<=9000/\b.natAbs<2^m/\∀l H',AK H H'->H' l=some (.tup (KH (Rat.divInt t b)))->Q (.ref l) H'
def mh(K:As)(op:Rat->Rat->Rat)(ok:Rat->Prop):Sp:=fun vs H Q _=>∃v w p q n,vs=[v,w]/\Rt K H p v/\Rt K H q w/\FM.Fits p n/\FM.Fits q n/\n<=4000/\ok q /\
 ∀l H',AK H H'->H' l=some (.tup (KH (op p q)))->Q (.ref l) H'
section
variable{P:Io}{w:Mw}{K:As}{mg:Fa}{base:Heap}{f g:Addr}{fd gd:IR}
theorem Nz:Ag ["one","other","greater","lesser","rest"] MY (AL CL):=⟨rfl,rfl,rfl,by decide +kernel,rfl,by decide +kernel,by decide +kernel⟩
def su(σ:St):Nat:=match σ[3]? with|some (some (V.int l))=>l.natAbs|_=>0
theorem N0(F:Fn K mg "greatest_divisor" CL MY f fd)(Y:mg "abs" = none):AH P w K mg base Ah 1 f fd MY Oi:=by
 have sc:=Nz;refine F.F.ok (k:=0) sc JP IO
 .obtain⟨a,b,rfl,_⟩:=h
  rfl
 obtain⟨a,b,rfl,q⟩:=h;refine⟨_,(AZ (BB (i:=2) sc.nd rfl Cl (BR Qk rfl Y PyProof.Rows.boot_abs (AG uf AU)))
 (AZ (BB (i:=3) sc.nd rfl Cl (BR Qk rfl Y PyProof.Rows.boot_abs (AG ua AU)))
 (AZ (NN aP (Ct RM (pv 3) AX ii)
  (AZ (BB (i:=4) sc.nd rfl Cl (A0 MV uu (pv 3)))
  (AZ (BB (i:=2) sc.nd rfl Cl (pv 3))
  (Ai (BB (i:=3) sc.nd rfl Cl (pv 4))))))
 (Ai (BV uu))))),?_⟩
 refine⟨_,rfl,_,rfl,_,rfl,_,rfl,?_⟩;refine QV (fun σ H'=>∃g l r,σ=[some (.int a),some (.int b),some (.int g),some (.int l),r]/\H=H'/\Int.gcd g l=Int.gcd a b/\0<=g/\0<=l) (fun σ _=>su σ) ?_ ?_ ?_
 .exact⟨_,_,_,rfl,rfl,FM.jY a b,FM.abs_nonneg a,FM.abs_nonneg b⟩
 .rintro σ H' ⟨g,l,r,rfl,rfl,hg,h0,U⟩;refine⟨_,rfl,rfl,_,rfl,Ed XN XN⟩
  .have T:l≠0:=fun z=>by subst z;simp at c
   refine⟨_,rfl,_,rfl,_,_,rfl,rfl,T,_,rfl,_,rfl,⟨_,_,_,rfl,rfl,?_,U,FM.fmod_nonneg T U⟩,?_⟩
   .rw[FM.VB];exact hg
   .exact FM.UO g l T
  .have T:l=0:=by simpa using c
   subst T;refine⟨_,rfl,?_⟩;rw[FM.lh hg h0];exact q
 .exact fun σ H Q Q' Z ⟨v,e,s,k,e2,q⟩=>⟨v,e,s,k,e2,Z _ _ q⟩
theorem S0:Ag ["top","bottom","shared"] ["top","bottom"] (AL GD):=⟨rfl,rfl,rfl,by decide +kernel,rfl,by decide +kernel,by decide +kernel⟩
theorem TC(F:Fn K mg "fraction_of" GD ["top","bottom"] f fd)(Aw:Fn K mg "greatest_divisor" CL MY g gd)
 (BS:AH P w K mg base Ah 1 g gd MY Oi):AH P w K mg base Ah 2 f fd ["top","bottom"] Qd:=by
 have sc:=S0;refine F.F.ok (k:=1) sc JP IO
 .obtain⟨t,b,m,rfl,_⟩:=h
  rfl
 obtain⟨t,b,m,rfl,hb,hm,Z,q⟩:=h;refine⟨_,(AZ (FL (Ct Ui ua AX ii)
  (Ai WD)
  Cw)
 (AZ (BB (i:=2) sc.nd rfl Cl (Bs Aw BS hr rfl (AG uf (AG ua AU))))
 (AZ (FL (Ct Q9 ua AX ii)
  (Ai (BB (i:=2) sc.nd rfl Cl (YU Wd uu)))
  Cw)
 (Ai (BV (Ry (AG (A0 Fe uf uu) (AG (A0 Fe ua uu) AU)))))))),?_⟩
 refine⟨_,rfl,rfl,_,rfl,Ed (fun c=>absurd c (by simpa using hb)) (fun _=>?_)⟩;refine⟨_,rfl,_,rfl,t,b,rfl,?_⟩
 try dsimp only[Dj]
 refine Lc (fun T H'=>T=[some (.int t),some (.int b),some (.int (FM.gs t b))]/\H=H') (fun nx hn=>?_) ?_
 .refine⟨_,rfl,_,_,rfl,rfl,_,rfl,Ed XN XN⟩
  .have U:b<0:=az c;refine⟨_,rfl,_,rfl,hn _ _ ⟨?_,rfl⟩⟩;unfold FM.gs;rw[if_pos U]
   rfl
  .have U:¬b<0:=bZ (au.mpr c);refine hn _ _ ⟨?_,rfl⟩;unfold FM.gs;rw[if_neg U]
   rfl
 .rintro T H' ⟨rfl,rfl⟩;have h0:FM.gs t b≠0:=FM.gL hb;have Y:(FM.gs t b).natAbs<2^m:=aS (FM.gO hb) Z;refine⟨_,rfl,_,rfl,_,_,rfl,rfl,⟨h0,m,hm,Y⟩,_,rfl,_,rfl,_,_,rfl,rfl,⟨h0,m,hm,Y⟩,XZ,fun p hp=>?_⟩;refine q p _ (Ak hp _) ?_;rw[AR];show some (HO.tup [V.int (t.fdiv (FM.gs t b)),V.int (b.fdiv (FM.gs t b))])=_;rw[FM.Wf hb,FM.Vf hb]
  rfl
theorem UY:Ag MY MY (AL LH):=⟨rfl,rfl,rfl,by decide +kernel,rfl,by decide +kernel,by decide +kernel⟩
theorem Ud(F:Fn K mg "frac_times" LH MY f fd)(CT:Fn K mg "fraction_of" GD ["top","bottom"] g gd)
 (GJ:AH P w K mg base Ah 2 g gd ["top","bottom"] Qd):AH P w K mg base Ah 3 f fd MY (mh K (fun p q=>p*q) (fun _=>True)):=by
 have sc:=UY;refine F.F.ok (k:=2) sc JP IO
 .obtain⟨v,w,p,q,n,rfl,_⟩:=h
  rfl
 obtain⟨v,w,p,q,n,rfl,⟨a,rfl,sp⟩,⟨b,rfl,Y⟩,U,T,hn,Av,k⟩:=h;refine⟨_,(Ai (BV (Bs CT GJ hr rfl (AG (A0 Cs uY (CI C9 ua AX Fr)) (AG (A0 Cs uY (CI C9 ua AX Fr)) AU))))),?_⟩;refine⟨_,rfl,_,_,_,_,rfl,rfl,sp,rfl,_,rfl,_,_,_,_,rfl,rfl,Y,rfl,_,_,rfl,rfl,OB U.1 T.1 AS,_,rfl,_,_,_,_,rfl,rfl,sp,rfl,_,rfl,_,_,_,_,rfl,rfl,Y,rfl,_,_,rfl,rfl,OB U.d T.d AS,_,_,n+n,rfl,FM.XJ p q,by lia,FM.dd U T,fun l H' e1 Z=>?_⟩;exact k l H' e1 (by rw[FM.V0 p q]at Z;exact Z)
end
def gN:Sp:=fun vs H Q _=>∃(a:Addr) (bs:XV) (k:Nat),vs=[.ref a]/\H a=some (.lst (bs.map V.int))/\(∀b∈bs,1<=b/\b.natAbs<2^k)/\k*bs.length<=4000 /\
 ∀c:Int,1<=c->c.natAbs<2^(k*bs.length+1)->(∀b∈bs,b ∣ c)->Q (.int c) H
theorem Qi{c b:Int}(Y:1<=c)(hb:1<=b):1<=c.fdiv (FM.gi c b)*b/\c ∣ c.fdiv (FM.gi c b)*b/\b ∣ c.fdiv (FM.gi c b)*b/\(c.fdiv (FM.gi c b)).natAbs<=c.natAbs:=by
 have hg:0<FM.gi c b:=FM.MW AS;obtain⟨q,U⟩:=FM.P6 c b;obtain⟨r,g⟩:=FM.N8 c b;have e:=FM.HM (Int.ne_of_gt hg) U;refine⟨?_,?_,Int.dvd_mul_left _ _,FM.FP _ _⟩
 .rw[e];have T:0<q:=by
   rcases Int.lt_or_le 0 q with h|h
   .exact h
   .have:=Int.mul_nonpos_of_nonneg_of_nonpos (Int.le_of_lt hg) h
    lia
  exact Int.mul_pos T AS
 .rw[e];refine⟨r,?_⟩;rw[g]
  conv=>rhs;rw[U]
  rw[<-g,Int.mul_comm (FM.gi c b) q,Int.mul_assoc,Int.mul_comm (FM.gi c b) r]
  conv=>lhs;rw[g]
  rw[Int.mul_comm (FM.gi c b) r]
def gW:Sp:=fun vs H Q _=>∃(a:Addr) (xs:HQ) (ps:List (Int×Int)) (k:Nat),vs=[.ref a]/\H a=some Os/\xs.length=ps.length/\ps.length<=1000/\(∀(j:Nat) x p,xs[j]? = some x->ps[j]? = some p->∃c,x=.ref c/\H c=some (.tup [.int p.1,.int p.2])) /\
 (∀p∈ps,1<=p.2/\p.1.natAbs<2^k/\p.2.natAbs<2^k)/\k*ps.length<=4000/\∀l H',AK H H'->H' l=some (.tup (KH (ps.map fun p=>Rat.divInt p.1 p.2).sum))->Q (.ref l) H'
theorem div_add(x y:Int){c:Int}(g:c≠0):Rat.divInt (x+y) c=Rat.divInt x c+Rat.divInt y c:=by
 rw[Rat.divInt_add_divInt _ _ g g,<-Int.add_mul,Rat.divInt_mul_right g]
theorem div_one{t b c:Int}(hb:b≠0)(g:c≠0)(h:b ∣ c):Rat.divInt (t*c.fdiv b) c=Rat.divInt t b:=by
 obtain⟨q,rfl⟩:=h;rw[FM.HM hb rfl,Rat.divInt_mul_right (fun z=>g (by rw[z,Int.mul_zero]))]
theorem X2{c:Int}(g:c≠0):∀ {ps:List (Int×Int)},(∀p∈ps,p.2≠0/\p.2 ∣ c)->Rat.divInt (ps.map fun p=>p.1*c.fdiv p.2).sum c=(ps.map fun p=>Rat.divInt p.1 p.2).sum
 |[],_=>by simp
 |p::ps,h=>by
  obtain⟨Y,U⟩:=h p af;rw[List.map_cons,List.sum_cons,List.map_cons,List.sum_cons,div_add _ _ g,div_one Y g U,X2 g fun q T=>h q (aT _ T)]
def fm:Sp:=fun vs H Q _=>∃(b:Int) (p k:Nat),vs=[.int b,.int p]/\b.natAbs<2^k/\k*p<=4000/\Q (.int (b^p)) H
theorem Rf{b:Int}{k e p:Nat}(hb:b.natAbs<2^k)(T:e<=p):(b^e).natAbs<2^(k*p+1):=by
 rw[Int.natAbs_pow];have g:b.natAbs^e<=(2^k)^e:=Nat.pow_le_pow_left (bD hb) e;rw[<-Nat.pow_mul]at g;exact aS g (Nat.pow_lt_pow_right BY (Nat.lt_succ_of_le (aw k T)))
def sZ(σ:St):Nat:=match σ[4]? with|some (some (V.int l))=>l.natAbs|_=>0
section
variable{P:Io}{w:Mw}{K:As}{mg:Fa}{base:Heap}{f g g1 g2:Addr}{fd gd gd1 gd2:IR}
theorem LY:Ag ["bottoms","common","bottom"] ["bottoms"] (AL FR):=⟨rfl,rfl,rfl,by decide +kernel,rfl,by decide +kernel,by decide +kernel⟩
theorem QW(F:Fn K mg "common_bottom" FR ["bottoms"] f fd)(Aw:Fn K mg "greatest_divisor" CL MY g gd)
 (BS:AH P w K mg base Ah 1 g gd MY Oi):AH P w K mg base Ah 2 f fd ["bottoms"] gN:=by
 have sc:=LY;refine F.F.ok (k:=1) sc JP IO
 .obtain⟨a,bs,k,rfl,_⟩:=h
  rfl
 obtain⟨a,bs,k,rfl,ha,hb,hk,q⟩:=h;refine⟨_,(AZ (BB (i:=1) sc.nd rfl Cl AX)
 (AZ (Hm aP rfl (EV uf) uh
  (Ai (BB (i:=1) sc.nd rfl Cl (A0 Cs (A0 Fe ua (Bs Aw BS hr rfl (AG ua (AG uu AU)))) uu))))
 (Ai (BV ua)))),?_⟩
 refine⟨_,rfl,a,rfl,⟨_,Aq.of ha⟩,LI (xs:=bs.map V.int) (fun i σ H'=>∃(c:Int) (r:Option V),σ=[some Mt,some (.int c),r]/\H=H'/\1<=c/\c.natAbs<2^(k*i+1)/\∀j b,j<i->bs[j]? = some b->b ∣ c) ?_ ?_ ?_ ?_⟩
 .exact⟨1,_,rfl,rfl,by decide,by simp,fun j b h=>absurd h (ai _)⟩
 .rintro i σ H' _ ⟨c,r,rfl,rfl,_⟩;exact Aq.of ha
 .rintro i x σ H' Z ⟨c,r,rfl,rfl,c1,Y,U⟩;have hi:i<bs.length:=by have:=(aE.mp Z).1;simpa using this
  rw[List.getElem?_map,List.getElem?_eq_getElem hi]at Z;cases Z;obtain⟨b1,b2⟩:=hb _ (bY hi);obtain⟨s1,s2,s3,s4⟩:=Qi c1 b1;have hg:FM.gi c bs[i]≠0:=Int.ne_of_gt (FM.MW AS);have hki:k*i+k<=4000:=by
   have:k*SL<=k*bs.length:=aw k hi;rw[Nat.mul_succ]at this
   lia
  have n1:(c.fdiv (FM.gi c bs[i])).natAbs<2^(k*i+1):=aS s4 Y;refine⟨_,rfl,_,rfl,_,rfl,c,bs[i],rfl,_,_,rfl,rfl,⟨hg,k,by have:k*1<=k*bs.length:=aw k AS;lia,Nat.lt_of_le_of_lt (FM.Yr AS) b2⟩,_,rfl,_,_,rfl,rfl,OB n1 b2 AS,_,_,rfl,rfl,s1,?_,fun j b hj T=>?_⟩
  .have:=FM.Qy n1 b2;rw[Nat.mul_succ,show k*i+k+1=k*i+1+k by lia];exact this
  .by_cases z:j=i
   .subst z;rw[List.getElem?_eq_getElem hi]at T;cases T;exact s3
   .exact Int.dvd_trans (U j b AS T) s2
 .rintro σ H' ⟨c,r,rfl,rfl,c1,Y,U⟩;rw[List.length_map]at Y U;refine⟨_,rfl,q c c1 Y fun b hb=>?_⟩;obtain⟨j,hj⟩:=bS hb;exact U j b (aE.mp hj).1 hj
theorem UT:Ag ["some","bottom"] ["some"] (AL LN):=⟨rfl,rfl,rfl,by decide +kernel,rfl,by decide +kernel,by decide +kernel⟩
theorem UZ(F:Fn K mg "frac_total" LN ["some"] f fd)(Ca:Fn K mg "common_bottom" FR ["bottoms"] g1 gd1)(CT:Fn K mg "fraction_of" GD ["top","bottom"] g2 gd2)
 (JI:AH P w K mg base Ah 2 g1 gd1 ["bottoms"] gN)(GJ:AH P w K mg base Ah 2 g2 gd2 ["top","bottom"] Qd)(FU:mg "sum" = none):AH P w K mg base Ah 3 f fd ["some"] gW:=by
 have sc:=UT;refine F.F.ok (k:=2) sc JP IO
 .obtain⟨a,xs,ps,k,rfl,_⟩:=h
  rfl
 obtain⟨a,xs,ps,k,rfl,ha,hl,h1000,hx,hp,hk,q⟩:=h;have hk1:ps≠[]->k<=4000:=fun hne=>by
  have:k*1<=k*ps.length:=aw k (List.length_pos_iff.mpr hne)
  lia
 have at_:∀(i:Nat) (hi:i<xs.length),∃(p:Int×Int) (c:Addr),ps[i]? = some p/\xs[i]=.ref c/\H c=some (.tup [.int p.1,.int p.2]):=fun i hi=>by
  have hpi:ps[i]? = some (ps[i]' AS):=aM _;obtain⟨c,h1,h2⟩:=hx i xs[i] _ (aM hi) hpi;exact⟨_,c,hpi,h1,h2⟩
 refine⟨_,(AZ (BB (i:=1) sc.nd rfl (Or.inr rfl) (Bs Ca JI hr rfl (AG (FV [".0","part"] 1 [none,none] (EV uf) li (fun _ _ _ _ _=>(CI Jd ua AX Fr))) AU)))
 (Ai (BV (Bs CT GJ hr rfl (AG (BR (NB rfl) rfl FU bp (AG (FV [".0","part","bottom"] 1 [none,none,some 1] (EV uf) li (fun _ _ _ _ _=>(A0 Cs (CI Jd ua AX Fr) (A0 Fe uu (CI Jd ua AX Fr))))) AU)) (AG ua AU)))))),?_⟩
 refine⟨_,rfl,a,rfl,⟨_,Aq.of ha⟩,fun D hD=>Fp (n:=xs.length) (fun i ys H'=>AK H H'/\ys=((ps.take i).map (·.2)).map V.int) ?_ ?_ ?_⟩
 .exact⟨Ak hD _,rfl⟩
 .rintro i ys H0 hi ⟨Y,rfl⟩ hD0;obtain⟨p,c,h1,h2,h3⟩:=at_ i hi;refine⟨⟨xs,xs[i],Aq.of (Y _ _ ha),by simp[hi]⟩,?_,fun x H' y=>?_⟩
  .rw[List.length_map,List.length_map,List.length_take];exact aS (Nat.min_le_left _ _) (aH (show i<1000 by lia) PP)
  .obtain⟨rfl,y⟩:=y;have T:=y xs (Aq.of (Y _ _ ha));rw[List.getElem?_eq_getElem hi,h2]at T;cases T;unfold HI;refine Eu ⟨_,rfl,_,_,_,_,rfl,rfl,BI.of (Y _ _ h3),rfl,hD0,EB hi ⟨fun b o z=>?_,?_⟩⟩
   .rw[AJ (AV z hD)];exact Y _ _ z
   .rw[List.take_succ,h1];simp
 rintro ys H0 ⟨Y,rfl⟩ hD0;refine⟨⟨xs,Aq.of (Y _ _ ha),Nat.le_refl _⟩,?_⟩;rw[hl,List.take_length]at hD0;refine⟨D,ps.map (·.2),k,rfl,hD0,fun b hb=>?_,by rw[List.length_map];exact hk,fun c c1 c2 c3=>?_⟩
 .obtain⟨p,U,rfl⟩:=aU.mp hb;exact⟨(hp p U).1,(hp p U).2.2⟩
 rw[List.length_map]at c2;refine⟨_,rfl,a,rfl,⟨_,Aq.of (Y _ _ ha)⟩,fun D2 hD2=>Fp (n:=xs.length) (fun i ys H'=>AK H0 H'/\ys=((ps.take i).map fun p=>p.1*c.fdiv p.2).map V.int) ?_ ?_ ?_⟩
 .exact⟨Ak hD2 _,rfl⟩
 .rintro i ys H1 hi ⟨e1,rfl⟩ Z;have E1:=Y.trans e1;obtain⟨p,d,h1,h2,h3⟩:=at_ i hi;have hpm:=aK h1;have hkk:=hk1 (List.ne_nil_of_mem hpm);obtain⟨p1,p2,p3⟩:=hp p hpm;refine⟨⟨xs,xs[i],Aq.of (E1 _ _ ha),by simp[hi]⟩,?_,fun x H' y=>?_⟩
  .rw[List.length_map,List.length_map,List.length_take];exact aS (Nat.min_le_left _ _) (aH (show i<1000 by lia) PP)
  .obtain⟨rfl,y⟩:=y;have T:=y xs (Aq.of (E1 _ _ ha));rw[List.getElem?_eq_getElem hi,h2]at T;cases T;unfold HI;refine Eu ⟨_,rfl,_,_,_,_,rfl,rfl,BI.of (E1 _ _ h3),rfl,_,rfl,_,rfl,_,_,_,_,rfl,rfl,BI.of (E1 _ _ h3),rfl,_,_,rfl,rfl,⟨by lia,k,by lia,p3⟩,_,_,rfl,rfl,OB p2 (aS (FM.FP c p.2) c2) AS,Z,EB hi ⟨fun b o z=>?_,?_⟩⟩
   .rw[AJ (AV z hD2)];exact e1 _ _ z
   .rw[List.take_succ,h1];simp
 rintro ys H1 ⟨e1,rfl⟩ Z;refine⟨⟨xs,Aq.of ((Y.trans e1) _ _ ha),Nat.le_refl _⟩,?_⟩;rw[hl,List.take_length]at Z;refine⟨D2,_,rfl,Aq.of Z,_,rfl,_,c,k*ps.length+1,rfl,by lia,by lia,c2,fun l H' e2 hl'=>?_⟩;refine q l H' (Y.trans (e1.trans e2)) ?_;rw[X2 AS fun p U=>⟨by have:=(hp p U).1;lia,c3 _ (List.mem_map_of_mem U)⟩]at hl';exact hl'
theorem Wo:Ag ["base","power","product","square","left"] ["base","power"] (AL NT):=⟨rfl,rfl,rfl,by decide +kernel,rfl,by decide +kernel,by decide +kernel⟩
theorem Wl(F:Fn K mg "power_of" NT ["base","power"] f fd):AH P w K mg base Ah 1 f fd ["base","power"] fm:=by
 have sc:=Wo;refine F.F.ok (k:=0) sc JP IO
 .obtain⟨b,p,k,rfl,_⟩:=h
  rfl
 obtain⟨b,p,k,rfl,hb,hk,q⟩:=h;refine⟨_,(AZ (BB (i:=2) sc.nd rfl Cl AX)
 (AZ (BB (i:=3) sc.nd rfl Cl uf)
 (AZ (BB (i:=4) sc.nd rfl Cl ua)
 (AZ (NN aP (Ct Uj (pv 4) AX ii)
  (AZ (FL (Ct Ui (A0 Ot (pv 4) AX) AX ii)
   (Ai (BB (i:=2) sc.nd rfl Cl (A0 Cs uu (pv 3))))
   Cw)
  (AZ (BB (i:=4) sc.nd rfl Cl (A0 jR (pv 4) AX))
  (Ai (FL (Ct Uj (pv 4) AX ii)
   (Ai (BB (i:=3) sc.nd rfl Cl (A0 Cs (pv 3) (pv 3))))
   Cw)))))
 (Ai (BV uu)))))),?_⟩
 refine⟨_,rfl,_,rfl,?_⟩;refine QV (fun σ H'=>∃e f l:Nat,σ=[some (.int b),some (.int p),some (.int (b^e)),some (.int (b^f)),some (.int l)]/\H=H'/\e+f*l=p) (fun σ _=>sZ σ) ?_ ?_ ?_
 .refine⟨0,1,p,?_,rfl,by lia⟩;rw[Int.pow_zero,Int.pow_succ,Int.pow_zero,Int.one_mul]
  rfl
 .rintro σ H' ⟨e,f,l,rfl,rfl,he⟩;refine⟨_,rfl,_,_,rfl,rfl,_,rfl,Ed XN XN⟩
  .have hl:0<l:=by have:=az c;lia
   have T:f<=p:=by
    have:f*1<=f*l:=aw f hl
    lia
   try dsimp only[Dj]
   refine Lc (fun Z H'=>∃Y:Nat,Z=[some (.int b),some (.int p),some (.int (b^Y)),some (.int (b^f)),some (.int l)]/\H=H'/\Y+f*(2*(l / 2))=p) (fun nx hnx=>?_) ?_
   .refine⟨_,rfl,_,_,rfl,rfl,(by show(0:Int)<2;decide),rfl,_,rfl,Ed XN XN⟩
    .have hodd:l % 2=1:=by
      have:((l:Int) % 2)=1:=by simpa using c
      lia
     refine⟨_,rfl,_,rfl,_,_,rfl,rfl,OB (Rf hb (show e<=p by lia)) (Rf hb T) AS,hnx _ _ ⟨e+f,?_,rfl,?_⟩⟩
     .show [some (V.int b),some (V.int p),some (V.int (b^e*b^f)),some (V.int (b^f)),some (V.int l)]=_;rw[<-Int.pow_add]
     .have:l=2*(l / 2)+1:=by lia
      rw[<-he]
      conv=>rhs;rw[this,Nat.mul_add,Nat.mul_one]
      lia
    .have hev:l % 2=0:=by
      have:¬((l:Int) % 2)=1:=by simpa using c
      lia
     refine hnx _ _ ⟨e,rfl,rfl,?_⟩;rw[show 2*(l / 2)=l by lia];exact he
   .rintro Z _ ⟨Y,rfl,rfl,U⟩;refine⟨_,rfl,_,_,rfl,rfl,⟨by decide,by decide⟩,?_⟩;have el:((l:Int) / 2)=((l / 2:Nat):Int):=by lia
    refine⟨_,rfl,_,_,rfl,rfl,_,rfl,Ed XN XN⟩
    .refine⟨_,rfl,_,rfl,_,_,rfl,rfl,OB (Rf hb T) (Rf hb T) AS,⟨Y,f+f,l / 2,?_,rfl,?_⟩,?_⟩
     .show [some (V.int b),some (V.int p),some (V.int (b^Y)),some (V.int (b^f*b^f)),some (V.int ((l:Int) / 2))]=_;rw[el,<-Int.pow_add]
     .rw[<-U,<-Nat.two_mul,Nat.mul_assoc,Nat.mul_left_comm]
     .show((l:Int) / 2).natAbs<((l:Nat):Int).natAbs
      lia
    .refine⟨⟨Y,f,l / 2,?_,rfl,?_⟩,?_⟩
     .show [some (V.int b),some (V.int p),some (V.int (b^Y)),some (V.int (b^f)),some (V.int ((l:Int) / 2))]=_;rw[el]
     .have:l / 2=0:=by have:=bZ (au.mpr c);lia
      rw[this]at U ⊢
      simpa using U
     .show((l:Int) / 2).natAbs<((l:Nat):Int).natAbs
      lia
  .have hl:l=0:=by have:=bZ (au.mpr c);lia
   subst hl;rw[Nat.mul_zero,Nat.add_zero]at he;subst he;exact⟨_,rfl,q⟩
 .exact fun σ H Q Q' hq ⟨v,e,s,k,e2,e3,e4,q1,q2⟩=>⟨v,e,s,k,e2,e3,e4,q1,hq _ _ q2⟩
end
def DU(H:Hp)(d:KB)(v:V):Prop:=∃N:Nat,∀l,N<=l->Dt l H d v
def CQ(H:Hp)(ds:By)(xs:HQ):Prop:=∃N:Nat,∀l,N<=l->Ay l H ds xs
theorem DU.same{H H':Hp}{d:KB}{v:V}(h:DU H d v)(e:AK H H'):DU H' d v:=let⟨N,k⟩:=h;⟨N,fun l g=>(k l g).same e⟩
theorem CQ.same{H H':Hp}{d:By}{v:HQ}(h:CQ H d v)(e:AK H H'):CQ H' d v:=let⟨N,k⟩:=h;⟨N,fun l g=>(k l g).same e⟩
theorem DU.int{H:Hp}{i:Int}:DU H (.int i) (.int i):=⟨0,fun _ _=>.int⟩
theorem DU.bool{H:Hp}{i:Bool}:DU H (.bool i) (.bl i):=⟨0,fun _ _=>.bool⟩
theorem DU.Bp{H:Hp}:DU H .none .Bp:=⟨0,fun _ _=>.Bp⟩
theorem DU.str{H:Hp}{x:Str}:DU H (.str x) (.str x):=⟨0,fun _ _=>.str⟩
theorem CQ.nil{H:Hp}:CQ H [] []:=⟨0,fun _ _=>.nil⟩
theorem CQ.cons{H:Hp}{d:KB}{ds:By}{x:V}{xs:HQ}(h:DU H d x)(k:CQ H ds xs):CQ H (d::ds) (x::xs) :=
 let⟨N,a⟩:=h;let⟨M,b⟩:=k;⟨max N M,fun l g=>.cons (a l AS) (b l AS)⟩
theorem CQ.app{H:Hp}{ds es:By}{xs ys:HQ}(h:CQ H ds xs)(k:CQ H es ys):CQ H (ds++es) (xs++ys) :=
 let⟨N,a⟩:=h;let⟨M,b⟩:=k;⟨max N M,fun l g=>(a l AS).app (b l AS)⟩
theorem CQ.len{H:Hp}{ds:By}{xs:HQ}(h:CQ H ds xs):xs.length=ds.length:=let⟨N,a⟩:=h;(a N em).len
theorem CQ.get{H:Hp}{ds:By}{xs:HQ}{i:Nat}{d:KB}(h:CQ H ds xs)(e:ds[i]? = some d):∃v,xs[i]? = some v/\DU H d v:=by
 have g:=h.len;have hi:i<xs.length:=by rw[g];exact(aE.mp e).1
 have T:xs[i]? = some xs[i]:=by simp[hi]
 obtain⟨N,a⟩:=h;refine⟨xs[i],T,N,fun l g=>?_⟩;obtain⟨Z,U,Y⟩:=(a l g).get T;rw[e]at U;cases U;exact Y
theorem DU.lst{H:Hp}{a:Addr}{ds:By}{xs:HQ}(h:H a=some Os)(k:CQ H ds xs):DU H (.list ds) Mt :=
 let⟨N,b⟩:=k;⟨max N (a+1),fun l g=>.lst (aJ (show a<l from aH (bX a) (aQ (Nat.le_max_right _ _) g))) h (b l AS)⟩
theorem DU.tup{H:Hp}{a:Addr}{ds:By}{xs:HQ}(h:H a=some Op)(k:CQ H ds xs):DU H (.tuple ds) Mt :=
 let⟨N,b⟩:=k;⟨max N (a+1),fun l g=>.tup (aJ (show a<l from aH (bX a) (aQ (Nat.le_max_right _ _) g))) h (b l AS)⟩
theorem DU.nq{H:Hp}{ds:By}{v:V}(h:DU H (.list ds) v):∃a xs,v=.ref a/\H a=some Os/\CQ H ds xs:=by
 obtain⟨N,b⟩:=h;have h0:=b N em;rw[Dt]at h0;obtain⟨a,xs,rfl,_,ha,_⟩:=h0;refine⟨a,xs,rfl,ha,N,fun l Z=>?_⟩;have U:=b l Z;rw[Dt]at U;obtain⟨a',Y,e,_,g,T⟩:=U;cases e;rw[ha]at g;cases g;exact T
theorem DU.qM{H:Hp}{ds:By}{v:V}(h:DU H (.tuple ds) v):∃a xs,v=.ref a/\H a=some Op/\CQ H ds xs:=by
 obtain⟨N,b⟩:=h;have h0:=b N em;rw[Dt]at h0;obtain⟨a,xs,rfl,_,ha,_⟩:=h0;refine⟨a,xs,rfl,ha,N,fun l Z=>?_⟩;have U:=b l Z;rw[Dt]at U;obtain⟨a',Y,e,_,g,T⟩:=U;cases e;rw[ha]at g;cases g;exact T
theorem CQ.Nm{H:Hp}{d e:KB}{xs:HQ}(h:CQ H [d,e] xs):∃x y,xs=[x,y]/\DU H d x/\DU H e y:=by
 obtain⟨x,T,Y⟩:=h.get (i:=0) rfl;obtain⟨y,g,U⟩:=h.get (i:=1) rfl;have:=h.len
 match xs,this with
 |[a,b],_=>
  simp at T g;subst T g;exact⟨a,b,rfl,Y,U⟩
mutual
theorem pK{c:Addr}{H:Hp}:∀ {d:KB} {v:V},Dt c H d v->DU H d v
 |.none,_,h=>by rw[Dt]at h;subst h;exact .Bp
 |.bool _,_,h=>by rw[Dt]at h;subst h;exact .bool
 |.int _,_,h=>by rw[Dt]at h;subst h;exact .int
 |.str _,_,h=>by rw[Dt]at h;subst h;exact .str
 |.tuple _,_,h=>by
  rw[Dt]at h;obtain⟨a,xs,rfl,n,T,g⟩:=h;exact .tup T (K6 g)
 |.list _,_,h=>by
  rw[Dt]at h;obtain⟨a,xs,rfl,n,T,g⟩:=h;exact .lst T (K6 g)
 |.dict _,_,h=>by rw[Dt]at h;exact h.elim
theorem K6{c:Addr}{H:Hp}:∀ {ds:By} {xs:HQ},Ay c H ds xs->CQ H ds xs
 |[],_,h=>by rw[Ay]at h;subst h;exact .nil
 |_::_,_,h=>by
  rw[Ay]at h;obtain⟨x,r,rfl,T,g⟩:=h;exact .cons (pK T) (K6 g)
end
theorem DU.ints{H:Hp}{ps:XV}{v:V}(h:DU H (.tuple (ps.map .int)) v):∃a,v=.ref a/\H a=some (.tup (ps.map V.int)):=by
 obtain⟨a,xs,rfl,ha,U⟩:=h.qM;refine⟨a,rfl,?_⟩;rw[ha]
 congr 2
 obtain⟨N,b⟩:=U;have:=b N em;clear b ha h
 induction ps generalizing xs with
 |nil=>rw[List.map_nil,Ay]at this;exact this
 |cons p ps T=>
  rw[List.map_cons,Ay]at this;obtain⟨x,r,rfl,g,Y⟩:=this;rw[Dt]at g;subst g;rw[List.map_cons,T r Y]
def Fi:PyData->Bool
 |.tuple [.int a,.int b]=>decide (1<=b)&&(FM.gi a b==1)
 |_=>false
theorem QZ{ds:By}(h:ds.length≠2\/∃d0 g,ds=[d0,g]/\((Jx d0 && !IT d0)=false\/(Jx g && !IT g)=false)):Fi (.tuple ds)=false:=by
 rcases h with h|⟨d0,g,rfl,h⟩
 .match ds,h with
  |[],_=>rfl
  |[a],_=>cases a<;>rfl
  |[_,_],h=>exact absurd rfl h
  |a::b::_::_,_=>cases a<;>first|rfl|(cases b<;>rfl)
 .cases d0<;>first|rfl|(cases g<;>first|rfl|(exfalso;rcases h with h|h<;>exact absurd h (by simp[Jx,IT])))
def Z3:Sp:=fun vs H Q _=>∃l d v,vs=[v]/\Dt l H d v/\Q (.bl (Jx d && !IT d)) H
def Z9:Sp:=fun vs H Q _=>∃l d v,vs=[v]/\Dt l H d v/\Q (.bl (Fi d)) H
theorem Tj{d:KB}(h:(Jx d && !IT d)=true):∃i,d=.int i:=by
 cases d<;>first|exact⟨_,rfl⟩|(exact absurd h (by simp[Jx,IT]))|(rename_i b;cases b<;>exact absurd h BY)
section
variable{P:Io}{w:Mw}{K:As}{mg:Fa}{base:Heap}{f g1 g2:Addr}{fd gd1 gd2:IR}
theorem W9:Ag Jo Jo (AL F9):=⟨rfl,rfl,rfl,by decide +kernel,rfl,by decide +kernel,by decide +kernel⟩
theorem Wr(F:Fn K mg "is_whole" F9 Jo f fd)(g:iN)(T:mg "int" = none)(U:mg "bool" = none):AH P w K mg base Ah 1 f fd Jo Z3:=by
 have sc:=W9;refine F.F.ok (k:=0) sc JP (fun cdv A outer s H vs Q E Y h=>?_)
 .obtain⟨l,d,v,rfl,_⟩:=h
  rfl
 obtain⟨l,d,v,rfl,hd,q⟩:=h;refine⟨_,(Ai (BV (OY (BR IJ rfl g ay (AG uf (AG (Ib (v:=.ty "int") rfl T PyProof.Rows.boot_int rfl) AU))) (Q3 (Zs (BR IJ rfl g ay (AG uf (AG (Ib (v:=.ty "bool") rfl U PyProof.Rows.boot_bool rfl) AU)))))))),?_⟩;refine⟨_,rfl,_,_,_,_,rfl,YB,hd.ty,WQ K d hd.nodict,_,rfl,Ed (fun c=>⟨_,rfl,_,_,_,_,rfl,YB,hd.ty,Tp K d hd.nodict,_,rfl,?_⟩) XN⟩
 .rw[c,Bool.true_and]at q;exact q
 .rw[Bool.eq_false_iff.mpr c,Bool.false_and]at q;exact q
theorem TR:Ag Jo Jo (AL E8):=⟨rfl,rfl,rfl,by decide +kernel,rfl,by decide +kernel,by decide +kernel⟩
theorem S7(F:Fn K mg "is_fraction" E8 Jo f fd)(CU:Fn K mg "is_whole" F9 Jo g1 gd1)(Aw:Fn K mg "greatest_divisor" CL MY g2 gd2)
 (Di:AH P w K mg base Ah 1 g1 gd1 Jo Z3)(BS:AH P w K mg base Ah 1 g2 gd2 MY Oi)(AN:iN)(B4:mg "tuple" = none)(A4:io):AH P w K mg base Ah 2 f fd Jo Z9:=by
 have sc:=TR;refine F.F.ok (k:=1) sc JP IO
 .obtain⟨l,d,v,rfl,_⟩:=h
  rfl
 obtain⟨l,d,v,rfl,hd,q⟩:=h;refine⟨_,(AZ (FL (PW.pt (NV (Iz (JD (BR IJ rfl AN ay (AG uf (AG (Ib (v:=.ty "tuple") rfl B4 bG rfl) AU))))) (Mb (Ct RM tm AX ii))))
  (Ai (BV Jk))
  Cw)
 (AZ (FL (PW.pt (NV (Iz (JD (Bs CU Di hr rfl (AG uY AU)))) (Mb (Iz (JD (Bs CU Di hr rfl (AG uY AU)))))))
  (Ai (BV Jk))
  Cw)
 (Ai (BV (OY (PJ ZH uY AX ii) (Q3 (PJ Ui (Bs Aw BS hr rfl (AG uY (AG uY AU))) AX ii))))))),?_⟩
 refine⟨_,rfl,_,_,_,_,rfl,YB,hd.ty,Ld K d hd.nodict,_,rfl,?_⟩;have no:FQ d=false->Fi d=false:=fun z=>by cases d<;>first|rfl|exact absurd z (by simp[FQ])
 by_cases ht:FQ d=true
 .rw[ht];obtain⟨Y,rfl⟩:∃Y,d=.tuple Y:=by cases d<;>first|exact⟨_,rfl⟩|exact absurd ht (by simp[FQ])
  rw[Dt]at hd;obtain⟨a,xs,rfl,na,ha,g⟩:=hd;have hlen:=g.len;have s1:BI K H a xs:=BI.of ha;refine VT ⟨_,rfl,a,xs,rfl,.inr s1,rfl,_,rfl,Ed XN XN⟩
  .have:Y.length≠2:=by
    rw[<-hlen];intro z;rw[z]at c;exact absurd c BY
   rw[QZ (.inl this)]at q;exact q
  .have h2:xs.length=2:=by
    by_cases z:xs.length=2
    .exact z
    .exfalso
     refine c ?_;have:¬(V.int (xs.length:Nat)=V.int 2):=by simp;lia
     rw[decide_eq_false this];rfl
   obtain⟨d0,Z,rfl⟩:∃d0 Z,Y=[d0,Z]:=by
    match Y,(show Y.length=2 by lia) with
    |[x,y],_=>exact⟨x,y,rfl⟩
   rw[Ay]at g;obtain⟨x0,r,rfl,U,g⟩:=g;rw[Ay]at g;obtain⟨x1,r,rfl,T,g⟩:=g;rw[Ay]at g;subst g;refine⟨_,rfl,_,_,_,_,rfl,rfl,s1,rfl,l,d0,x0,rfl,U,_,rfl,Ed (fun c0=>?_) (fun c0=>?_)⟩
   .rw[QZ (.inr ⟨d0,Z,rfl,.inl (by simp at c0;rcases c0 with c|c<;>simp[c])⟩)]at q;exact q
   refine⟨_,rfl,_,_,_,_,rfl,rfl,s1,rfl,l,Z,x1,rfl,T,_,rfl,Ed (fun c1=>?_) (fun c1=>?_)⟩
   .rw[QZ (.inr ⟨d0,Z,rfl,.inr (by simp at c1;rcases c1 with c|c<;>simp[c])⟩)]at q;exact q
   obtain⟨i,rfl⟩:=Tj (d:=d0) (by simpa using c0);obtain⟨j,rfl⟩:=Tj (d:=Z) (by simpa using c1);rw[Dt]at U T;subst U T;refine⟨_,rfl,_,_,_,_,rfl,rfl,s1,rfl,_,_,rfl,rfl,_,rfl,Ed XN XN⟩
   .refine⟨_,rfl,_,_,_,_,rfl,rfl,s1,rfl,_,rfl,_,_,_,_,rfl,rfl,s1,rfl,i,j,rfl,rfl,?_⟩;have hj:1<=j:=by have:=az c;lia
    have e:Fi (.tuple [.int i,.int j])=decide (V.int (FM.gi i j)=V.int 1):=by
     rw[Fi,decide_eq_true hj,Bool.true_and,Bool.eq_iff_iff];simp
    rw[e]at q;exact q
   .have hj:¬1<=j:=fun z=>c (decide_eq_true AS);have e:Fi (.tuple [.int i,.int j])=false:=by rw[Fi,decide_eq_false hj,Bool.false_and]
    rw[e]at q;exact q
 .rw[Bool.eq_false_iff.mpr ht];rw[no (au.mpr ht)]at q;exact Eu (Eu q)
end
def DM:PyData->Bool
 |.list g=>g.all Fi
 |_=>false
def GX:PyData->Nat
 |.list g=>g.length
 |_=>0
def rowAt(ds:By)(i:Nat):Bool:=match ds[i]? with
 |some d=>DM d&&decide (GX d=i)
 |none=>true
def Jq(ds:By):Bool:=(List.range ds.length).all (rowAt ds)
def Co:PyData->Bool
 |.list g=>decide (1<=g.length)&&(decide (g.length<=40)&&Jq g)
 |_=>false
def Cq:PyData->Bool
 |.tuple [r,l]=>Co r&&(DM l&&decide (GX l=GX r))
 |_=>false
theorem Zx{d:KB}(h:FJ d=false):DM d=false:=by cases d<;>first|rfl|exact absurd h (by simp[FJ])
theorem Ww{d:KB}(h:FJ d=false):Co d=false:=by cases d<;>first|rfl|exact absurd h (by simp[FJ])
theorem dJ{d:KB}(h:FQ d=false):Cq d=false:=by cases d<;>first|rfl|exact absurd h (by simp[FQ])
theorem Y6{ds:By}(h:ds.length≠2):Cq (.tuple ds)=false:=by
 match ds,h with
 |[],_=>rfl
 |[_],_=>rfl
 |[_,_],h=>exact absurd rfl h
 |_::_::_::_,_=>rfl
theorem LO{d:KB}(h:FJ d=true):∃ds,d=.list ds:=by cases d<;>first|exact⟨_,rfl⟩|exact absurd h (by simp[FJ])
theorem fS{d:KB}(h:FQ d=true):∃ds,d=.tuple ds:=by cases d<;>first|exact⟨_,rfl⟩|exact absurd h (by simp[FQ])
theorem RS{d:KB}(h:DM d=true):FJ d=true:=by cases d<;>first|rfl|exact absurd h (by simp[DM])
theorem WY{d:KB}(h:Co d=true):FJ d=true:=by cases d<;>first|rfl|exact absurd h (by simp[Co])
theorem T4{ds:By}(h:∀j,j<ds.length->rowAt ds j=true):Jq ds=true:=by
 unfold Jq;rw[List.all_eq_true];intro j g;exact h j (ar.mp g)
theorem T5{ds:By}{i:Nat}(hi:i<ds.length)(h:rowAt ds i=false):Jq ds=false:=by
 refine au.mpr fun z=>?_;unfold Jq at z;rw[List.all_eq_true]at z;rw[z i (ar.mpr hi)]at h;cases h
theorem Nb{ds:By}{i:Nat}{d:KB}(h:ds[i]? = some d):rowAt ds i=(DM d&&decide (GX d=i)):=by unfold rowAt;rw[h]
def Tc:Sp:=fun vs H Q _=>∃l d v,vs=[v]/\Dt l H d v/\Q (.bl (DM d)) H
def cQ:Sp:=fun vs H Q _=>∃l d v,vs=[v]/\Dt l H d v/\∀H',AK H H'->Q (.bl (Co d)) H'
def jD:Sp:=fun vs H Q _=>∃l d v,vs=[v]/\Dt l H d v/\∀H',AK H H'->Q (.bl (Cq d)) H'
section
variable{P:Io}{w:Mw}{K:As}{mg:Fa}{base:Heap}{f g1 g2:Addr}{fd gd1 gd2:IR}
theorem QD:Ag ["thing","part"] Jo (AL Ge):=⟨rfl,rfl,rfl,by decide +kernel,rfl,by decide +kernel,by decide +kernel⟩
theorem QU(F:Fn K mg "are_fractions" Ge Jo f fd)(DR:Fn K mg "is_fraction" E8 Jo g1 gd1)
 (GK:AH P w K mg base Ah 2 g1 gd1 Jo Z9)(AN:iN)(Ec:mg "list" = none):AH P w K mg base Ah 3 f fd Jo Tc:=by
 have sc:=QD;refine F.F.ok (k:=2) sc JP IO
 .obtain⟨l,d,v,rfl,_⟩:=h
  rfl
 obtain⟨l,d,v,rfl,hd,q⟩:=h;refine⟨_,(AZ (FL (Iz (JD (BR IJ rfl AN ay (AG uf (AG (Ib (v:=.ty "list") rfl Ec PyProof.Rows.boot_list rfl) AU)))))
  (Ai (BV Jk))
  Cw)
 (AZ (Hm aP rfl (EV uf) (A5 (i:=1) sc.nd rfl Cl)
  (Ai (FL (Iz (JD (Bs DR GK hr rfl (AG ua AU))))
   (Ai (BV Jk))
   Cw)))
 (Ai (BV Jk)))),?_⟩
 refine⟨_,rfl,_,_,_,_,rfl,YB,hd.ty,Qc K d hd.nodict,_,rfl,?_⟩;by_cases g:FJ d=false
 .rw[g];rw[Zx g]at q;exact Eu q
 have g:FJ d=true:=by simpa using g
 rw[g];refine VT ?_;obtain⟨ds,rfl⟩:=LO g;rw[Dt]at hd;obtain⟨a,xs,rfl,na,ha,ht⟩:=hd;have T:=ht.len;refine⟨_,rfl,a,rfl,⟨_,Aq.of ha⟩,LI (xs:=xs) (fun i σ H'=>∃U,σ=[some Mt,U]/\H=H'/\∀j c,j<i->ds[j]? = some c->Fi c=true) ?_ ?_ ?_ ?_⟩
 .exact⟨_,rfl,rfl,fun j c h=>absurd h (ai _)⟩
 .rintro i σ H' _ ⟨U,rfl,rfl,_⟩;exact Aq.of ha
 .rintro i x σ H' hx ⟨U,rfl,rfl,hf⟩;obtain⟨c,Y,tc⟩:=ht.get hx;refine⟨_,rfl,l,c,x,rfl,tc,_,rfl,Ed (fun b=>?_) (fun b=>?_)⟩
  .have hb:Fi c=false:=by simpa using b
   have e:DM (.list ds)=false:=au.mpr fun z=>by
    rw[DM,List.all_eq_true]at z;rw[z c (aK Y)]at hb;cases hb
   rw[e]at q;exact q
  .have hb:Fi c=true:=by simpa using b
   refine⟨_,rfl,rfl,fun j e Z he=>?_⟩;by_cases z:j=i
   .subst z;rw[Y]at he;cases he;exact hb
   .exact hf j e AS he
 .rintro σ H' ⟨U,rfl,rfl,hf⟩;have e:DM (.list ds)=true:=by
   rw[DM,List.all_eq_true];intro c Y;obtain⟨j,Z⟩:=bS Y;exact hf j c (by rw[T];exact(aE.mp Z).1) Z
  rw[e]at q;exact q
theorem Ws:Ag ["thing","k","row"] Jo (AL M7):=⟨rfl,rfl,rfl,by decide +kernel,rfl,by decide +kernel,by decide +kernel⟩
theorem W2{tk:Tok}(F:Fn K mg "are_rows" M7 Jo f fd)(DN:Fn K mg "are_fractions" Ge Jo g1 gd1)
 (JB:AH P w K mg base Ah 3 g1 gd1 Jo Tc)(GS:mg "MOST_ROWS" = some (.int 40 tk))(AN:iN)(Ec:mg "list" = none)(A4:io)(Cc:mg "enumerate" = none):AH P w K mg base Ah 4 f fd Jo cQ:=by
 have sc:=Ws;refine F.F.ok (k:=3) sc JP IO
 .obtain⟨l,d,v,rfl,_⟩:=h
  rfl
 obtain⟨l,d,v,rfl,hd,q⟩:=h;refine⟨_,(AZ (FL (PW.pt (NV (Iz (JD (BR IJ rfl AN ay (AG uf (AG (Ib (v:=.ty "list") rfl Ec PyProof.Rows.boot_list rfl) AU))))) (NV (Ct Q9 tm AX ii) (Mb (Ct Uj tm (EA (v:=.int 40) rfl GS ⟨_,rfl⟩) ii)))))
  (Ai (BV Jk))
  Cw)
 (AZ (Hm aP rfl (Vh rfl Cc (AG uf AU)) (Jw rfl (CM (A5 (i:=1) sc.nd rfl Cl) (CM uh IU)))
  (Ai (FL (PW.pt (NV (Iz (JD (Bs DN JB hr rfl (AG uu AU)))) (Mb (Ct RM (BR CS rfl A4 ae (AG uu AU)) ua ii))))
   (Ai (BV Jk))
   Cw)))
 (Ai (BV Jk)))),?_⟩
 refine⟨_,rfl,_,_,_,_,rfl,YB,hd.ty,Qc K d hd.nodict,_,rfl,?_⟩;by_cases Z:FJ d=false
 .rw[Z];have:=q H (.refl H);rw[Ww Z]at this;exact Eu (Eu this)
 have Z:FJ d=true:=by simpa using Z
 rw[Z];refine VT ?_;obtain⟨T,rfl⟩:=LO Z;rw[Dt]at hd;obtain⟨a,xs,rfl,na,ha,ht⟩:=hd;have g:=ht.len;refine⟨_,rfl,a,xs,rfl,.inl (Aq.of ha),_,_,rfl,rfl,_,rfl,Ed XN XN⟩
 .have e:Co (.list T)=false:=by
   have:¬1<=T.length:=by rw[<-g];have:=az c;lia
   rw[Co,decide_eq_false this,Bool.false_and]
  have:=q H (.refl H);rw[e]at this;exact Eu this
 have h1:1<=T.length:=by rw[<-g];have:=bZ (au.mpr c);lia
 refine⟨_,rfl,a,xs,rfl,.inl (Aq.of ha),_,_,rfl,rfl,_,rfl,Ed XN XN⟩
 .have e:Co (.list T)=false:=by
   have:¬T.length<=40:=by rw[<-g];have:=az c;lia
   rw[Co,decide_eq_false this,Bool.false_and,Bool.and_false]
  have:=q H (.refl H);rw[e]at this;exact this
 have h2:T.length<=40:=by rw[<-g];have:=bZ (au.mpr c);lia
 have e:Co (.list T)=Jq T:=by rw[Co,decide_eq_true h1,decide_eq_true h2,Bool.true_and,Bool.true_and]
 rw[e]at q;refine⟨_,rfl,a,rfl,⟨_,Aq.of ha⟩,cK (xs:=xs) (fun i σ H'=>∃r1 r2,σ=[some Mt,r1,r2]/\AK H H'/\∀j,j<i->rowAt T j=true) ?_ ?_ ?_ ?_⟩
 .exact⟨_,_,rfl,.refl _,fun j h=>absurd h (ai _)⟩
 .rintro i σ H' _ ⟨r1,r2,rfl,e,_⟩;exact Aq.of (e _ _ ha)
 .rintro i x σ H0 hx ⟨r1,r2,rfl,e0,hf⟩ p hp;obtain⟨c,hc,tc⟩:=ht.get hx;have hi:i<T.length:=(aE.mp hc).1;have s1:=Ak hp (.tup [.int (i:Nat),x]);have Y:=e0.trans s1;have hp':(upd H0 p (.tup [.int (i:Nat),x])) p=some (.tup [.int (i:Nat),x]):=AR;generalize upd H0 p (.tup [.int (i:Nat),x])=H1 at s1 Y hp';have tc:=tc.same Y;refine⟨p,_,rfl,BI.of hp',rfl,_,_,rfl,_,_,rfl,rfl,?_⟩;refine⟨_,rfl,l,c,x,rfl,tc,_,rfl,Ed (fun b=>?_) (fun b=>?_)⟩
  .have hb:DM c=false:=by simpa using b
   have:=q H1 Y;rw[T5 hi (by rw[Nb hc,hb,Bool.false_and])]at this;exact Eu this
  have hb:DM c=true:=by simpa using b
  obtain⟨cs,rfl⟩:=LO (RS hb);rw[Dt]at tc;obtain⟨b,ys,rfl,nb,hb',hy⟩:=tc;refine⟨_,rfl,b,ys,rfl,.inl (Aq.of hb'),_,rfl,rfl,_,rfl,Ed (fun z=>?_) (fun z=>?_)⟩
  .have U:¬GX (.list cs)=i:=by
    rw[GX,<-hy.len];intro zz;rw[zz]at z;simp at z
   have:=q H1 Y;rw[T5 hi (by rw[Nb hc,hb,decide_eq_false U,Bool.and_false])]at this;exact this
  .have U:GX (.list cs)=i:=by
    rw[GX,<-hy.len];by_cases zz:ys.length=i
    .exact zz
    .exfalso
     refine z ?_;have:¬(V.int (ys.length:Nat)=V.int (i:Nat)):=by simp;lia
     rw[decide_eq_false this];rfl
   refine⟨_,_,rfl,Y,fun j hj=>?_⟩;by_cases zz:j=i
   .subst zz;rw[Nb hc,hb,decide_eq_true U,Bool.and_self]
   .exact hf j AS
 .rintro σ H' ⟨r1,r2,rfl,Y,hf⟩;have:=q H' Y;rw[T4 fun j hj=>hf j (by rw[g];exact hj)]at this;exact this
theorem Wv:Ag Jo Jo (AL NH):=⟨rfl,rfl,rfl,by decide +kernel,rfl,by decide +kernel,by decide +kernel⟩
theorem W8(F:Fn K mg "is_table" NH Jo f fd)(Kl:Fn K mg "are_rows" M7 Jo g1 gd1)(DN:Fn K mg "are_fractions" Ge Jo g2 gd2)
 (ZJ:AH P w K mg base Ah 4 g1 gd1 Jo cQ)(JB:AH P w K mg base Ah 4 g2 gd2 Jo Tc)(AN:iN)(B4:mg "tuple" = none)(A4:io):AH P w K mg base Ah 5 f fd Jo jD:=by
 have sc:=Wv;refine F.F.ok (k:=4) sc JP IO
 .obtain⟨l,d,v,rfl,_⟩:=h
  rfl
 obtain⟨l,d,v,rfl,hd,q⟩:=h;refine⟨_,(AZ (FL (PW.pt (NV (Iz (JD (BR IJ rfl AN ay (AG uf (AG (Ib (v:=.ty "tuple") rfl B4 bG rfl) AU))))) (Mb (Ct RM tm AX ii))))
  (Ai (BV Jk))
  Cw)
 (Ai (BV (OY (Bs Kl ZJ hr rfl (AG uY AU)) (OY (Bs DN JB hr rfl (AG uY AU)) (Q3 (PJ Ui (BR CS rfl A4 ae (AG uY AU)) (BR CS rfl A4 ae (AG uY AU)) ii))))))),?_⟩
 refine⟨_,rfl,_,_,_,_,rfl,YB,hd.ty,Ld K d hd.nodict,_,rfl,?_⟩;by_cases Z:FQ d=false
 .rw[Z];have:=q H (.refl H);rw[dJ Z]at this;exact Eu (Eu this)
 have Z:FQ d=true:=by simpa using Z
 rw[Z];refine VT ?_;obtain⟨ds,rfl⟩:=fS Z;rw[Dt]at hd;obtain⟨a,xs,rfl,na,ha,U⟩:=hd;have hlen:=U.len;have s1:BI K H a xs:=BI.of ha;refine⟨_,rfl,a,xs,rfl,.inr s1,rfl,_,rfl,Ed XN XN⟩
 .have:ds.length≠2:=by
   rw[<-hlen];intro z;rw[z]at c;exact absurd c BY
  have q:=q H (.refl H);rw[Y6 this]at q;exact q
 have h2:xs.length=2:=by
  by_cases z:xs.length=2
  .exact z
  .exfalso
   refine c ?_;have:¬(V.int (xs.length:Nat)=V.int 2):=by simp;lia
   rw[decide_eq_false this];rfl
 obtain⟨d0,d1,rfl⟩:∃d0 d1,ds=[d0,d1]:=by
  match ds,(show ds.length=2 by lia) with
  |[x,y],_=>exact⟨x,y,rfl⟩
 rw[Ay]at U;obtain⟨x0,r,rfl,T,U⟩:=U;rw[Ay]at U;obtain⟨x1,r,rfl,g,U⟩:=U;rw[Ay]at U;subst U;rw[Cq]at q;refine⟨_,rfl,_,_,_,_,rfl,rfl,s1,rfl,l,d0,x0,rfl,T,fun H1 Y=>⟨_,rfl,Ed (fun c0=>?_) (fun c0=>?_)⟩⟩
 .rw[c0]at q;refine⟨_,rfl,_,_,_,_,rfl,rfl,Y.tup s1,rfl,l,d1,x1,rfl,g.same Y,_,rfl,Ed (fun c1=>?_) (fun c1=>?_)⟩
  .rw[c1]at q;obtain⟨r0,rfl⟩:=LO (WY c0);obtain⟨r1,rfl⟩:=LO (RS c1);have T:=T.same Y;have g:=g.same Y;rw[Dt]at T g;obtain⟨a0,y0,rfl,_,ha0,hy0⟩:=T;obtain⟨a1,y1,rfl,_,ha1,hy1⟩:=g;refine⟨_,rfl,_,_,_,_,rfl,rfl,Y.tup s1,rfl,a1,y1,rfl,.inl (Aq.of ha1),_,rfl,_,_,_,_,rfl,rfl,Y.tup s1,rfl,a0,y0,rfl,.inl (Aq.of ha0),rfl,?_⟩;have:=q H1 Y;rw[Bool.true_and,Bool.true_and,GX,GX,<-hy0.len,<-hy1.len]at this;have e:decide (V.int (y1.length:Nat)=V.int (y0.length:Nat))=decide (y1.length=y0.length):=by
    rw[Bool.eq_iff_iff];simp;lia
   rw[<-e]at this;exact this
  .rw[Bool.eq_false_iff.mpr c1,Bool.false_and,Bool.and_false]at q;exact q H1 Y
 .rw[Bool.eq_false_iff.mpr c0,Bool.false_and]at q;exact q H1 Y
end
theorem lU(r:Rat):Fi (Aj r)=true:=by
 have h:=r.den_nz;have k:=r.reduced;rw[Aj,Fi,decide_eq_true (show(1:Int)<=(r.den:Int) by lia),Bool.true_and];rw[beq_iff_eq];unfold FM.gi;unfold Nat.Coprime at k;rw[show r.num.gcd (r.den:Int)=1 from k]
 rfl
theorem Qt{i n:Nat}(h:i<n)(hn:n<=60):i<sizeLine:=aH (show i<60 by lia) PP
theorem Qw{n:Nat}(hn:n<=60):n<=sizeLine:=aQ hn PP
structure Tb where
 rs:List (List Rat)
 ls:List Rat
def Al(r:db):List PyData:=r.map Aj
def Bq(r:db):PyData:=.list (Al r)
def BD(rs:List (List Rat)):List PyData:=rs.map Bq
def Ac(t:Tb):PyData:=.tuple [.list (BD t.rs),.list (Al t.ls)]
structure Tb.Ok(m:Nat)(t:Tb):Prop where
 one:1<=t.rs.length
 most:t.rs.length<=m
 last:t.ls.length=t.rs.length
 row:∀(i:Nat) r,t.rs[i]? = some r->r.length=i
theorem WG(r:db):∀e∈Al r,Fi e=true:=fun e g=>by
 obtain⟨q,_,rfl⟩:=aU.mp g;exact lU q
theorem DV(r:db):(Al r).length=r.length:=bV _
theorem B5(r:List (List Rat)):(BD r).length=r.length:=bV _
theorem Tb.Ok.rB{m:Nat}{t:Tb}(h:t.Ok m):∀r∈t.rs,r.length<t.rs.length:=fun r g=>by
 obtain⟨i,hi⟩:=bS g;rw[h.row i r hi];exact(aE.mp hi).1
theorem Tb.Ok.is{m:Nat}(hm:m<=40){t:Tb}(h:t.Ok m):Cq l0=true:=by
 have U:=h.one;have Y:=h.most;rw[Ac,Cq,Co,GX,GX,B5,DV,decide_eq_true U,decide_eq_true (show t.rs.length<=40 by lia),decide_eq_true h.last,DM,Bool.true_and,Bool.true_and,Bool.and_true,List.all_eq_true.mpr (WG _),Bool.and_true];refine T4 fun j T=>?_;rw[B5]at T;have g:t.rs[j]? = some t.rs[j]:=by simp[T]
 rw[Nb (d:=Bq t.rs[j]) (by rw[BD,List.getElem?_map,g];rfl),Bq,GX,DV,decide_eq_true (h.row j _ g),DM,Bool.and_true,List.all_eq_true.mpr (WG _)]
def Tb.behind(a b:Tb):Tb:=⟨a.rs++b.rs.map (a.ls ++ ·),a.ls++b.ls⟩
theorem Tb.Ok.behind{m n:Nat}{a b:Tb}(h:a.Ok m)(k:b.Ok n):(a.behind b).Ok (m+n):=by
 have Y:=h.one;have U:=h.most;have T:=k.most;refine⟨?_,?_,?_,fun i r g=>?_⟩
 .simp[Tb.behind];lia
 .simp[Tb.behind];lia
 .simp[Tb.behind,h.last,k.last]
 .unfold Tb.behind at g;simp only at g;by_cases hi:i<a.rs.length
  .rw[List.getElem?_append_left hi]at g;exact h.row i r g
  .rw[List.getElem?_append_right AS,List.getElem?_map]at g;cases hb:b.rs[i-a.rs.length]? with
   |none=>rw[hb]at g;cases g
   |some z=>
    rw[hb]at g;cases g;rw[List.length_append,h.last,k.row _ _ hb]
    lia
theorem CQ.qf{H:Hp}{d:KB}{ds:By}{xs:HQ}(h:CQ H (d::ds) xs):∃x r,xs=x::r/\DU H d x/\CQ H ds r:=by
 obtain⟨N,b⟩:=h;have h0:=b N em;rw[Ay]at h0;obtain⟨x,r,rfl,_,_⟩:=h0;refine⟨x,r,rfl,⟨N,fun l g=>?_⟩,⟨N,fun l g=>?_⟩⟩
 .have:=b l g;rw[Ay]at this;obtain⟨_,_,e,T,_⟩:=this;cases e;exact T
 .have:=b l g;rw[Ay]at this;obtain⟨_,_,e,_,T⟩:=this;cases e;exact T
theorem DU.rat{H:Hp}{q:Rat}{v:V}(h:DU H (Aj q) v):∃p,v=.ref p/\H p=some (.tup (KH q)):=h.ints (ps:=[q.num,(q.den:Int)])
theorem cJ{H:Hp}{q:Rat}{p:Addr}(h:H p=some (.tup (KH q))):DU H (Aj q) (.ref p):=.tup h (.cons .int (.cons .int .nil))
theorem P9{c:Addr}{zs:HQ}{H:Hp}(T:H c=some (.lst zs)):∀ {g:db} {xs:HQ},CQ H (Al g) xs->Ay c H (Al g) xs
 |[],xs,h=>by
  have:=h.len;rw[show Al []=[] from rfl,List.length_nil]at this;rw[List.eq_nil_of_length_eq_zero this];exact .nil
 |q::g,xs,h=>by
  obtain⟨x,r,rfl,Z,Y⟩:=CQ.qf h;obtain⟨p,rfl,U⟩:=Z.rat;exact .cons (.tup (fun z=>by subst z;rw[U]at T;cases T) U (.cons .int (.cons .int .nil))) (P9 T Y)
theorem Th{c:Addr}{zs:HQ}{H H':Hp}(T:H c=some (.lst zs))(e:SameBut c H H'){g:db}{xs:HQ}(h:CQ H (Al g) xs):CQ H' (Al g) xs:=K6 (.but e (P9 T h))
theorem nP{c a:Addr}{zs xs:HQ}{H:Hp}{g:db}(T:H c=some (.lst zs))(n:a≠c)(ha:H a=some Os)(h:CQ H (Al g) xs):Dt c H (Bq g) Mt:=.lst n ha (P9 T h)
theorem DU.tab{H:Hp}{t:Tb}{v:V}(h:DU H l0 v):∃p R L xs ys,v=.ref p/\H p=some (.tup [.ref R,.ref L])/\H R=some Os/\CQ H (BD t.rs) xs/\H L=some Mj/\CQ H (Al t.ls) ys:=by
 obtain⟨p,zs,rfl,g,h1⟩:=h.qM;obtain⟨x,y,rfl,h2,h3⟩:=h1.Nm;obtain⟨R,xs,rfl,T,Z⟩:=h2.nq;obtain⟨L,ys,rfl,U,Y⟩:=h3.nq;exact⟨p,R,L,xs,ys,rfl,g,T,Z,U,Y⟩
theorem lX{H:Hp}{t:Tb}{p R L:Addr}{xs ys:HQ}(g:H p=some (.tup [.ref R,.ref L]))(T:H R=some Os)(Z:CQ H (BD t.rs) xs)(U:H L=some Mj)(Y:CQ H (Al t.ls) ys):DU H l0 (.ref p) :=
 .tup g (.cons (.lst T Z) (.cons (.lst U Y) .nil))
theorem V4{H:Hp}{rs:List (List Rat)}{xs:HQ}{i:Nat}{r:db}(h:CQ H (BD rs) xs)(g:rs[i]? = some r):∃a ys,xs[i]? = some Mt/\H a=some Mj/\CQ H (Al r) ys:=by
 obtain⟨v,Z,Y⟩:=h.get (i:=i) (d:=Bq r) (by rw[BD,List.getElem?_map,g];rfl);obtain⟨a,ys,rfl,U,T⟩:=Y.nq;exact⟨a,ys,Z,U,T⟩
theorem OJ(a b:db):Al (a++b)=Al a++Al b:=List.map_append
def IW(c b:Int):Int:=c.fdiv (FM.gi c b)*b
def JK(bs:XV):Int:=bs.foldl IW 1
theorem VH{k:Nat}:∀(bs:XV) (c:Int) (n:Nat),1<=c->c.natAbs<2^n->(∀b∈bs,1<=b/\b.natAbs<2^k) ->
  1<=bs.foldl IW c/\(bs.foldl IW c).natAbs<2^(n+k*bs.length)/\c ∣ bs.foldl IW c/\∀b∈bs,b ∣ bs.foldl IW c
 |[],c,n,U,T,_=>⟨U,by simpa using T,Int.dvd_refl _,fun _ z=>(List.not_mem_nil z).elim⟩
 |b::bs,c,n,U,T,h=>by
  obtain⟨b1,b2⟩:=h b af;obtain⟨s1,s2,s3,Z⟩:=Qi U b1;have n1:(IW c b).natAbs<2^(n+k):=FM.Qy (aS Z T) b2;obtain⟨r1,r2,Y,r4⟩:=VH bs (IW c b) (n+k) s1 n1 fun y g=>h y (aT _ g);refine⟨r1,?_,Int.dvd_trans s2 Y,fun y g=>?_⟩
  .rw[List.length_cons,Nat.mul_succ,show n+(k*bs.length+k)=n+k+k*bs.length by lia];exact r2
  .rcases aO.mp g with rfl|g
   .exact Int.dvd_trans s3 Y
   .exact r4 y g
theorem XS{k:Nat}{bs:XV}(h:∀b∈bs,1<=b/\b.natAbs<2^k):1<=JK bs/\(JK bs).natAbs<2^(1+k*bs.length)/\∀b∈bs,b ∣ JK bs:=by
 obtain⟨a,b,_,d⟩:=VH bs 1 1 BY BY h;exact⟨a,b,d⟩
theorem ZX(bs:XV)(b:Int):JK (bs++[b])=IW (JK bs) b:=by
 unfold JK;rw[List.foldl_append]
 rfl
def cC:Sp:=fun vs H Q _=>∃(a:Addr) (bs:XV) (k:Nat),vs=[.ref a]/\H a=some (.lst (bs.map V.int))/\(∀b∈bs,1<=b/\b.natAbs<2^k)/\k*bs.length<=4000/\Q (.int (JK bs)) H
def Gh(rs:db)(B:Int):List Int:=rs.map fun r=>r.num*B.fdiv (r.den:Int)
def dF:Sp:=fun vs H Q _=>∃(a:Addr) (xs:HQ) (rs:db) (B:Int) (n m:Nat),vs=[.ref a,.int B]/\H a=some Os/\CQ H (Al rs) xs/\rs.length<=50/\(∀r∈rs,FM.Fits r n)/\B.natAbs<2^m/\n+m<=4000 /\
 ∀D H',AK H H'->H D=none->H' D=some (.lst ((Gh rs B).map V.int))->Q (.ref D) H'
theorem M9{H:Hp}{g:db}{xs:HQ}{i:Nat}{q:Rat}(h:CQ H (Al g) xs)(T:g[i]? = some q):∃p,xs[i]? = some (.ref p)/\H p=some (.tup (KH q)):=by
 obtain⟨v,Z,Y⟩:=h.get (i:=i) (d:=Aj q) (by rw[Al,List.getElem?_map,T];rfl);obtain⟨p,rfl,U⟩:=Y.rat;exact⟨p,Z,U⟩
theorem Xv{rs:db}{n:Nat}(h:∀r∈rs,FM.Fits r n):∀b∈rs.map (fun r=>(r.den:Int)),1<=b/\b.natAbs<2^n:=fun b hb=>by
 obtain⟨r,g,rfl⟩:=aU.mp hb;have:=r.den_nz;exact⟨by lia,(h r g).d⟩
section
variable{P:Io}{w:Mw}{K:As}{mg:Fa}{base:Heap}{f g:Addr}{fd gd:IR}
theorem PL(F:Fn K mg "common_bottom" FR ["bottoms"] f fd)(Aw:Fn K mg "greatest_divisor" CL MY g gd)
 (BS:AH P w K mg base Ah 1 g gd MY Oi):AH P w K mg base Ah 2 f fd ["bottoms"] cC:=by
 have sc:=LY;refine F.F.ok (k:=1) sc JP IO
 .obtain⟨a,bs,k,rfl,_⟩:=h
  rfl
 obtain⟨a,bs,k,rfl,ha,hb,hk,q⟩:=h;refine⟨_,(AZ (BB (i:=1) sc.nd rfl Cl AX)
 (AZ (Hm aP rfl (EV uf) uh
  (Ai (BB (i:=1) sc.nd rfl Cl (A0 Cs (A0 Fe ua (Bs Aw BS hr rfl (AG ua (AG uu AU)))) uu))))
 (Ai (BV ua)))),?_⟩
 refine⟨_,rfl,a,rfl,⟨_,Aq.of ha⟩,LI (xs:=bs.map V.int) (fun i σ H'=>∃(r:Option V),σ=[some Mt,some (.int (JK (bs.take i))),r]/\H=H') ?_ ?_ ?_ ?_⟩
 .exact⟨_,rfl,rfl⟩
 .rintro i σ H' _ ⟨r,rfl,rfl⟩;exact Aq.of ha
 .rintro i x σ H' T ⟨r,rfl,rfl⟩;have hi:i<bs.length:=by have:=(aE.mp T).1;simpa using this
  rw[List.getElem?_map,List.getElem?_eq_getElem hi]at T;cases T;obtain⟨b1,b2⟩:=hb _ (bY hi);obtain⟨c1,U,_⟩:=XS (k:=k) (bs:=bs.take i) fun y hy=>hb y (List.mem_of_mem_take hy);rw[List.length_take,Nat.min_eq_left AS]at U;obtain⟨s1,s2,s3,Y⟩:=Qi c1 b1;have hg:FM.gi (JK (bs.take i)) bs[i]≠0:=Int.ne_of_gt (FM.MW AS);have hki:k*i+k<=4000:=by
   have:k*SL<=k*bs.length:=aw k hi;rw[Nat.mul_succ]at this
   lia
  have Z:((JK (bs.take i)).fdiv (FM.gi (JK (bs.take i)) bs[i])).natAbs<2^(1+k*i):=aS Y U;refine⟨_,rfl,_,rfl,_,rfl,JK (bs.take i),bs[i],rfl,_,_,rfl,rfl,⟨hg,k,by have:k*1<=k*bs.length:=aw k AS;lia,Nat.lt_of_le_of_lt (FM.Yr AS) b2⟩,_,rfl,_,_,rfl,rfl,OB Z b2 AS,some (.int bs[i]),?_,rfl⟩;rw[List.take_add_one,List.getElem?_eq_getElem hi];show _=[some (V.ref a),some (V.int (JK (bs.take i++[bs[i]]))),some (V.int bs[i])];rw[ZX]
  rfl
 .rintro σ H' ⟨r,rfl,rfl⟩;rw[List.length_map,List.take_length];exact⟨_,rfl,q⟩
theorem Vc:Ag ["some","bottom"] ["some","bottom"] (AL MN):=⟨rfl,rfl,rfl,by decide +kernel,rfl,by decide +kernel,by decide +kernel⟩
theorem Vr(F:Fn K mg "tops_over" MN ["some","bottom"] f fd):AH P w K mg base Ah 1 f fd ["some","bottom"] dF:=by
 have sc:=Vc;refine F.F.ok (k:=0) sc JP (fun cdv A outer s H vs Q E Z h=>?_)
 .obtain⟨a,xs,rs,B,n,m,rfl,_⟩:=h
  rfl
 obtain⟨a,xs,rs,B,n,m,rfl,ha,dx,hl,hf,hB,hnm,q⟩:=h;have hxl:xs.length=rs.length:=by rw[dx.len,DV]
 refine⟨_,(Ai (BV (FV [".0","part","bottom"] 1 [none,none,some 1] (EV uf) li (fun _ _ _ _ _=>(A0 Cs (CI Jd ua AX Fr) (A0 Fe uu (CI Jd ua AX Fr))))))),?_⟩;refine⟨_,rfl,a,rfl,⟨_,Aq.of ha⟩,fun D hD=>Fp (n:=xs.length) (fun i ys H'=>AK H H'/\ys=(Gh (rs.take i) B).map V.int) ⟨Ak hD _,rfl⟩ ?_ ?_⟩
 .rintro i ys H1 hi ⟨U,rfl⟩ T;have Z:rs[i]? = some (rs[i]' AS):=aM _;obtain⟨p,hp1,Y⟩:=M9 dx Z;have ft:=hf _ (aK Z);generalize rs[i]' AS=r at Z Y ft;have hd:=r.den_nz;refine⟨⟨xs,.ref p,Aq.of (U _ _ ha),hp1⟩,Qt (n:=60) (by unfold Gh;simp;lia) BY,fun x H' y=>?_⟩;obtain⟨rfl,y⟩:=y;have hx:=y xs (Aq.of (U _ _ ha));rw[hp1]at hx;cases hx;unfold HI;have n2:(B.fdiv (r.den:Int)).natAbs<2^m:=aS (FM.FP _ _) hB;refine Eu ⟨_,rfl,_,_,_,_,rfl,rfl,BI.of (U _ _ Y),rfl,_,rfl,_,rfl,_,_,_,_,rfl,rfl,BI.of (U _ _ Y),rfl,_,_,rfl,rfl,⟨by lia,n,by lia,ft.d⟩,_,_,rfl,rfl,OB ft.1 n2 AS,T,EB hi ⟨fun b o z=>?_,?_⟩⟩
  .rw[AJ (AV z hD)];exact U _ _ z
  .rw[List.take_add_one,Z,Gh,Gh,List.map_append,List.map_append]
   rfl
 .rintro ys H1 ⟨U,rfl⟩ T;rw[hxl,List.take_length]at T;exact⟨⟨xs,Aq.of (U _ _ ha),Nat.le_refl _⟩,q D H1 U hD T⟩
end
def Dd(a b:XV):List Int:=List.zipWith (· * ·) a b
def Wg(a b:XV):Int:=(Dd a b).sum
def Fg(n:Nat):List Int:=List.replicate n 1
def Kd(rows:bd):Tr->List Int->List Int
 |.nil,g=>g
 |.cons b r,g=>Kd rows r (Dd g (rows.map fun row=>Wg row (Kd rows b pw)))
def FN(rows:bd)(t:Tr):List Int:=rows.map fun row=>Wg row (Kd rows t pw)
theorem Rc(rows:bd):∀(t:Tr) (g:XV),Kd rows t g=t.bs.foldl tq g
 |.nil,g=>rfl
 |.cons b r,g=>by
  rw[Kd,Tr.bs,List.foldl_cons,Rc rows r]
  rfl
theorem MZ(rows:bd)(t:Tr):(FN rows t).length=rows.length:=bV _
theorem df{a b:XV}(h:a.length=b.length):(Dd a b).length=a.length:=by unfold Dd;rw[List.length_zipWith,h,Nat.min_self]
def Dw(n:Nat)(xs:XV):Prop:=∀x∈xs,x.natAbs<=n
theorem Dw.mul{m n:Nat}:∀ {a b:XV},Dw m a->Dw n b->Dw (m*n) (Dd a b)
 |[],_,_,_=>fun x h=>by cases h
 |_::_,[],_,_=>fun x h=>by cases h
 |x::a,y::b,ha,hb=>fun z h=>by
  have h:z∈x*y::Dd a b:=h;rcases aO.mp h with rfl|h
  .rw[Int.natAbs_mul];exact Nat.mul_le_mul (ha x M2) (hb y M2)
  .exact Dw.mul (fun x h=>ha x (.tail _ h)) (fun x h=>hb x (.tail _ h)) z h
theorem dI{n:Nat}:∀ {a:XV},Dw n a->a.sum.natAbs<=a.length*n
 |[],_=>bK _
 |x::a,h=>by
  have T:=h x M2;have g:=dI (a:=a) fun x h'=>h x (.tail _ h');rw[List.sum_cons,List.length_cons,Nat.succ_mul];have:=Int.natAbs_add_le x a.sum
  lia
theorem j7{m n:Nat}{a b:XV}(ha:Dw m a)(hb:Dw n b):(Wg a b).natAbs<=a.length*m*n:=by
 have h:=dI (ha.mul hb);have g:(Dd a b).length<=a.length:=by unfold Dd;rw[List.length_zipWith];exact Nat.min_le_left _ _
 refine aQ h ?_;rw[Nat.mul_assoc];exact Nat.mul_le_mul_right _ g
structure LS(rows:bd)(c:Nat):Prop where
 len:rows.length<=1000
 one:∀row∈rows,row.length<=rows.length
 big:∃M,(∀row∈rows,Dw M row)/\M<=2^c/\∀row∈rows,row.length*M<=2^c
theorem Dw.mono{m n:Nat}{xs:XV}(h:Dw m xs)(e:m<=n:=by decide):Dw n xs:=fun x g=>aQ (h x g) e
theorem Su(n k:Nat):Dw (2^k) (Fg n):=fun x h=>by
 unfold Fg at h;rw[List.eq_of_mem_replicate h];exact Nat.one_le_two_pow
theorem gR{rows:bd}{c:Nat}(h:LS rows c){t:Tr}{k:Nat}(U:Dw (2^(c*k)) (Kd rows t pw)):Dw (2^(c*oF)) (FN rows t):=fun x g=>by
 unfold FN at g;obtain⟨row,T,rfl⟩:=aU.mp g;obtain⟨M,Z,_,Y⟩:=h.big;have:=j7 (Z row T) U;refine aQ this ?_;rw[Nat.mul_add,Nat.mul_one,Nat.add_comm,Nat.pow_add];exact Nat.mul_le_mul_right _ (Y row T)
theorem R8{rows:bd}{c:Nat}(h:LS rows c):∀(t:Tr) (g:XV) (j:Nat),g.length=rows.length->Dw (2^(c*j)) g->(Kd rows t g).length=rows.length/\Dw (2^(c*(j+(t.AQ-1)))) (Kd rows t g)
 |.nil,g,j,T,ha=>⟨T,ha⟩
 |.cons b r,g,j,T,ha=>by
  have hb:=R8 h b pw 0 (List.length_replicate ..) (Su _ _);have kb:1<=b.AQ:=Tr.D4 b;have kr:1<=r.AQ:=Tr.D4 r;rw[Nat.zero_add]at hb;have Z:=gR h hb.2;rw[show b.AQ-1+1=b.AQ by lia]at Z;have Y:=ha.mul Z;rw[<-Nat.pow_add,<-Nat.mul_add]at Y;have U:=R8 h r (Dd g (FN rows b)) (j+b.AQ) (by rw[df (by rw[T,MZ])];exact T) Y;rw[Kd,Tr.AQ];refine⟨U.1,?_⟩;rw[show j+(b.AQ+r.AQ-1)=j+b.AQ+(r.AQ-1) by lia];exact U.2
theorem jO{rows:bd}{c:Nat}(h:LS rows c)(t:Tr):Dw (2^(c*t.AQ)) (FN rows t):=by
 have T:=(R8 h t pw 0 (List.length_replicate ..) (Su _ _)).2;have U:1<=t.AQ:=Tr.D4 t;rw[Nat.zero_add]at T;have g:=gR h T;rw[show t.AQ-1+1=t.AQ by lia]at g;exact g
theorem XD{m:Nat}(hm:m+1<=1000000){x y:Int}(T:x.natAbs<=2^m)(g:y.natAbs<=2^m):QH x y\/ND x y:=by
 have:2^m<2^(m+1):=Nat.pow_lt_pow_of_lt BY (bX m);exact .inr ⟨m+1,hm,Nat.lt_of_le_of_lt T this,Nat.lt_of_le_of_lt g this⟩
theorem K8{n:Nat}(h:n<=1000):n<sizeLine:=aS h PP
theorem Uq{H H':Hp}{p:Addr}(e:AK H H')(h:H' p=none):H p=none:=by
 cases z:H p with
 |none=>rfl
 |some o=>rw[e _ _ z]at h;cases h
theorem ints_get{ps:XV}{i:Nat}{x:Int}(h:ps[i]? = some x):(ps.map V.int)[i]? = some (.int x):=by rw[List.getElem?_map,h];rfl
theorem Tg{xs ys:XV}{i:Nat}{x y:Int}(T:xs[i]? = some x)(g:ys[i]? = some y):(Dd xs ys).take SL=(Dd xs ys).take i++[x*y]:=by
 have h:(Dd xs ys)[i]? = some (x*y):=by unfold Dd;rw[List.getElem?_zipWith,T,g]
 rw[List.take_add_one,h];rfl
def lO:Sp:=fun vs H Q _=>∃a b xs ys m,vs=[.ref a,.ref b]/\H a=some (.lst (xs.map V.int))/\H b=some (.lst (ys.map V.int))/\xs.length<=ys.length/\xs.length<=1000/\m+1<=1000000/\Dw (2^m) xs/\Dw (2^m) ys/\∀H',AK H H'->Q (.int (Wg xs ys)) H'
section
variable{P:Io}{w:Mw}{K:As}{mg:Fa}{base:Heap}{f:Addr}{fd:IR}
theorem Y4:Ag ["row","shares"] ["row","shares"] (AL OC):=⟨rfl,rfl,rfl,by decide +kernel,rfl,by decide +kernel,by decide +kernel⟩
theorem Y0(F:Fn K mg "read_by" OC ["row","shares"] f fd)(FU:mg "sum" = none)(EL:mg "zip" = none):AH P w K mg base Ah 1 f fd ["row","shares"] lO:=by
 have sc:=Y4;refine F.F.ok (k:=0) sc JP IO
 .obtain⟨a,b,ps,qs,m,rfl,_⟩:=h
  rfl
 obtain⟨a,b,ps,qs,m,rfl,ha,hb,hl,h60,hm,sx,sy,q⟩:=h;refine⟨_,(Ai (BV (BR (NB rfl) rfl FU bp (AG (OE [".0","part","share"] 1 2 [none,none,none] (WJ rfl EL (AG uf (AG ua AU))) li (fun _ _ _ _ _=>(A0 Cs ua uu))) AU)))),?_⟩;refine⟨_,rfl,_,rfl,false,false,a,b,rfl,⟨_,ha⟩,⟨_,hb⟩,fun D hD=>Qr (n:=ps.length) (fun i us H'=>AK H H'/\us=((Dd ps qs).take i).map V.int) ?_ ?_ ?_⟩
 .exact⟨Ak hD _,by rw[List.take_zero];rfl⟩
 .rintro i us H1 hi ⟨T,rfl⟩ g;have hx:=aM hi;have hy:=aM (l:=qs) (i:=i) AS;have e1a:=T _ _ ha;have Z:=T _ _ hb;refine⟨⟨_,_,_,_,e1a,Z,ints_get hx,ints_get hy⟩,K8 (by rw[List.length_map,List.length_take];lia),fun v H' y=>?_⟩;obtain⟨p,x,z,rfl,np,rfl,k1,k2⟩:=y;have Y:=k1 _ e1a;have U:=k2 _ Z;rw[ints_get hx]at Y;rw[ints_get hy]at U;cases Y;cases U;have sp:=Ak np (.tup [.int ps[i],.int qs[i]]);refine⟨p,_,_,rfl,BI.of AR,?_⟩;unfold HI;refine Eu ⟨_,rfl,_,rfl,_,_,rfl,rfl,XD hm (sx _ (bY _)) (sy _ (bY _)),sp _ _ g,EB hi ⟨fun c o z=>?_,?_⟩⟩
  .rw[AJ (AV z hD)];exact sp _ _ (T _ _ z)
  .rw[Tg hx hy,List.map_append]
   rfl
 .rintro us H1 ⟨T,rfl⟩ g;refine⟨⟨_,_,T _ _ ha,T _ _ hb,.inl (by rw[List.length_map])⟩,D,_,rfl,Aq.of g,?_⟩;rw[List.take_of_length_le (by unfold Dd;rw[List.length_zipWith];lia)];exact q _ T
end
def KW(d:Addr)(H H':Hp):Prop:=∀a o,a≠d->H a=some o->H' a=some o
theorem KW.of{d:Addr}{H H':Hp}(e:AK H H'):KW d H H':=fun a o _ h=>e a o h
theorem KW.trans{d:Addr}{H T g:Hp}(e:KW d H T)(U:KW d T g):KW d H g:=fun a o n h=>U a o n (e a o n h)
theorem nB{d:Addr}{r:List KR}{xs:HQ}:dN d r≠.lst xs:=by unfold dN;intro z;cases z
theorem ko{d:Addr}{r:List KR}{xs:HQ}:dN d r≠.tup xs:=by unfold dN;intro z;cases z
theorem KW.lst{d:Addr}{H H':Hp}(e:KW d H H'){r:List KR}(hd:H d=some (dN d r)){l:Addr}{xs:HQ}(h:H l=some Os):H' l=some Os:=e l _ (Yw h hd fun z=>nB z.symm) h
theorem KW.BL{d:Addr}{H H':Hp}(e:KW d H H'){r:List KR}(hd:H d=some (dN d r)):MK H H':=fun b xs h=>e b _ (Yw h hd fun z=>ko z.symm) h
def UN(H:Hp)(vs:HQ)(rows:bd):Prop:=vs.length=rows.length/\∀(i:Nat) (row:XV),rows[i]? = some row->∃a:Addr,vs[i]? = some Mt/\H a=some (.lst (row.map V.int))
theorem UN.same{H H':Hp}{vs:HQ}{rows:bd}(h:UN H vs rows)(e:AK H H'):UN H' vs rows:=⟨h.1,fun i row hi=>let⟨a,T,g⟩:=h.2 i row hi;⟨a,T,e _ _ g⟩⟩
theorem UN.but{d:Addr}{H H':Hp}{vs:HQ}{rows:bd}(h:UN H vs rows)(e:KW d H H'){r:List KR}(hd:H d=some (dN d r)):UN H' vs rows:=⟨h.1,fun i row hi=>let⟨a,T,g⟩:=h.2 i row hi;⟨a,T,e.lst hd g⟩⟩
structure Y7(Dm:iF)(c:Nat):Prop where
 len:Dm.length<=1000
 inj:∀a∈Dm,∀b∈Dm,TH.Bx (some a)=TH.Bx (some b)->a=b
 bs:∀t∈Dm,∀b∈t.bs,b∈Dm
 deep:∀t∈Dm,t.deep<8
 size:∀t∈Dm,c*t.AQ+1<=1000000
structure Memo(Dm:iF)(rows:bd)(W:Addr)(H:Hp)(d:Addr)(r:List KR):Prop where
 at_:H d=some (dN d r)
 nd:(r.map cx).Nodup
 all:∀q∈r,∃(t:Tr) (l:Addr),q.1=some t/\t∈Dm/\Tv H t q.2.1/\q.2.2=.ref l/\H l=some (.lst ((FN rows t).map V.int))/\l≠W
theorem Memo.same{Dm:iF}{rows:bd}{W:Addr}{H H':Hp}{d:Addr}{r:List KR}(h:Memo Dm rows W H d r)(e:AK H H'):Memo Dm rows W H' d r:=⟨e _ _ h.at_,h.nd,fun q g=>let⟨t,l,h1,h2,Z,Y,U,T⟩:=h.all q g;⟨t,l,h1,h2,Z.same e,Y,e _ _ U,T⟩⟩
theorem Memo.ok{Dm:iF}{c:Nat}{rows:bd}{W:Addr}{H:Hp}{d:Addr}{r:List KR}(h:Memo Dm rows W H d r)(D:Y7 Dm c){t:Tr}(Z:t∈Dm):VP H d r (some t):=by
 refine⟨h.at_,fun q g=>?_,h.nd,fun q g Y=>?_⟩
 .obtain⟨u,l,U,T,h3,_⟩:=h.all q g;rw[U];exact⟨D.deep u T,h3⟩
 .obtain⟨u,l,U,T,_⟩:=h.all q g;rw[U]at Y ⊢;rw[D.inj u T t Z Y]
theorem Tn{α:Type}[DecidableEq α]:∀ {a b:tV},a.Nodup->(∀x∈a,x∈b)->a.length<=b.length
 |[],_,_,_=>bK _
 |x::a,b,hn,h=>by
  have T:=h x M2;obtain⟨Y,U⟩:=List.nodup_cons.mp hn;have:=Tn (a:=a) (b:=b.erase x) U fun y g=>(List.mem_erase_of_ne (show y≠x from fun e=>Y (by rw[<-e];exact g))).mpr (h y (.tail _ g));rw[List.length_erase_of_mem T]at this;have:=List.length_pos_of_mem T;rw[List.length_cons]
  lia
theorem Memo.len{Dm:iF}{rows:bd}{W:Addr}{H:Hp}{d:Addr}{r:List KR}(h:Memo Dm rows W H d r):r.length<=Dm.length:=by
 have:=Tn (b:=Dm.map some) h.nd fun x g=>by
  obtain⟨q,T,rfl⟩:=aU.mp g;obtain⟨u,l,Y,U,_⟩:=h.all q T;rw[Y];exact List.mem_map_of_mem U
 simpa using this
theorem Memo.put{Dm:iF}{rows:bd}{W:Addr}{H H':Hp}{d:Addr}{r:List KR}(h:Memo Dm rows W H d r){t:Tr}{v:V}{l:Addr}(ht:t∈Dm)(tv:Tv H t v)(hl:H l=some (.lst ((FN rows t).map V.int)))(hlW:l≠W)
 (e:H'=upd H d (dN d (Gu r (some t) v (.ref l)))):KW d H H'/\Memo Dm rows W H' d (Gu r (some t) v (.ref l))/\H' l=some (.lst ((FN rows t).map V.int)):=by
 subst e;have hb:KW d H (upd H d (dN d (Gu r (some t) v (.ref l)))):=fun a o n h=>by rw[AJ n];exact h
 have Z:=hb.lst h.at_ hl;have old:∀q∈r,∃(t':Tr) (l':Addr),q.1=some t'/\t'∈Dm/\Tv (upd H d (dN d (Gu r (some t) v (.ref l)))) t' q.2.1/\q.2.2=.ref l'/\upd H d (dN d (Gu r (some t) v (.ref l))) l'=some (.lst ((FN rows t').map V.int))/\l'≠W:=fun q g=>by
  obtain⟨u,l',h1,T,h3,h4,h5,h6⟩:=h.all q g;exact⟨u,l',h1,T,h3.BL (hb.BL h.at_),h4,hb.lst h.at_ h5,h6⟩
 refine⟨hb,⟨AR,?_,fun q g=>?_⟩,Z⟩
 .unfold Gu;split
  .rw[List.map_map];rw[show((fun x:KR=>x.1) ∘ fun q:KR=>if q.1=some t then(q.1,q.2.1,V.ref l) else q)=fun x=>x.1 from funext fun q=>by
    show(if q.1=some t then(q.1,q.2.1,V.ref l) else q).1=q.1;split<;>rfl]
   exact h.nd
  .rename_i hn;rw[List.map_append];refine List.nodup_append.mpr ⟨h.nd,by simp,fun a ha b hb'=>?_⟩;obtain⟨q,g,rfl⟩:=aU.mp ha;have hb':b=some t:=by simpa using hb'
   subst hb';have hn:r.find? (fun q=>decide (q.1=some t))=none:=by
    cases z:r.find? (fun q=>decide (q.1=some t)) with
    |none=>rfl
    |some x=>rw[z]at hn;exact absurd rfl hn
   have:=bc.mp hn q g
   simpa using this
 .have Y:q∈r\/(∃U∈r,U.1=some t/\q=(U.1,U.2.1,.ref l))\/q=(some t,v,.ref l):=by
   unfold Gu at g;split at g
   .obtain⟨U,h1,T⟩:=aU.mp g;split at T
    .rename_i z;exact .inr (.inl ⟨U,h1,z,T.symm⟩)
    .subst T;exact .inl h1
   .rcases bH.mp g with g|g
    .exact .inl g
    .exact .inr (.inr (by simpa using g))
  rcases Y with Y|⟨U,h1,T,rfl⟩|rfl
  .exact old q Y
  .obtain⟨u,l',k1,k2,k3,_⟩:=old U h1;rw[T]at k1;cases k1;exact⟨t,l,T,k2,k3,rfl,Z,hlW⟩
  .exact⟨t,l,rfl,ht,tv.BL (hb.BL h.at_),rfl,Z,hlW⟩
theorem Lr:∀ {t b:Tr},b∈t.bs->b.AQ<=t.AQ
 |.nil,b,h=>by cases h
 |.cons c r,b,h=>by
  rw[Tr.bs]at h;rw[Tr.AQ];rcases aO.mp h with rfl|h
  .exact Nat.le_add_right _ _
  .exact aQ (Lr h) (Nat.le_add_left _ _)
theorem dZ(r:List KR)(k:Option Tr)(T v:V):∃q,(Gu r k T v).find? og=some q:=by
 have:∃q∈Gu r k T v,q.1=k:=by
  unfold Gu;split
  .rename_i h;obtain⟨q,Z⟩:=Option.isSome_iff_exists.mp h;obtain⟨U,g⟩:=find_key Z;exact⟨_,List.mem_map_of_mem U,by rw[if_pos g];exact g⟩
  .exact⟨_,List.mem_append_right _ M2,rfl⟩
 obtain⟨q,U,g⟩:=this;cases z:(Gu r k T v).find? og with
 |some Y=>exact⟨Y,rfl⟩
 |none=>exact absurd g (by simpa using bc.mp z q U)
theorem RK:∀(t:Tr) (i:Nat),(Tr.of (t.bs.take i)).AQ<=t.AQ
 |.nil,i=>by rw[Tr.bs,List.take_nil];exact aI _
 |.cons b r,0=>by
  have:=Tr.D4 (.cons b r);exact this
 |.cons b r,i+1=>by
  rw[Tr.bs,List.take_succ_cons,Tr.of,Tr.AQ,Tr.AQ];exact Nat.add_le_add_left (RK r i) _
def dH(Dm:iF)(c n:Nat):Sp:=fun vs H Q _=>∃R g rows v t d r W,vs=[.ref R,v,.ref d]/\H R=some (.lst g)/\UN H g rows/\LS rows c/\Tv H t v/\t∈Dm/\t.deep<n/\(∃o,H W=some o)/\Memo Dm rows W H d r/\∀H' T l,KW d H H'->Memo Dm rows W H' d T->H' l=some (.lst ((FN rows t).map V.int))->Q (.ref l) H'
section
variable{P:Io}{w:Mw}{K:As}{mg:Fa}{base:Heap}{f g1:Addr}{fd gd1:IR}
theorem W5:Ag ["rows","tree","known","shares","bough"] ["rows","tree","known"] (AL NM):=⟨rfl,rfl,rfl,by decide +kernel,rfl,by decide +kernel,by decide +kernel⟩
theorem PX{Dm:iF}{c:Nat}(DO:Y7 Dm c)(FE:Fn K mg "readings" NM ["rows","tree","known"] f fd)(Jn:Fn K mg "read_by" OC ["row","shares"] g1 gd1)(SF:AH P w K mg base Ah 1 g1 gd1 ["row","shares"] lO)(A4:io)(EL:mg "zip" = none) :
  ∀n,AH P w K mg base Ah (n+1) f fd ["rows","tree","known"] (dH Dm c n)
 |0=>Jl fun _ _ _ _ ⟨_,_,_,_,_,_,_,_,_,_,_,_,_,_,h,_⟩=>absurd h (ai _)
 |n+1=>by
  have sc:=W5;have NY:=PX DO FE Jn SF A4 EL n;have b5:=SF.mono (show 1<=n+1 by lia);refine FE.F.ok (k:=n+1) sc JP IO
  .obtain⟨R,rvs,rows,v,t,d,r,W,rfl,_⟩:=h
   rfl
  obtain⟨R,rvs,rows,v,t,d,r,W,rfl,hR,U,ro,tv,ht,hdp,⟨oW,hW⟩,Y,q⟩:=h;have hWs:∀ {H':Hp} {ρ:List KR},KW d H H'->Memo Dm rows W H' d ρ->∃o,H' W=some o:=fun {H' ρ} e m=>by
   by_cases z:W=d
   .exact⟨_,by rw[z];exact m.at_⟩
   .exact⟨_,e _ _ z hW⟩
  refine⟨_,(AZ (FL (Ct (my (by have:=hr.units;exact this) true) ua uu rfl)
  (AZ (BB (i:=3) sc.nd rfl (Or.inr rfl) (A0 ZZ (Jt (AG AX AU)) tm))
  (AZ (Hm aP rfl (VD ua) (A5 (i:=4) sc.nd rfl Cl)
   (Ai (BB (i:=3) sc.nd rfl (Or.inr rfl) (OE [".0","share","read"] 1 2 [none,none,none] (WJ rfl EL (AG (pv 3) (AG (Bs FE NY hr rfl (AG uf (AG (pv 4) (AG uu AU)))) AU))) li (fun _ _ _ _ _=>(A0 Cs ua uu))))))
  (Ai (VG (FV [".0","row","shares"] 1 [none,none,some 3] (EV uf) li (fun _ _ _ _ _=>(Bs Jn b5 hr rfl (AG ua (AG uu AU))))) (b7 uu ua (lT (by have:=hr.units;exact this)))))))
  Cw)
 (Ai (BV (mV (by have:=hr.units;exact this) uu ua Fr)))),?_⟩
  have key:KQ H (some t) v:=⟨DO.deep t ht,tv⟩;cases hz:r.find? (fun q=>decide (q.1=some t)) with
  |some q'=>
   refine⟨_,rfl,_,rfl,d,r,some t,rfl,key,Y.ok DO ht,false,by rw[hz];rfl,VT ?_⟩;obtain⟨hm,hk⟩:=find_key hz;obtain⟨u,l,h1,h2,h3,h4,h5,_⟩:=Y.all q' hm;rw[hk]at h1;cases h1;refine⟨_,rfl,_,rfl,d,r,some t,q',rfl,key,Y.ok DO ht,hz,?_⟩;rw[h4];exact q H r l (fun a o _ h=>h) Y h5
  |none=>
   refine⟨_,rfl,_,rfl,d,r,some t,rfl,key,Y.ok DO ht,true,by rw[hz];rfl,Eu ?_⟩;refine⟨by show 1<=sizeLine;decide,fun p hp=>⟨_,rfl,_,_,rfl,.inl (Aq.of (Ak hp _ _ _ hR)),p,_,_,rfl,rfl,AR,by lia,?_,?_,fun S hS=>?_⟩⟩
   .have:=U.1;have:=ro.len;lia
   .have:=U.1;have:=ro.len;refine bD (K8 ?_);simp
    lia
   rw[List.flatten_replicate_singleton,show((rvs.length:Nat):Int).toNat=rows.length by rw[U.1];rfl];have e0:AK H (upd (upd H p (.lst [V.int 1])) S (.lst (List.replicate rows.length (V.int 1)))):=(Ak hp _).trans (Ak hS _);have hS0:upd (upd H p (.lst [V.int 1])) S (.lst (List.replicate rows.length (V.int 1))) S=some (.lst (((t.bs.take 0).foldl tq pw).map V.int)):=by
    rw[AR,List.take_zero,List.foldl_nil];unfold Fg;rw[List.map_replicate]
   generalize upd (upd H p (.lst [V.int 1])) S (.lst (List.replicate rows.length (V.int 1)))=H0 at e0 hS0;obtain⟨a,ys,rfl,ha,hts⟩:=tv;have hyl:=hts.len;have sizes:∀i,((t.bs.take i).foldl tq pw).length=rows.length/\Dw (2^(c*t.AQ)) ((t.bs.take i).foldl tq pw):=fun i=>by
    have h:=R8 ro (Tr.of (t.bs.take i)) pw 0 (List.length_replicate ..) (Su _ _);rw[Rc,Tr.O9]at h;refine⟨h.1,h.2.mono (bg BY (aw _ ?_))⟩;have:=RK t i
    lia
   refine⟨_,rfl,a,rfl,⟨_,BI.of (e0 _ _ ha)⟩,jN (xs:=ys) (fun i σ H'=>∃(r4:Option V) (S:Addr) (ρ:List KR),σ=[some (.ref R),some Mt,some (.ref d),some (.ref S),r4]/\KW d H H'/\Memo Dm rows W H' d ρ/\H' S=some (.lst (((t.bs.take i).foldl tq pw).map V.int))) ?_ ?_ ?_ ?_⟩
   .exact⟨_,S,r,rfl,.of e0,Y.same e0,hS0⟩
   .rintro i σ H' _ ⟨r4,S',ρ,rfl,e,_⟩;exact BI.of (e.BL Y.at_ _ _ ha)
   .rintro i x σ H1 hx ⟨r4,S1,ρ,rfl,e1,me1,hS1⟩;obtain⟨b,hb,tb⟩:=hts.get hx;have hbm:b∈t.bs:=aK hb;have hbd:=Tr.Qg hbm;refine⟨_,rfl,_,rfl,_,rfl,_,rfl,R,rvs,rows,x,b,d,ρ,W,rfl,e1.lst Y.at_ hR,U.but e1 Y.at_,ro,tb.BL (e1.BL Y.at_),DO.bs t ht b hbm,by lia,hWs e1 me1,me1,fun H2 r2 l e2 me2 hl2=>?_⟩;have hS2:=e2.lst me1.at_ hS1;have e02:=e1.trans e2;obtain⟨sl,sb⟩:=sizes i;generalize hsh:(t.bs.take i).foldl tq pw=sh at sl sb hS2;have hnext:(t.bs.take SL).foldl tq pw=Dd sh (FN rows b):=by
     rw[List.take_add_one,hb,List.foldl_append,hsh];rfl
    have rl:=MZ rows b;have rb:=jO ro b;have kb:b.AQ<=t.AQ:=Lr hbm;have rb':=rb.mono (bg BY (aw c kb));refine⟨false,false,S1,l,rfl,⟨_,hS2⟩,⟨_,hl2⟩,fun D hD=>Qr (n:=sh.length) (fun j us H'=>AK H2 H'/\us=((Dd sh (FN rows b)).take j).map V.int) ?_ ?_ ?_⟩
    .exact⟨Ak hD _,by rw[List.take_zero];rfl⟩
    .rintro j us H3 hj ⟨g,rfl⟩ T;have hx:=aM hj;have hy:=aM (l:=FN rows b) (i:=j) AS;have e3a:=g _ _ hS2;have e3b:=g _ _ hl2;refine⟨⟨_,_,_,_,e3a,e3b,ints_get hx,ints_get hy⟩,K8 (by have:=ro.len;rw[List.length_map,List.length_take];lia),fun v H' y=>?_⟩;obtain⟨p,x,z,rfl,np,rfl,k1,k2⟩:=y;have hx':=k1 _ e3a;have hy':=k2 _ e3b;rw[ints_get hx]at hx';rw[ints_get hy]at hy';cases hx';cases hy';have sp:=Ak np (.tup [.int sh[j],.int (FN rows b)[j]]);refine⟨p,_,_,rfl,BI.of AR,?_⟩;unfold HI;refine Eu ⟨_,rfl,_,rfl,_,_,rfl,rfl,XD (DO.size t ht) (sb _ (bY _)) (rb' _ (bY _)),sp _ _ T,EB hj ⟨fun c o z=>?_,?_⟩⟩
     .rw[AJ (AV z hD)];exact sp _ _ (g _ _ z)
     .rw[Tg hx hy,List.map_append]
      rfl
    .rintro us H3 ⟨g,rfl⟩ T;refine⟨⟨_,_,g _ _ hS2,g _ _ hl2,.inl (by rw[List.length_map])⟩,?_⟩;refine⟨_,D,r2,rfl,e02.trans (.of g),me2.same g,?_⟩;rw[T,hnext,List.take_of_length_le (by unfold Dd;rw[List.length_zipWith];lia)]
   .rintro σ H1 ⟨r4,S1,ρ,rfl,e1,me1,hS1⟩;rw[hyl,List.take_length,<-Rc]at hS1;obtain⟨sl,sb⟩:=sizes t.bs.length;rw[List.take_length,<-Rc]at sl sb;have hR1:=e1.lst Y.at_ hR;have hrw1:=U.but e1 Y.at_;refine⟨_,rfl,R,rfl,⟨_,Aq.of hR1⟩,fun D hD=>Fp (n:=rvs.length) (fun j us H'=>AK H1 H'/\us=((FN rows t).take j).map V.int) ?_ ?_ ?_⟩
    .exact⟨Ak hD _,by rw[List.take_zero];rfl⟩
    .rintro j us H3 hj ⟨g,rfl⟩ T;have hj':j<rows.length:=by rw[<-U.1];exact hj
     have Z:=aM hj';generalize rows[j]=row at Z;have hrm:=aK Z;obtain⟨pr,g1,g2⟩:=hrw1.2 j row Z;have hR3:=g _ _ hR1;refine⟨⟨_,_,Aq.of hR3,g1⟩,K8 (by have:=ro.len;rw[List.length_map,List.length_take,MZ];lia),fun x H' y=>?_⟩;obtain⟨rfl,y⟩:=y;have hx:=y _ (Aq.of hR3);rw[g1]at hx;cases hx;unfold HI;obtain⟨M,b1,b2,_⟩:=ro.big;refine Eu ⟨_,rfl,_,rfl,pr,S1,row,_,c*t.AQ,rfl,g _ _ g2,g _ _ hS1,?_,?_,DO.size t ht,?_,sb,fun H4 e4=>?_⟩
     .rw[sl];exact ro.one row hrm
     .have:=ro.one row hrm;have:=ro.len;lia
     .refine(b1 row hrm).mono (aQ b2 (bg BY ?_));have:=Tr.D4 t;exact Nat.le_mul_of_pos_right c this
     .refine⟨e4 _ _ T,EB hj ⟨fun c o z=>?_,?_⟩⟩
      .rw[AJ (AV z hD)];exact e4 _ _ (g _ _ z)
      .have:(FN rows t)[j]? = some (Wg row (Kd rows t pw)):=by unfold FN;rw[List.getElem?_map,Z];rfl
       rw[List.take_add_one,this,List.map_append]
       rfl
    .rintro us H3 ⟨g,rfl⟩ T;rw[List.take_of_length_le (by rw[MZ,U.1];exact aI _)]at T;have me3:=me1.same g;have hDW:D≠W:=fun z=>by
      obtain⟨o,hw⟩:=hWs e1 me1;rw[<-z,hD]at hw;cases hw
     have tv3:Tv H3 t Mt:=⟨a,ys,rfl,g _ _ (e1.BL Y.at_ _ _ ha),(hts.BL (e1.BL Y.at_)).same g⟩;refine⟨⟨_,Aq.of (g _ _ hR1),Nat.le_refl _⟩,_,rfl,_,rfl,d,ρ,some t,rfl,⟨DO.deep t ht,tv3⟩,me3.ok DO ht,Nat.le_trans me3.len DO.len,?_⟩;generalize h4:upd H3 d (dN d (Gu ρ (some t) Mt (.ref D)))=H4;obtain⟨b4,me4,l4⟩:=me3.put ht tv3 T hDW h4.symm;have tv4:=tv3.BL (b4.BL me3.at_);have key4:KQ H4 (some t) Mt:=⟨DO.deep t ht,tv4⟩;obtain⟨q',hq',hv⟩:∃q',(Gu ρ (some t) (.ref a) (.ref D)).find? (fun q=>decide (q.1=some t))=some q'/\∃l,q'.2.2=.ref l/\H4 l=some (.lst ((FN rows t).map V.int)):=by
      obtain⟨q',hq'⟩:=dZ ρ (some t) Mt (.ref D);obtain⟨hm,hk⟩:=find_key hq';obtain⟨u,l,h1,h2,h3,h4,h5,_⟩:=me4.all q' hm;rw[hk]at h1;cases h1;exact⟨q',hq',l,h4,h5⟩
     obtain⟨l,hv,hl⟩:=hv;refine⟨_,rfl,_,rfl,d,_,some t,q',rfl,key4,me4.ok DO ht,hq',?_⟩;rw[hv];exact q H4 _ l ((e1.trans (.of g)).trans b4) me4 hl
end
def GA(r:db):List Int:=r.map fun q=>(q.den:Int)
def JC(t:Tb)(i:Nat):List Int:=GA t.ls++((t.rs.take i).map GA).flatten
def Fc(t:Tb):Int:=JK (JC t t.rs.length)
def Tb.Fits(t:Tb)(n:Nat):Prop:=(∀r∈t.rs,∀q∈r,FM.Fits q n)/\∀q∈t.ls,FM.Fits q n
theorem Rh{t:Tb}{i:Nat}{r:db}(h:t.rs[i]? = some r):JC t SL=JC t i++GA r:=by
 unfold JC;rw[List.take_add_one,h,List.map_append,List.flatten_append,List.append_assoc];simp
theorem L8{t:Tb}{m:Nat}(o:t.Ok m):∀i,i<=t.rs.length->(JC t i).length<=t.rs.length+t.rs.length*i
 |0,_=>by unfold JC GA;simp[o.last]
 |i+1,h=>by
  have g:=aM (l:=t.rs) (i:=i) AS;have:=L8 o i AS;rw[Rh g,List.length_append,show(GA t.rs[i]).length=t.rs[i].length from bV _,o.row i _ g,Nat.mul_succ]
  lia
theorem UK{t:Tb}{n:Nat}(h:t.Fits n)(i:Nat):∀b∈JC t i,1<=b/\b.natAbs<2^n:=fun b hb=>by
 unfold JC at hb;rcases bH.mp hb with hb|hb
 .exact Xv h.2 b hb
 .obtain⟨l,T,hb⟩:=List.mem_flatten.mp hb;obtain⟨r,g,rfl⟩:=aU.mp T;exact Xv (h.1 r (List.mem_of_mem_take g)) b hb
def k9:Sp:=fun vs H Q _=>∃(v:V) (t:Tb) (m n:Nat),vs=[v]/\DU H l0 v/\t.Ok m/\m<=40/\t.Fits n/\n*(m+m*m)<=4000/\∀H',AK H H'->Q (.int (Fc t)) H'
section
variable{P:Io}{w:Mw}{K:As}{mg:Fa}{base:Heap}{f g1 g2:Addr}{fd gd1:IR}
theorem SD:Ag ["table","bottoms","row"] UV (AL JY):=⟨rfl,rfl,rfl,by decide +kernel,rfl,by decide +kernel,by decide +kernel⟩
theorem Ru(F:Fn K mg "table_bottom" JY UV f fd)(Ca:Fn K mg "common_bottom" FR ["bottoms"] g1 gd1)
 (JI:AH P w K mg base Ah 2 g1 gd1 ["bottoms"] cC):AH P w K mg base Ah 3 f fd UV k9:=by
 have sc:=SD;refine F.F.ok (k:=2) sc JP (fun cdv A outer s H vs Q E g h=>?_)
 .obtain⟨v,t,m,n,rfl,_⟩:=h
  rfl
 obtain⟨v,t,m,n,rfl,dt,ot,hm,ft,hnm,q⟩:=h;obtain⟨p,R,L,xs,ys,rfl,hp,hR,dR,hL,dL⟩:=dt.tab;have hyl:ys.length=t.ls.length:=by rw[dL.len,DV]
 have hxl:xs.length=t.rs.length:=by rw[dR.len,B5]
 have h1:=ot.most;have h2:=ot.last;refine⟨_,(AZ (Pr (i:=1) [".0","part"] 1 [none,none] sc.nd rfl rfl (EV uY) li (fun _ _ _ _ _=>(CI Jd ua AX Fr)))
 (AZ (Hm aP rfl (EV uY) uh
  (Ai (CV (IB ag PySem.F.slot_list_extend PySem.F.type_list_extend Lx ua (AG (FV [".0","part"] 1 [none,none] (EV uu) li (fun _ _ _ _ _=>(CI Jd ua AX Fr))) AU)))))
 (Ai (BV (Bs Ca JI g rfl (AG ua AU)))))),?_⟩
 refine⟨_,rfl,_,_,_,_,rfl,rfl,BI.of hp,rfl,L,rfl,⟨_,Aq.of hL⟩,fun Z hZ=>Fp (n:=ys.length) (fun i us H'=>AK H H'/\us=(GA (t.ls.take i)).map V.int) ⟨Ak hZ _,rfl⟩ ?_ ?_⟩
 .rintro i us H1 hi ⟨e1,rfl⟩ hD1;have g:t.ls[i]? = some (t.ls[i]' AS):=aM _;obtain⟨p,U,T⟩:=M9 dL g;generalize t.ls[i]' AS=r at g T;refine⟨⟨ys,.ref p,Aq.of (e1 _ _ hL),U⟩,Qt (n:=60) (by unfold GA;simp;lia) BY,fun x H' y=>?_⟩;obtain⟨rfl,y⟩:=y;have hx:=y ys (Aq.of (e1 _ _ hL));rw[U]at hx;cases hx;unfold HI;refine Eu ⟨_,rfl,_,_,_,_,rfl,rfl,BI.of (e1 _ _ T),rfl,hD1,EB hi ⟨fun b o z=>?_,?_⟩⟩
  .rw[AJ (AV z hZ)];exact e1 _ _ z
  .rw[List.take_add_one,g,GA,GA,List.map_append,List.map_append]
   rfl
 rintro us H1 ⟨e1,rfl⟩ hZ1;rw[hyl,List.take_length]at hZ1;refine⟨⟨ys,Aq.of (e1 _ _ hL),Nat.le_refl _⟩,?_⟩;refine⟨_,rfl,_,_,_,_,rfl,rfl,BI.of (e1 _ _ hp),rfl,R,rfl,⟨_,Aq.of (e1 _ _ hR)⟩,LI (xs:=xs) (fun i σ H'=>∃r2,σ=[some (.ref p),some (.ref Z),r2]/\AK H H'/\H' Z=some (.lst ((JC t i).map V.int))) ?_ ?_ ?_ ?_⟩
 .exact⟨_,rfl,e1,by rw[hZ1];unfold JC;simp⟩
 .rintro i σ H' _ ⟨r2,rfl,e,_⟩;exact Aq.of (e _ _ hR)
 .rintro i x σ H2 hx ⟨r2,rfl,e2,Y⟩;have hi:i<t.rs.length:=by rw[<-hxl];exact(aE.mp hx).1
  have g:t.rs[i]? = some t.rs[i]:=aM hi;have hrl:=ot.row _ _ g;obtain⟨a,zs,g1,g2,dz⟩:=V4 dR g;generalize t.rs[i]=row at g dz hrl;rw[hx]at g1;cases g1;have hzl:zs.length=row.length:=by rw[dz.len,DV]
  refine⟨_,rfl,.inl ⟨rfl,_,Aq.of Y⟩,_,rfl,a,rfl,⟨_,Aq.of (e2 _ _ g2)⟩,fun D hD=>Fp (n:=zs.length) (fun j ys H'=>AK H2 H'/\ys=(GA (row.take j)).map V.int) ⟨Ak hD _,rfl⟩ ?_ ?_⟩
  .rintro j us H3 hj ⟨e3,rfl⟩ hD3;have E3:=e2.trans e3;have g:row[j]? = some (row[j]' AS):=aM _;obtain⟨p,U,T⟩:=M9 dz g;generalize row[j]' AS=r at g T;refine⟨⟨zs,.ref p,Aq.of (E3 _ _ g2),U⟩,Qt (n:=60) (by unfold GA;simp;lia) BY,fun x H' y=>?_⟩;obtain⟨rfl,y⟩:=y;have hx:=y zs (Aq.of (E3 _ _ g2));rw[U]at hx;cases hx;unfold HI;refine Eu ⟨_,rfl,_,_,_,_,rfl,rfl,BI.of (E3 _ _ T),rfl,hD3,EB hj ⟨fun b o z=>?_,?_⟩⟩
   .rw[AJ (AV z hD)];exact e3 _ _ z
   .rw[List.take_add_one,g,GA,GA,List.map_append,List.map_append]
    rfl
  .rintro us H3 ⟨e3,rfl⟩ hD3;have E3:=e2.trans e3;rw[hzl,List.take_length]at hD3;refine⟨⟨zs,Aq.of (E3 _ _ g2),Nat.le_refl _⟩,Z,D,_,_,rfl,rfl,e3 _ _ Y,hD3,?_,_,rfl,fun b o z=>?_,?_⟩
   .have:=L8 ot i AS;rw[List.length_map,List.length_map,show(GA row).length=row.length from bV _];have h40:t.rs.length*i<=40*40:=Nat.mul_le_mul AS AS;exact aQ (show _<=2000 by lia) PP
   .rw[AJ (AV z hZ)];exact e3 _ _ (e2 _ _ z)
   .rw[AR,Rh g,List.map_append]
 .rintro σ H2 ⟨r2,rfl,e2,Y⟩;rw[hxl]at Y;refine⟨_,rfl,Z,_,n,rfl,Y,UK ft _,?_,q H2 e2⟩;have:=L8 ot _ em;have h3:t.rs.length*t.rs.length<=m*m:=Nat.mul_le_mul h1 h1;exact aQ (aw n AS) hnm
end
def F8(t:Tb):List (List Int):=(t.rs++[t.ls]).map fun r=>Gh r (Fc t)
def EH(t:Tb)(u:Tr):Rat:=Rat.divInt ((FN (F8 t) u).getLast?.getD 0) (Fc t^u.AQ)
def mZ:Sp:=fun vs H Q _=>∃v u,vs=[v]/\Tv H u v/\u.deep<8/\u.AQ<=8/\∀H',AK H H'->Q (.int (u.AQ:Nat)) H'
def lK(Dm:iF)(c:Nat):Sp:=fun vs H Q _=>∃(v:V) (t:Tb) (L:Addr) (g:HQ) (ts:iF) (m n k:Nat),vs=[v,.ref L]/\DU H l0 v/\t.Ok m/\m<=40/\t.Fits n/\n*(m+m*m)<=4000/\LS (F8 t) c/\(Fc t).natAbs<2^k/\n+k<=4000/\1<=Fc t /\
 H L=some (.lst g)/\g.length=ts.length/\ts.length<=1000/\(∀(i:Nat) (x:V),g[i]? = some x->∃u,ts[i]? = some u/\Tv H u x/\u∈Dm/\u.AQ<=8/\k*u.AQ<=4000) /\
 ∀D H' T,AK H H'->H D=none->H' D=some (.lst T)->CQ H' (Al (ts.map (EH t))) T->Q (.ref D) H'
def Pp(H:Hp)(zs:HQ)(g:db):Prop:=zs.length=g.length/\∀(i:Nat) (q:Rat),g[i]? = some q->∃p:Addr,zs[i]? = some (.ref p)/\H p=some (.tup (KH q))
theorem Pp.BL{H H':Hp}{zs:HQ}{g:db}(h:Pp H zs g)(e:MK H H'):Pp H' zs g:=⟨h.1,fun i q hi=>let⟨p,U,T⟩:=h.2 i q hi;⟨p,U,e _ _ T⟩⟩
theorem Pp.snoc{H:Hp}{zs:HQ}{g:db}(h:Pp H zs g){p:Addr}{q:Rat}(T:H p=some (.tup (KH q))):Pp H (zs++[.ref p]) (g++[q]):=by
 refine⟨by rw[List.length_append,List.length_append,h.1];rfl,fun i r hi=>?_⟩;by_cases z:i<g.length
 .rw[List.getElem?_append_left z]at hi;rw[List.getElem?_append_left (by rw[h.1];exact z)];exact h.2 i r hi
 .rw[List.getElem?_append_right AS]at hi;rw[List.getElem?_append_right (by rw[h.1];lia),h.1];have:i-g.length=0:=by
   have:=(aE.mp hi).1;simp at this
   lia
  rw[this]at hi ⊢;cases hi;exact⟨p,rfl,T⟩
theorem Pp.qa{H:Hp}:∀ {g:db} {zs:HQ},Pp H zs g->CQ H (Al g) zs
 |[],[],_=>.nil
 |[],_::_,h=>by cases h.1
 |_::_,[],h=>by cases h.1
 |q::g,z::zs,h=>by
  obtain⟨p,U,T⟩:=h.2 0 q rfl;cases U;refine .cons (cJ T) (Pp.qa ⟨by simpa using h.1,fun i r hi=>?_⟩);exact h.2 SL r hi
theorem iM{xs:XV}(h:1<=xs.length):Gm (xs.map V.int) (-1)=some (V.int (xs.getLast?.getD 0)):=by
 have g:xs≠[]:=fun z=>by rw[z]at h;exact absurd h BY
 have e:=List.dropLast_concat_getLast g;rw[<-e,List.map_append,List.getLast?_append];exact dn _ _
theorem kD{b:Int}(h:1<=b)(k:Nat):b^k≠0:=Int.ne_of_gt (Int.pow_pos h)
theorem fV{b:Int}{k p:Nat}(h:b.natAbs<2^k)(hk:k*p<=4000):∃m,m<=9000/\(b^p).natAbs<2^m:=by
 refine⟨k*p+1,by lia,?_⟩;rw[Int.natAbs_pow];refine aS (Nat.pow_le_pow_left (bD h) p) ?_;rw[<-Nat.pow_mul];exact Nat.pow_lt_pow_of_lt BY AS
section
variable{P:Io}{w:Mw}{K:As}{mg:Fa}{base:Heap}{f g1 g2 g3 g4 g5 g6:Addr}{fd gd1 gd2 gd3 gd4 gd5 gd6:IR}
theorem QR:Ag ["table","trees","bottom","rows","known","weights","tree"] T0 (AL Gi):=⟨rfl,rfl,rfl,by decide +kernel,rfl,by decide +kernel,by decide +kernel⟩
theorem Qn{Dm:iF}{c:Nat}(DO:Y7 Dm c)(F:Fn K mg "weights_under" Gi T0 f fd)(HL:Fn K mg "table_bottom" JY UV g1 gd1)(Ji:Fn K mg "tops_over" MN ["some","bottom"] g2 gd2)
 (FE:Fn K mg "readings" NM ["rows","tree","known"] g3 gd3)(Ke:Fn K mg "power_of" NT ["base","power"] g4 gd4)(BH:Fn K mg "knots_within" EX ZB g5 gd5)(CT:Fn K mg "fraction_of" GD ["top","bottom"] g6 gd6)
 (TF:AH P w K mg base Ah 11 g1 gd1 UV k9)(W0:AH P w K mg base Ah 11 g2 gd2 ["some","bottom"] dF)(NY:AH P w K mg base Ah 11 g3 gd3 ["rows","tree","known"] (dH Dm c 8))(YS:AH P w K mg base Ah 11 g4 gd4 ["base","power"] fm)
 (Bo:AH P w K mg base Ah 11 g5 gd5 ZB mZ)(GJ:AH P w K mg base Ah 11 g6 gd6 ["top","bottom"] Qd):AH P w K mg base Ah 12 f fd T0 (lK Dm c):=by
 have sc:=QR;refine F.F.ok (k:=11) sc JP IO
 .obtain⟨v,t,L,tvs,ts,m,n,k,rfl,_⟩:=h
  rfl
 obtain⟨v,t,L,tvs,ts,m,n,k,rfl,dt,ot,hm,ft,hnm,ro,hB,hnk,hB1,hL,htl,hts,hall,q⟩:=h;have o1:=ot.most;have o2:=ot.last;have o3:=ot.one;refine⟨_,(AZ (BB (i:=2) sc.nd rfl (Or.inr rfl) (Bs HL TF hr rfl (AG uf AU)))
 (AZ (Pr (i:=3) [".0","row","bottom"] 1 [none,none,some 2] sc.nd rfl rfl (EV (A0 Vv uY (Jt (AG uY AU)))) li (fun _ _ _ _ _=>(Bs Ji W0 hr rfl (AG ua (AG uu AU)))))
 (AZ (BB (i:=4) sc.nd rfl Cl ed)
 (AZ (BB (i:=5) sc.nd rfl Cl (Jt AU))
 (AZ (Hm aP rfl (EV ua) (A5 (i:=6) sc.nd rfl Cl)
  (Ai (CV (IB ag bE bF FH (pv 5) (AG (Bs CT GJ hr rfl (AG (CI Md (Bs FE NY hr rfl (AG (pv 3) (AG (pv 6) (AG (pv 4) AU)))) (YU Wd AX) Fr) (AG (Bs Ke YS hr rfl (AG uu (AG (Bs BH Bo hr rfl (AG (pv 6) AU)) AU))) AU))) AU)))))
 (Ai (BV (pv 5)))))))),?_⟩
 refine⟨_,rfl,v,t,m,n,rfl,dt,ot,hm,ft,hnm,fun H1 e1=>?_⟩;obtain⟨p,R,U,xs,ys,rfl,hp,hR,dR,hL',dL⟩:=(dt.same e1).tab;have hxl:xs.length=t.rs.length:=by rw[dR.len,B5]
 refine⟨_,rfl,_,_,_,_,rfl,rfl,BI.of hp,rfl,_,rfl,_,_,_,_,rfl,rfl,BI.of hp,rfl,(by show 1<=sizeLine;decide),fun q1 hq1=>?_⟩;have e2:=Ak hq1 (.lst [V.ref U]);have h2:upd H1 q1 (.lst [V.ref U]) q1=some (.lst [V.ref U]):=AR;generalize upd H1 q1 (.lst [V.ref U])=H2 at e2 h2;refine⟨R,q1,_,_,rfl,rfl,e2 _ _ hR,h2,Qw mu,fun C0 hC0=>?_⟩;have e3:=Ak hC0 (.lst (xs++[V.ref U]));have h3:upd H2 C0 (.lst (xs++[V.ref U])) C0=some (.lst (xs++[V.ref U])):=AR;generalize upd H2 C0 (.lst (xs++[V.ref U]))=H3 at e3 h3;have E3:=(e1.trans e2).trans e3;have E13:=e2.trans e3;have get:∀(i:Nat) (row:db),(t.rs++[t.ls])[i]? = some row->∃(a:Addr) (T:HQ),(xs++[V.ref U])[i]? = some Mt/\H3 a=some (.lst T)/\CQ H3 (Al row) T/\row.length<=50/\∀q∈row,FM.Fits q n:=fun i row hi=>by
  by_cases z:i<t.rs.length
  .rw[List.getElem?_append_left z]at hi;rw[List.getElem?_append_left AS];obtain⟨a,T,g1,g2,g3⟩:=V4 dR hi;exact⟨a,T,g1,E13 _ _ g2,g3.same E13,by rw[ot.row i row hi];lia,ft.1 row (aK hi)⟩
  .rw[List.getElem?_append_right AS]at hi;have:i-t.rs.length=0:=by
    have:=(aE.mp hi).1;simp at this
    lia
   rw[this]at hi;cases hi;rw[List.getElem?_append_right AS,hxl,this];exact⟨U,ys,rfl,E13 _ _ hL',dL.same E13,by lia,ft.2⟩
 have hal:(t.rs++[t.ls]).length=(xs++[V.ref U]).length:=by rw[List.length_append,List.length_append,hxl];rfl
 have hal60:(xs++[V.ref U]).length<60:=by rw[List.length_append,hxl];simp;lia
 refine⟨C0,rfl,⟨_,Aq.of h3⟩,fun D hD=>Fp (n:=(xs++[V.ref U]).length) (fun i us H'=>AK H3 H'/\us.length=i/\∀(j:Nat) (row:db),j<i->(t.rs++[t.ls])[j]? = some row->∃a:Addr,us[j]? = some Mt/\H' a=some (.lst ((Gh row (Fc t)).map V.int))/\a≠D) ?_ ?_ ?_⟩
 .exact⟨Ak hD _,rfl,fun j row hj=>absurd hj (ai _)⟩
 .rintro i us H4 hi ⟨e4,hul,hus⟩ hD4;have hr:(t.rs++[t.ls])[i]? = some ((t.rs++[t.ls])[i]' AS):=aM _;generalize (t.rs++[t.ls])[i]' AS=row at hr;obtain⟨a,T,g1,g2,g3,g4,g5⟩:=get i row hr;refine⟨⟨_,.ref a,Aq.of (e4 _ _ h3),g1⟩,Qt (n:=60) AS BY,fun x H' y=>?_⟩;obtain⟨rfl,y⟩:=y;have hx:=y _ (Aq.of (e4 _ _ h3));rw[g1]at hx;cases hx;unfold HI;refine Eu ⟨_,rfl,_,rfl,a,T,row,Fc t,n,k,rfl,e4 _ _ g2,g3.same e4,g4,g5,hB,hnk,fun D5 H5 e5 n5 h5=>⟨e5 _ _ hD4,EB hi ⟨fun b o z=>?_,by simp[hul],fun j Y hj hr'=>?_⟩⟩⟩
  .rw[AJ (AV z hD)];exact e5 _ _ (e4 _ _ z)
  .by_cases z:j<i
   .obtain⟨b,k1,k2,k3⟩:=hus j Y z hr';exact⟨b,by rw[List.getElem?_append_left AS];exact k1,by rw[AJ k3];exact e5 _ _ k2,k3⟩
   .have:j=i:=by lia
    subst this;rw[hr]at hr';cases hr';have nD:D5≠D:=fun z=>by rw[z,hD4]at n5;cases n5
    exact⟨D5,by rw[List.getElem?_append_right AS,hul,Nat.sub_self];rfl,by rw[AJ nD];exact h5,nD⟩
 rintro rvs H4 ⟨e4,hul,hus⟩ hD4;refine⟨⟨_,Aq.of (e4 _ _ h3),Nat.le_refl _⟩,?_⟩;have E4:=E3.trans e4;have hrw:UN H4 rvs (F8 t):=by
  refine⟨by rw[hul,<-hal];exact(bV _).symm,fun j row hj=>?_⟩;unfold F8 at hj;rw[List.getElem?_map]at hj;cases hj':(t.rs++[t.ls])[j]? with
  |none=>rw[hj']at hj;cases hj
  |some Y=>
   rw[hj']at hj;cases hj;obtain⟨a,k1,k2,_⟩:=hus j Y (by rw[<-hal];exact(aE.mp hj').1) hj';exact⟨a,k1,k2⟩
 have hDn:H D=none:=Uq E3 hD;refine fun d hd=>?_;have e5:=Ak hd (dN d []);have h5:upd H4 d (dN d []) d=some (dN d []):=AR;generalize upd H4 d (dN d [])=H5 at e5 h5;refine⟨(by show 0<=sizeLine;decide),fun W hW=>?_⟩;have e6:=Ak hW re;have h6:upd H5 W re W=some re:=AR;generalize upd H5 W re=H6 at e6 h6;have hdn:=Uq E4 hd;have E5:=E4.trans e5;have hWn:=Uq E5 hW;have E6:=E5.trans e6;have hdW:d≠W:=fun z=>by rw[<-z,h5]at hW;cases hW
 have W4:H4 W=none:=Uq e5 hW;refine⟨_,rfl,L,rfl,⟨_,Aq.of (E6 _ _ hL)⟩,LI (xs:=tvs) (fun i σ H'=>∃(r6:Option V) (ρ:List KR) (T:HQ),σ=[some (.ref p),some (.ref L),some (.int (Fc t)),some (.ref D),some (.ref d),some (.ref W),r6]/\AK H4 H'/\Memo Dm (F8 t) W H' d ρ/\H' W=some (.lst T)/\Pp H' T ((ts.take i).map (EH t))) ?_ ?_ ?_ ?_⟩
 .refine⟨_,[],[],rfl,e5.trans e6,⟨e6 _ _ h5,.nil,fun q hq=>by cases hq⟩,h6,rfl,fun i q hi=>by cases hi⟩
 .rintro i σ H' _ ⟨r6,ρ,T,rfl,e,_⟩;exact Aq.of (e _ _ (E4 _ _ hL))
 .rintro i x σ H7 hx ⟨r6,ρ,T,rfl,e7,Z,hW7,fl7⟩;obtain⟨u,hu,tu,hD,h8,hk⟩:=hall i x hx;have E7:=E4.trans e7;refine⟨_,rfl,.inl ⟨rfl,_,Aq.of hW7⟩,_,rfl,_,rfl,_,rfl,D,rvs,F8 t,x,u,d,ρ,W,rfl,e7 _ _ hD4,hrw.same e7,ro,tu.same E7,hD,DO.deep u hD,⟨_,hW7⟩,Z,fun H8 ρ8 l e8 me8 hl8=>?_⟩;have tu8:=(tu.same E7).BL (e8.BL Z.at_);have hW8:=e8.lst Z.at_ hW7;have fl8:=fl7.BL (e8.BL Z.at_);have hne:(FN (F8 t) u).length=(t.rs++[t.ls]).length:=(MZ _ _).trans (bV _);have hE8:AK H4 H8:=fun b o z=>e8 _ _ (fun y=>by rw[y,hd]at z;cases z) (e7 _ _ z);refine⟨_,rfl,_,_,_,_,rfl,rfl,Aq.of hl8,iM (by rw[hne,List.length_append];simp),?_⟩;refine⟨_,rfl,_,rfl,x,u,rfl,tu8,DO.deep u hD,h8,fun H9 e9=>?_⟩;refine⟨Fc t,u.AQ,k,rfl,hB,hk,?_⟩;obtain⟨mb,hmb,hpb⟩:=fV hB hk;refine⟨_,_,mb,rfl,kD hB1 _,hmb,hpb,fun l' H10 e10 hl10=>?_⟩;have g:=e9.trans e10;refine⟨W,T,.ref l',rfl,rfl,g _ _ hW8,K8 ?_,?_⟩
  .rw[fl7.1,List.length_map,List.length_take];lia
  .refine⟨_,ρ8,_,rfl,fun b o z=>?_,⟨?_,me8.nd,fun q' hq'=>?_⟩,AR,?_⟩
   .rw[AJ (AV z W4)];exact g _ _ (hE8 _ _ z)
   .rw[AJ hdW];exact g _ _ me8.at_
   .obtain⟨u',l2,k1,k2,k3,k4,k5,k6⟩:=me8.all q' hq';exact⟨u',l2,k1,k2,(k3.same g).BL (MK.upd (g _ _ hW8)),k4,by rw[AJ k6];exact g _ _ k5,k6⟩
   .rw[List.take_add_one,hu,List.map_append];refine((fl8.BL (.of g)).snoc (q:=EH t u) hl10).BL (MK.upd (g _ _ hW8))
 .rintro σ H7 ⟨r6,ρ,T,rfl,e7,Z,hW7,fl7⟩;rw[htl,List.take_length]at fl7;exact⟨_,rfl,q W H7 T (E4.trans e7) hWn hW7 fl7.qa⟩
end
section
variable{P:Io}{w:Mw}{K:As}{mg:Fa}{base:Heap}{f:Addr}{fd:IR}
theorem RX:Ag ZB ZB (AL EX):=⟨rfl,rfl,rfl,by decide +kernel,rfl,by decide +kernel,by decide +kernel⟩
def Mp(A7:AC):DF :=
 (Bn (AO A6 Fk (AW Yj (AA (Dq (Ey 1) GB (AW A7 uv) [none,none] (GC Ni)) AF))))
def A7:Nat->List PyData->Option PyData
 |0=>fun _=>none
 |n+1=>Dg ZB ZB (Mp (A7 n))
theorem Lq{k:Nat}(g:Fn K mg "knots_within" EX ZB f fd)(T:mg "sum" = none):∀n,
  AH P w K mg base Ah (k+n+1) f fd ZB (Bc (A7 n))
 |0=>Jl fun _ _ _ _ ⟨_,_,_,h,_⟩=>by cases h
 |n+1=>by
  have sc:=RX;have Y:=Lq (k:=k) g T n;refine IZ (k:=k+n+1) (F:=Mp (A7 n)) g sc fun cdv A outer s H E U=>?_;exact(Ab (BM (A1 BN AI (Df (Zb rfl) rfl T bp (AB (Kt [".0","bough"] 1 [none,none] (FC HX) uK (fun _ _ _ _ _=>(Ap g Y U rfl (AB JT AE)))) AE)))))
theorem PN:Ag ["tree","density","bough"] ZB (AL Ef):=⟨rfl,rfl,rfl,by decide +kernel,rfl,by decide +kernel,by decide +kernel⟩
def K2(A7:AC)(Ad:AC):DF :=
 (Af (Bh 1 (AW A7 (AA Ni AF)))
 (Af (C4 (GC Ni) (Es 2)
  (Bh 1 (AO FX On (AW Ad ug))))
 (Bn On)))
def Ad(A7:AC):Nat->List PyData->Option PyData
 |0=>fun _=>none
 |n+1=>Dg ZB ["tree","density","bough"] (K2 A7 (Ad A7 n))
theorem KU{k:Nat}{A7:AC}(T:Fn K mg "density_within" Ef ZB f fd)
 {Y:Addr}{Z:IR}(BH:Fn K mg "knots_within" EX ZB Y Z)(g:AH P w K mg base Ah k Y Z ZB (Bc A7)):∀n,
  AH P w K mg base Ah (k+n+1) f fd ZB (Bc (Ad A7 n))
 |0=>Jl fun _ _ _ _ ⟨_,_,_,h,_⟩=>by cases h
 |n+1=>by
  have sc:=PN;have Bi:=KU (k:=k) (A7:=A7) T BH g n;have g:=g.mono (show k<=k+n+1 by lia);refine IZ (k:=k+n+1) (F:=K2 A7 (Ad A7 n)) T sc fun cdv A outer s H E U=>?_;exact(AM (Bf (i:=1) sc.nd rfl Cl (Ap BH g U rfl (AB HX AE)))
 (AM (Dz aP rfl (FC HX) (E2 uh)
  (Ab (Bf (i:=1) sc.nd rfl Cl (A1 LR JT (Ap T Bi U rfl (AB Ju AE))))))
 (Ab (BM JT))))
theorem JU:Ag ["boughs"] ["boughs"] (AL G7):=⟨rfl,rfl,rfl,by decide +kernel,rfl,by decide +kernel,by decide +kernel⟩
def N2:DF :=
 (Bn (AW IH (AA (AW (R5 true) (AA Ni AF)) AF)))
def A2:List PyData->Option PyData:=Dg ["boughs"] ["boughs"] (N2)
theorem Ny{k:Nat}(F:Fn K mg "in_falling_order" G7 ["boughs"] f fd)(T:mg "sorted" = none)(U:mg "tuple" = none) :
  AH P w K mg base Ah oF f fd ["boughs"] (Bc (A2)):=IZ F JU fun cdv A outer s H E g=>by
 have sc:=JU;exact(Ab (BM (L5 Qq rfl U bG (AB (fL Nv rfl T (AB HX AE) (fun h=>dk Nv rfl T h)) AE))))
theorem N1:Ag ["tree","larger","k","bough","grown"] ZB (AL Gr):=⟨rfl,rfl,rfl,by decide +kernel,rfl,by decide +kernel,by decide +kernel⟩
def J3(A2:AC)(BF:AC):DF :=
 (Af (N4 1 (AA (AW A2 (AA (AO A6 Ni (Az (AA (Az AF) AF))) AF)) AF))
 (Af (C4 (Cy NL (AA Ni AF)) (Et 2 3)
  (C4 (GC (AW BF Tm)) (Es 4)
   (ML 1 (AW A2 (AA (AO A6 (AO A6 (Iw Ni Gd (Gf N6)) (Az (AA (nm 4) AF))) (Iw Ni (Gf (AO A6 N6 Fk)) Gd)) AF)))))
 (RV 1)))
def BF(A2:AC):Nat->List PyData->Option PyData
 |0=>fun _=>none
 |n+1=>Dg ZB ["tree","larger","k","bough","grown"] (J3 A2 (BF A2 n))
theorem JQ{k:Nat}{A2:AC}(Y:Fn K mg "trees_one_larger" Gr ZB f fd)
 {Z:Addr}{JR:IR}(U:Fn K mg "in_falling_order" G7 ["boughs"] Z JR)(g:AH P w K mg base Ah k Z JR ["boughs"] (Bc A2))(Cc:mg "enumerate" = none):∀n,
  AH P w K mg base Ah (k+n+1) f fd ZB (Bc (BF A2 n))
 |0=>Jl fun _ _ _ _ ⟨_,_,_,h,_⟩=>by cases h
 |n+1=>by
  have sc:=N1;have D6:=JQ (k:=k) (A2:=A2) Y U g Cc n;have g:=g.mono (show k<=k+n+1 by lia);refine IZ (k:=k+n+1) (F:=J3 A2 (BF A2 n)) Y sc fun cdv A outer s H E T=>?_;exact(AM (LJ (i:=1) sc.nd rfl Cl (AB (Ap U g T rfl (AB (A1 BN HX (A8 (AB (A8 AE) AE))) AE)) AE))
 (AM (Dz aP rfl (TK rfl Cc (AB HX AE)) (N3 (Jw rfl (CM uh (CM (A5 (i:=3) sc.nd rfl Cl) IU))))
  (Ab (Dz aP rfl (FC (Ap Y D6 T rfl (AB Ps AE))) (E2 (A5 (i:=4) sc.nd rfl Cl))
   (Ab (Ic ua (Ap U g T rfl (AB (A1 BN (A1 BN (Gy HX IV (IX Ju)) (A8 (AB uN AE))) (Gy HX (IX (A1 BN Ju AI)) IV)) AE)) (fun ho ha=>CV (IB ag bE bF FH ho ha)))))))
 (Ab (O5 ua))))
theorem Pe:Ag ["many","trees","knots","larger","tree"] ["many"] (AL JN):=⟨rfl,rfl,rfl,by decide +kernel,rfl,by decide +kernel,by decide +kernel⟩
def Y5(BF:AC):DF :=
 (Af (Fm (M5 (B8 Q4 Ni Fk) (B8 (Ez fun i j=>decide (j<i)) Ni (fC (.int 7))))
  bx
  Ck)
 (Af (Bh 1 (BG (AA (Az AF) AF)))
 (Af (C4 (Cy YG (AA Fk (AA Ni AF))) (Es 2)
  (Af (N4 3 AF)
  (Af (C4 (GC On) (Es 4)
   (eE 3 (AW BF (AA (nm 4) AF))))
  (Wa 3 (Bh 1 (fun δ=>((nm 3) δ).bind Qa))))))
 (Bn On))))
def BJ(BF:AC):List PyData->Option PyData:=Dg ["many"] ["many","trees","knots","larger","tree"] (Y5 BF)
theorem Wy{k:Nat}{BF:AC}(F:Fn K mg "trees_of" JN ["many"] f fd)
 {U:Addr}{Y:IR}(B2:Fn K mg "trees_one_larger" Gr ZB U Y)(D6:AH P w K mg base Ah k U Y ZB (Bc BF))(BP:uT)(YV:mg "set" = none)(IQ:mg "sorted" = none){g:Tok}(Fq:mg "MOST_KNOTS" = some (.int 7 g)) :
  AH P w K mg base Ah oF f fd ["many"] (Bc (BJ BF)):=IZ F Pe fun cdv A outer s H E T=>by
 have sc:=Pe;exact(AM (Dh (DW.dt (Hy (Bw Q2 HX AI ii) (Hl (Bw Rl HX (G6 rfl Fq) ii))))
  (Ab VF)
  CA)
 (AM (Bf (i:=1) sc.nd rfl Cl (A9 (AB (A8 AE) AE)))
 (AM (Dz aP rfl (UD rfl BP (AB AI (AB HX AE))) (E2 uh)
  (AM (LJ (i:=3) sc.nd rfl Cl AE)
  (AM (Dz aP rfl (FC JT) (E2 (A5 (i:=4) sc.nd rfl Cl))
   (Ab (Oh (pv 3) (Ap B2 D6 T rfl (AB uN AE)) (fun Z ha=>CV (IB ag PySem.F.slot_list_extend PySem.F.type_list_extend Lx Z ha)))))
  (Ab (Q8 3 (Bf (i:=1) sc.nd rfl Cl (Ye rfl (by have:=T.units;exact this) rfl IQ rfl YV Ps)))))))
 (Ab (BM JT)))))
theorem Pb:Ag ["most","trees","many"] ["most"] (AL Km):=⟨rfl,rfl,rfl,by decide +kernel,rfl,by decide +kernel,by decide +kernel⟩
def ZA(BJ:AC):DF :=
 (Af (Fm (M5 (B8 Q4 Ni Js) (B8 (Ez fun i j=>decide (j<i)) Ni (fC (.int 7))))
  bx
  Ck)
 (Af (N4 1 AF)
 (Af (C4 (Cy YG (AA Fk (AA (AO A6 Ni Fk) AF))) (Es 2)
  (eE 1 (AW BJ ug)))
 (RV 1))))
def Bu(BJ:AC):List PyData->Option PyData:=Dg ["most"] ["most","trees","many"] (ZA BJ)
theorem W3{k:Nat}{BJ:AC}(F:Fn K mg "trees_to" Km ["most"] f fd)
 {T:Addr}{U:IR}(Dl:Fn K mg "trees_of" JN ["many"] T U)(EM:AH P w K mg base Ah k T U ["many"] (Bc BJ))(BP:uT){g:Tok}(Fq:mg "MOST_KNOTS" = some (.int 7 g)) :
  AH P w K mg base Ah oF f fd ["most"] (Bc (Bu BJ)):=IZ F Pb fun cdv A outer s H E Y=>by
 have sc:=Pb;exact(AM (Dh (DW.dt (Hy (Bw Q2 HX AI ii) (Hl (Bw Rl HX (G6 rfl Fq) ii))))
  (Ab VF)
  CA)
 (AM (LJ (i:=1) sc.nd rfl Cl AE)
 (AM (Dz aP rfl (UD rfl BP (AB AI (AB (A1 BN HX AI) AE))) (E2 uh)
  (Ab (Oh ua (Ap Dl EM Y rfl (AB Ju AE)) (fun Z ha=>CV (IB ag PySem.F.slot_list_extend PySem.F.type_list_extend Lx Z ha)))))
 (Ab (O5 ua)))))
theorem Pf:Ag Jo Jo (AL F9):=⟨rfl,rfl,rfl,by decide +kernel,rfl,by decide +kernel,by decide +kernel⟩
def Y3:DF :=
 (Bn (Wi (SN Jx Ni) (qk (SN IT Ni))))
def BW:List PyData->Option PyData:=Dg Jo Jo (Y3)
theorem W6{k:Nat}(F:Fn K mg "is_whole" F9 Jo f fd)(U:mg "bool" = none)(T:mg "int" = none)(g:iN) :
  AH P w K mg base Ah oF f fd Jo (Bc (BW)):=IZ F Pf fun cdv A outer s H E Y=>by
 have sc:=Pf;exact(Ab (BM (Ro (MQ (WQ _) rfl g rfl T PyProof.Rows.boot_int HX) (Q6 (kG (MQ (Tp _) rfl g rfl U PyProof.Rows.boot_bool HX))))))
theorem Mg:Ag Jo Jo (AL E8):=⟨rfl,rfl,rfl,by decide +kernel,rfl,by decide +kernel,by decide +kernel⟩
def Np(g:AC)(BW:AC):DF :=
 (Af (Fm (M5 (K0 (Jf (SN FQ Ni))) (B8 (En true) (AW Fj (AA Ni AF)) (fC (.int 2))))
  (Bn (fC lf))
  Ck)
 (Af (Fm (M5 (K0 (Jf (AW BW (AA (AO B1 Ni Js) AF)))) (K0 (Jf (AW BW (AA (AO B1 Ni Fk) AF)))))
  (Bn (fC lf))
  Ck)
 (Bn (Wi (AO (Ez fun i j=>decide (j<=i)) (AO B1 Ni Fk) Fk) (AO (En false) (AW g (AA (AO B1 Ni Js) (AA (AO B1 Ni Fk) AF))) Fk)))))
def Cg(g:AC)(BW:AC):List PyData->Option PyData:=Dg Jo Jo (Np g BW)
theorem Sd{k:Nat}{Cu:AC}{BW:AC}(F:Fn K mg "is_fraction" E8 Jo f fd)
 {T:Addr}{U:IR}(Aw:Fn K mg "greatest_divisor" CL MY T U)(BS:AH P w K mg base Ah k T U MY (Bc Cu))
 {Y:Addr}{Z:IR}(CU:Fn K mg "is_whole" F9 Jo Y Z)(Di:AH P w K mg base Ah k Y Z Jo (Bc BW))(AN:iN)(A4:io)(B4:mg "tuple" = none) :
  AH P w K mg base Ah oF f fd Jo (Bc (Cg Cu BW)):=IZ F Mg fun cdv A outer s H E g=>by
 have sc:=Mg;exact(AM (Dh (DW.dt (Hy (Hs (GF (MQ (Ld _) rfl AN rfl B4 bG HX))) (Hl (Bw (Kh Nv) (Df Gs rfl A4 ae (AB HX AE)) AI ii))))
  (Ab (BM Gp))
  CA)
 (AM (Dh (DW.dt (Hy (Hs (GF (Ap CU Di g rfl (AB (Bj HX AI Fr) AE)))) (Hl (Hs (GF (Ap CU Di g rfl (AB (Bj HX AI Fr) AE)))))))
  (Ab (BM Gp))
  CA)
 (Ab (BM (Ro (Mc gn (Bj HX AI Fr) AI ii) (Q6 (Mc (O8 Nv) (Ap Aw BS g rfl (AB (Bj HX AI Fr) (AB (Bj HX AI Fr) AE))) AI ii)))))))
theorem Jy:Ag Jo Jo (AL EI):=⟨rfl,rfl,rfl,by decide +kernel,rfl,by decide +kernel,by decide +kernel⟩
def HZ(T:AC)(g:Addr):HW :=
 (XM (K0 (Jf (AW T (AA Ni AF))))
  (R7 g (fC (.str (Str.ofString "a table is a tuple of rows, the k-th of k fractions, and a last of as many as there are rows"))))
  (fun δ=>some (.inl (.nx δ))))
def Ae(T:AC)(g:Addr):List PyData->Option Xr:=Hh Jo Jo (HZ T g)
theorem OZ{k:Nat}{Z:AC}{g:Addr}(F:Fn K mg "refuse_no_table" EI Jo f fd)
 {U:Addr}{Y:IR}(Kk:Fn K mg "is_table" NH Jo U Y)(NK:AH P w K mg base Ah k U Y Jo (Bc Z))(T:Exc K mg "NoTable" g) :
  AH P w K mg base ce oF f fd Jo (Ep (Ae Z g)):=WH F Jy fun cdv A outer s H E hr=>by
 have sc:=Jy;exact(Kv (Ys (Hs (GF (Ap Kk NK hr rfl (AB HX AE))))
  (Kv (by exact Qf T Yp Cd))
  Sh))
theorem HS:Ag ["tables"] ["tables"] (AL FY):=⟨rfl,rfl,rfl,by decide +kernel,rfl,by decide +kernel,by decide +kernel⟩
def Hu(g:Addr):HW :=
 (XM (B8 (Ez fun i j=>decide (j<i)) (AW Yj (AA (Dq (Ey 1) GB (AW Fj (AA (AO B1 On Js) AF)) [none,none] (GC Ni)) AF)) (fC (.int 40)))
  (R7 g (fC (.str (Str.ofString "a table has at most 40 rows"))))
  (fun δ=>some (.inl (.nx δ))))
def BQ(g:Addr):List PyData->Option Xr:=Hh ["tables"] ["tables"] (Hu g)
theorem Le{k:Nat}{g:Addr}(F:Fn K mg "refuse_too_many_rows" FY ["tables"] f fd)(A4:io)(Z:mg "sum" = none){T:Tok}(Y:mg "MOST_ROWS" = some (.int 40 T))(U:Exc K mg "TooMany" g) :
  AH P w K mg base ce oF f fd ["tables"] (Ep (BQ g)):=WH F HS fun cdv A outer s H E hr=>by
 have sc:=HS;exact(Kv (Ys (Bw Rl (Df (Zb rfl) rfl Z bp (AB (Kt [".0","table"] 1 [none,none] (FC HX) uK (fun _ _ _ _ _=>(Df Gs rfl A4 ae (AB (Bj JT AI Fr) AE)))) AE)) (G6 rfl Y) ii)
  (Kv (by exact Qf U Yp Cd))
  Sh))
theorem Iy:Ag UV UV (AL El):=⟨rfl,rfl,rfl,by decide +kernel,rfl,by decide +kernel,by decide +kernel⟩
def Ei(Ae:Do)(g:Addr):HW :=
 (Iu (Hw Ae (AA Ni AF) fun _ δ=>.nx δ)
 (XM (B8 (Ez fun i j=>decide (j<i)) (AW Fj (AA (AO B1 Ni Js) AF)) (fC (.int 5)))
  (R7 g (fC (.str (Str.ofString "papers are told and judged of tables of at most five rows"))))
  (fun δ=>some (.inl (.nx δ)))))
def Ar(Ae:Do)(g:Addr):List PyData->Option Xr:=Hh UV UV (Ei Ae g)
theorem NZ{k:Nat}{Ae:Do}{T:Addr}(F:Fn K mg "refuse_no_judging" El UV f fd)
 {Y:Addr}{Z:IR}(Be:Fn K mg "refuse_no_table" EI Jo Y Z)(Bm:AH P w K mg base ce k Y Z Jo (Ep Ae))(A4:io){g:Tok}(Gv:mg "MOST_JUDGED_ROWS" = some (.int 5 g))(U:Exc K mg "TooMany" T) :
  AH P w K mg base ce oF f fd UV (Ep (Ar Ae T)):=WH F Iy fun cdv A outer s H E hr=>by
 have sc:=Iy;exact(Gz (by exact Ja Be Bm hr Lm (by exact(AB HX AE)) (fun h=>CV h))
 (Kv (Ys (Bw Rl (Df Gs rfl A4 ae (AB (Bj HX AI Fr) AE)) (G6 rfl Gv) ii)
  (Kv (by exact Qf U Yp Cd))
  Sh)))
theorem Ls:Ag ["trees"] ["trees"] (AL JV):=⟨rfl,rfl,rfl,by decide +kernel,rfl,by decide +kernel,by decide +kernel⟩
def Mk(Ad:AC):DF :=
 (ZR (Gb (Ey 1) GB (Az (AA Fk (AA (AW Ad uv) AF))) [none,none] (GC Ni)))
def CZ(Ad:AC):List PyData->Option PyData:=Dg ["trees"] ["trees"] (Mk Ad)
theorem SA{k:Nat}{Ad:AC}(F:Fn K mg "true_weights" JV ["trees"] f fd)
 {g:Addr}{T:IR}(Z:Fn K mg "density_within" Ef ZB g T)(Y:AH P w K mg base Ah k g T ZB (Bc Ad)) :
  AH P w K mg base Ah oF f fd ["trees"] (Bc (CZ Ad)):=IZ F Ls fun cdv A outer s H E U=>by
 have sc:=Ls;exact(Ab (jP [".0","tree"] 1 [none,none] (FC HX) uK (fun _ _ _ _ _=>(A8 (AB AI (AB (Ap Z Y U rfl (AB JT AE)) AE))))))
theorem Ly:Ag ["trees","one","other","tree","weight","due"] ["trees","one","other"] (AL JW):=⟨rfl,rfl,rfl,by decide +kernel,rfl,by decide +kernel,by decide +kernel⟩
def Mm:DF :=
 (Af (C4 (Cy Sb (AA Ni (AA On ug))) (U9 3 4 5)
  (Fm (B8 (En true) (nm 4) (nm 5))
   (Bn (nm 3))
   Ck))
 (Bn uB))
def Bg:List PyData->Option PyData:=Dg ["trees","one","other"] ["trees","one","other","tree","weight","due"] (Mm)
theorem RQ{k:Nat}(F:Fn K mg "first_unlike" JW ["trees","one","other"] f fd)(T:mg "zip" = none) :
  AH P w K mg base Ah oF f fd ["trees","one","other"] (Bc (Bg)):=IZ F Ly fun cdv A outer s H E g=>by
 have sc:=Ly;exact(AM (Dz aP rfl (hU rfl T (AB HX (AB JT (AB Ju AE)))) (dU (Jw rfl (CM (A5 (i:=3) sc.nd rfl Cl) (CM (A5 (i:=4) sc.nd rfl Cl) (CM (A5 (i:=5) sc.nd rfl Cl) IU)))))
  (Ab (Dh (Bw (Kh Nv) uN (AD (pv 5)) ii)
   (Ab (BM Ps))
   CA)))
 (Ab (BM Fy)))
theorem Ml:Ag ["table","order","trees","tree"] UV (AL KA):=⟨rfl,rfl,rfl,by decide +kernel,rfl,by decide +kernel,by decide +kernel⟩
def Nn(Bg:AC)(Ae:Do)(BJ:AC)(CZ:AC)(g:AC):HW :=
 (Iu (Hw Ae (AA Ni AF) fun _ δ=>.nx δ)
 (X5 (Af (C4 (Cy IK (AA tT AF)) (Es 1)
  (Af (Bh 2 (AW BJ (AA (AO A6 On Fk) AF)))
  (Af (Bh 3 (AW Bg (AA N6 (AA (AW g (AA Ni ug)) (AA (AW CZ ug) AF)))))
  (Fm (B8 (PU true) (nm 3) uB)
   (Bn (Az (AA On Tm)))
   Ck))))
 (Bn (Az (AA tT (AA uB AF)))))))
def Cn(Bg:AC)(Ae:Do)(BJ:AC)(CZ:AC)(g:AC):List PyData->Option Xr:=Hh UV ["table","order","trees","tree"] (Nn Bg Ae BJ CZ g)
theorem S9{k:Nat}{Bg:AC}{Ae:Do}{BJ:AC}{CZ:AC}{BX:AC}(F:Fn K mg "table_order" KA UV f fd)
 {Y:Addr}{Z:IR}(HC:Fn K mg "first_unlike" JW ["trees","one","other"] Y Z)(JZ:AH P w K mg base Ah k Y Z ["trees","one","other"] (Bc Bg))
 {CB:Addr}{B3:IR}(Be:Fn K mg "refuse_no_table" EI Jo CB B3)(Bm:AH P w K mg base ce k CB B3 Jo (Ep Ae))
 {FK:Addr}{EO:IR}(Dl:Fn K mg "trees_of" JN ["many"] FK EO)(EM:AH P w K mg base Ah k FK EO ["many"] (Bc BJ))
 {U:Addr}{L1:IR}(HK:Fn K mg "true_weights" JV ["trees"] U L1)(Jg:AH P w K mg base Ah k U L1 ["trees"] (Bc CZ))
 {FD:Addr}{Eg:IR}(DL:Fn K mg "weights_under" Gi T0 FD Eg)(EF:AH P w K mg base Ah k FD Eg T0 (Bc BX))(BP:uT){g:Tok}(Ce:mg "MOST_ORDER" = some (.int 6 g)) :
  AH P w K mg base ce oF f fd UV (Ep (Cn Bg Ae BJ CZ BX)):=WH F Ml fun cdv A outer s H E T=>by
 have sc:=Ml;exact(Gz (by exact Ja Be Bm T Lm (by exact(AB HX AE)) (fun h=>CV h))
 (Rz (AM (Dz aP rfl (Jz rfl BP (AB (G6 rfl Ce) AE)) (E2 (A5 (i:=1) sc.nd rfl Cl))
  (AM (Bf (i:=2) sc.nd rfl Cl (Ap Dl EM T rfl (AB (A1 BN JT AI) AE)))
  (AM (Bf (i:=3) sc.nd rfl Cl (Ap HC JZ T rfl (AB Ju (AB (Ap DL EF T rfl (AB HX (AB Ju AE))) (AB (Ap HK Jg T rfl (AB Ju AE)) AE)))))
  (Ab (Dh (Bw WK Ps Fy ii)
   (Ab (BM (A8 (AB JT (AB Ps AE)))))
   CA)))))
 (Ab (BM (A8 (AB (G6 rfl Ce) (AB Fy AE))))))))
theorem Pj:Ag T0 T0 (AL NP):=⟨rfl,rfl,rfl,by decide +kernel,rfl,by decide +kernel,by decide +kernel⟩
def Rk(g:AC):DF :=
 (Bn (fun δ=>((AA On (AA (AW g (AA Ni uv)) AF)) δ).bind YH))
def Ds(g:AC):List PyData->Option PyData:=Dg T0 T0 (Rk g)
theorem Wn{k:Nat}{U:AC}(F:Fn K mg "lines_of" NP T0 f fd)
 {g:Addr}{T:IR}(DL:Fn K mg "weights_under" Gi T0 g T)(EF:AH P w K mg base Ah k g T T0 (Bc U))(Z:mg "list" = none)(EL:mg "zip" = none) :
  AH P w K mg base Ah oF f fd T0 (Bc (Ds U)):=IZ F Pj fun cdv A outer s H E Y=>by
 have sc:=Pj;exact(Ab (BM (oP rfl rfl Z rfl EL (AB JT (AB (Ap DL EF Y rfl (AB HX (AB JT AE))) AE)))))
theorem PR:Ag ["tree","parents","bough","number"] ZB (AL IG):=⟨rfl,rfl,rfl,by decide +kernel,rfl,by decide +kernel,by decide +kernel⟩
def LC(BC:AC):DF :=
 (Af (N4 1 AF)
 (Af (C4 (GC Ni) (Es 2)
  (Af (Bh 3 (AO A6 (jn 1) Fk))
  (Af (ML 1 Js)
  (eE 1 (Dq (Ey 1) GB (AO A6 N6 On) [none,none,some 3] (GC (AW BC ug)))))))
 (RV 1)))
def BC:Nat->List PyData->Option PyData
 |0=>fun _=>none
 |n+1=>Dg ZB ["tree","parents","bough","number"] (LC (BC n))
theorem Kb{k:Nat}(T:Fn K mg "parents_within" IG ZB f fd)(U:io):∀n,
  AH P w K mg base Ah (k+n+1) f fd ZB (Bc (BC n))
 |0=>Jl fun _ _ _ _ ⟨_,_,_,h,_⟩=>by cases h
 |n+1=>by
  have sc:=PR;have Z:=Kb (k:=k) T U n;refine IZ (k:=k+n+1) (F:=LC (BC n)) T sc fun cdv A outer s H E Y=>?_;exact(AM (LJ (i:=1) sc.nd rfl Cl AE)
 (AM (Dz aP rfl (FC HX) (E2 uh)
  (AM (Bf (i:=3) sc.nd rfl (Or.inr rfl) (A1 BN (ZS ua rfl U) AI))
  (AM (Ic ua AI (fun g ha=>CV (IB ag bE bF FH g ha)))
  (Ab (Oh ua (Kt [".0","parent","number"] 1 [none,none,some 3] (FC (Ap T Z Y rfl (AB Ju AE))) uK (fun _ _ _ _ _=>(A1 BN Ju JT))) (fun g ha=>CV (IB ag PySem.F.slot_list_extend PySem.F.type_list_extend Lx g ha)))))))
 (Ab (O5 ua))))
theorem LF:Ag ["table","tree","ways","parent","longer","way","share","k","part"] ["table","tree"] (AL Gg):=⟨rfl,rfl,rfl,by decide +kernel,rfl,by decide +kernel,by decide +kernel⟩
def L6(T:AC)(g:AC)(BC:AC):DF :=
 (Af (Bh 2 (Dq (Et 1 2) GB (Az (AA (Az uv) ug)) [none,none,none] (Cy NL (AA (AO B1 Ni Fk) AF))))
 (Af (C4 (GC (AW BC uv)) (Es 3)
  (Af (N4 4 AF)
  (Af (C4 (GC N6) (Et 5 6)
   (C4 (Cy NL (AA (AO B1 (AO B1 Ni Js) (AO B1 (nm 5) (nm 3))) AF)) (Et 7 8)
    (ML 4 (Az (AA (AO A6 (nm 5) (Az (AA (nm 7) AF))) (AA (AW T (AA (nm 6) (AA (nm 8) AF))) AF))))))
  (Wa 4 (Bh 2 (nm 4))))))
 (Bn (AW g (AA (Dq (Et 1 2) GB N6 [none,none,none] (GC N6)) AF)))))
def BE(T:AC)(g:AC)(BC:AC):List PyData->Option PyData:=Dg ["table","tree"] ["table","tree","ways","parent","longer","way","share","k","part"] (L6 T g BC)
theorem Qp{k:Nat}{Fo:AC}{Fx:AC}{BC:AC}(F:Fn K mg "walked_weight" Gg ["table","tree"] f fd)
 {Z:Addr}{U:IR}(JG:Fn K mg "frac_times" LH MY Z U)(K1:AH P w K mg base Ah k Z U MY (Bc Fo))
 {T:Addr}{Y:IR}(JF:Fn K mg "frac_total" LN ["some"] T Y)(K7:AH P w K mg base Ah k T Y ["some"] (Bc Fx))
 {LK:Addr}{Kc:IR}(CN:Fn K mg "parents_within" IG ZB LK Kc)(EY:AH P w K mg base Ah k LK Kc ZB (Bc BC))(Cc:mg "enumerate" = none) :
  AH P w K mg base Ah oF f fd ["table","tree"] (Bc (BE Fo Fx BC)):=IZ F LF fun cdv A outer s H E g=>by
 have sc:=LF;exact(AM (Pq (i:=2) [".0","k","part"] 1 2 [none,none,none] sc.nd rfl rfl (TK rfl Cc (AB (Bj HX AI Fr) AE)) uK (fun _ _ _ _ _=>(A8 (AB (A8 (AB JT AE)) (AB Ju AE)))))
 (AM (Dz aP rfl (FC (Ap CN EY g rfl (AB JT AE))) (E2 (A5 (i:=3) sc.nd rfl Cl))
  (AM (LJ (i:=4) sc.nd rfl Cl AE)
  (AM (Dz aP rfl (FC Ju) (N3 (Jw rfl (CM (A5 (i:=5) sc.nd rfl Cl) (CM (A5 (i:=6) sc.nd rfl Cl) IU))))
   (Ab (Dz aP rfl (TK rfl Cc (AB (Bj (Bj HX AI Fr) (Bj (AD (pv 5)) Ps Fr) Fr) AE)) (N3 (Jw rfl (CM (A5 (i:=7) sc.nd rfl Cl) (CM (A5 (i:=8) sc.nd rfl Cl) IU))))
    (Ab (Ic (pv 4) (A8 (AB (A1 BN (AD (pv 5)) (A8 (AB (AD (pv 7)) AE))) (AB (Ap JG K1 g rfl (AB (AD (pv 6)) (AB (AD (pv 8)) AE))) AE))) (fun ho ha=>CV (IB ag bE bF FH ho ha)))))))
  (Ab (Q8 4 (Bf (i:=2) sc.nd rfl Cl uN))))))
 (Ab (BM (Ap JF K7 g rfl (AB (eN [".0","way","share"] 1 2 [none,none,none] (FC Ju) uK (fun _ _ _ _ _=>(AD uu))) AE))))))
theorem Rn:Ag t7 t7 (AL L3):=⟨rfl,rfl,rfl,by decide +kernel,rfl,by decide +kernel,by decide +kernel⟩
def Ti(Cg:AC):DF :=
 (Af (Fm (M5 (K0 (Jf (SN FQ Ni))) (B8 (En true) (AW Fj (AA Ni AF)) (fC (.int 2))))
  (Bn (fC lf))
  Ck)
 (Bn (Wi (AO ZM (AO B1 Ni Js) On) (AW Cg (AA (AO B1 Ni Fk) AF)))))
def CD(Cg:AC):List PyData->Option PyData:=Dg t7 t7 (Ti Cg)
theorem Yc{k:Nat}{Cg:AC}(F:Fn K mg "is_line" L3 t7 f fd)
 {T:Addr}{U:IR}(Z:Fn K mg "is_fraction" E8 Jo T U)(Y:AH P w K mg base Ah k T U Jo (Bc Cg))(AN:iN)(A4:io)(B4:mg "tuple" = none) :
  AH P w K mg base Ah oF f fd t7 (Bc (CD Cg)):=IZ F Rn fun cdv A outer s H E g=>by
 have sc:=Rn;exact(AM (Dh (DW.dt (Hy (Hs (GF (MQ (Ld _) rfl AN rfl B4 bG HX))) (Hl (Bw (Kh Nv) (Df Gs rfl A4 ae (AB HX AE)) AI ii))))
  (Ab (BM Gp))
  CA)
 (Ab (BM (Ro (Mc (kP Nv) (Bj HX AI Fr) JT rfl) (Q6 (Ap Z Y g rfl (AB (Bj HX AI Fr) AE)))))))
theorem Ka:Ag ["table","trees","lines","tree","line"] uL (AL IP):=⟨rfl,rfl,rfl,by decide +kernel,rfl,by decide +kernel,by decide +kernel⟩
def K9(Ad:AC)(CD:AC)(BE:AC):DF :=
 (Af (Fm (M5 (K0 (Jf (SN FJ N6))) (B8 (En true) (AW Fj ug) (AW Fj uv)))
  (Bn (fC lf))
  Ck)
 (Af (C4 (Cy zip2 (AA On ug)) (Et 3 4)
  (Fm (M5 (K0 (Jf (AW CD (AA (nm 4) (AA (BG Tm) AF))))) (M5 (B8 (En true) (AO B1 (nm 4) Fk) (Az (AA Fk (AA (AW Ad Tm) AF)))) (B8 (En true) (AO B1 (nm 4) Fk) (AW BE (AA Ni Tm)))))
   (Bn (fC lf))
   Ck))
 (Bn (fC KM))))
def B6(Ad:AC)(CD:AC)(BE:AC):List PyData->Option PyData:=Dg uL ["table","trees","lines","tree","line"] (K9 Ad CD BE)
theorem PQ{k:Nat}{Ad:AC}{CD:AC}{BE:AC}(F:Fn K mg "are_true_lines" IP uL f fd)
 {CP:Addr}{CF:IR}(BK:Fn K mg "density_within" Ef ZB CP CF)(Bi:AH P w K mg base Ah k CP CF ZB (Bc Ad))
 {T:Addr}{U:IR}(G5:Fn K mg "is_line" L3 t7 T U)(Ia:AH P w K mg base Ah k T U t7 (Bc CD))
 {Y:Addr}{Z:IR}(DK:Fn K mg "walked_weight" Gg ["table","tree"] Y Z)(ED:AH P w K mg base Ah k Y Z ["table","tree"] (Bc BE))(AN:iN)(A4:io)(Ec:mg "list" = none)(EL:mg "zip" = none) :
  AH P w K mg base Ah oF f fd uL (Bc (B6 Ad CD BE)):=IZ F Ka fun cdv A outer s H E g=>by
 have sc:=Ka;exact(AM (Dh (DW.dt (Hy (Hs (GF (MQ (Qc _) rfl AN rfl Ec PyProof.Rows.boot_list Ju))) (Hl (Bw (Kh Nv) (Df Gs rfl A4 ae (AB Ju AE)) (Df Gs rfl A4 ae (AB JT AE)) ii))))
  (Ab (BM Gp))
  CA)
 (AM (Dz aP rfl (cL rfl EL (AB JT (AB Ju AE))) (N3 (Jw rfl (CM (A5 (i:=3) sc.nd rfl Cl) (CM (A5 (i:=4) sc.nd rfl Cl) IU))))
  (Ab (Dh (DW.dt (Hy (Hs (GF (Ap G5 Ia g rfl (AB uN (AB (A9 (AB Ps AE)) AE))))) (Hy (Bw (Kh Nv) (Bj uN AI Fr) (A8 (AB AI (AB (Ap BK Bi g rfl (AB Ps AE)) AE))) ii) (Hl (Bw (Kh Nv) (Bj uN AI Fr) (Ap DK ED g rfl (AB HX (AB Ps AE))) ii)))))
   (Ab (BM Gp))
   CA)))
 (Ab (BM Gp))))
theorem Nu:Ag rW rW (AL Lb):=⟨rfl,rfl,rfl,by decide +kernel,rfl,by decide +kernel,by decide +kernel⟩
def OM(Ad:AC)(CD:AC)(BJ:AC)(BE:AC):DF :=
 (Af (Fm (B8 (En false) On tT)
  (Bn (AO (PU false) N6 uB))
  Ck)
 (Af (Fm (M5 (K0 (Jf (AW CD (AA N6 (AA (AW BJ (AA (AO A6 On Fk) AF)) AF))))) (B8 (En false) (AO B1 N6 Fk) (Az (AA Fk (AA (AW Ad (AA (AO B1 N6 Js) AF)) AF)))))
  (Bn (fC lf))
  Ck)
 (Bn (AO (En false) (AO B1 N6 Fk) (AW BE (AA Ni (AA (AO B1 N6 Js) AF)))))))
def DP(Ad:AC)(CD:AC)(BJ:AC)(BE:AC):List PyData->Option PyData:=Dg rW rW (OM Ad CD BJ BE)
theorem Ua{k:Nat}{Ad:AC}{CD:AC}{BJ:AC}{BE:AC}(F:Fn K mg "is_due_odd" Lb rW f fd)
 {CP:Addr}{CF:IR}(BK:Fn K mg "density_within" Ef ZB CP CF)(Bi:AH P w K mg base Ah k CP CF ZB (Bc Ad))
 {U:Addr}{Y:IR}(G5:Fn K mg "is_line" L3 t7 U Y)(Ia:AH P w K mg base Ah k U Y t7 (Bc CD))
 {Z:Addr}{EO:IR}(Dl:Fn K mg "trees_of" JN ["many"] Z EO)(EM:AH P w K mg base Ah k Z EO ["many"] (Bc BJ))
 {FG:Addr}{Ee:IR}(DK:Fn K mg "walked_weight" Gg ["table","tree"] FG Ee)(ED:AH P w K mg base Ah k FG Ee ["table","tree"] (Bc BE)){g:Tok}(Ce:mg "MOST_ORDER" = some (.int 6 g)) :
  AH P w K mg base Ah oF f fd rW (Bc (DP Ad CD BJ BE)):=IZ F Nu fun cdv A outer s H E T=>by
 have sc:=Nu;exact(AM (Dh (Bw (O8 (by have:=T.units;exact this)) JT (G6 rfl Ce) ii)
  (Ab (BM (Mc gH Ju Fy ii)))
  CA)
 (AM (Dh (DW.dt (Hy (Hs (GF (Ap G5 Ia T rfl (AB Ju (AB (Ap Dl EM T rfl (AB (A1 BN JT AI) AE)) AE))))) (Hl (Bw (O8 (by have:=T.units;exact this)) (Bj Ju AI Fr) (A8 (AB AI (AB (Ap BK Bi T rfl (AB (Bj Ju AI Fr) AE)) AE))) ii))))
  (Ab (BM Gp))
  CA)
 (Ab (BM (Mc (O8 (by have:=T.units;exact this)) (Bj Ju AI Fr) (Ap DK ED T rfl (AB HX (AB (Bj Ju AI Fr) AE))) ii)))))
theorem Ms:Ag ["table","paper","order"] t8 (AL GO):=⟨rfl,rfl,rfl,by decide +kernel,rfl,by decide +kernel,by decide +kernel⟩
def Hx(B6:AC)(DP:AC)(BW:AC)(Ar:Do)(Bu:AC):HW :=
 (Iu (Hw Ar (AA Ni AF) fun _ δ=>.nx δ)
 (X5 (Af (Fm (M5 (K0 (Jf (SN FQ On))) (B8 (En true) (AW Fj uv) (fC (.int 3))))
  (Bn (fC lf))
  Ck)
 (Af (Bh 2 (AO B1 On Js))
 (Af (Fm (M5 (K0 (Jf (AW BW ug))) (M5 (B8 Q4 N6 Js) (B8 (Ez fun i j=>decide (j<i)) N6 tT)))
  (Bn (fC lf))
  Ck)
 (Bn (Wi (AW B6 (AA Ni (AA (AW Bu ug) (AA (AO B1 On Fk) AF)))) (AW DP (AA Ni (AA N6 (AA (AO B1 On (fC (.int 2))) AF)))))))))))
def Ba(B6:AC)(DP:AC)(BW:AC)(Ar:Do)(Bu:AC):List PyData->Option Xr:=Hh t8 ["table","paper","order"] (Hx B6 DP BW Ar Bu)
theorem TM{k:Nat}{B6:AC}{DP:AC}{BW:AC}{Ar:Do}{Bu:AC}(F:Fn K mg "judge_paper" GO t8 f fd)
 {Z:Addr}{KZ:IR}(F7:Fn K mg "are_true_lines" IP uL Z KZ)(IL:AH P w K mg base Ah k Z KZ uL (Bc B6))
 {U:Addr}{Y:IR}(JJ:Fn K mg "is_due_odd" Lb rW U Y)(LL:AH P w K mg base Ah k U Y rW (Bc DP))
 {Ih:Addr}{Ht:IR}(CU:Fn K mg "is_whole" F9 Jo Ih Ht)(Di:AH P w K mg base Ah k Ih Ht Jo (Bc BW))
 {Dc:Addr}{DH:IR}(CH:Fn K mg "refuse_no_judging" El UV Dc DH)(Cb:AH P w K mg base ce k Dc DH UV (Ep Ar))
 {Ip:Addr}{Hv:IR}(F6:Fn K mg "trees_to" Km ["most"] Ip Hv)(G9:AH P w K mg base Ah k Ip Hv ["most"] (Bc Bu))(AN:iN)(A4:io)(B4:mg "tuple" = none){g:Tok}(Ce:mg "MOST_ORDER" = some (.int 6 g)) :
  AH P w K mg base ce oF f fd t8 (Ep (Ba B6 DP BW Ar Bu)):=WH F Ms fun cdv A outer s H E T=>by
 have sc:=Ms;exact(Gz (by exact Ja CH Cb T Lm (by exact(AB HX AE)) (fun h=>CV h))
 (Rz (AM (Dh (DW.dt (Hy (Hs (GF (MQ (Ld _) rfl AN rfl B4 bG JT))) (Hl (Bw (Kh (by have:=T.units;exact this)) (Df Gs rfl A4 ae (AB JT AE)) AI ii))))
  (Ab (BM Gp))
  CA)
 (AM (Bf (i:=2) sc.nd rfl Cl (Bj JT AI Fr))
 (AM (Dh (DW.dt (Hy (Hs (GF (Ap CU Di T rfl (AB Ju AE)))) (Hy (Bw Q2 Ju AI ii) (Hl (Bw Rl Ju (G6 rfl Ce) ii)))))
  (Ab (BM Gp))
  CA)
 (Ab (BM (Ro (Ap F7 IL T rfl (AB HX (AB (Ap F6 G9 T rfl (AB Ju AE)) (AB (Bj JT AI Fr) AE)))) (Q6 (Ap JJ LL T rfl (AB HX (AB Ju (AB (Bj JT AI Fr) AE)))))))))))))
theorem Me:Ag ["table","told","odd"] UV (AL GG):=⟨rfl,rfl,rfl,by decide +kernel,rfl,by decide +kernel,by decide +kernel⟩
def KP(Ds:AC)(Ar:Do)(Cn:Do)(Bu:AC):HW :=
 (Iu (Hw Ar (AA Ni AF) fun _ δ=>.nx δ)
 (Iu (Hw Cn (AA Ni AF) fun z δ=>.nx (δ.set 1 (.d z)))
 (X5 (Af (Bh 2 uB)
 (Af (Fm (B8 (PU true) (AO B1 On Fk) uB)
  (Bh 2 (AO B1 (AW Ds (AA Ni (AA (BG (AA (AO B1 On Fk) AF)) AF))) Js))
  Ck)
 (Bn (Az (AA (AO B1 On Js) (AA (AW Ds (AA Ni (AA (AW Bu (AA (AO B1 On Js) AF)) AF))) ug)))))))))
def Bb(Ds:AC)(Ar:Do)(Cn:Do)(Bu:AC):List PyData->Option Xr:=Hh UV ["table","told","odd"] (KP Ds Ar Cn Bu)
theorem Sl{k:Nat}{Ds:AC}{Ar:Do}{Cn:Do}{Bu:AC}(F:Fn K mg "order_paper" GG UV f fd)
 {T:Addr}{U:IR}(JM:Fn K mg "lines_of" NP T0 T U)(Kj:AH P w K mg base Ah k T U T0 (Bc Ds))
 {Dc:Addr}{DH:IR}(CH:Fn K mg "refuse_no_judging" El UV Dc DH)(Cb:AH P w K mg base ce k Dc DH UV (Ep Ar))
 {Y:Addr}{Z:IR}(Hz:Fn K mg "table_order" KA UV Y Z)(KN:AH P w K mg base ce k Y Z UV (Ep Cn))
 {Ip:Addr}{Hv:IR}(F6:Fn K mg "trees_to" Km ["most"] Ip Hv)(G9:AH P w K mg base Ah k Ip Hv ["most"] (Bc Bu)) :
  AH P w K mg base ce oF f fd UV (Ep (Bb Ds Ar Cn Bu)):=WH F Me fun cdv A outer s H E g=>by
 have sc:=Me;exact(Gz (by exact Ja CH Cb g Lm (by exact(AB HX AE)) (fun h=>CV h))
 (Gz (by exact ng (i:=1) Hz KN g Lm (by exact(AB HX AE)) sc.nd Cl)
 (Rz (AM (Bf (i:=2) sc.nd rfl Cl Fy)
 (AM (Dh (Bw WK (Bj JT AI Fr) Fy ii)
  (Ab (Bf (i:=2) sc.nd rfl Cl (Bj (Ap JM Kj g rfl (AB HX (AB (A9 (AB (Bj JT AI Fr) AE)) AE))) AI Fr)))
  CA)
 (Ab (BM (A8 (AB (Bj JT AI Fr) (AB (Ap JM Kj g rfl (AB HX (AB (Ap F6 G9 g rfl (AB (Bj JT AI Fr) AE)) AE))) (AB Ju AE)))))))))))
theorem Lv:Ag ["one","other","rows"] MY (AL HG):=⟨rfl,rfl,rfl,by decide +kernel,rfl,by decide +kernel,by decide +kernel⟩
def MT(Ae:Do)(BQ:Do):HW :=
 (Iu (Hw Ae (AA Ni AF) fun _ δ=>.nx δ)
 (Iu (Hw Ae uv fun _ δ=>.nx δ)
 (Iu (Hw BQ (AA (BG (AA Ni uv)) AF) fun _ δ=>.nx δ)
 (X5 (Af (Bh 2 (AO A6 (Dq (Ey 1) GB (AW PH uv) [none,none] (GC (AO B1 Ni Js))) (Dq (Ey 1) GB (AO A6 (AO B1 N6 Fk) On) [none,none,some 0] (GC (AO B1 On Js)))))
 (Bn (Az (AA N6 (AA (AO A6 (AO B1 Ni Fk) (AO B1 On Fk)) AF)))))))))
def Cv(Ae:Do)(BQ:Do):List PyData->Option Xr:=Hh MY ["one","other","rows"] (MT Ae BQ)
theorem Qx{k:Nat}{Ae:Do}{BQ:Do}(F:Fn K mg "table_behind" HG MY f fd)
 {Y:Addr}{B3:IR}(Be:Fn K mg "refuse_no_table" EI Jo Y B3)(Z:AH P w K mg base ce k Y B3 Jo (Ep Ae))
 {T:Addr}{U:IR}(Dk:Fn K mg "refuse_too_many_rows" FY ["tables"] T U)(Fd:AH P w K mg base ce k T U ["tables"] (Ep BQ))(Ec:mg "list" = none) :
  AH P w K mg base ce oF f fd MY (Ep (Cv Ae BQ)):=WH F Lv fun cdv A outer s H E g=>by
 have sc:=Lv;exact(Gz (by exact Ja Be Z g Lm (by exact(AB HX AE)) (fun h=>CV h))
 (Gz (by exact Ja Be Z g Lm (by exact(AB JT AE)) (fun h=>CV h))
 (Gz (by exact Ja Dk Fd g Lm (by exact(AB (A9 (AB HX (AB JT AE))) AE)) (fun h=>CV h))
 (Rz (AM (Bf (i:=2) sc.nd rfl Cl (A1 BN (Kt [".0","row"] 1 [none,none] (FC (Bj HX AI Fr)) uK (fun _ _ _ _ _=>(L5 iU rfl Ec PyProof.Rows.boot_list (AB JT AE)))) (Kt [".0","row","one"] 1 [none,none,some 0] (FC (Bj JT AI Fr)) uK (fun _ _ _ _ _=>(A1 BN (Bj Ju AI Fr) JT)))))
 (Ab (BM (A8 (AB Ju (AB (A1 BN (Bj HX AI Fr) (Bj JT AI Fr)) AE))))))))))
theorem M4:Ag ["_law_caught","_law_some","_law_names","_law_found"] ["_law_caught"] (AL KL):=⟨rfl,rfl,rfl,by decide +kernel,rfl,by decide +kernel,by decide +kernel⟩
def KC(Z:Hb)(Y:Hb)(kt_NoLine:Hb)(kt_NoName:Hb)(kt_NoParts:Hb)(kt_NoStart:Hb)(kt_NoTable:Hb)(kt_NoText:Hb)(kt_NoTree:Hb)(T:Hb)(U:Hb)(kt_TooMany:Hb)(g:Hb):DF :=
 (Af (Fm (B8 (PU false) Ni uB)
  (Bn (BG AF))
  Ck)
 (Af (Bh 1 (BG (AA (IM Z Ni) (AA (IM kt_NoTree Ni) (AA (IM Y Ni) AF)))))
 (Af (Bh 1 (AO A6 On (BG (AA (IM kt_NoStart Ni) (AA (IM kt_NoTable Ni) (AA (IM kt_NoName Ni) AF))))))
 (Af (Bh 1 (AO A6 On (BG (AA (IM T Ni) (AA (IM U Ni) (AA (IM kt_NoParts Ni) AF))))))
 (Af (Bh 1 (AO A6 On (BG (AA (IM kt_TooMany Ni) (AA (IM kt_NoText Ni) (AA (IM kt_NoLine Ni) AF))))))
 (Af (Bh 2 (BG (AA (fC (.str (Str.ofString "bottom"))) (AA (fC (.str (Str.ofString "tree"))) (AA (fC (.str (Str.ofString "change"))) (AA (fC (.str (Str.ofString "start"))) (AA (fC (.str gv)) (AA (fC (.str (Str.ofString "name"))) (AA (fC (.str (Str.ofString "weighing"))) (AA (fC (.str (Str.ofString "alike"))) (AA (fC (.str (Str.ofString "parts"))) (AA (fC (.str ku)) (AA (fC (.str (Str.ofString "text"))) (AA (fC (.str (Str.ofString "line"))) AF))))))))))))))
 (Af (Bh 3 (Dq (Et 1 2) (Jf N6) On [none,none,none] (Cy zip2 (AA N6 uv))))
 (Af (Fm (Jf (IM g Ni))
  (Bn (nm 3))
  Ck)
 (Bn (BG (AA (fC (.str (Str.ofString "none"))) AF)))))))))))
def Cm(Z:Hb)(Y:Hb)(kt_NoLine:Hb)(kt_NoName:Hb)(kt_NoParts:Hb)(kt_NoStart:Hb)(kt_NoTable:Hb)(kt_NoText:Hb)(kt_NoTree:Hb)(T:Hb)(U:Hb)(kt_TooMany:Hb)(g:Hb):List PyData->Option PyData:=Dg ["_law_caught"] ["_law_caught","_law_some","_law_names","_law_found"] (KC Z Y kt_NoLine kt_NoName kt_NoParts kt_NoStart kt_NoTable kt_NoText kt_NoTree T U kt_TooMany g)
theorem Sg{k:Nat}{C_NoBottom:Addr}{Z:Addr}{C_NoLine:Addr}{C_NoName:Addr}{C_NoParts:Addr}{C_NoStart:Addr}{C_NoTable:Addr}{C_NoText:Addr}{C_NoTree:Addr}{g:Addr}{Y:Addr}{C_TooMany:Addr}{kt_NoBottom:Hb}{kt_NoChange:Hb}{kt_NoLine:Hb}{kt_NoName:Hb}{kt_NoParts:Hb}{kt_NoStart:Hb}{kt_NoTable:Hb}{kt_NoText:Hb}{kt_NoTree:Hb}{U:Hb}{kt_NotAlike:Hb}{kt_TooMany:Hb}{T:Hb}(F:Fn K mg "_law_called" KL ["_law_caught"] f fd)(LZ:mg "ValueError" = none)(AN:iN)(EL:mg "zip" = none)(NI:mg "NoBottom" = some (.ref C_NoBottom))(NU:mg "NoChange" = some (.ref Z))(QC:mg "NoLine" = some (.ref C_NoLine))(Qj:mg "NoName" = some (.ref C_NoName))(Oa:mg "NoParts" = some (.ref C_NoParts))(OI:mg "NoStart" = some (.ref C_NoStart))(Lg:mg "NoTable" = some (.ref C_NoTable))(QY:mg "NoText" = some (.ref C_NoText))(QG:mg "NoTree" = some (.ref C_NoTree))(LX:mg "NoWeighing" = some (.ref g))(NO:mg "NotAlike" = some (.ref Y))(L0:mg "TooMany" = some (.ref C_TooMany))(kh_NoBottom:∀C b,kt_NoBottom C=some b->D0 K C/\PySem.W.kitOne K Pi (Dy (.ref C_NoBottom))=some b)(kh_NoChange:∀C b,kt_NoChange C=some b->D0 K C/\PySem.W.kitOne K Pi (Dy (.ref Z))=some b)(kh_NoLine:∀C b,kt_NoLine C=some b->D0 K C/\PySem.W.kitOne K Pi (Dy (.ref C_NoLine))=some b)(kh_NoName:∀C b,kt_NoName C=some b->D0 K C/\PySem.W.kitOne K Pi (Dy (.ref C_NoName))=some b)(kh_NoParts:∀C b,kt_NoParts C=some b->D0 K C/\PySem.W.kitOne K Pi (Dy (.ref C_NoParts))=some b)(kh_NoStart:∀C b,kt_NoStart C=some b->D0 K C/\PySem.W.kitOne K Pi (Dy (.ref C_NoStart))=some b)(kh_NoTable:∀C b,kt_NoTable C=some b->D0 K C/\PySem.W.kitOne K Pi (Dy (.ref C_NoTable))=some b)(kh_NoText:∀C b,kt_NoText C=some b->D0 K C/\PySem.W.kitOne K Pi (Dy (.ref C_NoText))=some b)(kh_NoTree:∀C b,kt_NoTree C=some b->D0 K C/\PySem.W.kitOne K Pi (Dy (.ref C_NoTree))=some b)(kh_NoWeighing:∀C b,U C=some b->D0 K C/\PySem.W.kitOne K Pi (Dy (.ref g))=some b)(kh_NotAlike:∀C b,kt_NotAlike C=some b->D0 K C/\PySem.W.kitOne K Pi (Dy (.ref Y))=some b)(kh_TooMany:∀C b,kt_TooMany C=some b->D0 K C/\PySem.W.kitOne K Pi (Dy (.ref C_TooMany))=some b)(kh_ValueError:∀C b,T C=some b->D0 K C/\PySem.W.kitOne K Pi (Dy (.ty "ValueError"))=some b) :
  AH P w K mg base Ah oF f fd ["_law_caught"] (Bc (Cm kt_NoBottom kt_NoChange kt_NoLine kt_NoName kt_NoParts kt_NoStart kt_NoTable kt_NoText kt_NoTree U kt_NotAlike kt_TooMany T)):=IZ F M4 fun cdv A outer s H E hr=>by
 have sc:=M4;exact(AM (Dh (Bw gH HX Fy ii)
  (Ab (BM (A9 AE)))
  CA)
 (AM (Bf (i:=1) sc.nd rfl Cl (A9 (AB (Fu kh_NoBottom Lz rfl AN (EA (v:=.ref C_NoBottom) rfl NI rfl) HX) (AB (Fu kh_NoTree Lz rfl AN (EA (v:=.ref C_NoTree) rfl QG rfl) HX) (AB (Fu kh_NoChange Lz rfl AN (EA (v:=.ref Z) rfl NU rfl) HX) AE)))))
 (AM (Bf (i:=1) sc.nd rfl Cl (A1 BN JT (A9 (AB (Fu kh_NoStart Lz rfl AN (EA (v:=.ref C_NoStart) rfl OI rfl) HX) (AB (Fu kh_NoTable Lz rfl AN (EA (v:=.ref C_NoTable) rfl Lg rfl) HX) (AB (Fu kh_NoName Lz rfl AN (EA (v:=.ref C_NoName) rfl Qj rfl) HX) AE))))))
 (AM (Bf (i:=1) sc.nd rfl Cl (A1 BN JT (A9 (AB (Fu kh_NoWeighing Lz rfl AN (EA (v:=.ref g) rfl LX rfl) HX) (AB (Fu kh_NotAlike Lz rfl AN (EA (v:=.ref Y) rfl NO rfl) HX) (AB (Fu kh_NoParts Lz rfl AN (EA (v:=.ref C_NoParts) rfl Oa rfl) HX) AE))))))
 (AM (Bf (i:=1) sc.nd rfl Cl (A1 BN JT (A9 (AB (Fu kh_TooMany Lz rfl AN (EA (v:=.ref C_TooMany) rfl L0 rfl) HX) (AB (Fu kh_NoText Lz rfl AN (EA (v:=.ref C_NoText) rfl QY rfl) HX) (AB (Fu kh_NoLine Lz rfl AN (EA (v:=.ref C_NoLine) rfl QC rfl) HX) AE))))))
 (AM (Bf (i:=2) sc.nd rfl Cl (A9 (AB Cd (AB Cd (AB Cd (AB Cd (AB Cd (AB Cd (AB Cd (AB Cd (AB Cd (AB Cd (AB Cd (AB Cd AE))))))))))))))
 (AM (Pq (i:=3) [".0","_law_name","_law_truth"] 1 2 [none,none,none] sc.nd rfl rfl (cL rfl EL (AB Ju (AB JT AE))) (fun _ _ _ _ _=>(ip (GF Ju))) (fun _ _ _ _ _=>(AD ua)))
 (AM (Dh (GF (Fu kh_ValueError Lz rfl AN (Ib (v:=.ty "ValueError") rfl LZ PyProof.Rows.Boot.«ValueError» rfl) HX))
  (Ab (BM Ps))
  CA)
 (Ab (BM (A9 (AB Cd AE))))))))))))
theorem Nj:Ag ["_law_table_here","_law_paper","_law_found","_law_which","_law_caught","e"] UF (AL Iq):=⟨rfl,rfl,rfl,by decide +kernel,rfl,by decide +kernel,by decide +kernel⟩
def LW(Cm:AC)(Ba:Do)(Bb:Do):DF :=
 (Af (N4 2 AF)
 (Af (C4 (Cy IK (AA (fC (.int 2)) AF)) (Es 3)
  (Af (Bh 4 uB)
  (Af (Uv 5
   (Qe (Zj (B8 (En false) (nm 3) Js)
   (Qe (PK Bb (AA Ni AF))
    Vy)
   (Qe (PK Ba (AA Ni uv))
    Vy))
   Vy)
   (Bh 4 (nm 5)))
  (ML 2 (AW Cm (AA (nm 4) AF))))))
 (RV 2)))
def DJ(Cm:AC)(Ba:Do)(Bb:Do):List PyData->Option PyData:=Dg UF ["_law_table_here","_law_paper","_law_found","_law_which","_law_caught","e"] (LW Cm Ba Bb)
theorem Ue{k:Nat}{Cm:AC}{Ba:Do}{Bb:Do}{g:Addr}(F:Fn K mg "_law_flags" Iq UF f fd)
 {Z:Addr}{Mz:IR}(IC:Fn K mg "_law_called" KL ["_law_caught"] Z Mz)(J7:AH P w K mg base Ah k Z Mz ["_law_caught"] (Bc Cm))
 {GI:Addr}{Fz:IR}(Cj:Fn K mg "judge_paper" GO t8 GI Fz)(DY:AH P w K mg base ce k GI Fz t8 (Ep Ba))
 {GL:Addr}{Fw:IR}(Cf:Fn K mg "order_paper" GG UV GL Fw)(DQ:AH P w K mg base ce k GL Fw UV (Ep Bb))(BP:uT)(LG:mg "GroveError" = some (.ref g))(U:∀ds C,Ba ds=some (.inr C)->HD K C g true)(T:∀ds C,Bb ds=some (.inr C)->HD K C g true) :
  AH P w K mg base Ah oF f fd UF (Bc (DJ Cm Ba Bb)):=IZ F Nj fun cdv A outer s H E Y=>by
 have sc:=Nj;exact(AM (LJ (i:=2) sc.nd rfl Cl AE)
 (AM (Dz aP rfl (Jz rfl BP (AB AI AE)) (E2 (A5 (i:=3) sc.nd rfl Cl))
  (AM (Bf (i:=4) sc.nd rfl Cl Fy)
  (AM (iD (k:=5) (SX (oS (Bw (O8 (by have:=Y.units;exact this)) Ps AI ii) (SX (Xw Cf DQ Y (by exact(AB HX AE)))
    Vk) (SX (Xw Cj DY Y (by exact(AB HX (AB JT AE))))
    Vk))
   Vk) sc.nd (Cz.at (P:=fun C=>HD K C g true) (Cz.seq (Cz.if (Cz.seq (Cz.call T) Cz.nil) (Cz.seq (Cz.call U) Cz.nil)) Cz.nil)) LG (fun ea=>(Ab (Bf (i:=4) sc.nd rfl Cl (AD (pv 5))))))
  (Ab (Ic uu (Ap IC J7 Y rfl (AB uN AE)) (fun ho ha=>CV (IB ag bE bF FH ho ha)))))))
 (Ab (O5 uu))))
theorem L7:Ag ["_law_table_here","_law_number","_law_rows","_law_last","_law_place","_law_some","_law_bad","_law_longer"] Sc (AL HN):=⟨rfl,rfl,rfl,by decide +kernel,rfl,by decide +kernel,by decide +kernel⟩
def Mx:DF :=
 (Af (rq Ni (Et 2 3))
 (Af (Bh 4 (AO ID On (AW Fj Tm)))
 (Af (Bh 1 (AO lC On (fC (.int 4))))
 (Af ub
 (Af (C4 uW (Es 6)
  (Af (ML 5 (Az (AA N6 (AA (AO A6 (AO A6 (Iw (nm 3) Gd (Gf (nm 4))) (BG (AA (nm 6) AF))) (Iw (nm 3) (Gf (AO A6 (nm 4) Fk)) Gd)) AF))))
  (Af ux
  (ML 5 (Az (AA (nm 7) (AA (AO A6 (nm 3) (BG (AA (Az (AA Js (AA Fk AF))) AF))) AF)))))))
 (Af (Wa 5 uV)
 (Wa 5 (Bn (AO B1 uj (AO ID On (fC (.int 32))))))))))))
def CY:List PyData->Option PyData:=Dg Sc ["_law_table_here","_law_number","_law_rows","_law_last","_law_place","_law_some","_law_bad","_law_longer"] (Mx)
theorem RI{k:Nat}(F:Fn K mg "_law_spoiled" HN Sc f fd)(U:io)(Y:uT)(T:mg "tuple" = none) :
  AH P w K mg base Ah oF f fd Sc (Bc (CY)):=IZ F L7 fun cdv A outer s H E Z=>by
 have sc:=L7;exact(AM (oA HX (N3 (Jw rfl (CM uh (CM (A5 (i:=3) sc.nd rfl Cl) IU)))))
 (AM (Bf (i:=4) sc.nd rfl Cl (A1 JX JT (Df Gs rfl U ae (AB Ps AE))))
 (AM (Bf (i:=1) sc.nd rfl Cl (A1 iT JT AI))
 (AM (LJ (i:=5) sc.nd rfl Cl (AB Fy (AB (A9 (AB Ju (AB Ps AE))) (AB (A8 (AB Ju AE)) (AB (A8 (AB Ju (AB Ps (AB (A9 AE) AE)))) (AB (A8 (AB (A9 AE) (AB (A9 AE) AE))) (AB (A8 (AB (L5 Qq rfl T bG (AB Ju AE)) (AB Ps AE))) (AB (A8 (AB Ju (AB (L5 Qq rfl T bG (AB Ps AE)) AE))) AE))))))))
 (AM (Dz aP rfl (FC (A9 (AB (A8 sK) (AB (A8 sK) (AB (A8 sK) (AB (A8 (AB AI (AB (WE AI) AE))) (AB AI (AB Gp (AB Fy (AB (A9 sK) (AB (A8 (AB AI sK)) (AB Cd AE)))))))))))) (E2 (A5 (i:=6) sc.nd rfl Cl))
  (AM (Ic (pv 5) (A8 (AB Ju (AB (A1 BN (A1 BN (Gy Ps IV (IX uN)) (A9 (AB (AD (pv 6)) AE))) (Gy Ps (IX (A1 BN uN AI)) IV)) AE))) (fun g ha=>CV (IB ag bE bF FH g ha)))
  (AM (Bf (i:=7) sc.nd rfl Cl (A1 BN Ju (A9 (AB (A1 BN (A9 (AB (AD (pv 6)) AE)) (Kt [".0","_law_k"] 1 [none,none] (Jz rfl Y (AB (A1 XI (Df Gs rfl U ae (AB Ju AE)) AI) AE)) uK (fun _ _ _ _ _=>(A8 sK)))) AE))))
  (Ab (Ic (pv 5) (A8 (AB (AD (pv 7)) (AB (A1 BN Ps (A9 (AB (A8 sK) AE))) AE))) (fun g ha=>CV (IB ag bE bF FH g ha)))))))
 (AM (Q8 5 (b8 (i:=5) (AD (pv 5)) (A9 (AB (A8 (AB Ju (AB (A1 BN Ps (A9 (AB (A8 sK) AE))) AE))) (AB (A8 (AB Ju (AB (Gy Ps IV (IX (WE AI))) AE))) (AB (A8 (AB (Gy Ju IV (IX (WE AI))) (AB Ps AE))) (AB (A8 (AB (A1 BN Ju (A9 (AB (A9 AE) AE))) (AB (A1 BN Ps (A9 (AB (A8 sK) AE))) AE))) AE))))) sc.nd rfl Cl))
 (Ab (Q8 5 (BM (Bj (A1 BN (AD (pv 5)) (A9 (AB (A8 (AB (A1 BN (A1 BN (Gy Ju IV (IX uN)) (A9 (AB (A1 BN (Bj Ju uN Fr) (A9 (AB (A8 sK) AE))) AE))) (Gy Ju (IX (A1 BN uN AI)) IV)) (AB Ps AE))) AE))) (A1 JX JT AI) Fr))))))))))
end
def cG:Sp:=fun vs H Q _=>∃(l:Addr) (x n:Int),vs=[.ref l,.int n]/\H l=some (.lst [.int x])/\0<n/\n<2^64/\∀r y:Int,0<=r->r<n->Q (.int r) (upd H l (.lst [.int y]))
def X1(K:As):Sp:=fun vs H Q _=>∃(a:Addr) (ns:XV) (k:Int),vs=[.ref a,.int k]/\Aq K H a oR/\0<=k/\k<1000/\∀x:Int,Q (.int x) H
def Xp:Sp:=fun vs H Q _=>∃(l:Addr) (x:Int),vs=[.ref l]/\H l=some (.lst [.int x])/\∀(p:Addr) (r:Rat) (y:Int) (H':Hp),AK (upd H l (.lst [.int y])) H'->H' p=some (.tup (KH r))->r.num.natAbs<=6->r.den<=6->Q (.ref p) H'
theorem Zq:∀i,i<13->∀j,j<6->(Rat.divInt ((i:Nat)-6:Int) (1+(j:Nat):Int)).num.natAbs<=6/\(Rat.divInt ((i:Nat)-6:Int) (1+(j:Nat):Int)).den<=6:=by decide +kernel
theorem Wq{i j:Int}(T:0<=i)(Y:i<13)(g:0<=j)(U:j<6):(Rat.divInt (i-6) (1+j)).num.natAbs<=6/\(Rat.divInt (i-6) (1+j)).den<=6:=by
 have:=Zq i.toNat AS j.toNat AS
 rwa [Int.toNat_of_nonneg T,Int.toNat_of_nonneg g]at this
section
variable{P:Io}{w:Mw}{K:As}{mg:Fa}{base:Heap}{f g g1 g2:Addr}{fd gd gd1 gd2:IR}
theorem Ux:Ag ["_law_pile","_law_size","_law_digit"] ["_law_pile","_law_size"] (AL MD):=⟨rfl,rfl,rfl,by decide +kernel,rfl,by decide +kernel,by decide +kernel⟩
theorem Wj(F:Fn K mg "_law_take" MD ["_law_pile","_law_size"] f fd):AH P w K mg base Ah 1 f fd ["_law_pile","_law_size"] cG:=by
 have sc:=Ux;refine F.F.ok (k:=0) sc JP (fun cdv A outer s H vs Q E U h=>?_)
 .obtain⟨l,x,n,rfl,_⟩:=h
  rfl
 obtain⟨l,x,n,rfl,T,h0,Y,q⟩:=h;refine⟨_,(AZ (BB (i:=2) sc.nd rfl Cl (A0 MV (CI Md uf AX Fr) ua))
 (AZ (VG (A0 Fe (CI Md uf AX Fr) ua) (b7 uf AX set_list))
 (Ai (BV uu)))),?_⟩
 refine⟨_,rfl,_,_,_,_,rfl,rfl,Aq.of T,rfl,_,rfl,_,_,rfl,rfl,(by show n≠0;lia),?_⟩;refine⟨_,rfl,_,_,_,_,rfl,rfl,Aq.of T,rfl,_,rfl,_,_,rfl,rfl,⟨by lia,64,by decide,by lia⟩,_,rfl,l,_,_,0,rfl,rfl,T,rfl,_,rfl,?_⟩;exact q _ _ (Int.fmod_nonneg_of_pos x h0) (Int.fmod_lt_of_pos x h0)
theorem SY:Ag uM uM (AL KI):=⟨rfl,rfl,rfl,by decide +kernel,rfl,by decide +kernel,by decide +kernel⟩
def tH(σ:St):Nat:=match σ[1]? with|some (some (V.int l))=>l.natAbs|_=>0
theorem TJ(F:Fn K mg "_law_shared" KI uM f fd)(Z:mg "abs" = none):AH P w K mg base Ah 1 f fd uM Oi:=by
 have sc:=SY;refine F.F.ok (k:=0) sc JP IO
 .obtain⟨a,b,rfl,_⟩:=h
  rfl
 obtain⟨a,b,rfl,q⟩:=h;refine⟨_,(AZ (NN aP (Ct RM ua AX ii)
  (Ai (mI (i:=0) (j:=1) rfl sc.nd rfl rfl BY rfl rfl (AG ua (AG (A0 MV uf ua) AU)) rfl)))
 (Ai (BV (BR Qk rfl Z PyProof.Rows.boot_abs (AG uf AU))))),?_⟩
 refine QV (fun σ H'=>∃g l,σ=[some (.int g),some (.int l)]/\H=H'/\Int.gcd g l=Int.gcd a b) (fun σ _=>tH σ) ⟨_,_,rfl,rfl,rfl⟩ ?_ ?_
 .rintro σ H' ⟨g,l,rfl,rfl,hg⟩;refine⟨_,rfl,rfl,_,rfl,Ed XN XN⟩
  .have T:l≠0:=fun z=>by subst z;simp at c
   refine⟨_,rfl,_,rfl,_,rfl,_,_,rfl,rfl,T,_,_,rfl,⟨_,_,rfl,rfl,?_⟩,?_⟩
   .rw[FM.VB];exact hg
   .exact FM.UO g l T
  .have T:l=0:=by simpa using c
   subst T;refine⟨_,rfl,_,rfl,?_⟩;rw[FM.jW hg];exact q
 .exact fun σ H Q Q' U ⟨v,e,s,k,Y,q⟩=>⟨v,e,s,k,Y,U _ _ q⟩
theorem VR:Ag ["_law_top","_law_bottom","_law_by_here"] ["_law_top","_law_bottom"] (AL MI):=⟨rfl,rfl,rfl,by decide +kernel,rfl,by decide +kernel,by decide +kernel⟩
theorem U3(F:Fn K mg "_law_frac" MI ["_law_top","_law_bottom"] f fd)(IA:Fn K mg "_law_shared" KI uM g gd)
 (Ub:AH P w K mg base Ah 1 g gd uM Oi):AH P w K mg base Ah 2 f fd ["_law_top","_law_bottom"] Qd:=by
 have sc:=VR;refine F.F.ok (k:=1) sc JP IO
 .obtain⟨t,b,m,rfl,_⟩:=h
  rfl
 obtain⟨t,b,m,rfl,hb,hm,Z,q⟩:=h;refine⟨_,(AZ (BB (i:=2) sc.nd rfl Cl (Bs IA Ub hr rfl (AG uf (AG ua AU))))
 (AZ (FL (Ct Q9 ua AX ii)
  (Ai (BB (i:=2) sc.nd rfl Cl (A0 RP AX uu)))
  Cw)
 (Ai (BV (Ry (AG (A0 Fe uf uu) (AG (A0 Fe ua uu) AU))))))),?_⟩
 refine⟨_,rfl,_,rfl,t,b,rfl,?_⟩
 try dsimp only[Dj]
 refine Lc (fun T H'=>T=[some (.int t),some (.int b),some (.int (FM.gs t b))]/\H=H') (fun nx hn=>?_) ?_
 .refine⟨_,rfl,_,_,rfl,rfl,_,rfl,Ed XN XN⟩
  .have U:b<0:=az c;refine⟨_,rfl,_,_,rfl,rfl,hn _ _ ⟨?_,rfl⟩⟩;show [some (V.int t),some (V.int b),some (V.int (0-FM.gi t b))]=_;unfold FM.gs;rw[if_pos U,Int.zero_sub]
  .have U:¬b<0:=bZ (au.mpr c);refine hn _ _ ⟨?_,rfl⟩;unfold FM.gs;rw[if_neg U]
   rfl
 .rintro T H' ⟨rfl,rfl⟩;have h0:FM.gs t b≠0:=FM.gL hb;have Y:(FM.gs t b).natAbs<2^m:=aS (FM.gO hb) Z;refine⟨_,rfl,_,rfl,_,_,rfl,rfl,⟨h0,m,hm,Y⟩,_,rfl,_,rfl,_,_,rfl,rfl,⟨h0,m,hm,Y⟩,XZ,fun p hp=>?_⟩;refine q p _ (Ak hp _) ?_;rw[AR];show some (HO.tup [V.int (t.fdiv (FM.gs t b)),V.int (b.fdiv (FM.gs t b))])=_;rw[FM.Wf hb,FM.Vf hb]
  rfl
theorem WZ:Ag tU Oo (AL FZ):=⟨rfl,rfl,rfl,by decide +kernel,rfl,by decide +kernel,by decide +kernel⟩
theorem Vq(F:Fn K mg "_law_cell" FZ Oo f fd)(A4:io)(BP:uT):AH P w K mg base Ah 1 f fd Oo (X1 K):=by
 have sc:=WZ;refine F.F.ok (k:=0) sc JP IO
 .obtain⟨a,ns,k,rfl,_⟩:=h
  rfl
 obtain⟨a,ns,k,rfl,hS,h0,hk,q⟩:=h;refine⟨_,(AZ (BB (i:=2) sc.nd rfl Cl AX)
 (AZ (FL (Ct Q9 ua tm ii)
  (Ai (BB (i:=2) sc.nd rfl Cl (CI Md uf ua Fr)))
  Cw)
 (AZ (FL (Ct ZH uu (A0 Q0 AX AX) ii)
  (Ai (BV (A0 Ot (A0 RP uu (A0 Q0 AX AX)) (A0 Q0 AX AX))))
  Cw)
 (AZ (BB (i:=3) sc.nd rfl Cl (A0 Ot (A0 Fv (A0 Fv (A0 Cs uu AX) (A0 Cs ua AX)) AX) AX))
 (AZ (BB (i:=4) sc.nd rfl Cl AX)
 (AZ (Hm aP rfl (Jp rfl BP (AG AX AU)) (A5 (i:=5) sc.nd rfl Cl)
  (AZ (BB (i:=3) sc.nd rfl Cl (A0 Ot (A0 Fv (A0 Fv (A0 Cs (pv 3) (pv 3)) (A0 Cs AX (pv 5))) AX) AX))
  (Ai (BB (i:=4) sc.nd rfl Cl (A0 Fv (A0 Cs (pv 4) AX) (A0 Ot (A0 Cs (pv 3) (pv 3)) AX))))))
 (Ai (BV (pv 4))))))))),?_⟩
 try dsimp only[Dj]
 refine Lc (fun T H'=>∃c:Int,T=[some Mt,some (.int k),some (.int c),none,none,none]/\H=H') (fun nx hn=>?_) ?_
 .exact hn _ _ ⟨0,rfl,rfl⟩
 rintro _ _ ⟨_,rfl,rfl⟩
 try dsimp only[Dj]
 refine Lc (fun T H'=>∃c:Int,T=[some Mt,some (.int k),some (.int c),none,none,none]/\H=H') (fun nx hn=>?_) ?_
 .refine⟨_,rfl,_,rfl,a,_,rfl,.inl hS,_,_,rfl,rfl,_,rfl,Ed XN XN⟩
  .have c':k<(((ns.map V.int).length:Nat):Int):=az c;rw[List.length_map]at c';have hk:k.toNat<ns.length:=by lia
   have Y:Gm oR k=some (.int ns[k.toNat]):=by
    have z:=Kw (xs:=ns.map V.int) (j:=k.toNat) (v:=.int ns[k.toNat]) (by rw[List.getElem?_map,List.getElem?_eq_getElem hk];rfl)
    rwa [show((k.toNat:Nat):Int)=k by lia]at z
   exact⟨_,rfl,_,rfl,a,_,_,_,rfl,rfl,hS,Y,hn _ _ ⟨_,rfl,rfl⟩⟩
  .exact hn _ _ ⟨_,rfl,rfl⟩
 rintro _ _ ⟨c,rfl,rfl⟩;refine⟨_,rfl,_,_,rfl,rfl,⟨by decide,by decide,by decide⟩,_,_,rfl,rfl,_,rfl,Ed (fun _=>?_) (fun _=>?_)⟩
 .exact⟨_,rfl,_,_,rfl,rfl,⟨by decide,by decide,by decide⟩,_,_,rfl,rfl,_,_,rfl,rfl,⟨by decide,by decide,by decide⟩,_,_,rfl,rfl,(by show(0:Int)<10^60;decide),q _⟩
 .refine⟨_,rfl,_,_,rfl,rfl,mulC BY BY,_,rfl,_,_,rfl,rfl,mulC BY BY,_,_,rfl,rfl,_,_,rfl,rfl,_,_,rfl,rfl,(by show(0:Int)<2147483629;decide),?_⟩;have z0:0<=(c*48271+k*69621+11) % 2147483629:=Int.emod_nonneg _ BY;have z1:(c*48271+k*69621+11) % 2147483629<2147483629:=Int.emod_lt_of_pos _ BY;refine⟨8,rfl,by decide,by decide,Tz (n:=8) (fun _ σ H'=>∃(m Z:Int) (U:Option V),σ=[some Mt,some (.int k),some (.int c),some (.int m),some (.int Z),U]/\0<=m/\m<2147483629/\H=H') ⟨(c*48271+k*69621+11) % 2147483629,0,none,rfl,z0,z1,rfl⟩ ?_ ?_⟩
  .rintro i σ H' hi ⟨m,Z,U,rfl,m0,m1,rfl⟩;refine⟨_,rfl,_,rfl,_,_,rfl,rfl,mulC AS AS,_,rfl,_,_,rfl,rfl,mulL BY BY,_,_,rfl,rfl,_,_,rfl,rfl,_,_,rfl,rfl,(by show(0:Int)<2147483587;decide),?_⟩;have y0:0<=(m*m+69621*(0+(i:Nat))+7) % 2147483587:=Int.emod_nonneg _ BY;have y1:(m*m+69621*(0+(i:Nat))+7) % 2147483587<2147483587:=Int.emod_lt_of_pos _ BY;exact⟨_,rfl,_,_,rfl,rfl,mulC BY BY,_,rfl,_,rfl,((m*m+69621*(0+(i:Nat))+7) % 2147483587:Int),((m*m+69621*(0+(i:Nat))+7) % 2147483587:Int),rfl,rfl,mulC AS AS,_,_,rfl,rfl,(by show(0:Int)<2147483563;decide),_,_,rfl,rfl,_,_,_,rfl,y0,by lia,rfl⟩
  .rintro σ H' ⟨m,Z,U,rfl,m0,m1,rfl⟩;exact⟨_,rfl,q _⟩
theorem Vw:Ag ["_law_pile","_law_top"] ["_law_pile"] (AL MH):=⟨rfl,rfl,rfl,by decide +kernel,rfl,by decide +kernel,by decide +kernel⟩
theorem U2(F:Fn K mg "_law_part" MH ["_law_pile"] f fd)(Z:Fn K mg "_law_take" MD ["_law_pile","_law_size"] g1 gd1)(Jh:Fn K mg "_law_frac" MI ["_law_top","_law_bottom"] g2 gd2)
 (Y:AH P w K mg base Ah 2 g1 gd1 ["_law_pile","_law_size"] cG)(Pt:AH P w K mg base Ah 2 g2 gd2 ["_law_top","_law_bottom"] Qd):AH P w K mg base Ah 3 f fd ["_law_pile"] Xp:=by
 have sc:=Vw;refine F.F.ok (k:=2) sc JP (fun cdv A outer s H vs Q E U h=>?_)
 .obtain⟨l,x,rfl,_⟩:=h
  rfl
 obtain⟨l,x,rfl,hl,q⟩:=h;refine⟨_,(AZ (BB (i:=1) sc.nd rfl Cl (A0 RP (Bs Z Y U rfl (AG uf (AG AX AU))) AX))
 (Ai (BV (Bs Jh Pt U rfl (AG ua (AG (A0 Fv AX (Bs Z Y U rfl (AG uf (AG AX AU)))) AU)))))),?_⟩
 refine⟨_,rfl,l,x,13,rfl,hl,by decide,by decide,fun i y i0 i1=>⟨_,_,rfl,rfl,?_⟩⟩;refine⟨_,rfl,_,rfl,l,y,6,rfl,AR,by decide,by decide,fun j z j0 j1=>⟨_,_,rfl,rfl,?_⟩⟩;have hd:=Wq i0 i1 j0 j1;refine⟨i-6,1+j,8,rfl,by lia,by decide,by lia,fun p H' e hp=>?_⟩;refine q p _ z H' (fun b o hb=>e _ _ ?_) hp hd.1 hd.2;by_cases T:b=l
 .subst T;rw[AR]at hb ⊢;exact hb
 .rw[AJ T]at hb;rw[AJ T,AJ T];exact hb
end
mutual
theorem RY{H:Hp}:∀ {d:KB} {v:V},d.canLay0=true->Du H d v->DU H d v
 |.none,_,_,h=>by rw[Du]at h;subst h;exact .Bp
 |.bool _,_,_,h=>by rw[Du]at h;subst h;exact .bool
 |.int _,_,_,h=>by rw[Du]at h;subst h;exact .int
 |.str _,_,_,h=>by rw[Du]at h;subst h;exact .str
 |.tuple _,_,c,h=>by
  rw[Du]at h;obtain⟨a,xs,rfl,T,g⟩:=h;exact .tup T (TN (by simpa only[PyData.canLay0]using c) g)
 |.list _,_,c,h=>by
  rw[Du]at h;obtain⟨a,xs,rfl,T,g⟩:=h;exact .lst T (TN (by simpa only[PyData.canLay0]using c) g)
 |.dict _,_,c,h=>by simp[PyData.canLay0]at c
theorem TN{H:Hp}:∀ {ds:By} {xs:HQ},PyData.canLayAll0 ds=true->Au H ds xs->CQ H ds xs
 |[],_,_,h=>by rw[h.nil_eq];exact .nil
 |_::_,_,c,h=>by
  obtain⟨x,r,rfl,T,g⟩:=h.un;simp only[PyData.canLayAll0,Bool.and_eq_true]at c;exact .cons (RY c.1 T) (TN c.2 g)
end
mutual
theorem gB{l:Addr}{H:Hp}:∀ {d:KB} {v:V},Dt l H d v->Du H d v
 |.none,_,h=>by rw[Dt]at h;rw[Du];exact h
 |.bool _,_,h=>by rw[Dt]at h;rw[Du];exact h
 |.int _,_,h=>by rw[Dt]at h;rw[Du];exact h
 |.str _,_,h=>by rw[Dt]at h;rw[Du];exact h
 |.tuple _,_,h=>by
  rw[Dt]at h;rw[Du];obtain⟨a,xs,rfl,n,T,g⟩:=h;exact⟨a,xs,rfl,T,Sj g⟩
 |.list _,_,h=>by
  rw[Dt]at h;rw[Du];obtain⟨a,xs,rfl,n,T,g⟩:=h;exact⟨a,xs,rfl,T,Sj g⟩
 |.dict _,_,h=>by rw[Dt]at h;exact h.elim
theorem Sj{l:Addr}{H:Hp}:∀ {ds:By} {xs:HQ},Ay l H ds xs->Au H ds xs
 |[],_,h=>by rw[Ay]at h;subst h;exact .nil
 |_::_,_,h=>by
  rw[Ay]at h;obtain⟨x,r,rfl,T,g⟩:=h;exact .cons (gB T) (Sj g)
end
theorem DU.du{H:Hp}{d:KB}{v:V}(h:DU H d v):Du H d v:=let⟨N,k⟩:=h;gB (k N em)
theorem Y2{G H H':Hp}{l:Addr}{vs:HQ}{ds:By}(Y:AK G H)(e:AK H H')(T:H' l=some (.tup vs))(d:Au G ds vs):∃g,AK G g/\Nw G H g/\AK g H'/\Du g (.tuple ds) (.ref l):=by
 have U:AK G (upd G l (.tup vs)):=fun a o h=>by
  by_cases ha:a=l
  .subst ha;have:=e _ _ (Y _ _ h);rw[T]at this;rw[AR];exact this
  .rw[AJ ha];exact h
 refine⟨upd G l (.tup vs),U,fun a u h=>?_,fun a u h=>?_,?_⟩
 .by_cases ha:a=l
  .subst ha;rw[AR]at h;cases h;exact .inr (.inr ⟨_,rfl⟩)
  .rw[AJ ha]at h;exact .inl h
 .by_cases ha:a=l
  .subst ha;rw[AR]at h;rw[T];exact h
  .rw[AJ ha]at h;exact e _ _ (Y _ _ h)
 .rw[Du];exact⟨l,vs,rfl,AR,d.same U⟩
theorem LV{G:Hp}:∀ps:List Int,Au G (ps.map .int) (ps.map V.int)
 |[]=>.nil
 |p::ps=>.cons Tk (LV ps)
section
variable{P:Io}{w:Mw}{K:As}{mg:Fa}{base:Heap}{CX:Ho}{k:Nat}{f:Addr}{fd:IR}{ps:MA}
def mB(q:PyData->Bool):List PyData->Option PyData
 |[d]=>if d.canLay0=true then some (.bool (q d)) else none
 |_=>none
theorem qE{q:PyData->Bool}{d:KB}(h:d.canLay0=true):mB q [d]=some (.bool (q d)):=if_pos h
theorem nv{q:PyData->Bool}{d:KB}{b:Bool}(h:d.canLay0=true)(e:q d=b):mB q [d]=some (.bool b):=(qE h).trans (by rw[e])
theorem sg{sp:Sp}{q:PyData->Bool}(F:AH P w K mg base CX k f fd ps sp)(h:∀(l:Addr) d v H Q E,Dt l H d v->(∀H',AK H H'->Q (.bl (q d)) H')->sp [v] H Q E):AH P w K mg base CX k f fd ps (Bc (mB q)) :=
 Kr F fun Z x hm G H vs Q E d e T=>by
  unfold mB at hm;split at hm
  .split at hm
   .rename_i dd U;cases hm;obtain⟨v,rfl,Y⟩:=d.JS;obtain⟨N,b⟩:=RY U (Y.same e);exact h N _ v H Q E (b N em) fun H' g=>T _ G H' (.refl _) Nw.refl (e.trans g) g Tk
   .cases hm
  .cases hm
end
theorem Vg:∀ps:List Int,PyData.canLayAll0 (ps.map .int)=true
 |[]=>by simp[PyData.canLayAll0]
 |p::ps=>by rw[List.map_cons];simp only[PyData.canLayAll0,PyData.canLay0];rw[Vg ps];rfl
def Lj:PyData->Rat
 |.tuple [.int a,.int b]=>Rat.divInt a b
 |_=>0
theorem LB(r:Rat):Lj (Aj r)=r:=FM.Hr r
theorem Sw(r:Rat):(Aj r).canLay0=true:=by unfold Aj;simp only[PyData.canLay0];exact Vg [r.num,(r.den:Int)]
section
variable{P:Io}{w:Mw}{K:As}{mg:Fa}{base:Heap}{CX:Ho}{k:Nat}{f:Addr}{fd:IR}{ps:MA}
def qi(ds:By):Option PyData:=match ds with
 |[.int t,.int b]=>if b≠0/\b.natAbs<2^400 then some (Aj (Rat.divInt t b)) else none
 |_=>none
theorem sC(F:AH P w K mg base CX k f fd ps Qd):AH P w K mg base CX k f fd ps (Bc qi) :=
 Kr F fun ds x hm G H vs Q E d e kk=>by
  unfold qi at hm;split at hm
  .split at hm
   .rename_i T;cases hm;obtain⟨v1,v2,rfl,Z,Y⟩:=d.Nm;rw[Du]at Z Y;subst Z Y;refine⟨_,_,400,rfl,T.1,by decide,T.2,fun l H' U g=>?_⟩;obtain⟨G',n1,n2,n3,n4⟩:=Y2 e U g (LV [(Rat.divInt _ _).num,((Rat.divInt _ _).den:Int)]);exact kk _ G' H' n1 n2 n3 U n4
   .cases hm
  .cases hm
end
theorem eS{n:Nat}{ds:By}(h:∀d∈ds,Ok n d):gg n ds:=by
 induction ds with
 |nil=>exact⟨by simp[PyData.canLayAll0],by simp[PyData.depthAll]⟩
 |cons d ds g=>
  obtain⟨a,b⟩:=h d M2;obtain⟨U,Y⟩:=g fun e T=>h e (.tail _ T);exact⟨by simp only[PyData.canLayAll0];rw[a,U];rfl,by simp only[PyData.depthAll];lia⟩
theorem sM{n:Nat}{ds:By}(h:∀d∈ds,Ok n d):Ok (n+1) (.tuple ds):=.tup (eS h)
theorem Rq(r:Rat):Ok 1 (Aj r):=sM (n:=0) fun d hd=>by
 rcases aO.mp hd with rfl|hd
 .exact .int
 .rw[List.mem_singleton.mp hd];exact .int
theorem ne_self{x:KB}{n:Nat}(h:Ok n x)(hn:n<=64):En true x x=some lf:=by
 refine(if_pos ⟨h.shaped hn,h.shaped hn⟩).trans ?_;rw[NF x h.1];rfl
theorem eX{x:KB}{n:Nat}(h:Ok n x)(hn:n<=64):En false x x=some KM:=by
 refine(if_pos ⟨h.shaped hn,h.shaped hn⟩).trans ?_;rw[NF x h.1];rfl
theorem jb(x y:Int):En false (.int x) (.int y)=some (.bool (decide (x=y))):=by
 have h:SeqAt.shaped (.int x)=true/\SeqAt.shaped (.int y)=true:=⟨(Ok.int (n:=0)).shaped BY,(Ok.int (n:=0)).shaped BY⟩;refine(if_pos h).trans ?_;simp[PyData.eqv];exact Bool.eq_iff_iff.mpr Ch
theorem Ko:∀ts:List Tr,L2.Bq (Tr.of ts)=ts.map fun t=>.tuple (L2.Bq t)
 |[]=>rfl
 |t::ts=>by rw[List.map_cons,<-Ko ts];rfl
abbrev tD(t:Tr):PyData:=.tuple (L2.Bq t)
def WX(r:Rat):Prop:=FM.Fits r 3/\r.den<=6
def Om(l:Addr)(g:Hp)(i:Nat)(ys:HQ)(H':Hp):Prop:=SameBut l g H'/\(∃y,H' l=some (.lst [.int y]))/\ys.length=i/\∃rs:List Rat,rs.length=i/\(∀r∈rs,WX r)/\CQ H' (Al rs) ys
theorem VI{l D:Addr}{g:Hp}{y:Int}(U:g l=some (.lst [.int y]))(T:g D=none):Om l g 0 [] (upd g D re):=⟨.of (Ak T _),⟨y,Ak T _ _ _ U⟩,rfl,[],rfl,fun _ z=>(List.not_mem_nil z).elim,.nil⟩
theorem Pk{l D p:Addr}{Z H1 T:Hp}{yb y2:Int}{i:Nat}{ys:HQ}{r:Rat}(hl:Z l=some (.lst [.int yb]))(hD:Z D=none)(d:Om l Z i ys H1)(hD1:H1 D=some Mj)(e2:AK (upd H1 l (.lst [.int y2])) T)(hp:T p=some (.tup (KH r)))(h6:r.num.natAbs<=6)(h7:r.den<=6) :
  T D=some Mj/\Om l Z SL (ys++[.ref p]) (upd T D (.lst (ys++[.ref p]))):=by
 obtain⟨e1,⟨y1,hl1⟩,hyl,rs,hrl,hrs,dr⟩:=d;have nl:l≠D:=AV hl hD;have hl2:T l=some (.lst [.int y2]):=e2 _ _ AR;have g:SameBut l H1 T:=SameBut.upd.trans (.of e2);have Y:=g _ _ nl.symm hD1;have d2:CQ T (Al (rs++[r])) (ys++[.ref p]):=by
  rw[OJ];exact(Th hl1 g dr).app (.cons (cJ hp) .nil)
 refine⟨Y,fun b o nb z=>?_,⟨y2,by rw[AJ nl];exact hl2⟩,by simp[hyl],rs++[r],by simp[hrl],fun x U=>?_,Th Y .upd d2⟩
 .rw[AJ (AV z hD)];exact g _ _ nb (e1 _ _ nb z)
 .rcases bH.mp U with U|U
  .exact hrs x U
  .rw[List.mem_singleton.mp U];exact⟨⟨aS h6 BY,Nat.lt_of_le_of_lt h7 BY⟩,h7⟩
def VZ(K:As):Sp:=fun vs H Q _=>∃(a:Addr) (ns:XV),vs=[.ref a,.int 0,.int 4]/\Aq K H a oR/\∀v H' t,AK H H'->DU H' l0 v->t.Ok 4->(∀r∈t.rs,∀q∈r,WX q)->(∀q∈t.ls,WX q)->Q v H'
section
variable{P:Io}{w:Mw}{K:As}{mg:Fa}{base:Heap}{f g1 g2:Addr}{fd gd1 gd2:IR}
theorem UW:Ag ["_law_script","_law_start","_law_most","_law_size","_law_rows","_law_k","_law_pile"] lc (AL K3):=⟨rfl,rfl,rfl,by decide +kernel,rfl,by decide +kernel,by decide +kernel⟩
theorem Sn(F:Fn K mg "_law_table" K3 lc f fd)(B9:Fn K mg "_law_cell" FZ Oo g1 gd1)(Hk:Fn K mg "_law_part" MH ["_law_pile"] g2 gd2)
 (C7:AH P w K mg base Ah 3 g1 gd1 Oo (X1 K))(Pd:AH P w K mg base Ah 3 g2 gd2 ["_law_pile"] Xp)(BP:uT):AH P w K mg base Ah 4 f fd lc (VZ K):=by
 have sc:=UW;refine F.F.ok (k:=3) sc JP (fun cdv A outer s H vs Q E g h=>?_)
 .obtain⟨a,ns,rfl,_⟩:=h
  rfl
 obtain⟨a,ns,rfl,hS,q⟩:=h;refine⟨_,(AZ (BB (i:=3) sc.nd rfl Cl (A0 Fv AX (A0 MV (Bs B9 C7 g rfl (AG uf (AG ua AU))) uu)))
 (AZ (BB (i:=4) sc.nd rfl Cl (Jt AU))
 (AZ (Hm aP rfl (Jp rfl BP (AG (pv 3) AU)) (A5 (i:=5) sc.nd rfl Cl)
  (AZ (BB (i:=6) sc.nd rfl (Or.inr rfl) (Jt (AG (Bs B9 C7 g rfl (AG uf (AG (A0 Fv (A0 Fv ua AX) (pv 5)) AU))) AU)))
  (Ai (CV (IB ag bE bF FH (pv 4) (AG (FV [".0","_law_j","_law_pile"] 1 [none,none,some 6] (Jp rfl BP (AG (pv 5) AU)) li (fun _ _ _ _ _=>(Bs Hk Pd g rfl (AG uu AU)))) AU))))))
 (AZ (BB (i:=6) sc.nd rfl (Or.inr rfl) (Jt (AG (Bs B9 C7 g rfl (AG uf (AG (A0 Fv (A0 Fv ua AX) uu) AU))) AU)))
 (Ai (BV (Ry (AG (pv 4) (AG (FV [".0","_law_j","_law_pile"] 1 [none,none,some 6] (Jp rfl BP (AG (pv 3) AU)) li (fun _ _ _ _ _=>(Bs Hk Pd g rfl (AG uu AU)))) AU))))))))),?_⟩
 refine⟨_,rfl,_,rfl,a,ns,0,rfl,hS,by decide,by decide,fun x0=>⟨_,rfl,_,_,rfl,rfl,(by decide:(4:Int)≠0),_,_,rfl,rfl,?_⟩⟩;obtain⟨size,hs1,hs4,es⟩:∃size:Nat,1<=size/\size<=4/\1+x0.fmod 4=(size:Int):=by
  have e:=Int.fmod_eq_emod_of_nonneg x0 (show(0:Int)<=4 by decide);exact⟨(1+x0.fmod 4).toNat,by lia,by lia,by lia⟩
 rw[show((fun i j:Int=>V.int (i+j)) 1 (x0.fmod 4))=V.int (size:Int) from bP V.int es];refine⟨Qw (show 0<=60 by decide),fun R hR=>?_⟩;have e1:=Ak hR re;have hR1:upd H R re R=some re:=AR;generalize upd H R re=H1 at e1 hR1;refine⟨_,rfl,(size:Int),rfl,by lia,by lia,Tz (n:=(size:Int).toNat) (fun i σ H'=>∃(r5 r6:Option V) (rs:List (List Rat)) (xs:HQ),σ=[some Mt,some (.int 0),some (.int 4),some (.int (size:Int)),some (.ref R),r5,r6]/\AK H H'/\H' R=some Os/\Ay R H' (BD rs) xs/\rs.length=i/\(∀(j:Nat) r,rs[j]? = some r->r.length=j)/\∀r∈rs,∀q∈r,WX q) ?_ ?_ ?_⟩
 .exact⟨_,_,[],[],rfl,e1,hR1,.nil,rfl,fun j r z=>by simp at z,fun _ z=>(List.not_mem_nil z).elim⟩
 .rintro i σ H2 hi ⟨r5,r6,rs,xs,rfl,e2,Y,dx,hrl,hrj,hrf⟩;refine⟨_,rfl,_,rfl,_,_,rfl,rfl,_,rfl,_,_,rfl,rfl,a,ns,_,rfl,e2.seq hS,by lia,by lia,fun cell=>⟨Qw (show 1<=60 by decide),fun l hl=>?_⟩⟩;have e3:=Ak hl (.lst [.int cell]);have T:upd H2 l (.lst [.int cell]) l=some (.lst [.int cell]):=AR;generalize upd H2 l (.lst [.int cell])=H3 at e3 T;have hxl:xs.length=i:=by rw[dx.len,B5,hrl]
  refine⟨_,rfl,.inl ⟨rfl,_,Aq.of (e3 _ _ Y)⟩,_,rfl,0+(i:Int),rfl,by lia,by lia,fun D hD=>Fp (n:=(0+(i:Int)).toNat) (Om l H3) (VI T hD) ?_ ?_⟩
  .rintro j ys H4 hj d U;refine⟨hj,Qt (n:=60) (by rw[d.2.2.1];lia) BY,fun x H' y=>?_⟩;obtain⟨rfl,rfl⟩:=y;obtain⟨y1,hl1⟩:=d.2.1;unfold HI;refine Eu ⟨_,rfl,l,y1,rfl,hl1,fun p r y2 H5 Z hp r6 r7=>?_⟩;obtain⟨k1,k2⟩:=Pk T hD d U Z hp r6 r7;exact⟨k1,EB hj k2⟩
  .rintro ys H4 ⟨e4,_,hyl,qs,hql,hqs,dq⟩ U;have E4:AK H2 H4:=fun b o z=>e4 _ _ (AV z hl) (e3 _ _ z);have hR4:=E4 _ _ Y;have nD:D≠R:=fun z=>by subst z;rw[e3 _ _ Y]at hD;cases hD
   refine⟨aI _,R,xs,_,rfl,rfl,hR4,Qt (n:=60) AS BY,?_⟩;have u:SameBut R H4 (upd H4 R (.lst (xs++[.ref D]))):=.upd;refine⟨_,_,rs++[qs],xs++[.ref D],rfl,fun b o z=>?_,AR,?_,by simp[hrl],fun j r g=>?_,fun r g=>?_⟩
   .rw[AJ (AV z hR)];exact E4 _ _ (e2 _ _ z)
   .rw[BD,List.map_append];exact .but u ((dx.same E4).app (.cons (nP hR4 nD U dq) .nil))
   .by_cases z:j<rs.length
    .rw[List.getElem?_append_left z]at g;exact hrj j r g
    .rw[List.getElem?_append_right AS]at g;have:=(aE.mp g).1;rw[List.length_singleton]at this;rw[show j-rs.length=0 by lia]at g;cases g
     lia
   .rcases bH.mp g with g|g
    .exact hrf r g
    .rw[List.mem_singleton.mp g];exact hqs
 .rintro σ H2 ⟨r5,r6,rs,xs,rfl,e2,Y,dx,hrl,hrj,hrf⟩;refine⟨_,rfl,_,rfl,_,_,rfl,rfl,_,rfl,_,_,rfl,rfl,a,ns,_,rfl,e2.seq hS,by decide,by decide,fun cell=>⟨Qw (show 1<=60 by decide),fun l hl=>?_⟩⟩;have e3:=Ak hl (.lst [.int cell]);have T:upd H2 l (.lst [.int cell]) l=some (.lst [.int cell]):=AR;generalize upd H2 l (.lst [.int cell])=H3 at e3 T;refine⟨_,rfl,_,rfl,(size:Int),rfl,by lia,by lia,fun D hD=>Fp (n:=(size:Int).toNat) (Om l H3) (VI T hD) ?_ ?_⟩
  .rintro j ys H4 hj d U;refine⟨hj,Qt (n:=60) (by rw[d.2.2.1];lia) BY,fun x H' y=>?_⟩;obtain⟨rfl,rfl⟩:=y;obtain⟨y1,hl1⟩:=d.2.1;unfold HI;refine Eu ⟨_,rfl,l,y1,rfl,hl1,fun p r y2 H5 Z hp r6 r7=>?_⟩;obtain⟨k1,k2⟩:=Pk T hD d U Z hp r6 r7;exact⟨k1,EB hj k2⟩
  .rintro ys H4 ⟨e4,_,hyl,qs,hql,hqs,dq⟩ U;have E4:AK H2 H4:=fun b o z=>e4 _ _ (AV z hl) (e3 _ _ z);refine⟨aI _,Qw (show 2<=60 by decide),fun t0 ht=>?_⟩;have Z:=Ak ht (.tup [V.ref R,V.ref D]);have h5:upd H4 t0 (.tup [V.ref R,V.ref D]) t0=some (.tup [V.ref R,V.ref D]):=AR;generalize upd H4 t0 (.tup [V.ref R,V.ref D])=H5 at Z h5;exact q _ H5 ⟨rs,qs⟩ (e2.trans (E4.trans Z)) (lX h5 (Z _ _ (E4 _ _ Y)) ((K6 dx).same (E4.trans Z)) (Z _ _ U) (dq.same Z)) ⟨by show 1<=rs.length;lia,by show rs.length<=4;lia,by show qs.length=rs.length;lia,hrj⟩ hrf hqs
end
def Tb.Sm(t:Tb):Prop:=(∀r∈t.rs,∀q∈r,WX q)/\∀q∈t.ls,WX q
instance (r:Rat):Decidable (WX r):=inferInstanceAs (Decidable ((r.num.natAbs<2^3/\r.den<2^3)/\r.den<=6))
theorem XU(t:Tb):(Ac t).canLay0=true:=by
 have f:∀r:List Rat,PyData.canLayAll0 (Al r)=true:=fun r=>by
  induction r with
  |nil=>rfl
  |cons q r T=>show PyData.canLayAll0 (Aj q::Al r)=true;simp[PyData.canLayAll0,T,Aj,PyData.canLay0]
 have g:∀rs:List (List Rat),PyData.canLayAll0 (BD rs)=true:=fun rs=>by
  induction rs with
  |nil=>rfl
  |cons r rs T=>show PyData.canLayAll0 (Bq r::BD rs)=true;simp[PyData.canLayAll0,T,Bq,PyData.canLay0,f]
 simp[Ac,PyData.canLay0,PyData.canLayAll0,f,g]
def LU(G H H':Hp):Hp:=fun b=>match H' b with
 |some (.tup xs)=>some Op
 |some o=>if H b=none then some o else G b
 |none=>none
theorem mJ{G H H':Hp}{a:Addr}{xs:HQ}(h:H' a=some Op):LU G H H' a=some Op:=by unfold LU;rw[h]
theorem nF{G H H':Hp}{a:Addr}{xs:HQ}(h:H' a=some Os)(h0:H a=none):LU G H H' a=some Os:=by unfold LU;rw[h];exact if_pos h0
theorem jl{G H H':Hp}(T:AK G H)(e:AK H H'):AK G (LU G H H')/\Nw G H (LU G H H')/\AK (LU G H H') H':=by
 refine⟨fun a o h=>?_,fun a o h=>?_,fun a o h=>?_⟩
 .have g:=T _ _ h;have U:=e _ _ g;unfold LU;rw[U];cases o with
  |tup xs=>rfl
  |_=>simp only[g];exact h
 .unfold LU at h;split at h
  .cases h;exact .inr (.inr ⟨_,rfl⟩)
  .split at h
   .rename_i z;exact .inr (.inl z)
   .exact .inl h
  .cases h
 .unfold LU at h;cases z:H' a with
  |none=>rw[z]at h;cases h
  |some u=>
   rw[z]at h;cases u with
   |tup xs=>exact h
   |_=>
    simp only at h;split at h
    .exact h
    .rw[<-z];exact e _ _ (T _ _ h)
theorem Qz{G H H':Hp}:∀ {g:db} {xs:HQ},CQ H' (Al g) xs->Au (LU G H H') (Al g) xs
 |[],xs,h=>by
  have:=h.len;have e:xs=[]:=bO (by simpa[Al]using this);rw[e];exact .nil
 |q::g,xs,h=>by
  obtain⟨x,r,rfl,Y,U⟩:=CQ.qf (d:=Aj q) (ds:=Al g) h;obtain⟨p,rfl,T⟩:=Y.rat;refine .cons ?_ (Qz U);unfold Aj;rw[Du];exact⟨p,_,rfl,mJ T,LV [q.num,(q.den:Int)]⟩
def Ao:Nat->List Tr
 |0=>[]
 |n+1=>Ao n++TH.tz n
def p6:Nat->Nat
 |0=>0|1=>1|2=>2|3=>4|4=>8|5=>17|6=>37|_=>85
theorem lH:∀n,n<=5->(Ao n).length=p6 n/\∀t∈Ao n,t.deep<=8/\t.AQ<=5/\1<=t.AQ:=by decide +kernel
abbrev Eh(ns:List Nat):List PyData:=ns.map fun(n:Nat)=>PyData.int (n:Int)
theorem Wc{p:Rat->Prop}(h0:p 0){l:db}(h:∀q∈l,p q)(i:Nat):p (l.getD i 0):=by
 rw[List.getD_eq_getElem?_getD];cases e:l[i]? with
 |none=>exact h0
 |some q=>exact h q (aK e)
theorem Vb(p q:Rat):PyData.eqv (Aj p) (Aj q)=decide (p=q):=by
 by_cases h:p=q
 .subst h;rw[decide_eq_true rfl];exact NF _ (Sw p)
 .rw[decide_eq_false h];refine au.mpr fun z=>h ?_;unfold Aj at z;simp[PyData.eqv,PyData.eqvAll]at z;exact FM.iG z.1 AS
theorem O2(p q:Rat):En true (Aj p) (Aj q)=some (.bool (!decide (p=q))):=by
 refine(if_pos ⟨(Rq p).shaped BY,(Rq q).shaped BY⟩).trans ?_;rw[Vb];rfl
theorem N9{i:Nat}{f:GM}{δ:Dv}{y:KB}{xs:By}(h:f δ=some y)(o:ow i δ=some xs)(g:xs.length<CG):ML i f δ=some (.nx (δ.set i (.own (.lst (xs++[y]))))):=by
 show(f δ).bind _=_;rw[h];show(ow i δ).bind _=_;rw[o];exact if_pos g
abbrev Mon:=List Nat
abbrev Er:=List (Mon×Int)
def Dx(x:Nat->Rat):Mon->Rat
 |[]=>1
 |i::m=>x i*Dx x m
def Bz(x:Nat->Rat):Er->Rat
 |[]=>0
 |t::p=>(t.2:Rat)*Dx x t.1+Bz x p
def Sf(a:Nat):Mon->Mon
 |[]=>[a]
 |b::m=>if a<=b then a::b::m else b::Sf a m
theorem XB(x:Nat->Rat)(a:Nat):∀m:Mon,Dx x (Sf a m)=x a*Dx x m
 |[]=>rfl
 |b::m=>by
  unfold Sf;split
  .rfl
  .show x b*Dx x (Sf a m)=x a*(x b*Dx x m);rw[XB x a m,<-Rat.mul_assoc,<-Rat.mul_assoc,Rat.mul_comm (x b)]
def mulM:Mon->Mon->Mon
 |[],n=>n
 |a::m,n=>Sf a (mulM m n)
theorem XH(x:Nat->Rat):∀m n:Mon,Dx x (mulM m n)=Dx x m*Dx x n
 |[],n=>by show Dx x n=1*Dx x n;rw[Rat.one_mul]
 |a::m,n=>by
  show Dx x (Sf a (mulM m n))=x a*Dx x m*Dx x n;rw[XB,XH x m n,Rat.mul_assoc]
def NG(m:Mon)(c:Int):Er->Er
 |[]=>if c=0 then [] else [(m,c)]
 |(n,d)::p=>if m=n then(if c+d=0 then p else(n,c+d)::p) else(n,d)::NG m c p
theorem WU:((0:Int):Rat)=0:=rfl
theorem i6(a b:Int):((a+b:Int):Rat)=(a:Rat)+(b:Rat):=Rat.intCast_add a b
theorem ja(a b:Int):((a*b:Int):Rat)=(a:Rat)*(b:Rat):=Rat.intCast_mul a b
theorem Qb(x:Nat->Rat)(m:Mon)(c:Int):∀p:Er,Bz x (NG m c p)=(c:Rat)*Dx x m+Bz x p
 |[]=>by
  unfold NG;split
  .rename_i e;subst e;show(0:Rat)=((0:Int):Rat)*_+0;rw[WU,Rat.zero_mul,Rat.add_zero]
  .rfl
 |(n,d)::p=>by
  unfold NG;split
  .rename_i e;subst e;have h:(c:Rat)*Dx x m+Bz x ((m,d)::p)=((c+d:Int):Rat)*Dx x m+Bz x p:=by
    show(c:Rat)*Dx x m+((d:Rat)*Dx x m+Bz x p)=_;rw[<-Rat.add_assoc,<-Rat.add_mul,i6]
   rw[h];split
   .rename_i e;rw[e,WU,Rat.zero_mul,Rat.zero_add]
   .rfl
  .show(d:Rat)*Dx x n+Bz x (NG m c p)=_;rw[Qb x m c p];show _=(c:Rat)*Dx x m+((d:Rat)*Dx x n+Bz x p);rw[<-Rat.add_assoc,<-Rat.add_assoc,Rat.add_comm (_*_) (_*_)]
def JE:Er->Er->Er
 |[],q=>q
 |t::p,q=>NG t.1 t.2 (JE p q)
theorem M3(x:Nat->Rat):∀p q:Er,Bz x (JE p q)=Bz x p+Bz x q
 |[],q=>by show Bz x q=0+_;rw[Rat.zero_add]
 |t::p,q=>by
  show Bz x (NG t.1 t.2 (JE p q))=(t.2:Rat)*Dx x t.1+Bz x p+Bz x q;rw[Qb,M3 x p q,Rat.add_assoc]
def TY(m:Mon)(c:Int):Er->Er
 |[]=>[]
 |t::p=>NG (mulM m t.1) (c*t.2) (TY m c p)
theorem TV(x:Nat->Rat)(m:Mon)(c:Int):∀p:Er,Bz x (TY m c p)=(c:Rat)*Dx x m*Bz x p
 |[]=>by show(0:Rat)=_*0;rw[Rat.mul_zero]
 |t::p=>by
  show Bz x (NG (mulM m t.1) (c*t.2) (TY m c p))=_;rw[Qb,TV x m c p,XH,ja];show _=(c:Rat)*Dx x m*((t.2:Rat)*Dx x t.1+Bz x p);rw[Rat.mul_add]
  congr 1
  rw[Rat.mul_assoc,Rat.mul_assoc,<-Rat.mul_assoc (t.2:Rat),Rat.mul_comm (t.2:Rat) (Dx x m),Rat.mul_assoc]
def Lo:Er->Er->Er
 |[],_=>[]
 |t::p,q=>JE (TY t.1 t.2 q) (Lo p q)
theorem So(x:Nat->Rat):∀p q:Er,Bz x (Lo p q)=Bz x p*Bz x q
 |[],q=>by show(0:Rat)=0*_;rw[Rat.zero_mul]
 |t::p,q=>by
  show Bz x (JE (TY t.1 t.2 q) (Lo p q))=((t.2:Rat)*Dx x t.1+Bz x p)*Bz x q;rw[M3,TV,So x p q,Rat.add_mul]
def Yu(p:Er):Er:=TY [] (-1) p
theorem jT(x:Nat->Rat)(p:Er):Bz x (Yu p)=- Bz x p:=by
 unfold Yu;rw[TV];show((-1:Int):Rat)*1*Bz x p=_;rw[Rat.mul_one,show((-1:Int):Rat)=-1 from rfl,Rat.neg_mul,Rat.one_mul]
def Yq:List Er->Er
 |[]=>[]
 |p::l=>JE p (Yq l)
theorem Xz(x:Nat->Rat):∀l:List Er,Bz x (Yq l)=(l.map (Bz x)).sum
 |[]=>rfl
 |p::l=>by
  show Bz x (JE p (Yq l))=_;rw[M3,Xz x l,List.map_cons,List.sum_cons]
structure Rg(α:Type) where
 add:α->α->α
 mul:α->α->α
 z:α
 o:α
def QX{α:Type}(R:Rg α)(a b:tV):α:=(List.zipWith R.mul a b).foldr R.add R.z
def K4{α:Type}(R:Rg α)(rows:List (List α)):Tr->List α->List α
 |.nil,g=>g
 |.cons b r,g=>K4 R rows r (List.zipWith R.mul g (rows.map fun row=>QX R row (K4 R rows b (List.replicate rows.length R.o))))
def O4{α:Type}(R:Rg α)(rows:List (List α))(ls:tV)(u:Tr):α:=QX R ls (K4 R rows u (List.replicate rows.length R.o))
structure KY{α β:Type}(R:Rg α)(S:Rg β)(φ:α->β):Prop where
 add:∀a b,φ (R.add a b)=S.add (φ a) (φ b)
 mul:∀a b,φ (R.mul a b)=S.mul (φ a) (φ b)
 z:φ R.z=S.z
 o:φ R.o=S.o
section
variable{α β:Type}{R:Rg α}{S:Rg β}{φ:α->β}
theorem KY.zip(h:KY R S φ):∀a b:List α,(List.zipWith R.mul a b).map φ=List.zipWith S.mul (a.map φ) (b.map φ)
 |[],_=>rfl
 |_::_,[]=>rfl
 |x::a,y::b=>by
  show φ (R.mul x y)::(List.zipWith R.mul a b).map φ=S.mul (φ x) (φ y)::List.zipWith S.mul (a.map φ) (b.map φ);rw[h.mul,KY.zip h a b]
theorem KY.fold(h:KY R S φ):∀a:List α,φ (a.foldr R.add R.z)=(a.map φ).foldr S.add S.z
 |[]=>h.z
 |x::a=>by
  show φ (R.add x (a.foldr R.add R.z))=S.add (φ x) ((a.map φ).foldr S.add S.z);rw[h.add,KY.fold h a]
theorem KY.dot(h:KY R S φ)(a b:tV):φ (QX R a b)=QX S (a.map φ) (b.map φ):=by
 unfold QX;rw[h.fold,h.zip]
theorem KY.Kd(h:KY R S φ)(rows:List (List α)):∀(t:Tr) (g:tV),(K4 R rows t g).map φ=K4 S (rows.map (List.map φ)) t (g.map φ)
 |.nil,g=>rfl
 |.cons b r,g=>by
  rw[K4,K4,KY.Kd h rows r,h.zip,List.map_map,List.map_map]
  congr 2
  refine av fun row _=>?_;show φ (QX R row _)=QX S (row.map φ) _;rw[h.dot,KY.Kd h rows b,List.map_replicate,h.o,List.length_map]
theorem KY.last(h:KY R S φ)(rows:List (List α))(ls:tV)(u:Tr):φ (O4 R rows ls u)=O4 S (rows.map (List.map φ)) (ls.map φ) u:=by
 unfold O4;rw[h.dot,h.Kd,List.map_replicate,h.o,List.length_map]
end
def rI:Rg Int:=⟨fun a b=>a+b,fun a b=>a*b,0,1⟩
def rQ:Rg Rat:=⟨fun a b=>a+b,fun a b=>a*b,0,1⟩
def rP:Rg Er:=⟨JE,Lo,[],[([],1)]⟩
theorem lz:KY rI rQ (fun n:Int=>(n:Rat)):=⟨Rat.intCast_add,Rat.intCast_mul,rfl,rfl⟩
theorem kL(x:Nat->Rat):KY rP rQ (Bz x):=⟨M3 x,So x,rfl,by show((1:Int):Rat)*1+0=1;rw[Rat.mul_one,Rat.add_zero];rfl⟩
theorem YI(rows:bd):∀(t:Tr) (g:XV),Kd rows t g=K4 rI rows t g
 |.nil,g=>rfl
 |.cons b r,g=>by
  rw[Kd,K4,YI rows r];show K4 rI rows r (Dd g _)=K4 rI rows r (Dd g _)
  congr 2
  refine av fun row _=>?_;rw[YI rows b]
  rfl
theorem mn(rows:bd)(ls:XV)(u:Tr):(FN (rows++[ls]) u).getLast?.getD 0=O4 rI (rows++[ls]) ls u:=by
 unfold FN;rw[List.map_append,List.map_singleton,List.getLast?_concat,Option.getD_some,YI]
 rfl
def Um(m:Nat):List (List Er):=(List.range m).map fun i=>(List.range i).map fun j=>[([5*i+j],1)]
def O7(m:Nat)(u:Tr):Er:=O4 rP (Um (m+1)) ((List.range m).map fun j=>[([5*m+j],1)]) u
theorem Xg(x:Nat->Rat)(b:Rat):∀m:Mon,Dx (fun n=>x n*b) m=Dx x m*b^m.length
 |[]=>by show(1:Rat)=1*b^0;rw[Rat.one_mul,Rat.pow_zero]
 |i::m=>by
  show x i*b*Dx (fun n=>x n*b) m=x i*Dx x m*b^(m.length+1);rw[Xg x b m,Rat.pow_succ];rw[Rat.mul_assoc,Rat.mul_assoc,<-Rat.mul_assoc b,Rat.mul_comm b (Dx x m),Rat.mul_assoc,Rat.mul_comm b]
theorem YA(x:Nat->Rat)(b:Rat)(k:Nat):∀p:Er,(∀t∈p,t.1.length=k)->Bz (fun n=>x n*b) p=Bz x p*b^k
 |[],_=>by show(0:Rat)=0*_;rw[Rat.zero_mul]
 |t::p,h=>by
  show(t.2:Rat)*Dx (fun n=>x n*b) t.1+Bz (fun n=>x n*b) p=((t.2:Rat)*Dx x t.1+Bz x p)*b^k;rw[Xg,YA x b k p fun u g=>h u (.tail _ g),h t M2,Rat.add_mul,Rat.mul_assoc]
def Dr(t:Tb):List (List Rat):=t.rs++[t.ls]
def xT(t:Tb)(n:Nat):Rat:=((Dr t).getD (n / 5) []).getD (n % 5) 0
theorem Vd(x:Nat->Rat)(n:Nat):Bz x [([n],1)]=x n:=by
 show((1:Int):Rat)*(x n*1)+0=x n;rw[Rat.add_zero,Rat.mul_one,show((1:Int):Rat)=1 from rfl,Rat.one_mul]
theorem ZO(t:Tb){i j:Nat}(g:j<5):xT t (5*i+j)=((Dr t).getD i []).getD j 0:=by
 unfold xT;rw[show(5*i+j) / 5=i by lia,show(5*i+j) % 5=j by lia]
theorem eh{t:Tb}{i:Nat}(h:i<t.rs.length):(Dr t).getD i []=t.rs.getD i []:=by
 unfold Dr;rw[List.getD_eq_getElem?_getD,List.getD_eq_getElem?_getD,List.getElem?_append_left h]
theorem NS(t:Tb):(Dr t)[t.rs.length]? = some t.ls:=by
 unfold Dr;rw[List.getElem?_append_right em,Nat.sub_self];rfl
theorem UR{t:Tb}{m:Nat}(h:t.Ok m){i:Nat}{row:db}(e:(Dr t)[i]? = some row):row.length=i/\i<=t.rs.length:=by
 by_cases z:i<t.rs.length
 .unfold Dr at e;rw[List.getElem?_append_left z]at e;exact⟨h.row i row e,by lia⟩
 .have g:=(aE.mp e).1;unfold Dr at g;rw[List.length_append,List.length_singleton]at g;have:i=t.rs.length:=by lia
  subst this;rw[NS]at e;cases e;exact⟨h.last,Nat.le_refl _⟩
theorem dP{t:Tb}(h:t.Ok 4)(b:Rat){i:Nat}{row:db}(e:(Dr t)[i]? = some row):((List.range i).map fun j=>[([5*i+j],(1:Int))]).map (Bz fun n=>xT t n*b)=row.map (· * b):=by
 obtain⟨g,hi⟩:=UR h e;have T:=h.most;refine List.ext_getElem? fun j=>?_;rw[List.getElem?_map,List.getElem?_map,List.getElem?_map];by_cases z:j<i
 .rw[List.getElem?_range z,List.getElem?_eq_getElem (show j<row.length by lia),Option.map_some,Option.map_some,Option.map_some,Vd];rw[ZO t AS,List.getD_eq_getElem?_getD (l:=Dr t),e,Option.getD_some,List.getD_eq_getElem?_getD,List.getElem?_eq_getElem (show j<row.length by lia)]
  rfl
 .rw[List.getElem?_eq_none (by rw[List.length_range];lia),List.getElem?_eq_none (show row.length<=j by lia)]
  rfl
theorem jF{t:Tb}(h:t.Ok 4)(b:Rat):(Um (t.rs.length+1)).map (List.map (Bz fun n=>xT t n*b))=(Dr t).map (List.map (· * b)):=by
 have g:(Dr t).length=t.rs.length+1:=by unfold Dr;rw[List.length_append];rfl
 refine List.ext_getElem? fun i=>?_;unfold Um;rw[List.getElem?_map,List.getElem?_map,List.getElem?_map];by_cases z:i<t.rs.length+1
 .have e:=aM (l:=Dr t) (i:=i) AS;rw[List.getElem?_range z,e,Option.map_some,Option.map_some,Option.map_some,dP h b e]
 .rw[List.getElem?_eq_none (by rw[List.length_range];lia),List.getElem?_eq_none (show(Dr t).length<=i by lia)]
  rfl
theorem jX(q:Rat):q*(((q.den:Nat):Int):Rat)=(q.num:Rat):=by
 have h:=FM.Hr q;have hd:(((q.den:Nat):Int):Rat)≠0:=fun e=>q.den_nz (by have:=Rat.intCast_eq_zero_iff.mp e;lia);rw[Rat.divInt_eq_div]at h;have e:=Rat.div_mul_cancel (a:=(q.num:Rat)) hd;rw[h]at e;exact e
theorem eJ{q:Rat}{B:Int}(h:(q.den:Int) ∣ B):((q.num*B.fdiv (q.den:Int):Int):Rat)=q*(B:Rat):=by
 obtain⟨c,rfl⟩:=h;have hd:(q.den:Int)≠0:=by have:=q.den_nz;lia
 rw[Int.mul_fdiv_cancel_left _ hd,Rat.intCast_mul,Rat.intCast_mul,<-Rat.mul_assoc,jX]
theorem Oq{r:db}{B:Int}(h:∀q∈r,(q.den:Int) ∣ B):(Gh r B).map (fun n:Int=>(n:Rat))=r.map (· * (B:Rat)):=by
 unfold Gh;rw[List.map_map];exact av fun q g=>eJ (h q g)
theorem XT{t:Tb}{n:Nat}(h:t.Fits n){m:Nat}(o:t.Ok m):1<=Fc t/\(Fc t).natAbs<2^(1+n*(m+m*m))/\∀r∈Dr t,∀q∈r,(q.den:Int) ∣ Fc t:=by
 obtain⟨h1,Z,Y⟩:=XS (UK h t.rs.length);have U:=L8 o t.rs.length em;have hm:=o.most;refine⟨h1,Nat.lt_of_lt_of_le Z (bg BY ?_),fun r g q T=>Y _ ?_⟩
 .have:t.rs.length+t.rs.length*t.rs.length<=m+m*m:=Nat.add_le_add hm (Nat.mul_le_mul hm hm);have:=aw n (aQ U this)
  lia
 .unfold JC;rw[List.take_length];rcases bH.mp g with g|g
  .exact aa _ (List.mem_flatten.mpr ⟨GA r,List.mem_map.mpr ⟨r,g,rfl⟩,List.mem_map.mpr ⟨q,T,rfl⟩⟩)
  .rw[List.mem_singleton.mp g]at T;exact bf _ (aU.mpr ⟨q,T,rfl⟩)
theorem jt:([1,2,3,4].all fun m=>(Ao 5).all fun u=>(O7 m u).all fun t=>decide (t.1.length=u.AQ))=true:=by decide +kernel
theorem ly{m:Nat}(Y:1<=m)(U:m<=4){u:Tr}(g:u∈Ao 5):∀t∈O7 m u,t.1.length=u.AQ:=by
 have hm:m∈[1,2,3,4]:=by
  match m,Y,U with
  |1,_,_=>exact .head _
  |2,_,_=>exact .tail _ M2
  |3,_,_=>exact .tail _ (.tail _ M2)
  |4,_,_=>exact .tail _ (.tail _ (.tail _ M2))
 exact fun t T=>az (ao.mp (ao.mp (ao.mp jt m hm) u g) t T)
theorem gq{t:Tb}(h:t.Ok 4){n:Nat}(Y:t.Fits n){u:Tr}(T:u∈Ao 5):EH t u=Bz (xT t) (O7 t.rs.length u):=by
 obtain⟨b1,_,b3⟩:=XT Y h;have Z:=ly h.one h.most T;unfold EH F8;generalize Fc t=B at b1 b3;rw[List.map_append,List.map_singleton,mn];have z:((O4 rI (t.rs.map (fun r=>Gh r B)++[Gh t.ls B]) (Gh t.ls B) u:Int):Rat)=Bz (xT t) (O7 t.rs.length u)*(B:Rat)^u.AQ:=by
  rw[<-YA (xT t) (B:Rat) u.AQ _ Z];refine(lz.last _ _ u).trans ?_;refine Eq.trans ?_ ((kL (fun n=>xT t n*(B:Rat))).last (Um (t.rs.length+1)) ((List.range t.rs.length).map fun j=>[([5*t.rs.length+j],1)]) u).symm;rw[jF h,dP h (B:Rat) (NS t),Oq fun q g=>b3 t.ls (aa _ (List.mem_singleton.mpr rfl)) q g]
  congr 1
  unfold Dr;rw[List.map_append,List.map_append,List.map_map]
  congr 1
  .exact av fun r U=>Oq fun q g=>b3 r (bf _ U) q g
  .exact bP (fun x=>[x]) (Oq fun q g=>b3 t.ls (aa _ (List.mem_singleton.mpr rfl)) q g)
 have hB:((B^u.AQ:Int):Rat)≠0:=fun e=>Int.pow_ne_zero (by lia:B≠0) (Rat.intCast_eq_zero_iff.mp e);rw[Rat.divInt_eq_div,z,<-Rat.intCast_pow];exact Rat.mul_div_cancel hB
def fh:Option Tr->PyData
 |none=>.none
 |some t=>tD t
def Rr:List Tr->List Rat->List Rat->Option Tr
 |t::ts,w::g,v::vs=>if w=v then Rr ts g vs else some t
 |_,_,_=>none
abbrev Mu:DF:=Fm (B8 (En true) (nm 4) (nm 5)) (Bn (nm 3)) Ck
abbrev X0(ts:iF)(g vs:db)(δ:Dv):Option Ou:=Ex (U9 3 4 5) Mu (Lp (ts.map tD) (g.map Aj) (vs.map Aj)) δ
theorem VL{t:Tr}{ts:iF}{w v:Rat}{T vs:db}(a b c d e f:L)(h:w=v):X0 (t::ts) (w::T) (v::vs) [a,b,c,d,e,f]=X0 ts T vs [a,b,c,.d (tD t),.d (Aj w),.d (Aj v)]:=by
 have U:Mu [a,b,c,.d (tD t),.d (Aj w),.d (Aj v)]=some (.nx [a,b,c,.d (tD t),.d (Aj w),.d (Aj v)]):=Ek (Bv (x:=Aj w) (y:=Aj v) rfl rfl ((O2 w v).trans (by rw[decide_eq_true h];rfl))) rfl;show uJ=_;rw[U];rfl
theorem Zv{t:Tr}{ts:iF}{w v:Rat}{T vs:db}(a b c d e f:L)(h:w≠v):X0 (t::ts) (w::T) (v::vs) [a,b,c,d,e,f]=some (.rt (tD t)):=by
 have U:Mu [a,b,c,.d (tD t),.d (Aj w),.d (Aj v)]=some (.rt (tD t)):=L4 (Bv (x:=Aj w) (y:=Aj v) rfl rfl ((O2 w v).trans (by rw[decide_eq_false h];rfl))) rfl;show uJ=_;rw[U]
theorem Xo:∀ {ts:iF} {g vs:db} {t:Tr} (a b c d e f:L),Rr ts g vs=some t->X0 ts g vs [a,b,c,d,e,f]=some (.rt (tD t))
 |[],_,_,_,_,_,_,_,_,_,h=>by cases h
 |_::_,[],[],_,_,_,_,_,_,_,h=>by cases h
 |_::_,[],_::_,_,_,_,_,_,_,_,h=>by cases h
 |_::_,_::_,[],_,_,_,_,_,_,_,h=>by cases h
 |s::ts,w::g,v::vs,t,a,b,c,d,e,f,h=>by
  unfold Rr at h;split at h
  .rename_i z;rw[VL a b c d e f z];exact Xo a b c _ _ _ h
  .rename_i z;cases h;exact Zv a b c d e f z
theorem Xd:∀ {ts:iF} {g vs:db} (a b c d e f:L),Rr ts g vs=none->∃δ',X0 ts g vs [a,b,c,d,e,f]=some (.nx δ')
 |[],_,_,_,_,_,_,_,_,_=>⟨_,rfl⟩
 |_::_,[],[],_,_,_,_,_,_,_=>⟨_,rfl⟩
 |_::_,[],_::_,_,_,_,_,_,_,_=>⟨_,rfl⟩
 |_::_,_::_,[],_,_,_,_,_,_,_=>⟨_,rfl⟩
 |s::ts,w::g,v::vs,a,b,c,d,e,f,h=>by
  unfold Rr at h;split at h
  .rename_i z;rw[VL a b c d e f z];exact Xd a b c _ _ _ h
  .cases h
abbrev Jr(g:db):PyData:=.list (g.map Aj)
abbrev EC(ts:iF):PyData:=.list (L2.Bq (Tr.of ts))
theorem first_is(ts:iF)(g vs:db):Bg [EC ts,Jr g,Jr vs]=some (fh (Rr ts g vs)):=by
 refine E9 rfl ?_;unfold Mm;have Y:Cy Sb (AA Ni (AA On ug)) [.d (EC ts),.d (Jr g),.d (Jr vs),.no,.no,.no]=some (Lp (ts.map tD) (g.map Aj) (vs.map Aj)):=by
  show some (Lp (L2.Bq (Tr.of ts)) (g.map Aj) (vs.map Aj))=_;rw[Ko]
 have T:C4 (Cy Sb (AA Ni (AA On ug))) (U9 3 4 5) Mu [.d (EC ts),.d (Jr g),.d (Jr vs),.no,.no,.no]=X0 ts g vs [.d (EC ts),.d (Jr g),.d (Jr vs),.no,.no,.no]:=by
  show(Cy Sb _ _).bind _=_;rw[Y];rfl
 cases h:Rr ts g vs with
 |some t=>exact Ku (T.trans (Xo _ _ _ _ _ _ h))
 |none=>
  obtain⟨U,k⟩:=Xd (.d (EC ts)) (.d (Jr g)) (.d (Jr vs)) .no .no .no h;exact Aa (T.trans k) rfl
theorem Zt{α:Type}{i:Nat}{f:GM}{fs:Go}{δ:Dv}{fr:LE}{zs:tV}{a g:α->PyData}(Y:fs δ=some (zs.map a))(Z:zs.length<=CG)
 (h:∀z∈zs,f ((DD fr δ).set i (.d (a z)))=some (g z)):Gb (Ey i) GB f fr fs δ=some (zs.map g):=by
 unfold Gb;rw[Y,Option.bind_some];have:∀zs:List α,(∀z∈zs,f ((DD fr δ).set i (.d (a z)))=some (g z))->L2.collect (J9 (Ey i) GB f (DD fr δ)) (zs.map a)=some (zs.map g):=fun zs=>by
  induction zs with
  |nil=>intro _;rfl
  |cons z zs T=>
   intro h;rw[List.map_cons,List.map_cons];unfold L2.collect;rw[T fun y U=>h y (.tail _ U)];have e:J9 (Ey i) GB f (DD fr δ) (a z)=some (some (g z)):=by
    unfold J9 Ey;rw[Option.bind_some];show(some true).bind _=_;rw[Option.bind_some,if_pos rfl,h z M2]
    rfl
   rw[e];rfl
 rw[this zs h,Option.bind_some,JO,if_pos (by rw[List.length_map];exact Z)]
theorem UC{set:TD}{F:DF}(U:Dv->Prop)(g:PyData->Option PyData):∀(xs:By) (δ:Dv),U δ->(∀x∈xs,∀δ,U δ->∃T,set x δ=some T/\((∃r,g x=some r/\F T=some (.rt r))\/(g x=none/\∃δ2,F T=some (.nx δ2)/\U δ2))) ->
  (∃r,xs.findSome? g=some r/\Ex set F xs δ=some (.rt r))\/(xs.findSome? g=none/\∃δ',Ex set F xs δ=some (.nx δ')/\U δ')
 |[],δ,h,_=>.inr ⟨rfl,δ,rfl,h⟩
 |x::xs,δ,h,k=>by
  obtain⟨T,h1,h2⟩:=k x M2 δ h;rcases h2 with ⟨r,Z,Y⟩|⟨Z,δ2,Y,h5⟩
  .refine .inl ⟨r,by rw[List.findSome?_cons,Z],?_⟩;unfold Ex;rw[h1,Option.bind_some,Y]
  .have e:(x::xs).findSome? g=xs.findSome? g:=by rw[List.findSome?_cons,Z]
   have e2:Ex set F (x::xs) δ=Ex set F xs δ2:=by
    rw[Ex,h1,Option.bind_some,Y]
   rw[e,e2];exact UC U g xs δ2 h5 fun y hy=>k y (.tail _ hy)
theorem cU{set:TD}{F F2:DF}{fs:Go}{δ:Dv}{xs:By}{z:KB}(U:Dv->Prop)(g:PyData->Option PyData)(hx:fs δ=some xs)(h0:U δ)(hs:∀x∈xs,∀δ,U δ->∃T,set x δ=some T/\((∃r,g x=some r/\F T=some (.rt r))\/(g x=none/\∃δ2,F T=some (.nx δ2)/\U δ2)))
 (k:∀δ',U δ'->F2 δ'=some (.rt z)):Af (C4 fs set F) F2 δ=some (.rt ((xs.findSome? g).getD z)):=by
 have e:C4 fs set F δ=Ex set F xs δ:=by show(fs δ).bind _=_;rw[hx];rfl
 rcases UC (F:=F) U g xs δ h0 hs with ⟨r,Z,Y⟩|⟨Z,δ',Y,h3⟩
 .rw[Z];exact Ku (e.trans Y)
 .rw[Z];exact Aa (e.trans Y) (k δ' h3)
theorem Mi:∀t:Tr,Em (L2.Bq t)=some t
 |.nil=>by rw[L2.Bq,Em]
 |.cons b r=>by rw[L2.Bq,Em,HY,Mi b,Mi r];rfl
def Je:PyData->List Rat
 |.list xs=>xs.map Lj
 |_=>[]
theorem Rp(r:db):Je (.list (Al r))=r:=by
 unfold Je Al;show List.map Lj (r.map Aj)=r;rw[List.map_map];exact List.map_id'' (fun q=>LB q) r
def tabOf:PyData->Tb
 |.tuple [.list rs,d]=>⟨rs.map Je,Je d⟩
 |_=>⟨[],[]⟩
theorem QL(t:Tb):tabOf l0=t:=by
 unfold Ac tabOf;have e:(BD t.rs).map Je=t.rs:=by
  unfold BD;rw[List.map_map];exact List.map_id'' (fun r=>Rp r) t.rs
 show Tb.mk ((BD t.rs).map Je) (Je (.list (Al t.ls)))=t;rw[e,Rp]
theorem ZW:((Ao 6).all fun t=>(Ao 6).all fun u=>decide (TH.Bx (some u)≠TH.Bx (some t))||decide (u=t))=true:=by decide +kernel
theorem f7:∀u∈Ao 6,u.ei=true/\u.deep<8/\u.AQ<=6/\∀b∈u.bs,b∈Ao 6:=by decide +kernel
theorem qe:Y7 (Ao 6) 1000:=⟨by decide +kernel,fun a ha b hb e=>by
 have:=ao.mp (ao.mp ZW b hb) a ha;rw[Bool.or_eq_true]at this;rcases this with h|h
 .exact absurd e (az h)
 .exact az h,fun t g=>(f7 t g).2.2.2,fun t g=>(f7 t g).2.1,fun t g=>by have:=(f7 t g).2.2.1;lia⟩
def Tb.Wu(t:Tb):Prop:=∃m n k:Nat,t.Ok m/\m<=40/\t.Fits n/\n*(m+m*m)<=4000/\LS (F8 t) 1000/\(Fc t).natAbs<2^k/\n+k<=4000/\1<=Fc t/\k*6<=4000
theorem dQ{t:Tb}{m n k:Nat}(o:t.Ok m)(hm:m<=40)(h:t.Fits n)(b1:1<=Fc t)(b2:(Fc t).natAbs<2^k)(b3:∀r∈Dr t,∀q∈r,(q.den:Int) ∣ Fc t)(Z:n+k+6<=1000):LS (F8 t) 1000:=by
 have h4:=o.most;have hl:(F8 t).length=t.rs.length+1:=by unfold F8;rw[List.length_map,List.length_append];rfl
 have one:∀row∈F8 t,row.length<=40/\row.length<=t.rs.length:=fun row g=>by
  unfold F8 at g;obtain⟨r,T,rfl⟩:=aU.mp g;have e:(Gh r (Fc t)).length=r.length:=bV _;rw[e];obtain⟨i,hi⟩:=bS T;have:=UR o (show(Dr t)[i]? = some r from hi)
  lia
 refine⟨by lia,fun row g=>by have:=one row g;lia,2^(n+k),fun row g x hx=>?_,Nat.pow_le_pow_right BY AS,fun row g=>aQ (Nat.mul_le_mul_right _ (aQ (one row g).1 (show 40<=2^6 by decide))) ?_⟩
 .unfold F8 at g;obtain⟨r,T,rfl⟩:=aU.mp g;unfold Gh at hx;obtain⟨q,U,rfl⟩:=aU.mp hx;have f:FM.Fits q n:=by
   rcases bH.mp T with g|g
   .exact h.1 r g q U
   .rw[List.mem_singleton.mp g]at U;exact h.2 q U
  obtain⟨c,Z⟩:=b3 r T q U;have hd:(q.den:Int)≠0:=by have:=q.den_nz;lia
  have e:(Fc t).fdiv (q.den:Int)=c:=by rw[Z,Int.mul_fdiv_cancel_left _ hd]
  have Y:c.natAbs<=(Fc t).natAbs:=by
   rw[Z,Int.natAbs_mul];exact Nat.le_mul_of_pos_left _ (by have:=q.den_nz;lia)
  rw[e,Int.natAbs_mul,Nat.pow_add];exact Nat.mul_le_mul (bD f.1) (aQ Y (bD b2))
 .rw[<-Nat.pow_add];exact bg BY AS
theorem qJ{t:Tb}{m n:Nat}(o:t.Ok m)(hm:m<=40)(h:t.Fits n)(hb:n*(m+m*m)<=600)(hn:n<=300):t.Wu:=by
 obtain⟨b1,b2,b3⟩:=XT h o;exact⟨m,n,1+n*(m+m*m),o,hm,h,by lia,dQ o hm h b1 b2 b3 AS,b2,by lia,b1,by lia⟩
open Classical in
noncomputable def P4(ds:By):Option PyData:=match ds with
 |[x,.list ys]=>if x=Ac (tabOf x)/\(tabOf x).Wu/\ys=L2.Bq ((Em ys).getD .nil)/\(∀u∈((Em ys).getD .nil).bs,u∈Ao 6)/\ys.length<=1000 then some (Jr (((Em ys).getD .nil).bs.map (EH (tabOf x)))) else none
 |_=>none
theorem cX{t:Tb}(h:t.Wu){ts:iF}(T:∀u∈ts,u∈Ao 6)(U:ts.length<=1000):P4 [Ac t,EC ts]=some (Jr (ts.map (EH t))):=by
 unfold P4;have e:(Em (L2.Bq (Tr.of ts))).getD .nil=Tr.of ts:=by rw[Mi];rfl
 refine(if_pos ⟨by rw[QL],by rw[QL];exact h,by rw[e],fun u g=>T u (by rw[e,Tr.O9]at g;exact g),by rw[Ko,List.length_map];exact U⟩).trans ?_;rw[QL,e,Tr.O9]
theorem rX{P:Io}{w:Mw}{K:As}{mg:Fa}{base:Heap}{f:Addr}{fd:IR}{k:Nat}{ps:MA}(F:AH P w K mg base Ah k f fd ps (lK (Ao 6) 1000)):AH P w K mg base Ah k f fd ps (Bc P4) :=
 Kr F fun ds x hm G H vs Q E d e Z=>by
  unfold P4 at hm;split at hm
  .rename_i tx ys;split at hm
   .rename_i hc;obtain⟨c1,⟨m,n,kb,w1,w2,w3,w4,w5,w6,w7,w8,w9⟩,c3,c4,c5⟩:=hc;cases hm;generalize tabOf tx=t at c1 w1 w3 w5 w6 w8 Z;subst c1;generalize (Em ys).getD .nil=T at c3 c4 Z;subst c3;obtain⟨v1,v2,rfl,d1,d2⟩:=d.Nm;rw[Du]at d2;obtain⟨L,U,rfl,hL,Y⟩:=d2;have ts:=(LD Y).same e;have g:U.length=T.bs.length:=ts.len;have hll:T.bs.length<=1000:=by
     rw[<-g,Y.len];exact c5
    refine⟨v1,t,L,U,T.bs,m,n,kb,rfl,RY (XU t) (d1.same e),w1,w2,w3,w4,w5,w6,w7,w8,e _ _ hL,g,hll,fun i x hx=>?_,fun D H' zs e' hD hD' dz=>?_⟩
    .obtain⟨u,hu,tu⟩:=ts.get hx;have hm:=c4 u (aK hu);have h6:=(f7 u hm).2.2.1;exact⟨u,hu,tu,hm,by lia,Nat.le_trans (aw _ h6) w9⟩
    .obtain⟨n1,n2,n3⟩:=jl e e';refine Z (.ref D) _ H' n1 n2 n3 e' ?_;rw[Du];exact⟨D,zs,rfl,nF hD' hD,Qz dz⟩
   .cases hm
  .cases hm
abbrev rF:List PyData->Option PyData:=BF A2 9
abbrev T8:List PyData->Option PyData:=BJ rF
theorem Kx:(List.range 6).map (fun k=>T8 [.int ((k+1:Nat):Int)])=(List.range 6).map fun k=>some (EC (TH.tz k)):=by kernel_rfl
theorem of_is{k:Nat}(h:k<6):T8 [.int ((k+1:Nat):Int)]=some (EC (TH.tz k)):=List.map_inj_left.mp Kx k (ar.mpr h)
def lF:Tr->Nat
 |.nil=>1
 |.cons b r=>b.AQ*lF b*lF r
def Te(u:Tr):Nat:=u.AQ*lF u
abbrev NR:List PyData->Option PyData:=Ad (A7 9) 9
theorem eo:(Ao 6).map (fun u=>NR [tD u])=(Ao 6).map fun u=>some (.int ((Te u:Nat):Int)):=by kernel_rfl
theorem S8{u:Tr}(h:u∈Ao 6):NR [tD u]=some (.int ((Te u:Nat):Int)):=List.map_inj_left.mp eo u h
def HV(u:Tr):Rat:=Rat.divInt 1 (Te u:Nat)
theorem iC:(Ao 6).map (fun u=>Aj (HV u))=(Ao 6).map fun u=>PyData.tuple [.int 1,.int ((Te u:Nat):Int)]:=by kernel_rfl
theorem YY{u:Tr}(h:u∈Ao 6):Aj (HV u)=.tuple [.int 1,.int ((Te u:Nat):Int)]:=List.map_inj_left.mp iC u h
abbrev RN:List PyData->Option PyData:=CZ NR
theorem iR{ts:iF}(U:∀u∈ts,u∈Ao 6)(Y:ts.length<=1000):RN [EC ts]=some (Jr (ts.map HV)):=by
 refine S5 rfl ?_;unfold Mk;have e:Gb (Ey 1) GB (Az (AA Fk (AA (AW NR uv) AF))) [none,none] (GC Ni) [.d (EC ts)]=some (ts.map fun u=>Aj (HV u)):=by
  refine Zt (zs:=ts) (a:=tD) (g:=fun u=>Aj (HV u)) ?_ (aQ Y (by unfold CG;lia)) fun u T=>?_
  .show some (L2.Bq (Tr.of ts))=_;rw[Ko]
  .rw[YY (U u T)];exact Ks (xs:=[.int 1,.int ((Te u:Nat):Int)]) (AY rfl (AY (Am (xs:=[tD u]) rfl (S8 (U u T))) rfl)) (by show(2:Nat)<=CG;decide)
 have:ZR (Gb (Ey 1) GB (Az (AA Fk (AA (AW NR uv) AF))) [none,none] (GC Ni)) [.d (EC ts)]=some (.rn (ts.map fun u=>Aj (HV u))):=by
  show(Gb _ _ _ _ _ _).map _=_;rw[e];rfl
 rw[show(ts.map HV).map Aj=ts.map fun u=>Aj (HV u) by rw[List.map_map];rfl];exact this
def Ew(t:Tb)(u:Tr):Bool:=!decide (EH t u=HV u)
theorem Wb(f g:Tr->Rat):∀ts:List Tr,Rr ts (ts.map f) (ts.map g)=ts.find? fun u=>!decide (f u=g u)
 |[]=>rfl
 |u::ts=>by
  show(if f u=g u then Rr ts (ts.map f) (ts.map g) else some u)=_;rw[List.find?_cons,Wb f g ts];by_cases h:f u=g u
  .rw[if_pos h,decide_eq_true h];rfl
  .rw[if_neg h,decide_eq_false h];rfl
def We(u:Tr):PyData:=.tuple [.int ((u.AQ-1:Nat):Int),tD u]
def ZN(t:Tb):PyData:=(((Ao 6).find? (Ew t)).map We).getD (.tuple [.int 6,.none])
def KG(t:Tb)(k:Nat):Option PyData:=((TH.tz k).find? (Ew t)).map fun u=>.tuple [.int (k:Nat),tD u]
theorem Ze:∀k,k<6->(TH.tz k).length<=100/\∀u∈TH.tz k,u∈Ao 6/\u.AQ=k+1:=by decide +kernel
theorem hJ{k:Nat}(hk:k<6)(t:Tb):KG t k=((TH.tz k).find? (Ew t)).map We:=by
 unfold KG;cases h:(TH.tz k).find? (Ew t) with
 |none=>rfl
 |some u=>
  have g:=List.mem_of_find?_eq_some h;have:=((Ze k hk).2 u g).2;show some (PyData.tuple [.int (k:Nat),tD u])=some (We u);unfold We;rw[show u.AQ-1=k by lia]
theorem VA(t:Tb):∀n,n<=6->(List.range n).findSome? (KG t)=((Ao n).find? (Ew t)).map We
 |0,_=>rfl
 |n+1,h=>by
  rw[List.range_succ,List.findSome?_append,VA t n AS,Ao,List.find?_append];rw[show([n]:List Nat).findSome? (KG t)=KG t n by rw[List.findSome?_cons];cases KG t n<;>rfl,hJ AS];cases (Ao n).find? (Ew t)<;>rfl
abbrev sN(g:AC):DF:=(Af (C4 (Cy IK (AA tT AF)) (Es 1)
  (Af (Bh 2 (AW T8 (AA (AO A6 On Fk) AF)))
  (Af (Bh 3 (AW Bg (AA N6 (AA (AW g (AA Ni ug)) (AA (AW RN ug) AF)))))
  (Fm (B8 (PU true) (nm 3) uB)
   (Bn (Az (AA On Tm)))
   Ck))))
 (Bn (Az (AA tT (AA uB AF)))))
theorem di{t:Tb}(h:t.Wu):sN P4 [.d l0,.no,.no,.no]=some (.rt (ZN t)):=by
 have e:=cU (F2:=Bn (Az (AA tT (AA uB AF)))) (set:=Es 1) (F:=(Af (Bh 2 (AW T8 (AA (AO A6 On Fk) AF)))
  (Af (Bh 3 (AW Bg (AA N6 (AA (AW P4 (AA Ni ug)) (AA (AW RN ug) AF)))))
  (Fm (B8 (PU true) (nm 3) uB)
   (Bn (Az (AA On Tm)))
   Ck)))) (fs:=Cy IK (AA tT AF)) (δ:=[.d l0,.no,.no,.no]) (xs:=Jb 0 6) (z:=.tuple [.int 6,.none]) (fun δ=>∃Y U g:L,δ=[.d l0,Y,U,g]) (fun x=>match x with|.int i=>KG t i.toNat|_=>none) rfl ⟨_,_,_,rfl⟩ ?_ ?_
 .refine e.trans ?_;have e2:(Jb 0 6).findSome? (fun x=>match x with|.int i=>KG t i.toNat|_=>none)=(List.range 6).findSome? (KG t):=rfl;rw[e2,VA t 6 em]
  rfl
 .rintro x hx δ ⟨Y,U,g,rfl⟩;obtain⟨i,hi⟩:=bS hx;obtain⟨rfl,T⟩:=SU hi;rw[Int.zero_add];obtain⟨tl,ts⟩:=Ze i T;refine⟨_,rfl,?_⟩;have b1:AW T8 (AA (AO A6 On Fk) AF) [.d l0,.d (.int (i:Nat)),U,g]=some (EC (TH.tz i)):=Am (xs:=[.int ((i+1:Nat):Int)]) rfl (of_is T);have b2:AW Bg (AA N6 (AA (AW P4 (AA Ni ug)) (AA (AW RN ug) AF))) [.d l0,.d (.int (i:Nat)),.d (EC (TH.tz i)),g]=some (fh ((TH.tz i).find? (Ew t))):=by
   refine Am (xs:=[EC (TH.tz i),Jr ((TH.tz i).map (EH t)),Jr ((TH.tz i).map HV)]) (AY rfl (AY (Am (xs:=[Ac t,EC (TH.tz i)]) rfl (cX h (fun u Z=>(ts u Z).1) AS)) (AY (Am (xs:=[EC (TH.tz i)]) rfl (iR (fun u Z=>(ts u Z).1) AS)) rfl))) ?_;rw[first_is,Wb]
   rfl
  show(∃r,KG t i=some r/\_)\/(KG t i=none/\_);unfold KG;cases hf:(TH.tz i).find? (Ew t) with
  |some u=>
   rw[hf]at b2;refine .inl ⟨_,rfl,Aa (Bl b1) (Aa (Bl b2) (L4 ?_ rfl))⟩
   rfl
  |none=>
   rw[hf]at b2;refine .inr ⟨rfl,_,Aa (Bl b1) (Aa (Bl b2) (Ek ?_ rfl)),_,_,_,rfl⟩
   rfl
 .rintro δ ⟨Y,U,g,rfl⟩
  rfl
def Hg(t:Tb)(k:Nat):List Rat:=t.rs.getD k []
theorem fB{t:Tb}(o:t.Ok 4)(k:Nat):(Hg t k).length<=3/\(k<t.rs.length->(Hg t k).length=k):=by
 unfold Hg;rw[List.getD_eq_getElem?_getD];cases h:t.rs[k]? with
 |none=>
  refine⟨by decide,fun z=>?_⟩;rw[List.getElem?_eq_none_iff]at h
  lia
 |some r=>
  have g:=o.row k r h;have U:=(aE.mp h).1;have T:=o.most;show r.length<=3/\(k<t.rs.length->r.length=k);exact⟨by lia,fun _=>g⟩
def L9{α:Type}(mul:α->α->α)(row:Nat->Nat->α)(g:List (List Nat×α))(p:Nat):List (List Nat×α):=g.flatMap fun w=>(List.range (w.1.getD p 0)).map fun k=>(w.1++[k],mul w.2 (row (w.1.getD p 0) k))
def Kn{α:Type}(mul:α->α->α)(row:Nat->Nat->α)(ls:Nat->α)(m:Nat)(ps:List Nat):List (List Nat×α):=ps.foldl (L9 mul row) ((List.range m).map fun k=>([k],ls k))
def fG:Tr->List Nat->List Nat
 |.nil,g=>g
 |.cons b r,g=>fG r (g++[0]++(fG b []).map (g.length+1 + ·))
def DZ(u:Tr):List Nat:=fG u []
theorem jm:(Ao 5).map (fun u=>BC 9 [tD u])=(Ao 5).map fun u=>some (PyData.list (Eh (DZ u))):=by kernel_rfl
def Ul(m:Nat)(ps:List Nat):List (List Nat×Er):=Kn Lo (fun r k=>[([5*r+k],1)]) (fun k=>[([5*m+k],1)]) m ps
def Yx(p q:Er):Bool:=(JE (Yu q) p).isEmpty
theorem fJ{p q:Er}(h:Yx p q=true)(x:Nat->Rat):Bz x p=Bz x q:=by
 have e:=M3 x (Yu q) p;unfold Yx at h;rw[List.isEmpty_iff.mp h,jT]at e;have e:(0:Rat)=-Bz x q+Bz x p:=e
 grind
theorem fN:([1,2,3,4].all fun m=>(Ao 5).all fun u=>Yx (Yq ((Ul m (DZ u)).map (·.2))) (O7 m u))=true:=by decide +kernel
theorem iz:([1,2,3,4].all fun m=>(Ao 5).all fun u=>(List.range 6).all fun i=>decide ((Ul m ((DZ u).take i)).length<=100))=true:=by decide +kernel
theorem jh:∀u∈Ao 5,(DZ u).length+1=u.AQ/\∀i,i<5->∀p,(DZ u)[i]? = some p->p<=i:=by decide +kernel
def Ej(t:Tb)(ps:List Nat):List (List Nat×Rat):=Kn (· * ·) (fun r k=>(Hg t r).getD k 0) (fun k=>t.ls.getD k 0) t.rs.length ps
def Lk(m:Nat){α:Type}(g:List (List Nat×α)):Prop:=∀w∈g,∀e∈w.1,e<m
theorem ZU{α:Type}(mul:α->α->α)(row:Nat->Nat->α)(ls:Nat->α)(m:Nat)(ps:List Nat)(p:Nat):Kn mul row ls m (ps++[p])=L9 mul row (Kn mul row ls m ps) p:=by
 unfold Kn;rw[List.foldl_append];rfl
theorem gm{α:Type}{mul:α->α->α}{row:Nat->Nat->α}{m:Nat}{T:List (List Nat×α)}(h:Lk m T)(p:Nat):Lk m (L9 mul row T p):=fun w U e Z=>by
 unfold L9 at U;obtain⟨v,Y,g⟩:=List.mem_flatMap.mp U;obtain⟨k,hk,rfl⟩:=aU.mp g;rcases bH.mp Z with z|z
 .exact h v Y e z
 .rw[List.mem_singleton.mp z];have hk:=ar.mp hk;rw[List.getD_eq_getElem?_getD]at hk;cases q:v.1[p]? with
  |none=>rw[q]at hk;exact absurd hk (ai _)
  |some r=>
   rw[q]at hk;have:=h v Y r (aK q);exact bj hk this
theorem ig{α:Type}(mul:α->α->α)(row:Nat->Nat->α)(ls:Nat->α)(m:Nat):∀ps:List Nat,Lk m (Kn mul row ls m ps):=by
 have go:∀(ps:List Nat) (g:List (List Nat×α)),Lk m g->Lk m (ps.foldl (L9 mul row) g):=fun ps=>by
  induction ps with
  |nil=>intro g h;exact h
  |cons p ps T=>intro g h;exact T _ (gm h p)
 intro ps;refine go ps _ fun w U e Y=>?_;obtain⟨k,hk,rfl⟩:=aU.mp U;rw[List.mem_singleton.mp Y];exact ar.mp hk
theorem VY{α β:Type}{f g:α->List β}:∀ {l:tV},(∀a∈l,f a=g a)->l.flatMap f=l.flatMap g
 |[],_=>rfl
 |a::l,h=>by rw[List.flatMap_cons,List.flatMap_cons,h a M2,VY fun b hb=>h b (.tail _ hb)]
theorem WA{t:Tb}(o:t.Ok 4):∀ps:List Nat,(Ul t.rs.length ps).map (fun w=>(w.1,Bz (xT t) w.2))=Ej t ps:=by
 have h4:=o.most;have st:∀(g:List (List Nat×Er)) (p:Nat),Lk t.rs.length g->(L9 Lo (fun r k=>[([5*r+k],1)]) g p).map (fun w=>(w.1,Bz (xT t) w.2))=L9 (· * ·) (fun r k=>(Hg t r).getD k 0) (g.map fun w=>(w.1,Bz (xT t) w.2)) p:=fun g p T=>by
  unfold L9;rw[List.map_flatMap,List.flatMap_map];refine VY fun w hm=>?_;rw[List.map_map];refine av fun k hk=>?_;have hk:=ar.mp hk;show(w.1++[k],Bz (xT t) (Lo w.2 [([5*w.1.getD p 0+k],1)]))=(w.1++[k],Bz (xT t) w.2*(Hg t (w.1.getD p 0)).getD k 0);have Y:w.1.getD p 0<t.rs.length:=by
   rw[List.getD_eq_getElem?_getD]at hk ⊢;cases q:w.1[p]? with
   |none=>rw[q]at hk;exact absurd hk (ai _)
   |some r=>exact T w hm r (aK q)
  rw[So,Vd,ZO t AS,eh Y]
  rfl
 have go:∀(ps:List Nat) (g:List (List Nat×Er)),Lk t.rs.length g->(ps.foldl (L9 Lo (fun r k=>[([5*r+k],1)])) g).map (fun w=>(w.1,Bz (xT t) w.2))=ps.foldl (L9 (· * ·) (fun r k=>(Hg t r).getD k 0)) (g.map fun w=>(w.1,Bz (xT t) w.2)):=fun ps=>by
  induction ps with
  |nil=>intro g _;rfl
  |cons p ps U=>intro g h;rw[List.foldl_cons,List.foldl_cons,<-st g p h];exact U _ (gm h p)
 intro ps;unfold Ul Ej Kn;rw[go ps _ fun w T e Z=>by
  obtain⟨k,hk,rfl⟩:=aU.mp T;rw[List.mem_singleton.mp Z];exact ar.mp hk]
 congr 1
 rw[List.map_map];refine av fun k hk=>?_;have hk:=ar.mp hk;show([k],Bz (xT t) [([5*t.rs.length+k],1)])=([k],t.ls.getD k 0);rw[Vd,ZO t AS,List.getD_eq_getElem?_getD (l:=Dr t),NS]
 rfl
theorem m4{m:Nat}(T:1<=m)(g:m<=4):m∈[1,2,3,4]:=by
 match m,T,g with
 |1,_,_=>exact .head _
 |2,_,_=>exact .tail _ M2
 |3,_,_=>exact .tail _ (.tail _ M2)
 |4,_,_=>exact .tail _ (.tail _ (.tail _ M2))
theorem ff{t:Tb}(o:t.Ok 4){n:Nat}(T:t.Fits n){u:Tr}(g:u∈Ao 5):((Ej t (DZ u)).map (·.2)).sum=EH t u:=by
 rw[gq o T g,<-fJ (ao.mp (ao.mp fN _ (m4 o.one o.most)) u g) (xT t),Xz,<-WA o,List.map_map,List.map_map]
 rfl
theorem VN{t:Tb}(o:t.Ok 4){u:Tr}(g:u∈Ao 5){i:Nat}(hi:i<6):(Ej t ((DZ u).take i)).length<=100:=by
 rw[<-WA o,List.length_map];exact az (ao.mp (ao.mp (ao.mp iz _ (m4 o.one o.most)) u g) i (ar.mpr hi))
open Classical in
noncomputable def mT(ds:By):Option PyData:=match ds with
 |[x,y]=>if ∃p q,x=Aj p/\y=Aj q/\FM.Fits p 400/\FM.Fits q 400 then some (Aj (Lj x*Lj y)) else none
 |_=>none
theorem qI{p q:Rat}(T:FM.Fits p 400)(g:FM.Fits q 400):mT [Aj p,Aj q]=some (Aj (p*q)):=by
 unfold mT;refine(if_pos ⟨p,q,rfl,rfl,T,g⟩).trans ?_;rw[LB,LB]
section
variable{P:Io}{w:Mw}{K:As}{mg:Fa}{base:Heap}{CX:Ho}{k:Nat}{f:Addr}{fd:IR}{ps:MA}
theorem toT(F:AH P w K mg base CX k f fd ps (mh K (fun p q=>p*q) fun _=>True)):AH P w K mg base CX k f fd ps (Bc mT) :=
 Kr F fun ds x hm G H vs Q E d e T=>by
  unfold mT at hm;split at hm
  .split at hm
   .rename_i hh;obtain⟨p,q,rfl,rfl,hp,hq⟩:=hh;cases hm;rw[LB,LB]at T;obtain⟨v1,v2,rfl,d1,d2⟩:=d.Nm;obtain⟨a,rfl,ha⟩:=(RY (Sw p) (d1.same e)).rat;obtain⟨b,rfl,hb⟩:=(RY (Sw q) (d2.same e)).rat;refine⟨_,_,p,q,400,rfl,.of ha,.of hb,hp,hq,by decide,trivial,fun l H' U g=>?_⟩;obtain⟨G',n1,n2,Z,Y⟩:=Y2 e U g (LV [(p*q).num,((p*q).den:Int)]);exact T _ G' H' n1 n2 Z U Y
   .cases hm
  .cases hm
end
abbrev pairD(p:Int×Int):PyData:=.tuple [.int p.1,.int p.2]
def fv:PyData->Rat
 |.list g=>(g.map Lj).sum
 |_=>0
open Classical in
noncomputable def V5(ds:By):Option PyData:=match ds with
 |[x]=>if ∃ps:List (Int×Int),x=.list (ps.map pairD)/\ps.length<=100/\∀p∈ps,1<=p.2/\p.1.natAbs<2^20/\p.2.natAbs<2^20 then some (Aj (fv x)) else none
 |_=>none
theorem jq{ps:List (Int×Int)}(T:ps.length<=100)(g:∀p∈ps,1<=p.2/\p.1.natAbs<2^20/\p.2.natAbs<2^20):V5 [.list (ps.map pairD)]=some (Aj (ps.map fun p=>Rat.divInt p.1 p.2).sum):=by
 unfold V5;refine(if_pos ⟨ps,rfl,T,g⟩).trans ?_;show some (Aj ((ps.map pairD).map Lj).sum)=_;rw[List.map_map]
 rfl
theorem pM{G:Hp}{p:Int×Int}{v:V}(h:Du G (pairD p) v):∃c,v=.ref c/\G c=some (.tup [.int p.1,.int p.2]):=by
 rw[Du]at h;obtain⟨c,xs,rfl,Y,U⟩:=h;obtain⟨x,y,rfl,T,g⟩:=U.Nm;rw[Du]at T g;subst T g;exact⟨c,rfl,Y⟩
theorem oQ{P:Io}{w:Mw}{K:As}{mg:Fa}{base:Heap}{CX:Ho}{k:Nat}{f:Addr}{fd:IR}{ps:MA}(F:AH P w K mg base CX k f fd ps gW):AH P w K mg base CX k f fd ps (Bc V5) :=
 Kr F fun ds x hm G H vs Q E d e Y=>by
  unfold V5 at hm;split at hm
  .split at hm
   .rename_i hh;obtain⟨g,rfl,h1,h2⟩:=hh;cases hm;obtain⟨v,rfl,d1⟩:=d.JS;rw[Du]at d1;obtain⟨a,xs,rfl,n1,U⟩:=d1;have hl:=U.len;rw[List.length_map]at hl;have ht:fv (.list (g.map pairD))=(g.map fun p=>Rat.divInt p.1 p.2).sum:=by
     show((g.map pairD).map Lj).sum=_;rw[List.map_map];rfl
    rw[ht]at Y;refine⟨a,xs,g,20,rfl,e _ _ n1,hl,by lia,fun j x p hx hp=>?_,h2,by lia,fun l H' e' T=>?_⟩
    .obtain⟨v,Z,k2⟩:=U.get (i:=j) (d:=pairD p) (by rw[List.getElem?_map,hp];rfl);rw[hx]at Z;cases Z;obtain⟨c,r1,r2⟩:=pM k2;exact⟨c,r1,e _ _ r2⟩
    .obtain⟨G',m1,m2,m3,m4⟩:=Y2 e e' T (LV [((g.map fun p=>Rat.divInt p.1 p.2).sum).num,(((g.map fun p=>Rat.divInt p.1 p.2).sum).den:Int)]);exact Y _ G' H' m1 m2 m3 e' m4
   .cases hm
  .cases hm
def EN(w:List Nat×Rat):PyData:=.tuple [.tuple (Eh w.1),Aj w.2]
theorem iL(row:db):HR (Al row)=(List.range row.length).map fun(k:Nat)=>PyData.tuple [.int (k:Int),Aj (row.getD k 0)]:=by
 refine List.ext_getElem? fun i=>?_;unfold HR Al;rw[List.getElem?_map,List.getElem?_zipIdx,List.getElem?_map,List.getElem?_map];by_cases h:i<row.length
 .rw[List.getElem?_range h,List.getElem?_eq_getElem h];simp[List.getD_eq_getElem?_getD,h]
 .rw[List.getElem?_eq_none AS,List.getElem?_eq_none (by rw[List.length_range];lia)]
  rfl
theorem UA{α:Type}{i j:Nat}{f:GM}{fs:Go}{δ:Dv}{fr:LE}{zs:tV}{a b g:α->PyData}(Y:fs δ=some (zs.map fun z=>.tuple [a z,b z]))(Z:zs.length<=CG)
 (h:∀z∈zs,f (((DD fr δ).set i (.d (a z))).set j (.d (b z)))=some (g z)):Dq (Et i j) GB f fr fs δ=some (.list (zs.map g)):=by
 unfold Dq Gb;rw[Y,Option.bind_some];have:∀zs:List α,(∀z∈zs,f (((DD fr δ).set i (.d (a z))).set j (.d (b z)))=some (g z))->L2.collect (J9 (Et i j) GB f (DD fr δ)) (zs.map fun z=>.tuple [a z,b z])=some (zs.map g):=fun zs=>by
  induction zs with
  |nil=>intro _;rfl
  |cons z zs T=>
   intro h;rw[List.map_cons];unfold L2.collect;rw[T fun y U=>h y (.tail _ U)];have e:J9 (Et i j) GB f (DD fr δ) (.tuple [a z,b z])=some (some (g z)):=by
    unfold J9 Et;rw[Option.bind_some];show(some true).bind _=_;rw[Option.bind_some,if_pos rfl,h z M2]
    rfl
   rw[e];rfl
 rw[this zs h,Option.bind_some,JO,if_pos (by rw[List.length_map];exact Z)]
 rfl
theorem ib{α:Type}(mul:α->α->α)(row:Nat->Nat->α)(ls:Nat->α)(m:Nat):∀(ps:List Nat),∀w∈Kn mul row ls m ps,w.1.length=ps.length+1:=by
 have go:∀(ps:List Nat) (n:Nat) (T:List (List Nat×α)),(∀w∈T,w.1.length=n)->∀w∈ps.foldl (L9 mul row) T,w.1.length=ps.length+n:=fun ps=>by
  induction ps with
  |nil=>intro n T h w g;rw[List.length_nil,Nat.zero_add];exact h w g
  |cons p ps Z=>
   intro n T h w g;rw[List.length_cons,show ps.length+1+n=ps.length+(n+1) by lia];refine Z (n+1) _ (fun v U=>?_) w g;unfold L9 at U;obtain⟨z,hz,Y⟩:=List.mem_flatMap.mp U;obtain⟨k,_,rfl⟩:=aU.mp Y;rw[List.length_append,h z hz];rfl
 intro ps w g;refine go ps 1 _ (fun v U=>?_) w g;obtain⟨k,_,rfl⟩:=aU.mp U
 rfl
theorem fg(n:Nat):FM.Fits 0 (n+1):=⟨Nat.pow_pos BY,Nat.one_lt_two_pow AS⟩
theorem WV{t:Tb}(s:t.Sm):∀(ps:List Nat),∀w∈Ej t ps,FM.Fits w.2 (3*(ps.length+1)):=by
 have T:∀r k,FM.Fits ((Hg t r).getD k 0) 3:=fun r k=>by
  unfold Hg;rw[List.getD_eq_getElem?_getD (l:=t.rs)];cases h:t.rs[r]? with
  |none=>exact fg 2
  |some row=>exact Wc (p:=fun q=>FM.Fits q 3) (fg 2) (fun q hq=>(s.1 row (aK h) q hq).1) k
 have go:∀(ps:List Nat) (n:Nat) (U:List (List Nat×Rat)),(∀w∈U,FM.Fits w.2 (3*n))->∀w∈ps.foldl (L9 (· * ·) (fun r k=>(Hg t r).getD k 0)) U,FM.Fits w.2 (3*(ps.length+n)):=fun ps=>by
  induction ps with
  |nil=>intro n U h w g;rw[List.length_nil,Nat.zero_add];exact h w g
  |cons p ps ih=>
   intro n U h w g;rw[List.length_cons,show ps.length+1+n=ps.length+(n+1) by lia];refine ih (n+1) _ (fun v Y=>?_) w g;unfold L9 at Y;obtain⟨z,hz,Z⟩:=List.mem_flatMap.mp Y;obtain⟨k,_,rfl⟩:=aU.mp Z;rw[Nat.mul_succ];exact(h z hz).times (T _ _)
 intro ps w g;refine go ps 1 _ (fun v Y=>?_) w g;obtain⟨k,_,rfl⟩:=aU.mp Y;exact Wc (p:=fun q=>FM.Fits q 3) (fg 2) (fun q hq=>(s.2 q hq).1) k
theorem cat_t{xs ys:By}(h:xs.length+ys.length<=500):A6 (.tuple xs) (.tuple ys)=some (.tuple (xs++ys)):=by
 have e:Oy (.tuple xs) (.tuple ys)=some (.tuple (xs++ys)):=if_pos (by unfold CG;lia);unfold A6 Mq;show(match Oy (.tuple xs) (.tuple ys) with|some z=>some z|none=>Vn (.tuple xs) (.tuple ys))=_;rw[e]
noncomputable abbrev nz:List PyData->Option PyData:=BE mT V5 (BC 9)
abbrev MS(t:Tb)(p:Nat)(w:List Nat×Rat):List (List Nat×Rat):=(List.range (w.1.getD p 0)).map fun k=>(w.1++[k],w.2*(Hg t (w.1.getD p 0)).getD k 0)
theorem fy{t:Tb}(o:t.Ok 4)(s:t.Sm){n:Nat}(hf:t.Fits n){u:Tr}(hu:u∈Ao 5):nz [Ac t,tD u]=some (Aj (EH t u)):=by
 have h4:=o.most;have hl:=o.last;obtain⟨pl,pp⟩:=jh u hu;have hk5:=((lH 5 BY).2 u hu).2.1;have hpar:BC 9 [tD u]=some (PyData.list (Eh (DZ u))):=List.map_inj_left.mp jm u hu;have w0:(List.range t.ls.length).map (fun k=>EN ([k],t.ls.getD k 0))=(Ej t []).map EN:=by
  unfold Ej Kn;rw[List.foldl_nil,List.map_map,hl]
  rfl
 refine E9 rfl ?_;unfold L6;refine Aa (Bl (y:=.list ((Ej t []).map EN)) ?_) ?_
 .rw[<-w0];refine UA (zs:=List.range t.ls.length) (a:=fun(k:Nat)=>.int (k:Int)) (b:=fun k=>Aj (t.ls.getD k 0)) ?_ (by rw[List.length_range];unfold CG;lia) fun k _=>rfl;rw[<-iL]
  rfl
 refine QE (xs:=Eh (DZ u)) (fun i δ=>∃l3 l4 l5 l6 U T:L,δ=[.d l0,.d (tD u),.d (.list ((Ej t ((DZ u).take i)).map EN)),l3,l4,l5,l6,U,T]) ?_ ⟨_,_,_,_,_,_,rfl⟩ ?_ ?_
 .exact jS (x:=.list (Eh (DZ u))) (Am (xs:=[tD u]) rfl hpar) rfl
 .rintro i x δ hx ⟨l3,l4,l5,l6,U,T,rfl⟩;unfold Eh at hx;rw[List.getElem?_map]at hx;obtain⟨p,hp,rfl⟩:=aD.mp hx;have hi:i<(DZ u).length:=(aE.mp hp).1;have hpi:=pp i AS p hp;have et:(DZ u).take SL=(DZ u).take i++[p]:=by rw[List.take_succ,hp];rfl
  have wl:∀w∈Ej t ((DZ u).take i),w.1.length=i+1:=fun w hw=>by
   have:=ib _ _ _ _ _ w hw;rw[List.length_take,Nat.min_eq_left AS]at this;exact this
  have wf:∀w∈Ej t ((DZ u).take i),FM.Fits w.2 (3*SL):=fun w hw=>by
   have:=WV s _ w hw;rw[List.length_take,Nat.min_eq_left AS]at this;exact this
  have wo:Lk t.rs.length (Ej t ((DZ u).take i)):=ig _ _ _ _ _;have l1:=VN o hu (i:=i+1) AS;have enext:Ej t ((DZ u).take SL)=(Ej t ((DZ u).take i)).flatMap (MS t p):=by
   rw[et];exact ZU _ _ _ _ _ p
  rw[enext]at l1;have enx:∀g:List (List Nat×Rat),Ej t ((DZ u).take SL)=g.flatMap (MS t p)->True:=fun _ _=>trivial;rw[enext];generalize Ej t ((DZ u).take i)=g at wl wf wo l1;have l2:∀j,((g.take j).flatMap (MS t p)).length<=100:=fun j=>by
   have:g.flatMap (MS t p)=(g.take j).flatMap (MS t p)++(g.drop j).flatMap (MS t p):=by rw[<-List.flatMap_append,List.take_append_drop]
   rw[this,List.length_append]at l1
   lia
  refine⟨_,rfl,ZE (δ':=[.d l0,.d (tD u),.d (.list (g.map EN)),.d (.int (p:Int)),.own re,l5,l6,U,T]) rfl ?_⟩;have mid:∃δ',C4 (GC N6) (Et 5 6) (C4 (Cy NL (AA (AO B1 (AO B1 Ni Js) (AO B1 (nm 5) (nm 3))) AF)) (Et 7 8) (ML 4 (Az (AA (AO A6 (nm 5) (Az (AA (nm 7) AF))) (AA (AW mT (AA (nm 6) (AA (nm 8) AF))) AF))))) [.d l0,.d (tD u),.d (.list (g.map EN)),.d (.int (p:Int)),.own re,l5,l6,U,T]=some (.nx δ')/\∃l5 l6 U T:L,δ'=[.d l0,.d (tD u),.d (.list (g.map EN)),.d (.int (p:Int)),.own (.lst ((g.flatMap (MS t p)).map EN)),l5,l6,U,T]:=by
   refine Sv (xs:=g.map EN) (fun j δ=>∃l5 l6 U T:L,δ=[.d l0,.d (tD u),.d (.list (g.map EN)),.d (.int (p:Int)),.own (.lst (((g.take j).flatMap (MS t p)).map EN)),l5,l6,U,T]) rfl ⟨_,_,_,_,rfl⟩ ?_ ?_
   .rintro j x δ hx ⟨l5,l6,U,T,rfl⟩;rw[List.getElem?_map]at hx;obtain⟨w,hw,rfl⟩:=aD.mp hx;have hm:=aK hw;have hwl:=wl w hm;have hwf:=wf w hm;have hpw:w.1[p]? = some (w.1.getD p 0):=by rw[List.getD_eq_getElem?_getD,List.getElem?_eq_getElem (show p<w.1.length by lia)];rfl
    have hrk:=wo w hm _ (aK hpw);have Z:=l2 (j+1);have etj:g.take (j+1)=g.take j++[w]:=by rw[List.take_succ,hw];rfl
    have efl:(g.take (j+1)).flatMap (MS t p)=(g.take j).flatMap (MS t p)++MS t p w:=by rw[etj,List.flatMap_append,List.flatMap_cons,List.flatMap_nil,List.append_nil]
    rw[efl]at Z ⊢;have hst:MS t p w=(List.range (w.1.getD p 0)).map fun k=>(w.1++[k],w.2*(Hg t (w.1.getD p 0)).getD k 0):=rfl;rw[hst]at Z ⊢;have Y:t.rs[w.1.getD p 0]? = some (Hg t (w.1.getD p 0)):=by unfold Hg;rw[List.getD_eq_getElem?_getD (l:=t.rs),List.getElem?_eq_getElem hrk];rfl
    have hrl:=(fB o (w.1.getD p 0)).2 hrk;have hrs:∀q∈Hg t (w.1.getD p 0),FM.Fits q 3:=fun q hq=>(s.1 _ (aK Y) q hq).1;generalize w.1.getD p 0=r at hpw Y hrl hrs Z hrk;generalize Hg t r=row at Y hrl hrs Z;generalize (g.take j).flatMap (MS t p)=pre at Z;rw[List.length_append,List.length_map,List.length_range]at Z;refine⟨[.d l0,.d (tD u),.d (.list (g.map EN)),.d (.int (p:Int)),.own (.lst (pre.map EN)),.d (.tuple (Eh w.1)),.d (Aj w.2),U,T],rfl,?_⟩;refine Sv (xs:=HR (Al row)) (fun k δ=>∃U T:L,δ=[.d l0,.d (tD u),.d (.list (g.map EN)),.d (.int (p:Int)),.own (.lst ((pre++(List.range k).map fun k=>(w.1++[k],w.2*row.getD k 0)).map EN)),.d (.tuple (Eh w.1)),.d (Aj w.2),U,T]) ?_ ⟨_,_,by rw[List.range_zero,List.map_nil,List.append_nil]⟩ ?_ ?_
    .have e1:AO B1 (nm 5) (nm 3) [.d l0,.d (tD u),.d (.list (g.map EN)),.d (.int (p:Int)),.own (.lst (pre.map EN)),.d (.tuple (Eh w.1)),.d (Aj w.2),U,T]=some (.int (r:Int)):=BA (x:=.tuple (Eh w.1)) (y:=.int (p:Int)) rfl rfl (Kw (by unfold Eh;rw[List.getElem?_map,hpw];rfl));have e2:AO B1 (AO B1 Ni Js) (AO B1 (nm 5) (nm 3)) [.d l0,.d (tD u),.d (.list (g.map EN)),.d (.int (p:Int)),.own (.lst (pre.map EN)),.d (.tuple (Eh w.1)),.d (Aj w.2),U,T]=some (.list (Al row)):=BA (x:=.list (BD t.rs)) (y:=.int (r:Int)) rfl e1 (Kw (by unfold BD;rw[List.getElem?_map,Y];rfl));show(AA _ AF _).bind NL=_;rw[AY e2 rfl]
     rfl
    .rintro k x δ hx ⟨U,T,rfl⟩;obtain⟨y,hy,rfl⟩:=J0 hx;unfold Al at hy;rw[List.getElem?_map]at hy;obtain⟨q,hq,rfl⟩:=aD.mp hy;have hkl:k<row.length:=(aE.mp hq).1;have hqg:row.getD k 0=q:=by rw[List.getD_eq_getElem?_getD,hq];rfl
     have hqf:=hrs q (aK hq);refine⟨_,rfl,_,N9 (y:=EN (w.1++[k],w.2*row.getD k 0)) (xs:=(pre++(List.range k).map fun k=>(w.1++[k],w.2*row.getD k 0)).map EN) ?_ rfl ?_,.d (.int (k:Int)),.d (Aj q),?_⟩
     .rw[hqg];refine Ks (xs:=[.tuple (Eh (w.1++[k])),Aj (w.2*q)]) (AY (BA (x:=.tuple (Eh w.1)) (y:=.tuple [.int (k:Int)]) rfl rfl ?_) (AY (Am (xs:=[Aj w.2,Aj q]) rfl (qI (hwf.mono AS) (hqf.mono))) rfl)) (by show(2:Nat)<=CG;decide);rw[cat_t (by unfold Eh;rw[List.length_map];simp;lia)];unfold Eh;rw[List.map_append]
      rfl
     .rw[List.length_map,List.length_append,List.length_map,List.length_range];unfold CG
      lia
     .have er:(pre++(List.range oF).map fun k=>(w.1++[k],w.2*row.getD k 0)).map EN=(pre++(List.range k).map fun k=>(w.1++[k],w.2*row.getD k 0)).map EN++[EN (w.1++[k],w.2*row.getD k 0)]:=by
       simp only[List.range_succ,List.map_append,List.append_assoc,List.map_cons,List.map_nil]
      rw[er]
      rfl
    .rintro δ ⟨U,T,rfl⟩;have:(HR (Al row)).length=r:=by unfold HR;simp[Al,hrl]
     rw[this];exact⟨_,_,_,_,rfl⟩
   .rintro δ ⟨l5,l6,U,T,rfl⟩;rw[List.length_map,List.take_length];exact⟨_,_,_,_,rfl⟩
  obtain⟨δ',f1,l5',l6',l7',l8',rfl⟩:=mid;exact ZE f1 ⟨_,rfl,_,_,_,_,_,_,rfl⟩
 .rintro δ ⟨l3,l4,l5,l6,U,T,rfl⟩;have hn:(Eh (DZ u)).length=(DZ u).length:=bV _;rw[hn,List.take_length];have hlen:(Ej t (DZ u)).length<=100:=by
   have:=VN o hu (i:=(DZ u).length) AS
   rwa [List.take_length]at this
  have hfit:=WV s (DZ u);have hsum:=ff o hf hu;generalize Ej t (DZ u)=g at hlen hfit hsum;refine F3 (Am (xs:=[.list ((g.map fun w=>(w.2.num,(w.2.den:Int))).map pairD)]) (AY ?_ rfl) ?_)
  .rw[List.map_map];exact UA (zs:=g) (a:=fun w=>.tuple (Eh w.1)) (b:=fun w=>Aj w.2) rfl (by unfold CG;lia) fun w _=>rfl
  .refine(jq (by rw[List.length_map];exact hlen) fun p hp=>?_).trans ?_
   .obtain⟨w,hw,rfl⟩:=aU.mp hp;have hfw:=(hfit w hw).mono (show 3*((DZ u).length+1)<=20 by lia);exact⟨by have:=w.2.den_nz;show(1:Int)<=(w.2.den:Int);lia,hfw.1,hfw.d⟩
   .rw[List.map_map,<-hsum]
    congr 3
    exact av fun w _=>FM.Hr w.2
theorem Zi(n:Nat):∀k,∃us,Ao (n+k)=Ao n++us
 |0=>⟨[],by rw[List.append_nil];rfl⟩
 |k+1=>by
  obtain⟨us,h⟩:=Zi n k;exact⟨us++TH.tz (n+k),by rw[<-List.append_assoc,<-h];rfl⟩
theorem Sk{u:Tr}(h:u∈Ao 5):u∈Ao 6:=bf _ h
def U7:Nat->Tr
 |0=>.nil
 |n+1=>.cons (U7 n) .nil
theorem nL:∀m,m<=4->1<=m->U7 m∈Ao (m+1)/\U7 m∈Ao 5/\O7 m (U7 m)=[]/\HV (U7 m)≠0:=by decide +kernel
theorem fits_of{t:Tb}(s:t.Sm):t.Fits 3:=⟨fun r T q g=>(s.1 r T q g).1,fun q g=>(s.2 q g).1⟩
theorem oV{t:Tb}(o:t.Ok 4)(s:t.Sm):t.Wu:=qJ o BY (fits_of s) BY BY
theorem Z4{t:Tb}(o:t.Ok 4)(s:t.Sm):∃u,u∈Ao 5/\(Ao 5).find? (Ew t)=some u/\(Ao 6).find? (Ew t)=some u:=by
 have Y:=o.one;have U:=o.most;obtain⟨c1,T,c3,Z⟩:=nL t.rs.length U Y;have hb:Ew t (U7 t.rs.length)=true:=by
  unfold Ew;rw[gq o (fits_of s) T,c3];have:¬(Bz (xT t) []=HV (U7 t.rs.length)):=fun z=>Z z.symm;rw[decide_eq_false this]
  rfl
 cases g:(Ao 5).find? (Ew t) with
 |none=>exact absurd hb (by simpa using bc.mp g _ T)
 |some u=>exact⟨u,List.mem_of_find?_eq_some g,rfl,by rw[Ao,List.find?_append,g];rfl⟩
theorem qh:((Ao 5).Pairwise fun u v=>u.AQ<=v.AQ)/\∀u∈Ao 5,u∈TH.tz (u.AQ-1)/\1<=u.AQ/\u.AQ<=5:=by decide +kernel
theorem YT:∀k,k<6->(∀v∈Ao k,v.AQ<=k/\(k<5->v∈Ao 5))/\(k<5->∀v∈TH.tz k,v∈Ao 5/\v.AQ=k+1)/\(Ao k).length<=17/\(k<5->(TH.tz k).length<=9):=by decide +kernel
structure QJ(t:Tb)(k:Nat)(u:Tr):Prop where
 k5:k<5
 z:u∈TH.tz k
 m5:u∈Ao 5
 kn:u.AQ=k+1
 good:∀v∈Ao 5,v.AQ<=k->EH t v=HV v
 find:(TH.tz k).find? (Ew t)=some u
 bad:EH t u≠HV u
 f6:(Ao 6).find? (Ew t)=some u
theorem lB{t:Tb}{u:Tr}(h:Ew t u=false):EH t u=HV u:=by
 unfold Ew at h
 simpa using h
theorem mx{t:Tb}{u:Tr}(h:Ew t u=true):EH t u≠HV u:=by
 unfold Ew at h
 simpa using h
theorem cV{t:Tb}(o:t.Ok 4)(s:t.Sm):∃k u,QJ t k u:=by
 obtain⟨u,Z,T,f6⟩:=Z4 o s;obtain⟨U,z2,z3⟩:=qh.2 u Z;obtain⟨b,as,bs,e,ha⟩:=List.find?_eq_some_iff_append.mp T;have good:∀v∈Ao 5,v.AQ<u.AQ->Ew t v=false:=fun v g hlt=>by
  have Y:=qh.1;rw[e]at g Y;rcases bH.mp g with q|q
  .simpa using ha v q
  .rcases aO.mp q with rfl|q
   .lia
   .have:=(bo.mp (List.pairwise_append.mp Y).2.1).1 v q
    lia
 refine⟨u.AQ-1,u,by lia,U,Z,by lia,fun v g hl=>lB (good v g AS),?_,mx b,f6⟩;obtain⟨us,h5⟩:=Zi (u.AQ-1+1) (5-(u.AQ-1+1));have e1:Ao (u.AQ-1+1)=Ao (u.AQ-1)++TH.tz (u.AQ-1):=rfl;rw[show u.AQ-1+1+(5-(u.AQ-1+1))=5 by lia,e1]at h5;rw[h5,List.append_assoc,List.find?_append,List.find?_append]at T;have n1:(Ao (u.AQ-1)).find? (Ew t)=none:=bc.mpr fun v g=>by
  have:=(YT (u.AQ-1) AS).1 v g;rw[good v (this.2 AS) AS]
  decide
 rw[n1,Option.none_or]at T;cases hf:(TH.tz (u.AQ-1)).find? (Ew t) with
 |none=>exact absurd b (by simpa using bc.mp hf _ U)
 |some w=>rw[hf,Option.some_or]at T;exact T
def Gj(v:Tr):PyData:=.tuple [tD v,Aj (HV v)]
def WB(t:Tb)(k:Nat)(u:Tr):PyData:=.tuple [.int (k:Int),.list ((Ao k).map Gj),.tuple [tD u,Aj (EH t u)]]
def lE(ds:By):Option PyData:=match ds with
 |[.int a,.int b]=>some (.int (FM.gi a b))
 |_=>none
theorem sU{P:Io}{w:Mw}{K:As}{mg:Fa}{base:Heap}{f:Addr}{fd:IR}{k:Nat}{ps:MA}(F:AH P w K mg base Ah k f fd ps Oi):AH P w K mg base Ah k f fd ps (Bc lE) :=
 Kr F fun ds x hm G H vs Q E d e U=>by
  unfold lE at hm;split at hm
  .cases hm;obtain⟨Z,Y,rfl,T,g⟩:=d.Nm;rw[Du]at T g;subst T g;exact⟨_,_,rfl,U _ G H (.refl _) Nw.refl e (.refl _) Tk⟩
  .cases hm
abbrev qY:List PyData->Option PyData:=Cg lE BW
theorem V7{f g:GM}{δ:Dv}{r:Option PyData}(h:f δ=some KM)(k:g δ=r):Wi f g δ=r:=by
 show(f δ).bind _=_;rw[h];exact k
theorem RC(z:Int):En true (.int z) (.int z)=some lf:=ne_self (Ok.int (n:=0)) BY
theorem mi(z:Int):En false (.int z) (.int z)=some KM:=eX (Ok.int (n:=0)) BY
theorem p9(q:Rat):qY [Aj q]=some KM:=by
 refine E9 rfl ?_;unfold Np;have hd:=q.den_nz;have hg:FM.gi q.num (q.den:Int)=1:=by
  have k:=q.reduced;unfold FM.gi;unfold Nat.Coprime at k;rw[show q.num.gcd (q.den:Int)=1 from k]
  rfl
 have g:∀z:Int,BW [.int z]=some KM:=fun _=>rfl;refine Aa (Ek (Jj rfl (Bv (x:=.int 2) (y:=.int 2) rfl rfl (RC 2))) rfl) (Aa (Ek (Jj (Jc (HP (Am (xs:=[.int q.num]) rfl (g _)))) (Jc (HP (Am (xs:=[.int (q.den:Int)]) rfl (g _))))) rfl) (F3 (V7 (BA (x:=.int (q.den:Int)) (y:=.int 1) rfl rfl ?_) (BA (x:=.int 1) (y:=.int 1) (Am (xs:=[.int q.num,.int (q.den:Int)]) rfl ?_) rfl (mi 1)))))
 .show some (PyData.bool (decide ((1:Int)<=(q.den:Int))))=_;rw[decide_eq_true AS]
 .show some (PyData.int (FM.gi q.num (q.den:Int)))=_;rw[hg]
def RG(t:Tb)(v:Tr):PyData:=.tuple [tD v,Aj (EH t v)]
noncomputable abbrev qZ:List PyData->Option PyData:=Ds P4
theorem QB{α:Type}(f g:α->PyData):∀zs:List α,KO (zs.map f) (zs.map g)=zs.map fun z=>.tuple [f z,g z]
 |[]=>rfl
 |z::zs=>bP (PyData.tuple [f z,g z] :: ·) (QB f g zs)
theorem fk{t:Tb}(h:t.Wu){ts:iF}(T:∀u∈ts,u∈Ao 6)(g:ts.length<=1000):qZ [Ac t,EC ts]=some (.list (ts.map (RG t))):=by
 refine E9 rfl ?_;unfold Rk;refine F3 ?_;show(AA On (AA (AW P4 (AA Ni uv)) AF) _).bind YH=_;rw[AY (x:=EC ts) (xs:=[Jr (ts.map (EH t))]) rfl (AY (Am (xs:=[Ac t,EC ts]) rfl (cX h T g)) rfl),Option.bind_some];have e:L2.Bq (Tr.of ts)=ts.map tD:=Ko ts;have U:(ts.map (EH t)).map Aj=ts.map fun u=>Aj (EH t u):=by rw[List.map_map];rfl
 unfold EC Jr;rw[e,U];show(if _/\_ then some (PyData.list (KO (ts.map tD) (ts.map fun u=>Aj (EH t u)))) else none)=_;rw[if_pos ⟨by rw[List.length_map,List.length_map],by rw[List.length_map];exact g⟩,QB]
 rfl
abbrev gZ:List PyData->Option PyData:=Bu T8
theorem nZ:(List.range 5).map (fun k=>gZ [.int ((k:Nat):Int)])=(List.range 5).map fun k=>some (EC (Ao k)):=by kernel_rfl
theorem gj{k:Nat}(h:k<5):gZ [.int ((k:Nat):Int)]=some (EC (Ao k)):=List.map_inj_left.mp nZ k (ar.mpr h)
theorem om{t:Tb}{k:Nat}{u:Tr}(h:QJ t k u):ZN t=.tuple [.int (k:Int),tD u]:=by
 unfold ZN;rw[h.f6];show We u=_;unfold We;have:=h.kn;rw[show u.AQ-1=k by lia]
theorem mm{t:Tb}{k:Nat}{u:Tr}(h:QJ t k u):(Ao k).map (RG t)=(Ao k).map Gj:=av fun v g=>by
 have a:=(YT k (by have:=h.k5;lia)).1 v g;show PyData.tuple [tD v,Aj (EH t v)]=_;rw[h.good v (a.2 h.k5) a.1]
 rfl
theorem OL{F:DF}{δ:Dv}{o:Ou}(h:F δ=some o):X5 F δ=some (.inl o):=by show(F δ).map _=_;rw[h];rfl
section
variable{C C1 C2:Addr}
abbrev dD(C1:Addr):List PyData->Option Xr:=Ae (mB Cq) C1
theorem OD{t:Tb}{m:Nat}(h:t.Ok m)(hm:m<=40):dD C [Ac t]=some (.inl .none):=by
 refine SK (δ:=[.d l0]) rfl ?_;unfold HZ;exact Yl (Jc (HP (Am (xs:=[Ac t]) rfl (nv (XU t) (h.is hm))))) rfl
theorem mF{d:KB}(g:d.canLay0=true)(h:Cq d=false):dD C [d]=some (.inr C):=by
 refine Mh rfl ?_;unfold HZ;exact fw (Jc (HP (Am (xs:=[d]) rfl (nv g h)))) rfl
abbrev Vi(C1 C2:Addr):List PyData->Option Xr:=Ar (dD C1) C2
theorem Yk{t:Tb}(o:t.Ok 4):Vi C1 C2 [Ac t]=some (.inl .none):=by
 have T:=o.most;refine SK (δ:=[.d l0]) rfl ?_;unfold Ei;refine GV (FW (ds:=[Ac t]) rfl (OD o BY)) (Yl (Bv (x:=.int ((BD t.rs).length:Nat)) (y:=.int 5) rfl rfl ?_) rfl);show some (PyData.bool (decide ((5:Int)<((BD t.rs).length:Int))))=_;have g:=B5 t.rs;rw[decide_eq_false AS]
theorem XE{t:Tb}{m:Nat}(o:t.Ok m)(hm:m<=40)(T:6<=t.rs.length):Vi C1 C2 [Ac t]=some (.inr C2):=by
 refine Mh rfl ?_;unfold Ei;refine GV (FW (ds:=[Ac t]) rfl (OD o hm)) (fw (Bv (x:=.int ((BD t.rs).length:Nat)) (y:=.int 5) rfl rfl ?_) rfl);show some (PyData.bool (decide ((5:Int)<((BD t.rs).length:Int))))=_;have g:=B5 t.rs;rw[decide_eq_true AS]
theorem fj{d:KB}(g:d.canLay0=true)(h:Cq d=false):Vi C1 C2 [d]=some (.inr C1):=by
 refine Mh rfl ?_;unfold Ei;exact Sr (Qo (ds:=[d]) rfl (mF g h))
noncomputable abbrev mW(C1:Addr):List PyData->Option Xr:=Cn Bg (dD C1) T8 RN P4
theorem dY{t:Tb}(h:t.Wu):mW C1 [Ac t]=some (.inl (ZN t)):=by
 obtain⟨m,n,k,o,hm,_⟩:=id h;refine My rfl ?_;unfold Nn;exact GV (FW (ds:=[Ac t]) rfl (OD o hm)) (OL (di h))
noncomputable abbrev cT(C1 C2:Addr):List PyData->Option Xr:=Bb qZ (Vi C1 C2) (mW C1) gZ
theorem gK{d:KB}{C:Addr}(h:Vi C1 C2 [d]=some (.inr C)):cT C1 C2 [d]=some (.inr C):=by
 refine Mh rfl ?_;unfold KP;exact Sr (Qo (ds:=[d]) rfl h)
theorem gk{t:Tb}(o:t.Ok 4)(s:t.Sm){k:Nat}{u:Tr}(h:QJ t k u):cT C1 C2 [Ac t]=some (.inl (WB t k u)):=by
 have w:=oV o s;have hk:=h.k5;refine My rfl ?_;unfold KP;refine GV (FW (ds:=[Ac t]) rfl (Yk o)) (GV (δ':=[.d l0,.d (.tuple [.int (k:Int),tD u]),.no]) (FW (y:=.tuple [.int (k:Int),tD u]) (ds:=[Ac t]) rfl ((dY w).trans (by rw[om h]))) (OL (Aa rfl (Aa (L4 (δ:=[.d l0,.d (.tuple [.int (k:Int),tD u]),.d .none]) rfl (Bl (y:=RG t u) (BA (x:=.list [RG t u]) (y:=.int 0) ?_ rfl rfl))) (F3 ?_)))))
 .refine Am (xs:=[Ac t,EC [u]]) rfl (fk w (fun v g=>?_) (by show(1:Nat)<=1000;decide));rw[List.mem_singleton.mp g];exact Sk h.m5
 .have a:=YT k AS;refine Ks (xs:=[.int (k:Int),.list ((Ao k).map Gj),RG t u]) (AY rfl (AY (Am (xs:=[Ac t,EC (Ao k)]) (AY rfl (AY (Am (xs:=[.int (k:Int)]) rfl (gj hk)) rfl)) ?_) rfl)) (by show(3:Nat)<=CG;decide);rw[fk w (fun v g=>Sk ((a.1 v g).2 hk)) (by have:=a.2.2.1;lia),mm h]
end
abbrev kU:List PyData->Option PyData:=CD qY
theorem j9{ts:iF}(hd:(Tr.of ts).deep<=60){v:Tr}(g:v∈(Tr.of ts).bs):ZM (tD v) (EC ts)=some KM:=by
 have U:HY (tD v)=some v:=by rw[HY,Mi]
 have T:Em (L2.Bq (Tr.of ts))=some (Tr.of ts):=Mi _;unfold ZM;rw[U,Option.bind_some];show(Em (L2.Bq (Tr.of ts))).bind _=_;rw[T,Option.bind_some,if_pos hd,decide_eq_true g]
theorem gp{ts:iF}(hd:(Tr.of ts).deep<=60){v:Tr}(g:v∈(Tr.of ts).bs)(q:Rat):kU [.tuple [tD v,Aj q],EC ts]=some KM:=by
 refine E9 rfl ?_;unfold Ti;exact Aa (Ek (Jj rfl (Bv (x:=.int 2) (y:=.int 2) rfl rfl (RC 2))) rfl) (F3 (V7 (BA (x:=tD v) (y:=EC ts) rfl rfl (j9 hd g)) (Am (xs:=[Aj q]) rfl (p9 q))))
theorem ml:∀v∈Ao 5,(Tr.of [v]).deep<=60/\v∈(Tr.of [v]).bs:=by decide +kernel
theorem sO:∀k,k<5->(Tr.of (TH.tz k)).deep<=60/\∀v∈TH.tz k,v∈(Tr.of (TH.tz k)).bs:=by decide +kernel
theorem Xu(p q:Rat):En false (Aj p) (Aj q)=some (.bool (decide (p=q))):=by
 refine(if_pos ⟨(Rq p).shaped BY,(Rq q).shaped BY⟩).trans ?_;rw[Vb];rfl
noncomputable abbrev qT:List PyData->Option PyData:=B6 NR kU nz
theorem pj{t:Tb}(o:t.Ok 4)(s:t.Sm){k:Nat}{u:Tr}(h:QJ t k u):qT [Ac t,EC (Ao k),.list ((Ao k).map Gj)]=some KM:=by
 have hk:=h.k5;have a:=YT k AS;have Y:L2.Bq (Tr.of (Ao k))=(Ao k).map tD:=Ko _;refine E9 rfl ?_;unfold K9;refine Aa (δ':=[.d l0,.d (EC (Ao k)),.d (.list ((Ao k).map Gj)),.no,.no]) (Ek (Jj rfl (Bv (x:=.int (((Ao k).map Gj).length:Nat)) (y:=.int (((Ao k).map Gj).length:Nat)) rfl ?_ (RC _))) rfl) ?_
 .show some (PyData.int ((L2.Bq (Tr.of (Ao k))).length:Nat))=_;rw[Y,List.length_map,List.length_map]
 refine QE (xs:=(Ao k).map fun v=>.tuple [tD v,Gj v]) (fun i δ=>∃l T:L,δ=[.d l0,.d (EC (Ao k)),.d (.list ((Ao k).map Gj)),l,T]) ?_ ⟨_,_,rfl⟩ ?_ ?_
 .show some (KO (L2.Bq (Tr.of (Ao k))) ((Ao k).map Gj))=_;rw[Y,QB]
 .rintro i x δ U ⟨l,T,rfl⟩;rw[List.getElem?_map]at U;obtain⟨v,hv,rfl⟩:=aD.mp U;have hm:=aK hv;have g:=(a.1 v hm).2 hk;have hg:=h.good v g (a.1 v hm).1;refine⟨[.d l0,.d (EC (Ao k)),.d (.list ((Ao k).map Gj)),.d (tD v),.d (Gj v)],rfl,_,Ek (Jj (Jc (HP (Am (xs:=[Gj v,EC [v]]) rfl (gp (ml v g).1 (ml v g).2 _)))) (Jj (Bv (x:=Aj (HV v)) (y:=Aj (HV v)) rfl ?_ ((O2 _ _).trans (by rw[decide_eq_true rfl];rfl))) (Bv (x:=Aj (HV v)) (y:=Aj (HV v)) rfl (Am (xs:=[Ac t,tD v]) rfl ?_) ((O2 _ _).trans (by rw[decide_eq_true rfl];rfl))))) rfl,_,_,rfl⟩
  .rw[YY (Sk g)];exact Ks (xs:=[.int 1,.int ((Te v:Nat):Int)]) (AY rfl (AY (Am (xs:=[tD v]) rfl (S8 (Sk g))) rfl)) (by show(2:Nat)<=CG;decide)
  .rw[fy o s (fits_of s) g,hg]
 .rintro δ ⟨l,T,rfl⟩
  rfl
noncomputable abbrev qS:List PyData->Option PyData:=DP NR kU T8 nz
theorem lu{t:Tb}(o:t.Ok 4)(s:t.Sm){k:Nat}{u:Tr}(h:QJ t k u):qS [Ac t,.int (k:Int),RG t u]=some KM:=by
 have hk:=h.k5;have z:=sO k hk;refine E9 rfl ?_;unfold OM;refine Aa (δ':=[.d l0,.d (.int (k:Int)),.d (RG t u)]) (Ek (Bv (x:=.int (k:Int)) (y:=.int 6) rfl rfl ((jb _ _).trans (by rw[decide_eq_false AS]))) rfl) (Aa (Ek (Jj (Jc (HP (Am (xs:=[RG t u,EC (TH.tz k)]) (AY rfl (AY (Am (xs:=[.int ((k+1:Nat):Int)]) rfl (of_is AS)) rfl)) (gp z.1 (z.2 u h.z) _)))) (Bv (x:=Aj (EH t u)) (y:=Aj (HV u)) rfl ?_ ((Xu _ _).trans (by rw[decide_eq_false h.bad])))) rfl) (F3 (BA (x:=Aj (EH t u)) (y:=Aj (EH t u)) rfl (Am (xs:=[Ac t,tD u]) rfl (fy o s (fits_of s) h.m5)) ((Xu _ _).trans (by rw[decide_eq_true rfl])))));rw[YY (Sk h.m5)];exact Ks (xs:=[.int 1,.int ((Te u:Nat):Int)]) (AY rfl (AY (Am (xs:=[tD u]) rfl (S8 (Sk h.m5))) rfl)) (by show(2:Nat)<=CG;decide)
section
variable{C C1 C2:Addr}
noncomputable abbrev Xk(C1 C2:Addr):List PyData->Option Xr:=Ba qT qS BW (Vi C1 C2) gZ
theorem gr{d p:KB}{C:Addr}(h:Vi C1 C2 [d]=some (.inr C)):Xk C1 C2 [d,p]=some (.inr C):=by
 refine Mh rfl ?_;unfold Hx;exact Sr (Qo (ds:=[d]) rfl h)
theorem qB{t:Tb}(o:t.Ok 4)(s:t.Sm){k:Nat}{u:Tr}(h:QJ t k u):Xk C1 C2 [Ac t,WB t k u]=some (.inl KM):=by
 have hk:=h.k5;refine My rfl ?_;unfold Hx;have T:BW [.int (k:Int)]=some KM:=rfl;refine GV (FW (ds:=[Ac t]) rfl (Yk o)) (OL (Aa (δ':=[.d l0,.d (WB t k u),.no]) (Ek (Jj rfl (Bv (x:=.int 3) (y:=.int 3) rfl rfl (RC 3))) rfl) (Aa (δ':=[.d l0,.d (WB t k u),.d (.int (k:Int))]) rfl (Aa (Ek (Jj (Jc (HP (Am (xs:=[.int (k:Int)]) rfl T))) (Jj (Bv (x:=.int (k:Int)) (y:=.int 0) rfl rfl ?_) (Bv (x:=.int (k:Int)) (y:=.int 6) rfl rfl ?_))) rfl) (F3 (V7 (Am (xs:=[Ac t,EC (Ao k),.list ((Ao k).map Gj)]) (AY rfl (AY (Am (xs:=[.int (k:Int)]) rfl (gj hk)) rfl)) (pj o s h)) (Am (xs:=[Ac t,.int (k:Int),RG t u]) rfl (lu o s h))))))))
 .show some (PyData.bool (decide ((k:Int)<0)))=_;rw[decide_eq_false AS]
 .show some (PyData.bool (decide ((6:Int)<(k:Int))))=_;rw[decide_eq_false AS]
end
def RT:PyData:=.tuple [.int 0,.int 1]
def lP:List PyData:=[.tuple [.int 2,.int 4],.tuple [.int 1,.int 0],.tuple [.int 0,.int 2],.tuple [.int 1,.int (-1)],.int 1,.bool true,.none,.list [.int 1,.int 1],.tuple [.int 1,.int 1,.int 1],.str (Str.ofString "1")]
def rk:PyData->PyData
 |.list xs=>.list (xs++[RT])
 |d=>d
def Xh(rs ls:By)(p:Nat):List PyData :=
 [.none,.list [.list rs,.list ls],.tuple [.list rs],.tuple [.list rs,.list ls,.list []],.tuple [.list [],.list []],.tuple [.tuple rs,.list ls],.tuple [.list rs,.tuple ls]] ++
 (lP.flatMap (fun b=>[.tuple [.list rs,.list (ls.take p++[b]++ls.drop (p+1))],.tuple [.list (rs++[.list ([b]++List.replicate (rs.length-1) RT)]),.list (ls++[RT])]]) ++
 [.tuple [.list rs,.list (ls++[.tuple [.int 1,.int 1]])],.tuple [.list rs,.list (ls.take (ls.length-1))],.tuple [.list (rs.take (rs.length-1)),.list ls],.tuple [.list (rs++[.list []]),.list (ls++[RT])]])
def qR(rs ls:By)(p:Nat):PyData:=.tuple [.list (rs.take p++[rk (rs.getD p .none)]++rs.drop (p+1)),.list ls]
theorem jL:∀b∈lP,Fi b=false:=by decide +kernel
theorem cz{ds:By}{d:KB}(hi:d∈ds)(hd:Fi d=false):DM (.list ds)=false:=by
 rw[DM];refine au.mpr fun z=>?_;have:=ao.mp z d hi;rw[hd]at this;cases this
theorem VM{r l:KB}(h:DM l=false):Cq (.tuple [r,l])=false:=by rw[Cq,h];simp
theorem NQ{r l:KB}(h:Co r=false):Cq (.tuple [r,l])=false:=by rw[Cq,h];simp
theorem Sy{a b:By}(h:b.length≠a.length):Cq (.tuple [.list a,.list b])=false:=by
 rw[Cq,show decide (GX (.list b)=GX (.list a))=false from bM h];simp
theorem Qu{ds:By}{i:Nat}{d:KB}(hi:ds[i]? = some d)(hd:(DM d&&decide (GX d=i))=false):Co (.list ds)=false:=by
 rw[Co];have:Jq ds=false:=by
  unfold Jq;refine au.mpr fun z=>?_;have:=ao.mp z i (ar.mpr (aE.mp hi).1);unfold rowAt at this;rw[hi]at this;simp only at this;rw[hd]at this;cases this
 rw[this];simp
theorem iQ{rs ls:By}{p:Nat}{xs:By}(g:rs[p]? = some (.list xs))(T:xs.length=p):Cq (qR rs ls p)=false:=by
 refine NQ (Qu (i:=p) (d:=.list (xs++[RT])) ?_ ?_)
 .have U:=(aE.mp g).1;rw[List.append_assoc,List.getElem?_append_right (by rw[List.length_take];lia),List.length_take,Nat.min_eq_left AS,Nat.sub_self,List.getD_eq_getElem?_getD,g]
  rfl
 .rw[show decide (GX (.list (xs++[RT]))=p)=false from bM (by show(xs++[RT]).length≠p;simp;lia),Bool.and_false]
theorem ij{rs ls:By}{p:Nat}(Y:1<=rs.length)(U:ls.length=rs.length)(T:p<rs.length):∀d∈Xh rs ls p,Cq d=false:=fun d hd=>by
 unfold Xh at hd;rw[List.mem_append,List.mem_append]at hd;rcases hd with hd|hd|hd
 .simp only[List.mem_cons,List.not_mem_nil,or_false]at hd;rcases hd with rfl|rfl|rfl|rfl|rfl|rfl|rfl
  .rfl
  .rfl
  .rfl
  .rfl
  .rfl
  .exact NQ rfl
  .exact VM rfl
 .obtain⟨b,hb,hd⟩:=List.mem_flatMap.mp hd;have g:=jL b hb;simp only[List.mem_cons,List.not_mem_nil,or_false]at hd;rcases hd with rfl|rfl
  .exact VM (cz (d:=b) Ch g)
  .exact NQ (Qu (i:=rs.length) (d:=.list ([b]++List.replicate (rs.length-1) RT)) Ch (by rw[cz (d:=b) Ch g,Bool.false_and]))
 .simp only[List.mem_cons,List.not_mem_nil,or_false]at hd;rcases hd with rfl|rfl|rfl|rfl
  .exact Sy mu
  .exact Sy mu
  .exact Sy mu
  .exact NQ (Qu (i:=rs.length) (d:=.list []) Ch (by rw[show decide (GX (.list [])=rs.length)=false from bM (by show(0:Nat)≠_;lia),Bool.and_false]))
theorem jk(A B C D:DF)(δ:Dv):Af A (Af B (Af C D)) δ=Af (Af A (Af B C)) D δ:=by
 unfold Af;cases A δ with
 |none=>rfl
 |some o=>
  cases o with
  |nx g=>
   simp only;cases B g with
   |none=>rfl
   |some o=>
    cases o with
    |nx T=>rfl
    |_=>rfl
  |_=>rfl
theorem nk{δ:Dv}{A B C:DF}{r:Option Ou}{d0 U d2 d3 d4 T g:L}{G:DF}{os:Oc}(h:Af A (Af B C) δ=some (.nx [d0,U,d2,d3,d4,.own os,T,g]))(k:G [d0,U,d2,d3,d4,.own os,T,g]=r):Af A (Af B (Af C G)) δ=r:=by
 rw[jk];exact Aa h k
def si:DF:=(Af ub
 (Af (C4 uW (Es 6)
  (Af (ML 5 (Az (AA N6 (AA (AO A6 (AO A6 (Iw (nm 3) Gd (Gf (nm 4))) (BG (AA (nm 6) AF))) (Iw (nm 3) (Gf (AO A6 (nm 4) Fk)) Gd)) AF))))
  (Af ux
  (ML 5 (Az (AA (nm 7) (AA (AO A6 (nm 3) (BG (AA (Az (AA Js (AA Fk AF))) AF))) AF)))))))
 (Wa 5 uV)))
def qP:Dv->Option PyData:=uj
theorem cR{α:Type}{l:tV}(h:l.length=1):∃a,l=[a]:=match l,h with|[a],_=>⟨a,rfl⟩
theorem ln2{α:Type}{l:tV}(h:l.length=2):∃a b,l=[a,b]:=match l,h with|[a,b],_=>⟨a,b,rfl⟩
theorem nT{α:Type}{l:tV}(h:l.length=3):∃a b c,l=[a,b,c]:=match l,h with|[a,b,c],_=>⟨a,b,c,rfl⟩
theorem qb{α:Type}{l:tV}(h:l.length=4):∃a b c d,l=[a,b,c,d]:=match l,h with|[a,b,c,d],_=>⟨a,b,c,d,rfl⟩
def eV(t:Tb)(p:Nat)(m:Int)(o:L):Dv:=[.d l0,.d (.int m),.d (.list (BD t.rs)),.d (.list (Al t.ls)),.d (.int (p:Int)),o,.d (.str (Str.ofString "1")),.d (.list (BD t.rs++[.list ([.str (Str.ofString "1")]++List.replicate ((BD t.rs).length-1) RT)]))]
abbrev NX(t:Tb)(p:Nat):List PyData:=Xh (BD t.rs) (Al t.ls) p++[qR (BD t.rs) (Al t.ls) p]
structure I0(t:Tb)(p:Nat):Prop where
 a:∀m:Int,si [.d l0,.d (.int m),.d (.list (BD t.rs)),.d (.list (Al t.ls)),.d (.int (p:Int)),.no,.no,.no]=some (.nx (eV t p m (.own (.lst (Xh (BD t.rs) (Al t.ls) p)))))
 b:∀m:Int,qP (eV t p m (.d (.list (Xh (BD t.rs) (Al t.ls) p))))=some (.list (NX t p))
 c:(NX t p).all PyData.canLay0=true
 l:(NX t p).length=32
theorem pW(g:Rat):I0 ⟨[[]],[g]⟩ 0:=⟨fun m=>by kernel_rfl,fun m=>by kernel_rfl,by kernel_rfl,by kernel_rfl⟩
theorem qG(a T g:Rat):I0 ⟨[[],[a]],[T,g]⟩ 0:=⟨fun m=>by kernel_rfl,fun m=>by kernel_rfl,by kernel_rfl,by kernel_rfl⟩
theorem pG(a T g:Rat):I0 ⟨[[],[a]],[T,g]⟩ 1:=⟨fun m=>by kernel_rfl,fun m=>by kernel_rfl,by kernel_rfl,by kernel_rfl⟩
theorem oZ(a b c U T g:Rat):I0 ⟨[[],[a],[b,c]],[U,T,g]⟩ 0:=⟨fun m=>by kernel_rfl,fun m=>by kernel_rfl,by kernel_rfl,by kernel_rfl⟩
theorem ox(a b c U T g:Rat):I0 ⟨[[],[a],[b,c]],[U,T,g]⟩ 1:=⟨fun m=>by kernel_rfl,fun m=>by kernel_rfl,by kernel_rfl,by kernel_rfl⟩
theorem oO(a b c U T g:Rat):I0 ⟨[[],[a],[b,c]],[U,T,g]⟩ 2:=⟨fun m=>by kernel_rfl,fun m=>by kernel_rfl,by kernel_rfl,by kernel_rfl⟩
theorem pE(a b c d e f Y U T g:Rat):I0 ⟨[[],[a],[b,c],[d,e,f]],[Y,U,T,g]⟩ 0:=⟨fun m=>by kernel_rfl,fun m=>by kernel_rfl,by kernel_rfl,by kernel_rfl⟩
theorem p4(a b c d e f Y U T g:Rat):I0 ⟨[[],[a],[b,c],[d,e,f]],[Y,U,T,g]⟩ 1:=⟨fun m=>by kernel_rfl,fun m=>by kernel_rfl,by kernel_rfl,by kernel_rfl⟩
theorem oz(a b c d e f Y U T g:Rat):I0 ⟨[[],[a],[b,c],[d,e,f]],[Y,U,T,g]⟩ 2:=⟨fun m=>by kernel_rfl,fun m=>by kernel_rfl,by kernel_rfl,by kernel_rfl⟩
theorem oj(a b c d e f Y U T g:Rat):I0 ⟨[[],[a],[b,c],[d,e,f]],[Y,U,T,g]⟩ 3:=⟨fun m=>by kernel_rfl,fun m=>by kernel_rfl,by kernel_rfl,by kernel_rfl⟩
theorem pR{t:Tb}(o:t.Ok 4):∀p,p<t.rs.length->I0 t p:=by
 obtain⟨rs,ls⟩:=t;have h1:=o.one;have h4:=o.most;have hl:=o.last;have Y:=o.row;dsimp only at h1 h4 hl Y;intro p T;dsimp only at T;rcases(by lia:rs.length=1\/rs.length=2\/rs.length=3\/rs.length=4) with e|e|e|e
 .obtain⟨r0,rfl⟩:=cR e;obtain⟨g,rfl⟩:=cR (hl.trans e);cases List.length_eq_zero_iff.mp (Y 0 r0 rfl)
  match p,T with
  |0,_=>exact pW g
  |p+1,T=>exact absurd T Ch
 .obtain⟨r0,r1,rfl⟩:=ln2 e;obtain⟨g,U,rfl⟩:=ln2 (hl.trans e);cases List.length_eq_zero_iff.mp (Y 0 r0 rfl);obtain⟨a,rfl⟩:=cR (Y 1 r1 rfl)
  match p,T with
  |0,_=>exact qG a g U
  |1,_=>exact pG a g U
  |p+2,T=>exact absurd T Ch
 .obtain⟨r0,r1,r2,rfl⟩:=nT e;obtain⟨g,U,Z,rfl⟩:=nT (hl.trans e);cases List.length_eq_zero_iff.mp (Y 0 r0 rfl);obtain⟨a,rfl⟩:=cR (Y 1 r1 rfl);obtain⟨b,c,rfl⟩:=ln2 (Y 2 r2 rfl)
  match p,T with
  |0,_=>exact oZ a b c g U Z
  |1,_=>exact ox a b c g U Z
  |2,_=>exact oO a b c g U Z
  |p+3,T=>exact absurd T Ch
 .obtain⟨r0,r1,r2,r3,rfl⟩:=qb e;obtain⟨g,U,Z,l3,rfl⟩:=qb (hl.trans e);cases List.length_eq_zero_iff.mp (Y 0 r0 rfl);obtain⟨a,rfl⟩:=cR (Y 1 r1 rfl);obtain⟨b,c,rfl⟩:=ln2 (Y 2 r2 rfl);obtain⟨d,e1,f,rfl⟩:=nT (Y 3 r3 rfl)
  match p,T with
  |0,_=>exact pE a b c d e1 f g U Z l3
  |1,_=>exact p4 a b c d e1 f g U Z l3
  |2,_=>exact oz a b c d e1 f g U Z l3
  |3,_=>exact oj a b c d e1 f g U Z l3
  |p+4,T=>exact absurd T Ch
theorem lL{t:Tb}(o:t.Ok 4)(c:Int):∃d,CY [Ac t,.int c]=some d/\d.canLay0=true/\Cq d=false:=by
 have h1:=o.one;have Z:=o.last;have U:(t.rs.length:Int)≠0:=by lia
 have e1:Int.fmod c (t.rs.length:Int)=c % (t.rs.length:Int):=Int.fmod_eq_emod_of_nonneg _ AS;have b1:=Int.emod_nonneg c U;have b2:=Int.emod_lt_of_pos c (show(0:Int)<(t.rs.length:Int) by lia);obtain⟨p,hp⟩:∃p:Nat,Int.fmod c (t.rs.length:Int)=(p:Int):=⟨(c % (t.rs.length:Int)).toNat,by lia⟩;have g:p<t.rs.length:=by lia
 have f1:Int.fmod (c.fdiv 4) 32=(c.fdiv 4) % 32:=Int.fmod_eq_emod_of_nonneg _ BY;obtain⟨j,hj⟩:∃j:Nat,Int.fmod (c.fdiv 4) 32=(j:Int):=⟨((c.fdiv 4) % 32).toNat,by lia⟩;have T:j<32:=by lia
 have R:=pR o p g;have hx:(NX t p)[j]? = some ((NX t p)[j]'(by rw[R.l];exact T)):=aM _;refine⟨(NX t p)[j]'(by rw[R.l];exact T),?_,List.all_eq_true.mp R.c _ (bY _),?_⟩
 .refine E9 rfl ?_;unfold Mx;refine Aa (δ':=[.d l0,.d (.int c),.d (.list (BD t.rs)),.d (.list (Al t.ls)),.no,.no,.no,.no]) rfl (Aa (Bl (y:=.int (p:Int)) (BA (x:=.int c) (y:=.int ((Al t.ls).length:Int)) rfl rfl ?_)) (Aa (Bl (y:=.int (c.fdiv 4)) rfl) (nk (R.a (c.fdiv 4)) ?_)))
  .show(if((Al t.ls).length:Int)≠0 then some (PyData.int (c.fmod ((Al t.ls).length:Int))) else none)=_;rw[DV,Z,if_pos U,hp]
  .show Bn (AO B1 qP (AO ID On (fC (.int 32)))) (eV t p (c.fdiv 4) (.d (.list (Xh (BD t.rs) (Al t.ls) p))))=_;refine F3 (BA (R.b _) (y:=.int (j:Int)) (BA (x:=.int (c.fdiv 4)) (y:=.int 32) rfl rfl ?_) ?_)
   .show(if(32:Int)≠0 then some (PyData.int ((c.fdiv 4).fmod 32)) else none)=_;rw[if_pos BY,hj]
   .show Gm _ _=_;rw[Kw];exact hx
 .rcases bH.mp (bY (l:=NX t p) (n:=j) (by rw[R.l];exact T)) with h|h
  .exact ij (by rw[B5];exact h1) (by rw[B5,DV];exact Z) (by rw[B5];exact g) _ h
  .rw[List.mem_singleton.mp h];have Y:t.rs[p]? = some t.rs[p]:=aM g;exact iQ (xs:=Al t.rs[p]) (by unfold BD;rw[List.getElem?_map,Y];rfl) (by rw[DV];exact o.row p _ Y)
section
variable{C C1 C3:Addr}{d:KB}{a b:Tb}{m n:Nat}
abbrev qg(C3:Addr):List PyData->Option Xr:=BQ C3
theorem pF(h:a.rs.length+b.rs.length<=40):qg C [.list [Ac a,Ac b]]=some (.inl .none):=by
 refine SK (δ:=[.d (.list [Ac a,Ac b])]) rfl ?_;unfold Hu;refine Yl (Bv (x:=.int [((BD a.rs).length:Int),((BD b.rs).length:Int)].sum) (y:=.int 40) rfl rfl ?_) rfl;show some (PyData.bool (decide ((40:Int) < [((BD a.rs).length:Int),((BD b.rs).length:Int)].sum)))=_;rw[B5,B5,decide_eq_false mu]
abbrev cm(C1 C3:Addr):List PyData->Option Xr:=Cv (dD C1) (qg C3)
def gb(ls:db):PyData->PyData
 |.list r=>.list (Al ls++r)
 |d=>d
theorem jc(rs:List (List Rat)):∀x∈BD rs,PH [x]=some x:=fun x g=>by obtain⟨r,_,rfl⟩:=aU.mp g;rfl
theorem gM(ha:a.Ok m)(hm:m<=40)(hb:b.Ok n)(hn:n<=40)(h:a.rs.length+b.rs.length<=40):cm C1 C3 [Ac a,Ac b]=some (.inl (Ac (a.behind b))):=by
 have hal:=ha.last;have Z:=hb.last;refine My rfl ?_;unfold MT;refine GV (FW (ds:=[Ac a]) rfl (OD ha hm)) (GV (FW (ds:=[Ac b]) rfl (OD hb hn)) (GV (FW (ds:=[.list [Ac a,Ac b]]) rfl (pF h)) ?_));refine OL ?_;have eR:BD (a.behind b).rs=(BD a.rs).map id++(BD b.rs).map (gb a.ls):=by
  rw[List.map_id,Tb.behind,BD,List.map_append]
  congr 1
  rw[BD,List.map_map,List.map_map];exact av fun r _=>by show Bq (a.ls++r)=.list (Al a.ls++Al r);rw[Bq,OJ]
 refine Aa (Bl (y:=.list (BD (a.behind b).rs)) ?_) (F3 (Ks (AY rfl (AY (x:=.list (Al (a.behind b).ls)) (BA (x:=.list (Al a.ls)) (y:=.list (Al b.ls)) rfl rfl ?_) rfl)) (show 2<=1000 by decide)))
 .rw[eR];refine BA (comp_map (xs:=BD a.rs) (g:=id) rfl (by rw[B5];unfold CG;lia) fun x T=>Am (xs:=[x]) rfl (jc _ x T)) (comp_map (xs:=BD b.rs) (g:=gb a.ls) rfl (by rw[B5];unfold CG;lia) fun x T=>?_) (add_l (by rw[List.length_map,List.length_map,B5,B5];unfold CG;lia));obtain⟨r,Y,rfl⟩:=aU.mp T;have:=hb.rB r Y;exact BA (x:=.list (Al a.ls)) (y:=Bq r) rfl rfl (add_l (by rw[DV,DV];unfold CG;lia))
 .refine(add_l (by rw[DV,DV];unfold CG;lia)).trans ?_;rw[Tb.behind,OJ]
end
def Ii:List PyData:=[.none,.int 0,.tuple [.int 0,.list [],.tuple [.tuple [],.tuple [.int 1,.int 1]]],.tuple [.int 0,.list [],.none],.list [],.tuple [.int 7,.list [],.none]]
section
variable{C1 C2:Addr}
theorem nh{t:Tb}(o:t.Ok 4):∀p∈Ii,Xk C1 C2 [Ac t,p]=some (.inl lf):=by
 intro p g;refine My rfl ?_;unfold Hx;refine GV (FW (ds:=[Ac t]) rfl (Yk o)) (OL ?_);unfold Ii at g;simp only[List.mem_cons,List.not_mem_nil,or_false]at g;rcases g with rfl|rfl|rfl|rfl|rfl|rfl
 .kernel_rfl
 .kernel_rfl
 .kernel_rfl
 .kernel_rfl
 .kernel_rfl
 .kernel_rfl
end
section
variable{P:Io}{w:Mw}{K:As}{mg:Fa}{base:Heap}{f:Addr} 
theorem cc:Ag ["_law_script","_law_table_here","_law_papers","_law_paper","_law_k","_law_great"] ["_law_script"] (AL RL):=⟨rfl,rfl,rfl,by decide +kernel,rfl,by decide +kernel,by decide +kernel⟩
def SO(C6:AC)(DJ:AC)(CY:AC)(Ba:Do)(Bb:Do)(Cv:Do):DF :=
 (Af (Bh 2 (BG (AA uB (AA Js (AA (Az (AA Js (AA (BG AF) (AA (Az (AA (Az AF) (AA (Az (AA Fk (AA Fk AF))) AF))) AF)))) (AA (Az (AA Js (AA (BG AF) (AA uB AF)))) (AA (BG AF) (AA (Az (AA (fC (.int 7)) (AA (BG AF) (AA uB AF)))) AF))))))))
 (Af (Bh 3 (AO B1 N6 (AO ID (AW C6 (AA Ni (AA tT AF))) tT)))
 (Af (C4 (Cy IK (AA (fC (.int 8)) AF)) (Es 4)
  (Fm (B8 (En true) (AW DJ (AA (AW CY (AA On (AA (AW C6 (AA Ni (AA (AO A6 (fC (.int 7)) (nm 4)) AF))) AF))) Tm)) (BG (AA (BG (AA (fC (.str gv)) AF)) (AA (BG (AA (fC (.str gv)) AF)) AF))))
   (Bn (fC lf))
   Ck))
 (Af (Bh 5 (AW (good Cv) (AA On uv)))
 (Af (G8 (B8 Q4 (AW Fj (AA (AO B1 (nm 5) Js) AF)) tT)
  (Bh 5 (AW (good Cv) (AA (nm 5) uv))) 8)
 (Af (Fm (B8 (En true) (AW DJ (AA (nm 5) Tm)) (BG (AA (BG (AA (fC (.str ku)) AF)) (AA (BG (AA (fC (.str ku)) AF)) AF))))
  (Bn (fC lf))
  Ck)
 (Af (Fm (B8 (dj true) (AW (good Ba) (AA On (AA (AW (good Bb) uv) AF))) (fC KM))
  (Bn (fC lf))
  Ck)
 (Bn (AO (En false) (AW DJ (AA On Tm)) (BG (AA (BG AF) (AA (BG AF) AF))))))))))))
theorem eg{k:Nat}{C6:AC}{DJ:AC}{CY:AC}{Ba:Do}{Bb:Do}{Cv:Do}
 {Y:Addr}{Z:IR}(B9:Fn K mg "_law_cell" FZ Oo Y Z)(C7:AH P w K mg base Ah k Y Z Oo (Bc C6))
 {OG:Addr}{Nq:IR}(U:Fn K mg "_law_flags" Iq UF OG Nq)(T:AH P w K mg base Ah k OG Nq UF (Bc DJ))
 {Mn:Addr}{Li:IR}(EU:Fn K mg "_law_spoiled" HN Sc Mn Li)(Fs:AH P w K mg base Ah k Mn Li Sc (Bc CY))
 {GI:Addr}{Fz:IR}(Cj:Fn K mg "judge_paper" GO t8 GI Fz)(DY:AH P w K mg base ce k GI Fz t8 (Ep Ba))
 {GL:Addr}{Fw:IR}(Cf:Fn K mg "order_paper" GG UV GL Fw)(DQ:AH P w K mg base ce k GL Fw UV (Ep Bb))
 {M1:Addr}{Lh:IR}(De:Fn K mg "table_behind" HG MY M1 Lh)(ER:AH P w K mg base ce k M1 Lh MY (Ep Cv))(A4:io)(BP:uT)(cdv:Nh)(A:Re)(outer:List Env)(s:IN)(H:Hp)(E:XK)(g:DC k (A.deeper (PyProof.Rows.envOfC "law" (AL RL) s.heap.objs.size f cdv))) :
  Mf (Cp Ah P w K mg base ["_law_script","_law_table_here","_law_papers","_law_paper","_law_k","_law_great"] "law" (AL RL) f cdv A outer s H E).JL ((EE RL).drop 1) (SO C6 DJ CY Ba Bb Cv):=by
 have sc:=cc;exact(AM (Bf (i:=2) sc.nd rfl Cl (A9 (AB Fy (AB AI (AB (A8 (AB AI (AB (A9 AE) (AB (A8 (AB (A8 AE) (AB (A8 sK) AE))) AE)))) (AB (A8 (AB AI (AB (A9 AE) (AB Fy AE)))) (AB (A9 AE) (AB (A8 (AB AI (AB (A9 AE) (AB Fy AE)))) AE))))))))
 (AM (Bf (i:=3) sc.nd rfl Cl (Bj Ju (A1 JX (Ap B9 C7 g rfl (AB HX (AB AI AE))) AI) Fr))
 (AM (Dz aP rfl (Jz rfl BP (AB AI AE)) (E2 (A5 (i:=4) sc.nd rfl Cl))
  (Ab (Dh (Bw (Kh Nv) (Ap U T g rfl (AB (Ap EU Fs g rfl (AB JT (AB (Ap B9 C7 g rfl (AB HX (AB (A1 BN AI uN) AE))) AE))) (AB Ps AE))) (A9 (AB (A9 (AB Cd AE)) (AB (A9 (AB Cd AE)) AE))) ii)
   (Ab (BM Gp))
   CA)))
 (AM (Bf (i:=5) sc.nd rfl Cl (Ap De (Uu ER) g rfl (AB JT (AB JT AE))))
 (AM (fF 8 aP (Bw Q2 (Df Gs rfl A4 ae (AB (Bj (AD (pv 5)) AI Fr) AE)) AI ii)
  (Ab (Bf (i:=5) sc.nd rfl Cl (Ap De (Uu ER) g rfl (AB (AD (pv 5)) (AB JT AE))))))
 (AM (Dh (Bw (Kh Nv) (Ap U T g rfl (AB (AD (pv 5)) (AB Ps AE))) (A9 (AB (A9 (AB Cd AE)) (AB (A9 (AB Cd AE)) AE))) ii)
  (Ab (BM Gp))
  CA)
 (AM (Dh (Bw cZ (Ap Cj (Uu DY) g rfl (AB JT (AB (Ap Cf (Uu DQ) g rfl (AB JT AE)) AE))) Gp ii)
  (Ab (BM Gp))
  CA)
 (Ab (BM (Mc (O8 Nv) (Ap U T g rfl (AB JT (AB Ps AE))) (A9 (AB (A9 AE) (AB (A9 AE) AE))) ii))))))))))
end
def GH(a b:Addr)(x y:Bool):Addr->Option Bool:=fun C=>if C=a then some x else if C=b then some y else none
theorem gf{a b:Addr}{x y:Bool}:GH a b x y a=some x:=if_pos rfl
theorem fq{a b:Addr}{x y:Bool}(h:a≠b):GH a b x y b=some y:=(if_neg fun z=>h z.symm).trans (if_pos rfl)
theorem HB{K:As}{a b:Addr}{x y:Bool}{cv:V}(T:D0 K a)(g:D0 K b)(Y:PySem.W.kitOne K Mt (Dy cv)=some x)(U:PySem.W.kitOne K (.ref b) (Dy cv)=some y):∀C z,GH a b x y C=some z->D0 K C/\PySem.W.kitOne K Pi (Dy cv)=some z:=fun C z h=>by
 unfold GH at h;split at h
 .rename_i e;subst e;cases h;exact⟨T,Y⟩
 .split at h
  .rename_i e;subst e;cases h;exact⟨g,U⟩
  .cases h
theorem lD{T:Hb}{C:Addr}{b:Bool}(h:T C=some b):dS T (GZ C)=some (.bool b):=by
 show(T ((C:Nat):Int).toNat).map PyData.bool=_;rw[Int.toNat_natCast,h];rfl
theorem Bk{T:Hb}{C:Addr}{b:Bool}{f:GM}{δ:Dv}(g:f δ=some (GZ C))(h:T C=some b):IM T f δ=some (.bool b):=by
 show(f δ).bind _=_;rw[g];exact lD h
abbrev Mr(C1 C2:Addr):List PyData->Option PyData :=
 Cm ms ms ms ms ms ms (GH C1 C2 true false) ms ms ms ms (GH C1 C2 false true) (GH C1 C2 true true)
theorem fe{C1 C2:Addr}:Mr C1 C2 [GZ C1]=some (.list [.str gv]):=by
 refine E9 rfl ?_;unfold KC;have n:∀ {y:Bool},GH C1 C2 false y C1=some false:=gf;have t:∀ {y:Bool},GH C1 C2 true y C1=some true:=gf;refine Aa (Ek rfl rfl) ?_;refine Aa (Bl (Ig (AY sq (AY sq (AY sq rfl))) BY)) ?_;refine Aa (Bl (BA rfl (Ig (AY sq (AY (Bk (C:=C1) rfl t) (AY sq rfl))) BY) rfl)) ?_;refine Aa (Bl (BA rfl (Ig (AY sq (AY sq (AY sq rfl))) BY) rfl)) ?_;refine Aa (Bl (BA rfl (Ig (AY sq (AY sq (AY sq rfl))) BY) rfl)) ?_;refine Aa rfl ?_;refine Aa (Bl (y:=.list [.str gv]) rfl) ?_;exact Ku (L4 (HP (Bk (C:=C1) rfl t)) rfl)
theorem eM{C1 C2:Addr}(h:C1≠C2):Mr C1 C2 [GZ C2]=some (.list [.str ku]):=by
 refine E9 rfl ?_;unfold KC;have n:∀ {y:Bool},GH C1 C2 y false C2=some false:=fq h;have t:∀ {y:Bool},GH C1 C2 y true C2=some true:=fq h;refine Aa (Ek rfl rfl) ?_;refine Aa (Bl (Ig (AY ss (AY ss (AY ss rfl))) BY)) ?_;refine Aa (Bl (BA rfl (Ig (AY ss (AY ss (AY ss rfl))) BY) rfl)) ?_;refine Aa (Bl (BA rfl (Ig (AY ss (AY ss (AY ss rfl))) BY) rfl)) ?_;refine Aa (Bl (BA rfl (Ig (AY (Bk (C:=C2) rfl t) (AY ss (AY ss rfl))) BY) rfl)) ?_;refine Aa rfl ?_;refine Aa (Bl (y:=.list [.str ku]) rfl) ?_;exact Ku (L4 (HP (Bk (C:=C2) rfl t)) rfl)
theorem VQ{C1 C2:Addr}:Mr C1 C2 [.none]=some (.list []):=E9 rfl (Ku (L4 rfl rfl))
theorem kZ{F:DF}{δ δ2 g:Dv}(U:F (δ.set 3 (.d (.int 0)))=some (.nx δ2))(T:F (δ2.set 3 (.d (.int 1)))=some (.nx g)):C4 (Cy IK (AA (fC (.int 2)) AF)) (Es 3) F δ=some (.nx g):=by
 have Z:Es 3 (.int 0) δ=some (δ.set 3 (.d (.int 0))):=rfl;have Y:Es 3 (.int 1) δ2=some (δ2.set 3 (.d (.int 1))):=rfl;show Ex (Es 3) F [.int 0,.int 1] δ=_;unfold Ex;rw[Z,Option.bind_some,U];show Ex (Es 3) F [.int 1] δ2=_;unfold Ex;rw[Y,Option.bind_some,T]
 rfl
noncomputable abbrev mO(C1 C2:Addr):List PyData->Option Xr:=only [C1,C2] (Xk C1 C2)
noncomputable abbrev mv(C1 C2:Addr):List PyData->Option Xr:=only [C1,C2] (cT C1 C2)
noncomputable abbrev Vz(C1 C2:Addr):List PyData->Option PyData:=DJ (Mr C1 C2) (mO C1 C2) (mv C1 C2)
theorem gC{C1 C2 C:Addr}{d p y:KB}(h0:mv C1 C2 [d]=some (.inr C))(Y:mO C1 C2 [d,p]=some (.inr C))(T:Mr C1 C2 [GZ C]=some y):Vz C1 C2 [d,p]=some (.list [y,y]):=by
 refine S5 rfl ?_;unfold LW;refine Aa (δ':=[.d d,.d p,.own re,.no,.no,.no]) rfl (Aa (δ':=[.d d,.d p,.own (.lst [y,y]),.d (.int 1),.d (GZ C),.no]) (kZ (δ2:=[.d d,.d p,.own (.lst [y]),.d (.int 0),.d (GZ C),.no]) ?_ ?_) rfl)
 .exact Aa rfl (Aa (VU (C:=C) (δ':=[.d d,.d p,.own re,.d (.int 0),.d (GZ C),.d (GZ C)]) (O0 (gA rfl (O0 (WW (ds:=[d]) rfl h0)))) rfl) (N9 (xs:=[]) (Am (xs:=[GZ C]) rfl T) rfl BY))
 .exact Aa rfl (Aa (VU (C:=C) (δ':=[.d d,.d p,.own (.lst [y]),.d (.int 1),.d (GZ C),.d (GZ C)]) (O0 (f9 rfl (O0 (WW (ds:=[d,p]) rfl Y)))) rfl) (N9 (xs:=[y]) (Am (xs:=[GZ C]) rfl T) rfl (by show(1:Nat)<CG;decide)))
theorem kz{C1 C2:Addr}{d p x y:KB}(h0:mv C1 C2 [d]=some (.inl x))(U:mO C1 C2 [d,p]=some (.inl y)):Vz C1 C2 [d,p]=some (.list [.list [],.list []]):=by
 refine S5 rfl ?_;unfold LW;refine Aa (δ':=[.d d,.d p,.own re,.no,.no,.no]) rfl (Aa (δ':=[.d d,.d p,.own (.lst [.list [],.list []]),.d (.int 1),.d .none,.no]) (kZ (δ2:=[.d d,.d p,.own (.lst [.list []]),.d (.int 0),.d .none,.no]) ?_ ?_) rfl)
 .exact Aa rfl (Aa (Ve (Oz (gA rfl (Oz (VS (ds:=[d]) rfl h0) rfl)) rfl)) (N9 (xs:=[]) (Am (xs:=[.none]) rfl VQ) rfl BY))
 .exact Aa rfl (Aa (Ve (Oz (f9 rfl (Oz (VS (ds:=[d,p]) rfl U) rfl)) rfl)) (N9 (xs:=[.list []]) (Am (xs:=[.none]) rfl VQ) rfl (by show(1:Nat)<CG;decide)))
theorem nK{C1 C2:Addr}{d p:KB}(g:d.canLay0=true)(h:Cq d=false):Vz C1 C2 [d,p]=some (.list [.list [.str gv],.list [.str gv]]) :=
 gC (Ow (gK (fj g h)) M2) (Ow (gr (fj g h)) M2) fe
theorem iq{C1 C2:Addr}(g:C1≠C2){t:Tb}{m:Nat}{p:KB}(o:t.Ok m)(hm:m<=40)(T:6<=t.rs.length):Vz C1 C2 [Ac t,p]=some (.list [.list [.str ku],.list [.str ku]]) :=
 gC (Ow (gK (XE o hm T)) (.tail _ M2)) (Ow (gr (XE o hm T)) (.tail _ M2)) (eM g)
theorem iu{C1 C2:Addr}{t:Tb}(o:t.Ok 4)(s:t.Sm){p:KB}(g:p∈Ii):Vz C1 C2 [Ac t,p]=some (.list [.list [],.list []]):=by
 obtain⟨k,u,h⟩:=cV o s;exact kz (YC (gk o s h)) (YC (nh o p g))
section
variable{P:Io}{w:Mw}{K:As}{mg:Fa}{base:Heap}{f:Addr}{fd:IR}
theorem OO:Ag tU Oo (AL FZ):=⟨rfl,rfl,rfl,by decide +kernel,rfl,by decide +kernel,by decide +kernel⟩
def MG:DF :=
 (Af (Bh 2 Js)
 (Af (Fm (B8 Q4 On (AW Fj (AA Ni AF)))
  (Bh 2 (AO B1 Ni On))
  Ck)
 (Af (Fm (B8 (Ez fun i j=>decide (j<=i)) N6 (AO OX (fC (.int 10)) (fC (.int 18))))
  (Bn (AO ID (AO YZ N6 (AO OX (fC (.int 10)) (fC (.int 18)))) (AO OX (fC (.int 10)) (fC (.int 60)))))
  Ck)
 (Af (Bh 3 (AO ID (AO A6 (AO A6 (AO FX N6 (fC (.int 48271))) (AO FX On (fC (.int 69621)))) (fC (.int 11))) (fC (.int 2147483629))))
 (Af (Bh 4 Js)
 (Af (C4 (Cy IK (AA (fC (.int 8)) AF)) (Es 5)
  (Af To
  (Bh 4 jj)))
 (Bn (nm 4))))))))
def C6:List PyData->Option PyData:=Dg Oo tU (MG)
theorem Vm{k:Nat}(F:Fn K mg "_law_cell" FZ Oo f fd)(T:io)(g:uT) :
  AH P w K mg base Ah oF f fd Oo (Bc (C6)):=IZ F OO fun cdv A outer s H E U=>by
 have sc:=OO;exact(AM (Bf (i:=2) sc.nd rfl Cl AI)
 (AM (Dh (Bw Q2 JT (Df Gs rfl T ae (AB HX AE)) ii)
  (Ab (Bf (i:=2) sc.nd rfl Cl (Bj HX JT Fr)))
  CA)
 (AM (Dh (Bw gn Ju (A1 Se AI AI) ii)
  (Ab (BM (A1 JX (A1 XI Ju (A1 Se AI AI)) (A1 Se AI AI))))
  CA)
 (AM (Bf (i:=3) sc.nd rfl Cl (A1 JX (A1 BN (A1 BN (A1 LR Ju AI) (A1 LR JT AI)) AI) AI))
 (AM (Bf (i:=4) sc.nd rfl Cl AI)
 (AM (Dz aP rfl (Jz rfl g (AB AI AE)) (E2 (A5 (i:=5) sc.nd rfl Cl))
  (AM (Bf (i:=3) sc.nd rfl Cl (A1 JX (A1 BN (A1 BN (A1 LR Ps Ps) (A1 LR AI (AD (pv 5)))) AI) AI))
  (Ab (Bf (i:=4) sc.nd rfl Cl (A1 BN (A1 LR uN AI) (A1 JX (A1 LR Ps Ps) AI))))))
 (Ab (BM uN))))))))
end
theorem X6(ns:XV)(k:Nat):∃c,C6 [D7 ns,.int (k:Nat)]=some (.int c):=by
 suffices hh:∃c,MG [.d (D7 ns),.d uC,.no,.no,.no,.no]=some (.rt (.int c)) by
  obtain⟨c,h⟩:=hh;exact⟨c,E9 rfl h⟩
 unfold MG;have Z:∃g,(Fm (B8 Q4 On (AW Fj (AA Ni AF))) (Bh 2 (AO B1 Ni On)) Ck) [.d (D7 ns),.d uC,.d (.int 0),.no,.no,.no]=some (.nx [.d (D7 ns),.d uC,.d (.int g),.no,.no,.no]):=by
  have t:B8 Q4 On (AW Fj (AA Ni AF)) [.d (D7 ns),.d uC,.d (.int 0),.no,.no,.no]=some (decide ((k:Int)<((ns.map PyData.int).length:Nat))):=Bv (x:=.int (k:Nat)) (y:=.int ((ns.map PyData.int).length:Nat)) rfl rfl rfl;rw[List.length_map]at t;by_cases z:k<ns.length
  .rw[decide_eq_true (show(k:Int)<(ns.length:Nat) by lia)]at t;exact⟨ns[k],L4 t (Bl (BA (x:=D7 ns) (y:=.int (k:Nat)) rfl rfl (Kw (by rw[List.getElem?_map,List.getElem?_eq_getElem z];rfl))))⟩
  .rw[decide_eq_false (show ¬(k:Int)<(ns.length:Nat) by lia)]at t;exact⟨0,Ek t rfl⟩
 obtain⟨g,Z⟩:=Z;have T:AO OX (fC (.int 10)) (fC (.int 18)) [.d (D7 ns),.d uC,.d (.int g),.no,.no,.no]=some (.int ((10:Int)^18)):=BA (x:=.int 10) (y:=.int 18) rfl rfl (bz (n:=18) BY BY);have p60:AO OX (fC (.int 10)) (fC (.int 60)) [.d (D7 ns),.d uC,.d (.int g),.no,.no,.no]=some (.int ((10:Int)^60)):=BA (x:=.int 10) (y:=.int 60) rfl rfl (bz (n:=60) BY BY);have U:B8 (Ez fun i j=>decide (j<=i)) N6 (AO OX (fC (.int 10)) (fC (.int 18))) [.d (D7 ns),.d uC,.d (.int g),.no,.no,.no]=some (decide ((10:Int)^18<=g)):=Bv (x:=.int g) (y:=.int ((10:Int)^18)) rfl T rfl;by_cases z:(10:Int)^18<=g
 .rw[decide_eq_true z]at U;exact⟨_,Aa rfl (Aa Z (Ku (L4 U (F3 (BA (x:=.int (g-(10:Int)^18)) (BA (x:=.int g) rfl T rfl) p60 (mod_is (Int.pow_pos BY)))))))⟩
 .rw[decide_eq_false z]at U;have hn:∀(a:Int) (m:Int),0<m->m<2^60->(a % m).natAbs<2^64:=fun a m h0 h1=>by
   have:=Int.emod_nonneg a (by lia:m≠0);have:=Int.emod_lt_of_pos a h0
   lia
  generalize Y:(g*48271+(k:Int)*69621+11) % 2147483629=v;have v1:v.natAbs<2^64:=by rw[<-Y];exact hn _ _ BY BY
  have e3:AO ID (AO A6 (AO A6 (AO FX N6 (fC (.int 48271))) (AO FX On (fC (.int 69621)))) (fC (.int 11))) (fC (.int 2147483629)) [.d (D7 ns),.d uC,.d (.int g),.no,.no,.no]=some (.int v):=by
   refine BA (x:=.int (g*48271+(k:Int)*69621+11)) (y:=.int 2147483629) (BA (x:=.int (g*48271+(k:Int)*69621)) (y:=.int 11) (BA (x:=.int (g*48271)) (y:=.int ((k:Int)*69621)) (BA (x:=.int g) (y:=.int 48271) rfl rfl (mul_r BY)) (BA (x:=.int (k:Nat)) (y:=.int 69621) rfl rfl (mul_r BY)) rfl) rfl rfl) rfl ((mod_is BY).trans ?_);rw[Y]
  have loop:∀(F2:DF) (r:PyData->Prop),(∀(v f:Int) (l:L),∃c,F2 [.d (D7 ns),.d uC,.d (.int g),.d (.int v),.d (.int f),l]=some (.rt (.int c)))->∃c,Af (C4 (Cy IK (AA (fC (.int 8)) AF)) (Es 5) (Af To (Bh 4 jj))) F2 [.d (D7 ns),.d uC,.d (.int g),.d (.int v),.d (.int 0),.no]=some (.rt (.int c)):=fun F2 r hF=>by
   have h:=Sv (set:=Es 5) (F:=Af To (Bh 4 jj)) (fs:=Cy IK (AA (fC (.int 8)) AF)) (δ:=[.d (D7 ns),.d uC,.d (.int g),.d (.int v),.d (.int 0),.no]) (xs:=Jb 0 8) (Q:=fun δ=>∃(v f:Int) (l:L),δ=[.d (D7 ns),.d uC,.d (.int g),.d (.int v),.d (.int f),l]) (fun i δ=>∃(v f:Int) (l:L),v.natAbs<2^64/\δ=[.d (D7 ns),.d uC,.d (.int g),.d (.int v),.d (.int f),l]) rfl ⟨v,0,_,v1,rfl⟩ ?_ ?_
   .obtain⟨δ',e,v',f',l,rfl⟩:=h;obtain⟨c,hc⟩:=hF v' f' l;exact⟨c,Aa e hc⟩
   .rintro i y δ hy ⟨v,f,l,Y,rfl⟩;obtain⟨rfl,_⟩:=SU hy;have hu:((v*v+69621*(0+(i:Int))+7) % 2147483587).natAbs<2^64:=hn _ _ BY BY;refine⟨_,rfl,?_⟩;refine ZE (Bl (y:=.int ((v*v+69621*(0+(i:Int))+7) % 2147483587)) (BA (x:=.int (v*v+69621*(0+(i:Int))+7)) (y:=.int 2147483587) (BA (x:=.int (v*v+69621*(0+(i:Int)))) (y:=.int 7) (BA (x:=.int (v*v)) (y:=.int (69621*(0+(i:Int)))) (BA (x:=.int v) (y:=.int v) rfl rfl (mul_r Y)) (BA (x:=.int 69621) (y:=.int (0+(i:Int))) rfl rfl (qD BY)) rfl) rfl rfl) rfl (mod_is BY))) ?_;generalize (v*v+69621*(0+(i:Int))+7) % 2147483587=u at hu;exact⟨_,Bl (y:=.int (f*2147483563+u*u % 2147483563)) (BA (x:=.int (f*2147483563)) (y:=.int (u*u % 2147483563)) (BA (x:=.int f) (y:=.int 2147483563) rfl rfl (mul_r BY)) (BA (x:=.int (u*u)) (y:=.int 2147483563) (BA (x:=.int u) (y:=.int u) rfl rfl (mul_r hu)) rfl (mod_is BY)) rfl),u,_,_,hu,rfl⟩
   .rintro δ ⟨v,f,l,_,rfl⟩;exact⟨v,f,l,rfl⟩
  obtain⟨c,hc⟩:=loop (Bn (nm 4)) (fun _=>True) fun v f l=>⟨f,rfl⟩;exact⟨c,Aa rfl (Aa Z (Aa (Ek U rfl) (Aa (Bl e3) (Aa rfl hc))))⟩
theorem lI:En true (.list [.list [.str gv],.list [.str gv]]) (.list [.list [.str gv],.list [.str gv]])=some lf:=by kernel_rfl
theorem jH:En true (.list [.list [.str ku],.list [.str ku]]) (.list [.list [.str ku],.list [.str ku]])=some lf:=by kernel_rfl
theorem S4:En false (.list [.list [],.list []]) (.list [.list [],.list []])=some KM:=by kernel_rfl
theorem Tb.Ok.self{t:Tb}{m:Nat}(o:t.Ok m):t.Ok t.rs.length:=⟨o.one,Nat.le_refl _,o.last,o.row⟩
theorem QQ(a b:Tb):(a.behind b).rs.length=a.rs.length+b.rs.length:=by unfold Tb.behind;simp
section
variable{C1 C2:Addr}
theorem tI{t:Tb}(o:t.Ok 4){d0 d2 d3 d4:L}:∀(k:Nat) (g:Tb),g.Ok g.rs.length->g.rs.length<=9->6<=g.rs.length+k->∃g':Tb,g'.Ok g'.rs.length/\6<=g'.rs.length/\g'.rs.length<=9 /\
  G8 (B8 Q4 (AW Fj (AA (AO B1 (nm 5) Js) AF)) tT) (Bh 5 (AW (good (cm C1 C2)) (AA (nm 5) uv))) oF [d0,.d l0,d2,d3,d4,.d (Ac g)]=some (.nx [d0,.d l0,d2,d3,d4,.d (Ac g')]):=by
 intro k
 induction k with
 |zero=>
  intro g U Y Z;refine⟨g,U,Z,Y,?_⟩;have e:B8 Q4 (AW Fj (AA (AO B1 (nm 5) Js) AF)) tT [d0,.d l0,d2,d3,d4,.d (Ac g)]=some false:=Bv (x:=.int ((BD g.rs).length:Nat)) (y:=.int 6) rfl rfl (by
   show some (PyData.bool (decide (((BD g.rs).length:Int)<6)))=_;rw[B5,decide_eq_false AS])
  unfold G8;rw[e]
  rfl
 |succ k ih=>
  intro g U Y Z;by_cases hg:6<=g.rs.length
  .refine⟨g,U,hg,Y,?_⟩;have e:B8 Q4 (AW Fj (AA (AO B1 (nm 5) Js) AF)) tT [d0,.d l0,d2,d3,d4,.d (Ac g)]=some false:=Bv (x:=.int ((BD g.rs).length:Nat)) (y:=.int 6) rfl rfl (by
    show some (PyData.bool (decide (((BD g.rs).length:Int)<6)))=_;rw[B5,decide_eq_false AS])
   unfold G8;rw[e]
   rfl
  .have e:B8 Q4 (AW Fj (AA (AO B1 (nm 5) Js) AF)) tT [d0,.d l0,d2,d3,d4,.d (Ac g)]=some true:=Bv (x:=.int ((BD g.rs).length:Nat)) (y:=.int 6) rfl rfl (by
    show some (PyData.bool (decide (((BD g.rs).length:Int)<6)))=_;rw[B5,decide_eq_true AS])
   have h1:=o.one;have h4:=o.most;have st:Bh 5 (AW (good (cm C1 C2)) (AA (nm 5) uv)) [d0,.d l0,d2,d3,d4,.d (Ac g)]=some (.nx [d0,.d l0,d2,d3,d4,.d (Ac (g.behind t))]):=Bl (y:=Ac (g.behind t)) (Am (xs:=[Ac g,Ac t]) rfl (O6 (gM U AS o BY AS)));obtain⟨g',a1,a2,a3,a4⟩:=ih (g.behind t) ((U.behind o).self) (by rw[QQ];lia) (by rw[QQ];lia);refine⟨g',a1,a2,a3,?_⟩;rw[G8,e];show(match Bh 5 _ _ with|some (.nx T)=>_|some (.ct T)=>_|some (.bk T)=>_|some (.rt v)=>_|some (.rn v)=>_|none=>_)=_;rw[st];exact a4
theorem nE(h12:C1≠C2)(ns:XV){t:Tb}(o:t.Ok 4)(s:t.Sm):SO C6 (Vz C1 C2) CY (Xk C1 C2) (cT C1 C2) (cm C1 C2) [.d (D7 ns),.d l0,.no,.no,.no,.no]=some (.rt KM):=by
 have h1:=o.one;have h4:=o.most;obtain⟨c,hc⟩:=X6 ns 6;have b1:=Int.emod_nonneg c (show(6:Int)≠0 by decide);have b2:=Int.emod_lt_of_pos c (show(0:Int)<6 by decide);obtain⟨j,hj⟩:∃j:Nat,c % 6=(j:Int):=⟨(c % 6).toNat,by lia⟩;have Y:j<Ii.length:=by show j<6;lia
 obtain⟨p,hp⟩:∃p,Ii[j]? = some p:=⟨Ii[j],List.getElem?_eq_getElem Y⟩;have U:p∈Ii:=aK hp;unfold SO;refine Aa (δ':=[.d (D7 ns),.d l0,.d (.list Ii),.no,.no,.no]) rfl ?_;refine Aa (δ':=[.d (D7 ns),.d l0,.d (.list Ii),.d p,.no,.no]) (Bl (y:=p) (BA (x:=.list Ii) (y:=.int (j:Int)) rfl (BA (x:=.int c) (y:=.int 6) (Am (xs:=[D7 ns,.int ((6:Nat):Int)]) rfl hc) rfl ((mod_is BY).trans (by rw[hj]))) (by
  show Gm _ _=_;rw[Kw];exact hp))) ?_
 refine QE (xs:=Jb 0 8) (fun i δ=>∃l:L,δ=[.d (D7 ns),.d l0,.d (.list Ii),.d p,l,.no]) (lW (j:=8) rfl BY BY) ⟨_,rfl⟩ ?_ ?_
 .rintro i x δ hx ⟨l,rfl⟩;obtain⟨rfl,hi⟩:=SU hx;obtain⟨c2,Z⟩:=X6 ns (7+i);obtain⟨d,e1,e2,e3⟩:=lL o c2;refine⟨_,rfl,[.d (D7 ns),.d l0,.d (.list Ii),.d p,.d (.int (0+(i:Nat))),.no],Ek (Bv (Am (xs:=[d,p]) (AY (Am (xs:=[Ac t,.int c2]) (AY rfl (AY (Am (xs:=[D7 ns,.int ((7+i:Nat):Int)]) (AY rfl (AY (x:=.int ((7+i:Nat):Int)) ?_ rfl)) Z) rfl)) e1) rfl) (nK e2 e3)) rfl lI) rfl,_,rfl⟩;show some (PyData.int (7+(0+(i:Int))))=_
  congr 2
  lia
 .rintro δ ⟨l,rfl⟩;refine Aa (δ':=[.d (D7 ns),.d l0,.d (.list Ii),.d p,l,.d (Ac (t.behind t))]) (Bl (y:=Ac (t.behind t)) (Am (xs:=[Ac t,Ac t]) rfl (O6 (gM o BY o BY AS)))) ?_;obtain⟨g,a1,a2,a3,a4⟩:=tI (C1:=C1) (C2:=C2) o (d0:=.d (D7 ns)) (d2:=.d (.list Ii)) (d3:=.d p) (d4:=l) 7 (t.behind t) ((o.behind o).self) (by rw[QQ];lia) AS;refine Aa a4 (Aa (Ek (Bv (Am (xs:=[Ac g,p]) rfl (iq h12 a1 AS a2)) rfl jH) rfl) ?_);obtain⟨k,u,h⟩:=cV o s;exact Aa (Ek (Bv (x:=.bool true) (y:=.bool true) (Am (xs:=[Ac t,WB t k u]) (AY rfl (AY (Am (xs:=[Ac t]) rfl (O6 (gk o s h))) rfl)) (O6 (qB o s h))) rfl rfl) rfl) (F3 (BA (Am (xs:=[Ac t,p]) rfl (iu o s U)) rfl S4))
end
def Yt(K:As):Sp:=fun vs H Q _=>∃(a:Addr) (ns:XV),vs=[.ref a]/\Aq K H a oR/\ns.length<=63/\∀H',Q (.bl true) H'
theorem sE{X:Cx}{st:Stmt}{g:tY}{t1:TS}{F:DF}(d:Mf X g F)(U:PS X st t1){T:TS->Prop}(k:∀u:TS,(∀δ r,F δ=some r->∀G0 H0 G H σ D,Rw G0 H0 G H σ δ []->Fin G0 H0 D r->u D σ H)->T (fP t1 u)):∃t,Ie X (st::g) t/\T t:=by
 obtain⟨t,pt,kt⟩:=d;exact⟨_,AZ U pt,k t kt⟩
section
variable{P:Io}{w:Mw}{K:As}{mg:Fa}{base:Heap}{f g1 g2 g3 g4 g5 g6 g7:Addr}{fd gd1 gd2 gd3 gd4 gd5 gd6 gd7:IR}
theorem kB{k:Nat}{C1 C2:Addr}(Y:C1≠C2)(hK:Uh K=true)(F:Fn K mg "law" RL ["_law_script"] f fd)(Ir:Fn K mg "_law_table" K3 lc g1 gd1)(B9:Fn K mg "_law_cell" FZ Oo g2 gd2)(D9:Fn K mg "_law_flags" Iq UF g3 gd3)(EU:Fn K mg "_law_spoiled" HN Sc g4 gd4)(Cj:Fn K mg "judge_paper" GO t8 g5 gd5)(Cf:Fn K mg "order_paper" GG UV g6 gd6)(De:Fn K mg "table_behind" HG MY g7 gd7)
 (V1:AH P w K mg base Ah k g1 gd1 lc (VZ K))(C7:AH P w K mg base Ah k g2 gd2 Oo (Bc C6))(Eb:AH P w K mg base Ah k g3 gd3 UF (Bc (Vz C1 C2)))(Fs:AH P w K mg base Ah k g4 gd4 Sc (Bc CY))(DY:AH P w K mg base ce k g5 gd5 t8 (Ep (Xk C1 C2)))(DQ:AH P w K mg base ce k g6 gd6 UV (Ep (cT C1 C2)))(ER:AH P w K mg base ce k g7 gd7 MY (Ep (cm C1 C2)))
 (A4:io)(BP:uT):AH P w K mg base Ah oF f fd ["_law_script"] (Yt K):=by
 have sc:=cc;refine F.F.ok (k:=k) sc JP (fun cdv A outer s H vs Q E Z h=>?_)
 .obtain⟨a,ns,rfl,_⟩:=h
  rfl
 obtain⟨a,ns,rfl,hS,h63,q⟩:=h;refine sE (eg B9 C7 D9 Eb EU Fs Cj DY Cf DQ De ER A4 BP cdv A outer s H E Z) (BB (i:=1) sc.nd rfl Cl (Bs Ir V1 Z rfl (AG uf (AG AX (AG AX AU))))) fun u kt=>?_;refine⟨_,rfl,a,ns,rfl,hS,fun v T tb e1 g ho hs U=>?_⟩;refine kt _ _ (nE Y ns ho ⟨hs,U⟩) T T T T _ _ ⟨.refl _,Nw.refl,.refl _,.refl _,rfl,fun i x h=>?_,fun i xs h=>?_,fun i j xs ys _ h=>?_,fun q hq=>by cases hq⟩ fun v G' H' _ _ _ _ g=>?_
 .rcases i with _|_|_|_|_|_|i
  .cases h;exact⟨_,rfl,nR ((oD hK hS).same e1)⟩
  .cases h;exact⟨_,rfl,g.du⟩
  all_goals first|(cases h;done)|(simp at h)
 .rcases i with _|_|_|_|_|_|i
  all_goals first|(cases h;done)|(simp at h)
 .rcases i with _|_|_|_|_|_|i
  all_goals first|(cases h;done)|(simp at h)
 .rw[Du]at g;subst g;exact q H'
end
def cH(n:Nat)(g:Tr->Nat):Sp:=fun vs H Q _=>∃v t,vs=[v]/\Tv H t v/\t.deep<n/\n<=60/\t.AQ<=8/\∀H',AK H H'->Q (.int (g t)) H'
theorem fZ{P:Io}{w:Mw}{K:As}{mg:Fa}{base:Heap}{CX:Ho}{k:Nat}{f:Addr}{fd:IR}{ps:MA}{sp:Sp}(h:∀vs H Q E,¬sp vs H Q E):AH P w K mg base CX k f fd ps sp :=
 ⟨fun _ _ _ _ z=>(h _ _ _ _ z).elim,fun _ _ _ _ _ _ _ _ _ _ _ _ _ z=>(h _ _ _ _ z).elim⟩
section
variable{P:Io}{w:Mw}{K:As}{mg:Fa}{base:Heap}{f:Addr}{fd:IR}
theorem SG:Ag ZB ZB (AL EX):=⟨rfl,rfl,rfl,by decide +kernel,rfl,by decide +kernel,by decide +kernel⟩
theorem Ln(BH:Fn K mg "knots_within" EX ZB f fd)(FU:mg "sum" = none):∀n,AH P w K mg base Ah n f fd ZB (cH n Tr.AQ)
 |0=>fZ fun _ _ _ _ ⟨_,_,_,_,h,_⟩=>absurd h (ai _)
 |n+1=>by
  have sc:=SG;have Bo:=Ln BH FU n;refine BH.F.ok (k:=n) sc JP IO
  .obtain⟨v,t,rfl,_⟩:=h
   rfl
  obtain⟨v,t,rfl,⟨a,xs,rfl,ha,ht⟩,hd,hn,hk,q⟩:=h;refine⟨_,(Ai (BV (A0 Fv AX (BR (NB rfl) rfl FU bp (AG (FV [".0","bough"] 1 [none,none] (VD uf) li (fun _ _ _ _ _=>(Bs BH Bo hr rfl (AG ua AU)))) AU))))),?_⟩;have g:=ht.len;have Z:xs.length<8:=by rw[g];have:=Tr.Od t;lia
  refine⟨_,rfl,a,rfl,⟨_,BI.of ha⟩,fun D hD=>Fp (n:=xs.length) (fun i ys H'=>AK H H'/\ys=(t.bs.take i).map fun c=>V.int (c.AQ:Nat)) ?_ ?_ ?_⟩
  .exact⟨Ak hD _,by simp⟩
  .rintro i ys H0 hi ⟨U,rfl⟩ T;have hi':i<t.bs.length:=by lia
   refine⟨⟨xs,xs[i],BI.of (U _ _ ha),by simp[hi]⟩,?_,fun x H' y=>?_⟩
   .rw[List.length_map,List.length_take];exact aS (Nat.min_le_left _ _) (aH (bj hi Z) PP)
   .obtain⟨rfl,y⟩:=y;have hx:=y xs (BI.of (U _ _ ha));obtain⟨c,hc,tc⟩:=ht.get hx;have Y:c∈t.bs:=aK hc;have hcd:=Tr.Qg Y;have hck:=Tr.Lr Y;unfold HI;refine Eu ⟨_,rfl,x,c,rfl,tc.same U,by lia,by lia,by lia,fun H2 e2=>⟨e2 _ _ T,EB hi ⟨?_,?_⟩⟩⟩
    .exact fun b o z=>by
      rw[AJ (AV z hD)];exact e2 _ _ (U _ _ z)
    .rw[List.take_succ,hc];simp
  .rintro ys H0 ⟨U,rfl⟩ T;refine⟨⟨xs,BI.of (U _ _ ha),Nat.le_refl _⟩,?_⟩;refine⟨D,t.bs.map fun c=>(c.AQ:Int),rfl,Aq.of ?_,_,_,rfl,rfl,?_⟩
   .rw[T,g,List.take_length,List.map_map]
    rfl
   .show Q (.int (1+(t.bs.map fun c=>(c.AQ:Int)).sum)) H0;rw[Tr.UH];exact q H0 U
end
theorem p0{P:Io}{w:Mw}{K:As}{mg:Fa}{base:Heap}{f:Addr}{fd:IR}{k:Nat}{ps:MA}(F:AH P w K mg base Ah k f fd ps (cH 8 Tr.AQ)):AH P w K mg base Ah k f fd ps mZ :=
 F.imp fun vs H Q E z=>by
  obtain⟨v,u,rfl,g,hd,hk,q⟩:=z;exact⟨v,u,rfl,g,hd,by decide,hk,q⟩
section
open PySem.W
theorem fnX{w:Mw}{mg:Fa}{h:Heap}(X:(kH w.params).In h)(G:h.Ns mainGlobals mg)(n:String)(i:Nat)(m:String)(t c f:Nat)(ps:MA)
 (ha:nsIn Hn mainGlobals (Str.ofString n)=some (some (.ref f)):=by kernel_rfl)(g:(kH w.params).lookup f=some (fO n i m t c):=by kernel_rfl)(T:codeIn Hn (.ref c) (Str.ofString n)=true:=by kernel_rfl)(hk:keepIn Hn (.ref f)=true:=by kernel_rfl)
 (hb:∀(kV doc pm:Nh) (an:Option Addr) (cdv ct:Nh) (us:FS),us.length=ps.length->bindArgs (fnOf (Str.ofString n) (Str.ofString n) (HJ (top i)) (EE (top i)) (AL (top i)) .none kV doc pm an cdv ct) ⟨us,[]⟩=pure (ps.zip us):=by first|(exact fun _ _ _ _ _ _ us g=>match us,g with|[_],_=>rfl)|(exact fun _ _ _ _ _ _ us g=>match us,g with|[_,_],_=>rfl)|(exact fun _ _ _ _ _ _ us g=>match us,g with|[_,_,_],_=>rfl)|(exact fun _ _ _ _ _ _ us g=>match us,g with|[_,_,_,_],_=>rfl)|(exact fun _ _ _ _ _ _ us g=>match us,g with|[_,_,_,_,_],_=>rfl)|(exact fun _ _ _ _ _ _ us g=>match us,g with|[],_=>rfl)) :
  Fn Hn mg (Str.ofString n) (top i) ps f (fnOf (Str.ofString n) (Str.ofString n) (HJ (top i)) (EE (top i)) (AL (top i)) .none .none .none (.str (Str.ofString m) t) none (.ref c) .none) :=
 ⟨a7 g T hk,(a7 (st:=top i) g T hk).binds hb,mg_of X G ha⟩
set_option maxHeartbeats 4000000 in
theorem rE(w:Mw)(mg:Fa)(fa:Addr)(h:Heap)(X:(kH w.params).In h)(G:h.Ns mainGlobals mg)(hfa:mg "law" = some (.ref fa)) :
  ∃fd:FuncData,(∀(s:IN) (v:Nh),BindsTo s fd ⟨[v],[]⟩ [("_law_script",v)])/\∀base:Heap,(kH w.params).In base->base.Ns mainGlobals mg->AH CC.prog w Hn mg base Ah 25 fa fd ["_law_script"] (Yt Hn):=by
 have e:=hfa.symm.trans (mg_of X G (v:=.ref 484) M0);cases e;have CT:=fnX X G "fraction_of" 15 "stepgrove.fracs" 399 177 178 ["top","bottom"];have JG:=fnX X G "frac_times" 16 "stepgrove.fracs" 399 184 185 MY;have DR:=fnX X G "is_fraction" 17 "stepgrove.fracs" 399 191 192 Jo;have DN:=fnX X G "are_fractions" 18 "stepgrove.fracs" 399 198 199 Jo;have CU:=fnX X G "is_whole" 19 "stepgrove.fracs" 399 205 206 Jo;have Aw:=fnX X G "greatest_divisor" 20 "stepgrove.fracs" 399 212 213 MY;have Ca:=fnX X G "common_bottom" 21 "stepgrove.fracs" 399 219 220 ["bottoms"];have JF:=fnX X G "frac_total" 22 "stepgrove.fracs" 399 224 225 ["some"];have Ke:=fnX X G "power_of" 23 "stepgrove.fracs" 399 231 232 ["base","power"];have Kk:=fnX X G "is_table" 26 "stepgrove.tables" 477 238 239 Jo;have Be:=fnX X G "refuse_no_table" 27 "stepgrove.tables" 477 245 246 Jo;have Kl:=fnX X G "are_rows" 28 "stepgrove.tables" 477 252 253 Jo;have Dl:=fnX X G "trees_of" 31 "stepgrove.trees" 504 259 260 ["many"];have F6:=fnX X G "trees_to" 32 "stepgrove.trees" 504 266 267 ["most"];have Cr:=fnX X G "in_falling_order" 33 "stepgrove.trees" 504 273 274 ["boughs"];have BH:=fnX X G "knots_within" 34 "stepgrove.trees" 504 278 279 ZB;have BK:=fnX X G "density_within" 35 "stepgrove.trees" 504 285 286 ZB;have CN:=fnX X G "parents_within" 36 "stepgrove.trees" 504 290 291 ZB;have B2:=fnX X G "trees_one_larger" 37 "stepgrove.trees" 504 297 298 ZB;have Ji:=fnX X G "tops_over" 39 "stepgrove.wholes" 567 302 303 ["some","bottom"];have HL:=fnX X G "table_bottom" 40 "stepgrove.wholes" 567 307 308 UV;have HK:=fnX X G "true_weights" 42 "stepgrove.weights" 581 312 313 ["trees"];have DL:=fnX X G "weights_under" 43 "stepgrove.weights" 581 317 318 T0;have FE:=fnX X G "readings" 44 "stepgrove.weights" 581 322 323 ["rows","tree","known"];have Jn:=fnX X G "read_by" 45 "stepgrove.weights" 581 327 328 ["row","shares"];have Hz:=fnX X G "table_order" 48 "stepgrove.orders" 607 334 335 UV;have HC:=fnX X G "first_unlike" 49 "stepgrove.orders" 607 341 342 ["trees","one","other"];have Cf:=fnX X G "order_paper" 52 "stepgrove.judging" 633 348 349 UV;have Cj:=fnX X G "judge_paper" 53 "stepgrove.judging" 633 355 356 t8;have CH:=fnX X G "refuse_no_judging" 54 "stepgrove.judging" 633 362 363 UV;have JM:=fnX X G "lines_of" 55 "stepgrove.judging" 633 369 370 T0;have F7:=fnX X G "are_true_lines" 56 "stepgrove.judging" 633 376 377 uL;have JJ:=fnX X G "is_due_odd" 57 "stepgrove.judging" 633 383 384 rW;have G5:=fnX X G "is_line" 58 "stepgrove.judging" 633 390 391 t7;have DK:=fnX X G "walked_weight" 59 "stepgrove.judging" 633 395 396 ["table","tree"];have De:=fnX X G "table_behind" 61 "stepgrove.joins" 704 400 401 MY;have Dk:=fnX X G "refuse_too_many_rows" 62 "stepgrove.joins" 704 405 406 ["tables"]
 have B9:=fnX X G "_law_cell" 64 "law_stepgrove_k55_tables_that_no_judge_walks" 718 412 413 Oo;have Hj:=fnX X G "_law_take" 65 "law_stepgrove_k55_tables_that_no_judge_walks" 718 419 420 ["_law_pile","_law_size"];have IA:=fnX X G "_law_shared" 66 "law_stepgrove_k55_tables_that_no_judge_walks" 718 426 427 uM;have Jh:=fnX X G "_law_frac" 67 "law_stepgrove_k55_tables_that_no_judge_walks" 718 433 434 ["_law_top","_law_bottom"];have Hk:=fnX X G "_law_part" 70 "law_stepgrove_k55_tables_that_no_judge_walks" 718 454 455 ["_law_pile"];have Ir:=fnX X G "_law_table" 71 "law_stepgrove_k55_tables_that_no_judge_walks" 718 459 460 lc;have IC:=fnX X G "_law_called" 72 "law_stepgrove_k55_tables_that_no_judge_walks" 718 464 465 ["_law_caught"];have D9:=fnX X G "_law_flags" 73 "law_stepgrove_k55_tables_that_no_judge_walks" 718 471 472 UF;have EU:=fnX X G "_law_spoiled" 74 "law_stepgrove_k55_tables_that_no_judge_walks" 718 476 477 Sc;have p5:=fnX X G "law" 75 "law_stepgrove_k55_tables_that_no_judge_walks" 718 483 484 ["_law_script"];have A4:mg "len" = none:=mg_none_of X G M0;have BP:mg "range" = none:=mg_none_of X G M0;have NA:mg "abs" = none:=mg_none_of X G M0;have AN:mg "isinstance" = none:=mg_none_of X G M0;have Ox:mg "int" = none:=mg_none_of X G M0;have Mv:mg "bool" = none:=mg_none_of X G M0;have B4:mg "tuple" = none:=mg_none_of X G M0;have Ec:mg "list" = none:=mg_none_of X G M0;have Cc:mg "enumerate" = none:=mg_none_of X G M0;have FU:mg "sum" = none:=mg_none_of X G M0;have EL:mg "zip" = none:=mg_none_of X G M0;have IQ:mg "sorted" = none:=mg_none_of X G M0;have YV:mg "set" = none:=mg_none_of X G M0;have sf:mg "dict" = none:=mg_none_of X G M0;have tN:mg "all" = none:=mg_none_of X G M0;have LZ:mg "ValueError" = none:=mg_none_of X G M0;have a_MR:nsIn Hn mainGlobals "MOST_ROWS" = some (some (.int 40 479)):=by kernel_rfl
 have a_MK:nsIn Hn mainGlobals "MOST_KNOTS" = some (some (.int 7 506)):=by kernel_rfl
 have a_MO:nsIn Hn mainGlobals "MOST_ORDER" = some (some (.int 6 609)):=by kernel_rfl
 have a_MJ:nsIn Hn mainGlobals "MOST_JUDGED_ROWS" = some (some (.int 5 635)):=by kernel_rfl
 have a_GroveError:PySem.W.nsIn Hn mainGlobals "GroveError" = some (some OR):=by kernel_rfl
 have a_NoBottom:PySem.W.nsIn Hn mainGlobals "NoBottom" = some (some (.ref 37)):=by kernel_rfl
 have a_NoTree:PySem.W.nsIn Hn mainGlobals "NoTree" = some (some (.ref 49)):=by kernel_rfl
 have a_NoChange:PySem.W.nsIn Hn mainGlobals "NoChange" = some (some (.ref 61)):=by kernel_rfl
 have a_NoStart:PySem.W.nsIn Hn mainGlobals "NoStart" = some (some (.ref 73)):=by kernel_rfl
 have a_NoTable:PySem.W.nsIn Hn mainGlobals "NoTable" = some (some uP):=by kernel_rfl
 have a_NoName:PySem.W.nsIn Hn mainGlobals "NoName" = some (some (.ref 97)):=by kernel_rfl
 have a_NoWeighing:PySem.W.nsIn Hn mainGlobals "NoWeighing" = some (some (.ref 109)):=by kernel_rfl
 have a_NotAlike:PySem.W.nsIn Hn mainGlobals "NotAlike" = some (some (.ref 121)):=by kernel_rfl
 have a_NoParts:PySem.W.nsIn Hn mainGlobals "NoParts" = some (some (.ref 133)):=by kernel_rfl
 have a_TooMany:PySem.W.nsIn Hn mainGlobals "TooMany" = some (some tX):=by kernel_rfl
 have a_NoText:PySem.W.nsIn Hn mainGlobals "NoText" = some (some (.ref 157)):=by kernel_rfl
 have a_NoLine:PySem.W.nsIn Hn mainGlobals "NoLine" = some (some (.ref 169)):=by kernel_rfl
 have LG:=bA X G a_GroveError;have NI:=bA X G a_NoBottom;have QG:=bA X G a_NoTree;have NU:=bA X G a_NoChange;have OI:=bA X G a_NoStart;have Lg:=bA X G a_NoTable;have Qj:=bA X G a_NoName;have LX:=bA X G a_NoWeighing;have NO:=bA X G a_NotAlike;have Oa:=bA X G a_NoParts;have L0:=bA X G a_TooMany;have QY:=bA X G a_NoText;have QC:=bA X G a_NoLine;have X_NoTable:Exc Hn mg "NoTable" 85:=⟨Lg,by kernel_rfl⟩;have be_NoTable:HD Hn 85 24 true:=⟨by kernel_rfl,by kernel_rfl,by kernel_rfl,by kernel_rfl⟩;have T:D0 Hn 85:=⟨by kernel_rfl,by kernel_rfl,by kernel_rfl,by kernel_rfl,by kernel_rfl,by kernel_rfl,by kernel_rfl,by kernel_rfl⟩;have tV_NoTable:PySem.W.kitOne Hn uP OP=some true:=by kernel_rfl
 have t_NoTable_GroveError:PySem.W.kitOne Hn uP OR=some true:=by kernel_rfl
 have t_NoTable_NoBottom:PySem.W.kitOne Hn uP (.ref 37)=some false:=by kernel_rfl
 have t_NoTable_NoTree:PySem.W.kitOne Hn uP (.ref 49)=some false:=by kernel_rfl
 have t_NoTable_NoChange:PySem.W.kitOne Hn uP (.ref 61)=some false:=by kernel_rfl
 have t_NoTable_NoStart:PySem.W.kitOne Hn uP (.ref 73)=some false:=by kernel_rfl
 have t_NoTable_NoTable:PySem.W.kitOne Hn uP uP=some true:=by kernel_rfl
 have t_NoTable_NoName:PySem.W.kitOne Hn uP (.ref 97)=some false:=by kernel_rfl
 have Y:PySem.W.kitOne Hn uP (.ref 109)=some false:=by kernel_rfl
 have t_NoTable_NotAlike:PySem.W.kitOne Hn uP (.ref 121)=some false:=by kernel_rfl
 have t_NoTable_NoParts:PySem.W.kitOne Hn uP (.ref 133)=some false:=by kernel_rfl
 have t_NoTable_TooMany:PySem.W.kitOne Hn uP tX=some false:=by kernel_rfl
 have t_NoTable_NoText:PySem.W.kitOne Hn uP (.ref 157)=some false:=by kernel_rfl
 have t_NoTable_NoLine:PySem.W.kitOne Hn uP (.ref 169)=some false:=by kernel_rfl
 have X_TooMany:Exc Hn mg "TooMany" 145:=⟨L0,by kernel_rfl⟩;have be_TooMany:HD Hn 145 24 true:=⟨by kernel_rfl,by kernel_rfl,by kernel_rfl,by kernel_rfl⟩;have g:D0 Hn 145:=⟨by kernel_rfl,by kernel_rfl,by kernel_rfl,by kernel_rfl,by kernel_rfl,by kernel_rfl,by kernel_rfl,by kernel_rfl⟩;have tV_TooMany:PySem.W.kitOne Hn tX OP=some true:=by kernel_rfl
 have t_TooMany_GroveError:PySem.W.kitOne Hn tX OR=some true:=by kernel_rfl
 have t_TooMany_NoBottom:PySem.W.kitOne Hn tX (.ref 37)=some false:=by kernel_rfl
 have t_TooMany_NoTree:PySem.W.kitOne Hn tX (.ref 49)=some false:=by kernel_rfl
 have t_TooMany_NoChange:PySem.W.kitOne Hn tX (.ref 61)=some false:=by kernel_rfl
 have t_TooMany_NoStart:PySem.W.kitOne Hn tX (.ref 73)=some false:=by kernel_rfl
 have t_TooMany_NoTable:PySem.W.kitOne Hn tX uP=some false:=by kernel_rfl
 have t_TooMany_NoName:PySem.W.kitOne Hn tX (.ref 97)=some false:=by kernel_rfl
 have U:PySem.W.kitOne Hn tX (.ref 109)=some false:=by kernel_rfl
 have Z:PySem.W.kitOne Hn tX (.ref 121)=some false:=by kernel_rfl
 have t_TooMany_NoParts:PySem.W.kitOne Hn tX (.ref 133)=some false:=by kernel_rfl
 have t_TooMany_TooMany:PySem.W.kitOne Hn tX tX=some true:=by kernel_rfl
 have t_TooMany_NoText:PySem.W.kitOne Hn tX (.ref 157)=some false:=by kernel_rfl
 have t_TooMany_NoLine:PySem.W.kitOne Hn tX (.ref 169)=some false:=by kernel_rfl
 have hK:Uh Hn=true:=by kernel_rfl
 refine⟨fnOf (Str.ofString "law") (Str.ofString "law") (HJ (top 75)) (EE (top 75)) (AL (top 75)) .none .none .none (.str (Str.ofString "law_stepgrove_k55_tables_that_no_judge_walks") 718) none (.ref 483) .none,fun s v=>.of_eq rfl,fun base _ _=>?_⟩;have GS:=bA X G a_MR;have Fq:=bA X G a_MK;have Ce:=bA X G a_MO;have Gv:=bA X G a_MJ;have U0:=N0 (P:=CC.prog) (w:=w) (base:=base) Aw NA;have fI:=TC CT Aw U0;have rH:=PL Ca Aw U0;have sQ:=Ru HL Ca rH;have rM:=Vr (P:=CC.prog) (w:=w) (base:=base) Ji;have qu:=Wl (P:=CC.prog) (w:=w) (base:=base) Ke;have sG:=Y0 (P:=CC.prog) (w:=w) (base:=base) Jn FU EL;have rT:=PX qe FE Jn sG A4 EL 8;have sR:=p0 (Ln (P:=CC.prog) (w:=w) (base:=base) BH FU 8);have rh:=Qn qe DL HL Ji FE Ke BH CT (sQ.mono) (rM.mono) (rT.mono) (qu.mono) (sR.mono) (fI.mono);have EF:=rX rh;have BS:=sU U0;have K1:=toT (Ud JG CT fI);have rC:=UZ JF Ca CT (QW Ca Aw U0) (fI.mono) FU;have K7:=oQ rC;have sT:=TJ (P:=CC.prog) (w:=w) (base:=base) IA NA;have km:=U3 Jh IA sT;have Pt:=sC km;have rz:=Wj (P:=CC.prog) (w:=w) (base:=base) Hj;have rD:=U2 Hk Hj Jh (rz.mono) km;have qo:=Vq (P:=CC.prog) (w:=w) (base:=base) B9 A4 BP;have sI:=Sn Ir B9 Hk (qo.mono) rD BP;have rZ:=Wr (P:=CC.prog) (w:=w) (base:=base) CU AN Ox Mv;have jx:=S7 DR CU Aw rZ U0 AN B4 A4;have oG:=QU DN DR jx AN Ec;have rO:=W2 Kl DN oG GS AN Ec A4 Cc;have qr:=W8 Kk Kl DN rO (oG.mono) AN B4 A4;have NK:=sg (q:=Cq) qr (fun l d v H Q E hd hq=>⟨l,d,v,rfl,hd,hq⟩);have Di:=W6 (P:=CC.prog) (w:=w) (base:=base) (k:=0) CU Mv Ox AN;have GK:=Sd (P:=CC.prog) (w:=w) (base:=base) (k:=1) DR Aw (BS.mono) CU (Di.mono) AN A4 B4;have Bm:=OZ (P:=CC.prog) (w:=w) (base:=base) (k:=5) Be Kk (NK.mono) X_NoTable;have Fd:=Le (P:=CC.prog) (w:=w) (base:=base) (k:=5) Dk A4 FU GS X_TooMany;have Cb:=NZ (P:=CC.prog) (w:=w) (base:=base) (k:=6) CH Be (Bm.mono) A4 Gv X_TooMany;have Bo:=Lq (P:=CC.prog) (w:=w) (base:=base) (k:=0) BH FU 9;have Bi:=KU (P:=CC.prog) (w:=w) (base:=base) (k:=10) BK BH (Bo.mono) 9;have CO:=Ny (P:=CC.prog) (w:=w) (base:=base) (k:=0) Cr IQ B4;have D6:=JQ (P:=CC.prog) (w:=w) (base:=base) (k:=1) B2 Cr (CO.mono) Cc 9;have EM:=Wy (P:=CC.prog) (w:=w) (base:=base) (k:=11) Dl B2 (D6.mono) BP YV IQ Fq;have G9:=W3 (P:=CC.prog) (w:=w) (base:=base) (k:=12) F6 Dl (EM.mono) BP Fq;have Jg:=SA (P:=CC.prog) (w:=w) (base:=base) (k:=20) HK BK (Bi.mono);have JZ:=RQ (P:=CC.prog) (w:=w) (base:=base) (k:=0) HC EL;have KN:=S9 (P:=CC.prog) (w:=w) (base:=base) (k:=21) Hz HC (JZ.mono) Be (Bm.mono) Dl (EM.mono) HK (Jg.mono) DL (EF.mono) BP Ce;have Kj:=Wn (P:=CC.prog) (w:=w) (base:=base) (k:=12) JM DL (EF.mono) Ec EL;have EY:=Kb (P:=CC.prog) (w:=w) (base:=base) (k:=0) CN A4 9;have ED:=Qp (P:=CC.prog) (w:=w) (base:=base) (k:=10) DK JG (K1.mono) JF (K7.mono) CN (EY.mono) Cc;have Ia:=Yc (P:=CC.prog) (w:=w) (base:=base) (k:=2) G5 DR (GK.mono) AN A4 B4;have IL:=PQ (P:=CC.prog) (w:=w) (base:=base) (k:=20) F7 BK (Bi.mono) G5 (Ia.mono) DK (ED.mono) AN A4 Ec EL;have LL:=Ua (P:=CC.prog) (w:=w) (base:=base) (k:=20) JJ BK (Bi.mono) G5 (Ia.mono) Dl (EM.mono) DK (ED.mono) Ce
 have DY:=TM (P:=CC.prog) (w:=w) (base:=base) (k:=21) Cj F7 (IL.mono) JJ (LL.mono) CU (Di.mono) CH (Cb.mono) F6 (G9.mono) AN A4 B4 Ce;have DQ:=Sl (P:=CC.prog) (w:=w) (base:=base) (k:=22) Cf JM (Kj.mono) CH (Cb.mono) Hz (KN.mono) F6 (G9.mono);have ER:=Qx (P:=CC.prog) (w:=w) (base:=base) (k:=7) De Be (Bm.mono) Dk (Fd.mono) Ec;have C7:=Vm (P:=CC.prog) (w:=w) (base:=base) (k:=0) B9 A4 BP;have J7:=Sg (P:=CC.prog) (w:=w) (base:=base) (k:=0) IC LZ AN EL NI NU QC Qj Oa OI Lg QY QG LX NO L0 (HB T g t_NoTable_NoBottom t_TooMany_NoBottom) (HB T g t_NoTable_NoChange t_TooMany_NoChange) (HB T g t_NoTable_NoLine t_TooMany_NoLine) (HB T g t_NoTable_NoName t_TooMany_NoName) (HB T g t_NoTable_NoParts t_TooMany_NoParts) (HB T g t_NoTable_NoStart t_TooMany_NoStart) (HB T g t_NoTable_NoTable t_TooMany_NoTable) (HB T g t_NoTable_NoText t_TooMany_NoText) (HB T g t_NoTable_NoTree t_TooMany_NoTree) (HB T g Y U) (HB T g t_NoTable_NotAlike Z) (HB T g t_NoTable_TooMany t_TooMany_TooMany) (HB (cv:=.ty "ValueError") T g tV_NoTable tV_TooMany);have Eb:=Ue (P:=CC.prog) (w:=w) (base:=base) (k:=23) D9 IC (J7.mono) Cj ((Wh [_,_] DY).mono) Cf ((Wh [_,_] DQ).mono) BP LG (fun ds C h=>by
  have:=Xq h;rcases aO.mp this with rfl|this
  .exact be_NoTable
  .rw[List.mem_singleton.mp this];exact be_TooMany) (fun ds C h=>by
  have:=Xq h;rcases aO.mp this with rfl|this
  .exact be_NoTable
  .rw[List.mem_singleton.mp this];exact be_TooMany)
 have Fs:=RI (P:=CC.prog) (w:=w) (base:=base) (k:=0) EU A4 BP B4;exact kB (k:=24) BY hK p5 Ir B9 D9 EU Cj Cf De (sI.mono) (C7.mono) (Eb.mono) (Fs.mono) (DY.mono) (DQ.mono) (ER.mono) A4 BP
theorem walkX:WalkO qX [] (XL qX []) hX.says CC.row.toRowW dX [] (fun f vs=>PySem.call f vs) :=
 L2.ju (l:=CC) (n:=63) (k:=25) (x := "_law_script") (CX:=fun _=>Ah) (K:=kH) (sp:=fun w=>Yt Hn) rfl BY rfl ⟨rfl,by decide,by decide⟩ (fun w mg h X G H d e=>by rw[mg_none_of X G M0]at e;cases e) (fun w h Y=>kIn_of Y) rE (fun _ _ a ns g _ T=>⟨a,ns,rfl,T,g,fun _=>rfl⟩) fun _ _ _ _ _ z=>z
end
end Q55
open PySem PySem.W PyProof.Rows
set_option maxRecDepth 100000 in
theorem PySem.Challenge.cw_stepgrove_k55_tables_that_no_judge_walks_holds : PySem.Challenge.rw_stepgrove_k55_tables_that_no_judge_walks.Holds := by
  refine Q55.openX ?hw Q55.walkX
  w_witness2
#print axioms PySem.Challenge.cw_stepgrove_k55_tables_that_no_judge_walks_holds
