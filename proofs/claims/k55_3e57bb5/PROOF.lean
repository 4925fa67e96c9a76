import PyProof.Rows.All
import Wide.All
import OpenK.AllK
import Wide.FinOn
import Lean
import PyProof.EqAt
import PyProof.EqKinds
import PyProof.TupleCall
import PySem.Challenge.RW_stepgrove_k55_tables_that_no_judge_walks
set_option Elab.async false
set_option linter.all false
set_option maxRecDepth 100000
abbrev MD:=List PySem.PyData->Option PySem.PyData
abbrev Fg:=PySem.W.Frag
abbrev Wb:=@PySem.wpAny_bind
abbrev PD:=PySem.PyData
abbrev SD:=PySem.Shared
abbrev VL:=PySem.Value
abbrev AD:=PySem.Addr
abbrev aA:=@PySem.wpAny_pure
abbrev aB:=@Option.bind_eq_some_iff
abbrev aC:=@Option.map_eq_some_iff
abbrev aD:=@List.getElem?_eq_some_iff
abbrev aE:=@PySem.Heap.get?_push_of_some
abbrev aF:=@PySem.Heap.lt_size
abbrev aG:=@Nat.lt_of_lt_of_le
abbrev aH:=@Nat.le_refl
abbrev aI:=@Nat.ne_of_lt
abbrev aJ:=@List.mem_of_getElem?
abbrev aK:=@PySem.Heap.get?_push_size
abbrev aL:=@List.getElem?_eq_getElem
abbrev aM:=@Bool.false_ne_true
abbrev aN:=@List.mem_cons
abbrev aO:=@PySem.PassesOwn.never
abbrev aP:=@Nat.le_trans
abbrev aQ:=@PySem.wpAny_holding
abbrev aR:=@Nat.lt_of_le_of_lt
abbrev aS:=@List.mem_cons_of_mem
abbrev aT:=@List.mem_map
abbrev aU:=@PySem.wpAny_seqItems
abbrev aV:=@PySem.wpAny_field
abbrev aW:=@PySem.wpAny_mono
abbrev aX:=@PySem.wpAny_call_entry
abbrev aY:=@PySem.wpAny_callSpecial?_slot
abbrev aZ:=@List.mem_append_right
abbrev aa:=@PySem.boot_len
abbrev ae:=@List.mem_cons_self
abbrev af:=@PySem.F.plainAttrs_list
abbrev ag:=@PySem.Heap.SameBut.update
abbrev ah:=@Nat.not_lt_zero
abbrev ai:=@PySem.wpAny_setField_rec
abbrev aj:=@PyProof.Rows.callWith_type1
abbrev ak:=@List.all_eq_true
abbrev ao:=@Nat.ne_of_gt
abbrev aq:=@List.mem_range
abbrev ar:=@Bool.eq_false_iff
abbrev au:=@List.map_congr_left
abbrev av:=@Nat.mul_le_mul_left
abbrev aw:=@Option.some.inj
abbrev ax:=@PyProof.Rows.boot_isinstance
abbrev ay:=@of_decide_eq_true
abbrev az:=@PySem.W.mg_of
abbrev bA:=@PySem.wpAny_newObj_type
abbrev bC:=@Nat.le_of_lt
abbrev bD:=@PySem.F.slot_list_append
abbrev bE:=@PySem.F.type_list_append
abbrev bF:=@PyProof.Rows.boot_tuple
abbrev bG:=@List.mem_append
abbrev bH:=@PySem.W.kia_one
abbrev bI:=@PySem.F.slot_zip_next
abbrev bJ:=@Nat.zero_le
abbrev bK:=@PySem.wpAny_setState_of
abbrev bL:=@decide_eq_false
abbrev bM:=@PySem.Heap.get?_update_self
abbrev bN:=@List.eq_nil_of_length_eq_zero
abbrev bO:=@congrArg
abbrev bP:=@PySem.wpAny_onRaise
abbrev bQ:=@PySem.wpAny_rule
abbrev bR:=@List.getElem?_of_mem
abbrev bS:=@Nat.lt_succ_of_lt
abbrev bT:=@PySem.wpAny_specialOf
abbrev bU:=@List.length_map
abbrev bV:=@PySem.wpAny_attempt
abbrev bW:=@Nat.lt_succ_self
abbrev bX:=@List.getElem_mem
abbrev bY:=@of_decide_eq_false
abbrev bZ:=@List.mem_iff_getElem?
abbrev ba:=@List.find?_eq_none
abbrev bc:=@List.mem_append_left
abbrev bf:=@Nat.pow_le_pow_right
abbrev bg:=@PyProof.Rows.KeyOrd.kle_refl
abbrev bh:=@Nat.lt_trans
abbrev bj:=@List.pairwise_cons
abbrev bo:=@PyProof.Rows.boot_sum
set_option maxHeartbeats 0
abbrev tj:=List PD
abbrev tm:=List VL
abbrev tq:=VL->SD->Prop
abbrev t7:=PySem.Str->Option VL
abbrev t8:=Option PD
abbrev uA:=Array Nat
abbrev uB:=List Int
abbrev uC:=List PySem.Str
abbrev uD:=List PySem.Expr
abbrev uF:=Option Int
abbrev uG:=List Nat
abbrev uH:=List Rat
abbrev uK:=List AD
abbrev uL:=List PySem.Stmt
abbrev uM:=List PySem.Env
abbrev uN:=List (Option Nat)
set_option hygiene false
local macro_rules
|`(AC)=>`(by lia)
|`(AS)=>`(model prog w)
|`(AT)=>`(by decide)
|`(As)=>`(by simp)
|`(At)=>`(Or.inl rfl)
|`(BY)=>`(Inv X pins σ H s)
|`(By)=>`(model X.prog X.w)
|`(Ch)=>`(A4 X scope cl N C s₀ H₀ fp)
|`(Cl)=>`(List (AD×Obj))
|`(Da)=>`(fC (.int 1))
|`(Db)=>`(fun _ _=>rfl)
|`(Do)=>`(.ref s.heap.objs.size)
|`(EQ)=>`(AE (pv 0))
|`(Ev)=>`(kH w.params)
|`(FS)=>`(.type "tuple")
|`(Fa)=>`(fun cdv A outer s H vs Q E hr h=>?_)
|`(Fk)=>`(AD->Option Bool)
|`(Fr)=>`(FuncData)
|`(GE)=>`(s.heap.objs.size+1)
|`(GM)=>`(x==("__debug__" : Str))
|`(Go)=>`(Program)
|`(HJ)=>`(.ListComp elt [⟨.Name x px,iter,ifs,0⟩] scope pos)
|`(HX)=>`(∀(D C:AD) (s':SD) (H':Hp) m,s'.heap.Ns C m->Q (.ref D) H'->(∀h',Heap.SameBut C s'.heap h'->Inv X pins σ H' { s' with heap:=h'})->C≠D->(∀b o,s2.heap.get? b=some o->b≠C)->H' C=none->s2.heap.objs.size<=C->RR (.ref D) C (.ok .next) s')
|`(Hb)=>`(fun vs H Q E h=>?_)
|`(Ho)=>`(AE (pv 1))
|`(IF)=>`(["thing"])
|`(IN)=>`(fC (.int 0))
|`(IO)=>`(AE (pv 2))
|`(IR)=>`(.Call (.Name x p) (e::es) [] pos)
|`(IS)=>`(Rw G0 H0 G H σ δ ts)
|`(Id)=>`(((SetTable.insertAt ev (t.put j).2 (BX x,Value.ref xa))[·]?))
|`(Iu)=>`(.bool true)
|`(Iv)=>`({s with heap:=h',toks:=tk})
|`(Ix)=>`(seqObj "list" #[] 0)
|`(JT)=>`(.ListComp elt [⟨.Tuple [.Name x px,.Name y py] tk tp,iter,ifs,0⟩] scope pos)
|`(JX)=>`(fun z=>nomatch z)
|`(Jo)=>`((false,eval e X.env))
|`(Js)=>`(["one","other"])
|`(Jw)=>`(.lst ys)
|`(Jz)=>`(.ref a)
local macro_rules
|`(KB)=>`(World)
|`(KK)=>`(by kernel_rfl)
|`(KM)=>`(.head _)
|`(KT)=>`(.builtin "ValueError.__new__")
|`(LE)=>`(nm 0)
|`(LT)=>`(IsPair s.heap TI (.ref i1) (.ref i2))
|`(LW)=>`(fun z=>hc (by simp[z]))
|`(Lx)=>`((by have:=g.units;exact this))
|`(Lz)=>`(nm 2)
|`(MZ)=>`(.type "BaseException")
|`(Ma)=>`(sV "stepgrove.errors" 187)
|`(Mt)=>`(.type "ValueError")
|`(Mz)=>`(.ref 24)
|`(M0)=>`(nm 1)
|`(M1)=>`(["_law_script","_law_k"])
|`(M2)=>`(.tup xs)
|`(NE)=>`(.lst xs)
|`(Nk)=>`(by rw[sizeLine_eq];decide)
|`(Nl)=>`(envOfC qual scope s.heap.objs.size f cd)
|`(No)=>`((false,eval b X.env))
|`(Nq)=>`(.ref C)
|`(Nr)=>`(AE (pv 3))
|`(Nz)=>`({s with heap:=h'})
|`(N0)=>`(∀b∈ch,(b∈X.ex\/X.s₀.heap.objs.size<=b)/\b≠X.env.locals/\(∀x c,X.env.cells.lookup x=some c->c≠b)/\∀p∈X.pn++pins,p.1≠b)
|`(OB)=>`(Ey fun i j=>decide (i<j))
|`(OF)=>`((∃a g,y=Value.ref a/\s.heap.IsTuple a g.toArray/\TH.Vs s.heap t g))
|`(ON)=>`(List V)
|`(OR)=>`(Around)
|`(OY)=>`(Obj.mapSeq (· ++ us.toArray))
|`(Of)=>`(.ref z)
|`(Ol)=>`(starEach es X.env)
|`(On)=>`(i+1)
|`(Oo)=>`((forIn scope.names [] (fun (x : Str×NameKind) (r : List (Str×AD)) => do if (x.2 == NameKind.free) = true then do let a <- cellOf X.env x.1; pure (ForInStep.yield ((x.1,a) :: r)) else pure (ForInStep.yield r)):Sem (List (Str×AD))) >>= fun cs => pure cs)
|`(Op)=>`((false,eval a X.env))
|`(Os)=>`(["_law_table_here","_law_number"])
|`(PP)=>`(.ListComp elt [⟨Pf x y px py tk tp,iter,ifs,0⟩] scope pos)
|`(Pb)=>`(by rw[Du])
|`(Pc)=>`(∀b o,h.get? b=some o->o.cls=.type "tuple" -> h'.get? b=some o)
|`(Pi)=>`(AA (nm 3) AG)
|`(Ps)=>`(Bh 3 (AQ IP (AQ A7 (AQ A7 (AQ Fc (nm 3) (nm 3)) (AQ Fc (fC (.int 69621)) (nm 5))) (fC (.int 7))) (fC (.int 2147483587))))
local macro_rules
|`(Px)=>`(["table","trees"])
|`(Pz)=>`(["_law_table_here","_law_paper"])
|`(QB)=>`(["table"])
|`(RW)=>`((forIn scope.names [] (fun(x:Str×NameKind) (r:List (Str×AD))=>do if(x.2==NameKind.free)=true then do let a <-cellOf X.env x.1;pure (ForInStep.yield ((x.1,a)::r)) else pure (ForInStep.yield r)):Sem (List (Str×AD)))>>=fun cs=>pure cs)
|`(RY)=>`(seqObj "list" us.toArray 0)
|`(Rc)=>`(Builtin.SmallTypes.nextOf (.ref i2)>>=_)
|`(Re)=>`(s.heap.objs.size+2)
|`(Rs)=>`(s.heap.objs.size+3)
|`(SB)=>`(fun c=>?_)
|`(SC)=>`(["tree"])
|`(SL)=>`(I.ok.hd hc)
|`(ST)=>`(List VL)
|`(SZ)=>`(by decide +kernel)
|`(Sc)=>`(List (PD×V))
|`(TD)=>`(ha pos pins s σ H _ I h)
|`(TW)=>`(.builtin "object.__class__")
|`(Tk)=>`(A4 X scope cl N Hq.objs.size s2 Z fp)
|`(Tl)=>`(CN P w)
|`(Tm)=>`(Builtin.«zip.__next__» ⟨[.ref z],[]⟩)
|`(To)=>`((·.1))
|`(Ty)=>`(X.A.units+64<cLine)
|`(T0)=>`(.type "Exception")
|`(UF)=>`(aH _)
|`(UV)=>`((carry fr σ).set ix (some x))
|`(Uf)=>`(Option VL->SD->Prop)
|`(WF)=>`(aA ?_)
|`(WP)=>`(Str.ofString "table")
|`(W1)=>`(mg "isinstance" = none)
|`(XN)=>`(.type "object")
|`(XV)=>`(Ay _)
|`(ZB)=>`(Builtin.SmallTypes.nextOf (.ref i1)>>=_)
|`(ad)=>`(Array (Int×VL))
|`(al)=>`(PD->Dv->Option Dv)
|`(am)=>`(mg "len" = none)
|`(bd)=>`(AQ A7 (AQ Fc (nm 4) (fC (.int 2147483563))) (AQ IP (AQ Fc (nm 3) (nm 3)) (fC (.int 2147483563))))
|`(bi)=>`(IsZip s.heap z TI TO .none)
|`(bn)=>`(Str.ofString "many")
|`(bv)=>`(SetTable.insertAt ev (t.put j).2 (BX x,.ref xa))
|`(ce)=>`(["_law_script","_law_start","_law_most"])
|`(cr)=>`(.bool false)
local macro_rules
|`(cx)=>`(fun _ _ _ _ _=>EW)
|`(dO)=>`(Dv->Option PD)
|`(db)=>`(.inl rfl)
|`(dl)=>`(Bu items.size items.size hi-Bu items.size 0 lo)
|`(d7)=>`(Draws prog w A.in1 i1 f1 n1 P1 S1)
|`(em)=>`(Draws prog w A.in1 i2 f2 n2 P2 S2)
|`(f8)=>`(Ad t)
|`(ge)=>`(EP X pins σ Q)
|`(gv)=>`(.type "dict")
|`(iF)=>`(.type "list")
|`(iN)=>`(.builtin "getset_descriptor.__get__")
|`(iS)=>`(GP C1 C2 false false)
|`(ii)=>`(by simp;lia)
|`(im)=>`(aI (aG (aF e) I.ok.above))
|`(io)=>`(k+1)
|`(jj)=>`(X.calm=true)
|`(jp)=>`(ns.map V.int)
|`(kS)=>`(fun q=>decide (q.1=k))
|`(ku)=>`(Fl rows.length)
|`(kw)=>`(["table","order","odd"])
|`(lc)=>`(seqObj "tuple" us.toArray 0)
|`(lf)=>`(s.heap.objs.size+4)
|`(li)=>`(.lst [])
|`(lm)=>`(AB AJ (AB AJ AF))
|`(ln)=>`(Bl (C:=C1) rfl n)
|`(lp)=>`(Bl (C:=C2) rfl n)
|`(lv)=>`(Apart z TI TO i1 i2 f1 f2)
|`(l0)=>`(.type "type")
|`(l7)=>`(((boot_heap w.params).isNs mainGlobals&&(#[]:Array GenState).size==0,(boot_heap w.params).objs.size,(boot_heap w.params).nsMap mainGlobals "__annotations__"))
|`(l8)=>`(ys++[y])
|`(me)=>`(∀x∈xs,B0 x.1=B0 k->x.1=k)
|`(mo)=>`(fC (.int 6))
|`(ms)=>`(["_law_script","_law_k","_law_cell_here","_law_number","_law_found","_law_turn"])
|`(mu)=>`(List α)
|`(nw)=>`(by simpa using hi)
|`(oF)=>`(.ref 145)
|`(oN)=>`((∀c o,c≠z->c≠TO->c≠i1->c≠i2->s.heap.get? c=some o->h'.get? c=some o))
|`(oR)=>`(newFunctionEnv scope X.env.globals cl [] X.env.qual none .none (some X.env))
|`(og)=>`(.Name x np)
|`(pw)=>`(BW CS rfl A5 aa (AH (pv 0) AV))
local macro_rules
|`(ra)=>`(fun a b=>Df a (FQ rows b))
|`(rc)=>`(by simp only[List.size_toArray]<;>lia)
|`(re)=>`(PD->PD->Option PD)
|`(sK)=>`(["thing","trees"])
|`(sq)=>`(["table","paper"])
|`(ss)=>`(HT.Bu xs.length xs.length hi-HT.Bu xs.length 0 lo)
|`(sw)=>`(List PD)
|`(tO)=>`({g with heap:=g.heap.push { cls:=.type "slice",data:=.fields #[Y,U,.none]} })
|`(tX)=>`(fC .none)
|`(td)=>`(.int (k:Nat))
|`(tt)=>`(by simp[Cq])
|`(t9)=>`(Bool->SD->Prop)
|`(uE)=>`(((carry fr σ).set ix (some U)).set iy (some T))
|`(uO)=>`(fun b o _ _ hc q _=>⟨o.slots,keep b o hc q⟩)
|`(uP)=>`(PySem.W.fnOf x qual (HR st) (EC st) (AM st) .none kV doc pm an cdv ct)
|`(uQ)=>`(Obj.mapSeq fun _ => #[])
|`(uR)=>`(aV hz rfl (x:=.ref TI) rfl (Wb (aU hI rfl ?_)))
|`(uS)=>`(match MU [a,b,c,.d (tD t),.d (Ak w),.d (Ak v)]with|some (.nx g)=>_|some (.ct g)=>_|some (.bk g)=>_|some (.rt x)=>_|some (.rn x)=>_|none=>_)
|`(uT)=>`(fun _ _ _ _ _=>HM)
|`(uU)=>`(["table","trees","lines"])
|`(uV)=>`(["_law_one","_law_other"])
|`(uW)=>`(AE (pv 4))
|`(uX)=>`(Fz N X.N scope X.env.scope fr 0=true)
|`(uY)=>`(.ref 85)
|`(uZ)=>`({D with nx:=N,ct:=N,bk:=D.nx})
|`(ua)=>`(Draws prog w A i1 f1 n1 P1 S1)
|`(ub)=>`(Draws prog w A i2 f2 n2 P2 S2)
|`(uc)=>`(mg "range" = none)
|`(ud)=>`(.type "bool")
|`(ue)=>`(VL->SD->Prop)
|`(uf)=>`(by simpa using T)
|`(ug)=>`(AL H H')
|`(uh)=>`(!w.params.followText "set-order")
|`(ui)=>`(.ref l)
|`(uj)=>`(BP b1 T)
|`(uk)=>`(.inr C)
|`(ul)=>`(A.units+t.deep<cLine)
|`(um)=>`(["top","bottom"])
|`(uo)=>`(["trees","one","other"])
|`(uq)=>`(fun b o u q=>by rw[AK (AW q hTn)];exact q)
local macro_rules
|`(ur)=>`(.Name x pos)
|`(ut)=>`(.type "int")
|`(uu)=>`(.seq #[] 0)
|`(uv)=>`(ha pins s σ H _ I h)
|`(uw)=>`(∀x∈scope.names,x.2=NameKind.free->∃c,cl.lookup x.1=some c)
|`(ux)=>`(fun b ys q=>by rw[AK (AW q hTn)];exact q)
|`(uy)=>`(Ey fun i j=>decide (j<i))
|`(uz)=>`(w.1.getD p 0)
|`(u0)=>`({s with heap:=h',toks:=t'})
|`(u4)=>`(VL->VL->Sem VL)
|`(u5)=>`(FT s.heap TI (.ref i1) (.ref i2) (.ref i3))
|`(u6)=>`(["_law_top","_law_bottom"])
|`(u7)=>`(X.N.Nodup)
|`(u8)=>`(aF e)
|`(u9)=>`((fun rest r s'=>r.1=none/\s'=s/\∀v∈rest,Good s.heap n v))
|`(vA)=>`(Nat->Heap->Prop)
|`(vB)=>`(S1 k s.heap)
|`(vC)=>`(S2 k s.heap)
|`(vD)=>`(.ref D)
|`(vE)=>`(onTheHeap (Value.ref C)&&Value.builtin "BaseException.__getattribute__" == Value.builtin "object.__getattribute__")
|`(vF)=>`(∀ y∈scope.names,y.2 = .free->X.env.scope.names.lookup y.1 = some .cell\/X.env.scope.names.lookup y.1 = some .free)
|`(vG)=>`(["_law_pile","_law_size"])
|`(vH)=>`(by simpa using e)
|`(vI)=>`(∀b u,h.get? b=some u->h'.get? b=some u)
|`(vJ)=>`(.ref it)
|`(vK)=>`(.lst [.int cell])
|`(vL)=>`(.list (g.map ER))
|`(vM)=>`(fun c r=>by rw[AK (AW r hTn)];exact r)
|`(vN)=>`(AI X.prog X.w X.K X.mg X.base (CN X.prog X.w) k f fd ps sp)
|`(vO)=>`(Ot (.ref h.objs.size) (.ref (h.push (BP b1 g)).objs.size) (.ref ((h.push (BP b1 g)).push (BP b2 T)).objs.size))
|`(vP)=>`(["table","tree"])
|`(vQ)=>`(V->Option Int->Option Int->Hp->VK->Prop)
|`(vR)=>`(.int i)
|`(vS)=>`(.ref p)
|`(vT)=>`(List PD)
|`(vU)=>`(List KR)
|`(vV)=>`(by show X.A.in1.units+8<cLine;rw[Around.in1_units];lia)
|`(vW)=>`((by have:=T.units;exact this))
|`(vX)=>`(.int (p:Int))
|`(vY)=>`(A.handled=none)
local macro_rules
|`(vZ)=>`(∀y∈scope.names,y.2=.free->X.env.scope.names.lookup y.1=some .cell\/X.env.scope.names.lookup y.1=some .free)
|`(va)=>`(s.heap.IsTuple b its'.toArray)
|`(vc)=>`(fun b o hc q=>⟨o,keep b o hc q⟩)
|`(vd)=>`(binaryOp .Add)
|`(ve)=>`(Cq CX P w K mg base N qual scope f cdv A outer s H E)
|`(vf)=>`(["some","bottom"])
|`(vg)=>`(["rows","tree","known"])
|`(vh)=>`(["_law_table_here","_law_number","_law_rows","_law_last","_law_place","_law_some","_law_bad","_law_longer"])
|`(vi)=>`(∀x c,cl.lookup x=some c->X.env.cells.lookup x=some c)
|`(vj)=>`(starEach [] X.env)
|`(vk)=>`(Wb (bP ?_))
|`(vm)=>`(Dz ns)
|`(vn)=>`(JN (JI (BW II rfl AN ax (AH (pv 0) (AH (Ic (v:=.ty "list") rfl Ef PyProof.Rows.boot_list rfl) AV)))))
|`(vo)=>`({s with heap:=s.heap.push { cls:=.type "range",data:=.fields #[.int lo t,.int hi u,.int 1 v]},toks:=tk})
|`(vp)=>`(aV hz rfl (x:=.bool false) rfl ?_)
|`(vq)=>`(fun b o _ _ hc q _=>keep b o hc q)
|`(vt)=>`(fs δ=some xs)
|`(vv)=>`(fun m hm=>?_)
|`(vw)=>`(by simpa using g)
|`(vx)=>`(Tr.of ts)
|`(vy)=>`(seqObj "list" g.toList.toArray 0)
|`(vz)=>`(Option Tr)
|`(v0)=>`(e _ _ ha)
|`(v5)=>`(fun cl C s₀ H₀ fp=>(he cl C s₀ H₀ fp).pe)
|`(v6)=>`(AH (pv 1) AV)
|`(v7)=>`(AH (pv 2) AV)
|`(v8)=>`(nm 4)
|`(v9)=>`(nm 5)
|`(wA)=>`(F.args_zip_next_1 _)
|`(wB)=>`(GU w o ev ep t)
|`(wC)=>`({s with toks:=s.toks+Fs k})
|`(wD)=>`(PyData.bool (decide (((BE g.rs).length:Int)<6)))
|`(wE)=>`(wpAny_isInstance (T := "StopIteration") (b:=true) ⟨o,g,hc⟩ isSubtype_stop (aA (q _ _ kp)))
|`(wF)=>`(fun b _ o hc _ q=>keep b o hc q)
|`(wG)=>`((·.2))
|`(wH)=>`((envOfC qual scope s.heap.objs.size f cd::outer))
|`(wI)=>`(by rw[show A.in1.units=A.units+1 from rfl];lia)
|`(wJ)=>`(PI X (Pf x y px py tk tp) iter wi)
|`(wK)=>`((Dd u).take i)
|`(wL)=>`((Ap k).map Gf)
local macro_rules
|`(wM)=>`(boot_heap w.params)
|`(wN)=>`(String)
|`(wO)=>`(Key key p (m-1))
|`(wP)=>`(ix.map fun i=>t.bs.getD i .nil)
|`(wQ)=>`(!t.plain&&decide (ev.size > 1))
|`(wR)=>`(δ.set i (.d y))
|`(wS)=>`(forIn us b fun x r=>do let h <-pyHash x;pure PUnit.unit;pure (ForInStep.yield (r.push h)))
|`(wT)=>`(.builtin id)
|`(wU)=>`(mg "tuple" = none)
|`(wV)=>`(fC (.int 2))
|`(wW)=>`(ForInStep.done (some true,()))
|`(wX)=>`((fun fin s'=>∃v,fin=.done (.ret v)/\Q v s'))
|`(wY)=>`(.lst (List.replicate rows.length (V.int 1)))
|`(wZ)=>`(∀b u,s.heap.get? b=some u->h'.get? b=some u)
|`(wa)=>`(X.env.scope.kind==.class||(X.env.scope.kind==.module&&X.env.locals != X.env.globals))
|`(wb)=>`(OZ I5 hN hy (.inl hly) (v:=.ref D') rfl (fun s'' I6 ⟨a,hsb,ha⟩ => ?_) (.inr hly))
|`(wc)=>`(.tup [.int (i:Nat),x])
|`(wd)=>`(some (V.ref D))
|`(we)=>`((∀c o,c≠z->c≠TO->c≠i1->c≠i2->c≠i3->s.heap.get? c=some o->h'.get? c=some o))
|`(wg)=>`(Value.ref h.objs.size)
|`(wh)=>`(.Name "zip" p2)
|`(wj)=>`(.lst ((FQ rows t).map V.int))
|`(wk)=>`(Str.ofString n)
|`(wm)=>`(by simp only[PyData.canLay0,Bool.and_eq_true]at c;first|exact c|exact c.2|exact c.1)
|`(wn)=>`(Scope)
|`(wp)=>`(∀vs H Q E,sp vs H Q E->vs.length=ps.length)
|`(wq)=>`(List Int)
|`(wt)=>`(["row","shares"])
|`(wu)=>`(Nat->Rat)
|`(wv)=>`(t.Ok 4)
|`(ww)=>`(model P w)
|`(wx)=>`(aA ⟨_,rfl,wpAny_pure h⟩)
|`(wy)=>`(Tr.lt t u)
|`(wz)=>`(D2.frame _ _ _ t2 (Ao d4 Y))
|`(xA)=>`(fun c w hc r=>keep c w ?_ r)
|`(xB)=>`(JN (JI (BW II rfl AN ax (AH (pv 0) (AH (Ic (v:=.ty "tuple") rfl B5 bF rfl) AV)))))
|`(xC)=>`(AE (pv 5))
|`(xD)=>`((∃r,g x=some r/\F T=some (.rt r))\/(g x=none/\∃δ2,F T=some (.nx δ2)/\U δ2))
|`(xE)=>`(Ot .none .none .none)
|`(xF)=>`(["bottoms"])
local macro_rules
|`(xG)=>`(VL->Tr->Prop)
|`(xH)=>`(some t)
|`(xI)=>`(fun Z ha=>Ca (Hz af PySem.F.slot_list_extend PySem.F.type_list_extend Ln Z ha))
|`(xJ)=>`(AA (BH AG) AG)
|`(xK)=>`(fun r k=>(Hh t r).getD k 0)
|`(xL)=>`(["_law_script","_law_table_here","_law_papers","_law_paper","_law_k","_law_great"])
|`(xM)=>`(BP b2 T)
|`(xN)=>`(BE t.rs)
|`(xO)=>`(An t.ls)
|`(xP)=>`(Array VL)
|`(xQ)=>`((∀b∈fp,H' b=none))
|`(xR)=>`(D7 scope N x ix)
|`(xS)=>`(s.heap.IsTuple a its.toArray)
|`(xU)=>`(.Call (.Name "enumerate" p) [a] [] pos)
|`(xV)=>`(.nx (δ.set i (.own (.lst (xs++[y])))))
|`(xW)=>`(OA z TI TO i1 i2 i3 f1 f2 f3)
|`(xX)=>`(Obj.mapSeq (fun _ => (#[] : Array VL)))
|`(xY)=>`(["_law_caught"])
|`(xZ)=>`(fun f vs=>PySem.call f vs)
|`(xb)=>`(Nat.lt_irrefl _)
|`(xc)=>`(AM st)
|`(xf)=>`(fun hb=>(hf _ hb).2.1 rfl)
|`(xg)=>`(Ey fun i j=>decide (j<=i))
|`(xh)=>`(by show(2:Nat)<=CI;decide)
|`(xi)=>`(.list [.list [],.list []])
|`(xj)=>`(Nat->List V->Hp->Prop)
|`(xk)=>`(ND s.heap z TI TO T b)
|`(xl)=>`(Str->Option Value)
|`(xm)=>`(Loc X.env.scope x)
|`(xn)=>`(X.mg "zip" = none)
|`(xo)=>`(.ref f)
|`(xp)=>`(some v)
|`(xq)=>`(fun b hb=>?_)
|`(xr)=>`(.type (Qf d))
|`(xt)=>`((BX x,x))
|`(xu)=>`(.list xs)
|`(xw)=>`((Y.2 _ e1).trans y)
|`(xx)=>`(fun ho ha=>Ca (Hz af bD bE FK ho ha))
|`(xy)=>`(["_law_table_here","_law_paper","_law_found","_law_which","_law_caught","e"])
|`(xz)=>`(eW ha hb I h fun v u s2 x y Z Y T g q=>U pins s2 σ Z x y v u Q Y T g q)
local macro_rules
|`(x6)=>`(fun T H'=>T=[some (.int t),some (.int b),some (.int (FM.gs t b))]/\H=H')
|`(x8)=>`(Unit->SD->Prop)
|`(x9)=>`(Or.inr rfl)
|`(yA)=>`(s.heap.IsTuple a g.toArray)
|`(yB)=>`(D1.frame _ _ _ v1 fun c hc o e=>up c o (fun y=>d1 (y ▸ hc)) (aE _ e))
|`(yC)=>`(D2.frame _ _ _ v2 fun c hc o e=>up c o (fun y=>d4 (y ▸ hc)) (aE _ e))
|`(yD)=>`(t.probeStart h)
|`(yE)=>`(Er true)
|`(yF)=>`(.nx δ')
|`(yG)=>`(((Tz u:Nat):Int))
|`(yH)=>`(AQ Oq (fC (.int 10)) (fC (.int 18)))
|`(yI)=>`(.Compare a [op] [b] pos)
|`(yJ)=>`((envOfC qual scope s.heap.objs.size f cd::outer).filterMap (·.frame))
|`(yK)=>`(Value.ref t==Value.none)
|`(yL)=>`(rawInt s.heap.objs.size)
|`(yM)=>`(m*m+69621*(0+(i:Nat))+7)
|`(yN)=>`(v*v+69621*(0+(i:Int))+7)
|`(yO)=>`(It->Hp->Prop)
|`(yP)=>`(ES×SetTable)
|`(yQ)=>`((∀c o,c≠z->c≠i1->c≠i2->s.heap.get? c=some o->h'.get? c=some o))
|`(yR)=>`(["base","power"])
|`(yS)=>`(fun g ha=>Ca (Hz af bD bE FK g ha))
|`(yT)=>`(PI X (.Name x px) iter wi)
|`(yU)=>`(∀σ H,Pv xs.length σ H->D.nx σ H)
|`(yV)=>`(.call (.ref fa) ⟨[.ref a],[]⟩)
|`(yW)=>`(.ref s2.heap.objs.size)
|`(yX)=>`(by rw[sizeLine_eq];lia)
|`(yY)=>`(.ref I)
|`(yZ)=>`(es.toList=xs.map EM)
|`(ya)=>`(ds.length=ps.length)
|`(yc)=>`(.int g)
|`(yd)=>`(fun h=>Ca h)
|`(ye)=>`(.tup [V.ref R,V.ref D])
|`(yf)=>`(fun b o q=>?_)
|`(yg)=>`(behindInMarks op b=false)
|`(yh)=>`(.type "NoneType")
|`(yi)=>`(ah _)
|`(yj)=>`((∀g,d≠.dict g))
|`(yk)=>`(SetTable)
|`(yl)=>`(by rw[isSubtype_type];kernel_rfl)
local macro_rules
|`(ym)=>`(DE X e f)
|`(yn)=>`(BU (RE (AH (A2 Fb (pv 0) (pv 2)) (AH (A2 Fb (pv 1) (pv 2)) AV))))
|`(yo)=>`(Str.ofString "1")
|`(yp)=>`(OsState)
|`(yq)=>`(fun z=>g (by simp[z]))
|`(yr)=>`(aZ _ (aZ _ (Kh hb e)))
|`(yt)=>`(.tup ys)
|`(yu)=>`(hi pins s σ H _ I hw)
|`(yw)=>`(List Tr)
|`(yx)=>`(.tuple ds)
|`(yy)=>`(.nx δ2)
|`(yz)=>`(FM.gi c b)
|`(y7)=>`(List (List Int))
|`(y8)=>`(mg "zip" = none)
|`(y9)=>`(Gl X x)
|`(zA)=>`(HT.Bu xs.length 0 lo=0/\HT.Bu xs.length xs.length hi=xs.length)
|`(zB)=>`(fr.length=N.length)
|`(zC)=>`({s1 with heap:=h'})
|`(zD)=>`(List ExceptHandler)
|`(zE)=>`(Obj.mapSeq (·.push Value.none))
|`(zF)=>`(HO.tup [V.int (t.fdiv (FM.gs t b)),V.int (b.fdiv (FM.gs t b))])
|`(zG)=>`(["boughs"])
|`(zH)=>`(["tables"])
|`(zJ)=>`(["table","tree","ways","parent","longer","way","share","k","part"])
|`(zK)=>`(V->List V->Hp->VK->Prop)
|`(zL)=>`(seqObj "list" (ix.map fun i=>us.getD i Value.none).toArray e1)
|`(zM)=>`(xs++ys)
|`(zN)=>`(he pins s σ H _ I h)
|`(zO)=>`(start N vs)
|`(zP)=>`(PySem.W.fnOf name qual params g scope dV kV doc pm an cdv ct)
|`(zQ)=>`(HT.Bu xs.length 0 lo)
|`(zR)=>`(Heap.SameBut.refl ..)
|`(zS)=>`(.nx δ)
|`(zT)=>`(.lst (xs++[V.ref U]))
|`(zU)=>`(mg "MOST_ORDER" = some (.int 6 g))
|`(zV)=>`(Mm t p)
|`(zW)=>`(AI X.prog X.w X.K X.mg X.base (CN X.prog X.w) k fA fd ps (Ep m))
|`(zX)=>`(Ej (Jl rfl (Bw (x:=.int 2) (y:=.int 2) rfl rfl (Rp 2))) rfl)
|`(zY)=>`(Bool->Hp->Prop)
|`(zZ)=>`(AI P w K mg base CX k f fd ps sp)
local macro_rules
|`(za)=>`(PA X (e::es) t)
|`(zb)=>`(List (Str×AD))
|`(zc)=>`(Obj.mapSeq (· ++ vs.toArray))
|`(zd)=>`(List (Int×VL))
|`(ze)=>`(List (Int×Tr))
|`(zf)=>`(Kf s.heap k kv)
|`(zg)=>`(DE X a f)
|`(zi)=>`({s1 with heap:=h5,toks:=s1.toks})
|`(zj)=>`(aI (show a<l from aG (bW a) (aP (Nat.le_max_right _ _) g)))
|`(zk)=>`(List Rat)
|`(zm)=>`(["many"])
|`(zn)=>`(Bw (x:=.int ((BE t.rs).length:Nat)) (y:=.int 5) rfl rfl ?_)
|`(zo)=>`(.UnaryOp .Not a pos)
|`(zp)=>`(((Bu n 0 lo:Nat):Int))
|`(zq)=>`(AA (fC (.int 8)) AG)
|`(zr)=>`(do let v <- whole; standAt e.pos; holding [v] (truthy v))
|`(zt)=>`(PySem.F.args_tuple_add_2 _ _)
|`(zu)=>`(((Bu items.size 0 lo:Nat):Int))
|`(zv)=>`(Ar X.K H p ys\/BJ X.K H p ys)
|`(zw)=>`(binaryOp .Mult)
|`(zx)=>`(.ref ea)
|`(z9)=>`(wpAny_runValue (codeAny_builtin entry_proto_collect' ?_))
|`(zAA)=>`(.list ds)
|`(zAB)=>`(BP b2 Y)
|`(zAC)=>`(DM fr δ)
|`(zAD)=>`(AW z hD)
|`(zAE)=>`((by have:=hr.units;exact this))
|`(zAF)=>`(by rw[List.length_range];lia)
|`(zAG)=>`(Key key p i)
|`(zAH)=>`(Key key p m)
|`(zAI)=>`(Key key p k)
|`(zAJ)=>`(by rw[typeLookup_type,builtinLookup_eq_fast];kernel_rfl)
|`(zAK)=>`(T.ins _ _ U)
|`(zAL)=>`(Tr.of (if rev then Tr.C7 t.bs else(Tr.C7 t.bs).reverse))
|`(zAM)=>`(BO Gs)
|`(zAN)=>`(behindTheImports p)
|`(zAO)=>`(importedModules p.main.body)
|`(zAP)=>`(.ref d)
|`(zAQ)=>`(O5 wi fr ix tif te)
|`(zAR)=>`(out b (T b o e) hb)
local macro_rules
|`(zAS)=>`(.ref G)
|`(zAT)=>`(Vs s.heap u its')
|`(zAU)=>`(.Tuple elts x1 pos)
|`(zAV)=>`(rawInt g.objs.size)
|`(zAW)=>`(by rw[Around.in1_units];lia)
|`(zAX)=>`(HG led)
|`(zAY)=>`(.tuple xs)
|`(zAZ)=>`((false,eval c X.env))
|`(zAa)=>`(.int c)
|`(zAb)=>`(EZ (pv 0))
|`(zAc)=>`(mg "list" = none)
|`(zAd)=>`(["trees"])
|`(zAe)=>`(List β)
|`(zAf)=>`({s with heap:=h'',gens:=s.gens,drawn:=s.drawn,toks:=tk+1})
|`(zAg)=>`(List uB)
|`(zAh)=>`(["_law_pile"])
|`(zAi)=>`(PyData.bool (decide ((5:Int)<((BE t.rs).length:Int))))
|`(zAj)=>`(AZ rfl (AZ (Am (xs:=[.int (k:Int)]) rfl (fw hk)) rfl))
|`(zAk)=>`(List V->Hp->VK->Prop)
|`(zAl)=>`(Str->Option NameKind)
|`(zAm)=>`(List (Str×NameKind))
|`(zAn)=>`(fun r U=>⟨U.1,by lia,by lia,U.2.2.2.1,U.2.2.2.2⟩)
|`(zAo)=>`(IsPair s.heap TO a b)
|`(zAp)=>`(Memo Dm rows W H d r)
|`(zAq)=>`(fun q=>decide (q.1=some t))
|`(zAr)=>`(BA (AB Ce AF))
|`(zAs)=>`(fun w=>(w.1,Bz (xT t) w.2))
|`(zAt)=>`(FY (ds:=[Ad t]) rfl (Za o))
|`(zAu)=>`(I.ok.WY x c hfn Y)
|`(zAv)=>`(s.heap.IsList l us.toArray\/s.heap.IsTuple l us.toArray)
|`(zAw)=>`(.builtin "sorted")
|`(zAx)=>`(D2.item k _ _ _ l2 t2' fun y g4 tk4 p2 u2 m4=>aA ?_)
|`(zAy)=>`({s with heap:=h'',gens:=s.gens,drawn:=s.drawn,toks:=tk})
|`(zAz)=>`(.Call (.Name "isinstance" p1) [a,.Name xT g] [] pos)
|`(zBA)=>`(codeAny_handlers_test (Ku (I5.held ea) hg hm ?_ hd))
|`(zBB)=>`(D1.item k _ _ _ he1 t1' fun x g2 tk2 p1 u1 g=>aA ?_)
|`(zBC)=>`(BH (AA (nm 6) AG))
|`(zBD)=>`(fun _ q=>q)
|`(zBE)=>`(fun b o hb e=>eb b o hb e)
|`(zBF)=>`(assign (.Name y py) X.env)
local macro_rules
|`(zBG)=>`(.Name z pz)
|`(zBH)=>`(.tup [x,y])
|`(zBI)=>`({s with heap:=h',gens:=s.gens,drawn:=s.drawn,toks:=tk})
|`(zBJ)=>`(.int (i*j))
|`(zBK)=>`(Dv->Option Bool)
|`(zBL)=>`((fun f s'=>f=.next/\∃H',Inv X pins σ H' s'/\N H'))
|`(zBM)=>`(mg "sum" = none)
|`(zBN)=>`((t.2:Rat)*D4 x t.1+Bz x p)
|`(zBO)=>`(["_law_script"])
|`(zBP)=>`(Et X.prog X.w H' h')
|`(zBQ)=>`(Value->Shared->Prop)
|`(zBR)=>`(X.mg "range" = none)
|`(zBS)=>`(.ListComp elt [⟨target,iter,ifs,0⟩] scope pos)
|`(zBT)=>`(((carry fr σ).set ix (some v1)).set iy (some v2))
|`(zBU)=>`(["_law_caught","_law_some","_law_names","_law_found"])
|`(zBV)=>`(α->β->Prop)
|`(zBW)=>`(I.base.BM b xs q)
|`(zBX)=>`(I.base.keep b o e n hb T)
|`(zBY)=>`(compareOp .IsNot)
|`(zBZ)=>`(if v<0 then max (v+(n:Int)) 0 else min v (n:Int))
|`(zBa)=>`(.Tuple elts x1 g)
|`(zBb)=>`(.Name "sorted" p)
|`(zBc)=>`(.ref g.objs.size)
|`(zBd)=>`(as.map V.ref)
|`(zBe)=>`(.inr ⟨_,rfl⟩)
|`(zBf)=>`((U.2 _ c5.symm).trans ((g.2 _ c8.symm).trans z1))
|`(zBg)=>`(aV hz.1 rfl (x:=.ref TI) rfl (Wb (aU hI rfl ?_)))
|`(zBh)=>`(.tup [.int p.1,.int p.2])
|`(zBi)=>`(List.length_replicate ..)
|`(zBj)=>`(upd H p (.lst [V.int 1]))
|`(zBk)=>`(fun n=>x n*b)
|`(zBl)=>`(fun x=>match x with|.int i=>KN t i.toNat|_=>none)
|`(zBm)=>`(Nat->Nat->α)
|`(zBn)=>`(if v<0 then(v+(n:Int)).toNat else min v.toNat n)
|`(zBo)=>`(DI X (.Tuple [.Name x px,.Name y py] tk tp) iter fs)
|`(zBp)=>`(.Tuple [.Name x px,.Name y py,.Name z Z] k1 pos)
|`(zBq)=>`({o with slots:=sl})
|`(zBr)=>`(f (.int i t) (.int j u))
|`(zBs)=>`(Str->Option VL)
|`(zBt)=>`(.ListComp elt [⟨tgE,iter,ifs,0⟩] scope pos)
local macro_rules
|`(zBu)=>`(Passes (CN X.prog X.w) X E)
|`(zBv)=>`(Vs s.heap t us)
|`(zBw)=>`(((carry fr σ).set ix (some U)).set Z (some T))
|`(zBx)=>`(k=n1\/(k<n1/\k=n2))
|`(zBy)=>`(by simp[carriedByValue])
|`(zBz)=>`(Kj s.heap d xs)
|`(zCA)=>`(Fn X.K X.mg x st' ps fA fd)
|`(zCB)=>`(FT s.heap TO a b c)
|`(zCC)=>`(d.canLay0=true)
|`(zCD)=>`(((DM fr δ).set i (.d (a z))).set j (.d (b z)))
|`(zCE)=>`((PM _ _).trans (by rw[decide_eq_true rfl];rfl))
|`(zCF)=>`((fun i v=>∃z,(HA w S ep ev)[i]? = some (z,v)))
|`(zCG)=>`(∀v g H',Rw G0 H0 g H' σ δ ((z,v)::ts)->Q v H')
|`(zCH)=>`(fun _ _ ⟨v,H',g,r,q⟩=>⟨v,H',g.Ee,r,q⟩)
|`(zCI)=>`(∀b u,b≠e->h.get? b=some u->h'.get? b=some u)
|`(zCJ)=>`(VO 5 (AQ MO v9 (BH (AA (A0 (AA Lz (AA (AQ A7 (nm 3) (BH (AA (A0 (AA Da (AA Da AG))) AG))) AG))) (AA (A0 (AA Lz (AA (Ir (nm 3) Gh (Gm (SS Da))) AG))) (AA (A0 (AA (Ir Lz Gh (Gm (SS Da))) Pi)) (AA (A0 (AA (AQ A7 Lz (BH xJ)) (AA (AQ A7 (nm 3) (BH (AA (A0 (AA IN (AA Da AG))) AG))) AG))) AG)))))))
|`(zCK)=>`(GG (BH (AA (A0 (AA wV (AA (fC (.int 4)) AG))) (AA (A0 (AA Da (AA IN AG))) (AA (A0 (AA IN (AA wV AG))) (AA (A0 (AA Da (AA (SS Da) AG))) (AA Da (AA (fC Iu) (AA tX (AA (BH (AA Da (AA Da AG))) (AA (A0 (AA Da (AA Da (AA Da AG)))) (AA (fC (.str yo)) AG))))))))))))
|`(zCL)=>`(∀cl C s₀ H₀ fp,L4 Ch ifs tif)
|`(zCM)=>`(∀cl C s₀ H₀ fp,PE Ch elt te)
|`(zCN)=>`(CK DL (pv 0) AY Db)
|`(zCO)=>`(Builtin.SmallTypes.ownedTupleIsFree Of>>=_)
|`(zCP)=>`(ZT.EI (prog:=X.prog) (w:=X.w) (A:=X.A.in1) SL b1 i1 a1 us (e1 i1 As))
|`(zCQ)=>`(ZT.EI (prog:=X.prog) (w:=X.w) (A:=X.A.in1) SL b2 i2 a2 vs (e2 i2 As))
|`(zCR)=>`(A6 (i:=2) sc.nd rfl At)
|`(zCS)=>`(N6 5 (AA tX (AA (BH (AA Lz Pi)) (AA (A0 (AA Lz AG)) (AA (A0 (AA Lz (AA (nm 3) xJ))) (AA (A0 (AA (BH AG) xJ)) (AA (A0 (AA (AX IT (AA Lz AG)) Pi)) (AA (A0 (AA Lz (AA (AX IT Pi) AG))) AG))))))))
|`(zCT)=>`(AA Lz AG)
|`(zCU)=>`(AQ A7 v9 (BH (AA (A0 (AA (AQ A7 (AQ A7 (Ir Lz Gh (Gm v8)) (BH (AA (AQ A7 (AQ B4 Lz v8) (BH (AA (A0 (AA IN (AA Da AG))) AG))) AG))) (Ir Lz (Gm (AQ A7 v8 Da)) Gh)) Pi)) AG)))
|`(zCV)=>`(Bd I q As)
|`(zCW)=>`(notedBy AS A env fun e s'=>R (.error e) s')
|`(zCX)=>`(∀(δ:Dv) (xs:tj),fs δ=some xs->∀(G0 H0 G H:Hp) (σ:St) (ts:Sc) (R:yO),Rw G0 H0 G H σ δ ts->(∀J G' H',Rw G0 H0 G' H' σ δ ts->KJ J xs G'->R J H')->wi σ H R)
|`(zCY)=>`(∀(δ:Dv) (xs:tj),fs δ=some xs->∀(G0 H0 G H:Hp) (σ:St) (ts:Sc) (R:yO),Rw G0 H0 G H σ δ ts->(∀J g H',Rw G0 H0 g H' σ δ ts->KJ J xs g->R J H')->Z σ H R)
|`(zCZ)=>`(∀D ys G' H',Rw G0 H0 G' H' σ δ ts->H' D=some Jw->G' D=none->H0 D=none->(∀(j:Nat) (us:Oc),δ[j]? = some (L.own us)->σ[j]?≠some wd)->Av G' zs ys->Q vD H')
|`(zCa)=>`(fun r s'=>r=.ok (.ret Iu)/\OldK g.heap s'.heap/\s'.os=g.os/\AllBare s'.gens)
|`(zCb)=>`(pv 1)
|`(zCc)=>`(AA M0 AG)
|`(zCd)=>`(.seq #[Mz] 0)
|`(zCe)=>`((∀U H',N U H'->∃m',m'<m/\W On m' U H'))
|`(zCf)=>`(AA LE AG)
|`(zCg)=>`(Bk EQ AJ Db)
|`(zCh)=>`((e::es))
local macro_rules
|`(zCi)=>`({s with heap:=(s.heap.push Ix).update s.heap.objs.size zc})
|`(zCj)=>`(A6 (i:=4) sc.nd rfl At)
|`(zCk)=>`(A6 (i:=3) sc.nd rfl At)
|`(zCl)=>`(DW.dt (IC (Hu (GS (Md (Lc _) rfl AN rfl B5 bF EQ))) (Hv (Bx (Kk Lx) (Di Gv rfl A5 aa (AB EQ AF)) AJ XV))))
|`(zCm)=>`(AX F0 (AA (AQ B4 v9 IN) AG))
|`(zCn)=>`({ s with heap:=((s.heap.update a uQ).push lc).push Ix })
|`(zCo)=>`(by exact(AB EQ AF))
|`(zCp)=>`(MR 5 (A0 (AA Lz (AA (AQ A7 (AQ A7 (Ir (nm 3) Gh (Gm v8)) zBC) (Ir (nm 3) (Gm (AQ A7 v8 Da)) Gh)) AG))))
|`(zCq)=>`({D with nx:=Pv On,ct:=Pv On,bk:=D.nx})
|`(zCr)=>`(AB Ho AF)
|`(zCs)=>`(AB IO AF)
|`(zCt)=>`(∀(i:Nat) (x:PD) (δ:Dv),xs[i]? = some x->T i δ->∃g,set x δ=some g/\∃δ2,F g=some yy/\T On δ2)
|`(zCu)=>`(Wb (aV hz rfl (x:=.none) rfl WF))
|`(zCv)=>`(∀cl C s₀ H₀ fp,XQ Ch ifs tif)
|`(zCw)=>`(AB Nr AF)
|`(zCx)=>`(.tail _ KM)
|`(zCy)=>`(Bk Ho AJ Db)
|`(zCz)=>`(upd H3 D (.lst l8))
|`(zDA)=>`(∀cl C s₀ H₀ fp,DE Ch elt f)
|`(zDB)=>`(AQ A7 (AQ A7 (AQ Fc Lz (fC (.int 48271))) (AQ Fc M0 (fC (.int 69621)))) (fC (.int 11)))
|`(zDC)=>`(A6 (i:=5) sc.nd rfl At)
|`(zDD)=>`((BX x,Value.ref xa))
|`(zDE)=>`(GQ I hg hm boot_enumerate (aj (BV TD fun us s1 ⟨vs,H1,U,r1,q1⟩=>?_) hs rfl))
|`(zDF)=>`(wpAny_letGo WF)
|`(zDG)=>`(Dv->Option sw)
|`(zDH)=>`(.list [.list [.str WP],.list [.str WP]])
|`(zDI)=>`(.list [.list [.str bn],.list [.str bn]])
|`(zDJ)=>`(pv 2)
|`(zDK)=>`(A0 (AA (nm 7) (AA (AQ A7 (nm 3) (BH (AA (A0 (AA IN (AA Da AG))) AG))) AG)))
|`(zDL)=>`((fun T H'=>∃c:Int,T=[some Jz,some (.int k),some zAa,none,none,none]/\H=H'))
|`(zDM)=>`(AA (AQ A7 M0 Da) AG)
|`(zDN)=>`(AB (A1 BN Nr (BA (AB (A9 lm) AF))) AF)
|`(zDO)=>`(PassesOwn By X.A X.env X.xe)
|`(zDP)=>`(bQ (Wb (aV hz rfl (x:=.ref TO) rfl (Wb (ai hz As fun g1 z1 Y=>Wb ?_)))))
|`(zDQ)=>`(Draws.list (prog:=X.prog) (w:=X.w) (A:=X.A.in1) SL it a hai its.toArray)
|`(zDR)=>`(AQ B4 LE IN)
|`(zDS)=>`(ZT.EI (prog:=X.prog) (w:=X.w) (A:=X.A.in1) SL b3 i3 a3 ws (e3 i3 As))
|`(zDT)=>`(BV TD fun us s1 ⟨vs,H1,I1,Y,Z⟩=>hc pins s1 σ H1 vs us Q I1 Y Z)
|`(zDU)=>`(Fn K mg "greatest_divisor" CO Js g gd)
|`(zDV)=>`(field Of 2>>=_)
local macro_rules
|`(zDW)=>`(field Of 3>>=_)
|`(zDX)=>`(Ia (AZ ln (AZ ln (AZ ln rfl))) AT)
|`(zDY)=>`(Ia (AZ lp (AZ lp (AZ lp rfl))) AT)
|`(zDZ)=>`({s with heap:=((s.heap.push Ix).update s.heap.objs.size OY).push RY})
|`(zDa)=>`(.ref GE)
|`(zDb)=>`(ET.draws (prog:=X.prog) (w:=X.w) (A:=X.A.in1) SL it a its hai)
|`(zDc)=>`(.Call zBb [e] [⟨some "reverse",.Constant Iu j g,kp⟩] pos)
|`(zDd)=>`(DW.dt (IC (Bx Rl EQ AJ XV) (Hv (Bx Q9 EQ (Gy rfl Fy) XV))))
|`(zDe)=>`(pyNext Of)
|`(zDf)=>`(∀(i:Nat) (xs:Oc),δ[i]? = some (L.own xs)->σ[i]?≠some wd)
|`(zDg)=>`(AI P w K mg base Ai 1 g gd Js Om)
|`(zDh)=>`((.ExceptHandler (some og) (some n) (b0::suite) hpos::rest))
|`(zDi)=>`(.Expr (.Call (.Attribute og "append" ap) [e] [] cp) pos)
|`(zDj)=>`(.Expr (.Call (.Attribute og "extend" ap) [e] [] cp) pos)
|`(zDk)=>`(dN d (G8 r xH v ui))
|`(zDl)=>`(AA (AQ B4 LE Da) AG)
|`(zDm)=>`((∃m,W 0 m [] (upd H1 D li)))
|`(zDn)=>`(order.filterMap Id)
|`(zDo)=>`(Cq Tl P w K mg base N qual scope f cd A outer s H E)
|`(zDp)=>`(.int 0)
|`(zDq)=>`(fun b o _ _ hc q _=>⟨o.slots,keep b o LW LW q⟩)
|`(zDr)=>`(((SetTable.insertAt st.1 (st.2.put slot).2 xt)[·]?))
|`(zDs)=>`(I.Aw.fresh UF)
|`(zDt)=>`(Obj.putSet bv (t.put j).1)
|`(zDu)=>`(Builtin.SmallTypes.ownedTupleHandOut Of zBc>>=_)
|`(zDv)=>`(fun y=>decide OF)
|`(zDw)=>`(Bh 7 (AQ A7 Lz (BH (AA (AQ A7 zBC (Dy (Ex 1) F9 (A0 (AA IN (AA Da AG))) [none,none] (C5 IM (AA (AQ Yi (AX F0 zCT) Da) AG)))) AG))))
|`(zDx)=>`(Ff [".0","part","bottom"] 1 [none,none,some 1] zAb cx (fun _ _ _ _ _=>(A2 Cy (CK Jb zCb AY Db) (A2 Fb zDJ (CK Jb zCb AY Db)))))
|`(zDy)=>`(BC (i:=1) sc.nd rfl At (A2 Cy (A2 Fb zCb (Bt Ax BS hr rfl (AH zCb v7))) zDJ))
|`(zDz)=>`(pv 0)
|`(zEA)=>`(∀i x σ H,xs[i]? = some x->Pv i σ H->g x σ H fun T Z=>tb zCq T Z)
|`(zEB)=>`(fun _ _ _ _ _=>(CK Jb zCb AY Db))
|`(zEC)=>`(AH zCN AV)
|`(zED)=>`(IE Af zCf fun _ δ=>.nx δ)
|`(zEE)=>`(AA Lz (AA (AX Pu (AA LE zCT)) (AA (AX RJ zCT) AG)))
|`(zEF)=>`(MX (Le (Jj (Te FR LE))) (CA yE (AX F0 zCf) wV))
|`(zEG)=>`(aU o4 rfl (Wb (put3 o4 fun g5 o5 m5=>Wb zDF)))
namespace Opn
open PySem PySem.W PyProof.Rows PySem.Calls
noncomputable def q0:Pos:=⟨0,0,0,0⟩
noncomputable def qa:Obj:={ cls:=.type "tuple",data:=.seq #[]}
noncomputable def qS:Obj:={ cls:=.none,data:=.fields #[]}
noncomputable def qp:Obj:={ cls:=.type "code",data:=.fields #[.str (Str.ofString "<module>") 182,.str (Str.ofString "<module>") 183,.str (Str.ofString "/claim/cut.py") 184,.int 1 0,.int 0 0,.int 0 0,.int 0 0,.int 0 0,.ref 11,.bool false,.int 181 0,.ref 12,.none,.none,.none,.none,.int 185 0,.int 1 0,.str (Str.ofString "/claim/cut.py") 186]}
noncomputable def qq:Obj:={ cls:=.type "frame",slots:=#[some (.ref 13),some (.ref 3),some (.ref 3),none,some (.str (Str.ofString "__main__") 164),none,some (.ref 0)]}
noncomputable def pZ(P:Params):List Obj:=(boot_heap P).objs.toList++[qa,qS,qp,qq]
noncomputable def nN(P:Params)(o:Params->Obj)(l r:BT):BT:=.node (o P) l r
noncomputable def lN(P:Params)(o:Params->Obj):BT:=.node (o P) .nil .nil
noncomputable def oy(P:Params):BT :=
 nN P boot_o_0 (nN P boot_o_1 (nN P boot_o_3 (lN P boot_o_7) (.node qa .nil .nil)) (nN P boot_o_5 (lN P boot_o_9) (.node qp .nil .nil)))
  (nN P boot_o_2 (nN P boot_o_4 (lN P boot_o_8) (.node qS .nil .nil)) (nN P boot_o_6 (lN P boot_o_10) (.node qq .nil .nil)))
noncomputable def fx:Life:=Life.mk [] [] [] 0 [] [] false #[] [] 0 false false false 0 [2000,10,10] false 0 true [] [] 0 false
noncomputable def sA(w:KB)(os:yp):SD:=⟨⟨⟨pZ w.params⟩,fx⟩,#[],boot_drawn,187,os⟩
noncomputable def sB(w:KB)(os:yp):SharedT:=⟨oy w.params,15,fx,#[],boot_drawn,187,os⟩
noncomputable def QM(p:Go):Env:={ scope:=p.main.scope,locals:=mainNs,globals:=mainNs,cells:=[],code:=.ref 13,frame:=some 14}
noncomputable def cB(p:Go):Code:=.body zAN (QM p)
noncomputable abbrev J9:Option VL:=some (.ref 6)
noncomputable abbrev bB:List Frame:=[topFrame q0]
noncomputable def ZZ(p:Go)(M:Nat)(w:KB)(os:yp):Option (Flow×SharedT×Code×Pos) :=
 PySem.W.Fast.tw10110043849684766642 PySem.W.Fast.tw14364793385576792824 p w 11 J9 1 M (sB w os) (piecesOf zAN (QM p) (cB p) q0 bB)
noncomputable def Yw(p:Go)(M:Nat)(w:KB)(os:yp):SharedT:=match ZZ p M w os with|some (_,s,_)=>s|none=>sB w os
def jb{p:Go}{M:Nat}{w:KB}{os:yp}{r:Option (Flow×SharedT×Code×Pos)}(h:ZZ p M w os=r):segRunT treeTable p w 11 J9 1 M (sB w os) (piecesOf zAN (QM p) (cB p) q0 bB)=r:=by
 have e:segRunT treeTable=PySem.W.Fast.tw10110043849684766642 PySem.W.Fast.tw14364793385576792824:=congr PySem.W.Fast.te10110043849684766642 PySem.W.Fast.te14364793385576792824;rw[e];exact h
def ky{p:Go}{M U:Nat}{g:Pos}{w:KB}{os:yp} (pre:topGo treeTable p w 11 J9 12 ⟨boot_heap w.params,#[],boot_drawn,boot_toks,os⟩ (topStub p)=some (sA w os,⟨denote treeTable (cB p),cB p,q0,bB⟩)) (T:segRun treeTable p w 11 J9 1 1 (sA w os) (blockOf zAN (QM p) (cB p) q0 bB)=some (.next,(sB w os).abs,cB p,q0)) (seg:ZZ p M w os=some (.next,Yw p M w os,cB p,g)) (fin:∀s,topRun treeTable p w 11 J9 2 s (restOf [] (QM p) (cB p) g bB)=some s)(Y:U=12+(1+(M+2))):topRun treeTable p w 11 J9 U ⟨boot_heap w.params,#[],boot_drawn,boot_toks,os⟩ (topStub p)=some (Yw p M w os).abs:=by
 subst Y;refine go_top pre (piece_block T ?_);have h:=piece_app (rest:=[]) (segRun_of (jb seg)) (fin _);rw[List.append_nil]at h;exact h
def jG{p q:Go}{loose:uC}{Xt:SD->Bool}{α:Type}{Yf:SD->α}{Ya:World->α}{N M:Nat}{S:World->OsState->SD} (g:∀w:World,(fencedOpening treeTable p w N).map (fun s=>(s.heap,s.gens,s.drawn,s.toks))=some (boot_heap w.params,#[],boot_drawn,boot_toks)) (size:∀w:World,l7=(true,11,J9)) (run:∀w os,topRun treeTable p w 11 J9 M ⟨boot_heap w.params,#[],boot_drawn,boot_toks,os⟩ (topStub p)=some (S w os))(le:Nat.ble M N=true) (ok:∀w os,(staticsOk zAO wM (S w os).heap&&namesBound p (S w os).heap&&gensDone (S w os)&&laidKept wM (S w os).heap)=true) (seen:∀w os,openSeen q loose zAO Xt true (S w os)=openGood q loose) (hY:∀w os,Yf (S w os)=Ya w):LeftO p q loose Xt Yf Ya N:=fun w=>by
 obtain⟨⟨h,gs,d,k,os⟩,e,e'⟩:=aC.mp (g w);obtain⟨rfl,rfl,rfl,rfl⟩:h=boot_heap w.params/\gs=#[]/\d=boot_drawn/\k=boot_toks:=by simpa using e'
 obtain⟨Y,U,T⟩:_/\_/\_:=by simpa only[Prod.mk.injEq]using size w
 have Z:=ok w os;have r:=topRun_mono (N-M) _ _ _ _ (run w os);rw[show M+(N-M)=N by have:=Nat.le_of_ble_eq_true le;lia]at r;have t:topFrom treeTable p w N ⟨boot_heap w.params,#[],boot_drawn,boot_toks,os⟩=some (S w os):=by
  unfold topFrom;dsimp only;rw[Y,U,T,r];show(match staticsOk zAO wM (S w os).heap&&namesBound p (S w os).heap&&gensDone (S w os)&&laidKept wM (S w os).heap with|true=>_|false=>_)=_;rw[Z]
 unfold openEnds;rw[e];show(topFrom treeTable p w N _).map _=_;rw[t];exact bO some (Prod.ext (seen w os) (hY w os))
def qQ(w:KB):l7=(true,11,J9):=by kernel_rfl
end Opn
namespace Q55
open PySem
def top(i:Nat):Stmt:=PySem.Challenge.pw_stepgrove_k55_tables_that_no_judge_walks.main.body.getD i (.Pass ⟨0,0,0,0⟩)
end Q55
namespace L2
open PySem
def HR(s:Stmt):Arguments:=match s with
 |.FunctionDef _ a _ _ _ _ _ _ _ _=>a
 |_=>{ posonlyargs:=[],args:=[],vararg:=none,kwonlyargs:=[],kw_defaults:=[],kwarg:=none,defaults:=[]}
def EC(s:Stmt):uL:=match s with
 |.FunctionDef _ _ b _ _ _ _ _ _ _=>b
 |_=>[]
def AM(s:Stmt):Scope:=match s with
 |.FunctionDef _ _ _ _ _ _ sc _ _ _=>sc
 |_=>{ kind:=.function,names:=[],isGenerator:=false,isCoroutine:=false}
end L2
namespace Q55
open PySem L2
section
open PySem.W PyProof.Rows PySem.Calls
abbrev GV:Program:=PySem.Challenge.pw_stepgrove_k55_tables_that_no_judge_walks
abbrev CF:OpenLaw:=PySem.Challenge.rw_stepgrove_k55_tables_that_no_judge_walks
noncomputable abbrev dE(P:Params)(x:wN)(t:Nat)(v:VL):DictEntry:=⟨PyData.keyHash P (Str.ofString x),.str (Str.ofString x) t,v⟩
noncomputable abbrev sV(x:wN)(t:Nat):VL:=.str (Str.ofString x) t
noncomputable abbrev fO(n:wN)(i:Nat)(m:wN)(t c:Nat):Obj:=⟨.type "function",none,.func (fnOf n n (HR (top i)) (EC (top i)) (AM (top i)) .none .none .none (.str (Str.ofString m) t) none (.ref c) .none),#[]⟩
noncomputable abbrev cO(n:wN)(t l a k r:Nat)(b:Bool)(Z:Nat)(Y U T v4:VL)(g:Nat):Obj:=⟨.type "code",none,.fields #[sV n t,sV n (t+1),sV "/claim/cut.py" (t+2),.int l 0,.int a 0,.int 0 0,.int 0 0,.int k 0,.ref r,.bool b,.int 181 0,.ref Z,Y,U,T,v4,.int g 0,.int l 0,sV "/claim/cut.py" (g+1)],#[]⟩
noncomputable def kH:Params->Frag:=fun P=>
 (nat_lit 2,⟨.none,none,(.dict #[] 0),#[]⟩) ::
 (nat_lit 3,⟨gv,none,(.dict #[dE P "__name__" 165 (sV "law_stepgrove_k55_tables_that_no_judge_walks" 718),dE P "__doc__" 166 .none,dE P "__package__" 167 .none,dE P "__loader__" 168 (.builtin "__main__.__loader__#opaque"),dE P "__spec__" 169 .none,dE P "__annotations__" 170 (.ref 6),dE P "__builtins__" 171 (.ref 4),dE P "__file__" 173 (sV "/claim/cut.py" 172),dE P "__cached__" 174 .none,dE P "GroveError" 206 Mz,dE P "NoBottom" 222 (.ref 37),dE P "NoTree" 238 (.ref 49),dE P "NoChange" 254 (.ref 61),dE P "NoStart" 270 (.ref 73),dE P "NoTable" 286 uY,dE P "NoName" 302 (.ref 97),dE P "NoWeighing" 318 (.ref 109),dE P "NotAlike" 334 (.ref 121),dE P "NoParts" 350 (.ref 133),dE P "TooMany" 366 oF,dE P "NoText" 382 (.ref 157),dE P "NoLine" 398 (.ref 169),dE P "fraction_of" 409 (.ref 178),dE P "frac_times" 417 (.ref 185),dE P "is_fraction" 424 (.ref 192),dE P "are_fractions" 432 (.ref 199),dE P "is_whole" 439 (.ref 206),dE P "greatest_divisor" 450 (.ref 213),dE P "common_bottom" 459 (.ref 220),dE P "frac_total" 465 (.ref 225),dE P "power_of" 476 (.ref 232),dE P "MOST_ROWS" 480 (.int 40 479),dE P "is_table" 487 (.ref 239),dE P "refuse_no_table" 494 (.ref 246),dE P "are_rows" 503 (.ref 253),dE P "MOST_KNOTS" 507 (.int 7 506),dE P "trees_of" 518 (.ref 260),dE P "trees_to" 527 (.ref 267),dE P "in_falling_order" 534 (.ref 274),dE P "knots_within" 540 (.ref 279),dE P "density_within" 549 (.ref 286),dE P "parents_within" 555 (.ref 291),dE P "trees_one_larger" 566 (.ref 298),dE P "tops_over" 574 (.ref 303),dE P "table_bottom" 580 (.ref 308),dE P "true_weights" 588 (.ref 313),dE P "weights_under" 594 (.ref 318),dE P "readings" 600 (.ref 323),dE P "read_by" 606 (.ref 328),dE P "MOST_ORDER" 610 (.int 6 609),dE P "table_order" 620 (.ref 335),dE P "first_unlike" 632 (.ref 342),dE P "MOST_JUDGED_ROWS" 636 (.int 5 635),dE P "order_paper" 645 (.ref 349),dE P "judge_paper" 654 (.ref 356),dE P "refuse_no_judging" 661 (.ref 363),dE P "lines_of" 669 (.ref 370),dE P "are_true_lines" 680 (.ref 377),dE P "is_due_odd" 689 (.ref 384),dE P "is_line" 697 (.ref 391),dE P "walked_weight" 703 (.ref 396),dE P "table_behind" 711 (.ref 401),dE P "refuse_too_many_rows" 717 (.ref 406),dE P "_law_cell" 731 (.ref 413),dE P "_law_take" 740 (.ref 420),dE P "_law_shared" 748 (.ref 427),dE P "_law_frac" 757 (.ref 434),dE P "_law_plus" 765 (.ref 441),dE P "_law_by" 773 (.ref 448),dE P "_law_part" 781 (.ref 455),dE P "_law_table" 787 (.ref 460),dE P "_law_called" 793 (.ref 465),dE P "_law_flags" 805 (.ref 472),dE P "_law_spoiled" 811 (.ref 477),dE P "law" 823 (.ref 484)] 75),#[]⟩) ::
 (nat_lit 15,⟨FS,none,(.seq #[Mt] 0),#[]⟩) ::
 (nat_lit 22,⟨FS,none,uu,#[]⟩) ::
 (nat_lit 23,⟨gv,none,(.dict #[dE P "__module__" 196 Ma,dE P "__firstlineno__" 200 (.int 2 199),dE P "__static_attributes__" 201 (.ref 22),dE P "__weakref__" 203 (.ref 25),dE P "__doc__" 204 .none] 3),#[]⟩) ::
 (nat_lit 24,⟨l0,none,(.cls ⟨Str.ofString "GroveError",[Mt],[Mz,Mt,T0,MZ,XN],23,Str.ofString "GroveError",true,[],[(.ref 37),(.ref 49),(.ref 61),(.ref 73),uY,(.ref 97),(.ref 109),(.ref 121),(.ref 133),oF,(.ref 157),(.ref 169)],false,none,false⟩),#[some (.ref 15),none,some (sV "GroveError" 189),some (sV "GroveError" 197),some KT,some Iu]⟩) ::
 (nat_lit 25,⟨(.type "getset_descriptor"),none,(.fields #[(sV "__weakref__" 202),Mz,(.builtin "ExceptionGroup.__weakref__"),.none]),#[]⟩) ::
 (nat_lit 28,⟨FS,none,zCd,#[]⟩) ::
 (nat_lit 35,⟨FS,none,uu,#[]⟩) ::
 (nat_lit 36,⟨gv,none,(.dict #[dE P "__module__" 214 Ma,dE P "__firstlineno__" 218 (.int 4 217),dE P "__static_attributes__" 219 (.ref 35),dE P "__doc__" 220 .none] 2),#[]⟩) ::
 (nat_lit 37,⟨l0,none,(.cls ⟨Str.ofString "NoBottom",[Mz],[(.ref 37),Mz,Mt,T0,MZ,XN],36,Str.ofString "NoBottom",true,[],[],false,none,false⟩),#[some (.ref 28),none,some (sV "NoBottom" 207),some (sV "NoBottom" 215),some KT,some Iu]⟩) ::
 (nat_lit 40,⟨FS,none,zCd,#[]⟩) ::
 (nat_lit 47,⟨FS,none,uu,#[]⟩) ::
 (nat_lit 48,⟨gv,none,(.dict #[dE P "__module__" 230 Ma,dE P "__firstlineno__" 234 (.int 6 233),dE P "__static_attributes__" 235 (.ref 47),dE P "__doc__" 236 .none] 2),#[]⟩) ::
 (nat_lit 49,⟨l0,none,(.cls ⟨Str.ofString "NoTree",[Mz],[(.ref 49),Mz,Mt,T0,MZ,XN],48,Str.ofString "NoTree",true,[],[],false,none,false⟩),#[some (.ref 40),none,some (sV "NoTree" 223),some (sV "NoTree" 231),some KT,some Iu]⟩) ::
 (nat_lit 52,⟨FS,none,zCd,#[]⟩) ::
 (nat_lit 59,⟨FS,none,uu,#[]⟩) ::
 (nat_lit 60,⟨gv,none,(.dict #[dE P "__module__" 246 Ma,dE P "__firstlineno__" 250 (.int 8 249),dE P "__static_attributes__" 251 (.ref 59),dE P "__doc__" 252 .none] 2),#[]⟩) ::
 (nat_lit 61,⟨l0,none,(.cls ⟨Str.ofString "NoChange",[Mz],[(.ref 61),Mz,Mt,T0,MZ,XN],60,Str.ofString "NoChange",true,[],[],false,none,false⟩),#[some (.ref 52),none,some (sV "NoChange" 239),some (sV "NoChange" 247),some KT,some Iu]⟩) ::
 (nat_lit 64,⟨FS,none,zCd,#[]⟩) ::
 (nat_lit 71,⟨FS,none,uu,#[]⟩) ::
 (nat_lit 72,⟨gv,none,(.dict #[dE P "__module__" 262 Ma,dE P "__firstlineno__" 266 (.int 10 265),dE P "__static_attributes__" 267 (.ref 71),dE P "__doc__" 268 .none] 2),#[]⟩) ::
 (nat_lit 73,⟨l0,none,(.cls ⟨Str.ofString "NoStart",[Mz],[(.ref 73),Mz,Mt,T0,MZ,XN],72,Str.ofString "NoStart",true,[],[],false,none,false⟩),#[some (.ref 64),none,some (sV "NoStart" 255),some (sV "NoStart" 263),some KT,some Iu]⟩) ::
 (nat_lit 76,⟨FS,none,zCd,#[]⟩) ::
 (nat_lit 83,⟨FS,none,uu,#[]⟩) ::
 (nat_lit 84,⟨gv,none,(.dict #[dE P "__module__" 278 Ma,dE P "__firstlineno__" 282 (.int 12 281),dE P "__static_attributes__" 283 (.ref 83),dE P "__doc__" 284 .none] 2),#[]⟩) ::
 (nat_lit 85,⟨l0,none,(.cls ⟨Str.ofString "NoTable",[Mz],[uY,Mz,Mt,T0,MZ,XN],84,Str.ofString "NoTable",true,[],[],false,none,false⟩),#[some (.ref 76),none,some (sV "NoTable" 271),some (sV "NoTable" 279),some KT,some Iu]⟩) ::
 (nat_lit 88,⟨FS,none,zCd,#[]⟩) ::
 (nat_lit 95,⟨FS,none,uu,#[]⟩) ::
 (nat_lit 96,⟨gv,none,(.dict #[dE P "__module__" 294 Ma,dE P "__firstlineno__" 298 (.int 14 297),dE P "__static_attributes__" 299 (.ref 95),dE P "__doc__" 300 .none] 2),#[]⟩) ::
 (nat_lit 97,⟨l0,none,(.cls ⟨Str.ofString "NoName",[Mz],[(.ref 97),Mz,Mt,T0,MZ,XN],96,Str.ofString "NoName",true,[],[],false,none,false⟩),#[some (.ref 88),none,some (sV "NoName" 287),some (sV "NoName" 295),some KT,some Iu]⟩) ::
 (nat_lit 100,⟨FS,none,zCd,#[]⟩) ::
 (nat_lit 107,⟨FS,none,uu,#[]⟩) ::
 (nat_lit 108,⟨gv,none,(.dict #[dE P "__module__" 310 Ma,dE P "__firstlineno__" 314 (.int 16 313),dE P "__static_attributes__" 315 (.ref 107),dE P "__doc__" 316 .none] 2),#[]⟩) ::
 (nat_lit 109,⟨l0,none,(.cls ⟨Str.ofString "NoWeighing",[Mz],[(.ref 109),Mz,Mt,T0,MZ,XN],108,Str.ofString "NoWeighing",true,[],[],false,none,false⟩),#[some (.ref 100),none,some (sV "NoWeighing" 303),some (sV "NoWeighing" 311),some KT,some Iu]⟩) ::
 (nat_lit 112,⟨FS,none,zCd,#[]⟩) ::
 (nat_lit 119,⟨FS,none,uu,#[]⟩) ::
 (nat_lit 120,⟨gv,none,(.dict #[dE P "__module__" 326 Ma,dE P "__firstlineno__" 330 (.int 18 329),dE P "__static_attributes__" 331 (.ref 119),dE P "__doc__" 332 .none] 2),#[]⟩) ::
 (nat_lit 121,⟨l0,none,(.cls ⟨Str.ofString "NotAlike",[Mz],[(.ref 121),Mz,Mt,T0,MZ,XN],120,Str.ofString "NotAlike",true,[],[],false,none,false⟩),#[some (.ref 112),none,some (sV "NotAlike" 319),some (sV "NotAlike" 327),some KT,some Iu]⟩) ::
 (nat_lit 124,⟨FS,none,zCd,#[]⟩) ::
 (nat_lit 131,⟨FS,none,uu,#[]⟩) ::
 (nat_lit 132,⟨gv,none,(.dict #[dE P "__module__" 342 Ma,dE P "__firstlineno__" 346 (.int 20 345),dE P "__static_attributes__" 347 (.ref 131),dE P "__doc__" 348 .none] 2),#[]⟩) ::
 (nat_lit 133,⟨l0,none,(.cls ⟨Str.ofString "NoParts",[Mz],[(.ref 133),Mz,Mt,T0,MZ,XN],132,Str.ofString "NoParts",true,[],[],false,none,false⟩),#[some (.ref 124),none,some (sV "NoParts" 335),some (sV "NoParts" 343),some KT,some Iu]⟩) ::
 (nat_lit 136,⟨FS,none,zCd,#[]⟩) ::
 (nat_lit 143,⟨FS,none,uu,#[]⟩) ::
 (nat_lit 144,⟨gv,none,(.dict #[dE P "__module__" 358 Ma,dE P "__firstlineno__" 362 (.int 22 361),dE P "__static_attributes__" 363 (.ref 143),dE P "__doc__" 364 .none] 2),#[]⟩) ::
 (nat_lit 145,⟨l0,none,(.cls ⟨Str.ofString "TooMany",[Mz],[oF,Mz,Mt,T0,MZ,XN],144,Str.ofString "TooMany",true,[],[],false,none,false⟩),#[some (.ref 136),none,some (sV "TooMany" 351),some (sV "TooMany" 359),some KT,some Iu]⟩) ::
 (nat_lit 148,⟨FS,none,zCd,#[]⟩) ::
 (nat_lit 155,⟨FS,none,uu,#[]⟩) ::
 (nat_lit 156,⟨gv,none,(.dict #[dE P "__module__" 374 Ma,dE P "__firstlineno__" 378 (.int 24 377),dE P "__static_attributes__" 379 (.ref 155),dE P "__doc__" 380 .none] 2),#[]⟩) ::
 (nat_lit 157,⟨l0,none,(.cls ⟨Str.ofString "NoText",[Mz],[(.ref 157),Mz,Mt,T0,MZ,XN],156,Str.ofString "NoText",true,[],[],false,none,false⟩),#[some (.ref 148),none,some (sV "NoText" 367),some (sV "NoText" 375),some KT,some Iu]⟩) ::
 (nat_lit 160,⟨FS,none,zCd,#[]⟩) ::
 (nat_lit 167,⟨FS,none,uu,#[]⟩) ::
 (nat_lit 168,⟨gv,none,(.dict #[dE P "__module__" 390 Ma,dE P "__firstlineno__" 394 (.int 26 393),dE P "__static_attributes__" 395 (.ref 167),dE P "__doc__" 396 .none] 2),#[]⟩) ::
 (nat_lit 169,⟨l0,none,(.cls ⟨Str.ofString "NoLine",[Mz],[(.ref 169),Mz,Mt,T0,MZ,XN],168,Str.ofString "NoLine",true,[],[],false,none,false⟩),#[some (.ref 160),none,some (sV "NoLine" 383),some (sV "NoLine" 391),some KT,some Iu]⟩) ::
 (nat_lit 177,cO "fraction_of" 401 29 2 3 172 true 173 .none (.ref 174) (.ref 175) (.ref 176) 407) ::
 (nat_lit 178,fO "fraction_of" 15 "stepgrove.fracs" 399 177) ::
 (nat_lit 184,cO "frac_times" 410 36 2 3 179 true 180 .none (.ref 181) (.ref 182) (.ref 183) 415) ::
 (nat_lit 185,fO "frac_times" 16 "stepgrove.fracs" 399 184) ::
 (nat_lit 191,cO "is_fraction" 418 38 1 3 186 true 187 .none (.ref 188) (.ref 189) (.ref 190) 422) ::
 (nat_lit 192,fO "is_fraction" 17 "stepgrove.fracs" 399 191) ::
 (nat_lit 198,cO "are_fractions" 425 44 1 3 193 true 194 .none (.ref 195) (.ref 196) (.ref 197) 430) ::
 (nat_lit 199,fO "are_fractions" 18 "stepgrove.fracs" 399 198) ::
 (nat_lit 205,cO "is_whole" 433 51 1 3 200 true 201 .none (.ref 202) (.ref 203) (.ref 204) 437) ::
 (nat_lit 206,fO "is_whole" 19 "stepgrove.fracs" 399 205) ::
 (nat_lit 212,cO "greatest_divisor" 440 53 2 3 207 true 208 .none (.ref 209) (.ref 210) (.ref 211) 448) ::
 (nat_lit 213,fO "greatest_divisor" 20 "stepgrove.fracs" 399 212) ::
 (nat_lit 219,cO "common_bottom" 451 61 1 3 214 true 215 .none (.ref 216) (.ref 217) (.ref 218) 457) ::
 (nat_lit 220,fO "common_bottom" 21 "stepgrove.fracs" 399 219) ::
 (nat_lit 224,cO "frac_total" 460 66 1 3 221 true 222 .none .none .none (.ref 223) 463) ::
 (nat_lit 225,fO "frac_total" 22 "stepgrove.fracs" 399 224) ::
 (nat_lit 231,cO "power_of" 466 69 2 3 226 true 227 .none (.ref 228) (.ref 229) (.ref 230) 474) ::
 (nat_lit 232,fO "power_of" 23 "stepgrove.fracs" 399 231) ::
 (nat_lit 238,cO "is_table" 481 82 1 3 233 true 234 .none (.ref 235) (.ref 236) (.ref 237) 485) ::
 (nat_lit 239,fO "is_table" 26 "stepgrove.tables" 477 238) ::
 (nat_lit 245,cO "refuse_no_table" 488 86 1 3 240 true 241 .none (.ref 242) (.ref 243) (.ref 244) 492) ::
 (nat_lit 246,fO "refuse_no_table" 27 "stepgrove.tables" 477 245) ::
 (nat_lit 252,cO "are_rows" 495 89 1 3 247 true 248 .none (.ref 249) (.ref 250) (.ref 251) 501) ::
 (nat_lit 253,fO "are_rows" 28 "stepgrove.tables" 477 252) ::
 (nat_lit 259,cO "trees_of" 508 98 1 3 254 true 255 .none (.ref 256) (.ref 257) (.ref 258) 516) ::
 (nat_lit 260,fO "trees_of" 31 "stepgrove.trees" 504 259) ::
 (nat_lit 266,cO "trees_to" 519 108 1 3 261 true 262 .none (.ref 263) (.ref 264) (.ref 265) 525) ::
 (nat_lit 267,fO "trees_to" 32 "stepgrove.trees" 504 266) ::
 (nat_lit 273,cO "in_falling_order" 528 115 1 3 268 true 269 .none (.ref 270) (.ref 271) (.ref 272) 532) ::
 (nat_lit 274,fO "in_falling_order" 33 "stepgrove.trees" 504 273) ::
 (nat_lit 278,cO "knots_within" 535 117 1 3 275 true 276 .none .none .none (.ref 277) 538) ::
 (nat_lit 279,fO "knots_within" 34 "stepgrove.trees" 504 278) ::
 (nat_lit 285,cO "density_within" 541 119 1 3 280 true 281 .none (.ref 282) (.ref 283) (.ref 284) 547) ::
 (nat_lit 286,fO "density_within" 35 "stepgrove.trees" 504 285) ::
 (nat_lit 290,cO "parents_within" 550 124 1 3 287 true 288 .none .none .none (.ref 289) 553) ::
 (nat_lit 291,fO "parents_within" 36 "stepgrove.trees" 504 290) ::
 (nat_lit 297,cO "trees_one_larger" 556 131 1 3 292 true 293 .none (.ref 294) (.ref 295) (.ref 296) 564) ::
 (nat_lit 298,fO "trees_one_larger" 37 "stepgrove.trees" 504 297) ::
 (nat_lit 302,cO "tops_over" 569 138 2 3 299 true 300 .none .none .none (.ref 301) 572) ::
 (nat_lit 303,fO "tops_over" 39 "stepgrove.wholes" 567 302) ::
 (nat_lit 307,cO "table_bottom" 575 140 1 3 304 true 305 .none .none .none (.ref 306) 578) ::
 (nat_lit 308,fO "table_bottom" 40 "stepgrove.wholes" 567 307) ::
 (nat_lit 312,cO "true_weights" 583 146 1 3 309 true 310 .none .none .none (.ref 311) 586) ::
 (nat_lit 313,fO "true_weights" 42 "stepgrove.weights" 581 312) ::
 (nat_lit 317,cO "weights_under" 589 148 2 3 314 true 315 .none .none .none (.ref 316) 592) ::
 (nat_lit 318,fO "weights_under" 43 "stepgrove.weights" 581 317) ::
 (nat_lit 322,cO "readings" 595 156 3 3 319 true 320 .none .none .none (.ref 321) 598) ::
 (nat_lit 323,fO "readings" 44 "stepgrove.weights" 581 322) ::
 (nat_lit 327,cO "read_by" 601 163 2 3 324 true 325 .none .none .none (.ref 326) 604) ::
 (nat_lit 328,fO "read_by" 45 "stepgrove.weights" 581 327) ::
 (nat_lit 334,cO "table_order" 611 167 1 3 329 true 330 .none (.ref 331) (.ref 332) (.ref 333) 618) ::
 (nat_lit 335,fO "table_order" 48 "stepgrove.orders" 607 334) ::
 (nat_lit 341,cO "first_unlike" 621 175 3 3 336 true 337 .none (.ref 338) (.ref 339) (.ref 340) 630) ::
 (nat_lit 342,fO "first_unlike" 49 "stepgrove.orders" 607 341) ::
 (nat_lit 348,cO "order_paper" 637 182 1 3 343 true 344 .none (.ref 345) (.ref 346) (.ref 347) 643) ::
 (nat_lit 349,fO "order_paper" 52 "stepgrove.judging" 633 348) ::
 (nat_lit 355,cO "judge_paper" 646 189 2 3 350 true 351 .none (.ref 352) (.ref 353) (.ref 354) 652) ::
 (nat_lit 356,fO "judge_paper" 53 "stepgrove.judging" 633 355) ::
 (nat_lit 362,cO "refuse_no_judging" 655 197 1 3 357 true 358 .none (.ref 359) (.ref 360) (.ref 361) 659) ::
 (nat_lit 363,fO "refuse_no_judging" 54 "stepgrove.judging" 633 362) ::
 (nat_lit 369,cO "lines_of" 662 201 2 3 364 true 365 .none (.ref 366) (.ref 367) (.ref 368) 667) ::
 (nat_lit 370,fO "lines_of" 55 "stepgrove.judging" 633 369) ::
 (nat_lit 376,cO "are_true_lines" 670 203 3 3 371 true 372 .none (.ref 373) (.ref 374) (.ref 375) 678) ::
 (nat_lit 377,fO "are_true_lines" 56 "stepgrove.judging" 633 376) ::
 (nat_lit 383,cO "is_due_odd" 681 210 3 3 378 true 379 .none (.ref 380) (.ref 381) (.ref 382) 687) ::
 (nat_lit 384,fO "is_due_odd" 57 "stepgrove.judging" 633 383) ::
 (nat_lit 390,cO "is_line" 690 216 2 3 385 true 386 .none (.ref 387) (.ref 388) (.ref 389) 695) ::
 (nat_lit 391,fO "is_line" 58 "stepgrove.judging" 633 390) ::
 (nat_lit 395,cO "walked_weight" 698 220 2 3 392 true 393 .none .none .none (.ref 394) 701) ::
 (nat_lit 396,fO "walked_weight" 59 "stepgrove.judging" 633 395) ::
 (nat_lit 400,cO "table_behind" 706 230 2 3 397 true 398 .none .none .none (.ref 399) 709) ::
 (nat_lit 401,fO "table_behind" 61 "stepgrove.joins" 704 400) ::
 (nat_lit 405,cO "refuse_too_many_rows" 712 236 1 3 402 true 403 .none .none .none (.ref 404) 715) ::
 (nat_lit 406,fO "refuse_too_many_rows" 62 "stepgrove.joins" 704 405) ::
 (nat_lit 412,cO "_law_cell" 720 240 2 3 407 true 408 .none (.ref 409) (.ref 410) (.ref 411) 729) ::
 (nat_lit 413,fO "_law_cell" 64 "law_stepgrove_k55_tables_that_no_judge_walks" 718 412) ::
 (nat_lit 419,cO "_law_take" 732 252 2 3 414 true 415 .none (.ref 416) (.ref 417) (.ref 418) 738) ::
 (nat_lit 420,fO "_law_take" 65 "law_stepgrove_k55_tables_that_no_judge_walks" 718 419) ::
 (nat_lit 426,cO "_law_shared" 741 256 2 3 421 true 422 .none (.ref 423) (.ref 424) (.ref 425) 746) ::
 (nat_lit 427,fO "_law_shared" 66 "law_stepgrove_k55_tables_that_no_judge_walks" 718 426) ::
 (nat_lit 433,cO "_law_frac" 749 260 2 3 428 true 429 .none (.ref 430) (.ref 431) (.ref 432) 755) ::
 (nat_lit 434,fO "_law_frac" 67 "law_stepgrove_k55_tables_that_no_judge_walks" 718 433) ::
 (nat_lit 454,cO "_law_part" 774 269 1 3 449 true 450 .none (.ref 451) (.ref 452) (.ref 453) 779) ::
 (nat_lit 455,fO "_law_part" 70 "law_stepgrove_k55_tables_that_no_judge_walks" 718 454) ::
 (nat_lit 459,cO "_law_table" 782 272 3 3 456 true 457 .none .none .none (.ref 458) 785) ::
 (nat_lit 460,fO "_law_table" 71 "law_stepgrove_k55_tables_that_no_judge_walks" 718 459) ::
 (nat_lit 464,cO "_law_called" 788 280 1 3 461 true 462 .none .none .none (.ref 463) 791) ::
 (nat_lit 465,fO "_law_called" 72 "law_stepgrove_k55_tables_that_no_judge_walks" 718 464) ::
 (nat_lit 471,cO "_law_flags" 794 292 2 3 466 true 467 .none (.ref 468) (.ref 469) (.ref 470) 803) ::
 (nat_lit 472,fO "_law_flags" 73 "law_stepgrove_k55_tables_that_no_judge_walks" 718 471) ::
 (nat_lit 476,cO "_law_spoiled" 806 305 2 3 473 true 474 .none .none .none (.ref 475) 809) ::
 (nat_lit 477,fO "_law_spoiled" 74 "law_stepgrove_k55_tables_that_no_judge_walks" 718 476) ::
 (nat_lit 483,cO "law" 812 316 1 3 478 true 479 .none (.ref 480) (.ref 481) (.ref 482) 821) ::
 (nat_lit 484,fO "law" 75 "law_stepgrove_k55_tables_that_no_judge_walks" 718 483)::[]
abbrev qX:Program:=view GV [1,2,3,4,5,6,7,8,9,10,11,12,13,15,16,17,18,19,20,21,22,23,25,26,27,28,30,31,32,33,34,35,36,37,39,40,42,43,44,45,47,48,49,51,52,53,54,55,56,57,58,59,61,62,64,65,66,67,68,69,70,71,72,73,74,75]
noncomputable abbrev hX:Hook:=kHook kH [nat_lit 2,nat_lit 3,nat_lit 15,nat_lit 22,nat_lit 23,nat_lit 24,nat_lit 25,nat_lit 28,nat_lit 35,nat_lit 36,nat_lit 37,nat_lit 40,nat_lit 47,nat_lit 48,nat_lit 49,nat_lit 52,nat_lit 59,nat_lit 60,nat_lit 61,nat_lit 64,nat_lit 71,nat_lit 72,nat_lit 73,nat_lit 76,nat_lit 83,nat_lit 84,nat_lit 85,nat_lit 88,nat_lit 95,nat_lit 96,nat_lit 97,nat_lit 100,nat_lit 107,nat_lit 108,nat_lit 109,nat_lit 112,nat_lit 119,nat_lit 120,nat_lit 121,nat_lit 124,nat_lit 131,nat_lit 132,nat_lit 133,nat_lit 136,nat_lit 143,nat_lit 144,nat_lit 145,nat_lit 148,nat_lit 155,nat_lit 156,nat_lit 157,nat_lit 160,nat_lit 167,nat_lit 168,nat_lit 169,nat_lit 177,nat_lit 178,nat_lit 184,nat_lit 185,nat_lit 191,nat_lit 192,nat_lit 198,nat_lit 199,nat_lit 205,nat_lit 206,nat_lit 212,nat_lit 213,nat_lit 219,nat_lit 220,nat_lit 224,nat_lit 225,nat_lit 231,nat_lit 232,nat_lit 238,nat_lit 239,nat_lit 245,nat_lit 246,nat_lit 252,nat_lit 253,nat_lit 259,nat_lit 260,nat_lit 266,nat_lit 267,nat_lit 273,nat_lit 274,nat_lit 278,nat_lit 279,nat_lit 285,nat_lit 286,nat_lit 290,nat_lit 291,nat_lit 297,nat_lit 298,nat_lit 302,nat_lit 303,nat_lit 307,nat_lit 308,nat_lit 312,nat_lit 313,nat_lit 317,nat_lit 318,nat_lit 322,nat_lit 323,nat_lit 327,nat_lit 328,nat_lit 334,nat_lit 335,nat_lit 341,nat_lit 342,nat_lit 348,nat_lit 349,nat_lit 355,nat_lit 356,nat_lit 362,nat_lit 363,nat_lit 369,nat_lit 370,nat_lit 376,nat_lit 377,nat_lit 383,nat_lit 384,nat_lit 390,nat_lit 391,nat_lit 395,nat_lit 396,nat_lit 400,nat_lit 401,nat_lit 405,nat_lit 406,nat_lit 412,nat_lit 413,nat_lit 419,nat_lit 420,nat_lit 426,nat_lit 427,nat_lit 433,nat_lit 434,nat_lit 454,nat_lit 455,nat_lit 459,nat_lit 460,nat_lit 464,nat_lit 465,nat_lit 471,nat_lit 472,nat_lit 476,nat_lit 477,nat_lit 483,nat_lit 484] (fun _=>by kernel_rfl)
noncomputable def dX:DefRec:=⟨Str.ofString "law",HR (top 75),EC (top 75),AM (top 75),⟨316,0,330,62⟩⟩
def oa:CF.wellSaid=true:=(congrFun PySem.W.Fast.te9446332074065402090 _).trans KK
def qt(w:KB)(os:yp):topGo treeTable GV w 11 Opn.J9 12 ⟨boot_heap w.params,#[],boot_drawn,boot_toks,os⟩ (topStub GV)=some (Opn.sA w os,⟨denote treeTable (Opn.cB GV),Opn.cB GV,Opn.q0,Opn.bB⟩):=by kernel_rfl
def sU(w:KB)(os:yp):segRun treeTable GV w 11 Opn.J9 1 1 (Opn.sA w os) (blockOf (behindTheImports GV) (Opn.QM GV) (Opn.cB GV) Opn.q0 Opn.bB)=some (.next,(Opn.sB w os).abs,Opn.cB GV,Opn.q0):=by kernel_rfl
def rV(w:KB)(s:SD):topRun treeTable GV w 11 Opn.J9 2 s (restOf [] (Opn.QM GV) (Opn.cB GV) ⟨316,0,330,62⟩ Opn.bB)=some s:=by kernel_rfl
def rJ(w:KB)(os:yp):Opn.ZZ GV 4316 w os=some (.next,Opn.Yw GV 4316 w os,Opn.cB GV,⟨316,0,330,62⟩):=by kernel_rfl
noncomputable abbrev sX(w:KB)(os:yp):SD:=(Opn.Yw GV 4316 w os).abs
def sj(w:KB)(os:yp):(staticsOk (importedModules GV.main.body) wM (sX w os).heap&&namesBound GV (sX w os).heap&&gensDone (sX w os)&&laidKept wM (sX w os).heap)=true:=by kernel_rfl
def qA(w:KB)(os:yp):hX.obs (sX w os)=hX.val w:=by kernel_rfl
noncomputable abbrev lF:SD->Bool:=fun s=>xlAt qX [] s&&recOk (RowW.records CF.row.toRowW) s
def p7(w:KB)(os:yp):openSeen qX [] (importedModules GV.main.body) lF true (sX w os)=openGood qX []:=by kernel_rfl
def qC(w:KB):(fencedOpening treeTable GV w 8756).map (fun s=>(s.heap,s.gens,s.drawn,s.toks))=some (boot_heap w.params,#[],boot_drawn,boot_toks):=boot_open (p:=GV) (N:=8756) KK KK (fun _=>by kernel_rfl) w
def pD:LeftO GV qX [] lF hX.obs hX.val 8756:=Opn.jG (M:=4331) (S:=sX) qC Opn.qQ (fun w os=>Opn.ky (qt w os) (sU w os) (rJ w os) (rV w) KK) KK sj p7 qA
def sN:defOf qX CF.row.name=some (dX,[]):=by kernel_rfl
def sY:GV.theDef CF.row.name=some (dX.params,dX.body,dX.scope):=by kernel_rfl
def sk:kwWritten? dX.params.kwonlyargs dX.params.kw_defaults=some []:=by kernel_rfl
def rK:(chainsOk qX&&opensWell CF.row.prog&&(frees CF.row.toRowW&&CF.row.within.isEmpty))=true:=by kernel_rfl
def p8:GV.bare:=⟨rfl,rfl,rfl,rfl,rfl,by decide +kernel⟩
def openX(Y:CF.row.toRowW.promised)(Z:WalkO qX [] (XL qX []) hX.says CF.row.toRowW dX [] xZ):CF.Holds :=
 holds_law oa fun g=>holds_open (r:=CF.row) (q:=qX) (loose:=[]) (Xt:=lF) (XP:=XL qX []) (Yf:=hX.obs) (Ya:=hX.val) (YP:=hX.says) (d:=dX) (kwd:=[]) (N:=8756) pD hX.of hX.keeps (fun s e=>xl_of s (Bool.and_eq_true_iff.mp e).1) XL.keeps sN sY sk (fun s e=>recFacts_of (Bool.and_eq_true_iff.mp e).2) rfl g rK p8 Y Z
end
end Q55
namespace L2
open PySem PySem.Spec PyProof.Rows
abbrev Key:=Sum Int Str
def gJ:Key->VL->Bool
 |.inl k,v=>Value.isInt k v
 |.inr x,v=>Value.isStrOf x v
def rq(w:KB):Key->Int
 |.inl k=>hashInt k
 |.inr x=>hashStr w x
def Dq:∀ {k:Key} {v:VL},gJ k v=true->(∃i t,k=Sum.inl i/\v=Value.int i t)\/(∃x t,k=Sum.inr x/\v=Value.str x t)
 |.inl i,v,h=>by
  obtain⟨t,e⟩:=Value.isInt_shape (k:=i) (v:=v) h;exact .inl ⟨i,t,rfl,e⟩
 |.inr x,v,h=>by
  obtain⟨t,e⟩:=Value.isStrOf_shape (x:=x) (v:=v) h;exact .inr ⟨x,t,rfl,e⟩
def mH(a b:Int):decide ((Sum.inl a:Key)=Sum.inl b)=(a==b):=by
 by_cases e:a=b
 .subst e;simp
 .have h:¬(Sum.inl a:Key)=Sum.inl b:=fun q=>e (Sum.inl.inj q);rw[decide_eq_false h];exact(beq_eq_false_iff_ne.mpr e).symm
def oI(a b:Str):decide ((Sum.inr a:Key)=Sum.inr b)=decide (a=b):=by
 by_cases e:a=b
 .subst e;simp
 .have h:¬(Sum.inr a:Key)=Sum.inr b:=fun q=>e (Sum.inr.inj q);rw[decide_eq_false h,decide_eq_false e]
def oQ(a:Int)(b:Str):decide ((Sum.inl a:Key)=Sum.inr b)=false:=bL (fun q=>nomatch q)
def mv(a:Str)(b:Int):decide ((Sum.inr a:Key)=Sum.inl b)=false:=bL (fun q=>nomatch q)
def XO(prog:Go)(w:KB):PySem.KeyKind prog w Key where
 is:=gJ
 hash:=rq w
 inj:=fun v a b ha hb=>by
  rcases Dq ha with ⟨i,t,rfl,rfl⟩|⟨x,t,rfl,rfl⟩
  .rcases Dq hb with ⟨j,u,rfl,e⟩|⟨y,u,rfl,e⟩
   .injection e with e1 _;rw[e1]
   .exact nomatch e
  .rcases Dq hb with ⟨j,u,rfl,e⟩|⟨y,u,rfl,e⟩
   .exact nomatch e
   .injection e with e1 _;rw[e1]
 byValue:=fun k v h=>by
  rcases Dq h with ⟨i,t,rfl,rfl⟩|⟨x,t,rfl,rfl⟩<;>rfl
 pyHash:=fun hv h=>by
  rcases Dq hv with ⟨i,t,rfl,rfl⟩|⟨x,t,rfl,rfl⟩
  .exact wpAny_pyHash_int h
  .exact wpAny_pyHash_str h
 eqBool:=fun hu hv h=>by
  rcases Dq hu with ⟨i,t,rfl,rfl⟩|⟨x,t,rfl,rfl⟩
  .rcases Dq hv with ⟨j,u,rfl,rfl⟩|⟨y,u,rfl,rfl⟩
   .rw[mH]at h;exact wpAny_eqBool_int h
   .rw[oQ]at h;exact SeqAt.EqAt.int_str i t y u _ _ _ _ h
  .rcases Dq hv with ⟨j,u,rfl,rfl⟩|⟨y,u,rfl,rfl⟩
   .rw[mv]at h;exact SeqAt.EqAt.str_int x t j u _ _ _ _ h
   .rw[oI]at h;exact wpAny_eqBool_str h
 «strs»:=fun k x t v h=>by
  rcases Dq h with ⟨i,u,rfl,e⟩|⟨y,u,rfl,e⟩
  .exact nomatch e
  .injection e with e1 _
   subst e1;cases v<;>rfl
inductive V where
 |Bq|bl (b:Bool)|int (i:Int)|str (x:Str)|OW (b:Array UInt8)|YJ (b:UInt64)|ref (a:Addr)|ty (n:wN)
 deriving DecidableEq
abbrev uI:=List V
def RelV:V->VL->Prop
 |.Bq,u=>u=Value.none
 |.bl b,u=>u=Value.bool b
 |.int i,u=>∃t,u=Value.int i t
 |.str x,u=>∃t,u=Value.str x t
 |.OW b,u=>∃t,u=Value.bytes b t
 |.YJ b,u=>∃t,u=Value.float b t
 |.ref a,u=>u=Value.ref a
 |.ty n,u=>u=Value.type n
abbrev Vals:List V->List VL->Prop:=Paired RelV
def Vals.length{xs:uI}{us:tm}(r:Vals xs us):xs.length=us.length:=Paired.length r
def Vals.get:∀ {xs:ON} {us:ST} {i:Nat} {x:V},Vals xs us->xs[i]? = some x->∃u,us[i]? = some u/\RelV x u
 |_,_,_,_,.nil,e=>by simp at e
 |_,_,0,_,.cons r _,e=>by simp at e;subst e;exact⟨_,rfl,r⟩
 |_,_,i+1,x,.cons _ t,e=>by
  obtain⟨u,T,g⟩:=Vals.get (i:=i) (x:=x) t vH;exact⟨u,by simpa using T,g⟩
def Vals.set{x:V}{u:VL}(r:RelV x u):∀ {xs:ON} {us:ST} (i:Nat),Vals xs us->Vals (xs.set i x) (us.set i u)
 |_,_,_,.nil=>.nil
 |_,_,0,.cons _ t=>.cons r t
 |_,_,i+1,.cons q t=>.cons q (Vals.set r i t)
def Vals.append:∀ {xs ys:ON} {us g:ST},Vals xs us->Vals ys g->Vals zM (us++g)
 |_,_,_,_,.nil,s=>s
 |_,_,_,_,.cons r t,s=>.cons r (Vals.append t s)
def Vals.take:∀ {xs:ON} {us:ST} (n:Nat),Vals xs us->Vals (xs.take n) (us.take n)
 |_,_,0,_=>.nil
 |_,_,_+1,.nil=>.nil
 |_,_,n+1,.cons r t=>.cons r (Vals.take n t)
def Vals.drop:∀ {xs:ON} {us:ST} (n:Nat),Vals xs us->Vals (xs.drop n) (us.drop n)
 |_,_,0,r=>r
 |_,_,_+1,.nil=>.nil
 |_,_,n+1,.cons _ t=>Vals.drop n t
def eo:Option V->Option VL->Prop
 |some v,some u=>RelV v u
 |none,none=>True
 |_,_=>False
def KV{g:Type}:List (g×V)->List (g×VL)->Prop:=Paired fun(p:g×V) (q:g×VL)=>p.1=q.1/\RelV p.2 q.2
def kV:Key->V
 |.inl i=>.int i
 |.inr x=>.str x
inductive HO where
 |lst (xs:ON)
 |tup (xs:ON)
 |dK (kvs:List (Key×V))|dT (kvs:List (List Key×V))
 |set (S:Int->Bool) (n:Nat)
 |ins (C dx:Addr) (fs:List (Str×V))
 |own (x:Addr)
 |xd (fs:List (Str×V))
 |met (f x:Addr)
 |gC (lo hi:Int)
 |GH (o:Obj) (u:HO)
 |Pq (ps:Array Value)
 |ext (φ:Heap->Prop)
abbrev Hp:=AD->Option HO
def upd(H:Hp)(a:AD)(o:HO):Hp:=fun b=>if b=a then some o else H b
def AU{H:Hp}{a:AD}{o:HO}:upd H a o a=some o:=by unfold upd;rw[if_pos rfl]
def AK{H:Hp}{a b:AD}{o:HO}(h:b≠a):upd H a o b=H b:=by unfold upd;rw[if_neg h]
def Y8{H:Hp}{a b:AD}{o u:HO}(h:H a=some o)(h':H b=some u)(d:o≠u):a≠b:=by
 intro e;subst e;rw[h]at h';exact d (aw h')
def AW{H:Hp}{a b:AD}{o:HO}(h:H a=some o)(h':H b=none):a≠b:=by
 intro e;subst e;rw[h]at h';cases h'
section
variable(P:Go)(w:KB)
def Cj(H:Hp)(h:Heap)(a:AD):HO->Prop
 |.lst xs=>xs.length<=sizeLine/\∃(g:ST) (n:Nat),Vals xs g/\h.get? a=some { cls:=.type "list",data:=.seq g.toArray n}
 |.tup xs=>xs.length<=sizeLine/\∃g:List VL,Vals xs g/\IsTup h a g.toArray
 |.dK kvs=>kvs.length<=sizeLine/\(a==sysModules)=false/\∃vs,KV kvs vs/\h.DictOf (XO P w) a vs
 |.dT kvs=>kvs.length<=sizeLine/\(a==sysModules)=false/\∃xs:List (List Key×AD×VL),
   Paired (fun(p:List Key×V) (q:List Key×AD×VL)=>p.1=q.1/\H q.2.1=some (.tup (p.1.map kV))/\RelV p.2 q.2.2) kvs xs /\
   ∃o es ep,h.get? a=some o/\o.ExactDict/\o.data=.dict es ep/\es.toList=xs.map (entryOfKey (tupleKind (XO P w)))/\(xs.map To).Nodup
 |.set S n=>h.SetOf (intKind P w) a S n
 |.ins C dx fs=>H dx=some (.own a)/\fs.length<=1000/\dx≠a/\h.get? a=some (PySem.W.instObj C dx) /\
   ∃mA,h.Ns1 dx mA/\(∀f,eo (fs.lookup f) (mA f))/\PySem.Within mA (fs.map To)
 |.own _=>∃o,h.get? a=some o
 |.xd fs=>∃mA,h.Ns1 a mA/\∀f,eo (fs.lookup f) (mA f)
 |.gC lo hi=>∃t u v,h.get? a=some { cls:=.type "range",data:=.fields #[.int lo t,.int hi u,.int 1 v]}
 |.GH o u=>h.get? a=some o/\Cj H h a u
 |.Pq ps=>h.get? a=some { cls:=.none,data:=.fields ps}
 |.met f x=>h.get? a=some (PySem.W.methodObj xo (.ref x))
 |.ext φ=>φ h/\(∃o,h.get? a=some o)/\∀U T:Heap,φ U->(∀o,U.get? a=some o->T.get? a=some o)->φ T
def Et(H:Hp)(h:Heap):Prop:=∀a o,H a=some o->Cj P w H h a o
end
section
variable{P:Go}{w:KB}{H H':Hp}{h h':Heap}{a:AD}{o:HO}
def Cj.lt(x:Cj P w H h a o):a<h.objs.size:=by
 cases o with
 |lst xs=>obtain⟨_,_,_,_,e⟩:=x;exact aF e
 |tup xs=>obtain⟨_,_,_,p⟩:=x;exact p.lt
 |dK kvs=>obtain⟨_,_,_,_,o,_,_,e,_⟩:=x;exact aF e
 |dT kvs=>obtain⟨_,_,_,_,o,_,_,e,_⟩:=x;exact aF e
 |set S n=>obtain⟨o,_,_,_,e,_⟩:=x;exact aF e
 |ins C dx fs=>obtain⟨_,_,_,e,_⟩:=x;exact aF e
 |own y=>obtain⟨_,e⟩:=x;exact aF e
 |xd fs=>obtain⟨_,⟨_,_,_,e,_⟩,_⟩:=x;exact aF e
 |gC lo hi=>obtain⟨_,_,_,e⟩:=x;exact aF e
 |GH ob u=>obtain⟨e,_⟩:=x;exact aF e
 |Pq ps=>exact aF (show h.get? a=some _ from x)
 |met f y=>exact aF (show h.get? a=some _ from x)
 |ext φ=>obtain⟨_,⟨_,e⟩,_⟩:=x;exact aF e
def Paired.mX{α β:Type}{F G:zBV}:∀ {l₁:mu} {l₂:zAe},Paired F l₁ l₂->(∀a b,F a b->G a b)->Paired G l₁ l₂
 |_,_,.nil,_=>.nil
 |_,_,.cons r t,f=>.cons (f _ _ r) (Paired.mX t f)
def Cj.Hd(x:Cj P w H h a o)(k:∀b u,(b=a\/H b=some (.own a))->h.get? b=some u->h'.get? b=some u) (Y:∀b,H b=some (.own a)->H' b=some (.own a))(U:∀b xs,H b=some M2->H' b=some M2):Cj P w H' h' a o:=by
 induction o with
 |lst xs=>obtain⟨z,g,n,r,e⟩:=x;exact⟨z,g,n,r,k _ _ db e⟩
 |tup xs=>obtain⟨z,g,r,ob,e,c⟩:=x;exact⟨z,g,r,ob,k _ _ db e,c⟩
 |dK kvs=>obtain⟨z,y,vs,r,ob,es,ep,e,c⟩:=x;exact⟨z,y,vs,r,ob,es,ep,k _ _ db e,c⟩
 |dT kvs=>
  obtain⟨z,y,xs,r,ob,es,ep,e,c⟩:=x;exact⟨z,y,xs,Paired.mX r fun p q z=>⟨z.1,U _ _ z.2.1,z.2.2⟩,ob,es,ep,k _ _ db e,c⟩
 |set S n=>obtain⟨ob,es,ep,t,e,c⟩:=x;exact⟨ob,es,ep,t,k _ _ db e,c⟩
 |ins C dx fs=>
  obtain⟨d,z,ne,e,mA,⟨od,es,ep,Z,c⟩,r⟩:=x;exact⟨Y _ d,z,ne,k _ _ db e,mA,⟨od,es,ep,k _ _ (.inr d) Z,c⟩,r⟩
 |own y=>obtain⟨ob,e⟩:=x;exact⟨ob,k _ _ db e⟩
 |xd fs=>obtain⟨mA,⟨od,es,ep,e,c⟩,r⟩:=x;exact⟨mA,⟨od,es,ep,k _ _ db e,c⟩,r⟩
 |gC lo hi=>obtain⟨t,u,v,e⟩:=x;exact⟨t,u,v,k _ _ db e⟩
 |GH ob u T=>obtain⟨e,q⟩:=x;exact⟨k _ _ db e,T q⟩
 |Pq ps=>
  have e:h.get? a=some { cls:=.none,data:=.fields ps}:=x;show h'.get? a=some { cls:=.none,data:=.fields ps};exact k a _ db e
 |met f y=>
  have e:h.get? a=some (PySem.W.methodObj xo (.ref y)):=x;show h'.get? a=some (PySem.W.methodObj xo (.ref y));exact k a _ db e
 |ext φ=>obtain⟨p,⟨o,e⟩,st⟩:=x;exact⟨st _ _ p fun o q=>k _ _ db q,⟨o,k _ _ db e⟩,st⟩
def Et.lt(x:Et P w H h)(e:H a=some o):a<h.objs.size:=(x a o e).lt
def Et.fresh(x:Et P w H h)(e:h.objs.size<=a):H a=none:=by
 cases q:H a with
 |none=>rfl
 |some u=>exact absurd (aG (x.lt q) e) xb
def Et.kept(x:Et P w H h)(k:vI):Et P w H h':=fun a o e=>
 (x a o e).Hd (fun b u _ q=>k b u q) zBD fun _ _ q=>q
def Et.laid(x:Et P w H h)(k:vI)(g:h.objs.size<=a)(new:Cj P w (upd H a o) h' a o):Et P w (upd H a o) h':=fun b u e=>by
 have hn:=x.fresh g;by_cases hb:b=a
 .subst hb;rw[AU]at e;cases e;exact new
 .rw[AK hb]at e;exact(x b u e).Hd (fun c v _ q=>k c v q) (fun c q=>by rw[AK (AW q hn)];exact q) fun c xs q=>by rw[AK (AW q hn)];exact q
end
def Rd(H:Hp)(a:AD)(u:HO):Prop:=H a=some u\/∃o,H a=some (.GH o u)
def Rd.ok{P:Go}{w:KB}{H:Hp}{h:Heap}{a:AD}{u:HO}(r:Rd H a u)(x:Et P w H h):Cj P w H h a u:=by
 rcases r with r|⟨o,r⟩
 .exact x a u r
 .obtain⟨_,q⟩:=x a _ r;exact q
def gF:Option HO->Prop
 |some (.lst _)=>True
 |some (.dK _)=>True
 |some (.dT _)=>True
 |some (.set _ _)=>True
 |some (.ins _ _ _)=>True
 |some (.ext _)=>True
 |_=>False
section
variable{P:Go}{w:KB}{H:Hp}{h h':Heap}{x e:AD}{o':HO}
def Et.write(ok:Et P w H h)(U:gF (H x))(he:e=x\/H e=some (.own x))(k:zCI)(Z:∃u,h'.get? e=some u) (new:Cj P w (upd H x o') h' x o'):Et P w (upd H x o') h':=fun b u q=>by
 have T:∀c y,H c=some (.own y)->c≠x:=fun c y r z=>by subst z;rw[r]at U;exact U
 have VN:∀c xs,H c=some M2->c≠x:=fun c xs r z=>by subst z;rw[r]at U;exact U
 by_cases hb:b=x
 .subst hb;rw[AU]at q;cases q;exact new
 .rw[AK hb]at q;by_cases g:b=e
  .have q':H b=some (.own x):=by
    rcases he with z|z
    .exact absurd (g.trans z) hb
    .rw[g];exact z
   rw[q]at q';cases q';obtain⟨v,hv⟩:=Z;exact⟨v,by rw[g];exact hv⟩
  .refine(ok b u q).Hd (fun c v Y r=>k c v ?_ r) (fun c r=>by rw[AK (T c b r)];exact r) fun c xs r=>by rw[AK (VN c xs r)];exact r
   rcases Y with rfl|Y
   .exact g
   .rintro rfl;rcases he with z|z
    .exact T c b Y z
    .rw[Y]at z;cases z;exact hb rfl
end
structure Un(fs ex:List Addr)(H H':Hp)(h h':Heap):Prop where
 keep:∀b o,h.get? b=some o->H b=none->b ∉ fs->b ∉ ex->h'.get? b=some o
 slot:∀b o,h.get? b=some o->H b=none->b∈fs->b ∉ ex->∃sl,h'.get? b=some zBq
 free:∀b o,h.get? b=some o->H b=none->b ∉ ex->H' b=none
 there:∀b o,h.get? b=some o->b ∉ ex->∃o',h'.get? b=some o'
 BM:∀b xs,H b=some M2->H' b=some M2
 Gd:∀b o u,H b=some (.GH o u)->H' b=some (.GH o u)
 Hk:∀b ps,H b=some (.Pq ps)->∃more,H' b=some (.Pq (ps++more))
 Hg:∀b xs o,H b=some M2->h.get? b=some o->b ∉ ex->h'.get? b=some o
section
variable{fs ex:uK}{H H1:Hp}{h h1 h':Heap}{a x e:AD}{o:HO}
def Un.any(u:Un fs ex H H1 h h1){b:AD}{ob:Obj}(q:h.get? b=some ob)(n:H b=none)(g:b ∉ ex):∃sl,h1.get? b=some {ob with slots:=sl}:=by
 by_cases hb:b∈fs
 .exact u.slot b ob q n hb g
 .exact⟨ob.slots,u.keep b ob q n hb g⟩
def Un.kept(k:vI):Un fs ex H H h h' :=
 ⟨fun b ob q _ _ _=>k b ob q,fun b ob q _ _ _=>⟨ob.slots,k b ob q⟩,fun _ _ _ n _=>n,fun b ob q _=>⟨ob,k b ob q⟩,fun _ _ q=>q,fun _ _ _ q=>q,fun _ ps q=>⟨#[],by rw[q];simp⟩,fun _ _ ob _ e _=>k _ ob e⟩
def Un.refl:Un fs ex H H h h:=Un.kept fun _ _ q=>q
def Un.laid(k:vI)(hp:h.objs.size<=a)(hn:H a=none):Un fs ex H (upd H a o) h h' where
 keep:=fun b u q _ _ _=>k b u q
 slot:=fun b u q _ _ _=>⟨u.slots,k b u q⟩
 free:=fun b u q n _=>by rw[AK (aI (aG (aF q) hp))];exact n
 there:=fun b u q _=>⟨u,k b u q⟩
 BM:=fun b xs q=>by rw[AK (AW q hn)];exact q
 Gd:=fun b u xs q=>by rw[AK (AW q hn)];exact q
 Hk:=fun b ps q=>⟨#[],by rw[AK (AW q hn),q];simp⟩
 Hg:=fun b _ u _ e _=>k b u e
def Un.write(T:gF (H x))(Z:e=x\/H e=some (.own x))(k:zCI)(U:∃u,h'.get? e=some u):Un fs ex H (upd H x o) h h':=by
 have Y:∀b,H b=none->b≠x:=fun b n z=>by subst z;rw[n]at T;exact T
 have hb:∀b,H b=none->b≠e:=fun b n z=>by
  subst z;rcases Z with r|r
  .exact Y b n r
  .rw[n]at r;cases r
 have hm:∀b u,H b=some u->¬gF (some u)->b≠x:=fun b u q nm z=>by subst z;rw[q]at T;exact nm T
 refine⟨fun b u q n _ _=>k b u (hb b n) q,fun b u q n _ _=>⟨u.slots,k b u (hb b n) q⟩,fun b u q n _=>by rw[AK (Y b n)];exact n,fun b u q _=>?_,
  fun b xs q=>by rw[AK (hm b _ q fun z=>z)];exact q,fun b u xs q=>by rw[AK (hm b _ q fun z=>z)];exact q,fun b ps q=>⟨#[],by rw[AK (hm b _ q fun z=>z),q];simp⟩,fun b xs u q e _=>k b u (fun z=>by
   rcases Z with r|r
   .exact hm b _ q (fun z=>z) (z.trans r)
   .rw[<-z,q]at r;cases r) e⟩
 by_cases g:b=e
 .subst g;exact U
 .exact⟨u,k b u g q⟩
end
def F8(h:Heap)(H:Hp):uK:=(List.range h.objs.size).filter fun a=>(H a).isSome
def Nf(h:Heap)(H:Hp):Heap:=PySem.W.hideAll h (F8 h H)
def Z6(h:Heap)(H:Hp):(Nf h H).objs.size=h.objs.size:=PySem.W.hideAll_size _ _
def fZ{h:Heap}{H:Hp}{b:AD}{o:Obj}(e:h.get? b=some o)(n:H b=none):(Nf h H).get? b=some o :=
 PySem.W.hideAll_get _ e fun hm=>by
  have q:(H b).isSome=true:=(List.mem_filter.mp hm).2;rw[n]at q;simp at q
def iX{h:Heap}{H:Hp}{b:AD}{o:Obj}(e:(Nf h H).get? b=some o):h.get? b=some o/\H b=none:=by
 have g:h.get? b=some o:=PySem.W.of_hideAll (F8 h H) e;refine⟨g,?_⟩;cases q:H b with
 |none=>rfl
 |some x=>
  have hm:b∈F8 h H:=List.mem_filter.mpr ⟨aq.mpr (aF g),by simp[q]⟩;have z:(Nf h H).get? b=none:=PySem.W.hideAll_none (F8 h H) hm;rw[z]at e;cases e
structure Mod(K:Fg)(mg:xl)(base:Heap):Prop where
 Pd:K.In base
 glob:base.Ns mainGlobals mg
 blt:∃mb,base.Ns builtinsNs mb/\∀x:Str,x ≠ "__name__" -> mb x=bootBuiltins x
 nolimit:base.NoLimit
def tG(d:Nat):List uI:=[[],[.ref (d+1)],[.int 1,.int 1],[.ref (d+3)],[.ref (d+2),.ref (d+4)],[],[.int 1,.int 2],[.ref (d+7)],[.ref (d+6),.ref (d+8)],[.int 0,.int 1],[.int 1,.int 1],[.ref (d+10),.ref (d+11)],[.ref (d+9),.ref (d+12)],[],[.int 1,.int 1],[.ref (d+15)],[.ref (d+14),.ref (d+16)],[.int 1,.int 2],[.int 1,.int 2],[.ref (d+18),.ref (d+19)],[.ref (d+17),.ref (d+20)],[],[.int 1,.int 3],[.ref (d+23)],[.int 0,.int 1],[.int 2,.int 3],[.ref (d+25),.ref (d+26)],[.ref (d+22),.ref (d+24),.ref (d+27)],[.int 1,.int 4],[.int 0,.int 1],[.int 3,.int 4],[.ref (d+29),.ref (d+30),.ref (d+31)],[.ref (d+28),.ref (d+32)],[],[.int 1,.int 2],[.ref (d+35)],[.int 0,.int 1],[.int 1,.int 2],[.ref (d+37),.ref (d+38)],[.int 0,.int 1],[.int 0,.int 1],[.int 1,.int 1],[.ref (d+40),.ref (d+41),.ref (d+42)],[.ref (d+34),.ref (d+36),.ref (d+39),.ref (d+43)],[.int 1,.int 6],[.int 1,.int 3],[.int 1,.int 3],[.int 1,.int 6],[.ref (d+45),.ref (d+46),.ref (d+47),.ref (d+48)],[.ref (d+44),.ref (d+49)]]
def tJ(d:Nat):List (Key×V):=[(.inr "plain",.ref (d+5)),(.inr "middle",.ref (d+13)),(.inr "heel",.ref (d+21)),(.inr "third",.ref (d+33)),(.inr "fourth",.ref (d+50))]
def KTb(mg:t7)(H:Hp):Prop:=∀d:AD,mg "NAMED_TABLES" = some zAP->(∃o,H d=some (.GH o (.dK (tJ d))))/\∀j xs,(tG d)[j]? = some xs->H (d+1+j)=some M2
def KTb.un{mg:t7}{fs ex:uK}{H H':Hp}{h h':Heap}(k:KTb mg H)(u:Un fs ex H H' h h'):KTb mg H':=fun d e=>by
 obtain⟨⟨o,T⟩,g⟩:=k d e;exact⟨⟨o,u.Gd _ _ _ T⟩,fun j xs q=>u.BM _ _ (g j xs q)⟩
structure Cx where
 prog:Program
 w:World
 K:Fg
 mg:Str->Option Value
 base:Heap
 A:Around
 N:List Str
 s₀:Shared
 H₀:Hp
 env:Env
 outer:List Env
 stack:List Env
 ex:List Addr
 fn:Str->Bool
 calm:Bool
 pn:List (Addr×Obj)
 xe:Value->Shared->Prop
def Gj(l:uM):uK:=l.filterMap (·.frame)
abbrev Cx.fs(X:Cx):List AD:=Gj X.outer
def nE(sc:wn)(x:Str):Prop:=sc.names.lookup x=some .local\/sc.names.lookup x=some .cell\/sc.names.lookup x=some .free
def Loc(sc:wn)(x:Str):Prop:=sc.names.lookup x=some .local\/sc.names.lookup x=some .cell
def Look(env:Env)(h:Heap)(m:t7)(x:Str)(u:VL):Prop :=
 (env.kindOf x=some .local/\m x=some u)\/((env.kindOf x=some .cell\/env.kindOf x=some .free)/\∃c,env.cells.lookup x=some c/\h.IsCell c (some u))
structure Cx.Ok(X:Cx):Prop where
 mod:Mod X.K X.mg X.base
 kind:X.env.scope.kind=.function
 glob:X.env.globals=mainGlobals
 blt:X.env.builtins=builtinsNs
 above:X.s₀.heap.objs.size<=X.env.locals
 inj:∀x y c,X.env.cells.lookup x=some c->X.env.cells.lookup y=some c->x=y
 has:∀x,(X.env.kindOf x=some .cell\/X.env.kindOf x=some .free)->∃c,X.env.cells.lookup x=some c
 WY:∀x c,X.fn x=true->X.env.cells.lookup x=some c->X.s₀.heap.objs.size<=c
 hd:X.calm=true->X.A.handled=none
 frames:X.A.frames=some X.stack
 bx:X.stack=X.outer\/(X.stack=X.env::X.outer/\X.env.frame=some X.env.locals)
 nr:∀b∈X.ex,b≠X.env.locals/\∀x c,X.env.cells.lookup x=some c->c≠b
 bs:∀b o,X.base.get? b=some o->X.s₀.heap.get? b=some o/\X.H₀ b=none
 R8:X.base.objs.size<=X.s₀.heap.objs.size
 SY:∀b o,X.base.get? b=some o->b ∉ X.ex
 TQ:∀b∈X.ex,b ∉ X.fs
 JA:X.s₀.heap.FunFrames X.base X.outer
 Rj:∀b∈X.fs,X.H₀ b=none
 kt:KTb X.mg X.H₀
structure Inv(X:Cx)(pins:List (Addr×Obj))(σ:List (Option V))(H:Hp)(s:Shared):Prop where
 ok:X.Ok
 os:s.os=X.s₀.os
 bare:AllBare s.gens
 base:Un X.fs X.ex X.H₀ H X.s₀.heap s.heap
 loc:∃m,s.heap.Ns X.env.locals m/\∀(i:Nat) (x:Str) (v:V),X.N[i]? = some x->σ[i]? = some xp->nE X.env.scope x->∃u,RelV v u/\Look X.env s.heap m x u
 cell:∀x c,X.env.cells.lookup x=some c->∃v,s.heap.IsCell c v
 free:H X.env.locals=none
 Gr:∀x c,X.env.cells.lookup x=some c->H c=none
 pin:∀p∈X.pn++pins,s.heap.get? p.1=some p.2/\H p.1=none/\p.1≠X.env.locals/\p.1 ∉ X.fs/\∀v,p.2.data≠.cell v
 Aw:Et X.prog X.w H s.heap
 len:σ.length=X.N.length
def Inv.kt{X:Cx}{pins:Cl}{σ:List (Option V)}{H:Hp}{s:SD}(I:BY):KTb X.mg H:=I.ok.kt.un I.base
section
variable{X:Cx}{pins:Cl}{σ:List (Option V)}{H H':Hp}{s:SD}{h':Heap}
def Cx.Ok.rO(ok:X.Ok){b:AD}{o:Obj}(e:X.base.get? b=some o):b ∉ X.fs:=fun hb=>by
 have:=(ok.JA.mem hb).1;rw[e]at this;cases this
def Inv.bs(I:BY):∀b o,X.base.get? b=some o->s.heap.get? b=some o/\H b=none:=fun b o e=>
 ⟨I.base.keep b o (I.ok.bs b o e).1 (I.ok.bs b o e).2 (I.ok.rO e) (I.ok.SY b o e),I.base.free b o (I.ok.bs b o e).1 (I.ok.bs b o e).2 (I.ok.SY b o e)⟩
def Inv.bk(I:BY):∀b o,X.base.get? b=some o->s.heap.get? b=some o:=fun b o e=>(I.bs b o e).1
def Inv.mod(I:BY):Mod X.K X.mg X.base:=I.ok.mod
def Inv.Hc(I:BY):X.K.In s.heap:=I.ok.mod.Pd.keeps I.bk
def Inv.lt(I:BY):X.env.locals<s.heap.objs.size:=let⟨_,hn,_⟩:=I.loc;hn.lt
def Inv.sz(I:BY):X.s₀.heap.objs.size<=s.heap.objs.size:=aP I.ok.above (bC I.lt)
def Inv.rR(I:BY){a:AD}(h:s.heap.objs.size<=a):a ∉ X.fs:=fun hb=>by
 obtain⟨_,o,g,_⟩:=I.ok.JA.mem hb;exact absurd (aG (aF g) (aP I.sz h)) xb
def Inv.Rx(I:BY):∀x c,X.env.cells.lookup x=some c->c≠X.env.locals:=fun x c e z=>by
 obtain⟨v,o,U,hd⟩:=I.cell x c e;obtain⟨m,⟨o',es,ep,g,T,_⟩,_⟩:=I.loc;rw[z,g]at U;cases U;rw[T]at hd;cases hd
def Inv.JA(I:BY):s.heap.FunFrames X.base X.outer:=by
 have all:∀(l:List Env),(∀b∈Gj l,b∈X.fs)->X.s₀.heap.FunFrames X.base l->s.heap.FunFrames X.base l:=by
  intro l
  induction l with
  |nil=>intro _ _;trivial
  |cons env r Y=>
   intro U hl;obtain⟨hk,⟨L,o,g,hn,ho,hd⟩,Z⟩:=hl;have T:L∈X.fs:=U L (by unfold Gj;rw[List.filterMap_cons,g];exact ae);obtain⟨sl,e⟩:=I.base.slot L o ho (I.ok.Rj L T) T fun z=>I.ok.TQ L z T;exact⟨hk,⟨L,_,g,hn,e,hd⟩,Y (fun b hb=>U b (by unfold Gj;rw[List.filterMap_cons,g];exact aS _ hb)) Z⟩
 exact all X.outer (fun _ hb=>hb) I.ok.JA
def Inv.stack(I:BY):s.heap.FunFrames X.base X.stack:=by
 rcases I.ok.bx with e|⟨e,g⟩
 .rw[e];exact I.JA
 .rw[e];obtain⟨m,hn,_⟩:=I.loc;refine .cons (by rw[I.ok.kind];decide) g hn ?_ I.JA;exact Heap.get?_none_of_le (aP I.ok.R8 I.ok.above)
def Inv.OC(I:BY):∀b∈Gj X.stack,b∈X.env.locals::X.fs:=fun b hb=>by
 rcases I.ok.bx with e|⟨e,g⟩
 .rw[e]at hb;exact aS _ hb
 .rw[e]at hb;unfold Gj at hb;rw[List.filterMap_cons,g]at hb;exact hb
def Inv.TY(I:BY):∀b∈Gj X.stack,H b=none:=fun b hb=>by
 rcases aN.mp (I.OC b hb) with e|hb
 .rw[e];exact I.free
 .obtain⟨_,o,g,_⟩:=I.ok.JA.mem hb;exact I.base.free b o g (I.ok.Rj b hb) fun z=>I.ok.TQ b z hb
def Inv.step{g':Array GenState}{t':Nat}{d':Drawn}{ch:uK}(I:BY) (Y:N0) (keep:∀b o,b≠X.env.locals->b ∉ X.fs->b ∉ ch->s.heap.get? b=some o->H b=none->h'.get? b=some o) (slot:∀b o,b≠X.env.locals->b∈X.fs->b ∉ ch->s.heap.get? b=some o->H b=none->∃sl,h'.get? b=some zBq)(free:∀b o,b ∉ ch->s.heap.get? b=some o->H b=none->H' b=none) (there:∀b o,b ∉ ch->s.heap.get? b=some o->∃o',h'.get? b=some o') (BM:∀b xs,H b=some M2->H' b=some M2)(Gd:∀b o u,H b=some (.GH o u)->H' b=some (.GH o u))(Hk:∀b ps,H b=some (.Pq ps)->∃more,H' b=some (.Pq (ps++more))) (Hg:∀b xs o,b ∉ ch->H b=some M2->s.heap.get? b=some o->h'.get? b=some o) (ns:∀m,s.heap.Ns X.env.locals m->h'.Ns X.env.locals m)(Aw:zBP)(hg:AllBare g'):Inv X pins σ H' {s with heap:=h',gens:=g',drawn:=d',toks:=t'}:=by
 have neL:∀b o,X.s₀.heap.get? b=some o->b≠X.env.locals:=fun b o e=>aI (aG u8 I.ok.above);have T:∀b o,X.s₀.heap.get? b=some o->b ∉ X.ex->b ∉ ch:=fun b o e g hb=>by
  rcases(Y b hb).1 with z|z
  .exact g z
  .exact absurd (aG u8 z) xb
 have cellK:∀x c,X.env.cells.lookup x=some c->∀v,s.heap.IsCell c v->h'.IsCell c v:=fun x c e v ⟨o,ho,hd⟩=>by
  have U:c ∉ ch:=fun z=>(Y c z).2.2.1 x c e rfl;by_cases hc:c∈X.fs
  .obtain⟨sl,q⟩:=slot c o (I.Rx x c e) hc U ho (I.Gr x c e);exact⟨_,q,hd⟩
  .exact⟨o,keep c o (I.Rx x c e) hc U ho (I.Gr x c e),hd⟩
 refine⟨I.ok,I.os,hg,⟨fun b o e n hb g=>?_,fun b o e n hb g=>?_,fun b o e n g=>?_,fun b o e g=>?_,fun b xs e=>BM b xs (I.base.BM b xs e),fun b o xs e=>Gd b o xs (I.base.Gd b o xs e),fun b ps e=>?_,fun b xs o q e g=>Hg b xs o (T b o e g) zBW (I.base.Hg b xs o q e g)⟩,?_,fun x c e=>?_,?_,fun x c e=>?_,fun p hp=>?_,Aw,I.len⟩
 .exact keep b o (neL b o e) hb (T b o e g) (I.base.keep b o e n hb g) (I.base.free b o e n g)
 .obtain⟨sl,Z⟩:=I.base.slot b o e n hb g;obtain⟨sl',e2⟩:=slot b _ (neL b o e) hb (T b o e g) Z (I.base.free b o e n g);exact⟨sl',e2⟩
 .obtain⟨o',Z⟩:=I.base.there b o e g;exact free b o' (T b o e g) Z (I.base.free b o e n g)
 .obtain⟨o',Z⟩:=I.base.there b o e g;exact there b o' (T b o e g) Z
 .obtain⟨m1,Z⟩:=I.base.Hk b ps e;obtain⟨m2,e2⟩:=Hk b _ Z;exact⟨m1++m2,by rw[e2,Array.append_assoc]⟩
 .obtain⟨m,hn,hl⟩:=I.loc;refine⟨m,ns m hn,fun i x v Z e2 e3=>?_⟩;obtain⟨u,r,l⟩:=hl i x v Z e2 e3;refine⟨u,r,?_⟩;rcases l with l|⟨k,c,e,z⟩
  .exact .inl l
  .exact .inr ⟨k,c,e,cellK x c e _ z⟩
 .obtain⟨v,z⟩:=I.cell x c e;exact⟨v,cellK x c e v z⟩
 .obtain⟨m,⟨o,_,_,ho,_⟩,_⟩:=I.loc;exact free _ o (fun z=>(Y _ z).2.1 rfl) ho I.free
 .obtain⟨v,o,ho,hd⟩:=I.cell x c e;exact free c o (fun z=>(Y c z).2.2.1 x c e rfl) ho (I.Gr x c e)
 .obtain⟨e,n,ne,nf,d⟩:=I.pin p hp;have U:p.1 ∉ ch:=fun z=>(Y p.1 z).2.2.2 p hp rfl;exact⟨keep p.1 p.2 ne nf U e n,free p.1 p.2 U e n,ne,nf,d⟩
def Inv.un{t':Nat}(I:BY)(u:Un X.fs [] H H' s.heap h')(Aw:zBP):Inv X pins σ H' u0:=by
 obtain⟨m,⟨o,es,ep,Y,r⟩,_⟩:=id I.loc;obtain⟨sl,hL⟩:=u.any Y I.free As;exact I.step (g':=s.gens) (d':=s.drawn) (ch:=[]) (fun _ z=>nomatch z) (fun b o _ hb _ e n=>u.keep b o e n hb As) (fun b o _ hb _ e n=>u.slot b o e n hb As) (fun b o _ e n=>u.free b o e n As) (fun b o _ e=>u.there b o e As) u.BM u.Gd u.Hk (fun b xs o _ q e=>u.Hg b xs o q e As) (fun m' hm=>by
  obtain⟨o',T,U,g,Z⟩:=hm;rw[Y]at g;cases g;exact⟨_,T,U,hL,Z⟩) Aw I.bare
def Inv.call{g':Array GenState}{t':Nat}{d':Drawn}{ch:uK}(I:BY)(u:Un (Gj X.stack) ch H H' s.heap h')(Aw:zBP)(hg:AllBare g') (U:N0):Inv X pins σ H' {s with heap:=h',gens:=g',drawn:=d',toks:=t'}:=by
 obtain⟨m,⟨o,es,ep,ho,r⟩,_⟩:=id I.loc;obtain⟨sl,Y⟩:=u.any ho I.free fun z=>(U _ z).2.1 rfl;exact I.step (ch:=ch) U (fun b o Y hb g e n=>u.keep b o e n (fun z=>(aN.mp (I.OC b z)).elim Y hb) g) (fun b o _ _ g e n=>u.any e n g) (fun b o g e n=>u.free b o e n g) (fun b o g e=>u.there b o e g) u.BM u.Gd u.Hk (fun b xs o g q e=>u.Hg b xs o q e g) (fun m' hm=>by
  obtain⟨o',Z,ep',T,r'⟩:=hm;rw[ho]at T;cases T;exact⟨_,Z,ep',Y,r'⟩) Aw hg
def Inv.turned{t':Nat}{it:AD}(I:BY)(k:∀b o,b≠it->s.heap.get? b=some o->h'.get? b=some o)(hn:H it=none)(U:it≠X.env.locals) (h1:it∈X.ex\/X.s₀.heap.objs.size<=it)(h2:∀x c,X.env.cells.lookup x=some c->c≠it)(Z:∀p∈X.pn++pins,p.1≠it):Inv X pins σ H u0:=by
 have T:∀b u,H b=some u->b≠it:=fun b u e z=>by rw[z,hn]at e;cases e
 refine I.step (g':=s.gens) (d':=s.drawn) (ch:=[it]) xq (fun b o _ _ g e _=>k b o yq e) (fun b o _ _ g e _=>⟨o.slots,k b o yq e⟩) (fun _ _ _ _ n=>n)
  (fun b o g e=>⟨o,k b o yq e⟩) (fun _ _ e=>e) (fun _ _ _ e=>e) (fun b ps e=>⟨#[],by rw[e];simp⟩) (fun b xs o g _ e=>k b o yq e) vv (fun b u e=>?_) I.bare
 .have e:b=it:=by simpa using hb
  subst e;exact⟨h1,U,h2,Z⟩
 .obtain⟨o,es,ep,Y,r⟩:=hm;exact⟨o,es,ep,k _ o (Ne.symm U) Y,r⟩
 .refine(I.Aw b u e).Hd (fun c v g q=>k c v ?_ q) zBD fun _ _ q=>q;rcases g with z|z
  .rw[z];exact T b u e
  .exact T c _ z
def Inv.tok(I:BY)(t:Nat):Inv X pins σ H {s with toks:=t}:=I.un (h':=s.heap) (t':=t) Un.refl I.Aw
def Inv.kept{t':Nat}(I:BY)(k:wZ):Inv X pins σ H u0:=I.un (Un.kept k) (I.Aw.kept k)
def Inv.laid{a:AD}{o:HO}{t':Nat}(I:BY)(k:wZ)(g:s.heap.objs.size<=a)(new:Cj X.prog X.w (upd H a o) h' a o):Inv X pins σ (upd H a o) u0:=I.un (Un.laid k g (I.Aw.fresh g)) (I.Aw.laid k g new)
def Inv.write{x e:AD}{o:HO}{t':Nat}(I:BY)(T:gF (H x))(U:e=x\/H e=some (.own x))(k:∀b u,b≠e->s.heap.get? b=some u->h'.get? b=some u)(g:∃u,h'.get? e=some u) (new:Cj X.prog X.w (upd H x o) h' x o):Inv X pins σ (upd H x o) u0:=I.un (Un.write T U k g) (I.Aw.write T U k g new)
def Inv.X7{g:Cl}(I:BY)(h:∀p∈g,s.heap.get? p.1=some p.2/\H p.1=none/\p.1≠X.env.locals/\p.1 ∉ X.fs/\∀v,p.2.data≠.cell v):Inv X g σ H s :=
 ⟨I.ok,I.os,I.bare,I.base,I.loc,I.cell,I.free,I.Gr,fun p T=>(bG.mp T).elim (fun z=>I.pin p (bc _ z)) (h p),I.Aw,I.len⟩
def Qz{N:uC}(g:N.Nodup){i j:Nat}{x:Str}(a:N[i]? = some x)(b:N[j]? = some x):i=j:=by
 obtain⟨Z,U⟩:=aD.mp a;obtain⟨Y,T⟩:=aD.mp b;exact(List.getElem_inj g).mp (U.trans T.symm)
def OZ{M:Model}{A:OR}{E:tq}{i:Nat}{x:Str}{v:V}{u:VL}{Q:x8}(I:BY)(hN:u7)(hi:X.N[i]? = some x)(T:xm)(r:RelV v u) (h:∀s',Inv X pins (σ.set i xp) H s'->(∃a,Heap.SameBut a s.heap s'.heap/\(a=X.env.locals\/X.env.cells.lookup x=some a))->Q () s')(hf:X.fn x=true\/X.env.scope.names.lookup x=some .local:=by first|exact .inl rfl|exact .inr rfl|assumption):wpAny M A (storeName X.env x u) Q E s:=by
 obtain⟨m,hn,hl⟩:=id I.loc;have hcls:wa=false:=by rw[I.ok.kind];rfl
 have hiσ:i<σ.length:=by rw[I.len];exact(aD.mp hi).1
 have Rx:=I.Rx;have tracked:∀ {a:AD} {h':Heap},(∃o,s.heap.get? a=some o/\H a=none)->Heap.SameBut a s.heap h'->Et X.prog X.w H h':=fun {a h'} ha g b ob e=>by
  obtain⟨_,_,Z⟩:=ha;refine(I.Aw b ob e).Hd (fun c w' Y q=>(g.2 c ?_).trans q) zBD fun _ _ q=>q;rintro rfl;rcases Y with rfl|Y
  .rw[Z]at e;cases e
  .rw[Z]at Y;cases Y
 rcases T with hk|hk
 .refine wpAny_storeName_local hk hn (fun h' hn' g=>?_) hcls;obtain⟨oL,_,_,hoL,_⟩:=id hn;refine h _ ⟨I.ok,I.os,I.bare,⟨fun b o e n hb T=>?_,fun b o e n hb T=>?_,I.base.free,fun b o e T=>?_,I.base.BM,I.base.Gd,I.base.Hk,fun b xs o q e T=>(g.2 b im).trans (I.base.Hg b xs o q e T)⟩,⟨_,hn',fun j y v' U e2 e3=>?_⟩,fun y c e=>?_,I.free,I.Gr,fun p hp=>?_,tracked ⟨oL,hoL,I.free⟩ g,by simpa using I.len⟩ ⟨_,g,.inl rfl⟩
  .exact(g.2 b im).trans zBX
  .obtain⟨sl,U⟩:=I.base.slot b o e n hb T;exact⟨sl,(g.2 b im).trans U⟩
  .obtain⟨o',U⟩:=I.base.there b o e T;exact⟨o',(g.2 b im).trans U⟩
  .by_cases hj:j=i
   .subst hj;rw[hi]at U;cases U;rw[List.getElem?_set_self hiσ]at e2;cases e2;exact⟨u,r,.inl ⟨hk,by simp⟩⟩
   .rw[List.getElem?_set_ne (Ne.symm hj)]at e2;obtain⟨u',r',q⟩:=hl j y v' U e2 e3;refine⟨u',r',?_⟩;rcases q with ⟨k,e⟩|⟨k,c,e,z⟩
    .refine .inl ⟨k,?_⟩;have:y≠x:=fun e=>hj (Qz hN U (e ▸ hi));simp[this,e]
    .exact .inr ⟨k,c,e,z.sameBut g (Rx y c e)⟩
  .obtain⟨w',z⟩:=I.cell y c e;exact⟨w',z.sameBut g (Rx y c e)⟩
  .obtain⟨e,n,ne,nf,d⟩:=I.pin p hp;exact⟨(g.2 p.1 ne).trans e,n,ne,nf,d⟩
 .have hfn:X.fn x=true:=by
   rcases hf with z|z
   .exact z
   .rw[z]at hk;cases hk
  obtain⟨c,Y⟩:=I.ok.has x (.inl hk);obtain⟨w',z⟩:=I.cell x c Y;refine wpAny_storeName_cell I.ok.kind hk Y z (fun h' hc' g=>?_);obtain⟨oc,hoc,hocd⟩:=id z;refine h Nz ⟨I.ok,I.os,I.bare,⟨fun b o e n hb T=>?_,fun b o e n hb T=>?_,I.base.free,fun b o e T=>?_,I.base.BM,I.base.Gd,I.base.Hk,fun b xs o q e T=>(g.2 b (aI (aG u8 zAu))).trans (I.base.Hg b xs o q e T)⟩,⟨m,hn.sameBut g (Ne.symm (Rx x c Y)),fun j y v' U e2 e3=>?_⟩,fun y c' e=>?_,I.free,I.Gr,fun p hp=>?_,tracked ⟨oc,hoc,I.Gr x c Y⟩ g,by simpa using I.len⟩ ⟨c,g,.inr Y⟩
  .exact(g.2 b (aI (aG u8 zAu))).trans zBX
  .obtain⟨sl,U⟩:=I.base.slot b o e n hb T;exact⟨sl,(g.2 b (aI (aG u8 zAu))).trans U⟩
  .obtain⟨o',U⟩:=I.base.there b o e T;exact⟨o',(g.2 b (aI (aG u8 zAu))).trans U⟩
  .by_cases hj:j=i
   .subst hj;rw[hi]at U;cases U;rw[List.getElem?_set_self hiσ]at e2;cases e2;exact⟨u,r,.inr ⟨.inl hk,c,Y,hc'⟩⟩
   .rw[List.getElem?_set_ne (Ne.symm hj)]at e2;obtain⟨u',r',q⟩:=hl j y v' U e2 e3;refine⟨u',r',?_⟩;rcases q with q|⟨k,c',e,z'⟩
    .exact .inl q
    .refine .inr ⟨k,c',e,z'.sameBut g ?_⟩;rintro rfl;exact hj (Qz hN U (I.ok.inj _ _ _ e Y ▸ hi))
  .by_cases hcc:c'=c
   .subst hcc;exact⟨_,hc'⟩
   .obtain⟨w2,z2⟩:=I.cell y c' e;exact⟨w2,z2.sameBut g hcc⟩
  .obtain⟨e,n,ne,nf,d⟩:=I.pin p hp;refine⟨(g.2 p.1 ?_).trans e,n,ne,nf,d⟩;intro q;rw[q,hoc]at e;have q':oc=p.2:=aw e;exact d w' (by rw[<-q'];exact hocd)
def K8{M:Model}{A:OR}{E:tq}{i:Nat}{x:Str}{v:V}{u:VL}{Q:x8}(I:BY)(U:u7)(hi:X.N[i]? = some x)(g:xm)(r:RelV v u) (h:∀s',Inv X pins (σ.set i xp) H s'->Q () s')(T:X.fn x=true\/X.env.scope.names.lookup x=some .local:=by first|exact .inl rfl|exact .inr rfl|assumption):wpAny M A (storeName X.env x u) Q E s :=
 OZ I U hi g r (fun s' Y _=>h s' Y) T
def Inv.gK{s':SD}{ch:uK}(I:BY)(Z:s'.os=s.os)(u:Un (Gj X.stack) ch H H' s.heap s'.heap)(Aw:Et X.prog X.w H' s'.heap)(hg:AllBare s'.gens) (g:N0):Inv X pins σ H' s':=by
 obtain⟨h',U,Y,T,o'⟩:=s';have e:o'=s.os:=Z;subst e;exact I.call (g':=U) (t':=T) (d':=Y) u Aw hg g
end
abbrev XK:=VL->Option AD->Hp->Prop
abbrev St:=List (Option V)
abbrev VK:=V->Hp->Prop
abbrev TE:=St->Hp->VK->Prop
abbrev TT:=St->Hp->(Bool->Hp->Prop)->Prop
abbrev TA:=St->Hp->(List V->Hp->Prop)->Prop
structure Ends where
 nx:St->Hp->Prop
 rt:VK
 bk:St->Hp->Prop:=fun _ _=>False
 ct:St->Hp->Prop:=fun _ _=>False
abbrev TS:=Ends->St->Hp->Prop
def EP(X:Cx)(pins:Cl)(σ:St)(Q:VK)(u:VL)(s':SD):Prop:=∃v H',Inv X pins σ H' s'/\RelV v u/\Q v H'
def TP(X:Cx)(pins:Cl)(σ:St)(Q:zY)(b:Bool)(s':SD):Prop:=∃H',Inv X pins σ H' s'/\Q b H'
def AP(X:Cx)(pins:Cl)(σ:St)(Q:List V->Hp->Prop)(us:tm)(s':SD):Prop:=∃vs H',Inv X pins σ H' s'/\Vals vs us/\Q vs H'
def SP(X:Cx)(pins:Cl)(D:Ends)(f:Flow)(s':SD):Prop :=
 match f with
 |.next=>∃g H',Inv X pins g H' s'/\D.nx g H'
 |.brk=>∃g H',Inv X pins g H' s'/\D.bk g H'
 |.cont=>∃g H',Inv X pins g H' s'/\D.ct g H'
 |.ret u=>∃v g H',Inv X pins g H' s'/\RelV v u/\D.rt v H'
def PE(X:Cx)(e:Expr)(t:TE):Prop :=
 ∀(pins:Cl) (s:SD) (σ:St) (H:Hp) (Q:VK),Inv X pins σ H s->t σ H Q->wpAny By X.A (eval e X.env) ge X.xe s
def PT(X:Cx)(e:Expr)(t:TT):Prop :=
 ∀(pins:Cl) (s:SD) (σ:St) (H:Hp) (Q:zY),Inv X pins σ H s->t σ H Q->wpAny By X.A (isTrue e X.env (eval e X.env)) (TP X pins σ Q) X.xe s
def PW(X:Cx)(e:Expr)(t:TT):Prop :=
 ∀(g:Sem VL) (pins:Cl) (s:SD) (σ:St) (H:Hp) (Q:zY),Inv X pins σ H s->t σ H Q->wpAny By X.A (isTrue e X.env g) (TP X pins σ Q) X.xe s
def PW.pt{X:Cx}{e:Expr}{t:TT}(h:PW X e t):PT X e t:=h _
def PA(X:Cx)(es:uD)(t:TA):Prop :=
 ∀(pos:Pos) (pins:Cl) (s:SD) (σ:St) (H:Hp) (Q:List V->Hp->Prop),Inv X pins σ H s->t σ H Q->wpAny By X.A (spliced (backTo pos Ol)) (AP X pins σ Q) X.xe s
def PS(X:Cx)(st:Stmt)(t:TS):Prop :=
 ∀(pins:Cl) (s:SD) (σ:St) (H:Hp) (D:Ends),Inv X pins σ H s->t D σ H->wpAny By X.A (exec st X.env) (SP X pins D) X.xe s
def IW(X:Cx)(st:uL)(t:TS):Prop :=
 ∀(pins:Cl) (s:SD) (σ:St) (H:Hp) (D:Ends),Inv X pins σ H s->t D σ H->wpAny By X.A (execs st X.env) (SP X pins D) X.xe s
def BV{α:Type}{t:Sem α}{Q g:α->SD->Prop}{M:Model}{A:OR}{E:tq}{s:SD}(h:wpAny M A t Q E s)(T:∀a s,Q a s->g a s):wpAny M A t g E s:=aW h T fun _ _ x=>x
section
variable{X:Cx}
def QP(i:Nat):TE:=fun σ H Q=>∃v,σ[i]? = some xp/\Q v H
def tC(v:V):TE:=fun _ H Q=>Q v H
def oC{i:Nat}{x:Str}{pos:Pos}(hN:X.N[i]? = some x)(Y:nE X.env.scope x)(hd:GM=false:=by decide)(T:(x==("__classdict__" : Str))=false:=by decide):PE X ur (QP i):=by
 intro pins s σ H Q I h;obtain⟨v,e,h⟩:=h;obtain⟨m,hn,Z⟩:=I.loc;obtain⟨u,r,l⟩:=Z i x v hN e Y;have fin:EP X pins σ Q u s:=⟨v,H,I,r,h⟩;rcases l with ⟨hk,hm⟩|⟨hk,c,U,g⟩
 .exact wpAny_Name (wpAny_loadName_local I.ok.kind hk hn hm fin) hd
 .rcases hk with hk|hk
  .exact wpAny_Name (wpAny_loadName_cell I.ok.kind hk U g fin) hd
  .exact wpAny_Name (wpAny_loadName_free I.ok.kind hk U g fin T) hd
def AY{i j pos}:PE X (.Constant vR j pos) (tC vR):=fun _ _ _ H _ I h=>wpAny_Constant_int ⟨.int i,H,I.tok _,⟨_,rfl⟩,h⟩
def Jk{b j pos}:PE X (.Constant (.bool b) j pos) (tC (.bl b)):=fun _ _ _ H _ I h=>Constant_bool ⟨.bl b,H,I,rfl,h⟩
def nU{j pos}:PE X (.Constant .none j pos) (tC .Bq):=fun _ _ _ H _ I h=>Constant_none ⟨.Bq,H,I,rfl,h⟩
def lK{x j pos}:PE X (.Constant (.str x) j pos) (tC (.str x)):=fun _ _ _ H _ I h=>Calls.Constant_str ⟨.str x,H,I.tok _,⟨_,rfl⟩,h⟩
def Gl(X:Cx)(x:Str):Prop:=X.env.kindOf x=some .globalImplicit
def Ku{E:tq}{pins:Cl}{s:SD}{σ:St}{H:Hp}{x:Str}{u:VL}{pos:Pos}{Q:tq}(I:BY)(hg:y9)(hm:X.mg x=some u)(h:Q u s) (hd:GM=false:=by decide):wpAny By X.A (eval ur X.env) Q E s :=
 Calls.Name_function_global I.ok.kind hg (Calls.loadGlobal_global (by rw[I.ok.glob];exact I.mod.glob.keeps I.bk) hm h) hd
def GQ{E:tq}{pins:Cl}{s:SD}{σ:St}{H:Hp}{x:Str}{u:VL}{pos:Pos}{Q:tq}(I:BY)(hg:y9)(hm:X.mg x=none)(g:bootBuiltins x=some u)(h:Q u s) (hn:x ≠ "__name__":=by decide)(hd:GM=false:=by decide):wpAny By X.A (eval ur X.env) Q E s:=by
 obtain⟨mb,U,T⟩:=I.mod.blt;exact Calls.Name_function_global I.ok.kind hg (Calls.loadGlobal_builtin (by rw[I.ok.glob];exact I.mod.glob.keeps I.bk) hm (by rw[I.ok.blt];exact U.keeps I.bk) ((T x hn).trans g) h) hd
def EE{x:Str}{v:V}{u:VL}{pos:Pos}(hg:y9)(hm:X.mg x=some u)(r:RelV v u)(hd:GM=false:=by decide):PE X ur (tC v) :=
 fun _ _ _ H _ I h=>Ku I hg hm ⟨v,H,I,r,h⟩ hd
def Ic{x:Str}{v:V}{u:VL}{pos:Pos}(hg:y9)(hm:X.mg x=none)(g:bootBuiltins x=some u)(r:RelV v u)(hn:x ≠ "__name__":=by decide)(hd:GM=false:=by decide):PE X ur (tC v) :=
 fun _ _ _ H _ I h=>GQ I hg hm g ⟨v,H,I,r,h⟩ hn hd
variable{a b:Expr}{ta tb:TE}{pos:Pos}
def tB(t:TE):TT:=fun σ H Q=>t σ H fun x g=>∃c,x=.bl c/\Q c g
def JI{e : Expr}{t : TE}(h : PE X e t)(he : ∀ whole,isTrue e X.env whole = zr:=by intro _; rfl):PT X e (tB t):=by
  intro pins s σ H Q I hw
  refine isTrue_plain (BV (h pins s σ H _ I hw) fun v s1 ⟨x,H1,I1,r1,q1⟩ => ?_) (he _)
  obtain ⟨d,rfl,q⟩:=q1
  cases r1
  exact wpAny_truthy_bool ⟨H1,I1,q⟩
variable{tA tB':TT}{rest:uD}
def tU(t u:TT):TT:=fun σ H Q=>t σ H fun c g=>if c=true then Q true g else u σ g Q
def rL(t:TT):TT:=fun σ H Q=>t σ H fun c g=>Q (!c) g
def jR(ha:PT X a tA):PW X (.BoolOp .And [a] pos) tA:=by
 intro g pins s σ H Q I h;refine isTrue_and (BV (ha pins s σ H Q I h) fun c s1 e=>?_);cases c with
 |true=>exact isTrue_and_nil e
 |false=>exact e
def Ml(ha:PT X a tA):PW X (.BoolOp .Or [a] pos) tA:=by
 intro g pins s σ H Q I h;refine isTrue_or (BV (ha pins s σ H Q I h) fun c s1 e=>?_);cases c with
 |false=>exact isTrue_or_nil e
 |true=>exact e
def NR(ha:PT X a tA)(hb:PW X (.BoolOp .Or (b::rest) pos) tB'):PW X (.BoolOp .Or (a::b::rest) pos) (tU tA tB'):=by
 intro Y pins s σ H Q I h;refine isTrue_or (BV uv fun c s1 ⟨U,T,g⟩=>?_);cases c with
 |true=>exact⟨U,T,g⟩
 |false=>exact hb Y pins s1 σ U Q T g
def JN(ha:PT X a tA):PT X zo (rL tA):=by
 intro pins s σ H Q I h;exact isTrue_not (ha pins s σ H (fun c g=>Q (!c) g) I h)
def pK(ta tb:TE):TE:=fun σ H Q=>ta σ H fun x g=>∃c,x=.bl c/\if c=true then tb σ g Q else Q (.bl false) g
def pU(ta:TE):TE:=fun σ H Q=>ta σ H fun x g=>∃c,x=.bl c/\Q (.bl (!c)) g
def R6{op}{t:TE}(h:PE X a t):PE X (.BoolOp op [a] pos) t:=fun pins s σ H Q I g=>BoolOp_one (h pins s σ H Q I g)
def OG(ha:PE X a ta)(hb:PE X (.BoolOp .And (b::rest) pos) tb):PE X (.BoolOp .And (a::b::rest) pos) (pK ta tb):=by
 intro pins s σ H Q I h;refine BoolOp_and (BV uv fun v s1 ⟨x,U,T,Y,g⟩=>?_);obtain⟨c,rfl,g⟩:=g;cases Y;refine wpAny_truthy_bool ?_;cases c with
 |true=>exact hb pins s1 σ U Q T g
 |false=>exact⟨.bl false,U,T,rfl,g⟩
def cY(ha:PE X a ta):PE X zo (pU ta):=by
 intro pins s σ H Q I h;refine UnaryOp_ (BV uv fun v s1 ⟨x,Y,U,T,g⟩=>?_);obtain⟨c,rfl,g⟩:=g;cases T;exact not_of (wpAny_truthy_bool ⟨.bl (!c),Y,U,rfl,g⟩)
end
def Ar(K:Fg)(H:Hp)(a:AD)(xs:uI):Prop :=
 Rd H a NE \/
  ∃(o:Obj) (g:xP) (n:Nat),K.lookup a=some o/\o.cls=.type "list" /\ o.dict=none/\o.data=.seq g n/\g.size<=sizeLine/\Vals xs g.toList
def BJ(K:Fg)(H:Hp)(a:AD)(xs:uI):Prop :=
 Rd H a M2 \/
  ∃(o:Obj) (g:xP) (n:Nat),K.lookup a=some o/\o.cls=.type "tuple" /\ o.data=.seq g n/\g.size<=sizeLine/\Vals xs g.toList
def rX:VL->Option V
 |.none=>some .Bq
 |.bool b=>some (.bl b)
 |.int i _=>some vR
 |.str x _=>some (.str x)
 |.bytes b _=>some (.OW b)
 |.float b _=>some (.YJ b)
 |.ref a=>some Jz
 |.type n=>some (.ty n)
 |_=>none
def RelV.abs{x:V}{u:VL}(r:RelV x u):rX u=some x:=by
 cases x with
 |Bq=>cases r;rfl
 |bl _=>cases r;rfl
 |int _=>obtain⟨t,rfl⟩:=r;rfl
 |str _=>obtain⟨t,rfl⟩:=r;rfl
 |OW _=>obtain⟨t,rfl⟩:=r;rfl
 |YJ _=>obtain⟨t,rfl⟩:=r;rfl
 |ref _=>cases r;rfl
 |ty _=>cases r;rfl
def RelV.inj{x y:V}{u:VL}(r:RelV x u)(q:RelV y u):x=y:=aw (r.abs.symm.trans q.abs)
def Vals.inj:∀ {xs ys:ON} {us:ST},Vals xs us->Vals ys us->xs=ys
 |_,_,_,.nil,.nil=>rfl
 |_,_,_,.cons r t,.cons T g=>by rw[r.inj T,Vals.inj t g]
section
variable{X:Cx}{pins:Cl}{σ:St}{H:Hp}{s:SD}{a:AD}{xs ys:uI}
def Ar.of{K:Fg}(h:H a=some NE):Ar K H a xs:=.inl (.inl h)
def BJ.of{K:Fg}(h:H a=some M2):BJ K H a xs:=.inl (.inl h)
def Inv.list(I:BY)(h:Ar X.K H a xs):∃g:tm,Vals xs g/\PlainL s.heap a g.toArray/\xs.length<=sizeLine:=by
 rcases h with h|⟨o,g,n,hk,U,hd,T,Y,r⟩
 .obtain⟨z,g,n,r,e⟩:=h.ok I.Aw;exact⟨g,r,⟨_,n,e,rfl,rfl,rfl⟩,z⟩
 .refine⟨g.toList,r,⟨o,n,I.Hc a o hk,U,hd,by simpa using T⟩,?_⟩;have e:=r.length;simp only[Array.length_toList]at e
  lia
def Inv.tuple(I:BY)(h:BJ X.K H a xs):∃g:tm,Vals xs g/\IsTup s.heap a g.toArray/\xs.length<=sizeLine:=by
 rcases h with h|⟨o,g,n,hk,U,T,Y,r⟩
 .obtain⟨z,g,r,p⟩:=h.ok I.Aw;exact⟨g,r,p,z⟩
 .refine⟨g.toList,r,⟨o,I.Hc a o hk,U,n,by simpa using T⟩,?_⟩;have e:=r.length;simp only[Array.length_toList]at e
  lia
def Inv.V5(I:BY)(h:Ar X.K H a xs)(h':Ar X.K H a ys):xs=ys:=by
 obtain⟨T,r,⟨o,n,e,_,_,d⟩,_⟩:=I.list h;obtain⟨g,Z,⟨o',n',U,_,_,Y⟩,_⟩:=I.list h';rw[e]at U;cases U;rw[d]at Y
 injection Y with d1 _
 have:T=g:=by simpa using bO Array.toList d1
 subst this;exact r.inj Z
def Inv.UL(I:BY)(h:BJ X.K H a xs)(h':BJ X.K H a ys):xs=ys:=by
 obtain⟨T,r,⟨o,e,_,n,d⟩,_⟩:=I.tuple h;obtain⟨g,Z,⟨o',U,_,n',Y⟩,_⟩:=I.tuple h';rw[e]at U;cases U;rw[d]at Y
 injection Y with d1 _
 have:T=g:=by simpa using bO Array.toList d1
 subst this;exact r.inj Z
end
abbrev Cx.Hl(X:Cx)(E:ue):Cx:={X with xe:=E}
abbrev Cx.I0(X:Cx):Cx:=X.Hl fun _ _=>False
def Cx.Ok.Hl{X:Cx}(ok:X.Ok)(E:tq):(X.Hl E).Ok :=
 ⟨ok.mod,ok.kind,ok.glob,ok.blt,ok.above,ok.inj,ok.has,ok.WY,ok.hd,ok.frames,ok.bx,ok.nr,ok.bs,ok.R8,ok.SY,ok.TQ,ok.JA,ok.Rj,ok.kt⟩
def Cx.Ok.Ee{X:Cx}{E:tq}(ok:(X.Hl E).Ok):X.Ok :=
 ⟨ok.mod,ok.kind,ok.glob,ok.blt,ok.above,ok.inj,ok.has,ok.WY,ok.hd,ok.frames,ok.bx,ok.nr,ok.bs,ok.R8,ok.SY,ok.TQ,ok.JA,ok.Rj,ok.kt⟩
section
variable{X:Cx}{pins:Cl}{σ:St}{H:Hp}{s:SD}{E:tq}
def Inv.Hl(I:BY)(E:tq):Inv (X.Hl E) pins σ H s:=⟨I.ok.Hl E,I.os,I.bare,I.base,I.loc,I.cell,I.free,I.Gr,I.pin,I.Aw,I.len⟩
def Inv.Ee(I:Inv (X.Hl E) pins σ H s):Inv X pins σ H s:=⟨I.ok.Ee,I.os,I.bare,I.base,I.loc,I.cell,I.free,I.Gr,I.pin,I.Aw,I.len⟩
def SP.Ee{D:Ends}{f:Flow}{s':SD}(h:SP (X.Hl E) pins D f s'):SP X pins D f s':=by
 cases f with
 |next=>obtain⟨g,H',I,q⟩:=h;exact⟨g,H',I.Ee,q⟩
 |brk=>obtain⟨g,H',I,q⟩:=h;exact⟨g,H',I.Ee,q⟩
 |cont=>obtain⟨g,H',I,q⟩:=h;exact⟨g,H',I.Ee,q⟩
 |ret u=>obtain⟨v,g,H',I,r,q⟩:=h;exact⟨v,g,H',I.Ee,r,q⟩
def IW.I0{st:uL}{t:TS}(h:IW X.I0 st t):IW X st t:=fun pins s σ H D I g=>
 aW (h pins s σ H D (I.Hl _) g) (fun _ _ q=>q.Ee) fun _ _ z=>False.elim z
end
section
variable{X:Cx}{st:Stmt}{rest:uL}{t u:TS}{e:Expr}{te:TE}{pos:Pos}
def pY:TS:=fun D σ H=>D.nx σ H
def dc(t u:TS):TS:=fun D σ H=>t {D with nx:=u D} σ H
def Cv:IW X [] pY:=fun _ _ σ H _ I h=>wpAny_execs_nil ⟨σ,H,I,h⟩
def Aa(U:PS X st t)(T:IW X rest u):IW X (st::rest) (dc t u):=by
 intro pins s σ H D I h;refine wpAny_execs_cons (BV (U pins s σ H {D with nx:=u D} I h) fun f s1 q=>?_);cases f with
 |next=>
  obtain⟨g,H',Y,q⟩:=q;exact T pins s1 g H' D Y q
 |ret v=>exact q
 |brk=>exact q
 |cont=>exact q
def Aj(g:PS X st t):IW X [st] t:=by
 intro pins s σ H D I h;refine wpAny_execs_cons (BV (g pins s σ H D I h) fun f s1 q=>?_);cases f with
 |next=>exact wpAny_execs_nil q
 |ret v=>exact q
 |brk=>exact q
 |cont=>exact q
def Inv.quiet{pins:Cl}{σ:St}{H:Hp}{s:SD}(I:BY):interactive X.env=false:=by simp[interactive,I.ok.kind]
def Us(te:TE):TS:=fun D σ H=>te σ H fun _ g=>D.nx σ g
def Ca(U:PE X e te)(T:swapsWith e none pos.line X.env=pure false:=by rfl):PS X (.Expr e pos) (Us te):=by
 intro pins s σ H D I h;exact wpAny_Expr_any (BV (U pins s σ H _ I h) fun v s1 ⟨x,Z,Y,r1,g⟩=>⟨σ,Z,Y,g⟩) I.quiet T
def sT(te:TE):TS:=fun D σ H=>te σ H D.rt
def BU(U:PE X e te):PS X (.Return (some e) pos) (sT te):=by
 intro pins s σ H D I h;exact wpAny_Return_some (BV (U pins s σ H _ I h) fun v s1 ⟨x,Z,Y,g,T⟩=>⟨x,σ,Z,Y,g,T⟩)
def rp(c:TT)(t u:TS):TS:=fun D σ H=>c σ H fun b g=>if b=true then t D σ g else u D σ g
def FN{c:Expr}{a b:uL}{g:TT}(Z:PT X c g)(ha:IW X a t)(hb:IW X b u):PS X (.If c a b pos) (rp g t u):=by
 intro pins s σ H D I h;refine wpAny_If (BV (Z pins s σ H _ I h) fun d s1 ⟨Y,U,T⟩=>?_);cases d with
 |true=>exact ha pins s1 σ Y D U T
 |false=>exact hb pins s1 σ Y D U T
def kj:TS:=fun _ _ _=>False
def VA:PS X st kj:=fun _ _ _ _ _ _ h=>h.elim
end
abbrev TG:=V->St->Hp->(St->Hp->Prop)->Prop
abbrev VU:=List V->St->Hp->(St->Hp->Prop)->Prop
def PG(X:Cx)(target:Expr)(t:TG):Prop :=
 ∀(pins:Cl) (s:SD) (σ:St) (H:Hp) (v:V) (u:VL) (Q:St->Hp->Prop),Inv X pins σ H s->RelV v u->t v σ H Q ->
  wpAny By X.A (assign target X.env u) (fun _ s'=>∃g H',Inv X pins g H' s'/\Q g H') X.xe s
def fy(X:Cx)(ts:uD)(t:VU):Prop :=
 ∀(pins:Cl) (s:SD) (σ:St) (H:Hp) (vs:ON) (us:ST) (Q:St->Hp->Prop),Inv X pins σ H s->Vals vs us->t vs σ H Q ->
  wpAny By X.A (assignInOrder ((assignEach ts X.env).map wG) us) (fun _ s'=>∃g H',Inv X pins g H' s'/\Q g H') X.xe s
abbrev YY:=V->V->V->Hp->(Hp->Prop)->Prop
def eB(X:Cx)(t:YY):Prop :=
 ∀(pins:Cl) (s:SD) (σ:St) (H:Hp) (o i v:V) (g T u:VL) (Q:Hp->Prop),Inv X pins σ H s->RelV o g->RelV i T->RelV v u->t o i v H Q ->
  wpAny By X.A (setItem g T u) (fun _ s'=>∃H',Inv X pins σ H' s'/\Q H') X.xe s
section
variable{X:Cx}{pos:Pos}
def Ds(i:Nat):TG:=fun v σ H Q=>Q (σ.set i xp) H
def A6{i:Nat}{x:Str}(U:u7)(hi:X.N[i]? = some x)(g:xm)(T:X.fn x=true\/X.env.scope.names.lookup x=some .local:=by first|exact .inl rfl|exact .inr rfl|assumption):PG X ur (Ds i):=by
 intro pins s σ H v u Q I r h;exact wpAny_assign_Name (K8 I U hi g r (fun s' Y=>⟨_,H,Y,h⟩) T)
def ZP:VU:=fun vs σ H Q=>vs=[]/\Q σ H
def Lq(t:TG)(u:VU):VU:=fun vs σ H Q=>∃v r,vs=v::r/\t v σ H fun g H'=>u r g H' Q
def IY:fy X [] ZP:=by
 intro pins s σ H vs us Q I r h;obtain⟨e,h⟩:=h;subst e;cases r;exact assignInOrder_nil ⟨σ,H,I,h⟩
def CU{e:Expr}{es:uD}{t:TG}{u:VU}(h1:PG X e t)(Z:fy X es u) (Y:(assignEach zCh X.env).map wG=assign e X.env::(assignEach es X.env).map wG:=by rfl):fy X zCh (Lq t u):=by
 intro pins s σ H vs us Q I r h;obtain⟨v,vr,e1,h⟩:=h;subst e1;cases r with
 |cons r T=>
  rw[Y];refine assignInOrder_cons (BV (h1 pins s σ H _ _ _ I r h) fun _ s1 ⟨g,H1,I1,U⟩=>?_);exact Z pins s1 g H1 _ _ Q I1 T U
def ZX(K:Fg)(n:Nat)(t:VU):TG:=fun v σ H Q=>∃a xs,v=.ref a/\BJ K H a xs/\xs.length=n/\t xs σ H Q
def Jy{es:uD}{k:Nat}{t:VU}{n:Nat}(hc:jj)(h:fy X es t) (hn:(assignEach es X.env).length=n:=by rfl)(T:(assignEach es X.env).findIdx? To=none:=by rfl):PG X (.Tuple es k pos) (ZX X.K n t):=by
 intro pins s σ H v u Q I r g;obtain⟨a,xs,e1,hq,hl,g⟩:=g;subst e1;cases r;obtain⟨Y,U,ht,hz⟩:=I.tuple hq;refine assign_Tuple_tuple SL ht (by simp[hn,<-hl,U.length]) T fun h' Z=>?_;have I1:Inv X pins σ H Nz:=I.kept (t':=s.toks) fun b o e=>Z b o (aI (aF e)) e;exact h pins _ σ H xs _ Q I1 (by simpa using U) g
def rH(g T:TE)(t:YY):TG:=fun v σ H Q=>g σ H fun o Z=>T σ Z fun i Y=>t o i v Y fun U=>Q σ U
def cJ{o i:Expr}{to ti:TE}{t:YY}(ho:PE X o to)(hi:PE X i ti)(hs:eB X t)
 (ha:∀v,assign (.Subscript o i pos) X.env v=(do
      let ov <-holding [v] (eval o X.env)
      let iv <-holding [v,ov] (eval i X.env)
      standAt pos
      holding [v,ov,iv] (setItem ov iv v)
      release [v,ov,iv] []):=by intro _;rfl):PG X (.Subscript o i pos) (rH to ti t):=by
  intro pins s σ H v u Q I r h
  rw[ha]
  refine Wb (aQ (BV (ho pins s σ H _ I h) fun ov s1 ⟨x,H1,I1,r1,q1⟩=>?_))
  refine Wb (aQ (BV (hi pins s1 σ H1 _ I1 q1) fun iv s2 ⟨y,H2,I2,r2,q2⟩=>?_))
  refine Wb (wpAny_standAt (Wb (aQ (BV (hs pins s2 σ H2 x y v ov iv u _ I2 r1 r2 r q2) fun _ s3 ⟨H3,I3,q3⟩=>?_))))
  exact wpAny_release ⟨σ,H3,I3,q3⟩
def TV(T:TE)(g:TG):TS:=fun D σ H=>T σ H fun x U=>g x σ U D.nx
def WS{tg e:Expr}{T:TE}{g:TG}(he:PE X e T)(hg:PG X tg g)(hs:swapsWithSole [tg] e pos.line X.env=pure false:=by rfl)(Z:swappedStores [tg] e X.env=pure none:=by rfl) (h1:(assignEach [tg] X.env).map wG=[assign tg X.env]:=by rfl):PS X (.Assign [tg] e pos) (TV T g):=by
 intro pins s σ H D I h;refine wpAny_Assign_stores (BV zN fun v s1 ⟨x,H1,I1,U,Y⟩=>?_) hs Z;rw[h1];exact BV (hg pins s1 σ H1 x v _ I1 U Y) fun _ s2 q=>q
def BC{i:Nat}{x:Str}{e:Expr}{T:TE}{g:Pos}(hN:u7)(hi:X.N[i]? = some x)(Z:xm)(he:PE X e T)(hs:swapsWith e (some (.Name x g)) pos.line X.env=pure false:=by rfl)(hf:X.fn x=true\/X.env.scope.names.lookup x=some .local:=by first|exact .inl rfl|exact .inr rfl|assumption):PS X (.Assign [.Name x g] e pos) (TV T (Ds i)):=by
 intro pins s σ H D I h;refine wpAny_Assign_Name (BV zN fun v s1 ⟨y,H1,I1,U,Y⟩=>?_) hs;exact K8 I1 hN hi Z U (fun s2 I2=>⟨_,H1,I2,Y⟩) hf
def sI(i j:Nat)(g:TA):TS:=fun D σ H=>g σ H fun vs T=>∃v w,vs=[v,w]/\D.nx ((σ.set i xp).set j (some w)) T
def oS{i j:Nat}{x y:Str}{a b:Expr}{ta:TA}{px py pt:Pos}{kt k2 T}(hc:jj)(hN:u7)(hi:X.N[i]? = some x)(hj:X.N[j]? = some y)(hij:i≠j) (hx:X.env.scope.names.lookup x=some .local)(hy:X.env.scope.names.lookup y=some .local)(ha:PA X [a,b] ta) (hw:swappedStores [.Tuple [.Name x px,.Name y py] kt pt] (.Tuple [a,b] k2 T) X.env=pure (some [x,y])) (hs:swapsWithSole [.Tuple [.Name x px,.Name y py] kt pt] (.Tuple [a,b] k2 T) pos.line X.env=pure false:=by rfl):PS X (.Assign [.Tuple [.Name x px,.Name y py] kt pt] (.Tuple [a,b] k2 T) pos) (sI i j ta):=by
 intro pins s σ H D I h;rw[exec_Assign_arm];refine Wb (wpAny_standAt ?_);rw[hs];refine Wb WF;rw[if_neg AT];refine Wb (Tuple_ (BV (ha _ pins s σ H _ I h) fun us s1 ⟨vs,H1,I1,r1,q1⟩=>?_));obtain⟨v,w,e1,q1⟩:=q1;subst e1;obtain⟨Y,U,rfl,rv,Z⟩:∃Y U,us=[Y,U]/\RelV v Y/\RelV w U:=by
  cases r1 with
  |cons p q=>
   cases q with
   |cons p' q'=>
    cases q';exact⟨_,_,rfl,p,p'⟩
 refine bA ?_ (by show 2<=sizeLine;decide);have I2:Inv X pins σ H1 {s1 with heap:=s1.heap.push { cls:=.type "tuple",data:=.seq [Y,U].toArray} }:=I1.kept (t':=s1.toks) fun b o e=>aE _ e;rw[hw];refine Wb WF;show wpAny By X.A (do rule "assign.swapped-stores"; let g <-unpackItems (.ref s1.heap.objs.size) 2 none;assignInOrder [fun v=>bindName X.env y v,fun v=>bindName X.env x v] g.reverse;pure Flow.next) _ _ _;refine Wb (bQ (Wb (unpackItems_tuple (items:=#[Y,U]) SL (IsTup.new s1.heap _) fun h' hx'=>?_)));have I3:=I2.kept (h':=h') (t':=s1.toks) fun b o e=>hx' b o (aI u8) e;show wpAny _ _ (assignInOrder [fun v=>bindName X.env y v,fun v=>bindName X.env x v] [U,Y]>>=fun _=>pure Flow.next) _ _ _;refine Wb (assignInOrder_cons (wpAny_bindName (K8 I3 hN hj (.inl hy) Z (fun s2 I4=>?_) (.inr hy))));refine assignInOrder_cons (wpAny_bindName (K8 I4 hN hi (.inl hx) rv (fun s3 I5=>assignInOrder_nil WF) (.inr hx)));rw[List.set_comm _ _ (Ne.symm hij)]at I5;exact⟨_,H1,I5,q1⟩
end
section
variable{X:Cx}{pos:Pos}
def Z5(c:TT)(Y:TS):TS:=fun D σ H=>∃W:Nat->St->Hp->Prop,(∃m,W m σ H)/\∀m σ H,W m σ H ->
 c σ H fun b U=>if b=true then ∃N:St->Hp->Prop,(∀g H',N g H'->∃T,T<m/\W T g H')/\Y uZ σ U else D.nx σ U
def NG{c:Expr}{U:uL}{tc:TT}{tb:TS}(hp:zDO)(hc:PT X c tc)(hb:IW X U tb):PS X (.While c U [] pos) (Z5 tc tb):=by
 intro pins s σ H D I h;obtain⟨W,⟨m0,w0⟩,turn⟩:=h;refine wpAny_While (codeAny_whileLoop (fun n s'=>∃Y H',Inv X pins Y H' s'/\W n Y H') ?_ m0 ⟨σ,H,I,w0⟩);rintro n s1 ⟨T,H1,I1,w1⟩;refine wpAny_passesOwn hp (BV (hc pins s1 T H1 _ I1 (turn n T H1 w1)) fun b s2 ⟨H2,I2,q2⟩=>?_);cases b with
 |true=>
  obtain⟨N,hN,q2⟩:=q2;rw[if_pos rfl];refine wpAny_passesOwn hp (BV (hb pins s2 T H2 _ I2 q2) fun f s3 q3=>?_);cases f with
  |next=>
   obtain⟨g,Z,I3,n3⟩:=q3;obtain⟨m',hm,w3⟩:=hN g Z n3;exact⟨m',hm,g,Z,I3,w3⟩
  |cont=>
   obtain⟨g,Z,I3,n3⟩:=q3;obtain⟨m',hm,w3⟩:=hN g Z n3;exact⟨m',hm,g,Z,I3,w3⟩
  |brk=>exact q3
  |ret v=>exact q3
 |false=>
  rw[if_neg aM];exact wpAny_execs_nil ⟨T,H2,I2,q2⟩
end
structure It where
 go:Nat->Hp->Prop
 Ft:Nat->Hp->V->Hp->Prop
 stop:Nat->Hp->Prop
def MI(X:Cx)(pins:Cl)(H:Hp)(b:AD):Prop :=
 H b=none/\b≠X.env.locals/\b ∉ X.fs/\(b∈X.ex\/X.s₀.heap.objs.size<=b)/\(∀x c,X.env.cells.lookup x=some c->c≠b)/\∀p∈X.pn++pins,p.1≠b
def Inv.Qh{X:Cx}{pins:Cl}{σ:St}{H H':Hp}{s:SD}{b:AD}(I:BY)(hb:s.heap.objs.size<=b)(hn:H' b=none):MI X pins H' b:=by
 refine⟨hn,Nat.ne_of_gt (aG I.lt hb),I.rR hb,.inr (aP I.sz hb),fun x c e z=>?_,fun p g z=>?_⟩
 .obtain⟨v,q⟩:=I.cell x c e;exact absurd (aG q.lt (by rw[z];exact hb)) xb
 .exact absurd (aG (aF (I.pin p g).1) (by rw[z];exact hb)) xb
structure Turn(P:Go)(w:KB)(K:Fg)(tg:Expr)(J:It)(fp:List Addr)(it:Addr)(tn:vA):Prop where
 mem:it∈fp
 obj:∀i h,tn i h->∀b∈fp,∃o,h.get? b=some o/\∀v,o.data≠.cell v
 keep:∀i h h',tn i h->(∀b∈fp,∀o,h.get? b=some o->h'.get? b=some o)->tn i h'
 item:∀(X:Cx),X.prog=P->X.w=w->X.K=K->X.calm=true->∀(i:Nat) (pins:List (Addr×Obj)) (s:Shared) (σ:St) (H:Hp) (E:zBQ),Inv X pins σ H s->(∀b∈fp,MI X pins H b)->tn i s.heap->J.go i H ->
  wpAny ww X.A (pyNext vJ) (fun r s1=>∃u,r=some u /\
   wpAny ww X.A (letOwnedTupleGo tg vJ u) (fun _ s2=>∃x H',Inv X pins σ H' s2/\RelV x u/\J.Ft i H x H'/\tn On s2.heap/\∀b∈fp,H' b=none) E s1) E s
 done:∀(X:Cx),X.prog=P->X.w=w->X.K=K->X.calm=true->∀(i:Nat) (pins:List (Addr×Obj)) (s:Shared) (σ:St) (H:Hp) (E:zBQ),Inv X pins σ H s->(∀b∈fp,MI X pins H b)->tn i s.heap->J.stop i H ->
  wpAny ww X.A (pyNext vJ) (fun r s1=>r=none/\Inv X pins σ H s1) E s
 self:∀(A:OR) (i:Nat) (s:Shared) (Q:zBQ) (E:zBQ),tn i s.heap->Q vJ s->wpAny ww A (pyIter vJ) Q E s
abbrev TI:=St->Hp->(It->Hp->Prop)->Prop
def qk(X:Cx)(pins:Cl)(σ:St)(tg:Expr)(R:yO)(g:VL)(s2:SD):Prop :=
 ∃(it:AD) (fp:List AD) (tn:vA) (J:It) (H':Hp),g=.ref it/\Inv X pins σ H' s2/\Turn X.prog X.w X.K tg J fp it tn/\tn 0 s2.heap/\(∀b∈fp,MI X pins H' b)/\R J H'
def PI(X:Cx)(tg iter:Expr)(g:TI):Prop :=
 ∀(pins:Cl) (s:SD) (σ:St) (H:Hp) (R:yO),Inv X pins σ H s->g σ H R ->
  wpAny By X.A (eval iter X.env) (fun v s1=>wpAny By X.A (pyIter v) (qk X pins σ tg R) X.xe s1) X.xe s
def ZM{M:Model}{A:OR}{E:tq}{s:SD}{tg:Expr}{it:AD}{u:VL}{o:Obj}{n:wN}{vs:xP}{Q:x8}(T:s.heap.get? it=some o)(U:o.cls=.type n)(hd:o.data=.fields vs) (hn:["enumerate","zip","dict_itemiterator","dict_reverseitemiterator","odict_iterator","itertools.zip_longest","itertools.pairwise"].contains n=false)(g:Q () s):wpAny M A (letOwnedTupleGo tg vJ u) Q E s:=by
 unfold letOwnedTupleGo;cases tg<;>first
  |exact aA g
  |(cases u<;>first
    |exact aA g
    |(refine Wb (wpAny_load T ?_)
      rw[U,hd];show wpAny M A (if(["enumerate","zip","dict_itemiterator","dict_reverseitemiterator","odict_iterator","itertools.zip_longest","itertools.pairwise"].contains n&&vs[0]? == some (rawInt _))=true then _ else _) Q E s;rw[if_neg (by intro h;rw[hn,Bool.false_and]at h;cases h)];exact aA g))
def YH(K:Fg)(a:AD):It :=
 ⟨fun i H=>∃xs x,Ar K H a xs/\xs[i]? = some x,fun i H x H'=>H'=H/\∀xs,Ar K H a xs->xs[i]? = some x,fun i H=>∃xs,Ar K H a xs/\xs.length<=i⟩
def Xm(K:Fg)(a:AD):It :=
 ⟨fun i H=>∃xs x,BJ K H a xs/\xs[i]? = some x,fun i H x H'=>H'=H/\∀xs,BJ K H a xs->xs[i]? = some x,fun i H=>∃xs,BJ K H a xs/\xs.length<=i⟩
def T9(lo:Int)(n:Nat):It:=⟨fun i _=>i<n,fun i H x H'=>H'=H/\x=.int (lo+i),fun i _=>n<=i⟩
def Zw{P:Go}{w:KB}{K:Fg}{tg:Expr}(a it:AD):Turn P w K tg (YH K a) [it] it (fun i h=>h.IsListIter it a i) where
 mem:=by simp
 obj:=fun i h st b hb=>by
  have e:b=it:=by simpa using hb
  subst e;obtain⟨o,e,c,d⟩:=st;exact⟨o,e,fun v z=>by rw[d]at z;cases z⟩
 keep:=fun i h h' st k=>st.at fun o e=>k it As o e
 item:=by
  intro X hP hw hK hc i pins s σ H E I hf st hg;subst hP hw hK;obtain⟨xs,x,hq,hx⟩:=hg;obtain⟨its,rv,p,hz⟩:=I.list hq;obtain⟨u,hu,ru⟩:=rv.get hx;obtain⟨f0,f1,f2,f3,f4,f5⟩:=hf it As;refine wpAny_pyNext_list_item st p.isList (x:=u) (by simpa using hu) fun h' st' sb=>?_;have I1:Inv X pins σ H Nz:=I.turned (t':=s.toks) (fun b o hb e=>(sb.2 b hb).trans e) f0 f1 f3 f4 f5;obtain⟨o,e,c,d⟩:=id st';exact⟨u,rfl,ZM (s:={s with heap:=h'}) e c d AT ⟨x,H,I1,ru,⟨rfl,fun ys hy=>by rw[I.V5 hy hq];exact hx⟩,st',fun b hb=>(hf b hb).1⟩⟩
 done:=by
  intro X hP hw hK hc i pins s σ H E I hf st hg;subst hP hw hK;obtain⟨xs,hq,hx⟩:=hg;obtain⟨its,rv,p,hz⟩:=I.list hq;obtain⟨f0,f1,f2,f3,f4,f5⟩:=hf it As;have hl:=rv.length;exact wpAny_pyNext_list_end SL st p.isList ii fun h' eb=>⟨rfl,I.turned (t':=s.toks) zBE f0 f1 f3 f4 f5⟩
 self:=fun _ _ _ _ _ st h=>wpAny_pyIter_listiter st h
def ZS{P:Go}{w:KB}{K:Fg}{tg:Expr}(a it:AD):Turn P w K tg (Xm K a) [it] it (fun i h=>h.IsTupleIter it a i) where
 mem:=by simp
 obj:=fun i h st b hb=>by
  have e:b=it:=by simpa using hb
  subst e;obtain⟨o,e,c,d⟩:=st;exact⟨o,e,fun v z=>by rw[d]at z;cases z⟩
 keep:=fun i h h' st k=>st.at fun o e=>k it As o e
 item:=by
  intro X hP hw hK hc i pins s σ H E I hf st hg;subst hP hw hK;obtain⟨xs,x,hq,hx⟩:=hg;obtain⟨its,rv,p,hz⟩:=I.tuple hq;obtain⟨u,hu,ru⟩:=rv.get hx;obtain⟨f0,f1,f2,f3,f4,f5⟩:=hf it As;refine wpAny_pyNext_tuple_item st (show s.heap.IsTuple a its.toArray from p) (x:=u) (by simpa using hu) fun h' st' sb=>?_;have I1:Inv X pins σ H Nz:=I.turned (t':=s.toks) (fun b o hb e=>(sb.2 b hb).trans e) f0 f1 f3 f4 f5;obtain⟨o,e,c,d⟩:=id st';exact⟨u,rfl,ZM (s:={s with heap:=h'}) e c d AT ⟨x,H,I1,ru,⟨rfl,fun ys hy=>by rw[I.UL hy hq];exact hx⟩,st',fun b hb=>(hf b hb).1⟩⟩
 done:=by
  intro X hP hw hK hc i pins s σ H E I hf st hg;subst hP hw hK;obtain⟨xs,hq,hx⟩:=hg;obtain⟨its,rv,p,hz⟩:=I.tuple hq;obtain⟨f0,f1,f2,f3,f4,f5⟩:=hf it As;have hl:=rv.length;exact wpAny_pyNext_tuple_end SL st (show s.heap.IsTuple a its.toArray from p) ii fun h' eb=>⟨rfl,I.turned (t':=s.toks) zBE f0 f1 f3 f4 f5⟩
 self:=fun _ _ _ _ _ st h=>wpAny_pyIter_tupleiter st h
def Y3{P:Go}{w:KB}{K:Fg}{tg:Expr}(it:AD)(lo:Int)(n:Nat):Turn P w K tg (T9 lo n) [it] it (fun i h=>IsRangeIter h it (lo+(i:Nat)*1) ((n:Int)-(i:Nat)) 1) where
 mem:=by simp
 obj:=fun i h st b hb=>by
  have e:b=it:=by simpa using hb
  subst e;exact⟨_,st,fun v z=>by
   have z':Data.fields _=Data.cell v:=z;cases z'⟩
 keep:=fun i h h' st k=>k it As _ st
 item:=by
  intro X hP hw hK hc i pins s σ H E I hf st hg;subst hP hw hK;obtain⟨f0,f1,f2,f3,f4,f5⟩:=hf it As;have W:=Walks.range (prog:=X.prog) (w:=X.w) SL it lo 1 n;refine W.item i s _ _ hg st fun v h' tk hv st' kk=>?_;obtain⟨t,rfl⟩:=hv;have I1:Inv X pins σ H Iv:=I.turned (fun b o hb e=>kk b o (by simpa using hb) e) f0 f1 f3 f4 f5;refine⟨_,rfl,ZM (s:={s with heap:=h',toks:=tk}) (n := "range_iterator") st' rfl rfl AT ⟨.int (lo+i),H,I1,⟨t,?_⟩,⟨rfl,rfl⟩,st',fun b hb=>(hf b hb).1⟩⟩;rw[Int.mul_one]
 done:=by
  intro X hP hw hK hc i pins s σ H E I hf st hg;subst hP hw hK;obtain⟨f0,f1,f2,f3,f4,f5⟩:=hf it As;exact wpAny_pyNext_range_end SL st (by have:n<=i:=hg;lia) fun h' eb=>⟨rfl,I.turned (t':=s.toks) zBE f0 f1 f3 f4 f5⟩
 self:=fun _ _ _ _ _ st h=>wpAny_pyIter_rangeiter st h
section
variable{X:Cx}{tg:Expr}
def p5(K:Fg)(T:TE):TI:=fun σ H R=>T σ H fun x g=>∃a,x=.ref a/\(∃xs,Ar K g a xs)/\R (YH K a) g
def rF(K:Fg)(T:TE):TI:=fun σ H R=>T σ H fun x g=>∃a,x=.ref a/\(∃xs,BJ K g a xs)/\R (Xm K a) g
def EZ{l:Expr}{T:TE}(hl:PE X l T):PI X tg l (p5 X.K T):=by
 intro pins s σ H R I h;refine BV (hl pins s σ H _ I h) fun v s1 ⟨x,H1,g,U,Y⟩=>?_;obtain⟨a,e,⟨xs,hq⟩,q⟩:=Y;subst e;cases U;obtain⟨Z,rv,p,hz⟩:=g.list hq;refine wpAny_pyIter_list p.isList ?_;refine⟨s1.heap.objs.size,[s1.heap.objs.size],_,_,H1,rfl,g.kept (t':=s1.toks) fun b o e=>aE _ e,Zw a _,⟨_,Heap.get?_push_size _ rfl,rfl,rfl⟩,fun b hb=>?_,q⟩;have e:b=s1.heap.objs.size:=by simpa using hb
 subst e;exact g.Qh UF (g.Aw.fresh UF)
def VD{l:Expr}{U:TE}(hl:PE X l U):PI X tg l (rF X.K U):=by
 intro pins s σ H R I h;refine BV (hl pins s σ H _ I h) fun v s1 ⟨x,H1,g,Y,Z⟩=>?_;obtain⟨a,e,⟨xs,hq⟩,q⟩:=Z;subst e;cases Y;obtain⟨T,rv,p,hz⟩:=g.tuple hq;refine wpAny_pyIter_tuple (show s1.heap.IsTuple a T.toArray from p) ?_;refine⟨s1.heap.objs.size,[s1.heap.objs.size],_,_,H1,rfl,g.kept (t':=s1.toks) fun b o e=>aE _ e,ZS a _,⟨_,Heap.get?_push_size _ rfl,rfl,rfl⟩,fun b hb=>?_,q⟩;have e:b=s1.heap.objs.size:=by simpa using hb
 subst e;exact g.Qh UF (g.Aw.fresh UF)
def Vo{pins:Cl}{σ:St}{H:Hp}{s:SD}{R:yO}{E:tq}{lo hi:Int}{t u v:Tok}{tk:Nat}(I:BY)(Z:-(2^62)<=lo)(Y:lo<2^62)(U:-(2^62)<=hi)(T:hi<2^62) (q:R (T9 lo (hi-lo).toNat) H):wpAny By X.A (pyIter Do) (qk X pins σ tg R) E vo:=by
 refine wpAny_pyIter_range (IsRange.new ..) (small_one Z Y U T) ?_;have g:Inv X pins σ H vo:=I.kept fun b o e=>aE _ e;refine⟨(s.heap.push { cls:=.type "range",data:=.fields #[.int lo t,.int hi u,.int 1 v]}).objs.size,[(s.heap.push { cls:=.type "range",data:=.fields #[.int lo t,.int hi u,.int 1 v]}).objs.size],_,_,H,rfl,
  g.kept (t':=tk) fun b o e=>aE _ e,Y3 _ lo (hi-lo).toNat,?_,fun b hb=>?_,q⟩
 .have e1:lo+((0:Nat):Int)*1=lo:=by simp
  have e2:(((hi-lo).toNat:Nat):Int)-((0:Nat):Int)=Builtin.Range.rangeSize lo hi 1:=by rw[rangeSize_one];split<;>lia
  show IsRangeIter _ _ (lo+((0:Nat):Int)*1) ((((hi-lo).toNat:Nat):Int)-((0:Nat):Int)) 1;rw[e1,e2];exact aK _ rfl
 .have e:b=(s.heap.push { cls:=.type "range",data:=.fields #[.int lo t,.int hi u,.int 1 v]}).objs.size:=by simpa using hb
  subst e;exact g.Qh UF (g.Aw.fresh UF)
def p9(g:TA):TI:=fun σ H R=>g σ H fun vs T=>∃j:Int,vs=[.int j]/\-(2^62)<=j/\j<2^62/\R (T9 0 j.toNat) T
def om(g:TA):TI:=fun σ H R=>g σ H fun vs T=>∃i j:Int,vs=[.int i,.int j]/\(-(2^62)<=i/\i<2^62/\-(2^62)<=j/\j<2^62)/\R (T9 i (j-i).toNat) T
def Jt{a:Expr}{T:TA}{p pos:Pos}(hg:Gl X "range")(hm:zBR)(ha:PA X [a] T)(hs:starEach [a] X.env=[Op]:=by rfl):PI X tg (.Call (.Name "range" p) [a] [] pos) (p9 T):=by
 intro pins s σ H R I h;refine Call_ (GQ I hg hm boot_range (aj (BV TD fun us s1 ⟨vs,H1,I1,Y,g⟩=>?_) hs rfl));obtain⟨j,e,g,Z,q⟩:=g;subst e;cases Y with
 |cons r U=>
  cases U;obtain⟨t,rfl⟩:=r;exact call_range_1 (Vo I1 AC AC g Z (by simpa using q))
def cy{a b:Expr}{Y:TA}{p pos:Pos}(hg:Gl X "range")(hm:zBR)(ha:PA X [a,b] Y)(hs:starEach [a,b] X.env=[Op,No]:=by rfl)(g:starEach [b] X.env=[No]:=by rfl):PI X tg (.Call (.Name "range" p) [a,b] [] pos) (om Y):=by
 intro pins s σ H R I h;refine Call_ (GQ I hg hm boot_range (aj (BV TD fun us s1 ⟨vs,H1,I1,Z,U⟩=>?_) (by rw[hs,g]) (by rw[g];rfl)));obtain⟨i,j,e,⟨U,q2,q3,q4⟩,q⟩:=U;subst e;cases Z with
 |cons r T=>
  cases T with
  |cons r' T=>
   cases T;obtain⟨t,rfl⟩:=r;obtain⟨t',rfl⟩:=r';exact call_range_2 (Vo I1 U q2 q3 q4 q)
def sP(Z:TI)(g:TG)(tb:TS):TS:=fun D σ H=>Z σ H fun J H1=>∃W:Nat->Nat->St->Hp->Prop,(∃m,W 0 m σ H1)/\∀i m σ H,W i m σ H ->
 (J.stop i H/\D.nx σ H)\/(J.go i H/\∃N:St->Hp->Prop,(∀T H',N T H'->∃Y,Y<m/\W On Y T H')/\∀x H',J.Ft i H x H'->g x σ H' fun U H2=>tb uZ U H2)
def OE(fp:uK)(h:Heap):List (AD×Obj):=fp.filterMap fun b=>(h.get? b).map fun o=>(b,o)
def Kh{fp:uK}{h:Heap}{b:AD}{o:Obj}(hb:b∈fp)(e:h.get? b=some o):(b,o)∈OE fp h:=List.mem_filterMap.mpr ⟨b,hb,by rw[e];rfl⟩
def cE{fp:uK}{h:Heap}{p:AD×Obj}(g:p∈OE fp h):p.1∈fp/\h.get? p.1=some p.2:=by
 obtain⟨b,hb,e⟩:=List.mem_filterMap.mp g;cases q:h.get? b with
 |none=>rw[q]at e;cases e
 |some o=>
  rw[q]at e;have T:(b,o)=p:=aw e;subst T;exact⟨hb,q⟩
def Inv.pinned{pins:Cl}{σ:St}{H:Hp}{s:SD}{fp:uK}(I:BY)(Y:∀b∈fp,MI X pins H b)(U:∀b∈fp,∃o,s.heap.get? b=some o/\∀v,o.data≠.cell v):Inv X (pins++OE fp s.heap) σ H s :=
 I.X7 fun p T=>(bG.mp T).elim (fun z=>I.pin p (aZ _ z)) fun z=>by
  obtain⟨hb,e⟩:=cE z;obtain⟨Z,f1,f2,_⟩:=Y p.1 hb;obtain⟨o,g,d⟩:=U p.1 hb;rw[e]at g;cases g;exact⟨e,Z,f1,f2,d⟩
def Inv.NV{pins g:Cl}{σ:St}{H:Hp}{s:SD}(I:Inv X (pins++g) σ H s):Inv X pins σ H s:=I.X7 fun p T=>I.pin p (aZ _ (bc _ T))
def Hr{iter:Expr}{body:uL}{wi:TI}{g:TG}{tb:TS}{pos:Pos}(hp:zDO)(hc:jj)(hi:PI X tg iter wi)(hg:PG X tg g)(hb:IW X body tb) (hs:∀x,foldedSetIterable iter X.env x=pure x:=by intro _;rfl):PS X (.For tg iter body [] pos) (sP wi g tb):=by
 intro pins s σ H D I h;refine wpAny_For (BV (hi pins s σ H _ I h) fun v s1 h1=>BV h1 fun itv s2 h2=>?_) hs;obtain⟨it,fp,tn,J,H2,e,I2,T,st2,f2,W,⟨m0,w0⟩,turn⟩:=h2;subst e;have stat:∀ {H':Hp},xQ->∀b∈fp,MI X pins H' b:=fun hn b hb=>⟨hn b hb,(f2 b hb).2⟩;refine codeAny_forLoop_any (fun n s'=>∃i Z H',Inv X pins Z H' s'/\tn i s'.heap/\xQ/\W i n Z H') ?_ m0 ⟨0,σ,H2,I2,st2,fun b hb=>(f2 b hb).1,w0⟩;rintro n s3 ⟨i,Y,H3,I3,st3,fr3,w3⟩;rcases turn i n Y H3 w3 with ⟨stop,qn⟩|⟨go,N,hN,step⟩
 .refine wpAny_passesOwn hp (BV (T.done X rfl rfl rfl hc i pins s3 Y H3 X.xe I3 (stat fr3) st3 stop) fun r s4 ⟨hr,I4⟩=>?_);subst hr;exact wpAny_execs_nil ⟨Y,H3,I4,qn⟩
 .refine wpAny_passesOwn hp (BV (T.item X rfl rfl rfl hc i pins s3 Y H3 X.xe I3 (stat fr3) st3 go) fun r s4 ⟨u,hr,h4⟩=>?_);subst hr;refine wpAny_passesOwn hp (BV h4 fun _ s5 ⟨x,H5,I5,r5,y5,st5,fr5⟩=>?_);have I5':=I5.pinned (stat fr5) (T.obj _ _ st5);refine wpAny_passesOwn hp (BV (hg _ s5 Y H5 x u _ I5' r5 (step x H5 y5)) fun _ s6 ⟨σ6,H6,I6,q6⟩=>?_);refine wpAny_passesOwn hp (BV (hb _ s6 σ6 H6 _ I6 q6) fun f s7 q7=>?_);have again:∀ {U:St} {H7:Hp},Inv X (pins++OE fp s5.heap) U H7 s7->N U H7->∃m,m<n/\∃i Z H',Inv X pins Z H' s7/\tn i s7.heap/\xQ/\W i m Z H':=fun {U H7} I7 n7=>by
   obtain⟨m',hm,w7⟩:=hN U H7 n7;refine⟨m',hm,i+1,U,H7,I7.NV,T.keep _ _ _ st5 fun b hb o e=>(I7.pin (b,o) yr).1,fun b hb=>?_,w7⟩;obtain⟨o,e,d⟩:=T.obj _ _ st5 b hb;exact(I7.pin (b,o) yr).2.1
  cases f with
  |next=>obtain⟨U,H7,I7,n7⟩:=q7;exact again I7 n7
  |cont=>obtain⟨U,H7,I7,n7⟩:=q7;exact again I7 n7
  |brk=>obtain⟨U,H7,I7,q7⟩:=q7;exact⟨U,H7,I7.NV,q7⟩
  |ret v=>obtain⟨x7,U,H7,I7,r7,q7⟩:=q7;exact⟨x7,U,H7,I7.NV,r7,q7⟩
end
def LY{K:Fg}{a:AD}{xs:uI}{g:TG}{tb:TS}{D:Ends}{σ:St}{H:Hp}(Pv:Nat->St->Hp->Prop)(h0:Pv 0 σ H)(hl:∀i σ H,i<=xs.length->Pv i σ H->Ar K H a xs) (hs:zEA)(hd:yU):∃W:Nat->Nat->St->Hp->Prop,(∃m,W 0 m σ H)/\∀i m σ H,W i m σ H ->((YH K a).stop i H/\D.nx σ H)\/((YH K a).go i H/\∃N:St->Hp->Prop,zCe/\∀x H',(YH K a).Ft i H x H'->g x σ H' fun T Z=>tb uZ T Z):=by
 refine⟨fun i m σ H=>m=xs.length-i/\i<=xs.length/\Pv i σ H,⟨xs.length,by simp,Nat.zero_le _,h0⟩,?_⟩;rintro i m σ H ⟨rfl,hi,p⟩;have q:=hl i σ H hi p;by_cases Y:i<xs.length
 .refine .inr ⟨⟨xs,xs[i],q,by simp[Y]⟩,Pv On,fun U H' p'=>⟨xs.length-On,by lia,rfl,Y,p'⟩,fun x H' y=>?_⟩;obtain⟨e,y⟩:=y;subst e;exact hs i x σ _ (y xs q) p
 .have e:i=xs.length:=by lia
  subst e;exact .inl ⟨⟨xs,q,Nat.le_refl _⟩,hd σ H p⟩
def iZ{K:Fg}{a:AD}{xs:uI}{g:TG}{tb:TS}{D:Ends}{σ:St}{H:Hp}(Pv:Nat->St->Hp->Prop)(h0:Pv 0 σ H)(hl:∀i σ H,i<=xs.length->Pv i σ H->BJ K H a xs) (hs:zEA)(hd:yU):∃W:Nat->Nat->St->Hp->Prop,(∃m,W 0 m σ H)/\∀i m σ H,W i m σ H ->((Xm K a).stop i H/\D.nx σ H)\/((Xm K a).go i H/\∃N:St->Hp->Prop,zCe/\∀x H',(Xm K a).Ft i H x H'->g x σ H' fun T Z=>tb uZ T Z):=by
 refine⟨fun i m σ H=>m=xs.length-i/\i<=xs.length/\Pv i σ H,⟨xs.length,by simp,Nat.zero_le _,h0⟩,?_⟩;rintro i m σ H ⟨rfl,hi,p⟩;have q:=hl i σ H hi p;by_cases Y:i<xs.length
 .refine .inr ⟨⟨xs,xs[i],q,by simp[Y]⟩,Pv On,fun U H' p'=>⟨xs.length-On,by lia,rfl,Y,p'⟩,fun x H' y=>?_⟩;obtain⟨e,y⟩:=y;subst e;exact hs i x σ _ (y xs q) p
 .have e:i=xs.length:=by lia
  subst e;exact .inl ⟨⟨xs,q,Nat.le_refl _⟩,hd σ H p⟩
def UA{lo:Int}{n:Nat}{g:TG}{tb:TS}{D:Ends}{σ:St}{H:Hp}(Pv:Nat->St->Hp->Prop)(h0:Pv 0 σ H) (hs:∀i σ H,i<n->Pv i σ H->g (.int (lo+i)) σ H fun T Z=>tb zCq T Z)(hd:∀σ H,Pv n σ H->D.nx σ H):∃W:Nat->Nat->St->Hp->Prop,(∃m,W 0 m σ H)/\∀i m σ H,W i m σ H ->((T9 lo n).stop i H/\D.nx σ H)\/((T9 lo n).go i H/\∃N:St->Hp->Prop,zCe/\∀x H',(T9 lo n).Ft i H x H'->g x σ H' fun T Z=>tb uZ T Z):=by
 refine⟨fun i m σ H=>m=n-i/\i<=n/\Pv i σ H,⟨n,by simp,Nat.zero_le _,h0⟩,?_⟩;rintro i m σ H ⟨rfl,hi,p⟩;by_cases Y:i<n
 .refine .inr ⟨Y,Pv On,fun U H' p'=>⟨n-On,by lia,rfl,Y,p'⟩,fun x H' y=>?_⟩;obtain⟨e,y⟩:=y;subst e y;exact hs i σ _ Y p
 .have e:i=n:=by lia
  subst e;exact .inl ⟨aH _,hd σ H p⟩
def QK{c:TT}{Y:TS}{D:Ends}{σ:St}{H:Hp}(Pv:St->Hp->Prop)(U:St->Hp->Nat)(h0:Pv σ H) (hs:∀σ H,Pv σ H->c σ H fun b T=>if b=true then Y {D with nx:=fun g H'=>Pv g H'/\U g H'<U σ H,ct:=fun g H'=>Pv g H'/\U g H'<U σ H,bk:=D.nx} σ T else D.nx σ T) (mono:∀σ H Q Z,(∀b T,Q b T->Z b T)->c σ H Q->c σ H Z):Z5 c Y D σ H:=by
 refine⟨fun m σ H=>m=U σ H/\Pv σ H,⟨_,rfl,h0⟩,?_⟩;rintro m σ H ⟨rfl,p⟩;refine mono σ H _ _ (fun b T q=>?_) (hs σ H p);cases b with
 |true=>exact⟨_,fun g H' ⟨p',l⟩=>⟨_,l,rfl,p'⟩,q⟩
 |false=>exact q
abbrev R2:=V->V->Hp->VK->Prop
def DJ(X:Cx)(f:u4)(r:R2):Prop :=
 ∀(pins:Cl) (s:SD) (σ:St) (H:Hp) (x y:V) (v u:VL) (Q:VK),Inv X pins σ H s->RelV x v->RelV y u->r x y H Q ->
  wpAny By X.A (f v u) ge X.xe s
def km(X:Cx)(f:VL->Sem VL)(r:V->Hp->VK->Prop):Prop :=
 ∀(pins:Cl) (s:SD) (σ:St) (H:Hp) (x:V) (v:VL) (Q:VK),Inv X pins σ H s->RelV x v->r x H Q ->
  wpAny By X.A (f v) ge X.xe s
def FV(X:Cx)(f:VL)(r:zAk):Prop :=
 ∀(pins:Cl) (s:SD) (σ:St) (H:Hp) (xs:ON) (us:ST) (Q:VK),Inv X pins σ H s->Vals xs us->r xs H Q ->
  wpAny By X.A (call f us) ge X.xe s
def cS(r:R2)(T g:TE):TE:=fun σ H Q=>T σ H fun x Y=>g σ Y fun y U=>r x y U Q
def tL(r:V->Hp->VK->Prop)(g:TE):TE:=fun σ H Q=>g σ H fun x T=>r x T Q
def rI(C:Int->Int->Prop)(g:Int->Int->V):R2:=fun x y H Q=>∃i j,x=.int i/\y=.int j/\C i j/\Q (g i j) H
def UG(g:Int->Int->V):R2:=fun x y H Q=>∃i j,x=.int i/\y=.int j/\Q (g i j) H
def rU(g:Int->V):V->Hp->VK->Prop:=fun x H Q=>∃i,x=.int i/\Q (g i) H
section
variable{X:Cx}{a b:Expr}{ta tb:TE}{pos:Pos}
def eW(ha:PE X a ta)(hb:PE X b tb){pins:Cl}{s:SD}{σ:St}{H:Hp}{R:V->V->Hp->Prop}(I:BY) (h:ta σ H fun x Y=>tb σ Y fun y g=>R x y g){Q:tq}{f:u4} (hf:∀v u s2 x y g,Inv X pins σ g s2->RelV x v->RelV y u->R x y g->wpAny By X.A (f v u) Q X.xe s2):wpAny By X.A (eval a X.env) (fun v U=>wpAny By X.A (eval b X.env) (fun u T=>wpAny By X.A (f v u) Q X.xe T) X.xe U) X.xe s:=by
 refine BV uv fun v s1 ⟨x,Y,I1,r1,q1⟩=>?_;refine BV (hb pins s1 σ Y _ I1 q1) fun u s2 ⟨y,g,I2,Z,q2⟩=>?_;exact hf v u s2 x y g I2 r1 Z q2
def A2{op:Operator}{r:R2}(U:DJ X (binaryOp op) r)(ha:PE X a ta)(hb:PE X b tb):PE X (.BinOp a op b pos) (cS r ta tb):=by
 intro pins s σ H Q I h;exact wpAny_BinOp xz
def Yy{op:UnaryOp}{r:V->Hp->VK->Prop}(U:km X (unaryOp op) r)(ha:PE X a ta):PE X (.UnaryOp op a pos) (tL r ta):=by
 intro pins s σ H Q I h;exact UnaryOp_ (BV uv fun v s1 ⟨x,Z,Y,g,T⟩=>U pins s1 σ Z x v Q Y g T)
def Xq{f:u4}{C:Int->Int->Prop}{g:Int->Int->Int} (rule:∀(i j:Int) (t u:Tok) (s:SD) (Q:tq) (E:tq),C i j->Q (.int (g i j) s.toks) {s with toks:=s.toks+1}->wpAny By X.A zBr Q E s):DJ X f (rI C fun i j=>.int (g i j)):=by
 intro pins s σ H x y v u Q I Y U h;obtain⟨i,j,rfl,rfl,Z,q⟩:=h;obtain⟨t,rfl⟩:=Y;obtain⟨T,rfl⟩:=U;exact rule i j t T s _ _ Z ⟨.int (g i j),H,I.tok _,⟨_,rfl⟩,q⟩
def kF{f:u4}{g:Int->Int->Int} (rule:∀(i j:Int) (t u:Tok) (s:SD) (Q:tq) (E:tq),Q (.int (g i j) s.toks) {s with toks:=s.toks+1}->wpAny By X.A zBr Q E s):DJ X f (UG fun i j=>.int (g i j)):=by
 intro pins s σ H x y v u Q I Y U h;obtain⟨i,j,rfl,rfl,q⟩:=h;obtain⟨t,rfl⟩:=Y;obtain⟨T,rfl⟩:=U;exact rule i j t T s _ _ ⟨.int (g i j),H,I.tok _,⟨_,rfl⟩,q⟩
def eg{f:u4}{g:Int->Int->Bool} (rule:∀(i j:Int) (t u:Tok) (s:SD) (Q:tq) (E:tq),Q (.bool (g i j)) s->wpAny By X.A zBr Q E s):DJ X f (UG fun i j=>.bl (g i j)):=by
 intro pins s σ H x y v u Q I Y U h;obtain⟨i,j,rfl,rfl,q⟩:=h;obtain⟨t,rfl⟩:=Y;obtain⟨T,rfl⟩:=U;exact rule i j t T s _ _ ⟨.bl (g i j),H,I,rfl,q⟩
def qw(i j:Int):Prop:=0<j/\j<1073741824
def rD(i j:Int):Prop:=0<=j/\j<=1000000/\i.natAbs<2^64
def QQ(i j:Int):Prop:=(-(2^64)<i/\i<2^64)\/(-(2^64)<j/\j<2^64)
def QQ.ok{i j:Int}(h:QQ i j):IntMulOk i j:=by
 rcases h with ⟨T,g⟩|⟨T,g⟩
 .exact .of_left (intBits_le_64 T g)
 .exact .of_right (intBits_le_64 T g)
def Fu:DJ X vd (UG fun i j=>.int (i+j)):=kF fun _ _ _ _ _ _ _ q=>add_int q
def RF:DJ X (binaryOp .Sub) (UG fun i j=>.int (i-j)):=kF fun _ _ _ _ _ _ _ q=>sub_int q
def jB:DJ X (binaryOp .FloorDiv) (rI qw fun i j=>.int (i / j)):=Xq fun i j _ _ _ _ _ g q=>by
 have U:(0:Int)<j:=g.1;have T:j<1073741824:=g.2;exact floordiv_int AC (by rw[Int.fdiv_eq_ediv_of_nonneg i AC];exact q) (.inl (PyProof.noPylong_small AC))
def Og:DJ X (binaryOp .Mod) (rI (fun _ j=>0<j) fun i j=>.int (i % j)):=Xq fun i j _ _ _ _ _ g q=>by
 have T:(0:Int)<j:=g;exact mod_int' AC (by rw[Int.fmod_eq_emod_of_nonneg i AC];exact q)
def Mi:DJ X (binaryOp .Mod) (rI (fun _ j=>j≠0) fun i j=>.int (i.fmod j)):=Xq fun _ _ _ _ _ _ _ g q=>mod_int' g q
def RU:DJ X (binaryOp .Pow) (rI rD fun i j=>.int (i^j.toNat)):=Xq fun _ _ _ _ _ _ _ g q=>pow_int_small g.1 g.2.1 g.2.2 q
def so{f:VL->Sem VL}{g:Int->Int} (rule:∀(i:Int) (t:Tok) (s:SD) (Q:tq) (E:tq),Q (.int (g i) s.toks) {s with toks:=s.toks+1}->wpAny By X.A (f (.int i t)) Q E s):km X f (rU fun i=>.int (g i)):=by
 intro pins s σ H x v Q I T h;obtain⟨i,rfl,q⟩:=h;obtain⟨t,rfl⟩:=T;exact rule i t s _ _ ⟨.int (g i),H,I.tok _,⟨_,rfl⟩,q⟩
def WM:km X (unaryOp .USub) (rU fun i=>.int (-i)):=so fun _ _ _ _ _ q=>neg_int q
end
def mM:V->V->Bool
 |.Bq,.Bq=>true|.Bq,.int _=>true|.int _,.Bq=>true|.Bq,.bl _=>true|.bl _,.Bq=>true|.Bq,.str _=>true|.str _,.Bq=>true
 |.int _,.int _=>true|.bl _,.bl _=>true|.str _,.str _=>true|.OW _,.OW _=>true
 |.int _,.str _=>true|.str _,.int _=>true|.bl _,.str _=>true|.str _,.bl _=>true
 |_,_=>false
def tV:R2:=fun x y H Q=>mM x y=true/\Q (.bl (decide (x=y))) H
def tK:R2:=fun x y H Q=>mM x y=true/\Q (.bl (!decide (x=y))) H
def X9{i j:Int}:decide (V.int i=V.int j)=(i==j):=by
 rw[Bool.eq_iff_iff];simp
def da{i j:Bool}:decide (V.bl i=V.bl j)=(i==j):=by
 rw[Bool.eq_iff_iff];simp
def Xi{i j:Str}:decide (V.str i=V.str j)=(i==j):=by
 rw[Bool.eq_iff_iff];simp
def X0{i j:Array UInt8}:decide (V.OW i=V.OW j)=(i.toList==j.toList):=by
 rw[Bool.eq_iff_iff];cases i;cases j;simp
section
variable{X:Cx}{a b c:Expr}{ta tb:TE}{pos:Pos}
def Bd{pins:Cl}{σ:St}{H:Hp}{s:SD}{Q:VK}{k g:Bool}(I:BY)(q:Q (.bl k) H)(e:k=g):EP X pins σ Q (.bool g) s:=by
 subst e;exact⟨.bl k,H,I,rfl,q⟩
def Ur:DJ X (compareOp .Eq) tV:=by
 intro pins s σ H x y v u Q I Y g h;obtain⟨U,q⟩:=h;cases x with
 |Bq=>
  cases Y;cases y with
  |Bq=>cases g;exact PySem.EqNone.eq_none_none zCV
  |bl j=>cases g;exact PySem.EqNone.eq_none_bool zCV
  |int j=>obtain⟨T,rfl⟩:=g;exact PySem.EqNone.eq_none_int zCV
  |str j=>obtain⟨T,rfl⟩:=g;exact PySem.EqNone.eq_none_str zCV
  |_=>exact absurd (show false=true from U) aM
 |bl i=>
  cases Y;cases y with
  |Bq=>cases g;exact PySem.EqNone.eq_bool_none zCV
  |bl j=>cases g;exact eq_bool (Bd I q da)
  |str j=>obtain⟨T,rfl⟩:=g;exact PySem.EqMixed.eq_bool_str zCV
  |_=>exact absurd (show false=true from U) aM
 |int i=>
  obtain⟨t,rfl⟩:=Y;cases y with
  |Bq=>cases g;exact PySem.EqNone.eq_int_none zCV
  |int j=>obtain⟨T,rfl⟩:=g;exact eq_int (Bd I q X9)
  |str j=>obtain⟨T,rfl⟩:=g;exact PySem.EqMixed.eq_int_str zCV
  |_=>exact absurd (show false=true from U) aM
 |str i=>
  obtain⟨t,rfl⟩:=Y;cases y with
  |Bq=>cases g;exact PySem.EqNone.eq_str_none zCV
  |bl j=>cases g;exact PySem.EqMixed.eq_str_bool zCV
  |int j=>obtain⟨T,rfl⟩:=g;exact PySem.EqMixed.eq_str_int zCV
  |str j=>obtain⟨T,rfl⟩:=g;exact eq_str (Bd I q Xi)
  |_=>exact absurd (show false=true from U) aM
 |OW i=>
  obtain⟨t,rfl⟩:=Y;cases y with
  |OW j=>obtain⟨T,rfl⟩:=g;exact PySem.W.eq_bytes (Bd I q X0)
  |_=>exact absurd (show false=true from U) aM
 |_=>cases y<;>exact absurd (show false=true from U) aM
def RB:DJ X (compareOp .NotEq) tK:=by
 intro pins s σ H x y v u Q I Y g h;obtain⟨U,q⟩:=h;cases x with
 |Bq=>
  cases Y;cases y with
  |Bq=>cases g;exact PySem.EqNone.ne_none_none zCV
  |bl j=>cases g;exact PySem.EqNone.ne_none_bool zCV
  |int j=>obtain⟨T,rfl⟩:=g;exact PySem.EqNone.ne_none_int zCV
  |str j=>obtain⟨T,rfl⟩:=g;exact PySem.EqNone.ne_none_str zCV
  |_=>exact absurd (show false=true from U) aM
 |bl i=>
  cases Y;cases y with
  |Bq=>cases g;exact PySem.EqNone.ne_bool_none zCV
  |bl j=>cases g;exact ne_bool (Bd I q (bO not da))
  |str j=>obtain⟨T,rfl⟩:=g;exact PySem.EqMixed.ne_bool_str zCV
  |_=>exact absurd (show false=true from U) aM
 |int i=>
  obtain⟨t,rfl⟩:=Y;cases y with
  |Bq=>cases g;exact PySem.EqNone.ne_int_none zCV
  |int j=>obtain⟨T,rfl⟩:=g;exact ne_int (Bd I q (bO not X9))
  |str j=>obtain⟨T,rfl⟩:=g;exact PySem.EqMixed.ne_int_str zCV
  |_=>exact absurd (show false=true from U) aM
 |str i=>
  obtain⟨t,rfl⟩:=Y;cases y with
  |Bq=>cases g;exact PySem.EqNone.ne_str_none zCV
  |bl j=>cases g;exact PySem.EqMixed.ne_str_bool zCV
  |int j=>obtain⟨T,rfl⟩:=g;exact PySem.EqMixed.ne_str_int zCV
  |str j=>obtain⟨T,rfl⟩:=g;exact ne_str (Bd I q (bO not Xi))
  |_=>exact absurd (show false=true from U) aM
 |OW i=>
  obtain⟨t,rfl⟩:=Y;cases y with
  |OW j=>obtain⟨T,rfl⟩:=g;exact PySem.W.ne_bytes (Bd I q (bO not X0))
  |_=>exact absurd (show false=true from U) aM
 |_=>cases y<;>exact absurd (show false=true from U) aM
def SE:DJ X (compareOp .Lt) (UG fun i j=>.bl (decide (i<j))):=eg fun _ _ _ _ _ _ _ q=>lt_int q
def Uu:DJ X (compareOp .Gt) (UG fun i j=>.bl (decide (j<i))):=eg fun _ _ _ _ _ _ _ q=>gt_int q
def Y4:DJ X (compareOp .GtE) (UG fun i j=>.bl (decide (j<=i))):=eg fun _ _ _ _ _ _ _ q=>ge_int q
def mJ:DJ X (compareOp .Is) (fun x y H Q=>y=.Bq/\Q (.bl (decide (x=.Bq))) H):=by
 intro pins s σ H x y v u Q I g T h;obtain⟨rfl,q⟩:=h;cases T;refine is_none_gen (Bd I q ?_);cases x<;>first
  |(cases g;rfl)
  |(obtain⟨t,rfl⟩:=g;rfl)
def jN:DJ X zBY (fun x y H Q=>y=.Bq/\Q (.bl (!decide (x=.Bq))) H):=by
 intro pins s σ H x y v u Q I g T h;obtain⟨rfl,q⟩:=h;cases T;refine isnot_none_gen (Bd I q ?_);cases x<;>first
  |(cases g;rfl)
  |(obtain⟨t,rfl⟩:=g;rfl)
def DJ.or{f:u4}{r U:R2}(h:DJ X f r)(h':DJ X f U):DJ X f (fun x y H Q=>r x y H Q\/U x y H Q):=by
 intro pins s σ H x y v u Q I T g q;rcases q with q|q
 .exact h pins s σ H x y v u Q I T g q
 .exact h' pins s σ H x y v u Q I T g q
def Ay(b:Expr){op:CmpOp}(h:op≠.In:=by decide)(g:op≠.NotIn:=by decide):behindInMarks op b=false:=by
 have U:(op==CmpOp.In)=false:=by cases op<;>first|rfl|exact absurd rfl h
 have T:(op==CmpOp.NotIn)=false:=by cases op<;>first|rfl|exact absurd rfl g
 cases b<;>simp[behindInMarks,U,T]
def O2{op:CmpOp}{r:R2}(U:DJ X (compareOp op) r)(ha:PE X a ta)(hb:PE X b tb)(hm:yg):PE X yI (cS r ta tb):=by
 intro pins s σ H Q I h;exact wpAny_Compare1 xz hm
def qK(t:TE):TT:=fun σ H Q=>t σ H fun x H'=>∃k,x=.bl k/\Q k H'
def Cw{op:CmpOp}{r:R2}(ho:DJ X (compareOp op) r)(ha:PE X a ta)(hb:PE X b tb)(hm:yg):PT X yI (qK (cS r ta tb)):=by
 intro pins s σ H Q I h;refine wpAny_isTrue_Compare1 (BV uv fun v s1 ⟨x,H1,I1,U,q1⟩=>BV (hb pins s1 σ H1 _ I1 q1) fun u s2 ⟨y,H2,I2,T,Z⟩=>
  BV (ho pins s2 σ H2 x y v u _ I2 U T Z) fun c s3 ⟨z,H3,I3,g,k,e,Y⟩=>?_) hm
 subst e;cases g;exact wpAny_truthy_bool ⟨H3,I3,Y⟩
def OO:(sizeLine:Nat)<2^63:=by rw[sizeLine_eq];decide
def Yx:DJ X vd (fun x y H Q=>∃i j,x=.str i/\y=.str j/\i.length+j.length<=sizeLine/\Q (.str (i++j)) H):=by
 intro pins s σ H x y v u Q I U T h;obtain⟨i,j,rfl,rfl,Y,q⟩:=h;obtain⟨t,rfl⟩:=U;obtain⟨g,rfl⟩:=T;exact add_str (fun g tk=>⟨.str (i++j),H,I.tok _,⟨_,rfl⟩,q⟩) Y
def vals1{x:V}{us:tm}(r:Vals [x] us):∃u,us=[u]/\RelV x u:=by
 cases r with
 |cons T g=>cases g;exact⟨_,rfl,T⟩
def QJ:FV X (.builtin "abs") (fun xs H Q=>∃i,xs=[.int i]/\Q (.int (if i<0 then -i else i)) H):=by
 intro pins s σ H xs us Q I r h;obtain⟨i,rfl,q⟩:=h;obtain⟨u,rfl,t,rfl⟩:=vals1 r;exact call_abs_int fun u tk=>⟨.int (if i<0 then -i else i),H,I.tok _,⟨_,rfl⟩,q⟩
end
structure fH(h:Heap)(x dx C:Addr)(mA:xl):Prop where
 obj:h.get? x=some (PySem.W.instObj C dx)
 ns:h.Ns1 dx mA
 ne:dx≠x
def dD{h:Heap}{dx:AD}{mA:t7}(n:h.Ns1 dx mA):∃od,h.get? dx=some od/\∀name,PySem.W.lookIn name od=some (mA name):=by
 obtain⟨o,es,ep,U,hd,hk,_,hm⟩:=n;refine⟨o,U,fun name=>?_⟩;have e:=hm name;unfold nsFind findBy at e;rw[<-Array.find?_toList]at e;unfold PySem.W.lookIn;rw[hd];dsimp only;split
 .rename_i y q;rw[q]at e;exact bO some e
 .rename_i q;rw[q]at e;have a:es.toList.any (·.refKey)=false:=by
   rw[List.any_eq_false];intro y T;obtain⟨z,t,g⟩:=hk y (Array.mem_toList_iff.mp T);simp[DictEntry.refKey,g]
  have Y:¬es.toList.any (·.refKey)=true:=by rw[a];exact aM
  rw[if_neg Y];exact bO some e
def fH.look{h:Heap}{x dx C:AD}{mA:t7}(I:fH h x dx C mA):∃od,PySem.W.InstAt h x (PySem.W.instObj C dx) C (some od)/\∀name,PySem.W.lookIn name od=some (mA name) :=
 let⟨od,g,T⟩:=dD I.ns
 ⟨od,⟨I.obj,rfl,rfl,g⟩,T⟩
section
variable{P:Go}{w:KB}{H:Hp}{h:Heap}{a C dx:AD}{fs:List (Str×V)}
def iP(Aw:Et P w H h)(e:H a=some (.ins C dx fs)):∃mA,fH h a dx C mA/\(∀f,eo (fs.lookup f) (mA f))/\PySem.Within mA (fs.map To)/\fs.length<=1000/\H dx=some (.own a):=by
 obtain⟨d,z,ne,ob,mA,n,r,q⟩:=(show Cj P w H h a (.ins C dx fs) from Aw a _ e);exact⟨mA,⟨ob,n,ne⟩,r,q,z,d⟩
end
structure kW(K:Fg)(C:Addr):Prop where
 pg:PySem.W.plainGet K C Str.empty=true
 hd:PySem.W.hasDictIn K C=true
 po:PySem.W.plainOver K C=true
 sa:PySem.W.findIn K Nq "__setattr__" = some (some (.builtin "object.__setattr__"))
def kW.get{K:Fg}{C:AD}(c:kW K C)(f:Str):PySem.W.plainGet K C f=true:=c.pg
section
variable{X:Cx}{pins:Cl}{σ:St}{H:Hp}{s:SD}{A:OR}{E:tq}{Q:tq}{c:VL}{b:Bool}
inductive IK(K:Fg)(H:Hp):V->Value->Prop where
 |Bq:IK K H .Bq yh
 |bl (x:Bool):IK K H (.bl x) ud
 |int (i:Int):IK K H vR ut
 |str (x:Str):IK K H (.str x) (.type "str")
 |YJ (x:UInt64):IK K H (.YJ x) (.type "float")
 |lst {a:Addr} {xs:ON} (e:H a=some NE):IK K H Jz iF
 |GH {a:Addr} {o:Obj} {xs:ON} (e:H a=some (.GH o NE)):IK K H Jz iF
 |tup {a:Addr} {xs:ON} (e:H a=some M2):IK K H Jz FS
 |dK {a:Addr} {kvs:List (Key×V)} (e:H a=some (.dK kvs)):IK K H Jz gv
 |dT {a:Addr} {kvs:List (List Key×V)} (e:H a=some (.dT kvs)):IK K H Jz gv
 |ins {a C dx:Addr} {fs:List (Str×V)} (e:H a=some (.ins C dx fs)) (cl:kW K C) (ha:PySem.W.findIn K Nq "__class__" = some (some TW))
   (hn:PySem.W.specialIn K TW "__get__" = some (some iN)) (htk:PySem.W.takesIn K TW=some true)
   (hm:PySem.W.mroIn K C XN=some true):IK K H Jz Nq
def cg{x:V}{u t:VL}(I:BY)(g:RelV x u)(ty:IK X.K H x t)(e:PySem.W.kitOne X.K t c=some b)(h:∀tk,Q (.bool b) {s with toks:=tk}):wpAny By A (call (.builtin "isinstance") [u,c]) Q E s:=by
 cases ty with
 |Bq=>cases (show u=Value.none from g);exact bH PySem.W.kitx_none I.Hc True.intro e JX h
 |bl y=>cases (show u=Value.bool y from g);exact bH PySem.W.kitx_bool I.Hc True.intro e JX h
 |int i=>obtain⟨t,q⟩:=(show ∃t,u=Value.int i t from g);cases q;exact bH PySem.W.kitx_int I.Hc True.intro e JX h
 |str y=>obtain⟨t,q⟩:=(show ∃t,u=Value.str y t from g);cases q;exact bH PySem.W.kitx_str I.Hc True.intro e JX h
 |YJ y=>obtain⟨t,q⟩:=(show ∃t,u=Value.float y t from g);cases q;exact bH PySem.W.kitx_float I.Hc True.intro e JX h
 | @lst a xs ea=>
  cases (show u=Value.ref a from g);obtain⟨_,_,n,_,T⟩:=(show Cj X.prog X.w H s.heap a NE from I.Aw a _ ea);exact bH PySem.W.kitx_list I.Hc ⟨_,T,rfl⟩ e JX h
 | @GH a ob xs ea=>
  cases (show u=Value.ref a from g);obtain⟨_,_,_,n,_,T⟩:=(show Cj X.prog X.w H s.heap a (.GH ob NE) from I.Aw a _ ea);exact bH PySem.W.kitx_list I.Hc ⟨_,T,rfl⟩ e JX h
 | @tup a xs ea=>
  cases (show u=Value.ref a from g);obtain⟨_,_,_,p⟩:=(show Cj X.prog X.w H s.heap a M2 from I.Aw a _ ea);obtain⟨o,T,U,_⟩:=p;exact bH PySem.W.kitx_tuple I.Hc ⟨o,T,U⟩ e JX h
 | @dK a kvs ea=>
  cases (show u=Value.ref a from g);obtain⟨_,_,vs,_,p⟩:=(show Cj X.prog X.w H s.heap a (.dK kvs) from I.Aw a _ ea);obtain⟨o,es,ep,T,U,_⟩:=p;exact bH PySem.W.kitx_dict I.Hc ⟨o,T,U.1⟩ e JX h
 | @dT a kvs ea=>
  cases (show u=Value.ref a from g);obtain⟨_,_,xs,_,o,es,ep,T,U,_⟩:=(show Cj X.prog X.w H s.heap a (.dT kvs) from I.Aw a _ ea);exact bH PySem.W.kitx_dict I.Hc ⟨o,T,U.1⟩ e JX h
 | @ins a C dx fs ea cl ha hn htk hm=>
  cases (show u=Value.ref a from g);obtain⟨mA,O,_⟩:=iP I.Aw ea;obtain⟨od,J,_⟩:=O.look;exact bH (PySem.W.kitx_own (cl.get _) cl.hd ha hn htk hm) I.Hc J e JX h
end
structure DQ(k:Nat)(A:OR):Prop where
 hd:A.handled=none
 dp:A.depth+3*k+5<recursionLimit
 un:A.units+16*k+200<cLine
def DQ.mono{j k:Nat}{A:OR}(r:DQ k A)(h:j<=k:=by decide):DQ j A:=⟨r.hd,by have:=r.dp;lia,by have:=r.un;lia⟩
def DQ.deeper{k:Nat}{A:OR}(r:DQ io A)(env:Env):DQ k (A.deeper env) :=
 ⟨r.hd,by have:=r.dp;show A.depth+1+3*k+5<_;lia,by have:=r.un;show A.units+3+16*k+200<_;lia⟩
def DQ.depth{k:Nat}{A:OR}(r:DQ k A):A.depth<recursionLimit:=by have:=r.dp;lia
def DQ.units{k:Nat}{A:OR}(r:DQ k A):A.units+64<cLine:=by have:=r.un;lia
def rC:TA:=fun _ H Q=>Q [] H
def pq(T:TE)(g:TA):TA:=fun σ H Q=>T σ H fun x Y=>g σ Y fun xs U=>Q (x::xs) U
section
variable{X:Cx}{e:Expr}{es:uD}{te:TE}{t:TA}{pos:Pos}
def AV:PA X [] rC:=fun _ _ _ _ H Q I h=>Calls.spliced_nil ⟨[],H,I,.nil,h⟩
def AH(ha:PE X e te)(hr:PA X es t)(Z:starEach zCh X.env=Jo::starEach es X.env:=by rfl):PA X zCh (pq te t):=by
 intro pos pins s σ H Q I h;rw[Z];show wpAny _ _ (spliced (Jo::backTo pos Ol)) _ _ s;refine Calls.spliced_cons (BV uv fun u s1 ⟨x,H1,I1,T,Y⟩=>?_);exact BV (hr pos pins s1 σ H1 _ I1 Y) fun us s2 ⟨xs,H2,I2,g,U⟩=>⟨x::xs,H2,I2,.cons T g,U⟩
def rN(t:TA):TE:=fun σ H Q=>t σ H fun xs g=>xs.length<=sizeLine/\∀p,g p=none->Q vS (upd g p M2)
def rM(t:TA):TE:=fun σ H Q=>t σ H fun xs g=>xs.length<=sizeLine/\∀p,g p=none->Q vS (upd g p NE)
def RE{U}(h:PA X es t):PE X (.Tuple es U pos) (rN t):=by
 intro pins s σ H Q I Y;refine wpAny_Tuple_spliced (BV (h pos pins s σ H _ I Y) fun us s1 ⟨xs,T,g,r,z,q⟩=>⟨by rw[<-r.length];exact z,?_⟩);have Z:T s1.heap.objs.size=none:=g.Aw.fresh UF;refine⟨.ref s1.heap.objs.size,upd T s1.heap.objs.size M2,g.laid (t':=s1.toks) (fun b u e=>aE _ e) UF ?_,rfl,q _ Z⟩;exact⟨z,us,r,⟨_,Heap.get?_push_size _ rfl,rfl,_,rfl⟩⟩
def Jx(h:PA X es t):PE X (.List es pos) (rM t):=by
 intro pins s σ H Q I U;refine wpAny_List_spliced (BV (h pos pins s σ H _ I U) fun us s1 ⟨xs,T,g,r,z,q⟩=>⟨by rw[<-r.length];exact z,?_⟩);have Y:T s1.heap.objs.size=none:=g.Aw.fresh UF;refine⟨.ref s1.heap.objs.size,upd T s1.heap.objs.size NE,g.laid (t':=s1.toks) (fun b u e=>aE _ e) UF ?_,rfl,q _ Y⟩;exact⟨z,us,0,r,Heap.get?_push_size _ rfl⟩
end
abbrev Sp:=List V->Hp->VK->XK->Prop
abbrev Hm:=List Env->Hp->SD->XK->VL->SD->Prop
structure ZV(P:Go)(w:KB)(K:Fg)(mg:xl)(base:Heap)(A:OR)(outer:List Env)(s:Shared)(H:Hp):Prop where
 frames:A.frames=some outer
 mod:Mod K mg base
 bs:∀b o,base.get? b=some o->s.heap.get? b=some o/\H b=none
 R8:base.objs.size<=s.heap.objs.size
 JA:s.heap.FunFrames base outer
 Rj:∀b∈Gj outer,H b=none
 Aw:Et P w H s.heap
 bare:AllBare s.gens
 kt:KTb mg H
def CE(outer:uM)(P:Go)(w:KB)(H:Hp)(s:SD)(Q:VK)(u:VL)(s':SD):Prop :=
 ∃v H',s'.os=s.os/\AllBare s'.gens/\Un (Gj outer) [] H H' s.heap s'.heap/\Et P w H' s'.heap/\RelV v u/\Q v H'
def CR(CX:Hm)(outer:uM)(P:Go)(w:KB)(H:Hp)(s:SD)(Q:VK)(E:XK)(r:Result)(s':SD):Prop :=
 match r with
 |.ok (.ret u)=>CE outer P w H s Q u s'
 |.ok _=>False
 |.error e=>CX outer H s E e s'
structure AI(P:Go)(w:KB)(K:Fg)(mg:xl)(base:Heap)(CX:Hm)(k:Nat)(f:Addr)(fd:Fr)(ps:List Str)(sp:Sp):Prop where
 len:∀vs H Q E,sp vs H Q E->vs.length=ps.length
 run:∀(A:OR) (outer:List Env) (s:Shared) (H:Hp) (args:Args) (us:List Value) (vs:ON) (Q:VK) (E:XK),DQ k A->ZV P w K mg base A outer s H->BindsTo s fd args (ps.zip us)->Vals vs us->sp vs H Q E ->
  codeAny ww A (.call xo args) (CR CX outer P w H s Q E) s
def AI.mono{P:Go}{w:KB}{K:Fg}{mg:t7}{base:Heap}{CX:Hm}{j k:Nat}{f:AD}{fd:Fr}{ps:uC}{sp:Sp}(F:AI P w K mg base CX j f fd ps sp)(h:j<=k:=by decide):AI P w K mg base CX k f fd ps sp:=⟨F.len,fun A outer s H args us vs Q E g=>F.run A outer s H args us vs Q E (g.mono h)⟩
def AI.imp{P:Go}{w:KB}{K:Fg}{mg:t7}{base:Heap}{CX:Hm}{k:Nat}{f:AD}{fd:Fr}{ps:uC}{sp g:Sp}(F:zZ) (h:∀vs H Q E,g vs H Q E->sp vs H Q E):AI P w K mg base CX k f fd ps g :=
 ⟨fun vs H Q E q=>F.len vs H Q E (h _ _ _ _ q),fun A outer s H args us vs Q E Y Z hb T U=>F.run A outer s H args us vs Q E Y Z hb T (h _ _ _ _ U)⟩
section
variable{X:Cx}{pins:Cl}{σ:St}{H:Hp}{s s':SD}
def Inv.nP(I:BY):ZV X.prog X.w X.K X.mg X.base X.A X.stack s H :=
 ⟨I.ok.frames,I.ok.mod,I.bs,Nat.le_trans I.ok.R8 I.sz,I.stack,I.TY,I.Aw,I.bare,I.kt⟩
def Inv.after{Q:VK}{u:VL}(I:BY)(h:CE X.stack X.prog X.w H s Q u s'):EP X pins σ Q u s':=by
 obtain⟨v,H',os,bare,un,Aw,r,q⟩:=h;obtain⟨U,g,d,t,T⟩:=s';obtain rfl:T=s.os:=os;exact⟨v,H',I.call (h':=U) (g':=g) (d':=d) (t':=t) (ch:=[]) un Aw bare (fun b z=>absurd z As),r,q⟩
end
def Ym(sp:Sp)(g:uI)(E:XK)(t:TA):TE:=fun σ H Q=>t σ H fun vs T=>sp (vs++g) T Q E
def Binds(K:Fg)(fd:Fr)(ps:uC)(ds:tm):Prop :=
 ∀(s:SD) (us:ST),K.In s.heap->(us++ds).length=ps.length->BindsTo s fd ⟨us,[]⟩ (ps.zip (us++ds))
def Binds.all{K:Fg}{fd:Fr}{ps:uC}(h:∀us:tm,us.length=ps.length->bindArgs fd ⟨us,[]⟩=pure (ps.zip us)):Binds K fd ps []:=fun s us _ g=>by
 rw[List.append_nil]at g ⊢;exact .of_eq (h us g)
def Passes(CX:Hm)(X:Cx)(E:XK):Prop:=∀(pins:Cl) (σ:St) (H:Hp) (s:SD) (e:VL) (s':SD),Inv X pins σ H s->CX X.stack H s E e s'->X.xe e s'
section
variable{X:Cx}{CX:Hm}{k:Nat}{f:AD}{fd:Fr}{ps:uC}{sp:Sp}{dvs:uI}{ds:tm}{E:XK}{x:Str}{p pos:Pos}{e:Expr}{es:uD}{t:TA}
def ni{pins:Cl}{σ:St}{H:Hp}{s:SD}{Q:VK}{us:tm}{vs:uI}(F:AI X.prog X.w X.K X.mg X.base CX k f fd ps sp)(Y:DQ k X.A)(hb:Binds X.K fd ps ds)(hd:Vals dvs ds)(U:Passes CX X E) (I:BY)(r:Vals vs us)(h:sp (vs++dvs) H Q E):wpAny By X.A (call xo us) ge X.xe s:=by
 have T:Vals (vs++dvs) (us++ds):=r.append hd;have Z:(us++ds).length=ps.length:=by rw[<-T.length];exact F.len _ _ _ _ h
 refine wpAny_call (codeAny_mono (F.run X.A X.stack s H ⟨us,[]⟩ (us++ds) (vs++dvs) Q E Y I.nP (hb s us I.Hc Z) T h) fun r s' g=>?_);cases r with
 |error e=>exact U pins σ H s e s' I g
 |ok fl=>
  cases fl with
  |ret u=>exact I.after g
  |next=>exact False.elim g
  |brk=>exact False.elim g
  |cont=>exact False.elim g
def Xs(F:AI X.prog X.w X.K X.mg X.base CX k f fd ps sp)(Z:DQ k X.A)(hg:y9)(hm:X.mg x=some xo)(hk:PySem.W.keepIn X.K xo=true)(hb:Binds X.K fd ps ds)(hd:Vals dvs ds)(Y:Passes CX X E) (ha:za)(T:GM=false:=by decide)(he:starEach zCh X.env=Jo::starEach es X.env:=by rfl)(g:(backTo pos Ol).any To=false:=by rfl):PE X IR (Ym sp dvs E t):=by
 intro pins s σ H Q I h;refine wpAny_Call_Name_kw (Ku I hg hm ?_ T);refine PySem.W.callWith_K (h₀:=X.base) I.ok.mod.Pd hk (BV TD fun us s1 ⟨vs,H1,U,r,q⟩=>⟨U.Hc,?_⟩) he g;exact ni F Z hb hd Y U r q
end
structure Ah(N P:List Str)(sc:wn):Prop where
 kind:sc.kind=.function
 co:sc.isCoroutine=false
 gen:sc.isGenerator=false
 nd:N.Nodup
 pre:N.take P.length=P
 par:∀x∈P,sc.names.lookup x=some .local\/sc.names.lookup x=some .cell
 kx:∀y∈sc.names,y.2≠.free
def B8{N P:uC}{sc:wn}(a:sc.kind=.function:=by rfl)(b:sc.isCoroutine=false:=by rfl)(c:sc.isGenerator=false:=by rfl)(d:N.Nodup:=by decide +kernel)(e:N.take P.length=P:=by rfl)(f:∀x ∈ P, sc.names.lookup x=some .local \/ sc.names.lookup x=some .cell:=by decide +kernel)(g:∀y ∈ sc.names, y.2 ≠ .free:=by decide +kernel):Ah N P sc:=⟨a, b, c, d, e, f, g⟩
def Tw{kindOf:zAl}{x:Str}:∀ {binds:List (Str×VL)} {m:zBs},(∀v,(x,v) ∉ binds)->bindL kindOf binds m x=m x
 |[],_,_=>rfl
 |(n,v)::r,m,h=>by
  unfold bindL;rw[Tw fun w g=>h w (aS _ g)];split
  .have:x≠n:=by rintro rfl;exact h v ae
   simp[this]
  .rfl
def Tp{kindOf:zAl}{x:Str}:∀ {binds:List (Str×VL)} {m:zBs},(∀v,(x,v) ∉ binds)->bindC kindOf binds m x=m x
 |[],_,_=>rfl
 |(n,v)::r,m,h=>by
  unfold bindC;rw[Tp fun w g=>h w (aS _ g)];split
  .rfl
  .have:x≠n:=by rintro rfl;exact h v ae
   simp[this]
def T3{kindOf:zAl}{x:Str}{v:VL}:∀ {P:List Str} {vs:ST} {i:Nat} {m:zBs},P.Nodup->P[i]? = some x->vs[i]? = some v->kindOf x=some .local ->
  bindL kindOf (P.zip vs) m x=some v
 |[],_,_,_,_,h,_,_=>by simp at h
 |_::_,[],_,_,_,_,h,_=>by simp at h
 |p::P,w::vs,0,m,nd,T,g,hk=>by
  simp at T g;subst T;subst g;show bindL kindOf ((p,w)::P.zip vs) m p=_;unfold bindL;rw[Tw fun v U=>(List.nodup_cons.mp nd).1 (List.of_mem_zip U).1,if_pos hk];simp
 |p::P,w::vs,i+1,m,nd,T,g,hk=>by
  show bindL kindOf ((p,w)::P.zip vs) m x=_;unfold bindL;exact T3 (i:=i) (List.nodup_cons.mp nd).2 uf vw hk
def UE{kindOf:zAl}{x:Str}{v:VL}:∀ {P:List Str} {vs:ST} {i:Nat} {m:zBs},P.Nodup->P[i]? = some x->vs[i]? = some v->kindOf x≠some .local ->
  bindC kindOf (P.zip vs) m x=some v
 |[],_,_,_,_,h,_,_=>by simp at h
 |_::_,[],_,_,_,_,h,_=>by simp at h
 |p::P,w::vs,0,m,nd,T,g,hk=>by
  simp at T g;subst T;subst g;show bindC kindOf ((p,w)::P.zip vs) m p=_;unfold bindC;rw[Tp fun v U=>(List.nodup_cons.mp nd).1 (List.of_mem_zip U).1,if_neg hk];simp
 |p::P,w::vs,i+1,m,nd,T,g,hk=>by
  show bindC kindOf ((p,w)::P.zip vs) m x=_;unfold bindC;exact UE (i:=i) (List.nodup_cons.mp nd).2 uf vw hk
def start(N:uC)(vs:uI):St:=vs.map some++List.replicate (N.length-vs.length) none
def Cq(CX:Hm)(P:Go)(w:KB)(K:Fg)(mg:t7)(base:Heap)(N:uC)(qual:Str)(scope:wn)(f:AD)(cd:VL)(A:OR)(outer:uM)(s:SD)(H:Hp)(E:XK):Cx where
 prog:=P
 w:=w
 K:=K
 mg:=mg
 base:=base
 A:=A.deeper Nl
 N:=N
 s₀:=s
 H₀:=H
 env:=envOfC qual scope s.heap.objs.size f cd
 outer:=outer
 stack:=envOfC qual scope s.heap.objs.size f cd::outer
 ex:=[]
 calm:=true
 fn:=fun _=>true
 pn:=[]
 xe:=fun e s'=>wpAny ww (A.deeper Nl) (leaving Nl e) (fun _ s''=>CX outer H s E e s'') (fun e' s''=>CX outer H s E e' s'') s'
def VP{sc:wn}{n:Nat}{x:Str}(h:sc.names.lookup x=some .cell):∃c,(cellsFrom n sc.names []).lookup x=some c:=by
 have q:=PySem.W.cellsFrom_some sc.names n [] (.inl h);exact Option.isSome_iff_exists.mp q
def dQ{CX:Hm}{P:Go}{w:KB}{K:Fg}{mg:t7}{base:Heap}{N ps:uC}{qual:Str}{scope:wn}{f:AD}{cd:VL}{A:OR}{outer:uM}{s s1:SD}{H:Hp}{E:XK}{us:tm}{vs:uI} (S:Ah N ps scope)(hd:vY)(T:ZV P w K mg base A outer s H)(hl:vs.length=ps.length)(r:Vals vs us) (x:InCallC s s.heap.objs.size (bindL (envOfC qual scope s.heap.objs.size f cd).kindOf (ps.zip us) fun _=>none) (cellsFrom GE scope.names []) (bindC (envOfC qual scope s.heap.objs.size f cd).kindOf (ps.zip us) fun _=>none) s1):Inv (Cq CX P w K mg base N qual scope f cd A outer s H E) [] zO H s1:=by
 have hpl:ps.length<=N.length:=by have:=bO List.length S.pre;rw[List.length_take]at this;lia
 obtain⟨h1,tk,rfl,hk⟩:=x.done;have U:∀b:AD,b ∉ (Cq CX P w K mg base N qual scope f cd A outer s H E).ex:=fun b z=>absurd (show b∈([]:List AD) from z) As;refine⟨⟨T.mod,S.kind,rfl,rfl,Nat.le_refl _,fun y z c h1 g=>?_,fun y Y=>?_,fun y c _ h=>?_,fun _=>hd,Around.frames_deeper T.frames,.inr ⟨rfl,rfl⟩,fun b z=>absurd z (U b),T.bs,T.R8,fun b _ _=>U b,fun b z=>absurd z (U b),T.JA,T.Rj,T.kt⟩,
  rfl,T.bare,Un.kept hk,⟨_,x.toInCall.ns,fun i y v h1 g h3=>?_⟩,fun y c h=>⟨_,x.cell y c h⟩,T.Aw.fresh UF,fun y c h=>?_,fun p hp=>absurd (show p∈([]:List (AD×Obj)) from hp) As,T.Aw.kept hk,?_⟩
 .exact name_of_addr x.apart (PySem.mem_of_lookup h1) (PySem.mem_of_lookup g)
 .have Y:scope.names.lookup y=some .cell\/scope.names.lookup y=some .free:=Y;rcases Y with Y|Y
  .exact VP Y
  .exact absurd rfl (S.kx _ (PySem.mem_of_lookup Y))
 .exact bC (x.above y c (PySem.mem_of_lookup h))
 .have hi:i<vs.length:=by
   unfold start at g;by_cases hi:i<vs.length
   .exact hi
   .rw[List.getElem?_append_right nw]at g;rw[List.getElem?_replicate]at g;split at g<;>cases g
  have ha:vs[i]? = some v:=by
   unfold start at g;rw[List.getElem?_append_left nw,List.getElem?_map]at g;cases e:vs[i]? with
   |none=>rw[e]at g;cases g
   |some a=>rw[e]at g;cases g;rfl
  obtain⟨u,hu,rv⟩:=r.get ha;have hp:ps[i]? = some y:=by
   rw[<-S.pre,List.getElem?_take_of_lt AC];exact h1
  have Z:ps.Nodup:=by rw[<-S.pre];exact S.nd.sublist (List.take_sublist _ _)
  refine⟨u,rv,?_⟩;rcases S.par y (aJ hp) with k|k
  .exact .inl ⟨k,T3 Z hp hu k⟩
  .obtain⟨c,e⟩:=VP (n:=s.heap.objs.size+1) k;refine .inr ⟨.inl k,c,e,?_⟩;have q:=x.cell y c e;rw[UE Z hp hu (by show scope.names.lookup y≠_;rw[k];decide)]at q;exact q
 .exact T.Aw.fresh (bC (x.above y c (PySem.mem_of_lookup h)))
 .unfold start;show _=N.length;rw[List.length_append,List.length_map,List.length_replicate]
  lia
def gk{CX:Hm}{P:Go}{w:KB}{K:Fg}{mg:t7}{base:Heap}{k:Nat}{f:AD}{name qual:Str}{params:Arguments}{g:uL}{scope:wn}{dV kV doc pm cdv ct oc:VL}{an od:Option AD} {osl:Array (Option VL)}{N ps:uC}{sp:Sp}(lk:K.lookup f=some ⟨oc,od,.func zP,osl⟩)(hcd:PySem.W.codeIn K cdv qual=true)(S:Ah N ps scope) (len:wp) (Y:∀(A:OR) (outer:uM) (s:SD) (H:Hp) (vs:uI) (Q:VK) (E:XK),DQ k (A.deeper (envOfC qual scope s.heap.objs.size f cdv))->sp vs H Q E ->∃t,IW ve g t/\t { nx:=fun _ H'=>Q .Bq H',rt:=Q} zO H):AI P w K mg base CX io f zP ps sp:=by
 refine⟨len,fun A outer s H args us vs Q E hr e0 hb r hsp=>?_⟩;have hl:=len _ _ _ _ hsp;have KX:K.In s.heap:=e0.mod.Pd.keeps fun b o e=>(e0.bs b o e).1;have lim:s.heap.NoLimit:=e0.mod.nolimit.keeps fun b o e=>(e0.bs b o e).1;have U:∀y∈ps.zip us,scope.names.lookup y.1=some .local\/(scope.names.lookup y.1=some .cell/\((cellsFrom GE scope.names []).lookup y.1).isSome=true):=fun⟨n,v⟩ hy=>by
  rcases S.par n (List.of_mem_zip hy).1 with q|q
  .exact .inl q
  .exact .inr ⟨q,PySem.W.cellsFrom_some _ _ _ (.inl q)⟩
 refine codeAny_call_function hr.depth (KX _ _ lk) rfl S.co S.gen rfl (PySem.W.codeRec_of KX hcd) (hb _ _ _ _ ?_);refine wpAny_newFunctionEnv_cells S.kind U fun env he s1 x=>?_;subst he;refine⟨lim.keeps x.toInCall.keep,codeAny_func ?_⟩;obtain⟨t,ht,hq⟩:=Y A outer s H vs Q E (hr.deeper _) hsp;have I:Inv ve [] zO H s1:=dQ S hr.hd e0 hl r x;refine aW (ht [] s1 zO H _ I hq) (fun fl s' Z=>?_) fun e s' Z=>Z;have fin:∀ {T:St} {H':Hp} {v:V} {u:VL},Inv ve [] T H' s'->RelV v u->Q v H'->CE outer P w H s Q u s' :=
  fun {T H' v u} J rv q=>⟨v,H',J.os,J.bare,J.base,J.Aw,rv,q⟩
 cases fl with
 |ret u=>
  obtain⟨v,T,H',J,rv,q⟩:=Z;exact fin J rv q
 |next=>
  obtain⟨T,H',J,q⟩:=Z;exact fin (v:=V.Bq) (u:=Value.none) J rfl q
 |brk=>
  obtain⟨_,_,_,q⟩:=Z;exact False.elim q
 |cont=>
  obtain⟨_,_,_,q⟩:=Z;exact False.elim q
section
variable{X:Cx}{x:Str}{p pos:Pos}{e:Expr}{es:uD}{t:TA}{id T:wN}{r:zAk}
def qb(r:zAk)(t:TA):TE:=fun σ H Q=>t σ H fun vs g=>r vs g Q
def BW(hc:FV X wT r)(hg:y9)(hm:X.mg x=none)(hv:bootBuiltins x=some wT)(ha:za)(hn:x ≠ "__name__":=by decide)(U:GM=false:=by decide) (he:starEach zCh X.env=Jo::starEach es X.env:=by rfl)(g:(backTo pos Ol).any To=false:=by rfl):PE X IR (qb r t):=by
 intro pins s σ H Q I h;refine wpAny_Call_Name_kw (GQ I hg hm hv ?_ hn U);exact PyProof.Rows.callWith_builtin1 zDT he g
def T8(hc:FV X (.type T) r)(hg:y9)(hm:X.mg x=none)(hv:bootBuiltins x=some (.type T))(ha:za)(hn:x ≠ "__name__":=by decide)(U:GM=false:=by decide) (he:starEach zCh X.env=Jo::starEach es X.env:=by rfl)(g:(backTo pos Ol).any To=false:=by rfl):PE X IR (qb r t):=by
 intro pins s σ H Q I h;refine wpAny_Call_Name_kw (GQ I hg hm hv ?_ hn U);exact aj zDT he g
end
end L2
namespace HT
open PySem PyProof.Rows
section
variable{prog:Go}{w:KB}{A:OR}{E:tq}{s:SD}
def iK{t b:AD}{vs g:tm}{Q:tq}(ht:IsTup s.heap t vs.toArray)(hb:IsTup s.heap b g.toArray)(hv:vs≠[]) (h1:g=[]->Q (.ref t) s)(h2:g≠[]->Q Do {s with heap:=s.heap.push { cls:=.type "tuple",data:=.seq (vs++g).toArray} }) (hsz:vs.length+g.length<=sizeLine):wpAny AS A (binaryOp .Add (.ref t) (.ref b)) Q E s:=by
 obtain⟨⟨cls,dd,data,sl⟩,ho,hc,n,hd⟩:=id ht;obtain⟨⟨cls2,dd2,data2,U⟩,T,Z,n2,Y⟩:=id hb;simp only at hc hd Z Y;subst hc hd Z Y;have e:vs.toArray++g.toArray=(vs++g).toArray:=by simp
 by_cases hw:g=[]
 .exact concat_meets ⟨_,ho,rfl⟩ ⟨_,T,rfl⟩ noFill_tuple_add seq_tuple_add PySem.F.slot_tuple_add PySem.F.entry_tuple_add zt
   (tuple_addW1 t b vs.toArray g.toArray n n2 dd dd2 sl U (by simpa using hv) (by simp[hw])) ⟨ho,T,h1 hw⟩
 .refine concat_meets ⟨_,ho,rfl⟩ ⟨_,T,rfl⟩ noFill_tuple_add seq_tuple_add PySem.F.slot_tuple_add PySem.F.entry_tuple_add zt
   (tuple_addW2 t b vs.toArray g.toArray n n2 dd dd2 sl U (by simpa using hv) (by simpa using hw) (by rw[List.size_toArray,List.size_toArray];exact hsz)) ⟨ho,T,?_⟩
  rw[e];exact h2 hw
def Bu(n d:Nat):Option Int->Nat
 |none=>d
 |some v=>if v<0 then(v+(n:Int)).toNat else min v.toNat n
def kd(n d:Nat)(hd:d<=n)(o:uF):Bu n d o<=n:=by
 cases o with
 |none=>exact hd
 |some v=>
  show zBn<=n;by_cases g:v<0
  .rw[if_pos g];lia
  .rw[if_neg g];exact Nat.min_le_right _ _
def YA(v:Int)(n d:Nat):zBZ=((Bu n d xp:Nat):Int):=by
 show zBZ=((zBn:Nat):Int);by_cases g:v<0
 .simp only[if_pos g];lia
 .simp only[if_neg g];lia
def Yd(lo hi:uF)(n:Nat):Builtin.Slice.sliceAdjust lo hi 1 (n:Int)=(zp,((Bu n n hi:Nat):Int)):=by
 have g:¬((1:Int)<0):=by lia
 unfold Builtin.Slice.sliceAdjust;simp only[g,if_false];refine Prod.ext ?_ ?_
 .cases lo with
  |none=>rfl
  |some v=>exact YA v n 0
 .cases hi with
  |none=>rfl
  |some v=>exact YA v n n
def Yr(i j:Nat):Builtin.Slice.slicePlaces (i:Int) (j:Int) 1=j-i:=by
 unfold Builtin.Slice.slicePlaces;have g:(1:Int) > 0:=by lia
 simp only[g,if_true,Int.ediv_one];split<;>lia
def Ru{v:VL}{o:uF}{Q:Option Int->SD->Prop}(p:IsPart v o)(h:Q o s):wpAny AS A (Builtin.Slice.slicePartIndex v) Q E s:=by
 cases p with
 |none=>exact slicePart_none h
 |int i t=>exact slicePart_int h
def Qq{sl:AD}{Y U:VL}{lo hi:uF}{n:Nat}{Q:Int×Int×Nat->SD->Prop}(hs:s.heap.IsSliceOf sl Y U .none)(pl:IsPart Y lo)(Z:IsPart U hi) (h:Q (zp,1,Bu n n hi-Bu n 0 lo) s):wpAny AS A (Builtin.Slice.sliceApplied (.ref sl) (pure (n:Int))) Q E s:=by
 obtain⟨os,g,hcs,T⟩:=id hs;unfold Builtin.Slice.sliceApplied Builtin.Slice.sliceFields;refine Wb (Wb (aV g T (x:=Y) rfl (Wb (aV g T (x:=U) rfl (Wb (aV g T (x:=.none) rfl WF))))));refine Wb (slicePart_none ?_);show wpAny _ _ (if((1:Int)==0)=true then _ else _) _ _ s;rw[if_neg AT];refine Wb (Ru pl (Wb (Ru Z (Wb WF))));show wpAny _ _ (match Builtin.Slice.sliceAdjust lo hi 1 (n:Int) with|(lo,hi)=>pure (lo,(1:Int),Builtin.Slice.slicePlaces lo hi 1)) _ _ s;rw[Yd lo hi n];show wpAny _ _ (pure (zp,(1:Int),Builtin.Slice.slicePlaces zp ((Bu n n hi:Nat):Int) 1)) _ _ s;rw[Yr];exact aA h
def eu(xs:xP)(i k:Nat):((List.range k).filterMap fun(m:Nat)=>xs[((i:Int)+(m:Int)*1).toNat]?).toArray=((xs.toList.drop i).take k).toArray:=by
 have e:(fun(m:Nat)=>xs[((i:Int)+(m:Int)*1).toNat]?)=fun m=>xs[i+m]? := by
  funext m
  have:((i:Int)+(m:Int)*1).toNat=i+m:=by lia
  rw[this]
 rw[e];have:=pick_run xs i k;rw[List.filterMap_map]at this;have g:((fun x=>xs[x]?) ∘ fun x=>i+x)=fun m=>xs[i+m]?:=rfl;rw[g]at this;rw[this]
def PX{t sl:AD}{items:xP}{vl vu:VL}{lo hi:uF}{Q:tq}(T:IsTup s.heap t items)(hs:s.heap.IsSliceOf sl vl vu .none)(pl:IsPart vl lo)(pu:IsPart vu hi) (hw:¬(Bu items.size 0 lo=0/\Bu items.size items.size hi=items.size)) (h:Q Do {s with heap:=s.heap.push { cls:=.type "tuple",data:=.seq ((items.toList.drop (Bu items.size 0 lo)).take dl).toArray} }) (hsz:items.size<=sizeLine):wpAny AS A (getItem (.ref t) (.ref sl)) Q E s:=by
 have g:sizeOk (.seq ((items.toList.drop (Bu items.size 0 lo)).take dl).toArray):=by
  show((items.toList.drop (Bu items.size 0 lo)).take dl).toArray.size<=sizeLine;rw[List.size_toArray,List.length_take,List.length_drop,Array.length_toList]
  lia
 have hj:Bu items.size items.size hi<=items.size:=kd _ _ UF hi;obtain⟨os,U,Z,hds⟩:=id hs;have hTs:s.TypeIs (.ref sl) "slice" := ⟨os,U,Z⟩;unfold getItem
 try with_reducible refine aQ ?_
 first|refine Wb WF|skip
 refine Wb (wpAny_sequenceKey T.typeIs AT ?_);refine Wb (aY (name:=Str.ofString "__getitem__") T.typeIs PyProof.Rows.slot_tuple_getitem
  (aX PyProof.Rows.slot_tuple_getitem T.typeIs entry_tuple_getitem ?_ (args_tuple_getitem _ _)))
 show wpAny _ _ (Builtin.Tuple.tupleItemsOf (.ref t)>>=_) _ _ s;refine Wb (tupleItemsOf_ T ?_);refine Wb (wpAny_typeOf hTs ?_);rw[if_pos AT];refine Wb (Qq hs pl pu ?_);have Y:¬((zu==0&&(1:Int)==1&&dl==items.size)=true):=by
  intro q;rw[Bool.and_eq_true,Bool.and_eq_true]at q;have q1:zu=0:=eq_of_beq q.1.1;have q2:Bu items.size items.size hi-Bu items.size 0 lo=items.size:=eq_of_beq q.2;exact hw ⟨by lia,by lia⟩
 show wpAny _ _ (if(zu==0&&(1:Int)==1&&dl==items.size)=true then _ else _) _ _ s;rw[if_neg Y,eu]
 first
  |exact Wb (m:=Builtin.Tuple.tupleExact _) (bA wx g)
  |exact Wb (m:=Builtin.Tuple.tupleExact _) (bA (Wb (aA wx)) g)
  |exact Wb (Wb (m:=Builtin.Tuple.tupleExact _) (bA (aA wx) g))
  |exact Wb (Wb (m:=Builtin.Tuple.tupleExact _) (bA wx g))
end
end HT
namespace L2
open PySem PySem.Spec PyProof.Rows
abbrev TO:=St->Hp->(Option Int->Hp->Prop)->Prop
def PO(X:Cx)(e:Option Expr)(t:TO):Prop :=
 ∀(pins:Cl) (s:SD) (σ:St) (H:Hp) (Q:Option Int->Hp->Prop),Inv X pins σ H s->t σ H Q ->
  wpAny By X.A (evalPart e X.env) (fun u s'=>∃o H',Inv X pins σ H' s'/\IsPart u o/\Q o H') X.xe s
def ik:TO:=fun _ H Q=>Q none H
def p0(t:TE):TO:=fun σ H Q=>t σ H fun x g=>∃i,x=.int i/\Q (some i) g
def intsAre_of{ns:uB}:∀ {us:tm},Vals jp us->IntsAre us ns:=by
 induction ns with
 |nil=>intro us r;rw[List.map_nil]at r;cases r;exact .nil
 |cons n ns U=>
  intro us r;rw[List.map_cons]at r;cases r with
  |cons T g=>
   obtain⟨t,e⟩:=T;subst e;exact .cons n t (U g)
section
variable{X:Cx}{e:Expr}{te:TE}{lo hi:Option Expr}{tl th:TO}{pos p2:Pos}
def i8:PO X none ik:=by
 intro pins s σ H Q I h;rw[evalPart_none];exact aA ⟨none,H,I,.none,h⟩
def jX(h:PE X e te):PO X (some e) (p0 te):=by
 intro pins s σ H Q I U;rw[evalPart_some];refine BV (h pins s σ H _ I U) fun u s1 ⟨x,Z,Y,g,T⟩=>?_;obtain⟨i,rfl,q⟩:=T;obtain⟨t,rfl⟩:=g;exact⟨some i,Z,Y,.int i t,q⟩
def WG(X:Cx)(r:vQ):Prop :=
 ∀(pins:Cl) (s:SD) (σ:St) (H:Hp) (x:V) (v U g:VL) (lo hi:Option Int) (sl:AD) (Q:VK),Inv X pins σ H s->RelV x v->s.heap.IsSliceOf sl U g .none->IsPart U lo->IsPart g hi->r x lo hi H Q ->
  ∃T id,typeLookup (.type T) "__getitem__" = pure (some wT)/\s.TypeIs v T/\wpAny By X.A (getItem v (.ref sl)) ge X.xe s
def WG.or{r Y:vQ}(h:WG X r)(h':WG X Y):WG X (fun x lo hi H Q=>r x lo hi H Q\/Y x lo hi H Q):=by
 intro pins s σ H x v T g lo hi sl Q I U hs pl Z q;rcases q with q|q
 .exact h pins s σ H x v T g lo hi sl Q I U hs pl Z q
 .exact h' pins s σ H x v T g lo hi sl Q I U hs pl Z q
def tE(r:vQ)(te:TE)(tl th:TO):TE:=fun σ H Q=>te σ H fun x U=>tl σ U fun l T=>th σ T fun u g=>r x l u g Q
def ef{r:vQ}(hr:WG X r)(he:PE X e te)(hl:PO X lo tl)(hu:PO X hi th):PE X (.Subscript e (.Slice lo hi none p2) pos) (tE r te tl th):=by
 intro pins s σ H Q I h;refine Subscript_ (BV zN fun v s1 ⟨x,H1,I1,r1,q1⟩=>?_);refine wpAny_Slice (BV (hl pins s1 σ H1 _ I1 q1) fun Y s2 ⟨l,H2,I2,pl,q2⟩=>BV (hu pins s2 σ H2 _ I2 q2) fun U g ⟨u,Z,I3,pu,q3⟩=>?_);rw[evalPart_none];refine aA ?_;have I4:Inv X pins σ Z tO:=I3.kept (t':=g.toks) fun b ob q=>aE _ q;obtain⟨T,id,hT,ht,hg⟩:=hr pins tO σ Z x v Y U l u g.heap.objs.size Q I4 r1 (Heap.IsSliceOf.new ..) pl pu q3;show wpAny By X.A (subscriptTail e (.Slice lo hi none p2) v (.ref g.heap.objs.size)) ge X.xe tO;exact tail_any (ops:=[.ref g.heap.objs.size,v]) ht hT hg (by with_unfolding_all rfl)
def OT(xs:uI)(lo hi:uF):uI:=(xs.drop zQ).take ss
def Py(xs:uI)(lo hi:uF):(OT xs lo hi).length<=xs.length:=by
 unfold OT;rw[List.length_take,List.length_drop]
 lia
def sF(K:Fg):V->Option Int->Option Int->Hp->VK->Prop:=fun x lo hi H Q=>∃a xs,x=.ref a/\BJ K H a xs /\
 ¬zA/\∀p,H p=none->Q vS (upd H p (.tup (OT xs lo hi)))
def nM:WG X (sF X.K):=by
 intro pins s σ H x v vl vu lo hi sl Q I Z hs pl pu h;obtain⟨a,xs,rfl,hx,hw,q⟩:=h;cases Z;obtain⟨T,r,Y,U⟩:=I.tuple hx;have g:T.toArray.size=xs.length:=by rw[List.size_toArray];exact r.length.symm
 refine⟨"tuple",_,PyProof.Rows.slot_tuple_getitem.lookup,Y.typeIs,?_⟩;refine HT.PX Y hs pl pu (by rw[g];exact hw) ?_ (by rw[g];exact U);rw[g];refine⟨.ref s.heap.objs.size,_,I.laid (t':=s.toks) (o:=.tup (OT xs lo hi)) (fun b ob q=>aE _ q) UF ?_,rfl,q _ zDs⟩;exact⟨aP (Py xs lo hi) U,_,(r.drop zQ).take ss,IsTup.new _ _⟩
def Vals.YD{xs:uI}{us:tm}(r:Vals xs us):us=[] ↔ xs=[]:=by
 cases r with
 |nil=>simp
 |cons _ _=>simp
end
def RX(n:Nat)(i:Int):Option Nat:=if 0<=i then(if i<n then some i.toNat else none) else if -(n:Int)<=i then some (i+n).toNat else none
def Gu{α:Type}(xs:mu)(i:Int):Option α:=(RX xs.length i).bind fun j=>xs[j]?
def XJ{n:Nat}{i:Int}{j:Nat}(h:RX n i=some j):seqIndex? i n=some j/\j<n/\-(n:Int)<=i/\i<n:=by
 unfold RX at h;by_cases h0:0<=i
 .rw[if_pos h0]at h;by_cases g:i<n
  .rw[if_pos g]at h;have e:i.toNat=j:=aw h;exact⟨by rw[seqIndex_of h0 g,e],by lia,by lia,g⟩
  .rw[if_neg g]at h;cases h
 .rw[if_neg h0]at h;by_cases g:-(n:Int)<=i
  .rw[if_pos g]at h;have e:(i+n).toNat=j:=aw h;exact⟨by rw[seqIndex_neg AC g,e],by lia,g,by lia⟩
  .rw[if_neg g]at h;cases h
def S5{α:Type}{xs:mu}{i:Int}{v:α}(h:Gu xs i=some v):∃j,seqIndex? i xs.length=some j/\xs[j]? = some v/\j<xs.length/\-(xs.length:Int)<=i/\i<xs.length:=by
 unfold Gu at h;cases e:RX xs.length i with
 |none=>rw[e]at h;cases h
 |some j=>
  rw[e]at h;obtain⟨Y,U,T,g⟩:=XJ e;exact⟨j,Y,h,U,T,g⟩
def Kw{α:Type}{xs:mu}{j:Nat}{v:α}(h:xs[j]? = some v):Gu xs (j:Int)=some v:=by
 have g:j<xs.length:=(aD.mp h).1;have e:RX xs.length (j:Int)=some j:=by
  unfold RX;rw[if_pos AC,if_pos AC];simp
 unfold Gu;rw[e];exact h
def ej{α:Type}(xs:mu)(v:α):Gu (xs++[v]) (-1)=some v:=by
 have g:(xs++[v]).length=xs.length+1:=by simp
 have e:RX (xs++[v]).length (-1)=some xs.length:=by
  unfold RX;rw[g,if_neg AT,if_pos AC]
  congr 1
  lia
 unfold Gu;rw[e];show(xs++[v])[xs.length]? = some v;simp
def Xj(b:Expr):Prop:=∀o i,subscripted b false o i=operate [o,i] (getItem o i)
def Pj(X:Cx)(r:R2):Prop :=
 ∀(value slice:Expr) (pins:Cl) (s:SD) (σ:St) (H:Hp) (x y:V) (v u:VL) (Q:VK),Inv X pins σ H s->RelV x v->RelV y u->r x y H Q ->
  subscripted slice false v u=operate [v,u] (getItem v u)->wpAny By X.A (subscriptTail value slice v u) ge X.xe s
def sm(X:Cx)(id:wN)(r:zK):Prop :=
 ∀(pins:Cl) (s:SD) (σ:St) (H:Hp) (x:V) (xs:ON) (v:VL) (us:ST) (Q:VK),Inv X pins σ H s->RelV x v->Vals xs us->r x xs H Q ->
  wpAny By X.A (call wT (v::us)) ge X.xe s
section
variable{X:Cx}{a b:Expr}{ta tb:TE}{pos:Pos}
def Pj.or{r U:R2}(h:Pj X r)(h':Pj X U):Pj X (fun x y H Q=>r x y H Q\/U x y H Q):=by
 intro value slice pins s σ H x y v u Q I T g q Y;rcases q with q|q
 .exact h value slice pins s σ H x y v u Q I T g q Y
 .exact h' value slice pins s σ H x y v u Q I T g q Y
def CK{r:R2}(Y:Pj X r)(ha:PE X a ta)(hb:PE X b tb)(U:Xj b):PE X (.Subscript a b pos) (cS r ta tb):=by
 intro pins s σ H Q I h;exact Subscript_ (eW ha hb I h fun v u s2 x y H2 Z T g q=>Y a b pins s2 σ H2 x y v u Q Z T g q (U _ _))
def mf(K:Fg):R2:=fun x y H Q=>∃p xs i v,x=.ref p/\y=.int i/\Ar K H p xs/\Gu xs i=some v/\Q v H
def fM(K:Fg):R2:=fun x y H Q=>∃p xs i v,x=.ref p/\y=.int i/\BJ K H p xs/\Gu xs i=some v/\Q v H
def lO:R2:=fun x y H Q=>∃z i c,x=.str z/\y=.int i/\z.length<=sizeLine/\Gu z.cps.toList i=some c/\Q (.str ⟨#[c]⟩) H
def Mf:Pj X (mf X.K):=by
 intro value slice pins s σ H x y v u Q I rx ry h hs;obtain⟨p,xs,i,z,rfl,rfl,hq,he,q⟩:=h;cases rx;obtain⟨t,rfl⟩:=ry;obtain⟨Y,r,U,hz⟩:=I.list hq;obtain⟨j,g,h2,h3,h4,h5⟩:=S5 he;obtain⟨w,ew,T⟩:=r.get h2;have hl:=r.length;have hn:=OO;have fin:EP X pins σ Q w s:=⟨z,H,I,T,q⟩;by_cases h0:0<=i
 .have Z:i.toNat=j:=by
   rw[seqIndex_of h0 h5]at g;exact aw g
  exact item_listR U.isList h0 AC (by rw[Z];simpa using ew) fin hs
 .have Z:(i+(Y.toArray.size:Int)).toNat=j:=by
   rw[seqIndex_neg AC h4]at g;rw[List.size_toArray,<-hl];exact aw g
  exact subscriptTail_builtinR (x:=w) U.isList.typeIs slot_list_getitem.lookup
   (wpAny_getItem_list_neg (Q:=fun r s'=>r=w/\EP X pins σ Q r s') U.isList AC (by rw[List.size_toArray]<;>lia) AC (by rw[Z];simpa using ew) ⟨rfl,fin⟩) hs
def DL:Pj X (fM X.K):=by
 intro value slice pins s σ H x y v u Q I Y U h hs;obtain⟨p,xs,i,z,rfl,rfl,hq,he,q⟩:=h;cases Y;obtain⟨t,rfl⟩:=U;obtain⟨Z,r,T,hz⟩:=I.tuple hq;obtain⟨j,h1,h2,h3,h4,h5⟩:=S5 he;obtain⟨w,ew,g⟩:=r.get h2;have hl:=r.length;have hn:=OO;have fin:EP X pins σ Q w s:=⟨z,H,I,g,q⟩;exact subscriptTail_builtinR (x:=w) T.typeIs slot_tuple_getitem.lookup
  (getItem_tuple (j:=j) (Q:=fun r s'=>r=w/\EP X pins σ Q r s') T AC AC (by rw[List.size_toArray,<-hl];exact h1) (by simpa using ew) ⟨rfl,fin⟩) hs
def lY:Pj X lO:=by
 intro value slice pins s σ H x y v u Q I U T h Y;obtain⟨z,i,c,rfl,rfl,hz,he,q⟩:=h;obtain⟨t,rfl⟩:=U;obtain⟨t',rfl⟩:=T;obtain⟨j,g,h2,h3,h4,h5⟩:=S5 he;have Z:z.cps.toList.length=z.length:=by simp[Str.length]
 rw[Z]at g h4 h5;have hn:=OO;exact tail_any (typeIs_str s z t) slot_str_getitem.lookup (getItem_str (c:=c) (by
  have e1:decide (i < -(2^63:Int))=false:=bL AC;have e2:decide (i >= 2^63)=false:=bL AC;rw[e1,e2,Bool.or_false]) (by rw[g];simpa using h2) ⟨.str ⟨#[c]⟩,H,I.tok _,⟨_,rfl⟩,q⟩) Y
def tQ(K:Fg):R2:=fun x y H Q=>mf K x y H Q\/fM K x y H Q\/lO x y H Q
def kT:Pj X (tQ X.K):=Mf.or (DL.or lY)
def ZK(g:tm)(n j:Nat)(u:VL):Obj.mapSeq (·.setIfInBounds j u) { cls:=.type "list",data:=.seq g.toArray n}={ cls:=.type "list",data:=.seq (g.set j u).toArray n}:=by
 simp[Obj.mapSeq]
def Inv.lst{pins:Cl}{σ:St}{H:Hp}{s:SD}{p:AD}{xs:uI}(I:BY)(h:H p=some NE):∃(g:tm) (n:Nat),Vals xs g/\s.heap.get? p=some { cls:=.type "list",data:=.seq g.toArray n}/\xs.length<=sizeLine:=by
 obtain⟨z,g,n,r,e⟩:=I.Aw p _ h;exact⟨g,n,r,e,z⟩
def Inv.kJ{pins:Cl}{σ:St}{H:Hp}{s:SD}{p:AD}{xs ys:uI}{g its':tm}{n T:Nat}{f:Obj->Obj}(I:BY)(h:H p=some NE) (Y:s.heap.get? p=some { cls:=.type "list",data:=.seq g.toArray n})(U:f { cls:=.type "list",data:=.seq g.toArray n}={ cls:=.type "list",data:=.seq its'.toArray T})(r:Vals ys its')(hz:ys.length<=sizeLine)(t:Nat):Inv X pins σ (upd H p Jw) {s with heap:=s.heap.update p f,toks:=t}:=by
 have e:(s.heap.update p f).get? p=some { cls:=.type "list",data:=.seq its'.toArray T}:=by
  rw[Heap.get?_update_self f Y (by rw[U]<;>rfl),U]
 refine I.write (x:=p) (e:=p) (by rw[h];trivial) db (fun b u hb q=>(Heap.get?_update_other _ _ (Ne.symm hb)).trans q) ⟨_,e⟩ ?_;exact⟨hz,its',T,r,e⟩
def pM:V->V->V->Hp->(Hp->Prop)->Prop:=fun o i v H Q=>∃p xs k j,o=.ref p/\i=.int k/\H p=some NE/\RX xs.length k=some j/\Q (upd H p (.lst (xs.set j v)))
def set_list:eB X pM:=by
 intro pins s σ H o i v ov iv u Q I ro ri rv h;obtain⟨p,xs,k,j,rfl,rfl,Z,hj,q⟩:=h;cases ro;obtain⟨t,rfl⟩:=ri;obtain⟨g,n,r,U,hz⟩:=I.lst Z;obtain⟨T,h2,h3,h4⟩:=XJ hj;have Y:=r.length;have hn:=OO;have I':Inv X pins σ (upd H p (.lst (xs.set j v))) {s with heap:=s.heap.update p (Obj.mapSeq (·.setIfInBounds j u))} :=
  I.kJ Z U (ZK g n j u) (r.set rv j) (by rw[List.length_set];exact hz) s.toks
 by_cases h0:0<=k
 .have hk:k.toNat=j:=by
   rw[seqIndex_of h0 h4]at T;exact aw T
  exact PySem.W.ki_setAt U h0 AC (by rw[List.size_toArray,<-Y];exact h4) (by rw[hk];exact⟨_,I',q⟩)
 .have hk:(k+(g.toArray.size:Int)).toNat=j:=by
   rw[seqIndex_neg AC h3]at T;rw[List.size_toArray,<-Y];exact aw T
  exact PySem.W.ki_setBack U AC (by rw[List.size_toArray,<-Y];exact h3) AC (by rw[hk];exact⟨_,I',q⟩)
def Wm(lo hi:uF)(n:Nat):(sliceBounds lo hi none n).1=((HT.Bu n 0 lo:Nat):Int)/\(sliceBounds lo hi none n).2.1=((HT.Bu n n hi:Nat):Int)/\(sliceBounds lo hi none n).2.2=1:=by
 refine⟨?_,?_,rfl⟩
 .cases lo with
  |none=>simp[sliceBounds,HT.Bu]
  |some i=>
   simp only[sliceBounds,HT.Bu,Option.getD_none,show(1:Int) > 0 by decide,if_true];by_cases h:i<0
   .simp only[h,if_true]<;>lia
   .simp only[h,if_false]<;>lia
 .cases hi with
  |none=>simp[sliceBounds,HT.Bu]
  |some i=>
   simp only[sliceBounds,HT.Bu,Option.getD_none,show(1:Int) > 0 by decide,if_true];by_cases h:i<0
   .simp only[h,if_true]<;>lia
   .simp only[h,if_false]<;>lia
def Uk(g:tm)(lo hi:uF):slicePick g.toArray lo hi none=((g.drop (HT.Bu g.length 0 lo)).take (HT.Bu g.length g.length hi-HT.Bu g.length 0 lo)).toArray:=by
 obtain⟨Y,U,T⟩:=Wm lo hi g.toArray.size;unfold slicePick;rw[Y,U,T];simp only[sliceRange_one,pick_run,List.size_toArray]<;>rfl
def rB(K:Fg):V->Option Int->Option Int->Hp->VK->Prop:=fun x lo hi H Q=>∃a xs,x=.ref a/\Ar K H a xs/\∀p,H p=none->Q vS (upd H p (.lst (OT xs lo hi)))
def jE:WG X (rB X.K):=by
 intro pins s σ H x v vl vu lo hi sl Q I U hs Z Y h;obtain⟨a,xs,rfl,hx,q⟩:=h;cases U;obtain⟨its,r,T,hz⟩:=I.list hx;have g:=r.length;refine⟨"list",_,slot_list_getitem.lookup,T.isList.typeIs,?_⟩;refine wpAny_getItem_list_slice T.isList hs Z Y .none As ?_ (by rw[List.size_toArray]<;>lia);rw[Uk,<-g];refine⟨.ref s.heap.objs.size,_,I.laid (t':=s.toks) (o:=.lst (OT xs lo hi)) (fun b ob q=>aE _ q) UF ?_,rfl,q _ zDs⟩;exact⟨aP (Py xs lo hi) hz,_,0,(r.drop zQ).take ss,Heap.get?_push_size _ rfl⟩
def CS:FV X (.builtin "len") (fun xs H Q=>∃p ys,xs=[.ref p]/\zv/\Q (.int ys.length) H):=by
 intro pins s σ H xs us Q I r h;obtain⟨p,ys,rfl,T,q⟩:=h;obtain⟨u,rfl,rx⟩:=vals1 r;cases rx;have hn:=OO;rcases T with T|T
 .obtain⟨Z,U,Y,hz⟩:=I.list T;have g:=U.length;exact Calls.call_len_list Y.isList rc ⟨.int ys.length,H,I.tok _,⟨s.toks+1,by rw[List.size_toArray,g]⟩,q⟩
 .obtain⟨Z,U,Y,hz⟩:=I.tuple T;have g:=U.length;exact len_tuple Y rc ⟨.int ys.length,H,I.tok _,⟨s.toks+1,by rw[List.size_toArray,g]⟩,q⟩
def FV.or{f:VL}{r g:zAk}(h:FV X f r)(h':FV X f g):FV X f (fun xs H Q=>r xs H Q\/g xs H Q):=by
 intro pins s σ H xs us Q I rs q;rcases q with q|q
 .exact h pins s σ H xs us Q I rs q
 .exact h' pins s σ H xs us Q I rs q
def WV:FV X iF (fun xs H Q=>∃p ys,xs=[.ref p]/\zv/\∀l,H l=none->Q ui (upd H l Jw)):=by
 intro pins s σ H xs us Q I r h;obtain⟨p,ys,rfl,Z,q⟩:=h;obtain⟨u,rfl,rx⟩:=vals1 r;cases rx;have fin:∀(g:ST),Vals ys g->ys.length<=sizeLine->∀(h':Heap) (U:Nat),(∀b o',s.heap.get? b=some o'->h'.get? b=some o') ->
   h'.get? s.heap.objs.size=some { cls:=.type "list",dict:=none,data:=.seq g.toArray U,slots:=#[]}->EP X pins σ Q Do Nz:=fun g T Y h' U kp e=>
  ⟨.ref s.heap.objs.size,_,I.laid (t':=s.toks) kp UF (show Cj X.prog X.w _ h' _ Jw from⟨Y,g,U,T,e⟩),rfl,q _ zDs⟩
 rcases Z with Z|Z
 .obtain⟨g,T,pl,Y⟩:=I.list Z;have hlen:=T.length;obtain⟨o,ho,hc,n,hd⟩:=pl.isList;exact call_list_seq p db ho hc hd (fun h' U kp e=>fin g T Y h' U kp e) rc
 .obtain⟨g,T,pl,Y⟩:=I.tuple Z;have hlen:=T.length;obtain⟨o,ho,hc,n,hd⟩:=pl;exact call_list_seq p (.inr rfl) ho hc hd (fun h' U kp e=>fin g T Y h' U kp e) rc
def Ua:FV X FS (fun xs H Q=>∃p ys,xs=[.ref p]/\((Ar X.K H p ys/\∀l,H l=none->Q ui (upd H l yt))\/(BJ X.K H p ys/\Q vS H))):=by
 intro pins s σ H xs us Q I r h;obtain⟨p,ys,rfl,h⟩:=h;obtain⟨u,rfl,rx⟩:=vals1 r;cases rx;rcases h with ⟨Y,q⟩|⟨Y,q⟩
 .obtain⟨g,T,U,Z⟩:=I.list Y;have hlen:=T.length;refine call_tuple_list U.isList (fun h' kp=>?_) rc;have I1:Inv X pins σ H Nz:=I.kept (t':=s.toks) kp;have I2:Inv X pins σ (upd H h'.objs.size yt) {s with heap:=h'.push { cls:=.type "tuple",data:=.seq g.toArray} } :=
   I1.laid (t':=s.toks) (fun b o e=>aE _ e) UF (show Cj X.prog X.w _ _ _ yt from⟨Z,g,T,IsTup.new _ _⟩)
  exact⟨.ref h'.objs.size,_,I2,rfl,q _ (I1.Aw.fresh UF)⟩
 .obtain⟨g,T,U,Z⟩:=I.tuple Y;exact call_tuple_same U ⟨.ref p,H,I,rfl,q⟩
def qh(K:Fg)(T:wN)(x:V)(H:Hp):Prop:=match x with
 |.str _=>T = "str"
 |.int _=>T = "int"
 |.ref p=>(T = "list" /\ ∃xs,Ar K H p xs)\/(T = "tuple" /\ ∃o,K.lookup p=some o/\o.cls=.type "tuple" /\ o.dict=none) \/
   (T = "dict" /\((∃kvs,H p=some (.dK kvs))\/∃kvs,H p=some (.dT kvs)))\/(T = "set" /\ ∃S n,H p=some (.set S n))
 |_=>False
def mz{pins:Cl}{σ:St}{H:Hp}{s:SD}{T:wN}{x:V}{v:VL}(I:BY)(r:RelV x v)(ty:qh X.K T x H):s.TypeIs v T/\∀a,v=.ref a->∃ob,s.heap.get? a=some ob/\ob.dict=none:=by
 cases x with
 |str z=>
  obtain⟨t,rfl⟩:=r;cases (show T = "str" from ty);exact⟨typeIs_str s z t,fun _ e=>nomatch e⟩
 |int i=>
  obtain⟨t,rfl⟩:=r;cases (show T = "int" from ty);exact⟨typeIs_int s i t,fun _ e=>nomatch e⟩
 |ref p=>
  cases r;rcases ty with ⟨rfl,xs,Z⟩|⟨rfl,o,hk,hc,hd⟩|⟨rfl,hk⟩|⟨rfl,S,n,hk⟩
  .obtain⟨Y,_,U,_⟩:=I.list Z;refine⟨U.isList.typeIs,fun a e=>?_⟩;cases e;obtain⟨o,n,e,c,hd,_⟩:=U;exact⟨o,e,hd⟩
  .refine⟨⟨o,I.Hc p o hk,hc⟩,fun a e=>?_⟩;cases e;exact⟨o,I.Hc _ o hk,hd⟩
  .have z:∃o,s.heap.get? p=some o/\o.ExactDict:=by
    rcases hk with ⟨kvs,hk⟩|⟨kvs,hk⟩
    .obtain⟨_,_,_,_,o,_,_,e,ex,_⟩:=I.Aw p _ hk;exact⟨o,e,ex⟩
    .obtain⟨_,_,_,_,o,_,_,e,ex,_⟩:=I.Aw p _ hk;exact⟨o,e,ex⟩
   obtain⟨o,e,ex⟩:=z;refine⟨⟨o,e,ex.1⟩,fun a g=>?_⟩;cases g;exact⟨o,e,ex.2.1⟩
  .obtain⟨o,_,_,_,e,ex,_⟩:=I.Aw p _ hk;refine⟨⟨o,e,ex.1⟩,fun a g=>?_⟩;cases g;exact⟨o,e,ex.2.1⟩
 |_=>exact False.elim ty
def lU(K:Fg)(T:wN)(r:zK)(U:TE)(t:TA):TE:=fun σ H Q=>U σ H fun x g=>qh K T x g/\t σ g fun xs Y=>r x xs Y Q
variable{o e:Expr}{es:uD}{to:TE}{t:TA}{name:Str}{apos cpos:Pos}{T id:wN}{r:zK}
def Hz(pa:PlainAttrs T)(slot:Slot T name id)(hty:typeOf wT=pure (.type "method_descriptor"))(hm:sm X id r)(ho:PE X o to)(ha:za) (Y:attributeBase o name X.env (eval o X.env)=eval o X.env:=by rfl) (Z:((backTo cpos (starEach zCh X.env)).all (fun x=>!x.1)&&(backToKw cpos (keywordEach [] X.env)).all (fun x=>x.1.isSome) && decide ((e::es).length+([]:List Keyword).length+(if([]:List Keyword).isEmpty then 0 else 1)<30))=true:=by rfl) (U:(apos.endLine==cpos.line)=true:=by rfl)(hs:starEach zCh X.env=Jo::starEach es X.env:=by rfl)(g:(backTo cpos Ol).any To=false:=by rfl):PE X (.Call (.Attribute o name apos) zCh [] cpos) (lU X.K T r to t):=by
 intro pins s σ H Q I h;refine wpAny_Call_method_late Y Z U rfl (BV (ho pins s σ H _ I h) fun v s1 ⟨x,H1,I1,r1,ty,q1⟩=>?_);obtain⟨h1,h2⟩:=mz I1 r1 ty;refine⟨T,id,pa,slot,hty,h1,h2,?_⟩;have hA:=ha cpos pins s1 σ H1 _ I1 q1;rw[hs]at hA ⊢;refine Calls.callWith_builtin (by show(false||(backTo cpos Ol).any To)=false;rw[g]<;>rfl) (Calls.evalArgs_plain ?_);exact BV hA fun us s2 ⟨vs,H2,I2,r2,q2⟩=>hm pins s2 σ H2 x vs v us Q I2 r1 r2 q2
end
def qi(X:Cx)(id:wN)(r:zK):Prop :=
 ∀(pins:Cl) (s:SD) (σ:St) (H:Hp) (x:V) (xs:ON) (v:VL) (us:ST) (Q:VK),Inv X pins σ H s->RelV x v->Vals xs us->r x xs H Q ->
  wpAny By X.A (call wT (v::us)) ge X.xe s
def Vals.one:∀ {x:V} {us:ST},Vals [x] us->∃u,us=[u]/\RelV x u
 |_,_,.cons r .nil=>⟨_,rfl,r⟩
def Vals.two:∀ {x y:V} {us:ST},Vals [x,y] us->∃u v,us=[u,v]/\RelV x u/\RelV y v
 |_,_,_,.cons r (.cons q .nil)=>⟨_,_,rfl,r,q⟩
def Vals.rep{xs:ON}{us:ST}(h:Vals xs us):∀k:Nat,Vals (List.replicate k xs).flatten (List.replicate k us).flatten
 |0=>.nil
 |k+1=>by
  rw[List.replicate_succ,List.replicate_succ,List.flatten_cons,List.flatten_cons];exact Vals.append h (Vals.rep h k)
def foldl_rep(g:ST):∀(k:Nat) (T:ST),
  List.foldl (fun Y U=>Y++U) T.toArray (List.replicate k g.toArray)=(T++(List.replicate k g).flatten).toArray
 |0,T=>by simp
 |k+1,T=>by
  have e:T.toArray++g.toArray=(T++g).toArray:=by simp
  have Z:(T++g)++(List.replicate k g).flatten=T++(List.replicate io g).flatten:=by
   rw[List.replicate_succ,List.flatten_cons,List.append_assoc]
  rw[<-Z,<-foldl_rep g k (T++g),<-e,List.replicate_succ,List.foldl_cons]
section
variable{X:Cx}{pins:Cl}{σ:St}{H:Hp}{s:SD}{l:AD}{xs ys:uI}
def Inv.nz{g its':tm}{n:Nat}{f:Array VL->Array VL}{t':Nat}(I:BY)(Z:H l=some NE) (e:s.heap.get? l=some { cls:=.type "list",data:=.seq g.toArray n})(Y:f g.toArray=its'.toArray)(T:Vals ys its')(hz:ys.length<=sizeLine):Inv X pins σ (upd H l Jw) {s with heap:=s.heap.update l (Obj.mapSeq f),toks:=t'}:=by
 have q:=PySem.IsL.update e f;rw[Y]at q;refine I.write (x:=l) (e:=l) (by rw[Z];exact trivial) db (fun b' u hb U=>(Heap.get?_update_other s.heap (Obj.mapSeq f) (Ne.symm hb)).trans U) ⟨_,q⟩ ?_;exact⟨hz,its',_,T,q⟩
def Inv.j8{g:tm}{t':Nat}(I:BY)(T:Vals ys g)(hz:ys.length<=sizeLine):Inv X pins σ (upd H s.heap.objs.size Jw) {s with heap:=s.heap.push { cls:=.type "list",data:=.seq g.toArray},toks:=t'} :=
 I.laid (fun _ _ q=>aE _ q) UF ⟨hz,g,0,T,Heap.get?_push_size _ rfl⟩
def Inv.fresh(I:BY):H s.heap.objs.size=none:=I.Aw.fresh UF
def Inv.Se(I:BY)(T:H l=some NE):xs.length<=sizeLine/\∃(g:tm) (n:Nat),Vals xs g/\xs.length=g.length/\s.heap.get? l=some { cls:=.type "list",data:=.seq g.toArray n}:=by
 obtain⟨z,g,n,r,e⟩:=I.Aw l _ T;exact⟨z,g,n,r,r.length,e⟩
def VB{n:Nat}(h:n<=sizeLine):Builtin.List.listTooLong n=false:=by
 unfold Builtin.List.listTooLong;exact bL AC
end
section
variable{X:Cx}
def Xk:V->List V->Hp->VK->Prop:=fun x vs H Q=>∃l xs y,x=.ref l/\vs=[y]/\H l=some NE/\xs.length<sizeLine/\Q .Bq (upd H l (.lst (xs++[y])))
def FK:qi X "list.append" Xk:=by
 intro pins s σ H x vs v us Q I Y Z h;obtain⟨l,xs,y,rfl,rfl,U,hz,q⟩:=h;cases Y;obtain⟨u,rfl,ru⟩:=Z.one;obtain⟨z,g,n,r,hl,e⟩:=I.Se U;refine call_meets F.slot_list_append ⟨_,e,rfl⟩ F.entry_list_append (F.args_list_append_2 _ _) (PySem.list_append l g.toArray n u (by rw[List.size_toArray];lia)) ⟨e,?_⟩;refine⟨.Bq,_,I.nz (its':=g++[u]) U e As (r.append (.cons ru .nil)) ?_,rfl,q⟩;rw[List.length_append,List.length_singleton]
 lia
def Xx:V->List V->Hp->VK->Prop:=fun x vs H Q=>∃l b xs g,x=.ref l/\vs=[.ref b]/\H l=some NE/\H b=some (.lst g)/\xs.length+g.length<=sizeLine/\Q .Bq (upd H l (.lst (xs++g)))
def Ln:qi X "list.extend" Xx:=by
 intro pins s σ H x vs v us Q I rx rv h;obtain⟨l,b,xs,zs,rfl,rfl,hH,hB,hz,q⟩:=h;cases rx;obtain⟨u,rfl,ru⟩:=rv.one;cases ru;obtain⟨z,T,n,r,hl,e⟩:=I.Se hH;obtain⟨z2,g,n2,r2,hl2,e2⟩:=I.Se hB;have Y:T.toArray.size+g.toArray.size<=sizeLine:=by rw[List.size_toArray,List.size_toArray];lia
 have U:¬(!T.toArray.isEmpty&&Builtin.List.listTooLong (T.toArray.size+g.toArray.size))=true:=by
  rw[VB Y,Bool.and_false];exact aM
 refine call_meets F.slot_list_extend ⟨_,e,rfl⟩ F.entry_list_extend (F.args_list_extend_2 _ _)
  (AutoSeq1.list_extend_list_list_0 l T.toArray n b g.toArray n2 U (by rw[List.size_toArray];lia) AC) ⟨e,e2,?_⟩
 refine⟨.Bq,_,I.nz (its':=T++g) hH e As (r.append r2) ?_,rfl,q⟩;rw[List.length_append]
 lia
def sR:R2:=fun x y H Q=>∃l b xs g,x=.ref l/\y=.ref b/\H l=some NE/\H b=some (.lst g)/\xs.length+g.length<=sizeLine/\∀p,H p=none->Q vS (upd H p (.lst (xs++g)))
def VG:DJ X vd sR:=by
 intro pins s σ H x y v u Q I Y U h;obtain⟨l,b,xs,zs,rfl,rfl,hH,hB,hz,q⟩:=h;cases Y;cases U;obtain⟨z,T,n,r,hl,e⟩:=I.Se hH;obtain⟨z2,g,n2,Z,hl2,e2⟩:=I.Se hB;refine PySem.P.add_list e e2 ?_ (by rw[List.size_toArray,List.size_toArray];lia);have ea:T.toArray++g.toArray=(T++g).toArray:=by simp
 rw[ea];exact⟨.ref _,_,I.j8 (t':=s.toks) (r.append Z) (by rw[List.length_append];lia),rfl,q _ I.fresh⟩
def qy:R2:=fun x y H Q=>∃l k xs,x=.ref l/\y=.int k/\H l=some NE/\-(2^63)<=k/\k<2^63/\xs.length*k.toNat<=sizeLine /\
 ∀p,H p=none->Q vS (upd H p (.lst (List.replicate k.toNat xs).flatten))
def len_rep{α:Type}(xs:mu)(k:Nat):(List.replicate k xs).flatten.length=k*xs.length:=by
 induction k with
 |zero=>simp
 |succ k g=>rw[List.replicate_succ,List.flatten_cons,List.length_append,g,Nat.succ_mul,Nat.add_comm]
def cH:DJ X zw qy:=by
 intro pins s σ H x y v u Q I rx ry h;obtain⟨l,k,xs,rfl,rfl,hH,h1,h2,hz,q⟩:=h;cases rx;obtain⟨t,rfl⟩:=ry;obtain⟨z,g,n,r,hl,e⟩:=I.Se hH;have hlen:g.toArray.size*k.toNat<=sizeLine:=by rw[List.size_toArray,<-hl];exact hz
 have hcap:¬g.toArray.size*k.toNat > (2^63-1) / 8:=by
  have:(sizeLine:Nat)<=(2^63-1) / 8:=by decide
  lia
 have hfit:¬(!Builtin.List.listFitsIndex k)=true:=by
  rw[fitsIndex_both h1 h2];exact aM
 have Y:¬Builtin.List.listTooLong (g.toArray.size*k.toNat)=true:=by
  rw[VB hlen];exact aM
 have Z:List.foldl (fun x1 x2=>x1++x2) #[] (List.replicate (if g.toArray.isEmpty=true then 0 else k.toNat) g.toArray)=(List.replicate k.toNat g).flatten.toArray:=by
  have f0:∀m:Nat,List.foldl (fun x1 x2=>x1++x2) #[] (List.replicate m g.toArray)=(List.replicate m g).flatten.toArray:=fun m=>by
   have:=foldl_rep g m [];rw[List.nil_append]at this;exact this
  rw[f0];cases g with
  |nil=>simp
  |cons a r'=>rw[if_neg As]
 refine wpAny_binaryOp_repeat_ref (T := "list") (U := "int") AT ⟨_,e,rfl⟩ (fun s'=>typeIs_int s' k t) noFill_list_mul F.fills_int_mul F.slot_int_rmul repeat_list F.slot_int_index.lookup
  (call_meets F.slot_int_rmul (typeIs_int s k t) F.entry_int_rmul (F.args_int_rmul_2 _ _) (int___rmul___int_list k t l g.toArray n)
   ⟨e,rfl,⟨_,e,rfl⟩,call_meets F.slot_list_mul ⟨_,e,rfl⟩ F.entry_list_mul (F.args_list_mul_2 _ _) (AutoListH.list___mul___list_int_3 l g.toArray n k t hfit hcap Y) ⟨e,?_⟩⟩)
 rw[Z];exact⟨.ref _,_,I.j8 (t':=s.toks) (r.rep k.toNat) (by rw[len_rep,Nat.mul_comm];exact hz),rfl,q _ I.fresh⟩
end
end L2
namespace Att
open PySem PySem.W PySem.Calls PyProof.Rows
def RQ{P:Params}{h:Heap}:∀(ns:uB) (vs:tm),WellAll P h vs (ns.map WData.int)->IntsAre vs ns:=by
 intro ns
 induction ns with
 |nil=>
  intro vs w;rw[List.map_nil]at w;cases w;exact .nil
 |cons n ns g=>
  intro vs w;rw[List.map_cons]at w;cases w with
  |cons a b=>
   cases a;exact .cons _ _ (g _ b)
def cX{l:OpenLaw}{n:Nat}(hn:l.most=some n){P:Params}{h:Heap}{args:List WData}{vals:tm} (g:l.row.toRowW.claim.pre args=true)(hwl:WellAll P h vals args):∃a vs ns,vals=[Value.ref a]/\args=[WData.list (ns.map WData.int)]/\h.get? a=some { cls:=.type "list",data:=.seq vs.toArray}/\IntsAre vs ns/\ns.length<=n:=by
 have hsh:WShape.hasAll [] args [.list .int]=true:=(pre_splitW g).1;have hc:l.pre.holds [] { args:=args}=true:=(pre_splitW g).2;obtain⟨d,r,rfl,h1,h2⟩:=hasAllW_cons hsh;obtain rfl:=hasAllW_nil h2;obtain⟨xs,rfl,h3⟩:=hasW_list h1;obtain⟨ns,rfl⟩:=items_int h3;have T:ns.length<=n:=by
  unfold OpenLaw.pre at hc;have Z:(WTm.not (.lt (.lit (.int (n:Int))) (.len (.arg 0)))).holds [] { args:=[.list (ns.map .int)]}=true:=by
   have Z:=(holds_andW hc).1;rw[hn]at Z;exact Z
  have Y:=condW_of Z (w_not (w_lt w_lit (w_len_list (w_arg rfl))));rw[List.length_map]at Y;refine Nat.le_of_not_lt fun q=>?_;have q':(n:Int)<((ns.length:Nat):Int):=by lia
  first
   |(rw[decide_eq_true q']at Y;exact absurd Y AT)
   |(simp at Y;lia)
 cases hwl with
 |cons w1 w2=>
  cases w2;cases w1 with
  |list ho U=>exact⟨_,_,ns,rfl,rfl,ho,RQ ns _ U,T⟩
def cw(l:OpenLaw)(args:List WData):l.row.toRowW.claim.post args Iu args=true :=
 postW_of (r:=l.row.toRowW) (X:=(true==true))
  (show WShape.has [] Iu .bool=true by first|rfl|decide|simp[WShape.has,WShape.arms,WShape.armsAll])
  (show(WTm.eq .res (.lit Iu)).value [] { args:=args,res:=some Iu,after:=args}=some (.bool (true==true)) from w_eq_bool (w_res rfl) w_lit) rfl
def XC{l:OpenLaw}{n:Nat}{q:Go}{loose:uC}{XP:(t7)->Heap->Prop}{YP:World->Heap->Prop}{d:DefRec} (hn:l.most=some n)(hdf:d.params.defaults=[]) (call:∀(w:KB) (s₀ g:SD) (mg mb:t7) (fa:AD) (o:Obj) (pm cd doc:VL) (a:AD) (vs:tm) (ns:uB),Ground q loose [] XP w s₀ mg mb g.heap->YP w g.heap ->g.heap.get? fa=some o->o.data=.func (docDef d.name d.params d.body d.scope pm cd doc)->g.heap.CodeRec cd d.name->mg d.name=some (.ref fa) ->g.heap.get? a=some { cls:=.type "list",data:=.seq vs.toArray}->IntsAre vs ns->ns.length<=n->g.gens=#[] ->codeAny (model l.prog w) callerA yV zCa g):WalkO q loose XP YP l.row.toRowW d [] xZ:=by
 intro w s₀ g mg mb G Y fa o pm cd doc dV kV ho hd hcd hD hmg hg args vals as T hlay hrd hwl hlo;obtain rfl:dV=.none:=Dflts.none hD hdf;obtain rfl:kV=.none:=Dflts.noKw hD;obtain⟨a,vs,ns,rfl,rfl,U,hints,Z⟩:=cX hn T hwl;refine enter_call (codeAny_mono (call w s₀ g mg mb fa o pm cd doc a vs ns G Y ho (fd_plain hd) hcd hmg U hints Z hg) fun r s' hq=>?_);obtain⟨rfl,h2,h3,h4⟩:=hq;exact⟨.inl ⟨.bool true,.bool true,[],rfl,fun _=>rfl,.bool true,cw l _,fun _=>⟨List.Pairwise.nil,fun _ hm=>(nomatch hm)⟩⟩,h2,h3,h4⟩
end Att
namespace L2
open PySem PySem.Spec PyProof.Rows
def UB:∀ {vs:ST} {ns:wq},IntsAre vs ns->Vals jp vs
 |_,_,.nil=>.nil
 |_,_,.cons n t h=>.cons ⟨t,rfl⟩ (UB h)
def eJ(H:Hp):Prop:=∀b,H b=none\/∃o xs,H b=some (.GH o NE)
def eF{P:Go}{w:KB}{K:Fg}{mg mb:t7}{CX:Hm}{k:Nat}{fa a:AD}{fd:Fr}{x:Str}{sp:Sp}{g:SD}{vs:tm}{ns:uB} (KX:K.In g.heap)(hns:g.heap.Ns mainGlobals mg)(hb:g.heap.Ns builtinsNs mb)(hbb:∀x:Str,x ≠ "__name__" -> mb x=bootBuiltins x)(hlim:g.heap.NoLimit)(hg:g.gens=#[]) (ha:g.heap.get? a=some { cls:=.type "list",data:=.seq vs.toArray})(hi:IntsAre vs ns)(hl:ns.length<=sizeLine)(hr:DQ k callerA)(hkt:∀H,KTb mg H) (F:∀base:Heap,K.In base->base.Ns mainGlobals mg->AI P w K mg base CX k fa fd [x] sp)(U:∀(s:SD) (u:VL),BindsTo s fd ⟨[u],[]⟩ [(x,u)]) (hsp:∀H:Hp,eJ H->Ar K H a jp->sp [.ref a] H (fun v _=>v=.bl true) fun _ _ _=>False) (hCX:∀H e s',CX [] H g (fun _ _ _=>False) e s'->False):codeAny ww callerA yV zCa g:=by
 have rv:=UB hi;have Z:=hi.length;have core:∀H:Hp,eJ H->Ar K H a jp->Et P w H g.heap->(∀b,H b≠none->b=a)->(H a≠none->K.lookup a=none) ->
   codeAny ww callerA yV zCa g:=by
  intro H hO hS Aw hA hK;have base_of:∀ {b:AD} {o:Obj},g.heap.get? b=some o->H b=none->(Nf g.heap H).get? b=some o:=fun e n=>fZ e n;have noA:∀ {b:AD} {o:Obj} {es:Array DictEntry} {ep:Nat},g.heap.get? b=some o->o.data=.dict es ep->H b=none:=fun {b o es ep} e d=>by
   cases q:H b with
   |none=>rfl
   |some u=>
    have e':b=a:=hA b (by rw[q];simp);subst e';rw[ha]at e;cases e;have d':Data.seq vs.toArray _=Data.dict es ep:=d;cases d'
  have T:∀ {b:AD} {m:zBs},g.heap.Ns b m->(Nf g.heap H).Ns b m:=fun {b m} ⟨o,es,ep,e,d,r⟩=>⟨o,es,ep,base_of e (noA e d),d,r⟩;have hKb:K.In (Nf g.heap H):=fun b o e=>base_of (KX b o e) (by
   cases q:H b with
   |none=>rfl
   |some u=>
    have e':b=a:=hA b (by rw[q];simp);subst e';rw[hK (by rw[q];simp)]at e;cases e)
  have hM:Mod K mg (Nf g.heap H):=⟨hKb,T hns,⟨mb,T hb,hbb⟩,let⟨mc,h1,h2⟩:=hlim;⟨mc,T h1,h2⟩⟩;have e0:ZV P w K mg (Nf g.heap H) callerA [] g H:=⟨rfl,hM,fun b o e=>iX e,Nat.le_of_eq (Z6 _ _),trivial,fun b hb=>absurd (show b∈([]:List AD) from hb) As,Aw,.of_eq hg,hkt H⟩;refine codeAny_mono ((F _ hKb (T hns)).run callerA [] g H ⟨[.ref a],[]⟩ [.ref a] [.ref a] _ _ hr e0 (U g Jz) (.cons rfl .nil) (hsp H hO hS)) fun r s' h=>?_;cases r with
  |error e=>exact(hCX H e s' h).elim
  |ok fl=>
   cases fl with
   |next=>exact False.elim h
   |brk=>exact False.elim h
   |cont=>exact False.elim h
   |ret u=>
    obtain⟨v,H',os,bare,un,hok',r',q⟩:=h;have q':v=.bl true:=q;subst q';obtain rfl:u=Value.bool true:=r';refine⟨rfl,OldK.of_keep fun b o e=>?_,os,bare⟩;cases q:H b with
    |none=>exact un.keep b o e q (by intro z;exact absurd (show b∈([]:List AD) from z) As) As
    |some u=>
     rcases hO b with z|⟨ob,xs,z⟩
     .rw[q]at z;cases z
     .have z2:=un.Gd b ob _ z;obtain⟨e1,_⟩:=Aw b _ z;obtain⟨e2,_⟩:=hok' b _ z2;rw[e]at e1;cases e1;exact e2
 cases hk:K.lookup a with
 |some o=>
  have e:=KX a o hk;rw[ha]at e;cases e;refine core (fun _=>none) (fun _=>.inl rfl) (.inr ⟨_,vs.toArray,_,hk,rfl,rfl,rfl,by rw[List.size_toArray,Z];exact hl,by simpa using rv⟩) (fun b u z=>by have Y:(none:Option HO)=some u:=z;cases Y) (fun b z=>absurd rfl z) fun z=>absurd rfl z
 |none=>
  refine core (fun b=>if b=a then some (.GH { cls:=.type "list",data:=.seq vs.toArray} (.lst jp)) else none) (fun b=>?_) (.inl (.inr ⟨{ cls:=.type "list",data:=.seq vs.toArray},if_pos rfl⟩)) (fun b u z=>?_) (fun b z=>?_) fun _=>hk
  .by_cases hb:b=a
   .exact .inr ⟨_,_,if_pos hb⟩
   .exact .inl (if_neg hb)
  .by_cases hb:b=a
   .have Y:=(if_pos hb).symm.trans z;cases Y;subst hb;exact⟨ha,by rw[List.length_map];exact hl,vs,_,rv,ha⟩
   .have Y:=(if_neg hb).symm.trans z;cases Y
  .by_cases hb:b=a
   .exact hb
   .exact absurd (if_neg hb) z
def ij{l:PySem.W.OpenLaw}{n k:Nat}{q:Go}{loose:uC}{XP:(t7)->Heap->Prop}{YP:World->Heap->Prop}{d:DefRec}{K:Params->Fg}{CX:World->Hm}{sp:World->Sp}{x:Str} (hn:l.most=some n)(hn2:n<=sizeLine)(hdf:d.params.defaults=[])(hr:DQ k callerA)(hkt:∀(w:KB) (mg:t7) (h:Heap),(K w.params).In h->h.Ns mainGlobals mg->∀H,KTb mg H) (hY:∀(w:KB) (h:Heap),YP w h->(K w.params).In h) (F:∀(w:KB) (mg:t7) (fa:AD) (h:Heap),(K w.params).In h->h.Ns mainGlobals mg->mg d.name=some (.ref fa) ->∃fd:FuncData,(∀(s:SD) (u:VL),BindsTo s fd ⟨[u],[]⟩ [(x,u)]) /\∀base:Heap,(K w.params).In base->base.Ns mainGlobals mg->AI l.prog w (K w.params) mg base (CX w) k fa fd [x] (sp w)) (hsp:∀(w:KB) (H:Hp) (a:AD) (ns:uB),ns.length<=n->eJ H->Ar (K w.params) H a jp->sp w [.ref a] H (fun v _=>v=.bl true) fun _ _ _=>False) (hCX:∀(w:KB) (H:Hp) (s:SD) (e:VL) (s':SD),CX w [] H s (fun _ _ _=>False) e s'->False):PySem.W.WalkO q loose XP YP l.row.toRowW d [] xZ:=by
 refine Att.XC hn hdf fun w s₀ Z mg mb fa o pm cd doc a vs ns G Y ho hd hcd hmg hobj hints U hg=>?_;have KX:=hY w _ Y;obtain⟨fd,hb,hF⟩:=F w mg fa _ KX G.T.g hmg;exact eF (hkt:=hkt w mg _ KX G.T.g) KX G.T.g G.T.b G.T.builtins G.T.nolimit hg hobj hints (aP U hn2) hr hF hb (fun H hO hS=>hsp w H a ns U hO hS) fun H e s'=>hCX w H Z e s'
abbrev Ai:Hm:=fun _ _ _ _ _ _=>False
abbrev E0:XK:=fun _ _ _=>False
def qG{X:Cx}:Passes Ai X E0:=fun _ _ _ _ _ _ _ h=>h.elim
structure T4(K:Fg)(x qual:Str)(st:Stmt)(f:Addr)(fd:Fr):Prop where
 ex:∃(oc:Value) (od:Option Addr) (kV doc pm:Value) (an:Option Addr) (cdv ct:Value) (osl:Array (Option Value)),
  fd=PySem.W.fnOf x qual (HR st) (EC st) xc .none kV doc pm an cdv ct/\K.lookup f=some ⟨oc,od,.func fd,osl⟩/\PySem.W.codeIn K cdv qual=true
 kp:PySem.W.keepIn K xo=true
section
variable{P:Go}{w:KB}{K:Fg}{mg:t7}{base:Heap}
def T4.ok{x qual:Str}{st:Stmt}{f:AD}{fd:Fr}{N ps:uC}{k:Nat}{sp:Sp}(F:T4 K x qual st f fd)(S:Ah N ps xc)(len:wp) (g:∀(cdv:VL) (A:OR) (outer:uM) (s:SD) (H:Hp) (vs:uI) (Q:VK) (E:XK),DQ k (A.deeper (envOfC qual xc s.heap.objs.size f cdv))->sp vs H Q E ->∃t,IW (Cq Ai P w K mg base N qual xc f cdv A outer s H E).I0 (EC st) t/\t { nx:=fun _ H'=>Q .Bq H',rt:=Q} zO H):AI P w K mg base Ai io f fd ps sp:=by
 obtain⟨oc,od,kV,doc,pm,an,cdv,ct,osl,rfl,lk,U⟩:=F.ex;refine gk lk U S len fun A outer s H vs Q E Y T=>?_;obtain⟨t,h,q⟩:=g cdv A outer s H vs Q E Y T;exact⟨t,h.I0,q⟩
def T4.binds{x qual:Str}{st:Stmt}{f:AD}{fd:Fr}{ps:uC}(F:T4 K x qual st f fd) (h:∀(kV doc pm:VL) (an:Option AD) (cdv ct:VL) (us:tm),us.length=ps.length->bindArgs uP ⟨us,[]⟩=pure (ps.zip us)):Binds K fd ps []:=by
 obtain⟨oc,od,kV,doc,pm,an,cdv,ct,osl,rfl,lk,g⟩:=F.ex;exact .all (h kV doc pm an cdv ct)
def cz{x qual:Str}{st:Stmt}{f:AD}{oc:VL}{od an:Option AD}{osl:Array (Option VL)}{kV doc pm cdv ct:VL}(l:K.lookup f=some ⟨oc,od,.func uP,osl⟩) (c:PySem.W.codeIn K cdv qual=true)(k:PySem.W.keepIn K xo=true):T4 K x qual st f uP:=⟨⟨oc,od,kV,doc,pm,an,cdv,ct,osl,rfl,l,c⟩,k⟩
end
def T6{n:Nat}(h:n<=1000):n<sizeLine:=aR h AT
section
variable{X:Cx}
def pv(i:Nat){x:Str}{pos:Pos}(U:X.N[i]? = some x:=by rfl)(T:nE X.env.scope x:=by first|exact Or.inl rfl|exact Or.inr At|exact Or.inr x9)(hd:GM=false:=by decide) (g:(x==("__classdict__" : Str))=false:=by decide):PE X ur (QP i):=oC U T hd g
end
def U7{A B:Prop}(h:B):if false=true then A else B:=by
 rw[if_neg aM];exact h
def E8{A B:Prop}(h:A):if true=true then A else B:=by
 rw[if_pos rfl];exact h
def Eb{c A B:Prop}[Decidable c](T:c->A)(g:¬c->B):if c then A else B:=by
 by_cases h:c
 .rw[if_pos h];exact T h
 .rw[if_neg h];exact g h
def AL(H H':Hp):Prop:=∀b o,H b=some o->H' b=some o
def AL.refl(H:Hp):AL H H:=fun _ _ h=>h
def AL.trans{H T g:Hp}(a:AL H T)(b:AL T g):AL H g:=fun c o h=>b c o (a c o h)
def AL.seq{K:Fg}{H H':Hp}{a:AD}{xs:uI}(e:ug)(h:Ar K H a xs):Ar K H' a xs:=by
 rcases h with (h|⟨o,h⟩)|h
 .exact .inl (.inl (e _ _ h))
 .exact .inl (.inr ⟨o,e _ _ h⟩)
 .exact .inr h
section
variable{X:Cx}
def Nd(i j:Int):Prop:=∃m:Nat,m<=1000000/\i.natAbs<2^m/\j.natAbs<2^m
def Nd.ok{i j:Int}(h:Nd i j):IntMulOk i j:=by
 obtain⟨m,hm,T,g⟩:=h;exact IntMulOk.of_le (intBits_le_iff.mpr T) (intBits_le_iff.mpr g) AC
def Cy:DJ X zw (rI (fun i j=>QQ i j\/Nd i j) fun i j=>.int (i*j)) :=
 Xq fun _ _ _ _ _ _ _ g q=>mul_int q (g.elim (fun z=>z.ok) fun z=>z.ok)
def pF(_i j:Int):Prop:=j≠0/\∃m:Nat,m<=9000/\j.natAbs<2^m
def Fb:DJ X (binaryOp .FloorDiv) (rI pF fun i j=>.int (i.fdiv j)):=Xq fun i j _ _ _ _ _ T q=>by
 obtain⟨h0,m,hm,U⟩:=T;refine floordiv_int h0 q (.inl (PyProof.noPylong_of_log2 ?_));have g:j.natAbs≠0:=by lia
 have:j.natAbs.log2<m:=(Nat.log2_lt g).mpr U
 lia
mutual
def Br(K:Fg)(H:Hp):PD->V->Prop
 |.none,v=>v=.Bq
 |.bool b,v=>v=.bl b
 |.int i,v=>v=.int i
 |.str x,v=>v=.str x
 |.tuple g,v=>∃a xs,v=.ref a/\BJ K H a xs/\HD K H g xs
 |.list g,v=>∃a xs,v=.ref a/\Ar K H a xs/\HD K H g xs
 |.dict _,_=>False
def HD(K:Fg)(H:Hp):List PD->List V->Prop
 |[],xs=>xs=[]
 |d::g,xs=>∃x r,xs=x::r/\Br K H d x/\HD K H g r
end
def AL.tup{K:Fg}{H H':Hp}{a:AD}{xs:uI}(e:ug)(h:BJ K H a xs):BJ K H' a xs:=by
 rcases h with (h|⟨o,h⟩)|h
 .exact .inl (.inl (e _ _ h))
 .exact .inl (.inr ⟨o,e _ _ h⟩)
 .exact .inr h
mutual
def Br.reads{pins:Cl}{σ:St}{H:Hp}{s:SD}(I:BY):∀ {d:PD} {v:V} {u:VL},Br X.K H d v->RelV v u->∃as,Reads s.heap u d as
 |.none,_,u,h,r=>by rw[Br]at h;subst h;cases r;exact⟨_,.none⟩
 |.bool b,_,u,h,r=>by rw[Br]at h;subst h;cases r;exact⟨_,.bool b⟩
 |.int i,_,u,h,r=>by rw[Br]at h;subst h;obtain⟨t,rfl⟩:=r;exact⟨_,.int i t⟩
 |.str x,_,u,h,r=>by rw[Br]at h;subst h;obtain⟨t,rfl⟩:=r;exact⟨_,.str x t⟩
 |.tuple ds,_,u,h,r=>by
  rw[Br]at h;obtain⟨a,xs,e1,Z,Y⟩:=h;subst e1;cases r;obtain⟨U,g,⟨o,e,c,n,hd⟩,_⟩:=I.tuple Z;obtain⟨as,T⟩:=HD.reads I Y g;exact⟨_,.tuple e c hd uf⟩
 |.list ds,_,u,h,r=>by
  rw[Br]at h;obtain⟨a,xs,e1,Z,Y⟩:=h;subst e1;cases r;obtain⟨U,g,⟨o,n,e,c,_,hd⟩,_⟩:=I.list Z;obtain⟨as,T⟩:=HD.reads I Y g;exact⟨_,.list e c hd uf⟩
 |.dict _,_,_,h,_=>by rw[Br]at h;exact h.elim
def HD.reads{pins:Cl}{σ:St}{H:Hp}{s:SD}(I:BY):∀ {ds:vT} {xs:ON} {us:ST},HD X.K H ds xs->Vals xs us->∃as,ReadsAll s.heap us ds as
 |[],_,us,h,r=>by rw[HD]at h;subst h;cases r;exact⟨_,.nil⟩
 |_::_,_,us,h,r=>by
  rw[HD]at h;obtain⟨x,q,e1,h1,Z⟩:=h;subst e1;cases r with
  |cons Y U=>
   obtain⟨as,T⟩:=Br.reads I h1 Y;obtain⟨bs,g⟩:=HD.reads I Z U;exact⟨_,.cons T g⟩
end
def eU(K:Fg)(neg:Bool):R2:=fun x y H Q=>∃d e,Br K H d x/\Br K H e y/\SeqAt.shaped d=true/\SeqAt.shaped e=true/\Q (.bl (if neg then !PyData.eqv d e else PyData.eqv d e)) H
def kD(Z:Ty):DJ X (compareOp .Eq) (eU X.K false):=by
 intro pins s σ H x y v u Q I T g h;obtain⟨d,e,h1,h2,s1,s2,q⟩:=h;obtain⟨as,Y⟩:=Br.reads I h1 T;obtain⟨bs,U⟩:=Br.reads I h2 g;exact eq_dataH Y U s1 s2 Z ⟨.bl _,H,I,rfl,q⟩
def kX(Z:Ty):DJ X (compareOp .NotEq) (eU X.K true):=by
 intro pins s σ H x y v u Q I T g h;obtain⟨d,e,h1,h2,s1,s2,q⟩:=h;obtain⟨as,Y⟩:=Br.reads I h1 T;obtain⟨bs,U⟩:=Br.reads I h2 g;exact ne_dataH Y U s1 s2 Z ⟨.bl _,H,I,rfl,q⟩
end
def L4(X:Cx)(g:uD)(t:TT):Prop :=
 ∀(pins:Cl) (s:SD) (σ:St) (H:Hp) (Q:zY),Inv X pins σ H s->t σ H Q ->
  wpAny By X.A (forIn g true fun c r=>if r=true then do let ok <-isTrue c X.env (eval c X.env);pure (ForInStep.yield ok) else pure (ForInStep.yield r)) (TP X pins σ Q) X.xe s
def HK:TT:=fun _ H Q=>Q true H
def EW{X:Cx}:L4 X [] HK:=fun _ _ σ H _ I h=>wpAny_tests_nil ⟨H,I,h⟩
def jk{X:Cx}{c:Expr}{t:TT}(h:PT X c t):L4 X [c] t:=by
 intro pins s σ H Q I g;simp only[List.forIn_cons,List.forIn_nil,if_true];refine Wb (Wb (BV (h pins s σ H Q I g) fun b s1 q=>?_));exact aA (aA q)
def Fz(N T:List Str)(sc g:wn):List (Option Nat)->Nat->Bool
 |[],_=>true
 |none::r,i=>Fz N T sc g r On
 |some j::r,i=>(match N[i]?,T[j]? with
   |some n,some m=>n==m&&sc.names.lookup n==some .free&&g.names.lookup n==some .cell
   |_,_=>false)&&Fz N T sc g r On
def Qp{N Y:List Str}{sc g:wn}:∀ {fr:List (Option Nat)} {k:Nat},Fz N Y sc g fr k=true->∀ {i j:Nat},fr[i]? = some (some j) ->
  ∃n,N[k+i]? = some n/\Y[j]? = some n/\sc.names.lookup n=some .free/\g.names.lookup n=some .cell
 |[],_,_,i,j,e=>by simp at e
 |none::r,k,h,0,j,e=>by simp at e
 |none::r,k,h,i+1,j,e=>by
  have q:=Qp (fr:=r) (k:=k+1) h (i:=i) (j:=j) vH;have z:k+On=k+1+i:=by lia
  rw[z];exact q
 |some U::r,k,h,0,j,e=>by
  have e':U=j:=by simpa using e
  subst e';rw[Fz,Bool.and_eq_true]at h;have T:=h.1;split at T
  .rename_i n m hn hm;simp only[Bool.and_eq_true,beq_iff_eq]at T;obtain⟨⟨rfl,h2⟩,Z⟩:=T;exact⟨n,by simpa using hn,hm,h2,Z⟩
  .cases T
 |some U::r,k,h,i+1,j,e=>by
  rw[Fz,Bool.and_eq_true]at h;have q:=Qp (fr:=r) (k:=k+1) h.2 (i:=i) (j:=j) vH;have z:k+On=k+1+i:=by lia
  rw[z];exact q
def carry(fr:uN)(σ:St):St:=fr.map fun o=>match o with
 |some j=>(σ[j]?).join
 |none=>none
def b7{fr:uN}{σ:St}{i:Nat}{v:V}(h:(carry fr σ)[i]? = some xp):∃j,fr[i]? = some (some j)/\σ[j]? = some xp:=by
 unfold carry at h;rw[List.getElem?_map]at h;cases e:fr[i]? with
 |none=>rw[e]at h;cases h
 |some o=>
  rw[e]at h;cases o with
  |none=>simp at h
  |some j=>
   refine⟨j,rfl,?_⟩;simp only[Option.map_some,Option.some.injEq]at h;cases q:σ[j]? with
   |none=>rw[q]at h;cases h
   |some w=>rw[q]at h;simp at h;rw[h]
def HF{env:Env}:∀(names:zAm) (cs:zb),(∀x∈names,x.2=NameKind.free->∃c,env.cells.lookup x.1=some c)->(∀x c,cs.lookup x=some c->env.cells.lookup x=some c) ->
  ∃cl,(forIn names cs (fun(x:Str×NameKind) (r:List (Str×AD))=>do if(x.2==NameKind.free)=true then do let a <-cellOf env x.1;pure (ForInStep.yield ((x.1,a)::r)) else pure (ForInStep.yield r)):Sem (List (Str×AD)))=pure cl /\
   (∀x c,cl.lookup x=some c->env.cells.lookup x=some c)/\(∀x,(∃c,cs.lookup x=some c)->∃c,cl.lookup x=some c)/\∀x∈names,x.2=NameKind.free->∃c,cl.lookup x.1=some c
 |[],cs,_,Z=>⟨cs,rfl,Z,fun _ q=>q,fun _ z=>(by cases z)⟩
 |(n,k)::r,cs,h1,Z=>by
  rw[List.forIn_cons];by_cases hk:(k==NameKind.free)=true
  .obtain⟨c,hc⟩:=h1 (n,k) ae (by simpa using hk);have h2':∀x T,((n,c)::cs).lookup x=some T->env.cells.lookup x=some T:=fun x T e=>by
    rw[List.lookup_cons]at e;cases g:x==n with
    |true=>rw[g]at e;have:=beq_iff_eq.mp g;subst this;simp at e;rw[<-e];exact hc
    |false=>rw[g]at e;exact Z x T e
   obtain⟨cl,q1,q2,U,q4⟩:=HF r ((n,c)::cs) (fun x g=>h1 x (aS _ g)) h2';have hn:∃T,cl.lookup n=some T:=U n ⟨c,by rw[List.lookup_cons,beq_self_eq_true]⟩;refine⟨cl,?_,q2,fun x g=>?_,fun x g Y=>?_⟩
   .simp only[hk,if_true];unfold cellOf;rw[hc];exact q1
   .refine U x ?_;rw[List.lookup_cons];cases hxn:x==n with
    |true=>exact⟨c,rfl⟩
    |false=>exact g
   .rcases aN.mp g with e|g
    .subst e;exact hn
    .exact q4 x g Y
  .obtain⟨cl,q1,q2,U,q4⟩:=HF r cs (fun x g=>h1 x (aS _ g)) Z;refine⟨cl,?_,q2,U,fun x g Y=>?_⟩
   .simp only[hk];exact q1
   .rcases aN.mp g with e|g
    .subst e;exact absurd (by simpa using Y) hk
    .exact q4 x g Y
def A4(X:Cx)(scope:wn)(cl:zb)(N:uC)(C:AD)(s₀:SD)(H₀:Hp)(fp:uK):Cx where
 prog:=X.prog
 w:=X.w
 K:=X.K
 mg:=X.mg
 base:=X.base
 A:=X.A
 N:=N
 s₀:=s₀
 H₀:=H₀
 env:=compEnvC scope cl C X.env
 outer:=X.stack
 stack:=X.stack
 ex:=fp
 fn:=fun _=>false
 calm:=X.calm
 pn:=[]
 xe:=fun _ _=>False
def O5(wi:TI)(fr:uN)(ix:Nat)(T:TT)(te:TE):TE:=fun σ H Q=>wi σ H fun J Z=>∀D,Z D=none->∃W:Nat->Nat->List V->Hp->Prop,(∃m,W 0 m [] (upd Z D li)) /\
 ∀i m ys H,W i m ys H->H D=some Jw/\((J.stop i H/\Q vD H)\/(J.go i H/\ys.length<sizeLine/\∀x H',J.Ft i H x H' ->
  T UV H' fun b Y=>if b=true then te UV Y fun y U=>U D=some Jw/\∃g,g<m/\W On g l8 (upd U D (.lst l8))
   else ∃g,g<m/\W On g ys Y))
structure D7(scope:wn)(N:List Str)(x:Str)(ix:Nat):Prop where
 kind:scope.kind=.function
 cell:∀y∈scope.names,y.2≠.cell
 names:∀y∈scope.names,y.2=.local->scope.names.lookup y.1=some .local
 free:∀y∈scope.names,y.2=.free->scope.names.lookup y.1=some .free
 loc:scope.names.lookup x=some .local
 nd:N.Nodup
 at_:N[ix]? = some x
def lookup_mem{names:zAm}{n:Str}{k:NameKind}:names.lookup n=some k->(n,k)∈names:=by
 induction names with
 |nil=>intro h;cases h
 |cons y r g=>
  intro h;obtain⟨m,j⟩:=y;rw[List.lookup_cons]at h;cases e:n==m with
  |true=>rw[e]at h;have:=beq_iff_eq.mp e;subst this;simp at h;subst h;exact ae
  |false=>rw[e]at h;exact aS _ (g h)
def Vq{scope:wn}{env:Env}(hc:∀y∈scope.names,y.2≠.cell){n:Str}(h:(relabel scope env).names.lookup n=some .cell\/(relabel scope env).names.lookup n=some .free):∃k,(n,k)∈scope.names/\k=NameKind.free:=by
 have key:∀T,(relabel scope env).names.lookup n=some T->(T=.cell\/T=.free)->∃k,(n,k)∈scope.names/\k=NameKind.free:=fun T h hk=>by
  have hm:=lookup_mem h;unfold relabel at hm;obtain⟨⟨m,k⟩,U,e⟩:=aT.mp hm;dsimp only at e;by_cases g:(k==NameKind.free&&env.scope.kind==.function&&env.kindOf m==some .cell)=true
  .rw[if_pos g]at e
   injection e with Y Z
   subst Y;refine⟨k,U,?_⟩;simp only[Bool.and_eq_true,beq_iff_eq]at g;exact g.1.1
  .rw[if_neg g]at e
   injection e with Y Z
   subst Y Z;rcases hk with rfl|rfl
   .exact absurd rfl (hc _ U)
   .exact⟨_,U,rfl⟩
 rcases h with h|h
 .exact key _ h db
 .exact key _ h (.inr rfl)
section
variable{X:Cx}{elt iter:Expr}{x:Str}{px pos:Pos}{ifs:uD}{scope:wn}{wi:TI}{fr:uN}{ix:Nat}{tif:TT}{te:TE}{N:uC}
def Li{prog:Go}{w:KB}{A:OR}{R:Result->SD->Prop}{s:SD}{elt target iter:Expr}{ifs:uD}{scope:wn}{pos:Pos}{it acc:VL}{env:Env}(I:Nat->SD->Prop)
 (turn:∀n s,I n s->wpAny AS A (pyNext it) (fun r g=>match r with
   |none=>R (.ok .next) g
   |some v=>wpAny AS A (letOwnedTupleGo target it v>>=fun _=>assign target env v) (fun _ Z=>
     wpAny AS A (forIn ifs true fun c r=>if r=true then do let ok <-isTrue c env (eval c env);pure (ForInStep.yield ok) else pure (ForInStep.yield r)) (fun ok T=>
      if ok=true then wpAny AS A (eval elt env) (fun x Y=>
       wpAny AS A (call (.builtin "list.append") [acc,x]) (fun _ U=>∃m,m<n/\I m U) zCW Y) zCW T
      else ∃m,m<n/\I m T) zCW Z) zCW g) zCW s)
 (n:Nat)(h:I n s) :
  codeAny AS A (.compLoop zBS 0 it acc env) R s:=by
 refine codeAny_loop rfl I (fun n s hI=>?_) n h;show wpAny _ A ((compTurn zBS 0 it acc env).onRaise (fun x=>do noteFrame x env;theTreesLotGoes x)) _ _ s;refine wpAny_noted ?_;rw[compTurn_list];refine Wb (wpAny_standAt (Wb (aW (turn n s hI) (fun r g h₁=>?_) fun _ _ h'=>h')));cases r with
 |none=>exact aA h₁
 |some v=>
  show wpAny AS A (letOwnedTupleGo target it v>>=fun _=>assign target env v>>=_) _ _ g;rw[<-bind_assoc];refine Wb (aW h₁ (fun _ Z h₂=>Wb (aW h₂ (fun ok T h₃=>?_) fun _ _ h'=>h')) fun _ _ h'=>h');cases ok with
  |false=>exact aA ⟨rfl,h₃⟩
  |true=>
   exact Wb (Wb (aW h₃ (fun x Y h₄=>Wb (aW h₄ (fun _ U h₅=>aA (aA ⟨rfl,h₅⟩)) fun _ _ h'=>h')) fun _ _ h'=>h'))
def P7{pins:Cl}{σ:St}{Z:Hp}{s2:SD}{Q:VK}{it:AD}{fp:uK}{tn:vA}{J:It}{cl:zb}{E:tq}{RR:VL->AD->Result->SD->Prop} (S:xR)(hcalm:jj){tgE:Expr}{g:TG}(Rv:St->Prop)(r0:Rv (carry fr σ))(hpg:∀C,PG (A4 X scope cl N C s2 Z fp) tgE g)(hfr:uX)(hlen:zB) (hif:zCL)(he:zCM) (Y:Inv X pins σ Z s2)(T:Turn X.prog X.w X.K tgE J fp it tn)(st2:tn 0 s2.heap)(f2:∀b∈fp,MI X pins Z b) (c1:vi)(c2:uw) (W:∀D,Z D=none->∃W:Nat->Nat->List V->Hp->Prop,(∃m,W 0 m [] (upd Z D li)) /\∀i m ys H,W i m ys H->H D=some Jw/\((J.stop i H/\Q vD H)\/(J.go i H/\ys.length<sizeLine/\∀x H',J.Ft i H x H'->∀σ',Rv σ'->g x σ' H' fun σ6 H6=>Rv σ6 /\tif σ6 H6 fun b Z=>if b=true then te σ6 Z fun y H3=>H3 D=some Jw/\∃m',m'<m/\W On m' l8 zCz else ∃m',m'<m/\W On m' ys Z))) (fin:HX):wpAny By X.A (newList []) (fun acc s₃=>wpAny By X.A oR (fun cenv s₄ => codeAny By X.A (.compStart zBt 0 vJ acc {cenv with scope:=relabel scope X.env}) (RR acc cenv.locals) s₄) E s₃) E s2:=by
 refine bA (wpAny_newFunctionEnv S.cell (by intro y hy;simp at hy) (fun h₁ hns₁ U=>?_) S.kind);dsimp only at hns₁ U ⊢;generalize hHp:s2.heap.push { cls:=.type "list",dict:=none,data:=.seq ([]:List VL).toArray}=Hq at hns₁ U ⊢;have hC:Hq.objs.size=s2.heap.objs.size+1:=by rw[<-hHp,Heap.size_push]
 have hDC:s2.heap.objs.size≠Hq.objs.size:=by rw[hC];exact aI (bW _)
 have below:∀b,b<s2.heap.objs.size->b≠Hq.objs.size/\b≠s2.heap.objs.size:=fun b hb=>⟨by rw[hC];exact aI (bS hb),Nat.ne_of_lt hb⟩;have old:∀b o,s2.heap.get? b=some o->h₁.get? b=some o:=fun b o e=>U.extBut b o (below b u8).1 (aE _ (hHp ▸ aE _ e));have hacc:h₁.get? s2.heap.objs.size=some { cls:=.type "list",data:=.seq ([]:List VL).toArray}:=U.extBut _ _ hDC (aE _ (hHp ▸ aK _ rfl));have hD2:Z s2.heap.objs.size=none:=Y.Aw.fresh UF;have hC2:Z Hq.objs.size=none:=Y.Aw.fresh (by rw[hC];exact Nat.le_succ _);have fpo:∀b∈fp,b<s2.heap.objs.size:=fun b hb=>by
  obtain⟨o,e,_⟩:=T.obj _ _ st2 b hb;exact aF e
 obtain⟨W,⟨m0,w0⟩,turn⟩:=W s2.heap.objs.size hD2;have ok:(A4 X scope cl N Hq.objs.size s2 Z fp).Ok:=by
  refine⟨Y.ok.mod,S.kind,Y.ok.glob,Y.ok.blt,by show s2.heap.objs.size<=Hq.objs.size;rw[hC];exact Nat.le_succ _,?_,?_,?_,fun _=>Y.ok.hd hcalm,Y.ok.frames,.inl rfl,?_,Y.bs,Nat.le_trans Y.ok.R8 Y.sz,?_,?_,Y.stack,Y.TY,Y.kt⟩
  .exact fun a b c h1 h2=>Y.ok.inj a b c (c1 _ _ h1) (c1 _ _ h2)
  .intro y hy;obtain⟨k,hm,rfl⟩:=Vq S.cell hy;exact c2 _ hm rfl
  .intro y c hf;cases hf
  .intro b hb;refine⟨(below b (fpo b hb)).1,fun y c e=>?_⟩;obtain⟨_,_,_,_,f5,_⟩:=f2 b hb;exact f5 y c (c1 _ _ e)
  .intro b o e hb;obtain⟨_,_,_,f4,_,_⟩:=f2 b hb;rcases f4 with z|z
   .exact Y.ok.SY b o e z
   .exact absurd (aG u8 (aP Y.ok.R8 z)) xb
  .intro b hb hs;obtain⟨_,f1,f3,_⟩:=f2 b hb;rcases aN.mp (Y.OC b hs) with z|z
   .exact f1 z
   .exact f3 z
 have I4:Inv Tk [] (carry fr σ) (upd Z s2.heap.objs.size li) {s2 with heap:=h₁,toks:=s2.toks+([]:List (Str×VL)).length}:=by
  refine⟨ok,rfl,Y.bare,Un.laid old UF hD2,⟨_,hns₁,fun i y v h1 h2 h3=>?_⟩,fun y c e=>?_,?_,fun y c e=>?_,fun p hp=>(by cases hp),Y.Aw.laid old UF ⟨bJ _,[],0,.nil,hacc⟩,?_⟩
  .obtain⟨j,e1,e2⟩:=b7 h2;obtain⟨n,n1,n2,n3,n4⟩:=Qp hfr e1;rw[Nat.zero_add]at n1;have:y=n:=by
    have h1':N[i]? = some y:=h1;rw[h1']at n1;exact aw n1
   subst this;obtain⟨m,hn,hl⟩:=Y.loc;obtain⟨u,ru,lk⟩:=hl j y v n2 e2 (.inr (.inl n4));refine⟨u,ru,?_⟩;obtain⟨c,hc⟩:=c2 _ (lookup_mem n3) rfl;rcases lk with ⟨k1,_⟩|⟨_,c',hc',hcell⟩
   .have k1':X.env.scope.names.lookup y=some .local:=k1;rw[n4]at k1';cases k1'
   .have:=c1 _ _ hc;rw[hc']at this;cases this;refine .inr ⟨?_,c,hc,hcell.keeps old⟩;rcases h3 with z|z|z
    .obtain⟨k,hm⟩:∃k,(y,k)∈scope.names/\k=NameKind.local:=by
      have hm:=lookup_mem z;have hm':(y,NameKind.local)∈(relabel scope X.env).names:=hm;unfold relabel at hm';obtain⟨⟨m',k⟩,hy,e⟩:=aT.mp hm';dsimp only at e;by_cases hcond:(k==NameKind.free&&X.env.scope.kind==.function&&X.env.kindOf m'==some .cell)=true
      .rw[if_pos hcond]at e;injection e with _ e2';cases e2'
      .rw[if_neg hcond]at e;injection e with e1' e2';subst e1' e2';exact⟨_,hy,rfl⟩
     obtain⟨hm,rfl⟩:=hm;have:=S.names _ hm rfl;rw[n3]at this;cases this
    .exact .inl z
    .exact .inr z
  .obtain⟨v,z⟩:=Y.cell y c (c1 _ _ e);exact⟨v,z.keeps old⟩
  .show upd Z s2.heap.objs.size _ Hq.objs.size=none;rw[AK (Ne.symm hDC)];exact hC2
  .obtain⟨v,o,ho,_⟩:=Y.cell y c (c1 _ _ e);rw[AK (below c (aF ho)).2];exact Y.Gr y c (c1 _ _ e)
  .show(carry fr σ).length=N.length;unfold carry;rw[List.length_map];exact hlen
 have fpX:∀(p:Cl) (H':Hp),(∀q∈p,q.1∈fp->False)->(∀b∈fp,H' b=none)->∀b∈fp,MI Tk p H' b:=fun p H' hp hn b hb=>by
  obtain⟨_,f1,f3,f4,f5,_⟩:=f2 b hb;refine⟨hn b hb,(below b (fpo b hb)).1,fun hs=>ok.TQ b hb hs,.inl hb,fun y c e=>f5 y c (c1 _ _ e),fun q hq e=>?_⟩;exact hp q hq (e ▸ hb)
 have hxv:(relabel scope X.env).names.lookup x=some .local:=lookup_relabel_local S.loc;have loop:∀s₃:SD,s₃={s2 with heap:=h₁,toks:=s2.toks+([]:List (Str×VL)).length} ->
   codeAny By X.A (.compLoop zBt 0 vJ yW (compEnvC scope cl Hq.objs.size X.env)) (RR yW Hq.objs.size) s₃:=by
  rintro s₃ rfl;refine Li (fun n s'=>∃i ys σ' H',Inv Tk [] σ' H' s'/\Rv σ'/\tn i s'.heap/\xQ/\W i n ys H') ?_ m0
   ⟨0,[],carry fr σ,_,I4,r0,T.keep _ _ _ st2 fun b _ o e=>old b o e,fun b hb=>by rw[AK (below b (fpo b hb)).2];exact(f2 b hb).1,w0⟩
  rintro n s3 ⟨i,ys,σ3,H3,I3,hσ,st3,fr3,w3⟩;obtain⟨hD3,way⟩:=turn i n ys H3 w3;rcases way with ⟨stop,qn⟩|⟨go,hsz,step⟩
  .refine aW (T.done Tk rfl rfl rfl hcalm i [] s3 σ3 H3 (fun _ _=>False) I3 (fpX [] H3 (fun _ z=>by cases z) fr3) st3 stop) (fun r s4 ⟨hr,I5⟩=>?_) fun _ _ z=>z.elim;subst hr;obtain⟨m,hn,_⟩:=id I5.loc;refine fin _ _ s4 H3 m hn qn (fun h' hs'=>?_) (Ne.symm hDC) (fun b o e=>(below b u8).1) I5.free (by rw[hC];exact Nat.le_succ _);have nC:∀b u,H3 b=some u->b≠Hq.objs.size:=fun b u e z=>by
    have:=I5.free;rw[show(A4 X scope cl N Hq.objs.size s2 Z fp).env.locals=Hq.objs.size from rfl,<-z,e]at this;cases this
   have keepU:Un (Gj X.stack) fp Z H3 s2.heap h':=by
    have u:=I5.base;refine⟨fun b o e n hb hx=>?_,fun b o e n hb hx=>?_,fun b o e n hx=>u.free b o e n hx,fun b o e hx=>?_,u.BM,u.Gd,u.Hk,fun b xs o q e hx=>(hs'.2 b (below b u8).1).trans (u.Hg b xs o q e hx)⟩
    .exact(hs'.2 b (below b u8).1).trans (u.keep b o e n hb hx)
    .obtain⟨sl,e1⟩:=u.slot b o e n hb hx;exact⟨sl,(hs'.2 b (below b u8).1).trans e1⟩
    .obtain⟨o',e1⟩:=u.there b o e hx;exact⟨o',(hs'.2 b (below b u8).1).trans e1⟩
   have hok':Et X.prog X.w H3 h':=fun b u e=>(I5.Aw b u e).Hd (fun c v hc q=>(hs'.2 c (by
    rcases hc with rfl|hc
    .exact nC _ _ e
    .exact nC _ _ hc)).trans q) zBD fun _ _ q=>q
   refine Y.gK (s':={s4 with heap:=h'}) (ch:=fp) I5.os keepU hok' I5.bare fun b hb=>?_;obtain⟨_,f1,_,f4,f5,f6⟩:=f2 b hb;exact⟨f4,f1,f5,f6⟩
  .refine aW (T.item Tk rfl rfl rfl hcalm i [] s3 σ3 H3 (fun _ _=>False) I3 (fpX [] H3 (fun _ z=>by cases z) fr3) st3 go) (fun r s4 ⟨u,hr,h4⟩=>?_) fun _ _ z=>z.elim;subst hr;show wpAny By X.A (letOwnedTupleGo tgE vJ u>>=fun _=>assign tgE (compEnvC scope cl Hq.objs.size X.env) u) _ _ s4;refine Wb (aW h4 (fun _ s5 ⟨xv,H5,I5,r5,y5,st5,fr5⟩=>?_) fun _ _ z=>z.elim);have I5':=I5.pinned (fpX [] H5 (fun _ z=>by cases z) fr5) (T.obj _ _ st5);refine aW (hpg _ _ s5 σ3 H5 xv u _ I5' r5 (step xv H5 y5 σ3 hσ)) (fun _ s6 ⟨σ6,H6,I6,rv6,step5⟩=>?_) fun _ _ z=>z.elim;refine aW (hif _ _ _ _ _ _ s6 _ H6 _ I6 step5) (fun b s7 ⟨H7,I7,q7⟩=>?_) fun _ _ z=>z.elim;have again:∀ {s8:SD} {H8:Hp} {k:Nat} {zs:ON},Inv Tk ([]++OE fp s5.heap) σ6 H8 s8->W On k zs H8->k<n ->
     ∃m,m<n/\∃i ys σ' H',Inv Tk [] σ' H' s8/\Rv σ'/\tn i s8.heap/\xQ/\W i m ys H':=fun {s8 H8 k zs} I8 w8 hk=>by
    refine⟨k,hk,i+1,zs,_,H8,I8.NV,rv6,T.keep _ _ _ st5 fun b hb o e=>(I8.pin (b,o) yr).1,fun b hb=>?_,w8⟩;obtain⟨o,e,d⟩:=T.obj _ _ st5 b hb;exact(I8.pin (b,o) yr).2.1
   cases b with
   |false=>
    rw[if_neg aM]at q7 ⊢;obtain⟨k,hk,w7⟩:=q7;exact again I7 w7 hk
   |true=>
    rw[if_pos rfl]at q7 ⊢;refine aW (he _ _ _ _ _ _ s7 _ H7 _ I7 q7) (fun yv s8 ⟨y,H8,I8,r8,hD8,k,hk,w8⟩=>?_) fun _ _ z=>z.elim;refine aW (FK (X:=A4 X scope cl N Hq.objs.size s2 Z fp) _ s8 _ H8 yW [y] yW [yv] (fun _ H9=>H9=upd H8 s2.heap.objs.size (.lst l8)) I8 rfl (.cons r8 .nil) ⟨_,ys,y,rfl,rfl,hD8,hsz,rfl⟩) (fun _ s9 ⟨_,H9,I9,_,e9⟩=>?_) fun _ _ z=>z.elim;subst e9;exact again I9 w8 hk
 exact codeAny_compStart_list (loop _ rfl) (T.self X.A 0 _ _ _ (T.keep _ _ _ st2 fun b _ o e=>old b o e) (loop _ rfl))
def Rn{pins:Cl}{σ:St}{U:Hp}{s2:SD}{Q:VK}{it:AD}{fp:uK}{tn:vA}{J:It}{cl:zb}{E:tq}{RR:VL->AD->Result->SD->Prop} (S:xR)(Y:jj)(hfr:uX)(hlen:zB) (hif:zCL)(he:zCM) (I2:Inv X pins σ U s2)(T:Turn X.prog X.w X.K (.Name x px) J fp it tn)(st2:tn 0 s2.heap)(f2:∀b∈fp,MI X pins U b) (c1:vi)(c2:uw) (W:∀D,U D=none->∃W:Nat->Nat->List V->Hp->Prop,(∃m,W 0 m [] (upd U D li)) /\∀i m ys H,W i m ys H->H D=some Jw/\((J.stop i H/\Q vD H)\/(J.go i H/\ys.length<sizeLine/\∀x H',J.Ft i H x H' ->tif UV H' fun b U=>if b=true then te UV U fun y H3=>H3 D=some Jw/\∃m',m'<m/\W On m' l8 zCz else ∃m',m'<m/\W On m' ys U))) (fin:HX):wpAny By X.A (newList []) (fun acc s₃=>wpAny By X.A oR (fun g s₄ => codeAny By X.A (.compStart HJ 0 vJ acc {g with scope:=relabel scope X.env}) (RR acc g.locals) s₄) E s₃) E s2:=by
 have hxv:(relabel scope X.env).names.lookup x=some .local:=lookup_relabel_local S.loc;refine P7 S Y (fun Z=>∀v,Z.set ix v=(carry fr σ).set ix v) (fun _=>rfl) (fun C=>A6 (X:=A4 X scope cl N C s2 U fp) S.nd S.at_ (.inl hxv) (.inr hxv)) hfr hlen hif he I2 T st2 f2 c1 c2 (fun D hD=>?_) fin;obtain⟨W,w0,st⟩:=W D hD;refine⟨W,w0,fun i m ys H w=>?_⟩;obtain⟨h1,h2|⟨h2,h3,h4⟩⟩:=st i m ys H w
 .exact⟨h1,.inl h2⟩
 .refine⟨h1,.inr ⟨h2,h3,fun x H' hy Z hr=>?_⟩⟩;have:=h4 x H' hy;rw[<-hr]at this;exact⟨fun v=>by rw[List.set_set,hr],this⟩
def jA(S:xR)(Z:jj)(hfr:uX)(hlen:zB)(U:vZ) (hi:yT)(hif:zCL)(he:zCM) (hs:∀x,foldedSetIterable iter X.env x=pure x:=by intro _;rfl):PE X HJ zAQ:=by
 intro pins s σ H Q I hw;obtain⟨cl,Y,c1,_,c2⟩:=HF (env:=X.env) scope.names [] (fun y hy hf=>I.ok.has y.1 (U y hy hf)) (fun y c z=>by cases z);have g:closureFor scope X.env=pure cl:=by
  have e:closureFor scope X.env=RW:=rfl;rw[e,Y]
  rfl
 rw[eval_ListComp];refine wpAny_comprehension_free (use:=none) rfl hs g S.kind S.names (BV yu fun v s1 h1=>BV h1 fun itv s2 h2=>?_);obtain⟨it,fp,tn,J,H2,e,I2,T,st2,f2,W⟩:=h2;subst e;refine Rn (RR:=fun acc C=>compPost By X.A X.xe none ge acc C) S Z hfr hlen hif he I2 T st2 f2 c1 c2 W ?_;intro D C s' H' m hn q hI _ _ _ _;exact⟨m,hn,fun h' hs'=>⟨.ref D,H',hI h' hs',rfl,q⟩⟩
def Ys{i : Nat}{y : Str}{py spos : Pos}(hN : u7)(hy : X.N[i]? = some y)(hly : X.env.scope.names.lookup y = some .local)(S : xR)(hcalm : X.calm = true)(hfr : Fz N X.N scope X.env.scope fr 0 = true)(hlen : fr.length = N.length) (hfree : vF) (hi : yT)(hif : ∀ cl C s₀ H₀ fp,L4 Ch ifs tif)(he : ∀ cl C s₀ H₀ fp,PE Ch elt te) (hsw : swapsWith HJ (some (.Name y py)) spos.line X.env = pure true:=by rfl) (hs : ∀ x,foldedSetIterable iter X.env x = pure x:=by intro _; rfl):PS X (.Assign [.Name y py] HJ spos) (TV zAQ (Ds i)):=by
  intro pins s σ H D I hw
  obtain ⟨cl,hclos,c1,_,c2⟩:=HF (env:=X.env) scope.names [] (fun y hy hf => I.ok.has y.1 (hfree y hy hf)) (fun y c z => by cases z)
  have hclos' : closureFor scope X.env = pure cl:=by
    have e : closureFor scope X.env = Oo:=rfl
    rw [e,hclos]
    rfl
  rw [exec_Assign_Name_used _ _ _ _ hsw]
  refine Wb (wpAny_standAt (Wb ?_))
  show wpAny _ X.A (do let _ <- comprehension HJ scope X.env _ (newList []) false (eval iter X.env) (some zBF)) _ _ s
  refine Wb (aW (wpAny_comprehension_free (use:=some zBF) (Q:=fun _ s' => SP X pins D .next s') rfl hs hclos' S.kind S.names
    (BV yu fun v s1 h1 => BV h1 fun itv s2 h2 => ?_)) (fun _ s' hq => aA (aA hq)) fun _ _ e => e)
  obtain ⟨it,fp,tn,J,H2,e,I2,T,st2,f2,W⟩:=h2
  subst e
  refine Rn (Q:=fun x H1 => Ds i x σ H1 D.nx) (RR:=fun acc C => compPost By X.A X.xe (some zBF) (fun _ s' => SP X pins D .next s') acc C) S hcalm hfr hlen hif he I2 T st2 f2 c1 c2 W ?_
  intro D' C s' H' m hn q hI hCD hold hfreeC hsz
  have I5 : Inv X pins σ H' s':=hI s'.heap zR
  refine wpAny_assign_Name wb
  have hL : C≠X.env.locals:=fun z => by
    obtain ⟨_,⟨o,_,_,e,_⟩,_⟩:=I2.loc
    exact hold _ _ e z.symm
  have hcl : ∀ z c,X.env.cells.lookup z = some c->c≠C:=fun z c e => by
    obtain ⟨_,o,ho,_⟩:=I2.cell z c e
    exact hold _ _ ho
  have hCa : C≠a:=by
    rcases ha with z | z
    . rw [z]; exact hL
    . exact Ne.symm (hcl _ _ z)
  refine ⟨m,hn.sameBut hsb hCa,fun h' hs' => ⟨_,H',I6.turned (t':=s''.toks) (it:=C) (fun b o hb e => (hs'.2 b hb).trans e) hfreeC hL (.inr (aP I2.sz hsz)) hcl fun p hp => ?_,q⟩⟩
  obtain ⟨e,_⟩:=I2.pin p hp
  exact hold _ _ e
end
end L2
namespace FM
def gi(a b:Int):Int:=(Int.gcd a b:Int)
def Wc(a b:Int):Int.gcd b (a.fmod b)=Int.gcd a b:=by
 have e:a.fmod b=a-b*a.fdiv b:=Int.fmod_def a b;rw[e,Int.gcd_comm a b];exact Int.gcd_sub_mul_left_right b a (a.fdiv b)
def UY(a b:Int)(hb:b≠0):(a.fmod b).natAbs<b.natAbs:=by
 rcases Int.lt_or_gt_of_ne hb with h|h
 .have U:-(a.fmod b)=(-a).fmod (-b):=by
   rw[Int.fmod_def,Int.fmod_def,Int.neg_fdiv_neg];have:-b*a.fdiv b=-(b*a.fdiv b):=Int.neg_mul _ _
   lia
  have T:=Int.fmod_nonneg_of_pos (-a) (show 0 < -b by lia);have g:=Int.fmod_lt_of_pos (-a) (show 0 < -b by lia)
  lia
 .have T:=Int.fmod_nonneg_of_pos a h;have g:=Int.fmod_lt_of_pos a h
  lia
def MY{a b:Int}(hb:b≠0):0<gi a b:=by
 have:0<Int.gcd a b:=Int.gcd_pos_of_ne_zero_right a hb;unfold gi;lia
def ZG{a b:Int}(hb:b≠0):(gi a b).natAbs<=b.natAbs:=by
 have h:Int.gcd a b ∣ b.natAbs:=by
  have:=Int.gcd_dvd_right a b;exact Int.natAbs_dvd_natAbs.mpr this
 have g:0<b.natAbs:=by lia
 have:=Nat.le_of_dvd g h;unfold gi;lia
def gs(t b:Int):Int:=if b<0 then -gi t b else gi t b
def gj{t b:Int}(hb:b≠0):gs t b≠0:=by
 have:=MY (a:=t) hb;unfold gs;split<;>lia
def gQ{t b:Int}(hb:b≠0):(gs t b).natAbs<=b.natAbs:=by
 have:=ZG (a:=t) hb;unfold gs;split<;>lia
def HH{g x k:Int}(hg:g≠0)(e:x=g*k):x.fdiv g=k:=by
 subst e;exact Int.mul_fdiv_cancel_left k hg
def Pl(a b:Int):gi a b ∣ a:=Int.gcd_dvd_left a b
def N7(a b:Int):gi a b ∣ b:=Int.gcd_dvd_right a b
def Vb{t b:Int}(hb:b≠0):t.fdiv (gs t b)=(Rat.divInt t b).num:=by
 have T:=MY (a:=t) hb;obtain⟨k,hk⟩:=Pl t b;rw[Rat.num_divInt,Int.gcd_comm b t];show t.fdiv (gs t b)=b.sign*t / gi t b;unfold gs;generalize gi t b=g at T hk ⊢;rcases Int.lt_or_gt_of_ne hb with h|h
 .rw[if_pos h,Int.sign_eq_neg_one_of_neg h,HH (k:=-k) AC (by rw[hk];simp[Int.mul_neg,Int.neg_mul])];have:-1*t=g*(-k):=by rw[hk];simp[Int.mul_neg]
  rw[this,Int.mul_ediv_cancel_left _ AC]
 .rw[if_neg AC,Int.sign_eq_one_of_pos h,HH (k:=k) AC hk,Int.one_mul,hk,Int.mul_ediv_cancel_left _ AC]
def Wh{t b:Int}(hb:b≠0):b.fdiv (gs t b)=((Rat.divInt t b).den:Int):=by
 have T:=MY (a:=t) hb;obtain⟨k,hk⟩:=N7 t b;rw[Rat.den_divInt,if_neg hb,Int.gcd_comm b t];have e:(((b.natAbs / Int.gcd t b:Nat)):Int)=(b.natAbs:Int) / gi t b:=by unfold gi;simp
 rw[e];unfold gs;generalize gi t b=g at T hk ⊢;rcases Int.lt_or_gt_of_ne hb with h|h
 .rw[if_pos h,HH (k:=-k) AC (by rw[Int.neg_mul_neg];exact hk)];have:(b.natAbs:Int)=g*(-k):=by rw[Int.mul_neg,<-hk];lia
  rw[this,Int.mul_ediv_cancel_left _ AC]
 .rw[if_neg AC,HH (k:=k) AC hk];have:(b.natAbs:Int)=g*k:=by rw[<-hk];lia
  rw[this,Int.mul_ediv_cancel_left _ AC]
def FE(a b:Int):(a.fdiv b).natAbs<=a.natAbs:=by
 cases a with
 |ofNat n=>
  cases n with
  |zero=>
   have e:Int.fdiv (.ofNat 0) b=0:=Int.zero_fdiv b;rw[e];exact bJ _
  |succ k=>
   cases b with
   |ofNat j=>exact Nat.div_le_self io j
   |negSucc j=>exact Nat.succ_le_succ (Nat.div_le_self k (j+1))
 |negSucc k=>
  cases b with
  |ofNat j=>
   cases j with
   |zero=>exact bJ _
   |succ j=>exact Nat.succ_le_succ (Nat.div_le_self k (j+1))
  |negSucc j=>exact Nat.div_le_self io (j+1)
def nX{t b:Int}(hb:b≠0):(Rat.divInt t b).num.natAbs<=t.natAbs:=by
 rw[<-Vb hb];exact FE _ _
def nY{t b:Int}(hb:b≠0):(Rat.divInt t b).den<=b.natAbs:=by
 have h:=FE b (gs t b);rw[Wh hb]at h
 simpa using h
def dA(p:Rat):(p.den:Int)≠0:=by
 have:=p.den_nz
 lia
def Hx(p:Rat):Rat.divInt p.num p.den=p:=Rat.num_divInt_den p
def Vj(p q:Rat):Rat.divInt (p.num*q.num) (p.den*q.den)=p*q:=by
 rw[<-Rat.divInt_mul_divInt,Hx,Hx]
def YF(p q:Rat):(p.den:Int)*q.den≠0:=Int.mul_ne_zero (dA p) (dA q)
def jJ{p q:Rat}(g:p.num=q.num)(T:(p.den:Int)=(q.den:Int)):p=q:=Rat.ext g AC
def SH{x y:Int}{m n:Nat}(T:x.natAbs<2^m)(g:y.natAbs<2^n):(x*y).natAbs<2^(m+n):=by
 rw[Int.natAbs_mul,Nat.pow_add];exact Nat.mul_lt_mul'' T g
def O6{x:Nat}{m n:Nat}(g:x<2^m)(h:m<=n):x<2^n:=aG g (bf AT h)
def Fits(p:Rat)(n:Nat):Prop:=p.num.natAbs<2^n/\p.den<2^n
def Fits.mono{p:Rat}{m n:Nat}(h:Fits p m)(l:m<=n:=by decide):Fits p n:=⟨O6 h.1 l,O6 h.2 l⟩
def Fits.d{p:Rat}{n:Nat}(h:Fits p n):((p.den:Int)).natAbs<2^n:=by simpa using h.2
def Fits.nu{t b:Int}{n:Nat}(hb:b≠0)(T:t.natAbs<2^n)(g:b.natAbs<2^n):Fits (Rat.divInt t b) n :=
 ⟨aR (nX hb) T,Nat.lt_of_le_of_lt (nY hb) g⟩
def dd{p q:Rat}{m n:Nat}(h:Fits p m)(k:Fits q n):((p.den:Int)*q.den).natAbs<2^(m+n):=SH h.d k.d
def nn{p q:Rat}{m n:Nat}(h:Fits p m)(k:Fits q n):(p.num*q.num).natAbs<2^(m+n):=SH h.1 k.1
def Fits.times{p q:Rat}{m n:Nat}(h:Fits p m)(k:Fits q n):Fits (p*q) (m+n):=by
 rw[<-Vj];exact .nu (YF p q) (nn h k) (dd h k)
end FM
namespace FM
def i9(a b:Int):Int.gcd (if a<0 then -a else a) (if b<0 then -b else b)=Int.gcd a b:=by
 split<;>split<;>simp[Int.gcd_neg,Int.neg_gcd]
def abs_nonneg(a:Int):0<=(if a<0 then -a else a):=by split<;>lia
def lq{g a b:Int}(h:Int.gcd g 0=Int.gcd a b)(h0:0<=g):g=gi a b:=by
 unfold gi;rw[<-h,Int.gcd_zero_right]
 lia
def ji{g a b:Int}(h:Int.gcd g 0=Int.gcd a b):(if g<0 then -g else g)=gi a b:=by
 unfold gi;rw[<-h,Int.gcd_zero_right];split<;>lia
def fmod_nonneg{g l:Int}(T:l≠0)(h:0<=l):0<=g.fmod l:=Int.fmod_nonneg_of_pos g AC
end FM
namespace L2
open PySem PySem.Spec PyProof.Rows
structure Fn(K:Fg)(mg:xl)(x:Str)(st:Stmt)(ps:List Str)(f:Addr)(fd:Fr):Prop where
 F:T4 K x x st f fd
 b:Binds K fd ps []
 m:mg x=some xo
section
variable{X:Cx}{k:Nat}{f:AD}{fd:Fr}{ps:uC}{sp:Sp}{x:Str}{st:Stmt}{p pos:Pos}{e:Expr}{es:uD}{t:TA}
def Bt(T:Fn X.K X.mg x st ps f fd)(G:AI X.prog X.w X.K X.mg X.base Ai k f fd ps sp)(Y:DQ k X.A)(hg:y9)(ha:za) (U:GM=false:=by decide)(Z:starEach zCh X.env=Jo::starEach es X.env:=by rfl)(g:(backTo pos Ol).any To=false:=by rfl):PE X IR (Ym sp [] E0 t):=Xs G Y hg T.m T.F.kp T.b .nil qG ha U Z g
end
def Ld{t u:TS}{D:Ends}{σ:St}{H:Hp}(P:St->Hp->Prop)(U:∀nx:St->Hp->Prop,(∀g H',P g H'->nx g H')->t {D with nx:=nx} σ H)(T:∀g H',P g H'->u D g H'):dc t u D σ H:=U _ T
def YE:2<=sizeLine:=by decide
def Al{H:Hp}{p:AD}(h:H p=none)(o:HO):AL H (upd H p o):=fun b u q=>by rw[AK (AW q h)];exact q
def SameBut(l:AD)(H H':Hp):Prop:=∀b o,b≠l->H b=some o->H' b=some o
def SameBut.of{l:AD}{H H':Hp}(h:ug):SameBut l H H':=fun b o _ q=>h b o q
def SameBut.trans{l:AD}{H T g:Hp}(a:SameBut l H T)(b:SameBut l T g):SameBut l H g:=fun c o n h=>b c o n (a c o n h)
def SameBut.upd{l:AD}{H:Hp}{o:HO}:SameBut l H (upd H l o):=fun b u n q=>by rw[AK n];exact q
def KO(p:Rat):uI:=[.int p.num,.int (p.den:Int)]
def Rt(K:Fg)(H:Hp)(p:Rat)(v:V):Prop:=∃a,v=.ref a/\BJ K H a (KO p)
def Rt.of{K:Fg}{H:Hp}{p:Rat}{a:AD}(h:H a=some (.tup (KO p))):Rt K H p Jz:=⟨a,rfl,.of h⟩
def Ak(p:Rat):PD:=.tuple [.int p.num,.int (p.den:Int)]
def OP{i j:Int}{m n:Nat}(T:i.natAbs<2^m)(g:j.natAbs<2^n)(h:m+n<=1000000):QQ i j\/Nd i j :=
 .inr ⟨m+n,h,FM.O6 T (Nat.le_add_right _ _),FM.O6 g (Nat.le_add_left _ _)⟩
def Cj.get{P:Go}{w:KB}{H:Hp}{h:Heap}{a:AD}{o:HO}(x:Cj P w H h a o):∃u,h.get? a=some u:=by
 cases o with
 |lst xs=>obtain⟨_,_,_,_,e⟩:=x;exact⟨_,e⟩
 |tup xs=>obtain⟨_,_,_,o,e,_⟩:=x;exact⟨o,e⟩
 |dK kvs=>obtain⟨_,_,_,_,o,_,_,e,_⟩:=x;exact⟨o,e⟩
 |dT kvs=>obtain⟨_,_,_,_,o,_,_,e,_⟩:=x;exact⟨o,e⟩
 |set S n=>obtain⟨o,_,_,_,e,_⟩:=x;exact⟨o,e⟩
 |ins C dx fs=>obtain⟨_,_,_,e,_⟩:=x;exact⟨_,e⟩
 |own y=>obtain⟨o,e⟩:=x;exact⟨o,e⟩
 |xd fs=>obtain⟨_,⟨o,_,_,e,_⟩,_⟩:=x;exact⟨o,e⟩
 |gC lo hi=>obtain⟨_,_,_,e⟩:=x;exact⟨_,e⟩
 |GH ob u=>obtain⟨e,_⟩:=x;exact⟨_,e⟩
 |Pq ps=>exact⟨_,(show h.get? a=some _ from x)⟩
 |met f y=>exact⟨_,(show h.get? a=some _ from x)⟩
 |ext φ=>obtain⟨_,⟨o,e⟩,_⟩:=x;exact⟨o,e⟩
structure ZA(P:Go)(w:KB)(outer:List Env)(H:Hp)(s:Shared)(ea:Addr)(cls a0:Value)(H':Hp)(s':Shared)(B:Heap):Prop where
 os:s'.os=s.os
 bare:AllBare s'.gens
 nF:Heap.FlyingW B outer ea cls a0 s'.heap
 keep:∀b o,s.heap.get? b=some o->H b=none->b ∉ Gj outer->B.get? b=some o
 there:∀b o,s.heap.get? b=some o->b ∉ Gj outer->∃o',B.get? b=some o'
 slot:∀b o,s.heap.get? b=some o->b∈Gj outer->∃sl,s'.heap.get? b=some zBq
 free:∀b o,s.heap.get? b=some o->H b=none->H' b=none
 BM:∀b xs,H b=some M2->H' b=some M2
 Gd:∀b o u,H b=some (.GH o u)->H' b=some (.GH o u)
 Hk:∀b ps,H b=some (.Pq ps)->∃more,H' b=some (.Pq (ps++more))
 Hg:∀b xs o,H b=some M2->s.heap.get? b=some o->B.get? b=some o
 Aw:Et P w H' B
 new:s.heap.get? ea=none
def CN(P:Go)(w:KB):Hm:=fun outer H s E e s'=>∃ea cls a0 H' B,e=.ref ea/\ZA P w outer H s ea cls a0 H' s' B/\E cls none H'
def Qb{base h:Heap}{l:uM}(F:h.FunFrames base l){b:AD}(hb:b∈Gj l):∃o,h.get? b=some o/\∀vs,o.data≠.fields vs:=(F.mem hb).2
section
variable{P:Go}{w:KB}{K:Fg}{mg:t7}{base:Heap}{N:uC}{qual:Str}{scope:wn}{f:AD}{cd:VL}{A:OR}{outer:uM}{s:SD}{H:Hp}{E:XK}
def i6{pins:Cl}{σ:St}{Z:Hp}{s1:SD}{h':Heap}{ea:AD}{cls:VL}{args:tm}(I:Inv zDo pins σ Z s1) (hx:Heap.MadeExcOf s1.heap h' ea cls args)(hE:E cls none Z):(Cq Tl P w K mg base N qual scope f cd A outer s H E).xe zx zC:=by
 show wpAny ww (A.deeper Nl) (leaving Nl zx) _ _ _;have FF:=I.stack;have hfr:(A.deeper Nl).frames=some wH:=I.ok.frames;have hin:∀env∈wH,∀b,env.frame=some b->b∈(envOfC qual scope s.heap.objs.size f cd::outer).filterMap (·.frame):=fun env he b hb=>List.mem_filterMap.mpr ⟨env,he,hb⟩;have T:∀b o,s.heap.get? b=some o->b≠s.heap.objs.size:=fun b o e=>aI u8;have out:∀b,b≠s.heap.objs.size->b ∉ Gj outer->b ∉ (envOfC qual scope s.heap.objs.size f cd::outer).filterMap (·.frame):=fun b h1 h2 hm=>by
  rcases aN.mp (I.OC b hm) with z|z
  .exact h1 z
  .exact h2 z
 have g:∀b u,Z b=some u->b ∉ (envOfC qual scope s.heap.objs.size f cd::outer).filterMap (·.frame):=fun b u e hm=>by
  have:=I.TY b hm;rw[e]at this;cases this
 refine wpAny_leaves_madeW (base:=PySem.W.hideAll s1.heap yJ) hfr rfl (fun b o q=>PySem.W.of_hideAll _ q) (PySem.W.funFrames_hide FF hin) hx fun h2 t fl _ _ up=>?_;have Y:Et P w Z (PySem.W.hideAll s1.heap yJ):=fun b u e=>
  (I.Aw b u e).Hd (fun c v hc q=>PySem.W.hideAll_get _ q (by
   rcases hc with rfl|hc
   .exact g _ _ e
   .exact g _ _ hc)) zBD fun _ _ q=>q
 refine⟨ea,cls,.ref t,Z,_,rfl,⟨I.os,I.bare,fl,fun b o e n hb=>?_,fun b o e hb=>?_,fun b o e hb=>?_,fun b o e n=>I.base.free b o e n tt,I.base.BM,I.base.Gd,I.base.Hk,fun b xs o q e=>PySem.W.hideAll_get _ (I.base.Hg b xs o q e tt) (g b _ zBW),Y,?_⟩,hE⟩
 .exact PySem.W.hideAll_get _ (I.base.keep b o e n hb tt) zAR
 .obtain⟨o',U⟩:=I.base.there b o e tt;exact⟨o',PySem.W.hideAll_get _ U zAR⟩
 .obtain⟨sl,U⟩:=I.base.slot b o e (I.ok.Rj b hb) hb tt;obtain⟨o',e2,hd⟩:=Qb I.JA hb;rw[U]at e2;cases e2;obtain⟨sl',e3⟩:=up b _ (hx.keeps _ _ U) hd;exact⟨sl',e3⟩
 .cases q:s.heap.get? ea with
  |none=>rfl
  |some o=>
   obtain⟨o',U⟩:=I.base.there ea o q tt;have:=hx.new;rw[U]at this;cases this
def pd{E':XK}(hE:∀c a H',E' c a H'->E c a H'):Passes Tl zDo E':=by
 intro pins σ H1 s1 e s2 I ⟨ea,cls,a0,H2,B,ee,F,hq⟩;subst ee;show wpAny ww (A.deeper Nl) (leaving Nl zx) _ _ _;have T:∀b o,s.heap.get? b=some o->b≠s.heap.objs.size:=fun b o e=>aI u8;have out:∀b,b≠s.heap.objs.size->b ∉ Gj outer->b ∉ Gj (Cq Tl P w K mg base N qual scope f cd A outer s H E).stack:=fun b h1 h2 hm=>by
  rcases aN.mp (I.OC b hm) with z|z
  .exact h1 z
  .exact h2 z
 refine wpAny_leaves_onW I.ok.frames rfl F.nF fun h3 fl up=>?_;refine⟨ea,cls,a0,H2,B,rfl,⟨F.os.trans I.os,F.bare,fl,fun b o e n hb=>?_,fun b o e hb=>?_,fun b o e hb=>?_,fun b o e n=>?_,fun b xs q=>F.BM b xs zBW,fun b o u q=>F.Gd b o u (I.base.Gd b o u q),fun b ps q=>?_,fun b xs o q e=>F.Hg b xs o zBW (I.base.Hg b xs o q e tt),F.Aw,?_⟩,hE _ _ _ hq⟩
 .exact F.keep b o (I.base.keep b o e n hb tt) (I.base.free b o e n tt) zAR
 .obtain⟨o',g⟩:=I.base.there b o e tt;exact F.there b o' g zAR
 .obtain⟨sl,g⟩:=I.base.slot b o e (I.ok.Rj b hb) hb tt;have Y:b∈Gj (Cq Tl P w K mg base N qual scope f cd A outer s H E).stack:=by
   show b∈Gj wH;unfold Gj;rw[List.filterMap_cons];exact aS _ hb
  obtain⟨sl2,Z⟩:=F.slot b _ g Y;obtain⟨o',e3,hd⟩:=Qb I.JA hb;rw[g]at e3;cases e3;obtain⟨U,e4⟩:=up b _ Z hd;exact⟨U,e4⟩
 .obtain⟨o',g⟩:=I.base.there b o e tt;exact F.free b o' g (I.base.free b o e n tt)
 .obtain⟨m1,g⟩:=I.base.Hk b ps q;obtain⟨m2,Z⟩:=F.Hk b _ g;exact⟨m1++m2,by rw[Z,Array.append_assoc]⟩
 .cases q:s.heap.get? ea with
  |none=>rfl
  |some o=>
   obtain⟨o',g⟩:=I.base.there ea o q tt;have:=F.new;rw[g]at this;cases this
def T4.tH{x:Str}{st:Stmt}{fd:Fr}{ps:uC}{k:Nat}{sp:Sp}(F:T4 K x x st f fd)(S:Ah N ps xc)(len:wp) (g:∀(cdv:VL) (A:OR) (outer:uM) (s:SD) (H:Hp) (vs:uI) (Q:VK) (E:XK),DQ k (A.deeper (envOfC x xc s.heap.objs.size f cdv))->sp vs H Q E ->∃t,IW (Cq Tl P w K mg base N x xc f cdv A outer s H E) (EC st) t/\t { nx:=fun _ H'=>Q .Bq H',rt:=Q} zO H):AI P w K mg base Tl io f fd ps sp:=by
 obtain⟨oc,od,kV,doc,pm,an,cdv,ct,osl,rfl,lk,U⟩:=F.ex;exact gk lk U S len fun A outer s H vs Q E Y T=>g cdv A outer s H vs Q E Y T
end
structure Exc(K:Fg)(mg:xl)(x:Str)(C:Addr):Prop where
 m:mg x=some Nq
 q:PySem.W.excIn K C [.type "ValueError",.type "Exception",.type "BaseException",.type "object"] "ValueError.__new__" = true
def jI{K:Fg}{h:Heap}{C:AD}{bB:tm}{T:wN}(Pd:K.In h)(g:PySem.W.excIn K C bB T=true):∃U N nm Z bs hd sn sub ab col dd k0 k1 k2 k3 k5 mN,h.get? C=some (excClassObj nm Z C N bs U hd sn sub ab col dd k0 k1 k2 k3 k5 T)/\h.Ns N mN/\mN "__init__" = none/\OwnTail h bB U:=by
 unfold PySem.W.excIn at g;split at g
 .rename_i dd cd sl lk;split at g
  .rename_i C1 U k0 k1 k2 k3 n1 k5 e1 e2;simp only[Bool.and_eq_true,beq_iff_eq,Bool.not_eq_true']at g;obtain⟨⟨⟨⟨⟨y1,y2⟩,y3⟩,y4⟩,Y⟩,y6⟩:=g;subst y1 y2;obtain⟨nm,bs,mro,N,Z,hd,sn,sub,ab,col,del⟩:=cd;dsimp only at e1 y3 Y y6;subst e1 y3;have e3:sl=#[k0,k1,k2,k3,some (.builtin n1),k5]:=by
    cases sl with
    |mk l=>simp only at e2;rw[e2]
   subst e3;exact⟨U,N,nm,Z,bs,hd,sn,sub,ab,col,dd,k0,k1,k2,k3,k5,_,Pd _ _ lk,.of_isNs (PySem.W.isNs_of_in Pd Y),PySem.W.nsMap_none_of_in Pd Y y6,PySem.W.tail_of_in Pd y4⟩
  .cases g
 .cases g
section
variable{X:Cx}{x:Str}{C:AD}{np cpos pos:Pos}{e:Expr}{te:TE}{E:XK}
def Lets(X:Cx)(E:XK):Prop:=∀(pins:Cl) (σ:St) (H:Hp) (s:SD) (h':Heap) (ea:AD) (cls:VL) (args:ST),Inv X pins σ H s->Heap.MadeExcOf s.heap h' ea cls args->E cls none H->X.xe zx Nz
def lS(C:AD)(E:XK)(te:TE):TS:=fun _ σ H=>te σ H fun _ g=>E Nq none g
def fT(T:Exc X.K X.mg x C)(hL:Lets X E)(U:jj)(hg:y9)(he:PE X e te)(hd:GM=false:=by decide) (Y:starEach [e] X.env=[Jo]:=by rfl):PS X (.Raise (some (.Call og [e] [] cpos)) none pos) (lS C E te):=by
 intro pins s σ H D I h;obtain⟨tl,N,nm,qn,bs,g,sn,sub,ab,col,dd,k0,k1,k2,k3,k5,mN,hC,hN,hni,TL⟩:=jI I.ok.mod.Pd T.q;refine wpAny_Raise_call_subT (C:=C) (nm:=nm) (q:=qn) (N:=N) (bs:=bs) (bm:=tl) (hdct:=g) (sn:=sn) (sub:=sub) (ab:=ab) (col:=col) (dd:=dd) (k0:=k0) (k1:=k1) (k2:=k2) (k3:=k3) (k5:=k5)
  PySem.F.excBase_ValueError (mN:=mN) (TL.hasType AT) (I.ok.hd U) (by rw[Y];rfl) hni (Ku I hg T.m ⟨rfl,?_⟩ hd)
 rw[Y];refine Calls.evalArgs_plain (Calls.spliced_cons (BV zN fun u s1 ⟨v,H1,Z,r1,q1⟩=>Calls.spliced_nil ?_));exact⟨rfl,by show 1<=sizeLine;decide,Z.bk _ _ hC,hN.keeps Z.bk,TL.keeps Z.bk,fun h' ea hm=>hL pins σ H1 s1 h' ea _ _ Z hm q1⟩
end
def Uq(X:Cx)(pins:Cl)(σ:St)(E:XK)(e:VL)(s':SD):Prop:=∃H0 s0,Inv X pins σ H0 s0/\CN X.prog X.w X.stack H0 s0 E e s'
abbrev TX:=St->Hp->VK->XK->Prop
def qj(X:Cx)(e:Expr)(t:TX):Prop :=
 ∀(pins:Cl) (s:SD) (σ:St) (H:Hp) (Q:VK) (E:XK),Inv X pins σ H s->t σ H Q E->wpAny By X.A (eval e X.env) ge (Uq X pins σ E) s
section
variable{X:Cx}{k:Nat}{f:AD}{fd:Fr}{ps:uC}{sp:Sp}{x:Str}{st:Stmt}{p pos:Pos}{e:Expr}{es:uD}{t:TA}
def mn(sp:Sp)(t:TA):TX:=fun σ H Q E=>t σ H fun vs g=>sp (vs++[]) g Q E
def iE{pins:Cl}{σ:St}{H:Hp}{s:SD}{Q:VK}{E:XK}{us:tm}{vs:uI}(F:vN)(U:DQ k X.A)(hb:Binds X.K fd ps []) (I:BY)(r:Vals vs us)(h:sp (vs++[]) H Q E):wpAny By X.A (call xo us) ge (Uq X pins σ E) s:=by
 rw[List.append_nil]at h;have Y:(us++[]).length=ps.length:=by rw[List.append_nil,<-r.length];exact F.len _ _ _ _ h
 have T:=hb s us I.Hc Y;rw[List.append_nil]at T;refine wpAny_call (codeAny_mono (F.run X.A X.stack s H ⟨us,[]⟩ us vs Q E U I.nP T r h) fun r s' g=>?_);cases r with
 |error e=>exact⟨H,s,I,g⟩
 |ok Z=>
  cases Z with
  |ret u=>exact I.after g
  |next=>exact False.elim g
  |brk=>exact False.elim g
  |cont=>exact False.elim g
def mI(T:Fn X.K X.mg x st ps f fd)(G:vN)(Z:DQ k X.A)(hg:y9)(ha:PA X.I0 zCh t) (U:GM=false:=by decide)(he:starEach zCh X.env=Jo::starEach es X.env:=by rfl)(g:(backTo pos Ol).any To=false:=by rfl):qj X IR (mn sp t):=by
 intro pins s σ H Q E I h;refine wpAny_Call_Name_kw (Ku I hg T.m ?_ U);refine PySem.W.callWith_K (h₀:=X.base) I.ok.mod.Pd T.F.kp (aW (ha pos pins s σ H _ (I.Hl _) h) (fun us s1 ⟨vs,H1,Y,r,q⟩=>⟨Y.Hc,?_⟩) fun _ _ z=>z.elim) he g;exact iE G Z T.b Y.Ee r q
end
def land{X:Cx}{pins:Cl}{σ:St}{H0 H':Hp}{s0 s':SD}{ea:AD}{cls a0:VL}{B:Heap}(I:Inv X pins σ H0 s0)(F:ZA X.prog X.w X.stack H0 s0 ea cls a0 H' s' B) {h':Heap}{tk:Nat}(st:B.StaysIn h')(up:s'.heap.UpToSlots h'):Inv X pins σ H' { s' with heap:=h',toks:=tk}:=by
 have g:∀b o,s0.heap.get? b=some o->b∈Gj X.stack->∃sl,h'.get? b=some zBq:=fun b o e hb=>by
  obtain⟨sl,T⟩:=F.slot b o e hb;obtain⟨o',Y,hd⟩:=Qb I.stack hb;rw[e]at Y;cases Y;obtain⟨U,Z⟩:=up b _ T hd;exact⟨U,Z⟩
 refine I.gK (s':={ s' with heap:=h',toks:=tk}) (ch:=[]) F.os ⟨fun b o e n hb _=>st b o (F.keep b o e n hb),fun b o e n hb _=>g b o e hb,fun b o e n _=>F.free b o e n,fun b o e _=>?_,F.BM,F.Gd,F.Hk,fun b xs o q e _=>st b o (F.Hg b xs o q e)⟩ (F.Aw.kept st) F.bare fun b z=>absurd z As;by_cases hb:b∈Gj X.stack
 .obtain⟨sl,T⟩:=g b o e hb;exact⟨_,T⟩
 .obtain⟨o',T⟩:=F.there b o e hb;exact⟨o',st _ _ T⟩
def NX(ea:AD)(cls:VL):HO:=.ext fun h=>∃o vs,h.get? ea=some o/\o.cls=cls/\o.data=.fields vs
def pB{X:Cx}{pins:Cl}{σ:St}{H0 H':Hp}{s0 s' Y:SD}{ea:AD}{cls a0:VL}{B:Heap}(I:Inv X pins σ H0 s0)(F:ZA X.prog X.w X.stack H0 s0 ea cls a0 H' s' B) (g:Inv X pins σ H' Y)(ho:∃o vs,Y.heap.get? ea=some o/\o.cls=cls/\o.data=.fields vs):H' ea=none/\Inv X pins σ (upd H' ea (NX ea cls)) Y:=by
 have hn:H' ea=none:=by
  cases q:H' ea with
  |none=>rfl
  |some u=>
   obtain⟨o,e⟩:=(F.Aw ea u q).get;rw[F.nF.2.1]at e;cases e
 have ne:∀b o,s0.heap.get? b=some o->b≠ea:=fun b o e z=>by rw[z,F.new]at e;cases e
 have up:∀b,b≠ea->upd H' ea (NX ea cls) b=H' b:=fun b z=>AK z;have neT:∀b u,H' b=some u->b≠ea:=fun b u e z=>by rw[z,hn]at e;cases e
 refine⟨hn,g.ok,g.os,g.bare,⟨g.base.keep,g.base.slot,fun b o e n hx=>?_,g.base.there,fun b xs e=>?_,fun b o u e=>?_,fun b ps e=>?_,g.base.Hg⟩,g.loc,g.cell,?_,fun y c e=>?_,fun p hp=>?_,fun b u e=>?_,g.len⟩
 .obtain⟨o',T⟩:=I.base.there b o e hx;rw[up b (ne b o' T)];exact g.base.free b o e n hx
 .have:=g.base.BM b xs e;rw[up b (neT _ _ this)];exact this
 .have:=g.base.Gd b o u e;rw[up b (neT _ _ this)];exact this
 .obtain⟨m,T⟩:=g.base.Hk b ps e;exact⟨m,by rw[up b (neT _ _ T)];exact T⟩
 .obtain⟨m,⟨o,_,_,e,_⟩,_⟩:=I.loc;rw[up _ (ne _ o e)];exact g.free
 .obtain⟨v,o,T,_⟩:=I.cell y c e;rw[up _ (ne _ o T)];exact g.Gr y c e
 .obtain⟨T,e2,Z⟩:=g.pin p hp;have e0:=(I.pin p hp).1;exact⟨T,by rw[up _ (ne _ _ e0)];exact e2,Z⟩
 .by_cases hb:b=ea
  .subst hb;rw[AU]at e;cases e;obtain⟨o,vs,T,e2,Z⟩:=ho;exact⟨⟨o,vs,T,e2,Z⟩,⟨o,T⟩,fun h1 h2 ⟨o1,U,q1,q2⟩ k=>⟨o1,U,k _ q1,q2⟩⟩
  .rw[up b hb]at e;exact(g.Aw b u e).Hd (fun c v _ q=>q) (fun c q=>by rw[up c (neT _ _ q)];exact q) fun c xs q=>by rw[up c (neT _ _ q)];exact q
structure HS(K:Fg)(C G:Addr)(b:Bool):Prop where
 cl:(PySem.W.clsIn K G).isSome=true
 ty:PySem.W.typeIn K zAS=some l0
 ex:PySem.W.subIn K zAS MZ=some true
 sub:PySem.W.subIn K Nq zAS=some b
def Vv{M:Model}{A:OR}{E:tq}{s:SD}{K:Fg}{e C G:AD}{T:Obj}{b:Bool}{Q:t9}(X:K.In s.heap)(he:s.heap.get? e=some T)(hc:T.cls=.ref C)(B:HS K C G b) (h:Q b s):wpAny M A (excMatches (.ref e) zAS) Q E s:=by
 have l1:PySem.W.Looks M s.heap (isInstance zAS FS) false:=(PySem.W.looks_typeIn X B.ty).andThen (PySem.W.Looks.of_pure tc_notTuple);have l2:PySem.W.Looks M s.heap (isType zAS) true:=by
  have z:=B.cl;unfold PySem.W.clsIn at z;split at z
  .rename_i c' d' cd' U ho;intro A' Q' E' s' k q;unfold isType loadHead;exact Wb (wpAny_loadPart (k _ _ (X _ _ ho)) (aA q))
  .cases z
 have l3:PySem.W.Looks M s.heap (isSubtype zAS MZ) true:=PySem.W.looks_subIn X B.ex;have Z:PySem.W.Looks M s.heap (typeOf (.ref e)) Nq:=hc ▸ (PySem.W.Looks.ld he).andThen .now
 have Y:PySem.W.Looks M s.heap (isSubtype Nq zAS) b:=PySem.W.looks_subIn X B.sub;obtain⟨hp,g,d,tk,os⟩:=s;unfold excMatches isExcClass;refine Wb (l1.at ?_);simp only[Bool.false_eq_true,if_false];refine Wb WF;simp only[List.forIn_cons,List.forIn_nil];refine Wb (Wb (Wb (Wb (l2.at ?_))));simp only[if_true];refine l3.at ?_;simp only[Bool.not_true,Bool.false_eq_true,if_false];refine aA (aA (Wb (Z.at (Wb (Wb (Wb (Y.at ?_)))))));cases b with
 |true=>
  simp only[if_true];exact aA (aA (aA h))
 |false=>
  simp only[Bool.false_eq_true,if_false];exact aA (aA (aA h))
def Cx.held(X:Cx)(ea:AD):Cx:={X with A:=X.A.mark (some zx),calm:=false,xe:=fun _ _=>False}
def Inv.held{X:Cx}{pins:Cl}{σ:St}{H:Hp}{s:SD}(I:BY)(ea:AD):Inv (X.held ea) pins σ H s :=
 ⟨⟨I.ok.mod,I.ok.kind,I.ok.glob,I.ok.blt,I.ok.above,I.ok.inj,I.ok.has,I.ok.WY,fun z=>(by cases z),I.ok.frames,I.ok.bx,I.ok.nr,I.ok.bs,I.ok.R8,I.ok.SY,I.ok.TQ,I.ok.JA,I.ok.Rj,I.ok.kt⟩,I.os,I.bare,I.base,I.loc,I.cell,I.free,I.Gr,I.pin,I.Aw,I.len⟩
def Inv.mL{X:Cx}{pins:Cl}{σ:St}{H:Hp}{s:SD}{ea:AD}(ok:X.Ok)(I:Inv (X.held ea) pins σ H s):Inv X pins σ H s :=
 ⟨ok,I.os,I.bare,I.base,I.loc,I.cell,I.free,I.Gr,I.pin,I.Aw,I.len⟩
def rg{X:Cx}{pins:Cl}{σ:St}{H:Hp}{s:SD}{M:Model}{A:OR}{E:tq}{i:Nat}{n:Str}{pos:Pos}{Q:x8}(I:BY)(hN:u7)(hi:X.N[i]? = some n)
 (hl:X.env.scope.names.lookup n=some .local)(h:∀s',Inv X pins (σ.set i none) H s'->Q () s'):wpAny M A (do bindName X.env n .none;unbindBehindTheSuite X.env n pos) Q E s:=by
 obtain⟨m,hn,hlk⟩:=id I.loc;have Z:wa=false:=by rw[I.ok.kind];rfl
 refine wpAny_nameGoes_keeps hl hn Z fun h' v hn' g=>h _ ?_;have hiS:i<σ.length:=by rw[I.len];exact(aD.mp hi).1
 obtain⟨oL,_,_,hoL,_⟩:=id hn;have tr:Et X.prog X.w H h':=fun b ob e=>(I.Aw b ob e).Hd (fun c w' U q=>(g.2 c (by
  rintro rfl;rcases U with U|U
  .rw[<-U,I.free]at e;cases e
  .rw[I.free]at U;cases U)).trans q) zBD fun _ _ q=>q
 refine⟨I.ok,I.os,I.bare,⟨fun b o e n hb T=>?_,fun b o e n hb T=>?_,I.base.free,fun b o e T=>?_,I.base.BM,I.base.Gd,I.base.Hk,fun b xs o q e T=>(g.2 b im).trans (I.base.Hg b xs o q e T)⟩,⟨_,hn',fun j y v' Y e2 e3=>?_⟩,fun y c e=>?_,I.free,I.Gr,fun p hp=>?_,tr,by simpa using I.len⟩
 .exact(g.2 b im).trans zBX
 .obtain⟨sl,Y⟩:=I.base.slot b o e n hb T;exact⟨sl,(g.2 b im).trans Y⟩
 .obtain⟨o',Y⟩:=I.base.there b o e T;exact⟨o',(g.2 b im).trans Y⟩
 .by_cases hj:j=i
  .subst hj;rw[List.getElem?_set_self hiS]at e2;cases e2
  .rw[List.getElem?_set_ne (Ne.symm hj)]at e2;obtain⟨u',r',q⟩:=hlk j y v' Y e2 e3;refine⟨u',r',?_⟩;rcases q with ⟨k,e⟩|⟨k,c,e,z⟩
   .refine .inl ⟨k,?_⟩;have:y≠n:=fun e=>hj (Qz hN Y (e ▸ hi));simp[this,e]
   .exact .inr ⟨k,c,e,z.sameBut g (I.Rx y c e)⟩
 .obtain⟨w',z⟩:=I.cell y c e;exact⟨w',z.sameBut g (I.Rx y c e)⟩
 .obtain⟨e,n',ne,nf,d⟩:=I.pin p hp;exact⟨(g.2 p.1 ne).trans e,n',ne,nf,d⟩
open PySem PySem.Spec PyProof.Rows PySem.Builtin.ObjectAttr PySem.Builtin.Getset_descriptor
structure D8(K:Fg)(C:Addr):Prop where
 cl:(PySem.W.clsIn K C).isSome=true
 ga:PySem.W.findIn K Nq "__getattribute__" = some (some (.builtin "BaseException.__getattribute__"))
 gh:PySem.W.findIn K Nq "__getattr__" = some none
 at_:PySem.W.findIn K Nq "__class__" = some (some TW)
 gt:PySem.W.specialIn K TW "__get__" = some (some iN)
 tk:PySem.W.takesIn K TW=some true
 ob:PySem.W.mroIn K C XN=some true
 be:PySem.W.mroIn K C MZ=some true
def excAt(x C:AD)(h:Heap):Prop:=∃o vs,h.get? x=some o/\o.cls=.ref C/\o.data=.fields vs
def excAt.ty{x C:AD}{h:Heap}(p:excAt x C h)(M:Model):PySem.W.Looks M h (typeOf (.ref x)) Nq:=by
 obtain⟨o,_,e,c,_⟩:=p;exact c ▸ (PySem.W.Looks.ld e).andThen .now
def fg{K:Fg}{C:AD}{h:Heap}(X:K.In h)(z:(PySem.W.clsIn K C).isSome=true)(M:Model):PySem.W.Looks M h (isType Nq) true:=by
 unfold PySem.W.clsIn at z;split at z
 .rename_i Z Y U g T;intro A' Q' E' s' k q;exact Wb (wpAny_loadPart (k _ _ (X _ _ T)) (aA q))
 .cases z
section
variable{prog:Go}{w:KB}{A:OR}{E:tq}{K:Fg}{x C:AD}{h:Heap}{g:Array GenState}{d:Drawn}{t:Nat}{os:yp}
def fX(X:K.In h)(F:D8 K C)(M:Model):PySem.W.Looks M h (find (.ref x) Nq "__class__") (.bind iN TW):=by
 have a1:=PySem.W.looks_findIn (M:=M) X F.at_;have a2:PySem.W.Looks M h (getOf (some TW)) (some iN):=PySem.W.looks_specialIn X F.gt;have a3:=PySem.W.looks_takesIn (M:=M) X F.tk;exact a1.andThen (a2.andThen ((show PySem.W.Looks M h (dataDescriptor? (some TW) (some iN)) (some (.builtin "getset_descriptor.__get__",.builtin "object.__class__")) from a3.andThen .now).andThen (PySem.W.Looks.tag .now)))
def jC{T:VL}{R:Result->SD->Prop}(X:K.In h)(F:D8 K C)(p:excAt x C h)(U:R (.ok (.ret Nq)) ⟨h,g,d,t,os⟩):codeAny AS A (.call iN ⟨[.builtin "object.__class__",.ref x,T],[]⟩) R ⟨h,g,d,t,os⟩:=by
 have b0:=p.ty AS;have b1:=PySem.W.looks_mroIn (M:=model prog w) X F.ob;refine codeAny_call_builtin PySem.W.KF.slot_gs.plain PySem.W.KF.entry_gs ?_;refine PySem.W.KF.slot_gs.check _ _ _ _ _ _ _ _ PySem.W.KF.type_class (PySem.W.KF.args_gs _ _ _) ?_;unfold Builtin.«getset_descriptor.__get__» descrGet;rw[PySem.W.dga_obj];refine Wb WF;unfold descrGetter descrCheckInstance descrNameAndClass isInstance;simp only[PySem.W.KF.owner_class]
 repeat lk
 refine⟨Code.quiet_builtin _ SZ,codeAny_builtin PySem.W.KF.entry_class ?_⟩;unfold Builtin.«object.__class__» shownTypeOf
 repeat lk
 exact U
def cF{tk:Tok}{Q:Fin->SD->Prop}(X:K.In h)(F:D8 K C)(p:excAt x C h)(T:Q (.done (.ret Nq)) ⟨h,g,d,t,os⟩):wpAny AS A (Builtin.«object.__getattribute__» ⟨[.ref x,.str "__class__" tk],[]⟩) Q E ⟨h,g,d,t,os⟩:=by
 have b0:=p.ty AS;have b1:=fX (x:=x) X F AS;unfold Builtin.«object.__getattribute__»
 repeat lk
 refine wpAny_run (jC X F p ?_);exact aA (aA T)
def dC{T:VL}{Q:x8}(X:K.In h)(F:D8 K C)(p:excAt x C h)(U:Q () ⟨h,g,d,t,os⟩):wpAny AS A (checkBuiltinCall "BaseException.__getattribute__" ⟨[.ref x,T],[]⟩) Q E ⟨h,g,d,t,os⟩:=by
 have Z:builtinKind "BaseException.__getattribute__" = some .slot:=by decide +kernel
 have Y:splitId "BaseException.__getattribute__" = some ("BaseException","__getattribute__"):=by decide +kernel
 have c3:=PySem.F.args_bexc_ga (.ref x) T;have b0:=p.ty AS;have b1:=PySem.W.looks_mroIn (M:=model prog w) X F.be;simp only[checkBuiltinCall,Z,Y];refine Wb ?_;unfold isInstance
 repeat lk
 exact U
def b9{Q:Uf}(X:K.In h)(F:D8 K C)(p:excAt x C h)(T:Q (some Nq) ⟨h,g,d,t+1,os⟩):wpAny AS A (getAttr? (.ref x) "__class__") Q E ⟨h,g,d,t,os⟩:=by
 have b0:=p.ty AS;have b1:=PySem.W.looks_findIn (M:=model prog w) X F.ga;have b2:=PySem.W.looks_findIn (M:=model prog w) X F.gh;unfold getAttr? getAttrBy? getAttrBy;refine Wb (wpAny_mkText (Wb (bV (aQ (Wb (b0.at (Wb (b1.at ?_))))))));have U:(Value.builtin "BaseException.__getattribute__" == Value.builtin "object.__getattribute__")=false:=by decide +kernel
 have Y:¬(vE=true):=by rw[U,Bool.and_false];exact aM
 show wpAny _ _ (if vE=true then _ else _) _ _ _;rw[if_neg Y];unfold getAttrByItsOwn;refine Wb (show wpAny _ _ (typeLookup (Value.ref C) "__getattr__") _ _ _ from b2.at ?_);refine Wb (bV (aQ ?_));show wpAny _ _ (boundAndCalled _ _ _) _ _ _;unfold boundAndCalled;have f3:=(PySem.F.excAttr_ValueError).ga.bind (.ref x);refine Wb (wpAny_of_eq f3 ?_);refine wpAny_call (codeAny_call_builtin (PySem.F.excAttr_ValueError).ga.plain PySem.F.entry_bexc_ga (dC X F p (cF X F p ?_)));exact aA (aA T)
end
def fL{K:Fg}{x C:AD}(F:D8 K C):PySem.W.KitX K (.ref x) Nq (excAt x C) where
 ty:=fun M h _ p=>p.ty M
 it:=fun M h X _=>fg X F.cl M
 ne:=fun h tp dd its n sl X htp=>by
  have z:=F.cl;refine ar.mpr fun q=>?_;have e:C=tp:=Value.ref.inj (beq_iff_eq.mp q);subst e;unfold PySem.W.clsIn at z;split at z
  .rename_i c' d' cd' sl' ho;have y:=(X _ _ ho).symm.trans htp;cases y
  .cases z
 ca:=fun {prog w A E Q s} X p k=>by
  obtain⟨h,g,d,t,os⟩:=s;exact b9 X F p k
def D6:V->VL
 |.ref C=>.ref C
 |.ty n=>.type n
 |_=>.none
def X4{c:V}{u:VL}(r:RelV c u)(h:D6 c≠.none):u=D6 c:=by
 cases c with
 |ref C=>exact r
 |ty n=>exact r
 |_=>exact absurd rfl h
section
variable{X:Cx}
def qx(K:Fg):List V->Hp->VK->Prop:=fun xs H Q=>∃x c t b,xs=[x,c]/\D6 c≠.none/\IK K H x t/\PySem.W.kitOne K t (D6 c)=some b/\Q (.bl b) H
def II:FV X (.builtin "isinstance") (qx X.K):=by
 intro pins s σ H xs us Q I r h;obtain⟨x,c,t,b,rfl,U,ty,e,q⟩:=h;obtain⟨u,v,rfl,T,g⟩:=r.two;rw[X4 g U];exact cg I T ty e fun tk=>⟨.bl b,H,I.tok tk,rfl,q⟩
def oj(K:Fg):List V->Hp->VK->Prop:=fun xs H Q=>∃ea C c b,xs=[.ref ea,c]/\D6 c≠.none/\H ea=some (NX ea Nq)/\D8 K C/\PySem.W.kitOne K Nq (D6 c)=some b/\Q (.bl b) H
def dI:FV X (.builtin "isinstance") (oj X.K):=by
 intro pins s σ H xs us Q I r h;obtain⟨ea,C,c,b,rfl,Y,U,F,e,q⟩:=h;obtain⟨u,v,rfl,T,g⟩:=r.two;rw[X4 g Y];cases (show u=Value.ref ea from T);obtain⟨p,_,_⟩:=(show Cj X.prog X.w H s.heap ea (NX ea Nq) from I.Aw ea _ U);exact bH (fL F) I.Hc p e JX fun tk=>⟨.bl b,H,I.tok tk,rfl,q⟩
end
def lu(K:Fg):PySem.W.kitOne K FS FS=some true:=rfl
def my(K:Fg):PySem.W.kitOne K ut ut=some true:=rfl
def nG(K:Fg):PySem.W.kitOne K ud ud=some true:=rfl
def mR(K:Fg):PySem.W.kitOne K ut ud=some false:=by kernel_rfl
def oM(K:Fg):PySem.W.kitOne K ud ut=some true:=by kernel_rfl
def kC(K:Fg):PySem.W.kitOne K iF FS=some false:=by kernel_rfl
def mm(K:Fg):PySem.W.kitOne K FS iF=some false:=by kernel_rfl
def mE(K:Fg):PySem.W.kitOne K iF iF=some true:=rfl
def mZ(K:Fg):PySem.W.kitOne K ut FS=some false:=by kernel_rfl
def oG(K:Fg):PySem.W.kitOne K ud FS=some false:=by kernel_rfl
def lx(K:Fg):PySem.W.kitOne K yh FS=some false:=by kernel_rfl
def kI(K:Fg):PySem.W.kitOne K (.type "str") FS=some false:=by kernel_rfl
def lR(K:Fg):PySem.W.kitOne K FS ut=some false:=by kernel_rfl
def lA(K:Fg):PySem.W.kitOne K iF ut=some false:=by kernel_rfl
def mi(K:Fg):PySem.W.kitOne K yh ut=some false:=by kernel_rfl
def nV(K:Fg):PySem.W.kitOne K (.type "str") ut=some false:=by kernel_rfl
def nT(K:Fg):PySem.W.kitOne K ut iF=some false:=by kernel_rfl
def lD(K:Fg):PySem.W.kitOne K ud iF=some false:=by kernel_rfl
def la(K:Fg):PySem.W.kitOne K yh iF=some false:=by kernel_rfl
def nQ(K:Fg):PySem.W.kitOne K (.type "str") iF=some false:=by kernel_rfl
def freeOk(g:wn)(names:zAm):Bool:=names.all fun y=>y.2 != .free||g.names.lookup y.1==some .cell||g.names.lookup y.1==some .free
def L3{g:wn}{names:zAm}(h:freeOk g names=true):∀y∈names,y.2=.free->g.names.lookup y.1=some .cell\/g.names.lookup y.1=some .free:=fun y T U=>by
 have q:=ak.mp h y T;rw[U]at q;simp only[bne_self_eq_false,Bool.false_or,Bool.or_eq_true,beq_iff_eq]at q;exact q
def B1(scope:wn)(N:uC)(x:Str)(ix:Nat):Bool :=
 scope.kind==.function&&(scope.names.all fun y=>y.2 != .cell&&(y.2 != .local||scope.names.lookup y.1==some .local)&&(y.2 != .free||scope.names.lookup y.1==some .free))&&scope.names.lookup x==some .local&&decide N.Nodup&&N[ix]? == some x
def Fo{scope:wn}{N:uC}{x:Str}{ix:Nat}(h:B1 scope N x ix=true):D7 scope N x ix:=by
 unfold B1 at h;simp only[Bool.and_eq_true,beq_iff_eq,decide_eq_true_eq,List.all_eq_true,bne_iff_ne,Bool.or_eq_true]at h;obtain⟨⟨⟨⟨h1,U⟩,h3⟩,Z⟩,Y⟩:=h;exact⟨h1,fun y g=>(U y g).1.1,fun y g T=>(U y g).1.2.resolve_left fun z=>z T,fun y g T=>(U y g).2.resolve_left fun z=>z T,h3,Z,Y⟩
section
variable{X:Cx}{elt iter:Expr}{x:Str}{px pos:Pos}{ifs:uD}{scope:wn}{wi:TI}{tif:TT}{te:TE}
def Ff(N:uC)(ix:Nat)(fr:uN)(hi:yT)(g:zCL)(U:zCM) (h1:B1 scope N x ix=true:=by decide +kernel)(h2:X.calm=true:=by rfl)(h3:Fz N X.N scope X.env.scope fr 0=true:=by rfl)(Z:fr.length=N.length:=by rfl)(Y:freeOk X.env.scope scope.names=true:=by rfl) (T:∀x,foldedSetIterable iter X.env x=pure x:=by intro _;rfl):PE X HJ zAQ :=
 jA (Fo h1) h2 h3 Z (L3 Y) hi g U T
def P0{i:Nat}{y:Str}{Z g:Pos}(N:uC)(ix:Nat)(fr:uN)(hN:u7)(hy:X.N[i]? = some y)(U:X.env.scope.names.lookup y=some .local) (hi:yT)(Y:zCL)(he:zCM) (h1:B1 scope N x ix=true:=by decide +kernel)(h2:X.calm=true:=by rfl)(h3:Fz N X.N scope X.env.scope fr 0=true:=by rfl)(h4:fr.length=N.length:=by rfl)(h5:freeOk X.env.scope scope.names=true:=by rfl) (T:swapsWith HJ (some (.Name y Z)) g.line X.env=pure true:=by rfl) (hs:∀x,foldedSetIterable iter X.env x=pure x:=by intro _;rfl):PS X (.Assign [.Name y Z] HJ g) (TV zAQ (Ds i)) :=
 Ys hN hy U (Fo h1) h2 h3 h4 (L3 h5) hi Y he T hs
end
section
variable{X:Cx}{k:Nat}{f:AD}{fd:Fr}{ps:uC}{sp:Sp}{x:Str}{st:Stmt}{p pos:Pos}{e:Expr}{es:uD}{t:TA}{E:XK}
def dM(T:Fn X.K X.mg x st ps f fd)(G:vN)(Y:DQ k X.A)(hg:y9)(hP:zBu)(ha:za) (U:GM=false:=by decide)(Z:starEach zCh X.env=Jo::starEach es X.env:=by rfl)(g:(backTo pos Ol).any To=false:=by rfl):PE X IR (Ym sp [] E t):=Xs G Y hg T.m T.F.kp T.b .nil hP ha U Z g
end
end L2
inductive Tr where
 |nil
 |cons (b r:Tr)
 deriving DecidableEq
abbrev uJ:=List Tr
namespace Tr
def bs:Tr->List Tr
 |.nil=>[]
 |.cons b r=>b::r.bs
def of:List Tr->Tr
 |[]=>.nil
 |b::r=>.cons b (of r)
def Uw:∀t:Tr,of t.bs=t
 |.nil=>rfl
 |.cons b r=>by rw[bs,of,Uw r]
def O7:∀l:List Tr,(of l).bs=l
 |[]=>rfl
 |b::r=>by rw[of,bs,O7 r]
def nW{t u:Tr}(h:t.bs=u.bs):t=u:=by rw[<-Uw t,h,Uw]
def len:Tr->Nat
 |.nil=>0
 |.cons _ r=>r.len+1
def JM:∀t:Tr,t.bs.length=t.len
 |.nil=>rfl
 |.cons _ r=>by rw[bs,List.length_cons,JM r,len]
def AR:Tr->Nat
 |.nil=>1
 |.cons b r=>b.AR+r.AR
def deep:Tr->Nat
 |.nil=>0
 |.cons b r=>max (b.deep+1) r.deep
def lt:Tr->Tr->Bool
 |.nil,.nil=>false
 |.nil,.cons _ _=>true
 |.cons _ _,.nil=>false
 |.cons b r,.cons c q=>if b=c then lt r q else lt b c
def lt_irrefl:∀t:Tr,lt t t=false
 |.nil=>rfl
 |.cons b r=>by rw[lt,if_pos rfl];exact lt_irrefl r
def lt_trans:∀a b c:Tr,lt a b=true->lt b c=true->lt a c=true
 |.nil,.nil,_,h,_=>by cases h
 |.nil,.cons _ _,.nil,_,h=>by cases h
 |.nil,.cons _ _,.cons _ _,_,_=>rfl
 |.cons _ _,.nil,_,h,_=>by cases h
 |.cons _ _,.cons _ _,.nil,_,h=>by cases h
 |.cons a r,.cons b s,.cons c t,T,g=>by
  rw[lt]at T g ⊢;by_cases Z:a=b
  .subst Z;rw[if_pos rfl]at T;by_cases U:a=c
   .subst U;rw[if_pos rfl]at g ⊢;exact lt_trans r s t T g
   .rw[if_neg U]at g ⊢;exact g
  .rw[if_neg Z]at T;by_cases U:b=c
   .subst U;rw[if_neg Z];exact T
   .rw[if_neg U]at g;have Y:=lt_trans a b c T g;by_cases e3:a=c
    .subst e3;rw[lt_irrefl]at Y;cases Y
    .rw[if_neg e3];exact Y
def LZ:∀a b:Tr,lt a b=false->lt b a=false->a=b
 |.nil,.nil,_,_=>rfl
 |.nil,.cons _ _,h,_=>by cases h
 |.cons _ _,.nil,_,h=>by cases h
 |.cons a r,.cons b s,T,g=>by
  rw[lt]at T g;by_cases e:a=b
  .subst e;rw[if_pos rfl]at T g;rw[LZ r s T g]
  .rw[if_neg e]at T;rw[if_neg (Ne.symm e)]at g;exact absurd (LZ a b T g) e
def P4(a b c:Tr)(h:lt a c=true):lt a b=true\/lt b c=true:=by
 cases T:lt a b with
 |true=>exact .inl rfl
 |false=>
  right
  cases g:lt b a with
  |true=>exact lt_trans b a c g h
  |false=>rw[<-LZ a b T g];exact h
def lt_asymm{a b:Tr}(h:lt a b=true):lt b a=false:=by
 cases g:lt b a with
 |false=>rfl
 |true=>have:=lt_trans a b a h g;rw[lt_irrefl]at this;cases this
def eC:Tr->Bool
 |.nil=>true
 |.cons b r=>b.eC&&r.eC&&(match r with
  |.nil=>true
  |.cons c _=>!lt b c)
def ins(x:Tr):List Tr->List Tr
 |[]=>[x]
 |y::r=>if lt x y=true then y::ins x r else x::y::r
def C7:List Tr->List Tr
 |[]=>[]
 |x::r=>ins x (C7 r)
end Tr
namespace TH
open PySem PyProof.Rows PySem.SeqAt
def Vs(h:Heap):Tr->List VL->Prop
 |.nil,us=>us=[]
 |.cons b r,us=>∃(a:AD) (g rest:ST),us=.ref a::rest/\h.IsTuple a g.toArray/\Vs h b g/\Vs h r rest
def Vs.length{h:Heap}:∀ {t:Tr} {us:ST},Vs h t us->us.length=t.len
 |.nil,us,e=>by rw[Vs]at e;rw[e];rfl
 |.cons b r,us,e=>by
  rw[Vs]at e;obtain⟨a,g,rest,rfl,_,_,q⟩:=e;rw[List.length_cons,Tr.len,Vs.length q]
def Iz{h:Heap}{a:AD}{x y:xP}(Y:h.IsTuple a x)(U:h.IsTuple a y):x=y:=by
 obtain⟨o,e,_,n,d⟩:=Y;obtain⟨o',g,_,Z,T⟩:=U;rw[e]at g;cases g;rw[d]at T;cases T;rfl
def Vs.inj{h:Heap}:∀ {t u:Tr} {us:ST},Vs h t us->Vs h u us->t=u
 |.nil,.nil,_,_,_=>rfl
 |.nil,.cons _ _,us,e,f=>by
  rw[Vs]at e;rw[Vs]at f;obtain⟨_,_,_,f,_⟩:=f;rw[e]at f;cases f
 |.cons _ _,.nil,us,e,f=>by
  rw[Vs]at e;rw[Vs]at f;obtain⟨_,_,_,e,_⟩:=e;rw[f]at e;cases e
 |.cons b r,.cons c q,us,e,f=>by
  rw[Vs]at e f;obtain⟨a,U,rest,rfl,h1,h2,h3⟩:=e;obtain⟨a',g,T,e',k1,Z,Y⟩:=f;cases e';have:=Iz h1 k1;have e2:U=g:=by simpa using this
  subst e2;rw[Vs.inj h2 Z,Vs.inj h3 Y]
def Ye{s:SD}:∀(t u:Tr) (A:OR) (us vs:ST),Vs s.heap t us->Vs s.heap u vs->A.units+t.deep<=cLine ->
  ∀j (h1:j<us.length) (Z:j<vs.length),EqAt A s us[j] vs[j] (decide (t.bs[j]? = u.bs[j]?))
 |.nil,u,A,us,vs,e,f,_,j,h1,Z=>by
  rw[Vs]at e;subst e;exact absurd h1 yi
 |.cons b r,.nil,A,us,vs,e,f,_,j,h1,Z=>by
  rw[Vs]at f;subst f;exact absurd Z yi
 |.cons b r,.cons c q,A,us,vs,e,f,hu,j,h1,Z=>by
  rw[Vs]at e f;obtain⟨a,T,rest,rfl,k1,k2,k3⟩:=e;obtain⟨a',g,U,rfl,l1,l2,l3⟩:=f;have hd:(Tr.cons b r).deep=max (b.deep+1) r.deep:=rfl;cases j with
  |zero=>
   show EqAt A s Jz (.ref a') (decide (some b=some c));by_cases ea:a=a'
   .subst ea;have:=Iz k1 l1;have e2:T=g:=by simpa using this
    subst e2;rw[Vs.inj k2 l2,decide_eq_true rfl];exact EqAt.same _
   .refine EqAt.of_refs ea ?_;have key:=RcAt.tuples (s:=s) (A:=A) (e:=fun j=>decide (b.bs[j]? = c.bs[j]?)) k1 l1 AC fun j x1 x2=>by
     have:=Ye b c A.in1 T g k2 l2 wI j (by simpa using x1) (by simpa using x2)
     simpa using this
    have ev:((List.range (min T.toArray.size g.toArray.size)).all (fun j=>decide (b.bs[j]? = c.bs[j]?))&&T.toArray.size==g.toArray.size)=decide (some b=some c):=by
     have z1:T.toArray.size=b.bs.length:=by rw[Tr.JM,<-Vs.length k2];simp
     have z2:g.toArray.size=c.bs.length:=by rw[Tr.JM,<-Vs.length l2];simp
     rw[z1,z2];by_cases Y:b=c
     .subst Y;simp
     .rw[decide_eq_false (fun z=>Y (aw z))];cases hl:b.bs.length==c.bs.length with
      |false=>rw[Bool.and_false]
      |true=>
       rw[Bool.and_true];have hl':b.bs.length=c.bs.length:=by simpa using hl
       refine ar.mpr fun z=>Y (Tr.nW (List.ext_getElem? fun i=>?_));by_cases hi:i<b.bs.length
       .have:=ak.mp z i (aq.mpr AC)
        simpa using this
       .rw[List.getElem?_eq_none AC,List.getElem?_eq_none AC]
    rw[ev]at key;exact key
  |succ j=>
   exact Ye r q A rest U k3 l3 AC j (by simpa using h1) (by simpa using Z)
def Sg{s:SD}{t u:Tr}{A:OR}{a b:AD}{g its':tm}(U:yA)(k1:Vs s.heap t g)(T:va)(k2:zAT)(Y:ul):EqAt A s Jz (.ref b) (decide (t=u)):=by
 have:=Ye (.cons t .nil) (.cons u .nil) A [.ref a] [.ref b] ⟨a,g,[],rfl,U,k1,by rw[Vs]⟩ ⟨b,its',[],rfl,T,k2,by rw[Vs]⟩ (by show A.units+max (t.deep+1) 0<=cLine;lia) 0 As As
 simpa[Tr.bs]using this
section
open PySem.AutoSeq1 (wpAny_loadPart')
open PySem.MeetsSeq PySem.MeetsSeq2 PySem.MeetsSeq3
def Wa(n0:Nat)(ih:∀(t u:Tr) (A:OR) (s:SD) (a b:AD) (its its':tm),t.deep<n0->s.heap.IsTuple a its.toArray->Vs s.heap t its->s.heap.IsTuple b its'.toArray->Vs s.heap u its'->A.units+t.deep<cLine ->∀(prog:Go) (w:KB) (E:tq) (Q:tq),Q (.bool wy) s->wpAny AS A (richCompare .Lt Jz (.ref b)) Q E s) (l b:AD)(items T:xP)(n n2:Nat)(dd dd2:Option AD)(sl sl2:Array (Option VL))(t u:Tr)(ht:t.deep<=n0):Meets (Builtin.«tuple.__lt__» ⟨[.ref l,.ref b],[]⟩) (fun A R s=>s.heap.get? l=some { cls:=.type "tuple",dict:=dd,data:=.seq items n,slots:=sl}/\s.heap.get? b=some { cls:=.type "tuple",dict:=dd2,data:=.seq T n2,slots:=sl2} /\Vs s.heap t items.toList/\Vs s.heap u T.toList/\A.units+t.deep<cLine/\R (.ok (.ret (.bool wy))) s) :=
 .of_wp fun prog w A R s h=>by
  obtain⟨hp,g,d,tk,os⟩:=s;obtain⟨hl,hb,hi,hj,hun,h⟩:=h;have f2:=AutoSeq1.sub_tuple_tuple;have z1:items.size=t.len:=by rw[<-Vs.length hi];simp
  have z2:T.size=u.len:=by rw[<-Vs.length hj];simp
  wp_walk using wpAny_loadPart' hl,wpAny_loadPart' hb,wpAny_forIn_list _ (fun rest b s'=>b.1=none/\s'=⟨hp,g,d,tk,os⟩/\∃(vs ws:ST) (t' u':Tr),rest=vs.zip ws /\
   Vs hp t' vs/\Vs hp u' ws/\t'.deep<=t.deep/\t'.len+T.size=u'.len+items.size/\R (.ok (.ret (.bool (Tr.lt t' u')))) ⟨hp,g,d,tk,os⟩) _
  case turn=>
   rintro⟨y,x⟩ rest b s' ⟨hb',rfl,vs,ws,t',u',hz,Z,Y,hdp,U,hR⟩;cases t' with
   |nil=>rw[Vs]at Z;subst Z;rw[List.zip_nil_left]at hz;cases hz
   |cons bt rt=>
    cases u' with
    |nil=>rw[Vs]at Y;subst Y;rw[List.zip_nil_right]at hz;cases hz
    |cons bu ru=>
     rw[Vs]at Z Y;obtain⟨a1,i1,v1,rfl,p1,p2,p3⟩:=Z;obtain⟨a2,i2,v2,rfl,q1,q2,q3⟩:=Y;rw[List.zip_cons_cons]at hz
     injection hz with hyx hrest
     injection hyx with hy hx
     subst hy hx;have hdd:(Tr.cons bt rt).deep=max (bt.deep+1) rt.deep:=rfl;rw[Tr.lt]at hR;simp only[Tr.len]at U;have he:=Sg (s:=⟨hp,g,d,tk,os⟩) (A:=A.in1) p1 p2 q1 q2 wI;refine Wb (he prog w _ _ ?_);cases hc:decide (bt=bu) with
     |true=>
      rw[if_pos (ay hc)]at hR
      wp_walk
      exact⟨rfl,rfl,_,_,_,_,hrest,p3,q3,by lia,by lia,hR⟩
     |false=>
      rw[if_neg (bY hc)]at hR;have hri:=ih bt bu A.in1 ⟨hp,g,d,tk,os⟩ a1 a2 i1 i2 AC p1 p2 q1 q2 wI prog w
      wp_walk using hri
      exact⟨_,rfl,by simpa using hR⟩
  case fin=>
   rintro⟨b1,b2⟩ s' ⟨hb',rfl,vs,ws,t',u',hz,Z,Y,hdp,U,hR⟩;simp only at hb';subst hb';have hv:Tr.lt t' u'=decide (items.size<T.size):=by
    cases t' with
    |nil=>
     cases u' with
     |nil=>
      simp only[Tr.len]at U;exact(bL AC).symm
     |cons c q=>
      simp only[Tr.len]at U;exact(decide_eq_true AC).symm
    |cons bt rt=>
     cases u' with
     |nil=>
      simp only[Tr.len]at U;exact(bL AC).symm
     |cons c q=>
      rw[Vs]at Z Y;obtain⟨_,_,_,rfl,_⟩:=Z;obtain⟨_,_,_,rfl,_⟩:=Y;rw[List.zip_cons_cons]at hz;cases hz
   rw[hv]at hR
   wp_walk
   exact⟨_,rfl,by simpa[Builtin.Tuple.tupleCompareSizes]using hR⟩
  case h=>
   exact⟨rfl,rfl,items.toList,T.toList,t,u,rfl,hi,hj,Nat.le_refl _,by lia,h⟩
def Yq:∀(n0:Nat) (t u:Tr) (A:OR) (s:SD) (a b:AD) (g its':ST),t.deep<n0->s.heap.IsTuple a g.toArray->Vs s.heap t g->s.heap.IsTuple b its'.toArray->Vs s.heap u its'->A.units+t.deep<cLine ->
   ∀(prog:Go) (w:KB) (E:ue) (Q:ue),Q (.bool wy) s->wpAny AS A (richCompare .Lt Jz (.ref b)) Q E s
 |0,_,_,_,_,_,_,_,_,h,_,_,_,_,_=>absurd h yi
 |n0+1,t,u,A,s,a,b,g,its',hd,hl,ht,hb,hu',hun=>fun prog w E Q h=>by
  obtain⟨⟨cls,dd,data,sl⟩,ho,hc,n,Y⟩:=id hl;obtain⟨⟨cls2,dd2,data2,sl2⟩,U,Z,n2,T⟩:=id hb;simp only at hc Y Z T;subst hc Y Z T;exact richCompare_meets_room (op:=.Lt) ⟨_,ho,rfl⟩ ⟨_,U,rfl⟩ PySem.F.slot_tuple_lt PySem.F.entry_tuple_lt (PySem.F.args_tuple_lt_2 _ _) (Wa n0 (Yq n0) a b g.toArray its'.toArray n n2 dd dd2 sl sl2 t u AC)
   ⟨ho,U,by simpa using ht,by simpa using hu',hun,show Value.bool wy≠Value.notImplemented/\Q (.bool wy) s from⟨(fun x=>nomatch x),h⟩⟩ AC
end
end TH
namespace SM
open PySem.W PyProof.Rows
def Wp{α:Type}(lt:Nat->Nat->Bool)(n:Nat):KasT α->(α->Prop)->Prop
 |.ret a,Q=>Q a
 |.ask i j k,Q=>i<n/\j<n/\Wp lt n (k (lt i j)) Q
def Wp.mono{α:Type}{lt:Nat->Nat->Bool}{n:Nat}{Q T:α->Prop}(g:∀a,Q a->T a):∀t:KasT α,Wp lt n t Q->Wp lt n t T
 |.ret a,h=>g a h
 |.ask i j k,h=>⟨h.1,h.2.1,Wp.mono g (k (lt i j)) h.2.2⟩
def Wp.bind{α β:Type}{lt:Nat->Nat->Bool}{n:Nat}{f:α->KasT β}{Q:β->Prop}:∀t:KasT α,Wp lt n t (fun a=>Wp lt n (f a) Q)->Wp lt n (t.bind f) Q
 |.ret _,h=>h
 |.ask i j k,h=>⟨h.1,h.2.1,Wp.bind (k (lt i j)) h.2.2⟩
def LX{p:uA}{i j:Nat}(g:j<=p.size)(k:Nat):(kas_rev p i j).getD k 0=if i<=k/\k<j then p.getD (i+j-1-k) 0 else p.getD k 0:=by
 have e:=getElem?_mirror_all (i:=i) g k;unfold kas_rev;rw[Array.getD_eq_getD_getElem?,Array.getD_eq_getD_getElem?,Array.getD_eq_getD_getElem?,e];split<;>rfl
def XB{p:uA}{src d:Nat}(g:src<p.size)(hd:d<=src)(k:Nat):(bubble p src d).getD k 0=if k=src-d then p.getD src 0 else if src-d<k/\k<=src then p.getD (k-1) 0 else p.getD k 0:=by
 have e:=getElem?_bubble g d hd k;simp only[Array.getD_eq_getD_getElem?,e];split
 .rfl
 .split<;>rfl
section
variable{O:KeyOrd}{key:Nat->O.α}{n:Nat}
def Key(key:Nat->O.α)(p:uA)(i:Nat):O.α:=key (p.getD i 0)
def Up(key:Nat->O.α)(p:uA)(m:Nat):Prop:=∀i j,i<=j->j<m->O.kle zAG (Key key p j)
def Dn(key:Nat->O.α)(p:uA)(m:Nat):Prop:=∀i j,i<=j->j<m->O.kle (Key key p j) zAG
structure Pm(n:Nat)(p:Array Nat):Prop where
 perm:p.Perm (List.toArray (List.range n))
 pos:0<n
def Pm.size{p:uA}(h:Pm n p):p.size=n:=by rw[h.perm.size_eq];simp
def Pm.lt{p:uA}(h:Pm n p)(i:Nat):p.getD i 0<n:=by
 rw[Array.getD_eq_getD_getElem?];by_cases hi:i<p.size
 .rw[Array.getElem?_eq_getElem hi];have hm:p[i]∈p:=Array.getElem_mem hi;have:=(h.perm.mem_iff).mp hm
  simpa using this
 .rw[Array.getElem?_eq_none AC];exact h.pos
def Pm.rev{p:uA}(h:Pm n p)(i j:Nat):Pm n (kas_rev p i j):=⟨(mirror_perm _ _ _ _).trans h.perm,h.pos⟩
def Pm.bubble{p:uA}(h:Pm n p)(i j:Nat):Pm n (bubble p i j):=⟨(bubble_perm _ _ _).trans h.perm,h.pos⟩
abbrev IJ(key:Nat->O.α):Nat->Nat->Bool:=fun i j=>O.blt (key i) (key j)
def Up.one{p:uA}:Up key p 1:=fun i j T g=>by
 have:i=j:=by lia
 subst this;exact bg _
def Up.more{p:uA}{m:Nat}(h:Up key p m)(Y:1<=m)(hk:O.kle wO zAH):Up key p (m+1):=fun i j g U=>by
 by_cases e:j=m
 .subst e;by_cases T:i=j
  .subst T;exact bg _
  .exact KeyOrd.kle_trans (h i (j-1) AC AC) hk
 .exact h i j g AC
def Dn.more{p:uA}{m:Nat}(h:Dn key p m)(Y:1<=m)(hk:O.kle zAH wO):Dn key p (m+1):=fun i j g U=>by
 by_cases e:j=m
 .subst e;by_cases T:i=j
  .subst T;exact bg _
  .exact KeyOrd.kle_trans hk (h i (j-1) AC AC)
 .exact h i j g AC
def asc{p:Array Nat}(g:Pm n p):∀(f m:Nat),1<=m->Up key p m->Wp (IJ key) n (kas_asc p f m) fun r=>m<=r/\r<=m+f/\Up key p r/\(r=m+f\/O.klt (Key key p r) (Key key p (r-1)))
 |0,m,_,h=>⟨aH _,Nat.le_refl _,h,.inl rfl⟩
 |f+1,m,U,h=>by
  refine⟨g.lt _,g.lt _,?_⟩;cases c:IJ key (p.getD m 0) (p.getD (m-1) 0) with
  |true=>exact⟨aH _,by lia,h,.inr c⟩
  |false=>
   simp only[Bool.false_eq_true,if_false];refine Wp.mono (fun r T=>?_) _ (asc g f (m+1) AC (h.more U c));exact⟨by lia,by lia,T.2.2.1,T.2.2.2.elim (fun z=>.inl AC) .inr⟩
def Eq(key:Nat->O.α)(p:uA)(m q:Nat):Prop:=q<m/\∀k,m-(q+1)<=k->k<m->Key key p k=Key key p (m-1)
def rev_eq{p:uA}{m q:Nat}(h:Eq key p m q)(hm:m<=p.size)(k:Nat):Key key (kas_rev p (m-(q+1)) m) k=Key key p k:=by
 unfold Key;rw[LX hm];split
 .have a:=h.2 (m-(q+1)+m-1-k) (by have:=h.1;lia) (by have:=h.1;lia);have b:=h.2 k AC AC;exact a.trans b.symm
 .rfl
def desc:∀(f:Nat) (p:Array Nat) (m q:Nat),Pm n p->1<=m->m+f<=n->Dn key p m->Eq key p m q->Wp (IJ key) n (kas_desc f p m q) fun r=>Pm n r.1/\m<=r.2.1/\r.2.1<=m+f/\Dn key r.1 r.2.1/\Eq key r.1 r.2.1 r.2.2
 |0,p,m,q,g,_,_,h,e=>⟨g,Nat.le_refl _,Nat.le_refl _,h,e⟩
 |f+1,p,m,q,g,h1,hf,h,e=>by
  refine⟨g.lt _,g.lt _,?_⟩;have hm:m<=p.size:=by rw[g.size];lia
  cases c:IJ key (p.getD m 0) (p.getD (m-1) 0) with
  |true=>
   have ck:O.klt zAH wO:=c;simp only[if_true];have fin:∀T:Array Nat,Pm n T->(∀k,Key key T k=Key key p k)->Wp (IJ key) n (kas_desc f T (m+1) 0) fun r=>Pm n r.1/\m<=r.2.1/\r.2.1<=m+(f+1)/\Dn key r.1 r.2.1/\Eq key r.1 r.2.1 r.2.2:=fun T Y hk=>by
    have hd:Dn key T (m+1):=fun i j Z hj=>by rw[hk,hk];exact h.more h1 (KeyOrd.kle_of_klt ck) i j Z hj
    have he:Eq key T (m+1) 0:=⟨by lia,fun k h1 h2=>by rw[show k=m+1-1 by lia]⟩;exact Wp.mono zAn _ (desc f T (m+1) 0 Y AC AC hd he)
   split
   .exact fin _ (g.rev _ _) (rev_eq e hm)
   .exact fin _ g fun _=>rfl
  |false=>
   simp only[Bool.false_eq_true,if_false];refine⟨g.lt _,g.lt _,?_⟩;cases d:IJ key (p.getD (m-1) 0) (p.getD m 0) with
   |true=>
    simp only[if_true];exact⟨g,Nat.le_refl _,Nat.le_add_right _ _,h,e⟩
   |false=>
    simp only[Bool.false_eq_true,if_false];have ek:Key key p m=Key key p (m-1):=KeyOrd.kle_antisymm (show O.kle zAH wO from d) (show O.kle wO zAH from c);refine Wp.mono zAn _ (desc f p (m+1) (q+1) g AC AC (h.more h1 (by rw[ek];exact bg _)) ⟨by have:=e.1;lia,fun k h2 h3=>?_⟩);rw[show m+1-1=m by lia,ek];by_cases z:k=m
    .rw[z,ek]
    .exact e.2 k AC AC
def oB{p:uA}{m:Nat}(h:Dn key p m)(hm:m<=p.size):Up key (kas_rev p 0 m) m:=fun i j g T=>by
 unfold Key;rw[LX hm,LX hm,if_pos ⟨bJ _,by lia⟩,if_pos ⟨bJ _,by lia⟩];exact h (0+m-1-j) (0+m-1-i) AC AC
def tail3{p:uA}{m:Nat}(g:Pm n p)(U:1<=m)(hm:m<=n)(h:Dn key p m):Wp (IJ key) n (kas_tail3 m n p) fun r=>Pm n r.2/\1<=r.1/\r.1<=n/\Up key r.2 r.1:=by
 unfold kas_tail3;refine Wp.bind _ (Wp.mono (fun r T=>?_) _ (asc (g.rev 0 m) (n-m) m U (oB h (by rw[g.size];exact hm))));exact⟨g.rev 0 m,by lia,by lia,T.2.2.1⟩
def descPart{p:uA}{m:Nat}(Y:Pm n p)(h1:1<=m)(hm:m+1<=n)(h:Dn key p (m+1)):Wp (IJ key) n (kas_descPart m n p) fun r=>Pm n r.2/\1<=r.1/\r.1<=n/\Up key r.2 r.1:=by
 unfold kas_descPart;refine Wp.bind _ (Wp.mono (fun r U=>?_) _ (desc (n-(m+1)) p (m+1) 0 Y AC AC h ⟨by lia,fun k h1 h2=>by rw[show k=m+1-1 by lia]⟩));obtain⟨a,b,c,d,e⟩:=U;have T:r.2.1<=r.1.size:=by rw[a.size];lia
 split
 .refine tail3 (a.rev _ _) AC AC fun i j g Z=>?_;rw[rev_eq e T,rev_eq e T];exact d i j g Z
 .exact tail3 a AC AC d
def count{p:uA}(g:Pm n p):Wp (IJ key) n (kas_count n p) fun r=>Pm n r.2/\1<=r.1/\r.1<=n/\Up key r.2 r.1:=by
 have hn:=g.pos;unfold kas_count;refine Wp.bind _ (Wp.mono vv _ (asc g (n-1) 1 UF Up.one));obtain⟨Z,h2,Y,h4⟩:=hm;split
 .exact⟨g,Z,by lia,Y⟩
 .rename_i hne;have U:m≠n:=by simpa using hne
  have hk:O.klt zAH wO:=by
   rcases h4 with z|z
   .exact absurd AC U
   .exact z
  have hz:m<=p.size:=by rw[g.size];lia
  split
  .refine⟨g.lt _,g.lt _,?_⟩;cases c:IJ key (p.getD 0 0) (p.getD (m-1) 0) with
   |true=>simp only[if_true];exact⟨g,Z,by lia,Y⟩
   |false=>
    simp only[Bool.false_eq_true,if_false];have all:∀k,k<m->Key key p k=Key key p (m-1):=fun k T=>KeyOrd.kle_antisymm (Y k (m-1) AC AC) (KeyOrd.kle_trans (show O.kle wO (Key key p 0) from c) (Y 0 k AC T));have ek:∀k,Key key (kas_rev p 0 m) k=Key key p k:=fun k=>by
     by_cases T:k<m
     .have:Key key (kas_rev p 0 m) k=Key key p (0+m-1-k):=by
       unfold Key;rw[LX hz,if_pos ⟨bJ _,T⟩]
      rw[this,all _ AC,all k T]
     .unfold Key;rw[LX hz,if_neg AC]
    refine descPart (g.rev _ _) Z AC fun i j hij hj=>?_;rw[ek,ek];by_cases e:j=m
    .subst e;by_cases e2:i=j
     .subst e2;exact bg _
     .rw[all i AC];exact KeyOrd.kle_of_klt hk
    .rw[all i AC,all j AC];exact bg _
  .have:m=1:=by lia
   subst this;refine descPart g Z AC fun i j hij hj=>?_;by_cases e:i=j
   .subst e;exact bg _
   .rw[show i=0 by lia,show j=1 by lia];exact KeyOrd.kle_of_klt hk
def place{p:Array Nat}{k:Nat}(T:Pm n p)(g:Up key p k):∀(f l r:Nat),l<=r->r<=k->r-l<=f->(∀i,i<l->O.kle zAG zAI)->(∀i,r<=i->i<k->O.klt zAI zAG) ->
  Wp (IJ key) n (kas_place p k f l r) fun x=>x<=k/\(∀i,i<x->O.kle zAG zAI)/\∀i,x<=i->i<k->O.klt zAI zAG
 |0,l,r,h1,U,h3,a,b=>by
  have:l=r:=by lia
  subst this;exact⟨U,a,b⟩
 |f+1,l,r,h1,U,h3,a,b=>by
  unfold kas_place;split
  .have:l=r:=by lia
   subst this;exact⟨U,a,b⟩
  .refine⟨T.lt _,T.lt _,?_⟩;cases c:IJ key (p.getD k 0) (p.getD ((l+r) / 2) 0) with
   |true=>
    simp only[if_true];exact place T g f l ((l+r) / 2) AC AC AC a fun i Y Z=>KeyOrd.klt_of_klt_of_kle (show O.klt zAI (Key key p ((l+r) / 2)) from c) (g _ _ Y Z)
   |false=>
    simp only[Bool.false_eq_true,if_false];exact place T g f ((l+r) / 2+1) r AC U AC (fun i Y=>KeyOrd.kle_trans (g i ((l+r) / 2) AC AC) (show O.kle (Key key p ((l+r) / 2)) zAI from c)) b
def bin:∀(f:Nat) (p:Array Nat) (k:Nat),Pm n p->1<=k->k+f=n->Up key p k->Wp (IJ key) n (kas_bin f p k) fun r=>Pm n r/\Up key r n
 |0,p,k,g,_,hk,h=>by
  have:k=n:=by lia
  subst this;exact⟨g,h⟩
 |f+1,p,k,g,h1,hk,h=>by
  have U:k<p.size:=by rw[g.size];lia
  refine Wp.bind _ (Wp.mono (fun l hl=>?_) _ (place g h k 0 k (bJ _) UF AC (fun i z=>absurd z AC) fun i z1 z2=>absurd z1 AC));obtain⟨hlk,T,Y⟩:=hl;refine bin f _ io (g.bubble _ _) AC AC fun i j hij hj=>?_;have Z:∀x,Key key (PyProof.Rows.bubble p k (k-l)) x=if x=l then Key key p k else if l<x/\x<=k then Key key p (x-1) else Key key p x:=fun x=>by
   unfold Key;rw[XB U AC,show k-(k-l)=l by lia];split
   .rfl
   .split<;>rfl
  rw[Z,Z]
  repeat' split
  all_goals first
   |(exfalso;lia)
   |exact bg _
   |exact T _ AC
   |exact KeyOrd.kle_of_klt (Y _ AC AC)
   |exact h _ _ AC AC
def sort(hn:0<n):Wp (IJ key) n (kas_sort n) fun p=>Pm n p/\Up key p n:=by
 have T:Pm n (List.toArray (List.range n)):=⟨Array.Perm.refl _,hn⟩;unfold kas_sort;refine Wp.bind _ (Wp.mono (fun r g=>?_) _ (count T));obtain⟨a,b,c,d⟩:=g;split
 .rw[show max r.1 1=r.1 by lia];exact bin _ _ _ a b AC d
 .have:r.1=n:=by lia
  rw[this]at d;exact⟨a,d⟩
end
end SM
namespace Tr
def QL(x:Tr):∀l:List Tr,(ins x l).Perm (x::l)
 |[]=>.refl _
 |y::r=>by
  rw[ins];split
  .exact((QL x r).cons y).trans (.swap x y r)
  .exact .refl _
def K4:∀l:List Tr,(C7 l).Perm l
 |[]=>.refl _
 |x::r=>by
  rw[C7];exact(QL x (C7 r)).trans ((K4 r).cons x)
abbrev S9(l:yw):Prop:=l.Pairwise fun a b=>lt a b=false
def WH(x:Tr):∀l:List Tr,S9 l->S9 (ins x l)
 |[],_=>List.pairwise_singleton _ _
 |y::r,h=>by
  obtain⟨T,Y⟩:=bj.mp h;rw[ins];split
  .rename_i c;refine bj.mpr ⟨fun z g=>?_,WH x r Y⟩;rcases aN.mp ((QL x r).mem_iff.mp g) with rfl|g
   .exact lt_asymm c
   .exact T z g
  .rename_i c;have U:lt x y=false:=by simpa using c
   refine bj.mpr ⟨fun z g=>?_,h⟩;rcases aN.mp g with rfl|g
   .exact U
   .cases e:lt x z with
    |false=>rfl
    |true=>
     rcases P4 x y z e with q|q
     .rw[U]at q;cases q
     .rw[T z g]at q;cases q
def K3:∀l:List Tr,S9 (C7 l)
 |[]=>List.Pairwise.nil
 |x::r=>by rw[C7];exact WH x _ (K3 r)
def MP:∀ {l m:yw},S9 l->S9 m->l.Perm m->l=m
 |[],m,_,_,p=>(List.nil_perm.mp p).symm
 |x::r,[],_,_,p=>absurd p.length_eq As
 |x::r,y::q,Y,U,p=>by
  obtain⟨a1,a2⟩:=bj.mp Y;obtain⟨b1,b2⟩:=bj.mp U;have T:x∈y::q:=p.mem_iff.mp ae;have g:y∈x::r:=p.mem_iff.mpr ae;have e:x=y:=by
   rcases aN.mp T with e|T
   .exact e
   .rcases aN.mp g with e|g
    .exact e.symm
    .exact LZ x y (a1 y g) (b1 x T)
  subst e;rw[MP a2 b2 (List.Perm.cons_inv p)]
def bz{l m:uJ}(h:S9 m)(p:m.Perm l):m=C7 l:=MP h (K3 l) (p.trans (K4 l).symm)
def Yb{l m:uJ}(h:m.Pairwise fun a b=>lt b a=false)(p:m.Perm l):m=(C7 l).reverse:=by
 have:m.reverse=C7 l:=bz (List.pairwise_reverse.mpr h) ((List.reverse_perm m).trans p);rw[<-this,List.reverse_reverse]
def O3(n:Nat):∀l:List Tr,(of l).deep<=n ↔ ∀c∈l,c.deep+1<=n
 |[]=>by simp[of,deep]
 |b::r=>by
  rw[of,deep,List.forall_mem_cons,<-O3 n r]
  lia
def Zq{l m:uJ}(p:l.Perm m):(of l).deep<=(of m).deep:=(O3 _ l).mpr fun c g=>(O3 _ m).mp UF c (p.mem_iff.mp g)
def fE(t:Tr):(of t.bs.reverse).deep<=t.deep:=by
 have:=Zq (List.reverse_perm t.bs)
 rwa [Uw]at this
def ord:PyProof.Rows.KeyOrd where
 α:=Tr
 blt:=lt
 irrefl:=lt_irrefl
 trans:=lt_trans
 negTrans:=P4
 total:=LZ
end Tr
namespace TH
open PySem PySem.W PyProof.Rows PySem.SeqAt
def Vs.at{h:Heap}:∀ {t:Tr} {us:ST} {i:Nat},Vs h t us->i<us.length->∃(a:AD) (g:ST) (c:Tr),us.getD i Value.none=.ref a/\h.IsTuple a g.toArray/\Vs h c g/\t.bs[i]? = some c/\c.deep<t.deep
 |.nil,us,i,e,hi=>by rw[Vs]at e;subst e;exact absurd hi yi
 |.cons b r,us,i,e,hi=>by
  rw[Vs]at e;obtain⟨a,g,rest,rfl,h1,h2,h3⟩:=e;have hd:(Tr.cons b r).deep=max (b.deep+1) r.deep:=rfl;cases i with
  |zero=>exact⟨a,g,b,rfl,h1,h2,rfl,by lia⟩
  |succ i=>
   obtain⟨a',T,c,q1,Z,Y,U,q5⟩:=Vs.at (i:=i) h3 nw;exact⟨a',T,c,by simpa using q1,Z,Y,by simpa[Tr.bs]using U,by lia⟩
def Vs.LQ{h:Heap}:∀(ts:yw) (us:ST),us.length=ts.length->(∀i,i<ts.length->∃(a:AD) (g:ST) (c:Tr),us[i]? = some Jz/\h.IsTuple a g.toArray/\Vs h c g/\ts[i]? = some c)->Vs h vx us
 |[],us,U,_=>by
  rw[Tr.of,Vs];exact bN (by simpa using U)
 |t::ts,[],U,_=>by simp at U
 |t::ts,u::us,U,h=>by
  rw[Tr.of,Vs];obtain⟨a,g,c,Z,e2,e3,Y⟩:=h 0 As;simp at Z Y;subst Z Y;refine⟨a,g,us,rfl,e2,e3,Vs.LQ ts us (by simpa using U) fun i hi=>?_⟩;obtain⟨a',T,c',q1,q2,q3,q4⟩:=h On nw;exact⟨a',T,c',by simpa using q1,q2,q3,by simpa using q4⟩
def Vs.all{h:Heap}{t:Tr}{us:tm}(e:Vs h t us):∀i,i<t.bs.length->∃(a:AD) (g:tm) (c:Tr),us[i]? = some Jz/\h.IsTuple a g.toArray/\Vs h c g/\t.bs[i]? = some c:=fun i hi=>by
 have T:i<us.length:=by rw[Vs.length e,<-Tr.JM];exact hi
 obtain⟨a,g,c,U,q2,Z,Y,_⟩:=e.at T;refine⟨a,g,c,?_,q2,Z,Y⟩;rw[List.getD_eq_getElem?_getD,List.getElem?_eq_getElem T]at U;rw[List.getElem?_eq_getElem T]
 simpa using U
section
variable{prog:Go}{w:KB}{A:OR}{E:tq}{s:SD}{t u:Tr}{a b:AD}{its its':tm}{Q:t9}
def Xo(U:xS)(k1:Vs s.heap t its)(T:va)(k2:zAT)(g:ul)(h:Q wy s):wpAny AS A (oneLt' false Jz (.ref b)) Q E s:=by
 rw[oneLt'_eq];simp only[Bool.false_eq_true,if_false];exact Wb (Yq (t.deep+1) t u A s a b its its' (bW _) U k1 T k2 g prog w E _ (wpAny_truthy_bool h))
def jh(h1:xS)(k1:Vs s.heap t its)(h2:va)(k2:zAT)(hu:ul)(h:Q wy s):wpAny AS A (oneLt' true Jz (.ref b)) Q E s:=by
 rw[oneLt'_eq];simp only[if_true];refine Wb (wpAny_cRoomFor AC ?_);obtain⟨⟨cls,dd,data,sl⟩,ho,hc,n,U⟩:=id h1;obtain⟨⟨cls2,dd2,data2,Z⟩,ho2,Y,n2,g⟩:=id h2;simp only at hc U Y g;subst hc U Y g;refine Wb (wpAny_callSpecialIfBound?_slot (T := "tuple") ⟨_,ho,rfl⟩ PySem.F.slot_tuple_lt (call_meets PySem.F.slot_tuple_lt ⟨_,ho,rfl⟩ PySem.F.entry_tuple_lt (PySem.F.args_tuple_lt_2 _ _)
  (Wa t.deep (Yq t.deep) a b its.toArray its'.toArray n n2 dd dd2 sl Z t u UF) ⟨ho,ho2,by simpa using k1,by simpa using k2,hu,?_⟩))
 exact wpAny_truthy_bool h
def Xp:∀(t u:Tr) (us vs:ST) (i:Nat),Vs s.heap t us->Vs s.heap u vs->A.units+t.deep<=cLine->Q wy s->KatLex prog w A false (decide (t.len<u.len)) Q (us.zip vs) i s
 |.nil,.nil,us,vs,i,e,f,_,h=>by
  rw[Vs]at e;subst e;rw[List.zip_nil_left];exact kat_nil h
 |.nil,.cons c q,us,vs,i,e,f,_,h=>by
  rw[Vs]at e;subst e;rw[List.zip_nil_left];refine kat_nil ?_;rw[show decide (Tr.nil.len<(Tr.cons c q).len)=true from decide_eq_true (Nat.zero_lt_succ _)];exact h
 |.cons b r,.nil,us,vs,i,e,f,_,h=>by
  rw[Vs]at f;subst f;rw[List.zip_nil_right];refine kat_nil ?_;rw[show decide ((Tr.cons b r).len<Tr.nil.len)=false from bL yi];exact h
 |.cons b r,.cons c q,us,vs,i,e,f,hu,h=>by
  rw[Vs]at e f;obtain⟨a,its,rest,rfl,k1,Z,k3⟩:=e;obtain⟨a',its',T,rfl,Y,U,l3⟩:=f;have hd:(Tr.cons b r).deep=max (b.deep+1) r.deep:=rfl;rw[List.zip_cons_cons,show decide ((Tr.cons b r).len<(Tr.cons c q).len)=decide (r.len<q.len) from by simp[Tr.len]];rw[Tr.lt]at h;refine kat_cons (Sg k1 Z Y U AC prog w _ _ ?_);by_cases g:b=c
  .rw[decide_eq_true g];rw[if_pos g]at h;exact kat_yes (Xp r q rest T On k3 l3 AC h)
  .rw[decide_eq_false g];rw[if_neg g]at h;exact kat_no (by rw[Bool.false_and];exact Xo k1 Z Y U AC h)
def iH(h1:xS)(k1:Vs s.heap t its)(h2:va)(k2:zAT)(hu:ul)(h:Q wy s):wpAny AS A (keyLt' (tuples' false) Jz (.ref b)) Q E s:=by
 obtain⟨o,Z,hc,n,hd⟩:=id h1;obtain⟨o2,g,hc2,n2,T⟩:=id h2;refine kat_lt Z hd g T ?_;have Y:its.toArray.size=t.len:=by rw[<-Vs.length k1];simp
 have U:its'.toArray.size=u.len:=by rw[<-Vs.length k2];simp
 rw[Y,U];exact Xp t u its its' 0 k1 k2 AC h
def V7(g:SortKind):Prop:=g=general'\/g=oneType'\/g=tuples' false
def jK{Z:SortKind}(g:V7 Z)(Y:xS)(k1:Vs s.heap t its)(U:va)(k2:zAT)(T:ul)(h:Q wy s):wpAny AS A (keyLt' Z Jz (.ref b)) Q E s:=by
 rcases g with rfl|rfl|rfl
 .exact Xo Y k1 U k2 T h
 .rw[keyLt'_oneType];exact jh Y k1 U k2 T h
 .exact iH Y k1 U k2 T h
def Ph{M:Model}{h:Heap}{a:AD}{x:xP}(U:h.IsTuple a x):Looks M h (typeOf Jz) FS:=by
 obtain⟨o,g,T,_⟩:=U;exact T ▸ (Looks.ld g).andThen .now
def T1{M:Model}:∀(t:Tr) (us:ST) {Q:List (Option VL)->SD->Prop},Vs s.heap t us->(∀fs:List (Option VL),(∀v,some v∈fs->Looks M s.heap (typeOf v) FS)->Q fs s)->wpAny M A (us.mapM firstOfTuple') Q E s
 |.nil,us,Q,e,h=>by
  rw[Vs]at e;subst e;rw[List.mapM_nil];exact aA (h [] fun _ z=>by cases z)
 |.cons b r,us,Q,e,h=>by
  rw[Vs]at e;obtain⟨a,its,rest,rfl,h1,g,h3⟩:=e;obtain⟨o,Y,hc,n,hd⟩:=id h1;rw[List.mapM_cons];refine Wb ?_;rw[kas_first_eq];refine Wb (Looks.here (show Looks M s.heap (typeOf Jz) o.cls from(Looks.ld Y).andThen .now) ?_);rw[hc,if_neg (by first|decide|simp)];refine Wb (listItems_at Y hd (aA ?_));refine Wb (T1 r rest (Q:=fun bs s'=>wpAny M A (pure (its.toArray[0]? :: bs)) Q E s') h3 fun fs U=>aA (h _ fun v hv=>?_));rcases aN.mp hv with z|z
  .cases b with
   |nil=>rw[Vs]at g;subst g;simp at z
   |cons c q=>
    rw[Vs]at g;obtain⟨a',its',T,rfl,Z,_⟩:=g;simp at z;subst z;exact Ph Z
  .exact U v z
def YK{M:Model}{vs:tm}{Q:Uf}(Y:∀v∈vs,Looks M s.heap (typeOf v) FS)(h0:vs=[]->Q none s)(Z:Q (some FS) s):wpAny M A (oneTypeOnly' vs.toArray) Q E s:=by
 rw[oneTypeOnly'_eq,List.mapM_toArray,map_eq_pure_bind];refine Wb (Wb (kas_mapM (r:=Value.type "tuple") _ (fun v T Q' U=>(Y v T).here U) WF));cases vs with
 |nil=>exact aA (h0 rfl)
 |cons f r=>
  have g:((List.map (fun _=>Value.type "tuple") (f::r)).toArray.all fun x=>x==Value.type "tuple")=true:=by
   simp only[List.all_toArray,List.all_map,List.all_eq_true];intro _ _
   rfl
  have e0:(List.map (fun _=>Value.type "tuple") (f::r)).toArray[0]? = some (Value.type "tuple"):=by simp
  rw[e0];simp only[g,if_true];exact aA Z
def jf{M:Model}{t:Tr}{us:tm}{Q:SortKind->SD->Prop}(e:zBv)(h:∀Z,V7 Z->Q Z s):wpAny M A (keyKind' us.toArray) Q E s:=by
 rw[kat_kind_eq,List.mapM_toArray,map_eq_pure_bind];refine Wb (Wb (T1 t us e fun fs Y=>aA ?_));split
 .refine Wb (bQ ?_);have e1:fs.toArray.filterMap id=(fs.filterMap id).toArray:=by simp
  rw[e1];have U:∀v∈fs.filterMap id,Looks M s.heap (typeOf v) FS:=fun v T=>Y v uf;refine Wb (YK U (fun _=>?_) ?_)
  .exact aA (h _ (.inr (.inr rfl)))
  .exact aA (h _ (.inr (.inr rfl)))
 .split
  .exact aA (h _ db)
  .have U:∀v∈us,Looks M s.heap (typeOf v) FS:=fun v T=>by
    obtain⟨i,hi,rfl⟩:=List.getElem_of_mem T;obtain⟨a,its,c,g,q2,_⟩:=e.at hi;rw[List.getD_eq_getElem?_getD,List.getElem?_eq_getElem hi]at g;simp at g;rw[g];exact Ph q2
   refine Wb (YK U (fun _=>?_) ?_)
   .exact aA (h _ db)
   .exact aA (h _ (.inr db))
def Vn{α:Type}{cmp:Nat->Nat->(Bool->SD->Prop)->SD->Prop}{lt:Nat->Nat->Bool}{n:Nat}{U:α->Prop}(g:∀i j C,i<n->j<n->C (lt i j) s->cmp i j C s):∀T:KasT α,SM.Wp lt n T U->T.kasWp cmp (fun a s'=>s'=s/\U a) s
 |.ret a,h=>⟨rfl,h⟩
 |.ask i j k,h=>g i j _ h.1 h.2.1 (Vn g (k (lt i j)) h.2.2)
end
end TH
namespace TH
open PySem PySem.W PyProof.Rows PySem.SeqAt
def Vs.keeps{h h':Heap}(k:Pc):∀ {t:Tr} {us:ST},Vs h t us->Vs h' t us
 |.nil,us,e=>by rw[Vs]at e ⊢;exact e
 |.cons b r,us,e=>by
  rw[Vs]at e ⊢;obtain⟨a,g,rest,rfl,⟨o,U,T,hd⟩,Z,Y⟩:=e;exact⟨a,g,rest,rfl,⟨o,k _ _ U T,T,hd⟩,Z.keeps k,Y.keeps k⟩
def map_getD{α:Type}(d:α)(l:mu):(List.range l.length).map (fun i=>l.getD i d)=l:=by
 refine List.ext_getElem As fun i T g=>?_;simp[g]
def Vs.rev{h:Heap}{t:Tr}{us:tm}(e:Vs h t us):Vs h (Tr.of t.bs.reverse) us.reverse:=by
 have T:us.length=t.bs.length:=by rw[e.length,Tr.JM]
 refine Vs.LQ _ _ (by simp[T]) fun i hi=>?_;rw[List.length_reverse]at hi;obtain⟨a,g,c,q1,Z,Y,U⟩:=e.all (t.bs.length-1-i) AC;exact⟨a,g,c,by rw[List.getElem?_reverse AC,T];exact q1,Z,Y,by rw[List.getElem?_reverse hi];exact U⟩
section
variable{prog:Go}{w:KB}{A:OR}{E:tq}{s:SD}
def fW{κ:SortKind}{t:Tr}{g:tm}(hκ:V7 κ)(e:Vs s.heap t g)(h2:2<=g.length)(h64:g.length<64)(hu:A.units+t.deep<=cLine):wpAny AS A ((sortRuns').run (SortSt.mk' κ (g.toArray.zip g.toArray) #[] 7 none)) (fun r s'=>s'=s/\failedOf r.2=none/\∃ix:uG,ix.length=g.length/\(∀i∈ix,i<g.length) /\(arrOf r.2).map wG=(ix.map fun i=>g.getD i Value.none).toArray/\wP=(Tr.C7 t.bs).reverse) E s:=by
 have hl:g.length=t.bs.length:=by rw[e.length,Tr.JM]
 have key:∀i,i<g.length->∃(a:AD) (T:ST),g.getD i Value.none=.ref a/\s.heap.IsTuple a T.toArray/\Vs s.heap (t.bs.getD i .nil) T/\(t.bs.getD i .nil).deep<t.deep:=fun i hi=>by
  obtain⟨a,T,c,q1,q2,Z,q4,q5⟩:=e.at hi;have:t.bs.getD i .nil=c:=by rw[List.getD_eq_getElem?_getD,q4];rfl
  rw[this];exact⟨a,T,q1,q2,Z,q5⟩
 refine kat_run (Q:=fun U s'=>s'=s/\failedOf U=none/\∃ix:List Nat,ix.length=g.length/\(∀i∈ix,i<g.length)/\(arrOf U).map wG=(ix.map fun i=>g.getD i Value.none).toArray/\wP=(Tr.C7 t.bs).reverse)
  (G:=fun p s'=>s'=s/\SM.Pm g.length p/\SM.Up (O:=Tr.ord) (fun i=>t.bs.getD i .nil) p g.length) rfl h2 h64 (fun p U s' hp har hf hG=>?_)
  (Vn (lt:=SM.IJ (O:=Tr.ord) fun i=>t.bs.getD i .nil) (n:=g.length) (fun i j C hi Y hC=>?_) _ (SM.sort AC))
 .obtain⟨rfl,hpm,hup⟩:=hG;have h1:p.toList.Perm (List.range g.length):=by simpa using Array.perm_iff_toList_perm.mp hpm.perm
  refine⟨rfl,hf,p.toList,by rw[Array.length_toList,hp],fun i hi=>aq.mp (h1.mem_iff.mp hi),kat_snds rfl har,?_⟩;have perm:(p.toList.map fun i=>t.bs.getD i .nil).Perm t.bs:=by
   have h3:=h1.map fun i=>t.bs.getD i Tr.nil
   rwa [hl,map_getD]at h3
  refine Tr.Yb (List.pairwise_iff_getElem.mpr fun i j hi Y hij=>?_) perm;rw[List.length_map,Array.length_toList,hp]at hi Y;have:=hup i j AC Y;have e1:∀k,k<g.length->∀hk,(p.toList.map fun i=>t.bs.getD i Tr.nil)[k]' hk=t.bs.getD (p.getD k 0) .nil:=fun k hk hk'=>by
   rw[List.getElem_map,Array.getElem_toList,Array.getD,dif_pos AC]
   rfl
  rw[e1 i hi,e1 j Y];exact this
 .obtain⟨a,T,q1,q2,Z,q4⟩:=key i hi;obtain⟨a',its',r1,r2,r3,r4⟩:=key j Y;unfold kas_ask;rw[q1,r1];exact jK hκ q2 Z r2 r3 AC hC
def cK(b:Bool)(us:tm)(hz:us.length<2):(if b=true then((if b=true then(us.toArray.zip us.toArray).reverse else us.toArray.zip us.toArray).map wG).reverse else(if b=true then(us.toArray.zip us.toArray).reverse else us.toArray.zip us.toArray).map wG)=us.toArray:=by
 match us,hz with
 |[],_=>cases b<;>simp
 |[x],_=>cases b<;>simp
def OH{a : AD}{us : tm}{t : Tr}{n : Nat}{b : Bool}{P : PySem.Fin->SD->Prop}(ho : s.heap.get? a = some (seqObj "list" us.toArray n))(e : zBv)(h64 : us.length < 64)(hu : A.units + t.deep<=cLine) (h : ∀ ix : uG,ix.length = us.length->(∀ i∈ix,i < us.length)->(ix.map fun i => t.bs.getD i .nil) = (if b then Tr.C7 t.bs else (Tr.C7 t.bs).reverse)->P (.done (.ret .none)) { s with heap:=sortedHeap s.heap a us (ix.map fun i => us.getD i Value.none).toArray }):wpAny AS A (Builtin.«list.sort» ⟨[.ref a],[(Str.ofString "reverse",.bool b)]⟩) P E s:=by
  rw [list_sort_rev]
  have ha : a < s.heap.objs.size:=aF ho
  refine Wb (listItems_at ho rfl ?_)
  refine Wb (listUpdate_at ho rfl ?_ (by rw [List.size_toArray,sizeLine_eq]; lia) (bJ _))
  obtain ⟨e1,ho1⟩ : ∃ e1,(s.heap.update a (Obj.mapSeq fun _ => #[])).get? a = some (seqObj "list" #[] e1):=⟨_,get?_update_seq ho (fun _ => #[])⟩
  refine Wb (seqEpoch_at ho1 rfl ?_)
  refine Wb (wpAny_newTuple ?_ (by show us.length<=_; rw [sizeLine_eq]; lia))
  refine Wb (wpAny_newList ?_ (bJ _))
  refine aQ ?_
  have ho6 : (((s.heap.update a uQ).push lc).push Ix).get? a = some (seqObj "list" #[] e1):=by
    rw [Heap.get?_push_ne _ _ _ (by rw [size_push',Heap.size_update]; exact aI (bS ha)),Heap.get?_push_ne _ _ _ (by rw [Heap.size_update]; exact aI ha)]
    exact ho1
  have keep : ∀ c o,s.heap.get? c = some o->o.cls = .type "tuple" -> (((s.heap.update a uQ).push lc).push Ix).get? c = some o:=fun c o hc hcl => by
    have hne : c≠a:=fun z => by
      rw [z,ho] at hc
      cases hc
      exact absurd (show Value.type "list" = Value.type "tuple" from hcl) AT
    refine aE _ (aE _ ?_)
    rw [Heap.get?_update_ne _ _ _ _ hne]
    exact hc
  show wpAny AS A _ P E zCn
  have e6:=e.keeps keep
  dsimp only
  have step : ∀ T : Sem PySem.Fin,wpAny AS A T P E zCn ->
      wpAny AS A (if b = true then (do let _ <- rule "list.sort.reverse"; T) else T) P E zCn:=by
    intro T hT
    split
    . exact Wb (bQ hT)
    . exact hT
  refine step _ ?_
  by_cases h2 : us.toArray.size < 2
  . rw [if_pos h2,if_pos h2]
    refine Wb WF
    rw [StateT.run_pure]
    refine Wb WF
    dsimp only
    have hz : us.length < 2:=by simpa using h2
    have hout:=cK b us hz
    refine Wb (seqEpoch_at ho6 rfl ?_)
    refine Wb (listUpdate_at ho6 rfl ?_ (bJ _) (by
      refine aP (Nat.le_of_eq (bO Array.size hout)) ?_
      rw [List.size_toArray,sizeLine_eq]; lia))
    simp only [bne_self_eq_false,Bool.false_eq_true,if_false]
    have hl : us.length = t.bs.length:=by rw [e.length,Tr.JM]
    have fin:=h (List.range us.length) As (fun i hi => aq.mp hi) (by
      rw [hl,map_getD]
      match hbs : t.bs,(show t.bs.length < 2 by lia) with
      | [],_ => cases b <;> rfl
      | [_],_ => cases b <;> rfl)
    rw [map_getD] at fin
    rw [<- hout] at fin
    exact aA fin
  . rw [if_neg h2,if_neg h2]
    have hz : 2<=us.length:=by simpa using h2
    refine Wb (jf (s:={ s with heap:=((s.heap.update a uQ).push lc).push Ix }) e6 fun κ hκ => ?_)
    have hl : us.length = t.bs.length:=by rw [e.length,Tr.JM]
    obtain ⟨ws,tw,ew,hwl,hws,hdp,pick⟩ : ∃ (ws : List VL) (tw : Tr),Vs (((s.heap.update a (Obj.mapSeq fun _ => #[])).push (seqObj "tuple" us.toArray 0)).push (seqObj "list" #[] 0)) tw ws/\ws.length = us.length /\
        (if b = true then (us.toArray.zip us.toArray).reverse else us.toArray.zip us.toArray) = ws.toArray.zip ws.toArray/\tw.deep<=t.deep /\
        ∀ (_b : Bool) (ix : List Nat),ix.length = ws.length->(∀ i∈ix,i < ws.length)->(ix.map fun i => tw.bs.getD i .nil) = (Tr.C7 tw.bs).reverse->∃ iy : List Nat,iy.length = us.length/\(∀ i∈iy,i < us.length)/\(iy.map fun i => t.bs.getD i .nil) = (if b then Tr.C7 t.bs else (Tr.C7 t.bs).reverse) /\
          (if b = true then ((ix.map fun i => ws.getD i Value.none).toArray).reverse else (ix.map fun i => ws.getD i Value.none).toArray) = (iy.map fun i => us.getD i Value.none).toArray:=by
      cases b with
      | false => exact ⟨us,t,e6,rfl,rfl,Nat.le_refl _,fun _ ix h1 h2 h3 => ⟨ix,h1,h2,h3,rfl⟩⟩
      | true=>
        have hsrt : Tr.C7 t.bs.reverse = Tr.C7 t.bs:=Tr.bz (Tr.K3 _) ((Tr.K4 _).trans (List.reverse_perm _))
        refine ⟨us.reverse,Tr.of t.bs.reverse,e6.rev,by simp,kat_pairs (ks:=us) (vs:=us) true rfl,Tr.fE t,fun _ ix h1 h2 h3 => ⟨(ix.map fun i => us.length - 1 - i).reverse,by simpa using h1,fun i hi => ?_,?_,?_⟩⟩
        . rw [List.mem_reverse,List.mem_map] at hi
          obtain ⟨k,hk,rfl⟩:=hi
          have:=h2 k hk
          rw [List.length_reverse] at this
          lia
        . rw [Tr.O7,hsrt] at h3
          rw [List.map_reverse,List.map_map]
          have : (ix.map ((fun i => t.bs.getD i Tr.nil) ∘ fun i => us.length - 1 - i)) = ix.map fun i => t.bs.reverse.getD i .nil:=au fun i hi => by
            have:=h2 i hi
            rw [List.length_reverse] at this
            show t.bs.getD (us.length - 1 - i) Tr.nil = _
            rw [List.getD_eq_getElem?_getD,List.getD_eq_getElem?_getD,List.getElem?_reverse AC,hl]
          rw [this,h3,List.reverse_reverse]
          rfl
        . rw [if_pos rfl,List.map_reverse,List.map_map,List.reverse_toArray]
          congr 2
          exact au fun i hi => by
            have:=h2 i hi
            rw [List.length_reverse] at this
            show us.reverse.getD i Value.none = us.getD (us.length - 1 - i) Value.none
            rw [List.getD_eq_getElem?_getD,List.getD_eq_getElem?_getD,List.getElem?_reverse AC]
    rw [hws]
    refine Wb (aW (fW (s:={ s with heap:=((s.heap.update a uQ).push lc).push Ix }) hκ ew AC AC AC) ?_ fun _ _ z => z)
    rintro ⟨⟨⟩,st'⟩ s' ⟨rfl,hf,ix,hil,hix,hout,hst⟩
    dsimp only
    refine Wb (seqEpoch_at ho6 rfl ?_)
    obtain ⟨iy,y1,y2,y3,hfin⟩ : ∃ iy : List Nat,iy.length = us.length/\(∀ i∈iy,i < us.length)/\(iy.map fun i => t.bs.getD i .nil) = (if b then Tr.C7 t.bs else (Tr.C7 t.bs).reverse) /\
        (if b = true then ((arrOf st').map (·.2)).reverse else (arrOf st').map (·.2)) = (iy.map fun i => us.getD i Value.none).toArray:=by
      rw [show (arrOf st').map wG = _ from hout]
      exact pick b ix hil hix hst
    refine Wb (listUpdate_at ho6 rfl ?_ (bJ _) (by
      refine aP (Nat.le_of_eq (bO Array.size hfin)) ?_
      rw [List.size_toArray,List.length_map,y1,sizeLine_eq]; lia))
    rw [show failedOf st' = none from hf]
    simp only [bne_self_eq_false,Bool.false_eq_true,if_false]
    have fin:=h iy y1 y2 y3
    rw [<- hfin] at fin
    exact aA fin
end
end TH
namespace ET
open PySem
section
variable{prog:Go}{w:KB}{A:OR}{E:tq}{s:SD}
def next_item{it t:AD}{i:Nat}{items}{x:VL}{Q:tq}(hit:s.heap.IsTupleIter it t i)(Z:s.heap.IsTuple t items)(Y:items[i]? = some x) (hQ:∀h',h'.IsTupleIter it t On->Heap.SameBut it s.heap h'->Q x Nz):wpAny AS A (Builtin.SmallTypes.nextOf vJ) Q E s:=by
 obtain⟨o,g,hc,hd⟩:=id hit;obtain⟨ol,T,_,nl,U⟩:=Z;unfold Builtin.SmallTypes.nextOf;refine Wb (aY (name:=Str.ofString "__next__") hit.typeIs F.slot_tuple_iterator_next
  (aX F.slot_tuple_iterator_next hit.typeIs F.entry_tuple_iterator_next ?_ (F.args_tuple_iterator_next_1 _)))
 show wpAny _ _ (field vJ 0>>=_) _ _ s;refine Wb (aV g hd (x:=.ref t) rfl ?_);show wpAny _ _ (if yK=true then _ else _) _ _ s;rw[if_neg (show ¬(yK=true) from aM)];show wpAny _ _ (field vJ 1>>=_) _ _ s;refine Wb (aV g hd (x:=.int i 0) rfl ?_);show wpAny _ _ (seqItems? (.ref t)>>=_) _ _ s;refine Wb (aU T U ?_);simp only[Int.toNat_natCast,Y];refine Wb (wpAny_setField g hd As (aA ⟨x,rfl,wpAny_pure (hQ _ ?_ (ag ..))⟩));exact⟨_,Heap.get?_update_self _ g (Obj.isFreed_of_fields (Obj.data_mapFields hd _)),(Obj.cls_mapFields ..).trans hc,by
  rw[Obj.data_mapFields hd];simp[rawInt]⟩
def next_end{it t:AD}{i:Nat}{items}{Q:tq}(Y:vY)(hit:s.heap.IsTupleIter it t i)(ht:s.heap.IsTuple t items)(Z:items[i]? = none) (hE:∀h' e,Heap.ExtBut it s.heap h'->(∃o,h'.get? e=some o/\o.cls=.type "StopIteration")->E (.ref e) Nz):wpAny AS A (Builtin.SmallTypes.nextOf vJ) Q E s:=by
 obtain⟨o,T,hc,hd⟩:=id hit;obtain⟨ol,g,_,nl,U⟩:=ht;unfold Builtin.SmallTypes.nextOf;refine Wb (aY (name:=Str.ofString "__next__") hit.typeIs F.slot_tuple_iterator_next
  (aX F.slot_tuple_iterator_next hit.typeIs F.entry_tuple_iterator_next ?_ (F.args_tuple_iterator_next_1 _)))
 show wpAny _ _ (field vJ 0>>=_) _ _ s;refine Wb (aV T hd (x:=.ref t) rfl ?_);show wpAny _ _ (if yK=true then _ else _) _ _ s;rw[if_neg (show ¬(yK=true) from aM)];show wpAny _ _ (field vJ 1>>=_) _ _ s;refine Wb (aV T hd (x:=.int i 0) rfl ?_);show wpAny _ _ (seqItems? (.ref t)>>=_) _ _ s;refine Wb (aU g U ?_);simp only[Int.toNat_natCast,Z];refine Wb (bQ (Wb (wpAny_setField T hd As ?_)));show wpAny _ _ (newExc (.type "StopIteration") []>>=_) _ _ _;refine Wb ?_;simp only[newExc,newTuple];refine Wb (bA ?_ (by size_fits));refine Wb (m:=firstArgMember _ _) (wpAny_of_eq (a:=Value.none) (by first|rfl|(simp only[firstArgMember];rfl)) ?_);refine bA ?_ (by size_fits);simp only[raiseNew];refine Wb (wpAny_handled ?_)
 first|rw[show A.in1.handled=none from Y]|rw[Y]
 refine Wb (aA (wpAny_throw ?_));exact hE _ _ (((ag ..).extBut.push _).push _) ⟨_,Heap.get?_push_size _ rfl,rfl⟩
end
section
open AutoSeq1 (wpAny_loadPart')
def bp(l:AD)(items:xP)(n:Nat)(Y:Option AD)(sl:Array (Option VL)):Meets (Builtin.«enumerate.__new__» ⟨[.type "enumerate",.ref l],[]⟩) (fun _ R s=>s.heap.get? l=some { cls:=.type "tuple",dict:=Y,data:=.seq items n,slots:=sl} /\R (.ok (.ret (.ref (s.heap.push { cls:=.type "tuple_iterator",data:=.fields #[.ref l,.int 0 0]}).objs.size))) {s with heap:=(s.heap.push { cls:=.type "tuple_iterator",data:=.fields #[.ref l,.int 0 0]}).push { cls:=.type "enumerate",data:=.fields #[.none,.bool false,.ref s.heap.objs.size,rawInt 0,.none,.none]} }) :=
 .of_wp fun prog w A R s h=>by
  obtain⟨hp,g,d,tk,os⟩:=s;obtain⟨T,h⟩:=h;have Z:=sub_enumerate;have U:Heap.IsTuple (Shared.heap ⟨hp,g,d,tk,os⟩) l items:=⟨_,T,rfl,n,rfl⟩
  wp_walk using wpAny_loadPart' T
  refine wpAny_stack_any fun st=>aA ?_;split
  .rename_i c _ _ _ _ _;cases (c==Value.type "enumerate")
   .wp_walk using wpAny_loadPart' T,wpAny_pyIter_tuple U
    exact⟨_,rfl,h⟩
   .wp_walk using wpAny_loadPart' T,wpAny_pyIter_tuple U
    exact⟨_,rfl,h⟩
  .wp_walk using wpAny_loadPart' T,wpAny_pyIter_tuple U
   exact⟨_,rfl,h⟩
def cL{prog:Go}{w:KB}{A:OR}{E:tq}{s:SD}{l:AD}{items:xP}{Q:tq}(hL:s.heap.IsTuple l items) (h:∀h',IsEnum h' GE s.heap.objs.size 0 .none->h'.IsTupleIter s.heap.objs.size l 0->h'.objs.size=s.heap.objs.size+2 ->(∀b o,s.heap.get? b=some o->h'.get? b=some o)->Q zDa Nz):wpAny AS A (call (.type "enumerate") [.ref l]) Q E s:=by
 obtain⟨⟨c,U,dt,sl⟩,Z,T,n,hd⟩:=hL
 replace T:c=.type "tuple" := T
 replace hd:dt=.seq items n:=hd
 subst T hd;refine callType_new F.called_enumerate AT (F.typeCall_enumerate_1 _) (F.newCall_enumerate_1 _) (fun obj=>F.args_object_init_2 obj _) F.entry_enumerate_new
  (bp l items n U sl) ⟨Z,?_⟩
 have g:(s.heap.push { cls:=.type "tuple_iterator",data:=.fields #[.ref l,.int 0 0]}).objs.size=s.heap.objs.size+1:=Heap.size_push ..;show _/\_;rw[g];have Y:IsEnum ((s.heap.push { cls:=.type "tuple_iterator",data:=.fields #[.ref l,.int 0 0]}).push
   { cls:=.type "enumerate",data:=.fields #[.none,.bool false,.ref s.heap.objs.size,rawInt 0,.none,.none]}) GE s.heap.objs.size 0 .none:=by
  have:=aK (s.heap.push { cls:=.type "tuple_iterator",data:=.fields #[.ref l,.int 0 0]})
   (o:={ cls:=.type "enumerate",data:=.fields #[.none,.bool false,.ref s.heap.objs.size,rawInt 0,.none,.none]}) rfl
  rw[g]at this;exact this
 refine⟨⟨_,Y,rfl⟩,h _ Y ⟨_,Heap.get?_push_of_some _ (aK _ rfl),rfl,rfl⟩ (by rw[Heap.size_push,g]) fun b o x=>aE _ (aE _ x)⟩
end
def draws{prog:Go}{w:KB}{A:OR}(hh:vY)(it a:AD)(its:tm)(hne:a≠it) :
  Draws prog w A it [it,a] its.length (fun i x=>its[i]? = some x) (fun i h=>h.IsTupleIter it a i/\h.IsTuple a its.toArray) where
 live:=fun i h st=>let⟨o,e,_⟩:=st.1;⟨o,e⟩
 frame:=fun i h h' st k=>by
  obtain⟨⟨o,e,r⟩,o2,e2,r2⟩:=st;exact⟨⟨o,k it As o e,r⟩,o2,k a As o2 e2,r2⟩
 item:=fun i s Q E hi st hQ=>next_item st.1 st.2 (x:=its[i]) (by simp[hi]) fun h' st' sb=>
  hQ _ h' s.toks (by simp[hi]) ⟨st',let⟨o,e,r⟩:=st.2;⟨o,(sb.2 a hne).trans e,r⟩⟩ sb
 done:=fun s Q E st hE=>next_end hh st.1 st.2 As hE
end ET
namespace L2
open PySem PySem.Spec PyProof.Rows
def Ts(H:Hp):Tr->List V->Prop
 |.nil,xs=>xs=[]
 |.cons b r,xs=>∃(a:AD) (ys g:ON),xs=.ref a::g/\H a=some yt/\Ts H b ys/\Ts H r g
def Tv(H:Hp)(t:Tr)(v:V):Prop:=∃(a:AD) (ys:ON),v=.ref a/\H a=some yt/\Ts H t ys
def Ts.same{H H':Hp}(e:ug):∀ {t:Tr} {xs:ON},Ts H t xs->Ts H' t xs
 |.nil,xs,h=>by rw[Ts]at h ⊢;exact h
 |.cons b r,xs,h=>by
  rw[Ts]at h ⊢;obtain⟨a,ys,g,Z,Y,U,T⟩:=h;exact⟨a,ys,g,Z,e _ _ Y,U.same e,T.same e⟩
def Tv.same{H H':Hp}{t:Tr}{v:V}(h:Tv H t v)(e:ug):Tv H' t v:=let⟨a,ys,U,T,g⟩:=h;⟨a,ys,U,e _ _ T,g.same e⟩
def MM(H H':Hp):Prop:=∀b xs,H b=some M2->H' b=some M2
def MM.of{H H':Hp}(e:ug):MM H H':=fun b xs h=>e b _ h
def MM.upd{H:Hp}{l:AD}{ys:uI}{o:HO}(g:H l=some Jw):MM H (upd H l o):=fun b xs h=>by
 rw[AK (Y8 h g (by intro z;cases z))];exact h
def Ts.BM{H H':Hp}(e:MM H H'):∀ {t:Tr} {xs:ON},Ts H t xs->Ts H' t xs
 |.nil,xs,h=>by rw[Ts]at h ⊢;exact h
 |.cons b r,xs,h=>by
  rw[Ts]at h ⊢;obtain⟨a,ys,g,Z,Y,U,T⟩:=h;exact⟨a,ys,g,Z,e _ _ Y,U.BM e,T.BM e⟩
def Tv.BM{H H':Hp}{t:Tr}{v:V}(h:Tv H t v)(e:MM H H'):Tv H' t v:=let⟨a,ys,U,T,g⟩:=h;⟨a,ys,U,e _ _ T,g.BM e⟩
def Ts.length{H:Hp}:∀ {t:Tr} {xs:ON},Ts H t xs->xs.length=t.len
 |.nil,xs,h=>by rw[Ts]at h;rw[h];rfl
 |.cons b r,xs,h=>by
  rw[Ts]at h;obtain⟨a,ys,T,rfl,_,_,g⟩:=h;rw[List.length_cons,Tr.len,g.length]
def Ts.len{H:Hp}{t:Tr}{xs:uI}(h:Ts H t xs):xs.length=t.bs.length:=by rw[h.length,Tr.JM]
def Ts.get{H:Hp}:∀ {t:Tr} {xs:ON} {i:Nat} {v:V},Ts H t xs->xs[i]? = some v->∃c,t.bs[i]? = some c/\Tv H c v
 |.nil,xs,i,v,h,e=>by rw[Ts]at h;subst h;simp at e
 |.cons b r,xs,i,v,h,e=>by
  rw[Ts]at h;obtain⟨a,ys,zs,rfl,Z,Y,U⟩:=h;cases i with
  |zero=>simp at e;subst e;exact⟨b,rfl,a,ys,rfl,Z,Y⟩
  |succ i=>
   obtain⟨c,T,g⟩:=U.get (i:=i) (v:=v) vH;exact⟨c,by simpa[Tr.bs]using T,g⟩
def Ts.LQ{H:Hp}:∀(ts:yw) (xs:ON),xs.length=ts.length->(∀(i:Nat) (v:V),xs[i]? = some v->∃c,ts[i]? = some c/\Tv H c v)->Ts H vx xs
 |[],xs,g,_=>by
  rw[Tr.of,Ts];exact bN vw
 |t::ts,[],g,_=>by simp at g
 |t::ts,x::xs,g,h=>by
  rw[Tr.of,Ts];obtain⟨c,T,a,ys,rfl,h1,Z⟩:=h 0 x rfl;simp at T;subst T;exact⟨a,ys,xs,rfl,h1,Z,Ts.LQ ts xs vw fun i v e=>by
   obtain⟨c,Y,U⟩:=h On v vH;exact⟨c,by simpa using Y,U⟩⟩
def Ts.pick{H:Hp}{t:Tr}{xs:uI}(h:Ts H t xs)(ix:uG)(hi:∀i∈ix,i<xs.length):Ts H (Tr.of wP) (ix.map fun i=>xs.getD i .Bq):=by
 refine Ts.LQ _ _ As fun i v e=>?_;rw[List.getElem?_map]at e ⊢;cases q:ix[i]? with
 |none=>rw[q]at e;cases e
 |some k=>
  rw[q]at e;have hk:k<xs.length:=hi k (aJ q);simp only[Option.map_some,Option.some.injEq]at e;obtain⟨c,T,g⟩:=h.get (i:=k) (v:=v) (by rw[<-e,List.getD_eq_getElem?_getD,List.getElem?_eq_getElem hk];rfl);refine⟨c,?_,g⟩;simp only[Option.map_some,List.getD_eq_getElem?_getD,T]
  rfl
section
variable{X:Cx}{pins:Cl}{σ:St}{H:Hp}{s:SD}
def Ts.vs(I:BY):∀ {t:Tr} {xs:ON} {us:ST},Ts H t xs->Vals xs us->TH.Vs s.heap t us
 |.nil,xs,us,h,r=>by
  rw[Ts]at h;subst h;cases r;rw[TH.Vs]
 |.cons b rr,xs,us,h,r=>by
  rw[Ts]at h;obtain⟨a,ys,zs,rfl,h1,h2,Z⟩:=h;cases r with
  |cons Y U=>
   cases Y;obtain⟨g,T,p,_⟩:=I.tuple (BJ.of (K:=X.K) h1);rw[TH.Vs];exact⟨a,g,_,rfl,p,Ts.vs I h2 T,Ts.vs I Z U⟩
end
def oO(K:Fg)(a:AD):It :=
 ⟨fun i H=>∃xs x,BJ K H a xs/\xs[i]? = some x,fun i H v H'=>∃p x,v=.ref p/\H p=none/\H'=upd H p (.tup [.int i,x])/\∀xs,BJ K H a xs->xs[i]? = some x,fun i H=>∃xs,BJ K H a xs/\xs.length=i⟩
def Ze{P:Go}{w:KB}{K:Fg}{elts:uD}{x1}{pos:Pos}(a e it:AD)(hne:e≠it) :
  Turn P w K zAU (oO K a) [e,it] e (fun i h=>(∃old,IsEnum h e it (i:Nat) old)/\h.IsTupleIter it a i) where
 mem:=by simp
 obj:=fun i h st b hb=>by
  rcases aN.mp hb with rfl|hb
  .obtain⟨⟨old,q⟩,_⟩:=st;exact⟨_,q,fun v z=>by cases z⟩
  .have e2:b=it:=by simpa using hb
   subst e2;obtain⟨_,o,q,c,d⟩:=st;exact⟨o,q,fun v z=>by rw[d]at z;cases z⟩
 keep:=fun i h h' st k=>by
  obtain⟨⟨old,q⟩,o,q2,r⟩:=st;exact⟨⟨old,k e As _ q⟩,o,k it As _ q2,r⟩
 item:=by
  intro X hP hw hK hc i pins s σ H E I hf st hg;subst hP hw hK;obtain⟨xs,x,hq,hx⟩:=hg;obtain⟨its,rv,p,hz⟩:=I.tuple hq;obtain⟨u,hu,ru⟩:=rv.get hx;obtain⟨⟨old,he⟩,hit⟩:=st;have hai:a≠it:=fun z=>by
   obtain⟨o,e1,c1,_⟩:=p;obtain⟨o2,e2,c2,_⟩:=hit;rw[z,e2]at e1;cases e1;rw[c1]at c2;exact absurd c2 AT
  have hae:a≠e:=fun z=>by
   obtain⟨o,e1,c1,_⟩:=p;rw[z,he]at e1;cases e1;exact absurd (show Value.type "enumerate" = Value.type "tuple" from c1) AT
  have hlt:i<its.length:=(aD.mp hu).1;have hE0:=hf e As;have hI0:=hf it As;refine wpAny_pyNext_enum_itemD zDb he ⟨hit,p⟩ hlt hne (by simp[hne,Ne.symm hae]) fun y h' tk hy ho hs' hT hsz hk=>⟨_,rfl,wpAny_letOwnedTupleGo_enum (s:={s with heap:=h',toks:=tk+1}) ho fun h'' he'' sb=>?_⟩;have hyu:y=u:=by rw[hu]at hy;exact(aw hy).symm
  subst hyu;have keep:∀b o,b≠e->b≠it->s.heap.get? b=some o->h''.get? b=some o:=fun b o h1 h2 q=>(sb.2 b h1).trans (hk b o h1 h2 q);have hTe:s.heap.objs.size≠e:=ao (aF he);have hTi:s.heap.objs.size≠it:=let⟨_,q,_⟩:=hit;ao (aF q);have hT'':h''.get? s.heap.objs.size=some { cls:=.type "tuple",data:=.seq #[.int i tk,y]}:=(sb.2 _ hTe).trans hT;have hTn:H s.heap.objs.size=none:=I.Aw.fresh UF;have neT:∀b o,s.heap.get? b=some o->b≠s.heap.objs.size:=fun b o q=>aI (aF q);have F8:∀b o,H b=some o->b≠e/\b≠it:=fun b o q=>⟨(fun z=>by rw[z,hE0.1]at q;cases q),(fun z=>by rw[z,hI0.1]at q;cases q)⟩;refine⟨.ref s.heap.objs.size,upd H s.heap.objs.size (.tup [.int i,x]),?_,rfl,⟨_,x,rfl,hTn,rfl,fun ys hy=>by rw[I.UL hy hq];exact hx⟩,⟨⟨_,by simpa using he''⟩,?_⟩,fun b hb=>?_⟩
  .show Inv X pins σ _ zAf;refine I.step (h':=h'') (g':=s.gens) (d':=s.drawn) (t':=tk+1) (ch:=[e,it]) xq (fun b o _ _ hc q _=>keep b o LW LW q) zDq
    (fun b o _ q n=>by rw[AK (neT b o q)];exact n) (fun b o hc q=>⟨o,keep b o LW LW q⟩) ux uq
    (fun b ps q=>⟨#[],by rw[AK (AW q hTn),q];simp⟩) (fun b _ o hc _ q=>keep b o LW LW q) vv yf I.bare
   .rcases aN.mp hb with rfl|hb
    .exact⟨hE0.2.2.2.1,hE0.2.1,hE0.2.2.2.2.1,hE0.2.2.2.2.2⟩
    .have e2:b=it:=by simpa using hb
     subst e2;exact⟨hI0.2.2.2.1,hI0.2.1,hI0.2.2.2.2.1,hI0.2.2.2.2.2⟩
   .obtain⟨o,es,ep,ho,r⟩:=hm;exact⟨o,es,ep,keep _ o (Ne.symm hE0.2.1) (Ne.symm hI0.2.1) ho,r⟩
   .by_cases hb:b=s.heap.objs.size
    .subst hb;rw[AU]at q;cases q;exact⟨YE,[.int i tk,y],.cons ⟨tk,rfl⟩ (.cons ru .nil),_,hT'',rfl,_,rfl⟩
    .rw[AK hb]at q;refine(I.Aw b o q).Hd (fun c v hc r=>keep c v ?_ ?_ r) vM fun c ys r=>by rw[AK (AW r hTn)];exact r
     .rcases hc with rfl|hc
      .exact(F8 _ _ q).1
      .exact(F8 _ _ hc).1
     .rcases hc with rfl|hc
      .exact(F8 _ _ q).2
      .exact(F8 _ _ hc).2
  .obtain⟨⟨o,q,r⟩,_⟩:=hs';exact⟨o,(sb.2 it (Ne.symm hne)).trans q,r⟩
  .rcases aN.mp hb with rfl|hb
   .rw[AK (Ne.symm hTe)];exact hE0.1
   .have e2:b=it:=by simpa using hb
    subst e2;rw[AK (Ne.symm hTi)];exact hI0.1
 done:=by
  intro X hP hw hK hc i pins s σ H E I hf st hg;subst hP hw hK;obtain⟨xs,hq,hx⟩:=hg;obtain⟨its,rv,p,hz⟩:=I.tuple hq;obtain⟨⟨old,he⟩,hit⟩:=st;have hai:a≠it:=fun z=>by
   obtain⟨o,e1,c1,_⟩:=p;obtain⟨o2,e2,c2,_⟩:=hit;rw[z,e2]at e1;cases e1;rw[c1]at c2;exact absurd c2 AT
  have hl:its.length=i:=by rw[<-rv.length];exact hx
  subst hl;obtain⟨f0,f1,f2,f3,f4,f5⟩:=hf it As;exact wpAny_pyNext_enum_endD zDb he ⟨hit,p⟩ fun h' eb=>⟨rfl,I.turned (t':=s.toks) (fun b o hb q=>eb b o hb q) f0 f1 f3 f4 f5⟩
 self:=fun _ _ _ _ _ st h=>by
  obtain⟨⟨old,he⟩,_⟩:=st;exact wpAny_pyIter_enum he h
def pP(K:Fg)(T:TA):TI:=fun σ H R=>T σ H fun vs g=>∃a,vs=[.ref a]/\(∃xs,BJ K g a xs)/\R (oO K a) g
def iW{X:Cx}{elts:uD}{x1}{g:Pos}{a:Expr}{ta:TA}{p pos:Pos}(hg:Gl X "enumerate")(hm:X.mg "enumerate" = none)(ha:PA X [a] ta)(hs:starEach [a] X.env=[Op]:=by rfl):PI X zBa xU (pP X.K ta):=by
 intro pins s σ H R I h;refine Call_ zDE;obtain⟨t,e,⟨xs,hq⟩,q⟩:=q1;subst e;cases r1 with
 |cons r rr=>
  cases rr;cases r;obtain⟨Y,rv,p',hz⟩:=U.tuple hq;refine ET.cL (show s1.heap.IsTuple t Y.toArray from p') fun h' he hit hsz hk=>wpAny_pyIter_enum he ?_;have I2:Inv X pins σ H1 zC:=U.kept (t':=s1.toks) hk;have hn:s1.heap.objs.size+1≠s1.heap.objs.size:=by lia
  refine⟨s1.heap.objs.size+1,[s1.heap.objs.size+1,s1.heap.objs.size],_,_,H1,rfl,I2,Ze t _ _ hn,⟨⟨_,he⟩,hit⟩,fun b hb=>?_,q⟩;have T:s1.heap.objs.size<=b:=by
   have Z:b=s1.heap.objs.size+1\/b=s1.heap.objs.size:=by simpa using hb
   rcases Z with z|z
   .rw[z];exact Nat.le_succ _
   .rw[z];exact aH _
  exact U.Qh T (U.Aw.fresh T)
end L2
namespace TH
open PySem PySem.W PyProof.Rows PySem.SeqAt
section
variable{prog:Go}{w:KB}{A:OR}{E:tq}{s:SD}
def SW(a:AD):Builtin.«list.sort» ⟨[.ref a],[]⟩=Builtin.«list.sort» ⟨[.ref a],[(Str.ofString "reverse",.bool false)]⟩:=by
 rw[list_sort_rev,list_sort_plain]
 rfl
def Nt{a:AD}{us:tm}{t:Tr}{n:Nat}{P:PySem.Fin->SD->Prop}(U:s.heap.get? a=some (seqObj "list" us.toArray n))(e:zBv)(g:us.length<64)(T:A.units+t.deep<=cLine) (h:∀ix:uG,ix.length=us.length->(∀i∈ix,i<us.length)->(ix.map fun i=>t.bs.getD i .nil)=(Tr.C7 t.bs).reverse->P (.done (.ret .none)) {s with heap:=sortedHeap s.heap a us (ix.map fun i=>us.getD i Value.none).toArray}):wpAny AS A (Builtin.«list.sort» ⟨[.ref a],[]⟩) P E s:=by
 rw[SW];exact OH (b:=false) U e g T h
def W9{l:AD}{vs:tm}{Q:List VL->SD->Prop}(hl:s.heap.IsTuple l vs.toArray) (h:Q vs zCi)(hsz:vs.length<=sizeLine):wpAny AS A (collect ui) Q E s:=by
  obtain⟨o,ho,hc,n,hd⟩:=id hl
  unfold collect
  refine Wb z9
  show wpAny _ _ (do again (.builtin "list.__iadd__" ⟨[<-newList [],.ref l],[]⟩)) _ _ s
  refine Wb (wpAny_newList (aA ⟨Code.quiet_builtin _ SZ,codeAny_builtin entry_list_iadd' ?_⟩))
  show wpAny _ _ (Builtin.List.listExtendWith Do ui Do) _ _ {s with heap:=s.heap.push Ix}
  unfold Builtin.List.listExtendWith
  have ho':(s.heap.push Ix).get? l=some o:=aE _ ho
  refine Wb (wpAny_typeOf (T := "tuple") ⟨o,ho',hc⟩ ?_)
  have ht:(Value.type "tuple" == Value.type "tuple")=true:=by rfl
  rw[if_pos (by rw[ht];simp)]
  refine Wb (listItems_at ho' hd ?_)
  refine Wb (listItems_at (xs:=#[]) (n:=0) (aK _ rfl) rfl ?_)
  rw[if_neg As]
  refine Wb (listUpdate_at (xs:=#[]) (n:=0) (aK _ rfl) rfl ?_ (bJ _) (by show(#[]++vs.toArray).size<=sizeLine+1;simp only[Array.size_append,List.size_toArray,List.length_nil];lia))
  refine aA ?_
  show wpAny AS A (do
      let o <-load s.heap.objs.size
      match o.data with
      |.seq xs _=>pure xs.toList
      |_=>unsupported "internal:collect") Q E zCi
  refine Wb (wpAny_load (get?_update_seq (aK _ rfl) _) ?_)
  show wpAny _ _ (pure ((#[]:Array VL)++vs.toArray).toList) Q E _
  rw[show((#[]:Array VL)++vs.toArray).toList=vs by simp]
  exact aA h
def P5{l:AD}{vs:tm}{Q:List VL->SD->Prop}(g:s.heap.IsList l vs.toArray\/s.heap.IsTuple l vs.toArray) (h:Q vs zCi)(hsz:vs.length<=sizeLine):wpAny AS A (collect ui) Q E s:=g.elim (fun z=>collect_list z h hsz) fun z=>W9 z h hsz
def oV{l:AD}{us:tm}{t:Tr}{Q:tq}(hl:zAv)(e:zBv)(Z:us.length<64)(hu:A.units+2+t.deep<=cLine) (h:∀(h':Heap) (ix:uG) (e1:Nat),ix.length=us.length->(∀i∈ix,i<us.length)->(ix.map fun i=>t.bs.getD i .nil)=(Tr.C7 t.bs).reverse->(∀c o,s.heap.get? c=some o->h'.get? c=some o) ->h'.get? GE=some zL->Q zDa Nz):wpAny AS A (call zAw [.ref l]) Q E s:=by
 refine Calls.call_function_entry kind_sorted plain_sorted entry_sorted (args_sorted1 _) ?_;unfold Builtin.«sorted»;refine Wb (m:=checkCount "sorted" 1 1 _) WF;refine Wb (P5 hl ?_ yX);refine Wb (wpAny_newList ?_ yX);have g:((s.heap.push Ix).update s.heap.objs.size OY).objs.size=s.heap.objs.size+1:=by
  rw[Heap.size_update,size_push']
 have U:(((s.heap.push Ix).update s.heap.objs.size OY).push RY).get? GE=some RY:=by
  rw[<-g];exact aK _ rfl
 have keep:∀b o,s.heap.get? b=some o->o.cls=.type "tuple" ->(((s.heap.push Ix).update s.heap.objs.size OY).push RY).get? b=some o:=fun b o q _=>by
  have T:b<s.heap.objs.size:=aF q;rw[Heap.get?_push_ne _ _ _ (by rw[g];exact aI (bS T)),Heap.get?_update_ne _ _ _ _ (aI T),Heap.get?_push_ne _ _ _ (aI T)];exact q
 show wpAny _ _ _ _ _ zDZ;rw[g];refine Wb (aQ (aX slot_list_sort ⟨_,U,rfl⟩ entry_list_sort (Nt (s:={s with heap:=((s.heap.push Ix).update s.heap.objs.size OY).push RY}) U (e.keeps keep) Z (by
  rw[show A.in1.in1.units=A.units+2 from rfl];lia) fun ix a1 a2 a3=>⟨_,rfl,?_⟩) (args_list_sort _)))
 obtain⟨e1,Y⟩:=sortedAll_at s.heap us (ix.map fun i=>us.getD i Value.none).toArray;exact aA ⟨_,rfl,h _ ix e1 a1 a2 a3 (fun _ _=>sortedAll_old) Y⟩
def Oh{l:AD}{us:tm}{t:Tr}{b:Bool}{Q:tq}(hl:zAv)(e:zBv)(Z:us.length<64)(hu:A.units+2+t.deep<=cLine) (h:∀(h':Heap) (ix:uG) (e1:Nat),ix.length=us.length->(∀i∈ix,i<us.length)->(ix.map fun i=>t.bs.getD i .nil)=(if b then Tr.C7 t.bs else(Tr.C7 t.bs).reverse)->(∀c o,s.heap.get? c=some o->h'.get? c=some o) ->h'.get? GE=some zL->Q zDa Nz):wpAny AS A (call zAw [.ref l] [(Str.ofString "reverse",.bool b)]) Q E s:=by
 refine call_function_entry_kw kind_sorted plain_sorted entry_sorted (args_sorted_rev _ _) ?_;unfold Builtin.«sorted»;refine Wb (m:=checkCount "sorted" 1 1 _) WF;refine Wb (P5 hl ?_ yX);refine Wb (wpAny_newList ?_ yX);have g:((s.heap.push Ix).update s.heap.objs.size OY).objs.size=s.heap.objs.size+1:=by
  rw[Heap.size_update,size_push']
 have U:(((s.heap.push Ix).update s.heap.objs.size OY).push RY).get? GE=some RY:=by
  rw[<-g];exact aK _ rfl
 have keep:∀b o,s.heap.get? b=some o->o.cls=.type "tuple" ->(((s.heap.push Ix).update s.heap.objs.size OY).push RY).get? b=some o:=fun b o q _=>by
  have T:b<s.heap.objs.size:=aF q;rw[Heap.get?_push_ne _ _ _ (by rw[g];exact aI (bS T)),Heap.get?_update_ne _ _ _ _ (aI T),Heap.get?_push_ne _ _ _ (aI T)];exact q
 show wpAny _ _ _ _ _ zDZ;rw[g];refine Wb (aQ (wpAny_call_entry_kw slot_list_sort ⟨_,U,rfl⟩ entry_list_sort (OH (b:=b) (s:={s with heap:=((s.heap.push Ix).update s.heap.objs.size OY).push RY}) U (e.keeps keep) Z (by
  rw[show A.in1.in1.units=A.units+2 from rfl];lia) fun ix a1 a2 a3=>⟨_,rfl,?_⟩) (args_list_sort_rev _ _)))
 obtain⟨e1,Y⟩:=sortedAll_at s.heap us (ix.map fun i=>us.getD i Value.none).toArray;exact aA ⟨_,rfl,h _ ix e1 a1 a2 a3 (fun _ _=>sortedAll_old) Y⟩
end
end TH
namespace L2
open PySem PySem.Spec PyProof.Rows
def Vals.pick{xs:ON}{us:ST}(r:Vals xs us):∀ix:List Nat,(∀i∈ix,i<xs.length)->Vals (ix.map fun i=>xs.getD i .Bq) (ix.map fun i=>us.getD i Value.none)
 |[],_=>.nil
 |i::ix,h=>by
  refine .cons ?_ (Vals.pick r ix fun k hk=>h k (aS _ hk));have hi:=h i ae;obtain⟨u,T,g⟩:=r.get (i:=i) (x:=xs[i]) (by simp[hi]);show RelV (xs.getD i .Bq) (us.getD i Value.none);rw[List.getD_eq_getElem?_getD,List.getD_eq_getElem?_getD,T,List.getElem?_eq_getElem hi];exact g
section
variable{X:Cx}
def b8(K:Fg):List V->Hp->VK->Prop:=fun xs H Q=>∃(p:AD) (ys:ON) (t:Tr),xs=[.ref p]/\(Ar K H p ys\/BJ K H p ys)/\Ts H t ys/\ys.length<64/\t.deep<=60 /\
 ∀(l:AD) (g:ON),H l=none->Ts H (Tr.of (Tr.C7 t.bs)) g->Q ui (upd H l (.lst g))
def U3{pins:Cl}{σ:St}{H:Hp}{s:SD}{Q:VK}{t:Tr}{ts:uJ}{ys:uI}{g:tm}{h':Heap}{ix:uG}{e1:Nat}(I:BY)(ht:Ts H t ys)(Y:Vals ys g)(U:ys.length<64) (a1:ix.length=g.length)(a2:∀i∈ix,i<g.length)(a3:wP=ts)(keep:∀c o,s.heap.get? c=some o->h'.get? c=some o) (hD:h'.get? GE=some (seqObj "list" (ix.map fun i=>g.getD i Value.none).toArray e1))(q:∀(l:AD) (zs:uI),H l=none->Ts H vx zs->Q ui (upd H l (.lst zs))):EP X pins σ Q zDa Nz:=by
 have Z:=Y.length;have T:∀i∈ix,i<ys.length:=fun i hi=>by rw[Z];exact a2 i hi
 refine⟨.ref GE,upd H GE (.lst (ix.map fun i=>ys.getD i .Bq)),I.laid (t':=s.toks) keep (Nat.le_succ _) ⟨?_,_,e1,Y.pick ix T,hD⟩,rfl,q _ _ (I.Aw.fresh (Nat.le_succ _)) ?_⟩
 .rw[List.length_map,a1,<-Z];exact bC (aG U Nk)
 .rw[<-a3];exact ht.pick ix T
def eE{e:Expr}{t:TA}{p pos kp kp2:Pos}{j}(hu:Ty)(hg:Gl X "sorted")(hm:X.mg "sorted" = none)(ha:PA X [e] t) (he:backTo pos (starEach [e] X.env)=Jo::backTo pos vj:=by rfl)(g:(backTo pos (starEach [e] X.env)).any To=false:=by rfl):PE X (.Call zBb [e] [⟨some "reverse",.Constant Iu j kp2,kp⟩] pos) (fun σ H Q=>t σ H fun vs H1=>b8 X.K vs H1 Q):=by
 intro pins s σ H Q I h;refine wpAny_Call_Name_kw (GQ I hg hm boot_sorted ?_ AT AT);refine callWith_kw (BV TD fun us s1 ⟨vs,H1,U,r1,q1⟩=>kws_cons (Constant_bool (kws_nil ?_))) he g;obtain⟨p,ys,t,rfl,Z,ht,h64,hd,q⟩:=q1;obtain⟨u,rfl,r2⟩:=r1.one;cases r2;rcases Z with Z|Z
 .obtain⟨Y,T,pl,hz⟩:=U.list Z;have hl:=T.length;exact TH.Oh (b:=true) (.inl pl.isList) (ht.vs U T) AC AC fun h' ix e1 a1 a2 a3 keep hD=>U3 U ht T h64 a1 a2 a3 keep hD q
 .obtain⟨Y,T,pl,hz⟩:=U.tuple Z;have hl:=T.length;exact TH.Oh (b:=true) (.inr (show s1.heap.IsTuple p Y.toArray from pl)) (ht.vs U T) AC AC fun h' ix e1 a1 a2 a3 keep hD=>U3 U ht T h64 a1 a2 a3 keep hD q
end
def CW(Pv:xj)(n:Nat)(D:AD):Nat->Nat->List V->Hp->Prop:=fun i m ys H=>m=n-i/\i<=n/\H D=some Jw/\Pv i ys H
def EG{Pv:xj}{n i:Nat}{D:AD}{ys:uI}{y:V}{H:Hp}(hi:i<n)(p:Pv On l8 (upd H D (.lst l8))):∃g,g<n-i/\CW Pv n D On g l8 (upd H D (.lst l8)) :=
 ⟨n-On,by lia,rfl,hi,AU,p⟩
def Xy{Pv:xj}{n i:Nat}{D:AD}{ys:uI}{H:Hp}(hi:i<n)(T:H D=some Jw)(p:Pv On ys H):∃g,g<n-i/\CW Pv n D On g ys H:=⟨n-On,by lia,rfl,hi,T,p⟩
def Fq{J:It}{n:Nat}{D:AD}{H1:Hp}{fr:uN}{σ:St}{ix:Nat}{U:TT}{te:TE}{G:Hp->Prop}(Pv:xj)(h0:Pv 0 [] (upd H1 D li)) (hgo:∀i ys H,i<n->Pv i ys H->H D=some Jw->J.go i H/\ys.length<sizeLine/\∀x H',J.Ft i H x H' ->U UV H' fun b Z=>if b=true then te UV Z fun y Y=>Y D=some Jw/\∃g,g<n-i/\CW Pv n D On g l8 (upd Y D (.lst l8)) else ∃g,g<n-i/\CW Pv n D On g ys Z) (T:∀ys H,Pv n ys H->H D=some Jw->J.stop n H/\G H):∃W:Nat->Nat->List V->Hp->Prop,zDm /\∀i m ys H,W i m ys H->H D=some Jw/\((J.stop i H/\G H)\/(J.go i H/\ys.length<sizeLine/\∀x H',J.Ft i H x H' ->U UV H' fun b Z=>if b=true then te UV Z fun y Y=>Y D=some Jw/\∃g,g<m/\W On g l8 (upd Y D (.lst l8)) else ∃g,g<m/\W On g ys Z)):=by
 refine⟨CW Pv n D,⟨n,by simp,Nat.zero_le _,AU,h0⟩,?_⟩;rintro i m ys H ⟨rfl,hi,hH,p⟩;refine⟨hH,?_⟩;by_cases hlt:i<n
 .exact .inr (hgo i ys H hlt p hH)
 .have e:i=n:=by lia
  subst e;exact .inl (T ys H p hH)
section
variable{X:Cx}
def NH(hc:jj):FV X (.builtin "sum") (fun xs H Q=>∃(p:AD) (ns:uB),xs=[.ref p]/\Ar X.K H p jp/\Q (.int ns.sum) H):=by
 intro pins s σ H xs us Q I r h;obtain⟨p,ns,rfl,hq,q⟩:=h;obtain⟨u,rfl,r1⟩:=r.one;cases r1;obtain⟨g,Z,pl,hz⟩:=I.list hq;have hi:=intsAre_of Z;obtain⟨xs,Y⟩:=hi.allInts.items;have T:s.heap.IsList p (intItems xs):=Y ▸ pl.isList
 refine sum_intListG SL T fun h' tk U hk=>?_;have e1:ns=xs.toList.map To:=by
  rw[<-nums_intItems,<-Y];exact(show numsOf g.toArray.toList=ns from hi.numsOf).symm
 have e2:preSum (numAt xs) xs.size=ns.sum:=by
  rw[preSum_eq,List.take_of_length_le As,e1]
 rw[e2];exact⟨.int _,H,I.kept (t':=tk) hk,⟨U,rfl⟩,q⟩
end
section
variable{X:Cx}{scope:wn}{cl:zb}{N:uC}{C:AD}{s₀:SD}{H₀:Hp}{fp:uK}
def Jb:Pj Ch (fM X.K):=DL
end
mutual
def Dt(l:AD)(H:Hp):PD->V->Prop
 |.none,v=>v=.Bq
 |.bool b,v=>v=.bl b
 |.int i,v=>v=.int i
 |.str x,v=>v=.str x
 |.tuple g,v=>∃(a:AD) (xs:ON),v=.ref a/\a≠l/\H a=some M2/\Az l H g xs
 |.list g,v=>∃(a:AD) (xs:ON),v=.ref a/\a≠l/\H a=some NE/\Az l H g xs
 |.dict _,_=>False
def Az(l:AD)(H:Hp):List PD->List V->Prop
 |[],xs=>xs=[]
 |d::g,xs=>∃x r,xs=x::r/\Dt l H d x/\Az l H g r
end
mutual
def Dt.but{l:AD}{H H':Hp}(e:SameBut l H H'):∀ {d:PD} {v:V},Dt l H d v->Dt l H' d v
 |.none,_,h=>by rw[Dt]at h ⊢;exact h
 |.bool _,_,h=>by rw[Dt]at h ⊢;exact h
 |.int _,_,h=>by rw[Dt]at h ⊢;exact h
 |.str _,_,h=>by rw[Dt]at h ⊢;exact h
 |.tuple _,_,h=>by
  rw[Dt]at h ⊢;obtain⟨a,xs,U,n,T,g⟩:=h;exact⟨a,xs,U,n,e _ _ n T,Az.but e g⟩
 |.list _,_,h=>by
  rw[Dt]at h ⊢;obtain⟨a,xs,U,n,T,g⟩:=h;exact⟨a,xs,U,n,e _ _ n T,Az.but e g⟩
 |.dict _,_,h=>by rw[Dt]at h;exact h.elim
def Az.but{l:AD}{H H':Hp}(e:SameBut l H H'):∀ {ds:vT} {xs:ON},Az l H ds xs->Az l H' ds xs
 |[],_,h=>by rw[Az]at h ⊢;exact h
 |_::_,_,h=>by
  rw[Az]at h ⊢;obtain⟨x,r,U,T,g⟩:=h;exact⟨x,r,U,Dt.but e T,Az.but e g⟩
end
def Dt.same{l:AD}{H H':Hp}{d:PD}{v:V}(h:Dt l H d v)(e:ug):Dt l H' d v:=Dt.but (.of e) h
def Az.same{l:AD}{H H':Hp}{d:tj}{v:uI}(h:Az l H d v)(e:ug):Az l H' d v:=Az.but (.of e) h
def Az.len{l:AD}{H:Hp}:∀ {ds:vT} {xs:ON},Az l H ds xs->xs.length=ds.length
 |[],_,h=>by rw[Az]at h;rw[h];rfl
 |_::_,_,h=>by
  rw[Az]at h;obtain⟨x,r,rfl,_,g⟩:=h;rw[List.length_cons,List.length_cons,Az.len g]
def Az.get{l:AD}{H:Hp}:∀ {ds:vT} {xs:ON} {i:Nat} {v:V},Az l H ds xs->xs[i]? = some v->∃d,ds[i]? = some d/\Dt l H d v
 |[],_,i,v,h,e=>by rw[Az]at h;subst h;simp at e
 |d::ds,_,i,v,h,e=>by
  rw[Az]at h;obtain⟨x,r,rfl,Y,U⟩:=h;cases i with
  |zero=>simp at e;subst e;exact⟨d,rfl,Y⟩
  |succ i=>
   obtain⟨c,T,g⟩:=U.get (i:=i) (v:=v) vH;exact⟨c,by simpa using T,g⟩
def Az.nil{l:AD}{H:Hp}:Az l H [] []:=by rw[Az]
def Az.cons{l:AD}{H:Hp}{d:PD}{ds:tj}{x:V}{xs:uI}(h:Dt l H d x)(k:Az l H ds xs):Az l H (d::ds) (x::xs):=by
 rw[Az];exact⟨x,xs,rfl,h,k⟩
def Az.app{l:AD}{H:Hp}:∀ {ds es:vT} {xs ys:ON},Az l H ds xs->Az l H es ys->Az l H (ds++es) zM
 |[],_,_,_,h,k=>by rw[Az]at h;subst h;exact k
 |d::ds,es,_,ys,h,k=>by
  rw[Az]at h;obtain⟨x,r,rfl,T,g⟩:=h;exact .cons T (g.app k)
def Dt.int{l:AD}{H:Hp}{i:Int}:Dt l H vR vR:=by rw[Dt]
def Dt.bool{l:AD}{H:Hp}{b:Bool}:Dt l H (.bool b) (.bl b):=by rw[Dt]
def Dt.Bq{l:AD}{H:Hp}:Dt l H .none .Bq:=by rw[Dt]
def Dt.str{l:AD}{H:Hp}{x:Str}:Dt l H (.str x) (.str x):=by rw[Dt]
def Dt.tup{l a:AD}{H:Hp}{ds:tj}{xs:uI}(n:a≠l)(h:H a=some M2)(k:Az l H ds xs):Dt l H yx Jz:=by rw[Dt];exact⟨a,xs,rfl,n,h,k⟩
def Dt.lst{l a:AD}{H:Hp}{ds:tj}{xs:uI}(n:a≠l)(h:H a=some NE)(k:Az l H ds xs):Dt l H zAA Jz:=by rw[Dt];exact⟨a,xs,rfl,n,h,k⟩
def Ok(n:Nat)(d:PD):Prop:=d.canLay0=true/\d.depth<=n
def gZ(n:Nat)(ds:tj):Prop:=PyData.canLayAll0 ds=true/\PyData.depthAll ds<=n
def Ok.shaped{n:Nat}{d:PD}(h:Ok n d)(hn:n<=64):SeqAt.shaped d=true:=by
 unfold SeqAt.shaped;rw[h.1,Bool.true_and];exact decide_eq_true (aP h.2 hn)
def Ok.tup{n:Nat}{ds:tj}(h:gZ n ds):Ok (n+1) yx:=⟨by simp only[PyData.canLay0];exact h.1,by simp only[PyData.depth];exact Nat.succ_le_succ h.2⟩
def Ok.int{n:Nat}{i:Int}:Ok n vR:=⟨by simp[PyData.canLay0],by simp[PyData.depth]⟩
mutual
def NC:∀d:PD,d.canLay0=true->PyData.eqv d d=true
 |.none,_=>by simp[PyData.eqv]
 |.bool _,_=>by simp[PyData.eqv]
 |.int _,_=>by simp[PyData.eqv]
 |.str _,_=>by simp[PyData.eqv]
 |.tuple g,h=>by simp only[PyData.eqv];exact MH g (by simpa only[PyData.canLay0]using h)
 |.list g,h=>by simp only[PyData.eqv];exact MH g (by simpa only[PyData.canLay0]using h)
 |.dict _,h=>by simp[PyData.canLay0]at h
def MH:∀ds:List PD,PyData.canLayAll0 ds=true->PyData.eqvAll ds ds=true
 |[],_=>by simp[PyData.eqvAll]
 |d::ds,h=>by
  simp only[PyData.canLayAll0,Bool.and_eq_true]at h;simp only[PyData.eqvAll,NC d h.1,MH ds h.2,Bool.and_self]
end
def Qf:PD->String
 |.none => "NoneType"
 |.bool _ => "bool"
 |.int _ => "int"
 |.str _ => "str"
 |.tuple _ => "tuple"
 |.list _ => "list"
 |.dict _ => "dict"
def Dt.ty{K:Fg}{l:AD}{H:Hp}:∀ {d:PD} {v:V},Dt l H d v->IK K H v xr
 |.none,_,h=>by rw[Dt]at h;subst h;exact .Bq
 |.bool _,_,h=>by rw[Dt]at h;subst h;exact .bl _
 |.int _,_,h=>by rw[Dt]at h;subst h;exact .int _
 |.str _,_,h=>by rw[Dt]at h;subst h;exact .str _
 |.tuple _,_,h=>by rw[Dt]at h;obtain⟨a,xs,rfl,_,g,_⟩:=h;exact .tup g
 |.list _,_,h=>by rw[Dt]at h;obtain⟨a,xs,rfl,_,g,_⟩:=h;exact .lst g
 |.dict _,_,h=>by rw[Dt]at h;exact h.elim
def FR:PD->Bool
 |.tuple _=>true
 |_=>false
def FI:PD->Bool
 |.list _=>true
 |_=>false
def J5:PD->Bool
 |.int _=>true
 |.bool _=>true
 |_=>false
def Ij:PD->Bool
 |.bool _=>true
 |_=>false
def Lc(K:Fg):∀d:PD,yj->PySem.W.kitOne K xr FS=some (FR d)
 |.none,_=>lx K
 |.bool _,_=>oG K
 |.int _,_=>mZ K
 |.str _,_=>kI K
 |.tuple _,_=>lu K
 |.list _,_=>kC K
 |.dict g,h=>absurd rfl (h g)
def Qt(K:Fg):∀d:PD,yj->PySem.W.kitOne K xr iF=some (FI d)
 |.none,_=>la K
 |.bool _,_=>lD K
 |.int _,_=>nT K
 |.str _,_=>nQ K
 |.tuple _,_=>mm K
 |.list _,_=>mE K
 |.dict g,h=>absurd rfl (h g)
def kM(K:Fg):PySem.W.kitOne K yh ud=some false:=by kernel_rfl
def nH(K:Fg):PySem.W.kitOne K (.type "str") ud=some false:=by kernel_rfl
def nA(K:Fg):PySem.W.kitOne K FS ud=some false:=by kernel_rfl
def lI(K:Fg):PySem.W.kitOne K iF ud=some false:=by kernel_rfl
def Wr(K:Fg):∀d:PD,yj->PySem.W.kitOne K xr ut=some (J5 d)
 |.none,_=>mi K
 |.bool _,_=>oM K
 |.int _,_=>my K
 |.str _,_=>nV K
 |.tuple _,_=>lR K
 |.list _,_=>lA K
 |.dict g,h=>absurd rfl (h g)
def UP(K:Fg):∀d:PD,yj->PySem.W.kitOne K xr ud=some (Ij d)
 |.none,_=>kM K
 |.bool _,_=>nG K
 |.int _,_=>mR K
 |.str _,_=>nH K
 |.tuple _,_=>nA K
 |.list _,_=>lI K
 |.dict g,h=>absurd rfl (h g)
def Dt.nodict{l:AD}{H:Hp}{d:PD}{v:V}(h:Dt l H d v):∀g,d≠.dict g:=fun g z=>by subst z;rw[Dt]at h;exact h
end L2
namespace Tr
def Qn{t c:Tr}(h:c∈t.bs):c.deep<t.deep:=by
 induction t with
 |nil=>cases h
 |cons b r _ g=>
  rw[bs]at h;have hd:(cons b r).deep=max (b.deep+1) r.deep:=rfl;rcases aN.mp h with rfl|h
  .lia
  .have:=g h;lia
def D0:∀t:Tr,0<t.AR
 |.nil=>Nat.one_pos
 |.cons b r=>by rw[AR];have:=D0 b;lia
def L7{t c:Tr}(h:c∈t.bs):c.AR<t.AR:=by
 induction t with
 |nil=>cases h
 |cons b r _ g=>
  rw[bs]at h;have hk:(cons b r).AR=b.AR+r.AR:=rfl;have U:=D0 b;have T:=D0 r;rcases aN.mp h with rfl|h
  .lia
  .have:=g h;lia
def UM:∀t:Tr,1+(t.bs.map fun c=>(c.AR:Int)).sum=(t.AR:Int)
 |.nil=>rfl
 |.cons b r=>by
  rw[bs,List.map_cons,List.sum_cons,AR];have:=UM r
  lia
def OS:∀t:Tr,t.bs.length<t.AR
 |.nil=>Nat.one_pos
 |.cons b r=>by
  rw[bs,List.length_cons,AR];have:=OS r;have:=D0 b
  lia
end Tr
namespace L2
open PySem PySem.Spec PyProof.Rows
mutual
def Hf:PD->Option Tr
 |.tuple g=>Ek g
 |_=>none
def Ek:List PD->Option Tr
 |[]=>some .nil
 |d::g=>(Hf d).bind fun b=>(Ek g).map fun r=>.cons b r
end
section
variable{X:Cx}
def oo:R2:=fun x y H Q=>∃a b xs ys,x=.ref a/\y=.ref b/\H a=some M2/\H b=some yt/\xs.length+ys.length<=sizeLine/\∀p H',AL H H'->H' p=some (.tup zM)->Q vS H'
def jy:DJ X vd oo:=by
 intro pins s σ H x y v u Q I rx ry h;obtain⟨a,b,xs,ys,rfl,rfl,ha,hb,hz,q⟩:=h;cases rx;cases ry;obtain⟨its,r1,p1,_⟩:=I.tuple (BJ.of (K:=X.K) ha);obtain⟨its2,Z,p2,_⟩:=I.tuple (BJ.of (K:=X.K) hb);by_cases hv:its=[]
 .have hx:=r1.YD.mp hv;subst hv hx;obtain⟨⟨cls,dd,data,sl⟩,ho,hc,n,hd⟩:=id p1;obtain⟨⟨cls2,dd2,data2,Y⟩,g,U,n2,T⟩:=id p2;simp only at hc hd U T;subst hc hd U T;exact concat_meets ⟨_,ho,rfl⟩ ⟨_,g,rfl⟩ noFill_tuple_add seq_tuple_add PySem.F.slot_tuple_add PySem.F.entry_tuple_add zt
   (tuple_addW0 a b _ _ n n2 dd dd2 sl Y As) ⟨ho,g,⟨.ref b,H,I,rfl,q b H (.refl H) (by simpa using hb)⟩⟩
 .refine HT.iK p1 p2 hv (fun z=>?_) (fun z=>?_) (by rw[<-r1.length,<-Z.length];exact hz)
  .have hy:=Z.YD.mp z;subst hy;exact⟨.ref a,H,I,rfl,q a H (.refl H) (by simpa using ha)⟩
  .refine⟨.ref s.heap.objs.size,_,I.laid (t':=s.toks) (o:=.tup zM) (fun b ob q=>aE _ q) UF ?_,rfl,q _ _ (Al zDs _) AU⟩;exact⟨by rw[List.length_append];exact hz,_,r1.append Z,IsTup.new _ _⟩
end
end L2
namespace Tim
open PySem PyProof.Rows
section pure
end pure
section
section pure
end pure
section pure
end pure
end
end Tim
namespace L2
open PySem PySem.Spec PyProof.Rows
abbrev Pf(x y:Str)(U T:Pos)(tk:Nat)(g:Pos):Expr:=.Tuple [.Name x U,.Name y T] tk g
def jm{ix g:Nat}(h:ix≠g)(σ:St)(a b c d:Option V):((((σ.set ix a).set g b).set ix c).set g d)=(σ.set ix c).set g d:=by
 rw[List.set_comm _ _ h.symm,List.set_set,List.set_set]
def Mh(K:Fg)(wi:TI)(fr:uN)(ix Z:Nat)(Y:TT)(te:TE):TE:=fun σ H Q=>wi σ H fun J H1=>∀D,H1 D=none->∃W:Nat->Nat->List V->Hp->Prop,zDm /\
 ∀i m ys H,W i m ys H->H D=some Jw/\((J.stop i H/\Q vD H)\/(J.go i H/\ys.length<sizeLine/\∀x H',J.Ft i H x H'->∃a U T,x=.ref a/\BJ K H' a [U,T] /\
  Y zBw H' fun b H2=>if b=true then te zBw H2 fun y H3=>H3 D=some Jw/\∃g,g<m/\W On g l8 zCz
   else ∃g,g<m/\W On g ys H2))
section
variable{X:Cx}{elt iter:Expr}{x y:Str}{px py tp pos:Pos}{tk:Nat}{ifs:uD}{scope:wn}{wi:TI}{fr:uN}{ix iy:Nat}{tif:TT}{te:TE}{N:uC}
def QD{pins:Cl}{σ:St}{Y:Hp}{s2:SD}{Q:VK}{it:AD}{fp:uK}{tn:vA}{J:It}{cl:zb}{E:tq}{RR:VL->AD->Result->SD->Prop} (S:xR)(S2:D7 scope N y iy)(hxy:ix≠iy)(U:jj)(hfr:uX)(hlen:zB) (hif:zCL)(he:zCM) (I2:Inv X pins σ Y s2)(T:Turn X.prog X.w X.K (Pf x y px py tk tp) J fp it tn)(st2:tn 0 s2.heap)(f2:∀b∈fp,MI X pins Y b) (c1:vi)(c2:uw) (W:∀D,Y D=none->∃W:Nat->Nat->List V->Hp->Prop,(∃m,W 0 m [] (upd Y D li)) /\∀i m ys H,W i m ys H->H D=some Jw/\((J.stop i H/\Q vD H)\/(J.go i H/\ys.length<sizeLine/\∀x H',J.Ft i H x H'->∃a v1 v2,x=.ref a/\BJ X.K H' a [v1,v2] /\tif zBT H' fun b Y=>if b=true then te zBT Y fun y H3=>H3 D=some Jw/\∃m',m'<m/\W On m' l8 zCz else ∃m',m'<m/\W On m' ys Y))) (fin:HX):wpAny By X.A (newList []) (fun acc s₃=>wpAny By X.A oR (fun Z s₄ => codeAny By X.A (.compStart PP 0 vJ acc {Z with scope:=relabel scope X.env}) (RR acc Z.locals) s₄) E s₃) E s2:=by
 have hxv:(relabel scope X.env).names.lookup x=some .local:=lookup_relabel_local S.loc;have hyv:(relabel scope X.env).names.lookup y=some .local:=lookup_relabel_local S2.loc;refine P7 (g:=ZX X.K 2 (Lq (Ds ix) (Lq (Ds iy) ZP))) S U (fun σ'=>∀v w,(σ'.set ix v).set iy w=((carry fr σ).set ix v).set iy w) Db (fun C=>Jy (X:=A4 X scope cl N C s2 Y fp) U (CU (A6 (X:=A4 X scope cl N C s2 Y fp) S.nd S.at_ (.inl hxv) (.inr hxv)) (CU (A6 (X:=A4 X scope cl N C s2 Y fp) S2.nd S2.at_ (.inl hyv) (.inr hyv)) IY))) hfr hlen hif he I2 T st2 f2 c1 c2 (fun D hD=>?_) fin;obtain⟨W,w0,st⟩:=W D hD;refine⟨W,w0,fun i m ys H w=>?_⟩;obtain⟨h1,h2|⟨h2,h3,h4⟩⟩:=st i m ys H w
 .exact⟨h1,.inl h2⟩
 .refine⟨h1,.inr ⟨h2,h3,fun x H' hy σ' hr=>?_⟩⟩;obtain⟨a,v1,v2,rfl,hs,q⟩:=h4 x H' hy;rw[<-hr]at q;exact⟨a,[v1,v2],rfl,hs,rfl,v1,[v2],rfl,v2,[],rfl,rfl,fun v w=>by rw[jm hxy,hr],q⟩
def eG(S:xR)(S2:D7 scope N y iy)(hxy:ix≠iy)(Z:jj)(hfr:uX)(hlen:zB)(U:vZ) (hi:wJ)(hif:zCL)(he:zCM) (hs:∀x,foldedSetIterable iter X.env x=pure x:=by intro _;rfl):PE X PP (Mh X.K wi fr ix iy tif te):=by
 intro pins s σ H Q I hw;obtain⟨cl,Y,c1,_,c2⟩:=HF (env:=X.env) scope.names [] (fun y hy hf=>I.ok.has y.1 (U y hy hf)) (fun y c z=>by cases z);have g:closureFor scope X.env=pure cl:=by
  have e:closureFor scope X.env=RW:=rfl;rw[e,Y]
  rfl
 rw[eval_ListComp];refine wpAny_comprehension_free (use:=none) rfl hs g S.kind S.names (BV yu fun v s1 h1=>BV h1 fun itv s2 h2=>?_);obtain⟨it,fp,tn,J,H2,e,I2,T,st2,f2,W⟩:=h2;subst e;refine QD (RR:=fun acc C=>compPost By X.A X.xe none ge acc C) S S2 hxy Z hfr hlen hif he I2 T st2 f2 c1 c2 W ?_;intro D C s' H' m hn q hI _ _ _ _;exact⟨m,hn,fun h' hs'=>⟨.ref D,H',hI h' hs',rfl,q⟩⟩
def Ww{i : Nat}{z : Str}{pz spos : Pos}(hN : u7)(hy : X.N[i]? = some z)(hly : X.env.scope.names.lookup z = some .local)(S : xR)(S2 : D7 scope N y iy)(hxy : ix≠iy)(hcalm : X.calm = true)(hfr : Fz N X.N scope X.env.scope fr 0 = true)(hlen : fr.length = N.length) (hfree : vF) (hi : wJ)(hif : ∀ cl C s₀ H₀ fp,L4 Ch ifs tif)(he : ∀ cl C s₀ H₀ fp,PE Ch elt te) (hsw : swapsWith PP (some zBG) spos.line X.env = pure true:=by rfl) (hs : ∀ x,foldedSetIterable iter X.env x = pure x:=by intro _; rfl):PS X (.Assign [.Name z pz] PP spos) (TV (Mh X.K wi fr ix iy tif te) (Ds i)):=by
  intro pins s σ H D I hw
  obtain ⟨cl,hclos,c1,_,c2⟩:=HF (env:=X.env) scope.names [] (fun y hy hf => I.ok.has y.1 (hfree y hy hf)) (fun y c z => by cases z)
  have hclos' : closureFor scope X.env = pure cl:=by
    have e : closureFor scope X.env = Oo:=rfl
    rw [e,hclos]
    rfl
  rw [exec_Assign_Name_used _ _ _ _ hsw]
  refine Wb (wpAny_standAt (Wb ?_))
  show wpAny _ X.A (do let _ <- comprehension PP scope X.env _ (newList []) false (eval iter X.env) (some (assign zBG X.env))) _ _ s
  refine Wb (aW (wpAny_comprehension_free (use:=some (assign zBG X.env)) (Q:=fun _ s' => SP X pins D .next s') rfl hs hclos' S.kind S.names
    (BV yu fun v s1 h1 => BV h1 fun itv s2 h2 => ?_)) (fun _ s' hq => aA (aA hq)) fun _ _ e => e)
  obtain ⟨it,fp,tn,J,H2,e,I2,T,st2,f2,W⟩:=h2
  subst e
  refine QD (Q:=fun x H1 => Ds i x σ H1 D.nx) (RR:=fun acc C => compPost By X.A X.xe (some (assign zBG X.env)) (fun _ s' => SP X pins D .next s') acc C) S S2 hxy hcalm hfr hlen hif he I2 T st2 f2 c1 c2 W ?_
  intro D' C s' H' m hn q hI hCD hold hfreeC hsz
  have I5 : Inv X pins σ H' s':=hI s'.heap zR
  refine wpAny_assign_Name wb
  have hL : C≠X.env.locals:=fun z => by
    obtain ⟨_,⟨o,_,_,e,_⟩,_⟩:=I2.loc
    exact hold _ _ e z.symm
  have hcl : ∀ z c,X.env.cells.lookup z = some c->c≠C:=fun z c e => by
    obtain ⟨_,o,ho,_⟩:=I2.cell z c e
    exact hold _ _ ho
  have hCa : C≠a:=by
    rcases ha with z | z
    . rw [z]; exact hL
    . exact Ne.symm (hcl _ _ z)
  refine ⟨m,hn.sameBut hsb hCa,fun h' hs' => ⟨_,H',I6.turned (t':=s''.toks) (it:=C) (fun b o hb e => (hs'.2 b hb).trans e) hfreeC hL (.inr (aP I2.sz hsz)) hcl fun p hp => ?_,q⟩⟩
  obtain ⟨e,_⟩:=I2.pin p hp
  exact hold _ _ e
end
section
variable{X:Cx}{elt iter:Expr}{x y:Str}{px py tp pos:Pos}{tk:Nat}{ifs:uD}{scope:wn}{wi:TI}{tif:TT}{te:TE}
def Ov(N:uC)(ix g:Nat)(fr:uN)(hi:wJ)(U:zCL)(he:zCM) (h1:B1 scope N x ix=true:=by decide +kernel)(Y:B1 scope N y g=true:=by decide +kernel)(T:ix≠g:=by decide)(h2:X.calm=true:=by rfl)(h3:Fz N X.N scope X.env.scope fr 0=true:=by rfl)(h4:fr.length=N.length:=by rfl)(h5:freeOk X.env.scope scope.names=true:=by rfl) (Z:∀x,foldedSetIterable iter X.env x=pure x:=by intro _;rfl):PE X JT (Mh X.K wi fr ix g tif te) :=
 eG (Fo h1) (Fo Y) T h2 h3 h4 (L3 h5) hi U he Z
def VV{i:Nat}{z:Str}{pz g:Pos}(N:uC)(ix T:Nat)(fr:uN)(hN:u7)(hy:X.N[i]? = some z)(Z:X.env.scope.names.lookup z=some .local) (hi:wJ)(hif:zCL)(he:zCM) (h1:B1 scope N x ix=true:=by decide +kernel)(h1':B1 scope N y T=true:=by decide +kernel)(U:ix≠T:=by decide)(h2:X.calm=true:=by rfl)(h3:Fz N X.N scope X.env.scope fr 0=true:=by rfl)(h4:fr.length=N.length:=by rfl)(h5:freeOk X.env.scope scope.names=true:=by rfl) (Y:swapsWith JT (some zBG) g.line X.env=pure true:=by rfl) (hs:∀x,foldedSetIterable iter X.env x=pure x:=by intro _;rfl):PS X (.Assign [.Name z pz] JT g) (TV (Mh X.K wi fr ix T tif te) (Ds i)) :=
 Ww hN hy Z (Fo h1) (Fo h1') U h2 h3 h4 (L3 h5) hi hif he Y hs
end
def Qm{K:Fg}{J:It}{n:Nat}{D:AD}{H1:Hp}{fr:uN}{σ:St}{ix iy:Nat}{Z:TT}{te:TE}{G:Hp->Prop}(Pv:xj)(h0:Pv 0 [] (upd H1 D li)) (hgo:∀i ys H,i<n->Pv i ys H->H D=some Jw->J.go i H/\ys.length<sizeLine/\∀x H',J.Ft i H x H'->∃a U T,x=.ref a/\BJ K H' a [U,T] /\Z uE H' fun b H2=>if b=true then te uE H2 fun y H3=>H3 D=some Jw/\∃g,g<n-i/\CW Pv n D On g l8 zCz else ∃g,g<n-i/\CW Pv n D On g ys H2) (Y:∀ys H,Pv n ys H->H D=some Jw->J.stop n H/\G H):∃W:Nat->Nat->List V->Hp->Prop,zDm /\∀i m ys H,W i m ys H->H D=some Jw/\((J.stop i H/\G H)\/(J.go i H/\ys.length<sizeLine/\∀x H',J.Ft i H x H'->∃a U T,x=.ref a/\BJ K H' a [U,T] /\Z uE H' fun b H2=>if b=true then te uE H2 fun y H3=>H3 D=some Jw/\∃g,g<m/\W On g l8 zCz else ∃g,g<m/\W On g ys H2)):=by
 refine⟨CW Pv n D,⟨n,by simp,Nat.zero_le _,AU,h0⟩,?_⟩;rintro i m ys H ⟨rfl,hi,hH,p⟩;refine⟨hH,?_⟩;by_cases hlt:i<n
 .exact .inr (hgo i ys H hlt p hH)
 .have:i=n:=by lia
  subst this;exact .inl (Y ys H p hH)
end L2
namespace ZT
open PySem PyProof.Rows
structure Apart(z TI TO i1 i2:Addr)(f1 f2:List Addr):Prop where
 a1:TI≠z/\TI≠TO/\TI≠i1/\TI≠i2
 a2:TO≠z/\TO≠i1/\TO≠i2
 a3:i1≠z/\i2≠z/\i1≠i2
 b1:z ∉ f1/\TO ∉ f1/\i2 ∉ f1
 b2:z ∉ f2/\TO ∉ f2/\i1 ∉ f2
section
variable{prog:Go}{w:KB}{A:OR}{E:tq}{s:SD}{z TI TO i1 i2:AD}{f1 f2:uK}{n1 n2 k:Nat}{P1 P2:Nat->VL->Prop}{S1 S2:vA}{a b:VL}
def Ao{f:uK}{x:AD}{h h':Heap}(g:x ∉ f)(e:Heap.SameBut x h h'):∀c∈f,∀o,h.get? c=some o->h'.get? c=some o:=fun c T o q=>(e.2 c fun y=>g (y ▸ T)).trans q
def item{Q:tq}(D1:ua)(D2:ub)(ap:lv)(hz:bi)(hI:LT)(hO:zAo) (t1:vB)(t2:vC)(l1:k<n1)(l2:k<n2) (q:∀x y h' tk,P1 k x->P2 k y->IsZip h' z TI TO yL->IsPair h' TO x y->S1 io h'->S2 io h'->IsPair h' s.heap.objs.size x y->h'.objs.size=s.heap.objs.size+1 ->(∀c o,c≠z->c≠TO->c≠i1->c≠i2->s.heap.get? c=some o->h'.get? c=some o)->Q Do Iv):wpAny AS A Tm wX E s:=by
 obtain⟨⟨c1,c2,c3,c4⟩,⟨c5,c6,c7⟩,⟨c8,c9,c10⟩,⟨d1,d2,d3⟩,d4,d5,d6⟩:=ap;show wpAny _ _ zDV _ _ _;refine Wb vp;show wpAny _ _ zDW _ _ _;refine Wb uR;show wpAny _ _ zCO _ _ _;unfold Builtin.SmallTypes.ownedTupleIsFree;refine Wb zCu;simp only[if_true];refine Wb zDP;have Y:Heap.SameBut z s.heap g1:=Y;have z1:IsZip g1 z TI TO .ellipsis:=z1;simp only[List.zipIdx_cons,List.zipIdx_nil,List.forIn_cons,List.forIn_nil];refine Wb vk;show wpAny _ _ ZB _ _ _;refine Wb (D1.item k _ _ _ l1 (D1.frame _ _ _ t1 (Ao d1 Y)) fun x g2 tk2 p1 u1 U=>aA ?_);have o2:IsPair g2 TO a b:=(U.2 _ c6).trans ((Y.2 _ c5).trans hO);refine Wb (aU o2 rfl (Wb (wpAny_updateSeq_pair o2 fun g3 o3 T=>Wb zDF)));have o3:IsPair g3 TO x b:=o3;have t2':S2 k g3:=D2.frame _ _ _ (D2.frame _ _ _ wz (Ao d6 U)) (Ao d5 T);refine Wb vk;show wpAny _ _ Rc _ _ _;refine Wb zAx;have T:Heap.SameBut TO g2 g3:=T;have m4:Heap.SameBut i2 g3 g4:=m4;have o4:IsPair g4 TO x b:=(m4.2 _ c7).trans o3;refine Wb (aU o4 rfl (Wb (wpAny_updateSeq_pair o4 fun g o5 m5=>Wb (wpAny_letGo (aA WF)))));have m5:Heap.SameBut TO g4 g:=m5;have o5:IsPair g TO x y:=o5;refine Wb (aU o5 rfl (Wb (wpAny_newTuple ?_)));have U:Heap.SameBut i1 g1 g2:=U;have sz:g.objs.size=s.heap.objs.size:=by rw[m5.1,m4.1,T.1,U.1,Y.1]
 have z5:IsZip g z TI TO .ellipsis:=(m5.2 _ c5.symm).trans ((m4.2 _ c9.symm).trans ((T.2 _ c5.symm).trans ((U.2 _ c8.symm).trans z1)));have kp:∀c o,c≠z->c≠TO->c≠i1->c≠i2->s.heap.get? c=some o->g.get? c=some o:=fun c o Z e2 e3 e4 e=>(m5.2 _ e2).trans ((m4.2 _ e4).trans ((T.2 _ e2).trans ((U.2 _ e3).trans ((Y.2 _ Z).trans e))));have v1:S1 io g:=D1.frame _ _ _ (D1.frame _ _ _ (D1.frame _ _ _ u1 (Ao d2 T)) (Ao d3 m4)) (Ao d2 m5);have v2:S2 io g:=D2.frame _ _ _ u2 (Ao d5 m5);show wpAny _ _ zDu _ _ _;unfold Builtin.SmallTypes.ownedTupleHandOut;have z6:IsZip (g.push { cls:=.type "tuple",data:=.seq #[x,y]}) z TI TO .ellipsis:=aE _ z5;refine Wb (Wb (ai z6 As fun g7 z7 m7=>ai (show IsZip g7 z TI TO zAV from z7) As fun g8 z8 m8=>?_));have z8:IsZip g8 z TI TO zAV:=z8;have up:∀c o,c≠z->(g.push { cls:=.type "tuple",data:=.seq #[x,y]}).get? c=some o->g8.get? c=some o:=fun c o Z e=>(m8.2 _ Z).trans ((m7.2 _ Z).trans e);have zl:z<g.objs.size:=aF z5;refine aA ⟨_,rfl,?_⟩;show Q zBc _;have fin:=q x y g8 tk4 p1 p2 (by rw[<-sz];exact z8) (up _ _ c5 (aE _ o5)) yB yC
  (by rw[<-sz];exact up _ _ (ao zl) (aK _ rfl)) (by rw[<-sz,m8.1,m7.1,Heap.size_push]) fun c o Z e2 e3 e4 e=>up c o Z (aE _ (kp c o Z e2 e3 e4 e))
 rw[sz];exact fin
def ended{Q:Fin->SD->Prop}(D1:ua)(D2:ub)(ap:lv)(hz:bi)(hI:LT)(hO:zAo) (t1:vB)(t2:vC)(he:zBx) (q:∀h' e tk,oN->(∃o,h'.get? e=some o/\o.cls=.type "StopIteration")->E (.ref e) Iv):wpAny AS A Tm Q E s:=by
 obtain⟨⟨c1,c2,c3,c4⟩,⟨c5,c6,c7⟩,⟨c8,c9,c10⟩,⟨d1,d2,d3⟩,d4,d5,d6⟩:=ap;show wpAny _ _ zDV _ _ _;refine Wb vp;show wpAny _ _ zDW _ _ _;refine Wb uR;show wpAny _ _ zCO _ _ _;unfold Builtin.SmallTypes.ownedTupleIsFree;refine Wb zCu;simp only[if_true];refine Wb (bQ (Wb (aV hz rfl (x:=.ref TO) rfl (Wb (ai hz As fun g1 z1 Z=>Wb ?_)))));have Z:Heap.SameBut z s.heap g1:=Z;have z1:IsZip g1 z TI TO .ellipsis:=z1;simp only[List.zipIdx_cons,List.zipIdx_nil,List.forIn_cons,List.forIn_nil];refine Wb vk;show wpAny _ _ ZB _ _ _;have Y:=D1.frame _ _ _ t1 (Ao d1 Z);rcases he with he|⟨he1,he2⟩
 .rw[he]at Y;refine Wb (D1.done _ _ _ Y fun g2 e T g=>?_);obtain⟨o,g,hc⟩:=g;have z2:IsZip g2 z TI TO .ellipsis:=T _ _ c8.symm z1;have ez:e≠z:=fun y=>by subst y;rw[z2]at g;cases g;simp at hc
  exact ai z2 As fun g3 _ U=>q g3 e _ (fun c o e1 e2 e3 e4 y=>(U.2 _ e1).trans (T _ _ e3 ((Z.2 _ e1).trans y))) ⟨o,(U.2 _ ez).trans g,hc⟩
 .refine Wb (D1.item k _ _ _ he1 Y fun x g2 tk2 p1 u1 T=>aA ?_);have o2:IsPair g2 TO a b:=(T.2 _ c6).trans ((Z.2 _ c5).trans hO);refine Wb (aU o2 rfl (Wb (wpAny_updateSeq_pair o2 fun g3 o3 U=>Wb zDF)));have t2':S2 k g3:=D2.frame _ _ _ (D2.frame _ _ _ (D2.frame _ _ _ t2 (Ao d4 Z)) (Ao d6 T)) (Ao d5 U);rw[he2]at t2';have T:Heap.SameBut i1 g1 g2:=T;have U:Heap.SameBut TO g2 g3:=U;refine Wb vk;show wpAny _ _ Rc _ _ _;refine Wb (D2.done _ _ _ t2' fun g4 e m4 g=>?_);obtain⟨o,g,hc⟩:=g;have z4:IsZip g4 z TI TO .ellipsis:=m4 _ _ c9.symm ((U.2 _ c5.symm).trans ((T.2 _ c8.symm).trans z1));have ez:e≠z:=fun y=>by subst y;rw[z4]at g;cases g;simp at hc
  exact ai z4 As fun g5 _ m5=>q g5 e _ (fun c o e1 e2 e3 e4 y=>(m5.2 _ e1).trans (m4 _ _ e4 ((U.2 _ e2).trans ((T.2 _ e3).trans ((Z.2 _ e1).trans y))))) ⟨o,(m5.2 _ ez).trans g,hc⟩
def next_item{Q:Uf}(D1:d7)(D2:em)(ap:lv)(hz:bi)(hI:LT)(hO:zAo) (t1:vB)(T:vC)(l1:k<n1)(l2:k<n2) (q:∀x y h' tk,P1 k x->P2 k y->IsZip h' z TI TO yL->IsPair h' TO x y->S1 io h'->S2 io h'->IsPair h' s.heap.objs.size x y->h'.objs.size=s.heap.objs.size+1 ->(∀c o,c≠z->c≠TO->c≠i1->c≠i2->s.heap.get? c=some o->h'.get? c=some o)->Q (some Do) Iv):wpAny AS A zDe Q E s:=by
 have g:s.TypeIs Of "zip" := ⟨_,hz,rfl⟩;unfold pyNext;exact Wb (bV (aY (name:=Str.ofString "__next__") g bI
  (aX bI g F.entry_zip_next (item D1 D2 ap hz hI hO t1 T l1 l2 fun x y h' tk r1 r2 r3 r4 r5 r6 Z Y U=>aA (q x y h' tk r1 r2 r3 r4 r5 r6 Z Y U)) wA)))
def next_end{Q:Uf}(D1:d7)(D2:em)(ap:lv)(hz:bi)(hI:LT)(hO:zAo) (t1:vB)(Y:vC)(Z:zBx) (q:∀h' tk,oN->Q none Iv):wpAny AS A zDe Q E s:=by
 have U:s.TypeIs Of "zip" := ⟨_,hz,rfl⟩;unfold pyNext;refine Wb (bV (aY (name:=Str.ofString "__next__") U bI
  (aX bI U F.entry_zip_next (ended D1 D2 ap hz hI hO t1 Y Z fun h' e tk kp g=>?_) wA)))
 obtain⟨o,g,hc⟩:=g;exact Wb wE
end
end ZT
namespace ZT
open PySem PyProof.Rows
def Sq(b:Bool)(h:Heap)(l:AD)(xs:tm):Prop:=if b then h.IsTuple l xs.toArray else h.IsList l xs.toArray
def BP(b:Bool)(l:AD):Obj:=if b then { cls:=.type "tuple_iterator",data:=.fields #[.ref l,.int 0 0]} else { cls:=.type "list_iterator",data:=.fields #[.ref l,.int 0 0]}
def JL(b:Bool)(h:Heap)(it l:AD)(k:Nat):Prop:=if b then h.IsTupleIter it l k else h.IsListIter it l k
def Sq.push{b:Bool}{h:Heap}{l:AD}{xs:tm}(o:Obj)(x:Sq b h l xs):Sq b (h.push o) l xs:=by
 cases b with
 |true=>obtain⟨u,e,r⟩:=(show h.IsTuple l xs.toArray from x);exact(show(h.push o).IsTuple l xs.toArray from⟨u,Heap.get?_push_of_some _ e,r⟩)
 |false=>obtain⟨u,e,r⟩:=(show h.IsList l xs.toArray from x);exact(show(h.push o).IsList l xs.toArray from⟨u,Heap.get?_push_of_some _ e,r⟩)
def Sq.keep{b:Bool}{h h':Heap}{l:AD}{xs:tm}(x:Sq b h l xs)(k:∀o,h.get? l=some o->h'.get? l=some o):Sq b h' l xs:=by
 cases b with
 |true=>obtain⟨u,e,r⟩:=(show h.IsTuple l xs.toArray from x);exact(show h'.IsTuple l xs.toArray from⟨u,k _ e,r⟩)
 |false=>obtain⟨u,e,r⟩:=(show h.IsList l xs.toArray from x);exact(show h'.IsList l xs.toArray from⟨u,k _ e,r⟩)
def Sq.lt{b:Bool}{h:Heap}{l:AD}{xs:tm}(x:Sq b h l xs):l<h.objs.size:=by
 cases b with
 |true=>obtain⟨u,e,r⟩:=(show h.IsTuple l xs.toArray from x);exact aF e
 |false=>obtain⟨u,e,r⟩:=(show h.IsList l xs.toArray from x);exact aF e
section
variable{prog:Go}{w:KB}{A:OR}{E:tq}{s:SD}
def Mx{b:Bool}{l:AD}{xs:tm}{Q:tq}(x:Sq b s.heap l xs)(h:Q Do {s with heap:=s.heap.push (BP b l)}):wpAny AS A (pyIter ui) Q E s:=by
 cases b with
 |true=>exact wpAny_pyIter_tuple x h
 |false=>exact wpAny_pyIter_list x h
def EI(T:vY)(b:Bool)(it l:AD)(xs:tm)(g:l≠it):Draws prog w A it [it,l] xs.length (fun i v=>xs[i]? = some v) (fun i h=>JL b h it l i/\Sq b h l xs):=by
 cases b with
 |true=>exact ET.draws T it l xs g
 |false=>
  have:=Draws.list (prog:=prog) (w:=w) T it l g xs.toArray
  simpa[JL,Sq]using this
def zh(b1 b2:Bool)(h:Heap)(g T:AD):Heap :=
 ((((h.push (BP b1 g)).push xM).push { cls:=.type "tuple",data:=.seq #[.ref h.objs.size,.ref (h.push (BP b1 g)).objs.size]}).push { cls:=.type "tuple",data:=.seq #[.none,.none]}).push
  { cls:=.type "zip",data:=.fields #[.none,.bool false,.bool false,.ref ((h.push (BP b1 g)).push xM).objs.size,.ref (((h.push (BP b1 g)).push xM).push { cls:=.type "tuple",data:=.seq #[.ref h.objs.size,.ref (h.push (BP b1 g)).objs.size]}).objs.size]}
def il(b1 b2:Bool)(T Y:AD)(xs ys:tm):Meets (Builtin.«zip.__new__» ⟨[.type "zip",.ref T,.ref Y],[]⟩) (fun _ R s=>Sq b1 s.heap T xs/\Sq b2 s.heap Y ys /\R (.ok (.ret (.ref ((((s.heap.push uj).push zAB).push { cls:=.type "tuple",data:=.seq #[.ref s.heap.objs.size,.ref (s.heap.push uj).objs.size]}).push { cls:=.type "tuple",data:=.seq #[.none,.none]}).objs.size)) ) {s with heap:=zh b1 b2 s.heap T Y}) :=
 .of_wp fun prog w A R s h=>by
  obtain⟨U,g,d,tk,os⟩:=s;obtain⟨h1,h2,h⟩:=h;have Z:=sub_zip;have i1:∀(A:OR) (E:ue) (Q:ue),Q (.ref U.objs.size) ⟨U.push uj,g,d,tk,os⟩->wpAny AS A (pyIter (.ref T)) Q E ⟨U,g,d,tk,os⟩:=fun A E Q q=>Mx (s:=⟨U,g,d,tk,os⟩) h1 q;have i2:∀(A:OR) (E:ue) (Q:ue),Q (.ref (U.push uj).objs.size) ⟨(U.push uj).push zAB,g,d,tk,os⟩->wpAny AS A (pyIter (.ref Y)) Q E ⟨U.push uj,g,d,tk,os⟩:=fun A E Q q=>Mx (s:=⟨U.push uj,g,d,tk,os⟩) (h2.push _) q
  wp_walk using i1,i2
  exact⟨_,rfl,h⟩
def WR{b1 b2:Bool}{U T:AD}{xs ys:tm}{Q:tq}(h1:Sq b1 s.heap U xs)(h2:Sq b2 s.heap T ys) (h:∀h',IsZip h' lf Re Rs .none->IsPair h' Re Do zDa->IsPair h' Rs .none .none ->JL b1 h' s.heap.objs.size U 0->JL b2 h' GE T 0->(∀c o,s.heap.get? c=some o->h'.get? c=some o)->Q (.ref lf) Nz):wpAny AS A (call (.type "zip") [.ref U,.ref T]) Q E s:=by
 refine callType_new F.called_zip AT (F.typeCall_zip_2 _ _) (F.newCall_zip_2 _ _) (fun obj=>F.args_object_init_3 obj _ _) F.entry_zip_new (il b1 b2 U T xs ys) ⟨h1,h2,?_⟩;have n1:(s.heap.push (BP b1 U)).objs.size=s.heap.objs.size+1:=Heap.size_push ..;have up:∀(g:Heap) (o:Obj) (c:AD) (u:Obj),g.get? c=some u->(g.push o).get? c=some u:=fun g o c u e=>aE _ e;have a0:(s.heap.push (BP b1 U)).get? s.heap.objs.size=some (BP b1 U):=aK _ (by cases b1<;>rfl);generalize hg1:s.heap.push (BP b1 U)=g1 at n1 a0;have k1:∀c o,s.heap.get? c=some o->g1.get? c=some o:=fun c o e=>by rw[<-hg1];exact up _ _ _ _ e
 have n2:(g1.push xM).objs.size=s.heap.objs.size+2:=by rw[Heap.size_push,n1]
 have a1:(g1.push xM).get? GE=some xM:=by rw[<-n1];exact aK _ (by cases b2<;>rfl)
 generalize hg2:g1.push xM=g2 at n2 a1;have k2:∀c o,g1.get? c=some o->g2.get? c=some o:=fun c o e=>by rw[<-hg2];exact up _ _ _ _ e
 have n3:(g2.push { cls:=.type "tuple",data:=.seq #[.ref s.heap.objs.size,.ref GE]}).objs.size=s.heap.objs.size+3:=by rw[Heap.size_push,n2]
 have a2:IsPair (g2.push { cls:=.type "tuple",data:=.seq #[.ref s.heap.objs.size,.ref GE]}) Re Do zDa:=by rw[<-n2];exact aK _ rfl
 generalize Z:g2.push { cls:=.type "tuple",data:=.seq #[.ref s.heap.objs.size,.ref GE]}=g3 at n3 a2;have k3:∀c o,g2.get? c=some o->g3.get? c=some o:=fun c o e=>by rw[<-Z];exact up _ _ _ _ e
 have n4:(g3.push { cls:=.type "tuple",data:=.seq #[.none,.none]}).objs.size=s.heap.objs.size+4:=by rw[Heap.size_push,n3]
 have a3:IsPair (g3.push { cls:=.type "tuple",data:=.seq #[.none,.none]}) Rs .none .none:=by rw[<-n3];exact aK _ rfl
 generalize Y:g3.push { cls:=.type "tuple",data:=.seq #[.none,.none]}=g4 at n4 a3;have k4:∀c o,g3.get? c=some o->g4.get? c=some o:=fun c o e=>by rw[<-Y];exact up _ _ _ _ e
 have ez:zh b1 b2 s.heap U T=g4.push { cls:=.type "zip",data:=.fields #[.none,.bool false,.bool false,.ref Re,.ref Rs]}:=by
  unfold zh;rw[hg1,hg2,n1,Z,Y,n2,n3]
 have a4:IsZip (g4.push { cls:=.type "zip",data:=.fields #[.none,.bool false,.bool false,.ref Re,.ref Rs]}) lf Re Rs .none:=by rw[<-n4];exact aK _ rfl
 rw[n1,Z,Y,n4,ez];show _/\_;have k5:∀c o,g4.get? c=some o->(g4.push { cls:=.type "zip",data:=.fields #[.none,.bool false,.bool false,.ref Re,.ref Rs]}).get? c=some o:=fun c o e=>up _ _ _ _ e;refine⟨⟨_,a4,rfl⟩,h _ a4 (k5 _ _ (k4 _ _ a2)) (k5 _ _ a3) ?_ ?_ fun c o e=>k5 _ _ (k4 _ _ (k3 _ _ (k2 _ _ (k1 _ _ e))))⟩
 .have:=k5 _ _ (k4 _ _ (k3 _ _ (k2 _ _ a0)));cases b1 with
  |true=>exact⟨_,this,rfl,rfl⟩
  |false=>exact⟨_,this,rfl,rfl⟩
 .have:=k5 _ _ (k4 _ _ (k3 _ _ a1));cases b2 with
  |true=>exact⟨_,this,rfl,rfl⟩
  |false=>exact⟨_,this,rfl,rfl⟩
end
end ZT
namespace L2
open PySem PySem.Spec PyProof.Rows
def B9(b:Bool)(H:Hp)(a:AD)(xs:uI):Prop:=if b then H a=some M2 else H a=some NE
def B9.inj{b:Bool}{H:Hp}{a:AD}{xs ys:uI}(h:B9 b H a xs)(k:B9 b H a ys):xs=ys:=by
 cases b with
 |true=>have h:H a=some M2:=h;have k:H a=some yt:=k;rw[h]at k;cases k;rfl
 |false=>have h:H a=some NE:=h;have k:H a=some Jw:=k;rw[h]at k;cases k;rfl
def B9.none{b:Bool}{H:Hp}{a c:AD}{xs:uI}(h:B9 b H a xs)(k:H c=none):a≠c:=fun z=>by
 subst z;cases b with
 |true=>have h:H a=some M2:=h;rw[k]at h;cases h
 |false=>have h:H a=some NE:=h;rw[k]at h;cases h
def B9.raw{X:Cx}{pins:Cl}{σ:St}{H:Hp}{s:SD}(I:BY){b:Bool}{a:AD}{xs:uI}(h:B9 b H a xs):∃g,Vals xs g/\ZT.Sq b s.heap a g:=by
 cases b with
 |true=>
  obtain⟨g,T,p,_⟩:=I.tuple (BJ.of (K:=X.K) (show H a=some M2 from h));exact⟨g,T,p⟩
 |false=>
  obtain⟨g,T,p,_⟩:=I.list (Ar.of (K:=X.K) (show H a=some NE from h));exact⟨g,T,p.isList⟩
def nv(b1 b2:Bool)(a1 a2:AD):It :=
 ⟨fun i H=>∃xs x ys y,B9 b1 H a1 xs/\B9 b2 H a2 ys/\xs[i]? = some x/\ys[i]? = some y,
  fun i H v H'=>∃p x y,v=.ref p/\H p=none/\H'=upd H p zBH/\(∀xs,B9 b1 H a1 xs->xs[i]? = some x)/\∀ys,B9 b2 H a2 ys->ys[i]? = some y,
  fun i H=>∃xs ys,B9 b1 H a1 xs/\B9 b2 H a2 ys/\(i=xs.length\/(i<xs.length/\i=ys.length))⟩
def sr(b1 b2:Bool)(a1 a2 z TI TO i1 i2:AD):Nat->Heap->Prop:=fun i h=>IsZip h z TI TO .none/\IsPair h TI (.ref i1) (.ref i2)/\(∃a b,IsPair h TO a b)/\ZT.JL b1 h i1 a1 i/\ZT.JL b2 h i2 a2 i
def GX{b:Bool}{h:Heap}{it l:AD}{k:Nat}(x:ZT.JL b h it l k):∃o,h.get? it=some o/\∀v,o.data≠.cell v:=by
 cases b with
 |true=>obtain⟨o,e,_,d⟩:=(show h.IsTupleIter it l k from x);exact⟨o,e,fun v z=>by rw[d]at z;cases z⟩
 |false=>obtain⟨o,e,_,d⟩:=(show h.IsListIter it l k from x);exact⟨o,e,fun v z=>by rw[d]at z;cases z⟩
def FX{b:Bool}{h h':Heap}{it l:AD}{k:Nat}(x:ZT.JL b h it l k)(e:∀o,h.get? it=some o->h'.get? it=some o):ZT.JL b h' it l k:=by
 cases b with
 |true=>obtain⟨o,q,r⟩:=(show h.IsTupleIter it l k from x);exact(show h'.IsTupleIter it l k from⟨o,e _ q,r⟩)
 |false=>obtain⟨o,q,r⟩:=(show h.IsListIter it l k from x);exact(show h'.IsListIter it l k from⟨o,e _ q,r⟩)
def d9{P:Go}{w:KB}{K:Fg}{elts:uD}{x1}{pos:Pos}{b1 b2:Bool}{a1 a2 z TI TO i1 i2:AD}(ne:[z,TI,TO,i1,i2].Nodup) :
  Turn P w K zAU (nv b1 b2 a1 a2) [z,TI,TO,i1,i2] z (sr b1 b2 a1 a2 z TI TO i1 i2) where
 mem:=by simp
 obj:=fun i h st b hb=>by
  obtain⟨h1,h2,⟨u,v,h3⟩,h4,h5⟩:=st;have hb:b=z\/b=TI\/b=TO\/b=i1\/b=i2:=by simpa using hb
  rcases hb with rfl|rfl|rfl|rfl|rfl
  .exact⟨_,h1,fun v y=>by cases y⟩
  .exact⟨_,h2,fun v y=>by cases y⟩
  .exact⟨_,h3,fun v y=>by cases y⟩
  .exact GX h4
  .exact GX h5
 keep:=fun i h h' st k=>by
  obtain⟨h1,h2,⟨u,v,h3⟩,h4,h5⟩:=st;exact⟨k z As _ h1,k TI As _ h2,⟨u,v,k TO As _ h3⟩,FX h4 fun o e=>k i1 As o e,FX h5 fun o e=>k i2 As o e⟩
 item:=by
  intro X hP hw hK hc i pins s σ H E I hf st hg;subst hP hw hK;obtain⟨xs,x,ys,y,q1,q2,hx,hy⟩:=hg;obtain⟨us,rv1,p1⟩:=q1.raw I;obtain⟨vs,rv2,p2⟩:=q2.raw I;obtain⟨u,hu,ru⟩:=rv1.get hx;obtain⟨v,hv,rv⟩:=rv2.get hy;obtain⟨t1,t2,⟨ta,tb,t3⟩,t4,t5⟩:=st;have e1:∀b∈[z,TI,TO,i1,i2],a1≠b:=fun b hb=>q1.none (hf b hb).1;have e2:∀b∈[z,TI,TO,i1,i2],a2≠b:=fun b hb=>q2.none (hf b hb).1;simp only[List.nodup_cons,List.mem_cons,List.not_mem_nil,or_false,not_or]at ne;obtain⟨⟨n1,n2,n3,n4⟩,⟨n5,n6,n7⟩,⟨n8,n9⟩,n10,_⟩:=ne;have ap:ZT.Apart z TI TO i1 i2 [i1,a1] [i2,a2]:=⟨⟨Ne.symm n1,n5,n6,n7⟩,⟨Ne.symm n2,n8,n9⟩,⟨Ne.symm n3,Ne.symm n4,n10⟩,
   ⟨by simp[n3,Ne.symm (e1 z As)],by simp[n8,Ne.symm (e1 TO As)],by simp[Ne.symm n10,Ne.symm (e1 i2 As)]⟩,⟨by simp[n4,Ne.symm (e2 z As)],by simp[n9,Ne.symm (e2 TO As)],by simp[n10,Ne.symm (e2 i1 As)]⟩⟩
  refine ZT.next_item zCP zCQ ap t1 t2 t3 ⟨t4,p1⟩ ⟨t5,p2⟩ (aD.mp hu).1 (aD.mp hv).1
   fun u' v' h' tk r1 r2 r3 r4 r5 r6 r7 r8 r9=>⟨_,rfl,wpAny_letOwnedTupleGo_zip (s:={s with heap:=h',toks:=tk}) r3 fun h'' z'' sb=>?_⟩
  rw[hu]at r1;rw[hv]at r2;cases r1;cases r2;have keep:∀b o,b ∉ [z,TI,TO,i1,i2]->s.heap.get? b=some o->h''.get? b=some o:=fun b o hb q=>by
   simp only[List.mem_cons,List.not_mem_nil,or_false,not_or]at hb;exact(sb.2 b hb.1).trans (r9 b o hb.1 hb.2.2.1 hb.2.2.2.1 hb.2.2.2.2 q)
  have lt:∀b∈[z,TI,TO,i1,i2],b<s.heap.objs.size:=fun b hb=>by
   have hb:b=z\/b=TI\/b=TO\/b=i1\/b=i2:=by simpa using hb
   rcases hb with rfl|rfl|rfl|rfl|rfl
   .exact aF t1
   .exact aF t2
   .exact aF t3
   .obtain⟨o,e,_⟩:=GX t4;exact aF e
   .obtain⟨o,e,_⟩:=GX t5;exact aF e
  have hTn:H s.heap.objs.size=none:=I.Aw.fresh UF;have hT'':h''.get? s.heap.objs.size=some { cls:=.type "tuple",data:=.seq #[u,v]}:=(sb.2 _ (ao (lt z As))).trans r7;have neT:∀b o,s.heap.get? b=some o->b≠s.heap.objs.size:=fun b o q=>aI (aF q);have F8:∀b o,H b=some o->b ∉ [z,TI,TO,i1,i2]:=fun b o q hb=>by rw[(hf b hb).1]at q;cases q
  refine⟨.ref s.heap.objs.size,upd H s.heap.objs.size zBH,?_,rfl,⟨_,x,y,rfl,hTn,rfl,fun zs hz=>by rw[hz.inj q1];exact hx,fun zs hz=>by rw[hz.inj q2];exact hy⟩,⟨z'',?_,⟨u,v,?_⟩,?_,?_⟩,fun b hb=>?_⟩
  .show Inv X pins σ _ zAy;refine I.step (h':=h'') (g':=s.gens) (d':=s.drawn) (t':=tk) (ch:=[z,TI,TO,i1,i2]) xq vq uO
    (fun b o _ q n=>by rw[AK (neT b o q)];exact n) vc ux uq
    (fun b ps q=>⟨#[],by rw[AK (AW q hTn),q];simp⟩) wF vv yf I.bare
   .obtain⟨_,f1,_,f3,f4,f5⟩:=hf b hb;exact⟨f3,f1,f4,f5⟩
   .obtain⟨o,es,ep,ho,r⟩:=hm;exact⟨o,es,ep,keep _ o xf ho,r⟩
   .by_cases hb:b=s.heap.objs.size
    .subst hb;rw[AU]at q;cases q;exact⟨YE,[u,v],.cons ru (.cons rv .nil),_,hT'',rfl,_,rfl⟩
    .rw[AK hb]at q;refine(I.Aw b o q).Hd xA vM fun c ys r=>by rw[AK (AW r hTn)];exact r
     rcases hc with rfl|hc
     .exact F8 _ _ q
     .exact F8 _ _ hc
  .exact(sb.2 _ (Ne.symm n1)).trans (r9 _ _ (Ne.symm n1) n5 n6 n7 t2)
  .exact(sb.2 _ (Ne.symm n2)).trans r4
  .exact FX r5.1 fun o e=>(sb.2 _ (Ne.symm n3)).trans e
  .exact FX r6.1 fun o e=>(sb.2 _ (Ne.symm n4)).trans e
  .rw[AK (aI (lt b hb))];exact(hf b hb).1
 done:=by
  intro X hP hw hK hc i pins s σ H E I hf st hg;subst hP hw hK;obtain⟨xs,ys,q1,q2,he⟩:=hg;obtain⟨us,rv1,p1⟩:=q1.raw I;obtain⟨vs,rv2,p2⟩:=q2.raw I;obtain⟨t1,t2,⟨ta,tb,t3⟩,t4,t5⟩:=st;have e1:∀b∈[z,TI,TO,i1,i2],a1≠b:=fun b hb=>q1.none (hf b hb).1;have e2:∀b∈[z,TI,TO,i1,i2],a2≠b:=fun b hb=>q2.none (hf b hb).1;simp only[List.nodup_cons,List.mem_cons,List.not_mem_nil,or_false,not_or]at ne;obtain⟨⟨n1,n2,n3,n4⟩,⟨n5,n6,n7⟩,⟨n8,n9⟩,n10,_⟩:=ne;have ap:ZT.Apart z TI TO i1 i2 [i1,a1] [i2,a2]:=⟨⟨Ne.symm n1,n5,n6,n7⟩,⟨Ne.symm n2,n8,n9⟩,⟨Ne.symm n3,Ne.symm n4,n10⟩,
   ⟨by simp[n3,Ne.symm (e1 z As)],by simp[n8,Ne.symm (e1 TO As)],by simp[Ne.symm n10,Ne.symm (e1 i2 As)]⟩,⟨by simp[n4,Ne.symm (e2 z As)],by simp[n9,Ne.symm (e2 TO As)],by simp[n10,Ne.symm (e2 i1 As)]⟩⟩
  have he':i=us.length\/(i<us.length/\i=vs.length):=by rw[<-rv1.length,<-rv2.length];exact he
  refine ZT.next_end zCP zCQ ap t1 t2 t3 ⟨t4,p1⟩ ⟨t5,p2⟩ he' fun h' tk kp=>⟨rfl,?_⟩;have keep:∀b o,b ∉ [z,TI,TO,i1,i2]->s.heap.get? b=some o->h'.get? b=some o:=fun b o hb q=>by
   simp only[List.mem_cons,List.not_mem_nil,or_false,not_or]at hb;exact kp b o hb.1 hb.2.2.1 hb.2.2.2.1 hb.2.2.2.2 q
  have F8:∀b o,H b=some o->b ∉ [z,TI,TO,i1,i2]:=fun b o q hb=>by rw[(hf b hb).1]at q;cases q
  show Inv X pins σ _ zBI;refine I.step (h':=h') (g':=s.gens) (d':=s.drawn) (t':=tk) (ch:=[z,TI,TO,i1,i2]) xq vq uO
    (fun b o _ q n=>n) vc (fun b ys q=>q) (fun b o u q=>q)
    (fun b ps q=>⟨#[],by rw[q];simp⟩) wF vv yf I.bare
  .obtain⟨_,f1,_,f3,f4,f5⟩:=hf b hb;exact⟨f3,f1,f4,f5⟩
  .obtain⟨o,es,ep,ho,r⟩:=hm;exact⟨o,es,ep,keep _ o xf ho,r⟩
  .refine(I.Aw b o q).Hd xA (fun c r=>r) fun c ys r=>r;rcases hc with rfl|hc
   .exact F8 _ _ q
   .exact F8 _ _ hc
 self:=fun _ _ _ _ _ st h=>wpAny_pyIter_zip st.1 h
def rz(T:TA):TI:=fun σ H R=>T σ H fun vs g=>∃(b1 b2:Bool) (a1 a2:AD),vs=[.ref a1,.ref a2]/\(∃xs,B9 b1 g a1 xs)/\(∃ys,B9 b2 g a2 ys)/\R (nv b1 b2 a1 a2) g
def WA{X:Cx}{elts:uD}{x1}{g:Pos}{a b:Expr}{ta:TA}{p pos:Pos}(hg:Gl X "zip")(hm:xn)(ha:PA X [a,b] ta)(hs:starEach [a,b] X.env=[Op,No]:=by rfl)(T:starEach [b] X.env=[No]:=by rfl):PI X zBa (.Call (.Name "zip" p) [a,b] [] pos) (rz ta):=by
 intro pins s σ H R I h;refine Call_ (GQ I hg hm boot_zip (aj (BV TD fun us s1 ⟨vs,H1,Y,r1,q1⟩=>?_) (by rw[hs,T]) (by rw[T];rfl)));obtain⟨b1,b2,l1,l2,e,⟨xs,h1⟩,⟨ys,h2⟩,q⟩:=q1;subst e;cases r1 with
 |cons r Z=>
  cases Z with
  |cons r' Z=>
   cases Z;cases r;cases r';obtain⟨us,_,p1⟩:=h1.raw Y;obtain⟨vs,_,p2⟩:=h2.raw Y;refine ZT.WR p1 p2 fun h' z1 z2 z3 z4 z5 hk=>wpAny_pyIter_zip z1 ?_;have I2:Inv X pins σ H1 zC:=Y.kept (t':=s1.toks) hk;refine⟨_,[s1.heap.objs.size+4,s1.heap.objs.size+2,s1.heap.objs.size+3,s1.heap.objs.size,s1.heap.objs.size+1],_,_,H1,rfl,I2,d9 ?_,⟨z1,z2,⟨_,_,z3⟩,z4,z5⟩,fun b hb=>?_,q⟩
   .simp
   have U:s1.heap.objs.size<=b:=by
    have hb2:b=s1.heap.objs.size+4\/b=s1.heap.objs.size+2\/b=s1.heap.objs.size+3\/b=s1.heap.objs.size\/b=s1.heap.objs.size+1:=by simpa using hb
    rcases hb2 with h|h|h|h|h<;>rw[h]<;>first|exact aH _|exact Nat.le_add_right _ _
   exact Y.Qh U (Y.Aw.fresh U)
section
variable{X:Cx}
def iR:DJ X zBY (fun x y H Q=>∃b c,x=.bl b/\y=.bl c/\Q (.bl (!(b==c))) H):=by
 intro pins s σ H x y v u Q I T g h;obtain⟨b,c,rfl,rfl,q⟩:=h;cases T;cases g;exact aA (Bd I q (by cases b<;>cases c<;>rfl))
end
def Xc(K:Fg)(a:AD):It :=
 ⟨fun i H=>∃xs x,Ar K H a xs/\xs[i]? = some x,fun i H v H'=>∃p x,v=.ref p/\H p=none/\H'=upd H p (.tup [.int i,x])/\∀xs,Ar K H a xs->xs[i]? = some x,fun i H=>∃xs,Ar K H a xs/\xs.length=i⟩
def Yk{P:Go}{w:KB}{K:Fg}{elts:uD}{x1}{pos:Pos}(a e it:AD)(hne:e≠it) :
  Turn P w K zAU (Xc K a) [e,it] e (fun i h=>(∃old,IsEnum h e it (i:Nat) old)/\h.IsListIter it a i) where
 mem:=by simp
 obj:=fun i h st b hb=>by
  rcases aN.mp hb with rfl|hb
  .obtain⟨⟨old,q⟩,_⟩:=st;exact⟨_,q,fun v z=>by cases z⟩
  .have e2:b=it:=by simpa using hb
   subst e2;obtain⟨_,o,q,c,d⟩:=st;exact⟨o,q,fun v z=>by rw[d]at z;cases z⟩
 keep:=fun i h h' st k=>by
  obtain⟨⟨old,q⟩,o,q2,r⟩:=st;exact⟨⟨old,k e As _ q⟩,o,k it As _ q2,r⟩
 item:=by
  intro X hP hw hK hc i pins s σ H E I hf st hg;subst hP hw hK;obtain⟨xs,x,hq,hx⟩:=hg;obtain⟨its,rv,pL,hz⟩:=I.list hq;have p:=pL.isList;obtain⟨u,hu,ru⟩:=rv.get hx;obtain⟨⟨old,he⟩,hit⟩:=st;have hai:a≠it:=fun z=>by
   obtain⟨o,e1,c1,_⟩:=p;obtain⟨o2,e2,c2,_⟩:=hit;rw[z,e2]at e1;cases e1;rw[c1]at c2;exact absurd c2 AT
  have hae:a≠e:=fun z=>by
   obtain⟨o,e1,c1,_⟩:=p;rw[z,he]at e1;cases e1;exact absurd (show Value.type "enumerate" = Value.type "list" from c1) AT
  have hlt:i<its.length:=(aD.mp hu).1;have hE0:=hf e As;have hI0:=hf it As;refine wpAny_pyNext_enum_itemD zDQ he ⟨hit,p⟩ (by simpa using hlt) hne (by simp[hne,Ne.symm hae]) fun y h' tk hy ho hs' hT hsz hk=>⟨_,rfl,wpAny_letOwnedTupleGo_enum (s:={s with heap:=h',toks:=tk+1}) ho fun h'' he'' sb=>?_⟩;have hyu:y=u:=by
   have hy:its[i]? = some y:=by simpa using hy
   rw[hu]at hy;exact(aw hy).symm
  subst hyu;have keep:∀b o,b≠e->b≠it->s.heap.get? b=some o->h''.get? b=some o:=fun b o h1 h2 q=>(sb.2 b h1).trans (hk b o h1 h2 q);have hTe:s.heap.objs.size≠e:=ao (aF he);have hTi:s.heap.objs.size≠it:=let⟨_,q,_⟩:=hit;ao (aF q);have hT'':h''.get? s.heap.objs.size=some { cls:=.type "tuple",data:=.seq #[.int i tk,y]}:=(sb.2 _ hTe).trans hT;have hTn:H s.heap.objs.size=none:=I.Aw.fresh UF;have neT:∀b o,s.heap.get? b=some o->b≠s.heap.objs.size:=fun b o q=>aI (aF q);have F8:∀b o,H b=some o->b≠e/\b≠it:=fun b o q=>⟨(fun z=>by rw[z,hE0.1]at q;cases q),(fun z=>by rw[z,hI0.1]at q;cases q)⟩;refine⟨.ref s.heap.objs.size,upd H s.heap.objs.size (.tup [.int i,x]),?_,rfl,⟨_,x,rfl,hTn,rfl,fun ys hy=>by rw[I.V5 hy hq];exact hx⟩,⟨⟨_,by simpa using he''⟩,?_⟩,fun b hb=>?_⟩
  .show Inv X pins σ _ zAf;refine I.step (h':=h'') (g':=s.gens) (d':=s.drawn) (t':=tk+1) (ch:=[e,it]) xq (fun b o _ _ hc q _=>keep b o LW LW q) zDq
    (fun b o _ q n=>by rw[AK (neT b o q)];exact n) (fun b o hc q=>⟨o,keep b o LW LW q⟩) ux uq
    (fun b ps q=>⟨#[],by rw[AK (AW q hTn),q];simp⟩) (fun b _ o hc _ q=>keep b o LW LW q) vv yf I.bare
   .rcases aN.mp hb with rfl|hb
    .exact⟨hE0.2.2.2.1,hE0.2.1,hE0.2.2.2.2.1,hE0.2.2.2.2.2⟩
    .have e2:b=it:=by simpa using hb
     subst e2;exact⟨hI0.2.2.2.1,hI0.2.1,hI0.2.2.2.2.1,hI0.2.2.2.2.2⟩
   .obtain⟨o,es,ep,ho,r⟩:=hm;exact⟨o,es,ep,keep _ o (Ne.symm hE0.2.1) (Ne.symm hI0.2.1) ho,r⟩
   .by_cases hb:b=s.heap.objs.size
    .subst hb;rw[AU]at q;cases q;exact⟨YE,[.int i tk,y],.cons ⟨tk,rfl⟩ (.cons ru .nil),_,hT'',rfl,_,rfl⟩
    .rw[AK hb]at q;refine(I.Aw b o q).Hd (fun c v hc r=>keep c v ?_ ?_ r) vM fun c ys r=>by rw[AK (AW r hTn)];exact r
     .rcases hc with rfl|hc
      .exact(F8 _ _ q).1
      .exact(F8 _ _ hc).1
     .rcases hc with rfl|hc
      .exact(F8 _ _ q).2
      .exact(F8 _ _ hc).2
  .obtain⟨⟨o,q,r⟩,_⟩:=hs';exact⟨o,(sb.2 it (Ne.symm hne)).trans q,r⟩
  .rcases aN.mp hb with rfl|hb
   .rw[AK (Ne.symm hTe)];exact hE0.1
   .have e2:b=it:=by simpa using hb
    subst e2;rw[AK (Ne.symm hTi)];exact hI0.1
 done:=by
  intro X hP hw hK hc i pins s σ H E I hf st hg;subst hP hw hK;obtain⟨xs,hq,hx⟩:=hg;obtain⟨its,rv,pL,hz⟩:=I.list hq;have p:=pL.isList;obtain⟨⟨old,he⟩,hit⟩:=st;have hai:a≠it:=fun z=>by
   obtain⟨o,e1,c1,_⟩:=p;obtain⟨o2,e2,c2,_⟩:=hit;rw[z,e2]at e1;cases e1;rw[c1]at c2;exact absurd c2 AT
  have hl:its.length=i:=by rw[<-rv.length];exact hx
  subst hl;obtain⟨f0,f1,f2,f3,f4,f5⟩:=hf it As;exact wpAny_pyNext_enum_endD zDQ he ⟨hit,p⟩ fun h' eb=>⟨rfl,I.turned (t':=s.toks) (fun b o hb q=>eb b o hb q) f0 f1 f3 f4 f5⟩
 self:=fun _ _ _ _ _ st h=>by
  obtain⟨⟨old,he⟩,_⟩:=st;exact wpAny_pyIter_enum he h
def lQ(K:Fg)(T:TA):TI:=fun σ H R=>T σ H fun vs g=>∃a,vs=[.ref a]/\(∃xs,Ar K g a xs)/\R (Xc K a) g
def WX{X:Cx}{elts:uD}{x1}{g:Pos}{a:Expr}{ta:TA}{p pos:Pos}(hg:Gl X "enumerate")(hm:X.mg "enumerate" = none)(ha:PA X [a] ta)(hs:starEach [a] X.env=[Op]:=by rfl):PI X zBa xU (lQ X.K ta):=by
 intro pins s σ H R I h;refine Call_ zDE;obtain⟨t,e,⟨xs,hq⟩,q⟩:=q1;subst e;cases r1 with
 |cons r rr=>
  cases rr;cases r;obtain⟨Y,rv,p',hz⟩:=U.list hq;refine call_enumerate_list (show s1.heap.IsList t Y.toArray from p'.isList) fun h' he hit hsz hk=>wpAny_pyIter_enum he ?_;have I2:Inv X pins σ H1 zC:=U.kept (t':=s1.toks) hk;have hn:s1.heap.objs.size+1≠s1.heap.objs.size:=by lia
  refine⟨s1.heap.objs.size+1,[s1.heap.objs.size+1,s1.heap.objs.size],_,_,H1,rfl,I2,Yk t _ _ hn,⟨⟨_,he⟩,hit⟩,fun b hb=>?_,q⟩;have T:s1.heap.objs.size<=b:=by
   have Z:b=s1.heap.objs.size+1\/b=s1.heap.objs.size:=by simpa using hb
   rcases Z with z|z
   .rw[z];exact Nat.le_succ _
   .rw[z];exact aH _
  exact U.Qh T (U.Aw.fresh T)
def Zc{K:Fg}{a:AD}{xs:uI}{g:TG}{tb:TS}{D:Ends}{σ:St}{H:Hp}(Pv:Nat->St->Hp->Prop)(h0:Pv 0 σ H)(hl:∀i σ H,i<=xs.length->Pv i σ H->Ar K H a xs) (hs:∀i x σ H,xs[i]? = some x->Pv i σ H->∀p,H p=none->g vS σ (upd H p wc) fun T Z=>tb zCq T Z)(hd:yU):∃W:Nat->Nat->St->Hp->Prop,(∃m,W 0 m σ H)/\∀i m σ H,W i m σ H ->((Xc K a).stop i H/\D.nx σ H)\/((Xc K a).go i H/\∃N:St->Hp->Prop,zCe/\∀x H',(Xc K a).Ft i H x H'->g x σ H' fun T Z=>tb uZ T Z):=by
 refine⟨fun i m σ H=>m=xs.length-i/\i<=xs.length/\Pv i σ H,⟨xs.length,by simp,Nat.zero_le _,h0⟩,?_⟩;rintro i m σ H ⟨rfl,hi,p⟩;have q:=hl i σ H hi p;by_cases Y:i<xs.length
 .refine .inr ⟨⟨xs,xs[i],q,by simp[Y]⟩,Pv On,fun U H' p'=>⟨xs.length-On,by lia,rfl,Y,p'⟩,fun x H' y=>?_⟩;obtain⟨pp,x',rfl,hn,rfl,y⟩:=y;exact hs i x' σ _ (y xs q) p pp hn
 .have e:i=xs.length:=by lia
  subst e;exact .inl ⟨⟨xs,q,rfl⟩,hd σ H p⟩
def lJ(i:Expr):Prop:=∀g T,subscripted i false g T=operate [g,T] (getItem g T)
def iT{prog:Go}{w:KB}{A:OR}{E:tq}{s:SD}{env:Env}{value slice:Expr}{pos:Pos}{T id:wN}{Q:tq} (hl:typeLookup (.type T) "__getitem__" = pure (some wT))(hs:lJ slice) (h:wpAny AS A (eval value env) (fun o Z=>wpAny AS A (eval slice env) (fun i g=>g.TypeIs o T/\wpAny AS A (getItem o i) Q E g) E Z) E s):wpAny AS A (eval (.Subscript value slice pos) env) Q E s:=by
 refine Subscript_ (aW h (fun o Z h₁=>aW h₁ (fun i g U=>?_) fun _ _ x=>x) fun _ _ x=>x);obtain⟨hT,U⟩:=U;unfold subscriptTail;refine Wb ?_;rw[getitemInPython_of_ne hT.not_modules];refine Wb (bT hT hl ?_);have fin:wpAny AS A (subscripted slice false o i) (fun r Y=>wpAny AS A (letTemporaryGo value o r>>=fun _=>pure r) Q E Y) E g:=by
  rw[hs o i];exact wpAny_operating (aW U (fun r Y h₃=>Wb (wpAny_letTemporaryGo (aA h₃))) fun _ _ x=>x)
 first
  |exact aA (Wb fin)
  |exact Wb (aA (Wb fin))
  |exact Wb fin
end L2
namespace L2
open PySem PySem.Spec PyProof.Rows
def Inv.many{X:Cx}{pins:Cl}{σ:St}{H H':Hp}{s:SD}{h':Heap}{t':Nat}(I:BY)(k:wZ)(g:∀b,b<s.heap.objs.size->H' b=H b)(Aw:zBP):Inv X pins σ H' u0:=by
 have lt:∀b o,H b=some o->b<s.heap.objs.size:=fun b o e=>(I.Aw b o e).lt;have up:∀b o,H b=some o->H' b=some o:=fun b o e=>by rw[g b (lt b o e)];exact e
 show Inv X pins σ H' {s with heap:=h',gens:=s.gens,drawn:=s.drawn,toks:=t'};refine I.step (h':=h') (ch:=[]) (fun b hb=>nomatch hb) (fun b o _ _ _ e _=>k b o e) (fun b o _ _ _ e _=>⟨o.slots,k b o e⟩) (fun b o _ e n=>by rw[g b u8];exact n) (fun b o _ e=>⟨o,k b o e⟩)
  (fun b xs e=>up b _ e) (fun b o u e=>up b _ e) (fun b ps e=>⟨#[],by rw[up b _ e];simp⟩) (fun b _ o _ _ e=>k b o e) vv Aw I.bare
 obtain⟨o,es,ep,T,r⟩:=hm;exact⟨o,es,ep,k _ o T,r⟩
def T7:∀as:List AD,Vals zBd (as.map Value.ref)
 |[]=>.nil
 |a::as=>.cons rfl (T7 as)
end L2
namespace TH
open PySem PyProof.Rows PySem.SeqAt
def Kp:Tr->List Int
 |.nil=>[]
 |.cons b r=>reduceHash (Builtin.Tuple.tupleHashOf (Kp b))::Kp r
def BX(t:Tr):Int:=reduceHash (Builtin.Tuple.tupleHashOf (Kp t))
section
variable{prog:Go}{w:KB}{E:tq}
def IsTuple.ty{h:Heap}{a:AD}{x:xP}{s:SD}(e:s.heap=h)(k:h.IsTuple a x):s.TypeIs Jz "tuple" := by
 subst e;obtain⟨o,g,T,_⟩:=k;exact⟨o,g,T⟩
def X8(prog:Go)(w:KB)(E:tq)(t:Tr):Prop:=∀(us:ST) (A:OR) (s:SD) (b:Array Int) (Q:Array Int->SD->Prop),Vs s.heap t us->A.units+t.deep<=cLine ->
 (∀tk g,g.toList=b.toList++Kp t->Q g {s with toks:=tk})->wpAny AS A wS Q E s
def Pn{t:Tr}(row:X8 prog w E t){a:AD}{g:tm}{A:OR}{s:SD}{Q:Int->SD->Prop}(U:yA)(h2:Vs s.heap t g)(hu:ul) (h:∀tk,Q (BX t) {s with toks:=tk}):wpAny AS A (pyHash Jz) Q E s:=by
 have Z:=IsTuple.ty rfl U;obtain⟨o,Y,hc,n,hd⟩:=id U;refine PySem.W.pyHash_slot (T := "tuple") Z F.slot_tuple_hash F.entry_tuple_hash (F.args_tuple_hash_1 _) (beq_builtin_none _) (.inr AC) ?_;show wpAny _ _ (Builtin.Tuple.tupleItemsOf Jz>>=_) _ _ s;refine Wb (wpAny_tupleItemsOf Y hd ?_);refine Wb ?_;rw[<-Array.forIn_toList];refine row g A.in1 s #[] _ h2 zAW fun tk b hb=>?_;show wpAny _ _ (retInt (Builtin.Tuple.tupleHashOf b.toList)) _ _ _;rw[hb];exact Wb (wpAny_mkInt (aA ⟨_,_,rfl,h _⟩))
def Qj:∀t:Tr,X8 prog w E t
 |.nil=>fun us A s b Q e _ h=>by rw[Vs]at e;subst e;exact aA (h s.toks b (by simp[Kp]))
 |.cons c r=>fun us A s b Q e hu h=>by
  rw[Vs]at e;obtain⟨a,T,rest,rfl,Z,Y,U⟩:=e;have hd:(Tr.cons c r).deep=max (c.deep+1) r.deep:=rfl;rw[List.forIn_cons];refine Wb (Wb (Pn (Qj c) Z Y AC fun tk=>?_));refine Wb (aA WF);exact Qj r rest A _ _ Q U AC fun g b' hb=>h g b' (by simp[hb,Kp,BX])
def iu{t:Tr}{a:AD}{g:tm}{A:OR}{s:SD}{Q:Int->SD->Prop}(Y:yA)(U:Vs s.heap t g)(T:ul) (h:∀tk,Q (BX t) {s with toks:=tk}):wpAny AS A (pyHash Jz) Q E s:=Pn (Qj t) Y U T h
def Good(h:Heap)(n:Nat)(v:VL):Prop:=∃a g t,v=.ref a/\h.IsTuple a g.toArray/\Vs h t g/\t.deep<n
def NY{h:Heap}:∀ {t:Tr} {us:ST} {n:Nat},Vs h t us->t.deep<=n->∀v∈us,Good h n v
 |.nil,us,n,e,_,v,g=>by rw[Vs]at e;subst e;cases g
 |.cons c r,us,n,e,hd,v,g=>by
  rw[Vs]at e;obtain⟨a,T,rest,rfl,Z,Y,U⟩:=e;rw[Tr.deep]at hd;rcases aN.mp g with rfl|g
  .exact⟨a,T,c,rfl,Z,Y,by lia⟩
  .exact NY U AC v g
def WU:∀(n:Nat) {v:VL} {A:OR} {s:SD} {Q:t9},Good s.heap n v->Q true s->wpAny AS A (hashByValue n v) Q E s
 |0,v,A,s,Q,⟨_,_,_,_,_,_,z⟩,_=>absurd z yi
 |n+1,v,A,s,Q,⟨a,T,t,e,h1,h2,hd⟩,h=>by
  subst e;have hT:=IsTuple.ty rfl h1;obtain⟨o,ho,hc,k,Z⟩:=id h1;unfold hashByValue;refine Wb (bT hT F.slot_tuple_hash.lookup ?_);refine Wb (aU ho Z ?_);refine Wb ?_;show wpAny _ _ (forIn T.toArray _ _) _ _ s;rw[<-Array.forIn_toList];refine wpAny_forIn_list _ u9 _ ?_ ?_ _ _ ⟨rfl,rfl,NY h2 AC⟩
  .rintro v rest r s' ⟨Y,rfl,g⟩;refine Wb (WU n (g v ae) ?_);simp only[Bool.not_true,Bool.false_eq_true,if_false];exact aA ⟨rfl,rfl,fun u U=>g u (aS _ U)⟩
  .rintro⟨r1,r2⟩ s' ⟨Y,rfl,_⟩;simp only at Y;subst Y;exact aA h
def quiet:∀(n:Nat) {v:VL} {A:OR} {s:SD} {Q:t9},Good s.heap n v->Q true s->wpAny AS A (eqIsQuiet n v) Q E s
 |0,v,A,s,Q,⟨_,_,_,_,_,_,z⟩,_=>absurd z yi
 |n+1,v,A,s,Q,⟨a,T,t,e,h1,h2,hd⟩,h=>by
  subst e;have hT:=IsTuple.ty rfl h1;obtain⟨o,ho,hc,k,Z⟩:=id h1;unfold eqIsQuiet;refine Wb (bT hT F.slot_tuple_eq.lookup ?_);show wpAny _ _ (isInstance Jz FS>>=_) _ _ s;refine Wb (wpAny_isInstance hT isSubtype_tuple_tuple ?_);simp only[Bool.not_true,Bool.false_eq_true,if_false];refine Wb (aU ho Z ?_);refine Wb ?_;show wpAny _ _ (forIn T.toArray _ _) _ _ s;rw[<-Array.forIn_toList];refine wpAny_forIn_list _ u9 _ ?_ ?_ _ _ ⟨rfl,rfl,NY h2 AC⟩
  .rintro v rest r s' ⟨Y,rfl,g⟩;refine Wb (quiet n (g v ae) ?_);simp only[Bool.not_true,Bool.false_eq_true,if_false];exact aA ⟨rfl,rfl,fun u U=>g u (aS _ U)⟩
  .rintro⟨r1,r2⟩ s' ⟨Y,rfl,_⟩;simp only at Y;subst Y;exact aA h
def Qs:∀(n:Nat) {v:VL} {A:OR} {s:SD} {Q:t9},Good s.heap n v->Q false s->wpAny AS A (ofAClassStatement n v) Q E s
 |0,v,A,s,Q,⟨_,_,_,_,_,_,z⟩,_=>absurd z yi
 |n+1,v,A,s,Q,⟨a,its,t,e,Z,h2,hd⟩,h=>by
  subst e;have hT:=IsTuple.ty rfl Z;obtain⟨o,ho,hc,k,Y⟩:=id Z;unfold ofAClassStatement;refine Wb (wpAny_typeOf hT ?_);have ht:("tuple" == "tuple")=true:=by rfl
  dsimp only;rw[if_pos ht];refine Wb WF;simp only[Bool.not_true,Bool.false_eq_true,if_false];refine Wb (aU ho Y ?_);refine Wb ?_;rw[<-Array.forIn_toList];refine wpAny_forIn_list _ u9 _ ?_ ?_ _ _ ⟨rfl,rfl,NY h2 AC⟩
  .rintro v rest r s' ⟨U,rfl,g⟩;refine Wb (Qs n (g v ae) ?_);simp only[Bool.false_eq_true,if_false];exact aA ⟨rfl,rfl,fun u T=>g u (aS _ T)⟩
  .rintro⟨r1,r2⟩ s' ⟨U,rfl,_⟩;simp only at U;subst U;exact aA h
def dj{x:VL}{l:tm}{A:OR}{s:SD}{Q:t9}(hx:Good s.heap 8 x)(hl:∀y∈l,Good s.heap 8 y)(h:Q false s):wpAny AS A (searchCouldBeSeen x l) Q E s:=by
  unfold searchCouldBeSeen
  refine Wb ?_
  refine wpAny_forIn_list _ (fun rest r s'=>r.1=none/\s'=s/\∀v∈rest,Good s.heap 8 v) _ ?_ ?_ _ _ ⟨rfl,rfl,hl⟩
  . rintro v rest r s' ⟨hr,rfl,hall⟩
    have go:∀b:Bool,wpAny AS A (if b=true then pure (ForInStep.yield (none,())) else do
        let q <-eqIsQuiet 8 x
        if(!q)=true then pure wW else do
          let q <-eqIsQuiet 8 v
          if(!q)=true then pure wW else do
            let q <-ofAClassStatement 8 x
            if q=true then pure wW else do
              let q <-ofAClassStatement 8 v
              if q=true then pure wW else pure (ForInStep.yield (none,())))
        (fun st s''=>match st with
          |ForInStep.yield r=>r.1=none/\s''=s'/\∀v∈rest,Good s'.heap 8 v
          |ForInStep.done r=>False) E s':=fun b=>by
      cases b with
      |true=>rw[if_pos rfl];exact aA ⟨rfl,rfl,fun u hu'=>hall u (aS _ hu')⟩
      |false=>
        rw[if_neg aM]
        refine Wb (quiet 8 hx ?_)
        simp only[Bool.not_true,Bool.false_eq_true,if_false]
        refine Wb (quiet 8 (hall v ae) ?_)
        simp only[Bool.not_true,Bool.false_eq_true,if_false]
        refine Wb (Qs 8 hx ?_)
        simp only[Bool.false_eq_true,if_false]
        refine Wb (Qs 8 (hall v ae) ?_)
        simp only[Bool.false_eq_true,if_false]
        exact aA ⟨rfl,rfl,fun u hu'=>hall u (aS _ hu')⟩
    refine aW (go _) (fun st s'' z=>?_) fun _ _ z=>z
    cases st with
    |yield r=>exact z
    |done r=>exact z.elim
  . rintro⟨r1,r2⟩ s' ⟨hr,rfl,_⟩
    simp only at hr
    subst hr
    exact aA h
end
end TH
namespace TH
open PySem PyProof.Rows PySem.SeqAt
abbrev ES:=Array (Int×Tr)
def Pk(g:ES)(i:Nat):Int:=(g[i]?.map To).getD 0
def Yt(g:ES)(t:yk)(x:Tr)(h:Int):Option (Option Nat) :=
 if t.gaveWay then none else
 match t.probe (Pk g) h yD with
 |some (.empty j none)=>some (some j)
 |some (.candidate _ i _)=>match g[i]? with
  |some (_,y)=>if y=x then some none else none
  |none=>none
 |_=>none
def JG(st:yP)(x:Tr):Option (ES×SetTable) :=
 if(st.2.fits st.1.size&&decide (st.1.size<=1000)&&st.2.plain)=false then none else
 match Yt st.1 st.2 x (BX x) with
 |none=>none
 |some none=>some st
 |some (some slot)=>
  if(st.2.put slot).1.tooFull=false then some (SetTable.insertAt st.1 (st.2.put slot).2 xt,(st.2.put slot).1) else
  if((st.2.put slot).1.fits (SetTable.insertAt st.1 (st.2.put slot).2 xt).size&&decide (SetTable.sizeAbove (SetTable.grown (st.1.size+1))<=100000))=false then none else
  match (st.2.put slot).1.relaid ((SetTable.insertAt st.1 (st.2.put slot).2 xt).map To) (SetTable.grown (st.1.size+1)) with
  |none=>none
  |some (g,order)=>
   if(order.filterMap zDr).size=(SetTable.insertAt st.1 (st.2.put slot).2 xt).size then
    some (order.filterMap zDr,g) else none
def Qc(G:xG)(h:Heap)(p:Int×VL)(q:Int×Tr):Prop:=p.1=q.1/\q.2.deep<8/\G p.2 q.2/\∃a g,p.2=.ref a/\h.IsTuple a g.toArray/\Vs h q.2 g
abbrev EO(G:xG)(h:Heap)(ev:ad)(g:ES):Prop:=Paired (Qc G h) ev.toList g.toList
variable{G:xG}
section
variable{α β:Type}{F:zBV}
def Paired.get:∀ {l:mu} {m:zAe},Paired F l m->∀ {i:Nat} {y:β},m[i]? = some y->∃x,l[i]? = some x/\F x y
 |_,_,.nil,i,y,h=>by simp at h
 |_,_,.cons g r,0,y,h=>by simp at h;subst h;exact⟨_,rfl,g⟩
 |_,_,.cons g r,i+1,y,h=>Paired.get r (by simpa using h)
def Paired.none:∀ {l:mu} {m:zAe},Paired F l m->∀ {i:Nat},m[i]? = Option.none->l[i]? = Option.none:=fun {l m} r i h=>by
 have:=r.length;rw[List.getElem?_eq_none_iff]at h ⊢
 lia
def Paired.app{T:mu}{g:zAe}(k:Paired F T g):∀ {l:mu} {m:zAe},Paired F l m->Paired F (l++T) (m++g)
 |_,_,.nil=>k
 |_,_,.cons h r=>.cons h (Paired.app k r)
def Paired.take:∀ {l:mu} {m:zAe} (n:Nat),Paired F l m->Paired F (l.take n) (m.take n)
 |_,_,0,_=>by simpa using Paired.nil
 |_,_,n+1,.nil=>by simpa using Paired.nil
 |_,_,n+1,.cons h r=>.cons h (Paired.take n r)
def Paired.drop:∀ {l:mu} {m:zAe} (n:Nat),Paired F l m->Paired F (l.drop n) (m.drop n)
 |_,_,0,h=>h
 |_,_,n+1,.nil=>by simpa using Paired.nil
 |_,_,n+1,.cons h r=>Paired.drop n r
def Paired.pick{l:mu}{m:zAe}(r:Paired F l m):∀(o:List Nat),Paired F (o.filterMap (l[·]?)) (o.filterMap (m[·]?))
 |[]=>.nil
 |i::o=>by
  rw[List.filterMap_cons,List.filterMap_cons];cases e:m[i]? with
  |none=>rw[Paired.none r e];exact Paired.pick r o
  |some y=>
   obtain⟨x,g,h⟩:=Paired.get r e;rw[g];exact .cons h (Paired.pick r o)
def Paired.imp{G:zBV}(h:∀a b,F a b->G a b):∀ {l:mu} {m:zAe},Paired F l m->Paired G l m
 |_,_,.nil=>.nil
 |_,_,.cons k r=>.cons (h _ _ k) (Paired.imp h r)
end
def KH{α:Type}(xs:Array α)(p:Nat)(x:α):(SetTable.insertAt xs p x).toList=xs.toList.take p++x::xs.toList.drop p:=by
 unfold SetTable.insertAt;simp[List.extract];rw[List.take_of_length_le As]
def EO.fst{h:Heap}{ev:ad}{g:ES}(r:EO G h ev g):ev.map To=g.map To:=by
 have key:∀ {l:zd} {m:ze},Paired (Qc G h) l m->l.map To=m.map To:=fun r=>by
  induction r with
  |nil=>rfl
  |cons k _ T=>rw[List.map_cons,List.map_cons,T,k.1]
 apply Array.toList_inj.mp
 simpa using key r
def EO.size{h:Heap}{ev:ad}{g:ES}(r:EO G h ev g):ev.size=g.size:=by simpa using Paired.length r
def EO.Pk{h:Heap}{ev:ad}{g:ES}(r:EO G h ev g)(i:Nat):(ev[i]?.map To).getD 0=Pk g i:=by
 have:=bO (fun a:Array Int=>a[i]?) r.fst;simp only[Array.getElem?_map]at this;rw[TH.Pk,this]
def EO.good{h:Heap}{ev:ad}{et:ES}(r:EO G h ev et):∀p∈ev.toList,Good h 8 p.2:=by
 have key:∀ {l:zd} {m:ze},Paired (Qc G h) l m->∀p∈l,Good h 8 p.2:=fun r=>by
  induction r with
  |nil=>intro p g;cases g
  |cons k _ U=>
   intro p g;rcases aN.mp g with rfl|g
   .obtain⟨_,hd,_,a,T,e,Z,Y⟩:=k;exact⟨a,T,_,e,Z,Y,hd⟩
   .exact U p g
 exact key r
def EO.at{h:Heap}{ev:ad}{Y:ES}(r:EO G h ev Y){i:Nat}{z:Int}{y:Tr}(e:Y[i]? = some (z,y)):∃a g,ev[i]? = some (z,.ref a)/\h.IsTuple a g.toArray/\Vs h y g/\y.deep<8:=by
 obtain⟨⟨Z,v⟩,h1,T,hd,_,a,g,U,h3,h4⟩:=Paired.get r vH;have T:Z=z:=T;have U:v=.ref a:=U;subst T U;exact⟨a,g,by simpa using h1,h3,h4,hd⟩
def EO.keeps{h h':Heap}{ev:ad}{Y:ES}(k:Pc)(r:EO G h ev Y):EO G h' ev Y :=
 Paired.imp (fun p q ⟨e,hd,hg,a,g,e2,h1,h2⟩=>⟨e,hd,hg,a,g,e2,(by obtain⟨o,Z,U,n,T⟩:=h1;exact⟨o,k _ _ Z U,U,n,T⟩),h2.keeps k⟩) r
section
variable{prog:Go}{w:KB}{E:tq}{A:OR}{s:SD}{a xa:AD}{o:Obj}{ev:ad}{et:ES}{ep:Nat}{t:yk}{x:Tr}{its:tm}{h:Int}
def Zz{r:Option Nat}{Q:SetFound->SD->Prop}(ho:s.heap.get? a=some o)(hd:o.data=.set ev ep t)(hf:t.fits et.size=true)(R:EO G s.heap ev et)(U:s.heap.IsTuple xa its.toArray)(T:Vs s.heap x its)(hxd:x.deep<8) (hu:A.units+8<cLine)(g:Yt et t x h=some r)(h0:r=none->Q (.there none) s)(h1:∀j,r=some j->Q (.free j false) s):wpAny AS A (setSearch a (.ref xa) h true) Q E s:=by
 have Y:t.fits ev.size=true:=by rw[R.size];exact hf
 unfold Yt at g;by_cases hg:t.gaveWay=true
 .rw[if_pos hg]at g;cases g
 rw[if_neg hg]at g;unfold setSearch;rw[show(100000:Nat)=99999+1 from rfl,setSearchFrom];refine Wb (bK ho hd Y ?_);dsimp only;rw[if_neg hg];have hpr:∀f:Nat->Int,(∀i,f i=Pk et i)->t.probe f h ((none:Option SetTable.Probe).getD yD)=t.probe (Pk et) h yD:=fun f hf=>by
  rw[show f=Pk et from funext hf];rfl
 generalize Z:t.probe _ h ((none:Option SetTable.Probe).getD yD)=pr;have hpr':pr=t.probe (Pk et) h yD:=Z.symm.trans (hpr _ fun i=>R.Pk i);clear Z hpr;subst hpr';cases hp:t.probe (Pk et) h yD with
 |none=>rw[hp]at g;cases g
 |some met=>
  rw[hp]at g;cases met with
  |empty j dummy=>
   cases dummy with
   |none=>cases g;exact aA (h1 j rfl)
   |some d=>cases g
  |candidate j i next=>
   cases he:et[i]? with
   |none=>simp only[he]at g;cases g
   |some zy=>
    obtain⟨z,y⟩:=zy;simp only[he]at g;by_cases hy:y=x
    .rw[if_pos hy]at g;cases g;subst hy;obtain⟨b,its2,e1,e2,e3,e4⟩:=R.at he;cases hl:t.led with
     |true=>
      simp only[Bool.not_true,Bool.false_eq_true,if_false];rw[e1];refine Wb (aQ (Sg e2 e3 U T AC prog w E _ ?_));rw[decide_eq_true rfl];refine Wb (bK ho hd Y ?_);exact aA (h0 rfl)
     |false=>
      simp only[Bool.not_false,if_true];refine Wb (dj ⟨xa,its,_,rfl,U,T,hxd⟩ (fun v hv=>?_) ?_)
      .obtain⟨p,hp1,rfl⟩:=aT.mp hv;exact R.good p (Array.mem_toList_iff.mpr (Array.mem_filter.mp (Array.mem_toList_iff.mp hp1)).1)
      simp only[Bool.false_eq_true,if_false];rw[e1];refine Wb (aQ (Sg e2 e3 U T AC prog w E _ ?_));rw[decide_eq_true rfl];refine Wb (bK ho hd Y ?_);exact aA (h0 rfl)
    .rw[if_neg hy]at g;cases g
def JK{n:Nat}(h:n<=100000):n<=sizeLine:=aP h Nk
def XR{T:Heap}(U:T.get? a=some o)(hd:o.data=.set ev ep t)(g:ad)(t':yk):(T.update a (Obj.putSet g t')).get? a=some {o with data:=.set g (ep+1) t'}:=by
 have:=bM (Obj.putSet g t') U (by rw[putSet_of g t' hd];rfl);rw[putSet_of g t' hd]at this;exact this
def V6{T:Heap}(Y:T.get? a=some o)(Z:o.cls=.type "set")(g:Obj->Obj):∀b u,T.get? b=some u->u.cls=.type "tuple" ->(T.update a g).get? b=some u:=fun b u q U=>by
 have:a≠b:=fun z=>by
  subst z;rw[Y]at q;cases q;rw[Z]at U
  injection U with z
  exact absurd z AT
 rw[Heap.get?_update_other _ _ this];exact q
def kR{et' : ES}{t' : yk}{Q : t9}(ho : s.heap.get? a = some o)(hc : o.cls = .type "set")(hd : o.data = .set ev ep t)(R : EO G s.heap ev et)(hx1 : s.heap.IsTuple xa its.toArray)(hx2 : Vs s.heap x its)(hxd : x.deep < 8)(hxg : G (.ref xa) x) (hu : A.units + 8 < cLine)(hs : JG (et,t) x = some (et',t')) (k : ∀ (b : Bool) (h' : Heap) (tk : Nat) (ev' : ad) (ep' : Nat),Heap.SameBut a s.heap h'->h'.get? a = some { o with data:=.set ev' ep' t' }->EO G h' ev' et'->Q b { s with heap:=h',toks:=tk }):wpAny AS A (setAdd a (.ref xa)) Q E s:=by
  unfold setAdd
  refine aQ (Wb (iu hx1 hx2 AC fun tk => ?_))
  unfold setAddHashed
  refine aQ ?_
  unfold JG at hs
  by_cases h1 : (t.fits et.size && decide (et.size<=1000) && t.plain) = false
  . rw [if_pos h1] at hs; cases hs
  rw [if_neg h1] at hs
  simp only [Bool.not_eq_false,Bool.and_eq_true,decide_eq_true_eq] at h1
  obtain ⟨⟨hf,hz⟩,hpl⟩:=h1
  have hf' : t.fits ev.size = true:=by rw [R.size]; exact hf
  cases hsr : Yt et t x (BX x) with
  | none => simp only [hsr] at hs; cases hs
  | some r=>
    simp only [hsr] at hs
    rw [show (100000 : Nat) = 99999 + 1 from rfl,setAddHashedIn]
    refine Wb (bK (s:={ s with toks:=tk }) ho hd hf' ?_)
    dsimp only
    have hbs : byScan (.ref xa) ev = false:=rfl
    rw [hbs,if_neg aM]
    refine Wb (Zz (s:={ s with toks:=tk }) ho hd hf R hx1 hx2 hxd hu hsr (fun hr => ?_) fun j hr => ?_)
    . subst hr
      cases hs
      exact aA (k _ s.heap tk ev ep zR (by rw [ho,<- hd]) R)
    . subst hr
      dsimp only at hs ⊢
      refine Wb (bK (s:={ s with toks:=tk }) ho hd hf' ?_)
      dsimp only
      have hpl2 : (t.put j).1.plain = true:=hpl
      rw [if_pos hpl2]
      refine Wb (WU 8 (s:={ s with toks:=tk }) ⟨xa,its,x,rfl,hx1,hx2,hxd⟩ ?_)
      simp only [if_true]
      have R1 : EO G s.heap bv (SetTable.insertAt et (t.put j).2 xt):=by
        unfold EO
        rw [KH,KH]
        exact Paired.app (.cons ⟨rfl,hxd,hxg,xa,its,rfl,hx1,hx2⟩ (Paired.drop _ R)) (Paired.take _ R)
      have hz1 : (SetTable.insertAt ev (t.put j).2 zDD).size<=1001:=by
        have h2:=bO List.length (KH ev (t.put j).2 zDD)
        simp only [Array.length_toList,List.length_append,List.length_take,List.length_cons,List.length_drop] at h2
        have:=R.size
        lia
      have hz2 : (SetTable.insertAt et (t.put j).2 xt).size = (SetTable.insertAt ev (t.put j).2 zDD).size:=R1.size.symm
      refine Wb (wpAny_storeSet_of (s:={ s with toks:=tk }) ho hd ?_ (JK AC))
      have g1:=XR ho hd bv (t.put j).1
      have k1:=V6 ho hc zDt
      have sb1:=ag s.heap a zDt
      by_cases hfull : (t.put j).1.tooFull = false
      . rw [if_pos hfull] at hs
        cases hs
        rw [hfull]
        simp only [Bool.and_false,Bool.false_eq_true,if_false]
        exact aA (k _ _ tk _ _ sb1 g1 (R1.keeps k1))
      . rw [if_neg hfull] at hs
        have hfull : (t.put j).1.tooFull = true:=by simpa using hfull
        rw [hfull]
        simp only [Bool.not_false,Bool.and_true,if_true]
        by_cases h2 : ((t.put j).1.fits (SetTable.insertAt et (t.put j).2 xt).size && decide (SetTable.sizeAbove (SetTable.grown (et.size + 1))<=100000)) = false
        . rw [if_pos h2] at hs; cases hs
        rw [if_neg h2] at hs
        simp only [Bool.not_eq_false,Bool.and_eq_true,decide_eq_true_eq] at h2
        obtain ⟨hfit,hsa⟩:=h2
        cases hrl : (t.put j).1.relaid ((SetTable.insertAt et (t.put j).2 xt).map To) (SetTable.grown (et.size + 1)) with
        | none => simp only [hrl] at hs; cases hs
        | some to=>
          obtain ⟨t2,order⟩:=to
          simp only [hrl] at hs
          by_cases h3 : (order.filterMap ((SetTable.insertAt et (t.put j).2 xt)[·]?)).size = (SetTable.insertAt et (t.put j).2 xt).size
          . rw [if_pos h3] at hs
            cases hs
            have R2 : EO G s.heap zDn (order.filterMap ((SetTable.insertAt et (t.put j).2 xt)[·]?)):=by
              unfold EO
              have:=Paired.pick R1 order.toList
              simpa using this
            have g2:=XR g1 rfl zDn t'
            have k2:=V6 g1 hc (Obj.putSet zDn t')
            have sb2:=ag (s.heap.update a zDt) a (Obj.putSet zDn t')
            refine Wb ?_
            unfold setRelay
            refine Wb (bK g1 rfl (by rw [<- hz2]; exact hfit) ?_)
            dsimp only
            rw [R.size,if_neg (Nat.not_lt.mpr (JK hsa))]
            refine Wb ?_
            rw [R1.fst,hrl]
            have hsz : (order.filterMap Id).size = (SetTable.insertAt ev (t.put j).2 zDD).size:=by rw [R2.size,h3,hz2]
            have hne : ¬ ((order.filterMap Id).size != (SetTable.insertAt ev (t.put j).2 zDD).size) = true:=by simp [hsz]
            show wpAny _ _ (do if (order.filterMap Id).size != (SetTable.insertAt ev (t.put j).2 zDD).size then unsupported "internal:set-table-lost-an-element"
                               pure (order.filterMap Id,t')) _ _ _
            rw [if_neg hne]
            refine aA ?_
            refine wpAny_storeSet_of g1 rfl ?_ (JK (by rw [hsz]; lia))
            exact aA (k _ _ tk _ _ (sb1.trans sb2) g2 ((R2.keeps k1).keeps k2))
          . rw [if_neg h3] at hs; cases hs
end
end TH
namespace TH
open PySem
def grow:List Tr->Tr->List Tr
 |_,.nil=>[]
 |pre,.cons b r=>((Tr.of (Tr.C7 (b.bs++[.nil]))::grow [] b).map fun g=>Tr.of (Tr.C7 (pre++g::r.bs)))++grow (pre++[b]) r
def rG(t:Tr):uJ:=Tr.of (Tr.C7 (t.bs++[.nil]))::grow [] t
def ups(l:uJ):uJ:=l.flatMap rG
def Oz(st:yP):List Tr->Option (ES×SetTable)
 |[]=>some st
 |x::r=>(JG st x).bind fun g=>Oz g r
def MW(led:Bool):ES×SetTable:=(#[],.fresh 0 0 led)
def SJ(st:yP):uJ:=st.1.toList.map wG
def tz:Nat->List Tr
 |0=>[.nil]
 |n+1=>(Tr.C7 ((ups (tz n)).eraseDups)).reverse
end TH
namespace TH
open PySem PyProof.Rows PySem.SeqAt
def U1(G:xG)(h:Heap)(v:VL)(x:Tr):Prop:=x.deep<8/\G v x/\∃a g,v=.ref a/\h.IsTuple a g.toArray/\Vs h x g
abbrev Kr(G:xG)(h:Heap)(vs:ST)(xs:yw):Prop:=Paired (U1 G h) vs xs
variable{G:xG}
def U1.keeps{h h':Heap}(k:Pc){v:VL}{x:Tr}(r:U1 G h v x):U1 G h' v x:=by
 obtain⟨hd,hg,a,g,e,h1,Z⟩:=r;exact⟨hd,hg,a,g,e,(by obtain⟨o,Y,U,n,T⟩:=h1;exact⟨o,k _ _ Y U,U,n,T⟩),Z.keeps k⟩
def Kr.keeps{h h':Heap}(k:Pc){vs:tm}{xs:uJ}(r:Kr G h vs xs):Kr G h' vs xs:=Paired.imp (fun _ _ z=>z.keeps k) r
def NO(G:xG)(h:Heap)(S:AD)(st:yP):Prop:=∃o ev ep,h.get? S=some o/\o.ExactSet/\o.data=.set ev ep st.2/\EO G h ev st.1
def NO.keeps{h h':Heap}{S:AD}{st:yP}(x:NO G h S st)(g:∀o,h.get? S=some o->h'.get? S=some o)(k:Pc):NO G h' S st:=by
 obtain⟨o,ev,ep,Z,Y,U,T⟩:=x;exact⟨o,ev,ep,g _ Z,Y,U,T.keeps k⟩
section
variable{prog:Go}{w:KB}{A:OR}{R:Result->SD->Prop}{I S:AD}{fp wr:uK}{St:vA}{items:xP}{xs:uJ}{st':yP}
def jr(W:Walks prog w A.in1 I fp wr items.size (fun i v=>items[i]? = some v) St)(hSf:S ∉ fp)(hcl:∀i h b o,St i h->b∈wr->h.get? b=some o->o.cls≠.type "tuple")(hu:A.units+10<cLine):∀(k i:Nat) (s:SD) (st:yP),items.size-i=k->i<=items.size->St i s.heap->NO G s.heap S st->Kr G s.heap items.toList xs->Oz st (xs.drop i)=some st' ->(∀(h':Heap) (tk:Nat),(∀b o,b≠S->b ∉ wr->s.heap.get? b=some o->h'.get? b=some o)->(∀b o,s.heap.get? b=some o->o.cls=.type "tuple" -> h'.get? b=some o)->NO G h' S st'->R (.ok (.ret .none)) Iv) ->codeAny AS A (.builtin "set.update.loop" ⟨[.ref S,.ref I],[]⟩) R s:=by
 have hSw:S ∉ wr:=fun h=>hSf (W.sub _ h);intro k
 induction k with
 |zero=>
  intro i s st hk hi U hS hT g hR;have hin:i=items.size:=by lia
  subst hin;have Y:=Paired.length hT;rw[List.drop_of_length_le (by rw[<-Y];simp)]at g;cases g;refine codeAny_builtin F.entry_set_update_loop ?_;rw[Around.under_plainId F.plain_set_update_loop _];show wpAny _ A.in1 (pyNext yY>>=_) _ _ s;refine Wb (W.done s _ _ U fun h' tk hm=>?_);show wpAny _ A.in1 (ret Value.none) _ _ _;have kt:∀b o,s.heap.get? b=some o->o.cls=.type "tuple" -> h'.get? b=some o:=fun b o e T=>hm b o (fun hb=>hcl _ _ b o U hb e T) e;exact aA (hR h' tk (fun b o _ hb e=>hm b o hb e) kt (hS.keeps (fun o e=>hm S o hSw e) kt))
 |succ k ih=>
  intro i s st hk hi U hS hT g hR;have hlt:i<items.size:=by lia
  refine codeAny_builtin F.entry_set_update_loop ?_;rw[Around.under_plainId F.plain_set_update_loop _];show wpAny _ A.in1 (pyNext yY>>=_) _ _ s;refine Wb (W.item i s _ _ hlt U fun v h1 tk hP hst' hm=>?_);have kt:∀b o,s.heap.get? b=some o->o.cls=.type "tuple" -> h1.get? b=some o:=fun b o e T=>hm b o (fun hb=>hcl _ _ b o U hb e T) e;have hS1:=hS.keeps (fun o e=>hm S o hSw e) kt;have hT1:=hT.keeps kt;have Y:=Paired.length hT;have hxi:i<xs.length:=by rw[<-Y];simpa using hlt
  have hx:xs[i]? = some xs[i]:=aL hxi;obtain⟨v',hv',hxd,hxg,xa,its,e1,e2,e3⟩:=Paired.get hT1 hx;have hvv:v'=v:=by
   have h2:items.toList[i]? = some v:=by simpa using hP
   rw[h2]at hv';exact(aw hv').symm
  subst hvv;subst e1;rw[List.drop_eq_getElem_cons hxi,Oz]at g;cases Z:JG st xs[i]with
  |none=>rw[Z]at g;cases g
  |some st1=>
   rw[Z]at g;obtain⟨o,ev,ep,g1,g2,g3,g4⟩:=hS1;obtain⟨et,t⟩:=st;obtain⟨et1,t1⟩:=st1;show wpAny _ A.in1 (holding [Value.ref xa] (setAdd S (.ref xa))>>=_) _ _ _;refine Wb (aQ (kR (s:={s with heap:=h1,toks:=tk}) g1 g2.1 g3 g4 e2 e3 hxd hxg zAW Z fun b h2 tk2 ev2 ep2 sb gS R2=>?_));have GP:∀b o,h1.get? b=some o->o.cls=.type "tuple" -> h2.get? b=some o:=fun b o' e T=>by
    rw[sb.2 b fun z=>?_]
    .exact e
    .subst z;rw[g1]at e;cases e;rw[g2.1]at T
     injection T with T
     exact absurd T AT
   refine aA ⟨plainId_quiet F.plain_set_update_loop _,ih On {s with heap:=h2,toks:=tk2} (et1,t1) AC hlt (W.frame _ _ _ hst' fun b hb o' e=>?_) ⟨_,ev2,ep2,gS,g2,rfl,R2⟩ (hT1.keeps GP) g fun h3 tk3 m3 kt3 S3=>?_⟩
   .rw[sb.2 b fun z=>hSf (z ▸ hb)];exact e
   .refine hR h3 tk3 (fun b o' hbS hb e=>?_) (fun b o' e T=>kt3 b o' (GP b o' (kt b o' e T) T) T) S3;refine m3 b o' hbS hb ?_;show h2.get? b=some o';rw[sb.2 b hbS];exact hm b o' hb e
end
end TH
namespace TH
open PySem PyProof.Rows PySem.SeqAt
section
variable{G:xG}{prog:Go}{w:KB}{A:OR}{E:tq}{s:SD}{l:AD}{us:tm}{xs:uJ}
abbrev HG(led:Bool):Obj:={ cls:=.type "set",dict:=none,data:=.set #[] 0 (.fresh 0 0 led)}
def ZU(v:VL){Q1:tq}(k:Q1 Do {s with heap:=s.heap.push (HG uh)}):codeAny AS A (.call (.builtin "set.__new__") ⟨[.type "set",v],[]⟩) (wants Q1 E) s:=by
 refine codeAny_of_tree (show wpAny _ A.in1 (checkBuiltinCall "set.__new__" ⟨[.type "set",v],[]⟩>>=fun _=>again (.builtin "set.__new__" ⟨[.type "set",v],[]⟩)) _ _ s from ?_);refine Wb (wpAny_of_eq (F.newCall_set_1 v) (aA ⟨plainId_quiet F.plain_set_new _,codeAny_builtin F.entry_set_new ?_⟩));rw[Around.under_plainId F.plain_set_new _];unfold Builtin.«set.__new__»;unfold Builtin.Frozenset.newClass;have q:=sub_set_self;obtain⟨h0,g,T,t0,o0⟩:=s;dsimp only
 wp_walk
 refine wpAny_askSetting WF;dsimp only;simp only[newObj];exact Wb (wpAny_alloc (aA (aA k)))
def XD{Q:tq}(hA:vY)(hL:s.heap.IsList l us.toArray)(hT:Kr G s.heap us xs)(hu:A.units+20<cLine){st:yP}(Z:Oz (MW uh) xs=some st) (k:∀(T:Heap) (tk:Nat),NO G T s.heap.objs.size st->(∀b u,s.heap.get? b=some u->T.get? b=some u)->Q Do {s with heap:=T,toks:=tk}):wpAny AS A (call (.type "set") [.ref l]) Q E s:=by
 obtain⟨mc,mt,hmro⟩:=F.called_set.mro;have q1:=F.called_set.made;have q2:=F.called_set.sub;have q3:=F.called_set.notType;have q4:=F.called_set.canCreate;have q5:=F.typeCall_set_1 ui;refine wpAny_call (codeAny_of_tree (show wpAny _ _ (callAny (.type "set") _) _ _ _ from ?_));refine aA ⟨Code.quiet_builtin _ SZ,codeAny_builtin F.entry_type_call ?_⟩;rw[Around.under_plain (weight_type_call_type "set" [.ref l] []) rfl]
 repeat (any_goals (first|assumption|wp_step))
 have hnew:=ZU (prog:=prog) (w:=w) (s:=s) (A:=A.in1) (E:=E) ui (Q1:=fun v s1=>v=.ref s.heap.objs.size/\s1={s with heap:=s.heap.push (HG uh)}) ⟨rfl,rfl⟩;refine codeAny_mono hnew fun r s1 hr=>?_;cases r with
 |error e=>exact hr
 |ok fl=>
  cases fl with
  |next=>exact hr.elim
  |brk=>exact hr.elim
  |cont=>exact hr.elim
  |ret obj=>
   obtain⟨rfl,rfl⟩:=hr;generalize uh=led at Z;have gS:(s.heap.push zAX).get? s.heap.objs.size=some zAX:=aK _ rfl;have tS:Shared.TypeIs {s with heap:=s.heap.push zAX} Do "set" := ⟨_,gS,rfl⟩;have q6:=F.called_set.init.lookup;have q7:=F.called_set.init.bind Do
   repeat (any_goals (first|assumption|wp_step))
   have U:codeAny AS A.in1 (.call (.builtin "set.__init__") ⟨[.ref s.heap.objs.size,.ref l],[]⟩)
     (wants (fun v s2=>v=.none/\∃T tk,s2={s with heap:=T,toks:=tk}/\NO G T s.heap.objs.size st/\∀b u,s.heap.get? b=some u->T.get? b=some u) E) {s with heap:=s.heap.push zAX}:=by
    refine codeAny_call_builtin F.called_set.init.plain F.entry_set_init (check_set_init_1 tS ?_);obtain⟨⟨c0,d0,dt0,sl0⟩,gl,c1,n0,dt1⟩:=id hL;simp only at c1 dt1;subst c1 dt1;have gl1:(s.heap.push zAX).get? l=some ⟨.type "list",d0,.seq us.toArray n0,sl0⟩:=aE _ gl;have Y:(s.heap.push zAX).IsList l us.toArray:=⟨_,gl1,rfl,n0,rfl⟩;have s1:=F.sub_list_set;have s2:=F.sub_list_frozenset;have s3:(Value.type "list" == Value.type "dict")=false:=by decide
    unfold Builtin.«set.__init__» noKeywords Builtin.Frozenset.updateFrom;generalize ePI:pyIter=PI
    wp_walk
    subst ePI;refine wpAny_pyIter_list Y (Wb (wpAny_runValue ?_));have ll:l<s.heap.objs.size:=aF gl;have zI:(s.heap.push zAX).objs.size=s.heap.objs.size+1:=Heap.size_push ..;have neI:l≠(s.heap.push zAX).objs.size:=by rw[zI];exact aI (bS ll)
    have nfp:s.heap.objs.size ∉ [(s.heap.push zAX).objs.size,l]:=by
     simp only[List.mem_cons,List.not_mem_nil,or_false,not_or];exact⟨by rw[zI];exact aI (bW _),Nat.ne_of_gt ll⟩
    have hA3:A.in1.in1.in1.handled=none:=by simp[hA]
    refine jr (G:=G) (xs:=xs) (st':=st) (Walks.list hA3 _ l neI us.toArray) nfp (fun i h b o hit hb e hc=>?_) (by simp only[Around.in1_units];lia) _ 0 _ (MW led) rfl (bJ _) ⟨⟨_,Heap.get?_push_size _ rfl,rfl,rfl⟩,Y.push _⟩ ?_ ?_ Z fun T tk m2 GP S2=>?_
    .obtain⟨⟨oi,gi,ci,_⟩,_⟩:=hit;have:b=(s.heap.push zAX).objs.size:=by simpa using hb
     subst this;rw[gi]at e;cases e;rw[ci]at hc
     injection hc with hc
     exact absurd hc AT
    .exact⟨HG led,#[],0,Heap.get?_push_of_some _ gS,⟨rfl,rfl,rfl⟩,rfl,.nil⟩
    .exact hT.keeps fun b o e _=>aE _ (aE _ e)
    .refine aA ?_;show wpAny _ _ (ret Value.none) _ _ _;refine aA ⟨rfl,T,tk,rfl,S2,fun b u e=>?_⟩;have lb:b<s.heap.objs.size:=aF e;refine m2 b u (aI lb) ?_ (aE _ (aE _ e));simp only[List.mem_cons,List.not_mem_nil,or_false];rw[zI];exact aI (bS lb)
   refine codeAny_mono U fun r2 s2 g=>?_;cases r2 with
   |error e=>exact g
   |ok f2=>
    cases f2 with
    |next=>exact g.elim
    |brk=>exact g.elim
    |cont=>exact g.elim
    |ret v2=>
     obtain⟨rfl,T,tk,rfl,S2,k2⟩:=g
     repeat (any_goals (first|assumption|wp_step))
     exact k T tk S2 k2
end
end TH
namespace TH
open PySem PyProof.Rows PySem.SeqAt
def SV:entryFor table "set.__iter__" = some Builtin.«frozenset.__iter__» :=
 entryFor_alias (id' := "frozenset.__iter__") KK rfl SZ KK
def FC:Slot "set_iterator" "__next__" "set_iterator.__next__" :=
 .of (owner := "set_iterator") (n := "__next__") zAJ SZ
  (by decide +kernel) SZ (by first|exact .inl SZ|exact .inr SZ) yl
def M5:entryFor table "set_iterator.__next__" = some Builtin.«set_iterator.__next__»:=entryFor_of_fast KK
def Np(a:VL):argsOk "set_iterator.__next__" ⟨[a],[]⟩:=by unfold argsOk;kernel_rfl
def Nn:Slot "set_iterator" "__iter__" "set_iterator.__iter__" :=
 .of (owner := "set_iterator") (n := "__iter__") zAJ SZ
  (by decide +kernel) SZ (by first|exact .inl SZ|exact .inr SZ) yl
def SX:entryFor table "set_iterator.__iter__" = some Builtin.«dict_keyiterator.__iter__» :=
 entryFor_alias (id' := "dict_keyiterator.__iter__") KK rfl SZ KK
def Uh(a:VL):argsOk "set_iterator.__iter__" ⟨[a],[]⟩:=by unfold argsOk;kernel_rfl
section
variable{α:Type}{next:Nat->Nat}
def YG:∀(n k:Nat) (left:mu) (out:Array α),left.length=n->(pickOrder.go next n k left out).toList.Perm (out.toList++left)
 |0,k,left,out,h=>by
  have:left=[]:=bN h;subst this;rw[pickOrder.go];simp
 |n+1,k,left,out,h=>by
  rw[pickOrder.go];have g:next k % left.length<left.length:=Nat.mod_lt _ AC;rw[List.getElem?_eq_getElem g];refine(YG n io _ _ (by rw[List.length_eraseIdx_of_lt g];lia)).trans ?_;rw[Array.toList_push,List.append_assoc];refine List.Perm.append_left _ ?_;rw[List.eraseIdx_eq_take_drop_succ];have e:left.take (next k % left.length)++left[next k % left.length]::left.drop (next k % left.length+1)=left:=by rw[<-List.drop_eq_getElem_cons g,List.take_append_drop]
  have p:=List.perm_middle (a:=left[next k % left.length]) (l₁:=left.take (next k % left.length)) (l₂:=left.drop (next k % left.length+1));rw[e]at p;exact p.symm
def a6(xs:Array α):(pickOrder next xs).toList.Perm xs.toList:=by
 unfold pickOrder
 simpa using YG xs.size 0 xs.toList #[] As
end
end TH
namespace TH
open PySem PyProof.Rows PySem.SeqAt
def HA(w:KB)(S:AD)(ep:Nat)(ev:ad):Array (Int×VL):=if w.params.followText "set-order" = true then pickOrder (w.params.setOrder S ep) ev else ev
def Tx(w:KB)(S:AD)(ep:Nat)(ev:ad):(HA w S ep ev).toList.Perm ev.toList:=by
 unfold HA;split
 .exact a6 ev
 .exact .refl _
def MC(w:KB)(S:AD)(ep:Nat)(ev:ad):(HA w S ep ev).size=ev.size:=by simpa using (Tx w S ep ev).length_eq
def Jp(t:yk):Nat->Nat
 |0=>0
 |i+1=>t.place.getD i 0+1
def FO(w:KB)(t:yk)(i:Nat):Nat:=if w.params.followText "set-order" = true then 0 else Jp t i
def N9(t:yk)(n:Nat):Bool:=(List.range (n+1)).all fun i=>decide (SetTable.below t.place (Jp t i)=i)
abbrev L0(w:KB)(S:AD)(t:yk)(ep n i:Nat):Obj:={ cls:=.type "set_iterator",data:=.fields #[rawInt ((FO w t i:Nat):Int),rawInt (i:Int),.ref S,rawInt (n:Int),rawInt (ep:Int)]}
structure GU(w:KB)(o:Obj)(ev:Array (Int×Value))(ep:Nat)(t:yk):Prop where
 ex:o.ExactSet
 dat:o.data=.set ev ep t
 fit:t.fits ev.size=true
 plain:t.plain=true
 led:t.led=!w.params.followText "set-order"
 walk:N9 t ev.size=true
section
variable{prog:Go}{w:KB}{A:OR}{E:tq}{s:SD}{S I:AD}{o:Obj}{ev:ad}{ep i:Nat}{t:yk}
def S6{Q:t9}(h:Q (w.params.followText "set-order") s):wpAny AS A setsByText Q E s:=by
 unfold setsByText;exact Wb (wpAny_askSetting (aA h))
def GU.Zk(W:wB):wQ=false:=by rw[W.plain];rfl
def GU.place(W:wB):t.place.size=ev.size:=by
 have:=W.fit;unfold SetTable.fits at this;simp only[Bool.and_eq_true,beq_iff_eq]at this;exact this.1
def VE{Q:Option (VL×Nat)->SD->Prop}(W:wB)(ho:s.heap.get? S=some o)(hi:i<=ev.size)(h:Q ((HA w S ep ev)[i]?.map fun e=>(e.2,FO w t On)) s):wpAny AS A (setNext S (FO w t i) i ep) Q E s:=by
 unfold setNext;refine Wb (bK ho W.dat W.fit ?_);refine Wb (S6 ?_);cases hb:w.params.followText "set-order" with
 |true=>
  rw[if_pos rfl];have U:¬(ep != ep)=true:=by simp
  rw[if_neg U];unfold setWalk;refine Wb (Wb (bK ho W.dat W.fit ?_));refine Wb (S6 ?_);rw[if_pos hb];refine Wb (wpAny_askSetting WF);refine aA ?_;have e:HA w S ep ev=pickOrder (w.params.setOrder S ep) ev:=by unfold HA;rw[if_pos hb]
  rw[e]at h;have Y:FO w t i=FO w t On:=by unfold FO;rw[if_pos hb,if_pos hb]
  rw[Y];exact h
 |false=>
  rw[if_neg aM];refine wpAny_ite_split (fun hd=>?_) fun _=>?_
  .have:wQ=true:=hd;rw[W.Zk]at this;cases this
  .refine Wb ?_;have hl:t.led=true:=by rw[W.led,hb];rfl
   have hn:¬(!t.led && !ev.isEmpty)=true:=by rw[hl];simp
   show wpAny _ _ (if(!t.led && !ev.isEmpty)=true then unsupported "set:maker-not-led" else pure ()) _ _ _;rw[if_neg hn];refine aA WF;have g:=W.walk;unfold N9 at g;have g:=ak.mp g i (aq.mpr AC);have g:SetTable.below t.place (Jp t i)=i:=by simpa using g
   have e1:FO w t i=Jp t i:=by unfold FO;rw[hb];rfl
   have Y:FO w t On=Jp t On:=by unfold FO;rw[hb];rfl
   have e3:HA w S ep ev=ev:=by unfold HA;rw[hb];rfl
   rw[Y,e3]at h;rw[e1,g];by_cases T:i<ev.size
   .have Z:i<t.place.size:=by rw[W.place];exact T
    rw[Array.getElem?_eq_getElem T]at h ⊢;rw[Array.getElem?_eq_getElem Z];have e4:Jp t On=t.place[i]+1:=by
     rw[Jp,Array.getD_eq_getD_getElem?,Array.getElem?_eq_getElem Z]
     rfl
    rw[e4]at h;exact h
   .rw[Array.getElem?_eq_none AC]at h ⊢;exact h
def fm{Q:Uf}{z:Int}{v:VL}(W:wB)(Y:s.heap.get? S=some o)(g:s.heap.get? I=some (L0 w S t ep ev.size i))(U:(HA w S ep ev)[i]? = some (z,v)) (h:∀h',h'.get? I=some (L0 w S t ep ev.size On)->Heap.SameBut I s.heap h'->Q xp Nz):wpAny AS A (pyNext yY) Q E s:=by
 have Z:s.TypeIs yY "set_iterator" := ⟨_,g,rfl⟩;have hlt:i<ev.size:=by
  have:=(Array.getElem?_eq_some_iff.mp U).1;rw[MC]at this;exact this
 unfold pyNext;refine Wb (bV (aY (name:=Str.ofString "__next__") Z FC (aX FC Z M5 ?_ (Np _))));unfold Builtin.«set_iterator.__next__»;refine Wb (wpAny_of_eq (a:=(Value.ref I,[])) rfl ?_);refine Wb (wpAny_fieldsOf g rfl ?_);show wpAny _ _ (setEntries S>>=_) _ _ s;refine Wb (wpAny_setEntries_of Y W.dat W.fit ?_);have T:¬((ev.size:Int) != (ev.size:Int))=true:=by simp
 dsimp only;rw[if_neg T];refine Wb ?_;show wpAny _ _ (setNext S (FO w t i) i ep) _ _ _;refine VE W Y AC ?_;rw[U];show wpAny _ _ (setField yY 0 (rawInt ((FO w t On:Nat):Int))>>=_) _ _ _;refine Wb (wpAny_setField g rfl As ?_);have g1:(s.heap.update I (Obj.mapFields (·.setIfInBounds 0 (rawInt ((FO w t On:Nat):Int))))).get? I=some { cls:=.type "set_iterator",data:=.fields #[rawInt ((FO w t On:Nat):Int),rawInt (i:Int),.ref S,rawInt (ev.size:Int),rawInt (ep:Int)]} :=
  bM _ g rfl
 refine Wb (wpAny_setField g1 rfl As ?_);refine aA ⟨_,rfl,wpAny_pure (h _ ?_ ((ag ..).trans (ag ..)))⟩;exact bM _ g1 rfl
def dm{Q:Uf}(hh:vY)(W:wB)(Z:s.heap.get? S=some o)(Y:s.heap.get? I=some (L0 w S t ep ev.size ev.size)) (h:∀h',Heap.ExtBut I s.heap h'->Q none Nz):wpAny AS A (pyNext yY) Q E s:=by
 have hT:s.TypeIs yY "set_iterator" := ⟨_,Y,rfl⟩;unfold pyNext;refine Wb (bV (aY (name:=Str.ofString "__next__") hT FC (aX FC hT M5 ?_ (Np _))));unfold Builtin.«set_iterator.__next__»;refine Wb (wpAny_of_eq (a:=(Value.ref I,[])) rfl ?_);refine Wb (wpAny_fieldsOf Y rfl ?_);show wpAny _ _ (setEntries S>>=_) _ _ s;refine Wb (wpAny_setEntries_of Z W.dat W.fit ?_);have g:¬((ev.size:Int) != (ev.size:Int))=true:=by simp
 dsimp only;rw[if_neg g];refine Wb ?_;show wpAny _ _ (setNext S (FO w t ev.size) ev.size ep) _ _ _;refine VE W Z UF ?_;rw[Array.getElem?_eq_none (by rw[MC];exact aH _)];show wpAny _ _ (setField yY 2 Value.none>>=_) _ _ _;refine Wb (wpAny_setField Y rfl As ?_);refine Wb ?_;simp only[newExc,newTuple];refine Wb (bA ?_ (by size_fits));refine Wb (m:=firstArgMember _ _) (wpAny_of_eq (a:=Value.none) (by first|rfl|(simp only[firstArgMember];rfl)) (bA ?_ (by size_fits)));simp only[raiseNew];refine Wb (wpAny_handled ?_);have U:A.in1.handled=none:=hh;rw[U];refine Wb (aA (wpAny_throw ?_));refine Wb (wpAny_isInstance (b:=true) (T := "StopIteration") ⟨_,Heap.get?_push_size _ rfl,rfl⟩ isSubtype_stop ?_);exact aA (h _ (((ag ..).extBut.push _).push _))
def eO{Q:tq}(T:s.heap.get? I=some (L0 w S t ep ev.size i))(h:Q yY s):wpAny AS A (pyIter yY) Q E s:=by
 have g:s.TypeIs yY "set_iterator" := ⟨_,T,rfl⟩;refine wpAny_pyIter_slot g Nn (aX Nn g SX ?_ (Uh _));show wpAny _ _ (ret yY) _ _ s;exact aA ⟨_,rfl, "set_iterator",_,g,FC.lookup,h⟩
def cA(hh:vY)(hne:S≠I)(W:wB) :
  Walks prog w A I [I,S] [I] ev.size zCF (fun i h=>h.get? I=some (L0 w S t ep ev.size i)/\h.get? S=some o) where
 sub:=fun b hb=>by simp at hb;simp[hb]
 frame:=fun _ _ _ x k=>⟨k I As _ x.1,k S As _ x.2⟩
 item:=fun i s Q E hi x hQ=>by
  have hi':i<(HA w S ep ev).size:=by rw[MC];exact hi
  obtain⟨z,v,hx⟩:∃z v,(HA w S ep ev)[i]? = some (z,v):=⟨(HA w S ep ev)[i].1,(HA w S ep ev)[i].2,by rw[Array.getElem?_eq_getElem hi']⟩;refine fm W x.2 x.1 hx fun h' g sb=>hQ v h' s.toks ⟨z,hx⟩ ⟨g,(sb.2 S hne).trans x.2⟩ fun b u hb e=>?_;rw[sb.2 b fun q=>hb (by simp[q])];exact e
 done:=fun s Q E x hQ=>dm hh W x.2 x.1 fun h' eb=>hQ h' s.toks fun b u hb e=>eb b u (fun q=>hb (by simp[q])) e
 self:=fun _ _ _ _ x hQ=>eO x.1 hQ
def eV{Q:t9}(Y:s.TypeIs (.ref S) "set")(h:Q false s):wpAny AS A (Builtin.List.listLengthHint (.ref S)) Q E s:=by
 unfold Builtin.List.listLengthHint;refine Wb (bT Y PySem.F.slot_set_len.lookup ?_);generalize g:("set.__len__" : wN)=U
 wp_delta
 rw[show splitId U=some ("set","__len__") from by subst g;decide +kernel];subst g;refine Wb (wpAny_isInstance (b:=true) (T := "set") Y yl ?_);refine wpAny_ite_split (fun z=>absurd z AT) fun _=>?_;refine wpAny_ite_split (fun _=>?_) fun z=>absurd SZ z;exact Wb (wpAny_typeOf Y (aA h))
def eN{Q:tq}(W:wB)(g:s.heap.get? S=some o)(h:Q Do {s with heap:=s.heap.push (L0 w S t ep ev.size 0)}):wpAny AS A (pyIter (.ref S)) Q E s:=by
 have T:s.TypeIs (.ref S) "set" := ⟨o,g,W.ex.1⟩;refine wpAny_pyIter_slot T PySem.F.slot_set_iter (aX PySem.F.slot_set_iter T SV ?_ (PySem.F.args_set_iter_1 _));unfold Builtin.«frozenset.__iter__»;refine Wb (wpAny_of_eq (a:=S) rfl ?_);unfold Builtin.Frozenset.sizeOf;refine Wb (Wb (wpAny_setEntries_of g W.dat W.fit WF));unfold setDrawn;refine Wb (Wb (bK g W.dat W.fit (Wb (S6 WF))));have hd:(!w.params.followText "set-order" && wQ)=false:=by rw[W.Zk];simp
 refine wpAny_ite_split (fun z=>?_) fun _=>?_
 .have:(!w.params.followText "set-order" && wQ)=true:=z;rw[hd]at this;cases this
 refine Wb WF;unfold setEpoch;refine Wb (Wb (bK g W.dat W.fit WF));have U:FO w t 0=0:=by unfold FO Jp;split<;>rfl
 refine Wb (bA (aA ⟨_,rfl, "set_iterator",_,⟨_,Heap.get?_push_size _ rfl,rfl⟩,FC.lookup,?_⟩));unfold L0 at h;rw[U]at h;exact h
def jz(W:wB):PySem.W.KdlSrc prog w "set" S S ev.size zCF (fun h=>h.get? S=some o) where
 type:=fun _ ho=>⟨o,ho,W.ex.1⟩
 there:=fun _ ho=>⟨aF ho,Heap.lt_size ho⟩
 keep:=fun _ _ ho k=>k S db _ ho
 notList:=by decide
 notTuple:=by decide
 hint:=fun _ _ s _ ho h=>eV ⟨o,ho,W.ex.1⟩ h
 iter:=fun A s hh ho=>⟨L0 w S t ep ev.size 0,_,(fun E Q h=>eN W ho h),cA hh (aI (aF ho)) W,⟨aK _ rfl,Heap.get?_push_of_some _ ho⟩⟩
end
end TH
namespace TH
open PySem PyProof.Rows PySem.SeqAt
def Paired.perm{α β:Type}{F:zBV}{l l':mu}(p:l'.Perm l):∀ {m:zAe},Paired F l m->∃g,g.Perm m/\Paired F l' g:=by
 induction p with
 |nil=>intro m r;exact⟨m,.refl _,r⟩
 |cons x _ ih=>
  intro m r;cases r with
  |cons h U=>
   obtain⟨g,p',q⟩:=ih U;exact⟨_::g,p'.cons _,.cons h q⟩
 |swap x y l=>
  intro m r;cases r with
  |cons h U=>
   cases U with
   |cons h' T=>exact⟨_::_::_,List.Perm.swap ..,.cons h' (.cons h T)⟩
 |trans _ _ Z Y=>
  intro m r;obtain⟨m1,p1,q1⟩:=Y r;obtain⟨m2,p2,q2⟩:=Z q1;exact⟨m2,p2.trans p1,q2⟩
variable{G:xG}
def XZ{h:Heap}:∀ {l:zd} {m:ze},Paired (Qc G h) l m->Vs h (Tr.of (m.map wG)) (l.map wG)
 |_,_,.nil=>by rw[List.map_nil,List.map_nil,Tr.of,Vs]
 |_,_,.cons (a:=(z,v)) ⟨_,_,_,a,g,e,U,T⟩ r=>by
  have e:v=.ref a:=e;subst e;rw[List.map_cons,List.map_cons,Tr.of,Vs];exact⟨a,g,_,rfl,U,T,XZ r⟩
def Tj{h:Heap}:∀ {l:zd} {m:ze},Paired (Qc G h) l m->∀c∈m.map wG,c.deep<8
 |_,_,.nil,c,g=>by cases g
 |_,_,.cons ⟨_,hd,_⟩ r,c,g=>by
  rw[List.map_cons]at g;rcases aN.mp g with rfl|g
  .exact hd
  .exact Tj r c g
def cG{h:Heap}:∀ {l:zd} {m:ze},Paired (Qc G h) l m->Paired G (l.map wG) (m.map wG)
 |_,_,.nil=>.nil
 |_,_,.cons ⟨_,_,hg,_⟩ r=>.cons hg (cG r)
def Paired.gN{α β:Type}{F:zBV}{l:mu}{m:zAe}(r:Paired F l m)(d:α)(e:β):∀(ix:List Nat),(∀i∈ix,i<l.length)->Paired F (ix.map fun i=>l.getD i d) (ix.map fun i=>m.getD i e)
 |[],_=>.nil
 |i::ix,h=>by
  have Y:=r.length;have hi:=h i ae;have hm:m[i]? = some m[i]:=aL AC;obtain⟨x,U,T⟩:=Paired.get r hm;rw[List.map_cons,List.map_cons];refine .cons ?_ (Paired.gN r d e ix fun j g=>h j (aS _ g));rw[List.getD_eq_getElem?_getD,List.getD_eq_getElem?_getD,U,hm];exact T
def en{l m:uJ}(p:l.Perm m):Tr.C7 l=Tr.C7 m:=Tr.MP (Tr.K3 l) (Tr.K3 m) ((Tr.K4 l).trans (p.trans (Tr.K4 m).symm))
section
variable{prog:Go}{w:KB}{A:OR}{E:tq}{s:SD}
def gather{T:wN}{r d:AD}{n:Nat}{P:Nat->VL->Prop}{OK:Heap->Prop}{R:List VL->SD->Prop}(K:PySem.W.KdlSrc prog w T r d n P OK)(hA:vY)(Aw:OK s.heap)(hn:n<=sizeLine) (k:∀(U:Heap) (tk:Nat) (g:xP),s.heap.objs.size<U.objs.size->(∀b u,s.heap.get? b=some u->U.get? b=some u)->ItemsOf P g n->R g.toList {s with heap:=U,toks:=tk}):wpAny AS A (collect (.ref r)) R E s:=by
 obtain⟨lr,ld⟩:=K.there _ Aw;unfold collect;refine Wb z9;rw[Around.under_plainId PySem.F.plain_proto_collect _];show wpAny _ A.in1 (newList []>>=fun v=>again (.builtin "list.__iadd__" ⟨[v,.ref r],[]⟩)) _ _ s;refine Wb (bA (aA ⟨plainId_quiet PySem.F.plain_list_iadd _,codeAny_builtin entry_list_iadd' ?_⟩));rw[Around.under_plainId PySem.F.plain_list_iadd _];have g0:(s.heap.push { cls:=.type "list",data:=.seq ([]:List VL).toArray}).get? s.heap.objs.size=some { cls:=.type "list",data:=.seq #[]}:=aK _ rfl;have main:=PySem.W.kdl_extend (A:=A) (s:={s with heap:=s.heap.push { cls:=.type "list",data:=.seq ([]:List VL).toArray} }) K hA
  (K.keep _ _ Aw fun _ _ _ e=>aE _ e) s.heap.objs.size (ao lr) (ao ld) Do 0 g0
  (R:=fun q s1=>∃U tk g c,q=.ok (.ret Do)/\s1={s with heap:=U,toks:=tk}/\(∀b u,s.heap.get? b=some u->U.get? b=some u)/\U.get? s.heap.objs.size=some { cls:=.type "list",dict:=none,data:=.seq g c,slots:=#[]}/\ItemsOf P g n)
  (fun U tk g c Z Y ha=>⟨U,tk,g,c,rfl,rfl,fun b u e=>Z b u (aI u8) (aE _ e),Y,ha⟩) hn
 refine aW main (fun fin s1 x=>?_) fun e s1 x=>?_
 .cases fin with
  |done f=>
   obtain⟨U,tk,g,c,e,rfl,Z,Y,ha⟩:=x;cases e;show wpAny _ A (load s.heap.objs.size>>=_) _ _ _;exact Wb (wpAny_load Y (aA (k U tk g (aF Y) Z ha)))
  |again c1=>
   refine⟨x.1,codeAny_mono x.2 fun q s2 y=>?_⟩;obtain⟨U,tk,g,c,rfl,rfl,Z,Y,ha⟩:=y;show wpAny _ A (load s.heap.objs.size>>=_) _ _ _;exact Wb (wpAny_load Y (aA (k U tk g (aF Y) Z ha)))
 .obtain⟨_,_,_,_,z,_⟩:=x;cases z
end
section
variable{prog:Go}{w:KB}{A:OR}{E:tq}{s:SD}{S:AD}{o:Obj}{ev:ad}{et:ES}{ep:Nat}{t:yk}
def ZC{Q:tq}(hA:vY)(W:wB)(ho:s.heap.get? S=some o)(R:EO G s.heap ev et)(h64:et.size<64)(hu:A.units+20<cLine) (h:∀(h':Heap) (D tk Z:Nat) (us:tm),s.heap.objs.size<=D->(∀b u,s.heap.get? b=some u->h'.get? b=some u)->h'.get? D=some (seqObj "list" us.toArray Z)->Paired G us (Tr.C7 (et.toList.map wG)).reverse->us.length<64 ->Q vD Iv):wpAny AS A (call zAw [.ref S]) Q E s:=by
 have hsz:=R.size;refine Calls.call_function_entry kind_sorted plain_sorted entry_sorted (args_sorted1 _) ?_;unfold Builtin.«sorted»;refine Wb (m:=checkCount "sorted" 1 1 _) WF;refine Wb (gather (A:=A.in1) (jz W) hA ho (JK AC) fun Y tk g z1 k1 T=>?_);have hal:g.toList=(HA w S ep ev).toList.map wG:=by
  apply List.ext_getElem?;intro j;rw[List.getElem?_map];by_cases hj:j<g.size
  .have Z:g[j]? = some g[j]:=Array.getElem?_eq_getElem hj;obtain⟨z,e2⟩:=T.2 j _ Z;rw[Array.getElem?_toList,Z,Array.getElem?_toList,e2]
   rfl
  .have hj2:¬j<(HA w S ep ev).size:=by rw[MC,<-T.1];exact hj
   rw[List.getElem?_eq_none (by simpa using hj),List.getElem?_eq_none (by simpa using hj2)]
   rfl
 obtain⟨m,pm,rm⟩:=Paired.perm (Tx w S ep ev) R;have hvs:=XZ rm;rw[<-hal]at hvs;have hd:(Tr.of (m.map wG)).deep<=8:=(Tr.O3 8 _).mpr fun c hc=>by have:=Tj rm c hc;lia
 have U:g.toList.length<64:=by rw[Array.length_toList,T.1,hsz];exact h64
 refine Wb (wpAny_newList ?_ (JK AC));have g1:(Y.push vy).get? Y.objs.size=some vy:=aK _ rfl;have k2:∀b u,s.heap.get? b=some u->(Y.push vy).get? b=some u:=fun b u e=>aE _ (k1 b u e);refine Wb (aQ (aX slot_list_sort ⟨_,g1,rfl⟩ entry_list_sort (Nt (s:={s with heap:=Y.push vy,toks:=tk}) g1 (hvs.keeps fun b u e _=>k2 b u e) U
  (by rw[show A.in1.in1.units=A.units+2 from rfl];lia) fun ix a1 a2 a3=>⟨_,rfl,?_⟩) (args_list_sort _)))
 obtain⟨Z,he1⟩:=sortedHeap_at (vs:=g.toList) (out:=(ix.map fun i=>g.toList.getD i Value.none).toArray) g1;refine aA ⟨_,rfl,h _ Y.objs.size tk Z (ix.map fun i=>g.toList.getD i Value.none) ?_ (fun b u e=>?_) he1 ?_ (by rw[List.length_map,a1];exact U)⟩
 .exact bC z1
 .have lb:b<Y.objs.size:=aF (k1 b u e);rw[sortedHeap_old (aI lb) (by rw[Heap.size_push];exact bS lb)];exact k2 b u e
 .have hg:=cG rm;rw[<-hal]at hg;have:=Paired.gN hg Value.none Tr.nil ix a2;rw[Tr.O7]at a3;rw[a3,en (pm.map wG)]at this;exact this
end
end TH
namespace TH
open PySem PyProof.Rows PySem.SeqAt
section
variable{prog:Go}{w:KB}{E:tq}
def V8(prog:Go)(w:KB)(E:tq)(t:Tr):Prop:=∀(us:ST) (A:OR) (s:SD) (b:Array Int) (Q:Array Int->SD->Prop),Vs s.heap t us->A.units+t.deep<=cLine ->
 (∀g,g.toList=b.toList++Kp t->Q g {s with toks:=s.toks+(t.AR-1)})->wpAny AS A wS Q E s
def OQ{t:Tr}(row:V8 prog w E t){a:AD}{g:tm}{A:OR}{s:SD}{Q:Int->SD->Prop}(U:yA)(h2:Vs s.heap t g)(hu:ul) (h:Q (BX t) {s with toks:=s.toks+t.AR}):wpAny AS A (pyHash Jz) Q E s:=by
 have Z:=IsTuple.ty rfl U;obtain⟨o,Y,hc,n,hd⟩:=id U;refine PySem.W.pyHash_slot (T := "tuple") Z F.slot_tuple_hash F.entry_tuple_hash (F.args_tuple_hash_1 _) (beq_builtin_none _) (.inr AC) ?_;show wpAny _ _ (Builtin.Tuple.tupleItemsOf Jz>>=_) _ _ s;refine Wb (wpAny_tupleItemsOf Y hd ?_);refine Wb ?_;rw[<-Array.forIn_toList];refine row g A.in1 s #[] _ h2 zAW fun b hb=>?_;show wpAny _ _ (retInt (Builtin.Tuple.tupleHashOf b.toList)) _ _ _;rw[hb];have hk:s.toks+(t.AR-1)+1=s.toks+t.AR:=by have:=Tr.D0 t;lia
 refine Wb (wpAny_mkInt (aA ⟨_,_,rfl,?_⟩));rw[hk];exact h
def Oi:∀t:Tr,V8 prog w E t
 |.nil=>fun us A s b Q e _ h=>by rw[Vs]at e;subst e;exact aA (h b (by simp[Kp]))
 |.cons c r=>fun us A s b Q e hu h=>by
  rw[Vs]at e;obtain⟨a,g,rest,rfl,Z,Y,U⟩:=e;have hd:(Tr.cons c r).deep=max (c.deep+1) r.deep:=rfl;have hk:(Tr.cons c r).AR=c.AR+r.AR:=rfl;have hr:=Tr.D0 r;rw[List.forIn_cons];refine Wb (Wb (OQ (Oi c) Z Y AC ?_));refine Wb (aA WF);refine Oi r rest A _ _ Q U AC fun b' hb=>?_;have T:s.toks+c.AR+(r.AR-1)=s.toks+((Tr.cons c r).AR-1):=by lia
  have:=h b' (by simp[hb,Kp,BX]);rw[<-T]at this;exact this
def LB(prog:Go)(w:KB):HeapKind prog w Tr where
 is:=fun h t a=>t.deep<8/\∃its,h.IsTuple a its.toArray/\Vs h t its
 hash:=BX
 draws:=Tr.AR
 room:=fun A=>A.units+8<cLine
 inj:=fun⟨_,i1,a1,a2⟩ ⟨_,i2,b1,b2⟩=>by
  have:=Iz a1 b1;have e:i1=i2:=by simpa using this
  subst e;exact Vs.inj a2 b2
 keeps:=fun {h h' k a d o es ep} ⟨hd,its,h1,h2⟩ ho hdt sb=>by
  have kt:∀b u,h.get? b=some u->u.cls=.type "tuple" ->(∃x n,u.data=.seq x n)->h'.get? b=some u:=fun b u e _ ⟨x,n,hx⟩=>by
   rw[sb.2 b fun z=>?_]
   .exact e
   .subst z;rw[ho]at e;cases e;rw[hdt]at hx;cases hx
  have kv:∀ {t:Tr} {us:ST},Vs h t us->Vs h' t us:=fun {t}=>by
   induction t with
   |nil=>intro us e;rw[Vs]at e ⊢;exact e
   |cons b r ih1 ih2=>
    intro us e;rw[Vs]at e ⊢;obtain⟨a,its,rest,e1,⟨u,hu,hc,n,hx⟩,e3,e4⟩:=e;exact⟨a,its,rest,e1,⟨u,kt _ _ hu hc ⟨_,n,hx⟩,hc,n,hx⟩,ih1 e3,ih2 e4⟩
  obtain⟨u,hu,hc,n,hx⟩:=h1;exact⟨hd,its,⟨u,kt _ _ hu hc ⟨_,n,hx⟩,hc,n,hx⟩,kv h2⟩
 pyHash:=fun hr ⟨hd,its,h1,h2⟩ h=>OQ (Oi _) h1 h2 AC h
 eqBool:=fun {A E s x y a b Q} hr ⟨hd,its,h1,h2⟩ ⟨_,its2,k1,k2⟩ h=>Sg h1 h2 k1 k2 AC prog w E Q h
 quiet:=fun⟨hd,its,h1,h2⟩ h=>quiet 8 ⟨_,its,_,rfl,h1,h2,hd⟩ h
end
end TH
namespace TH
open PySem PyProof.Rows
def B0:Option Tr->Int
 |none=>4238894112
 |some t=>BX t
def Fs:Option Tr->Nat
 |none=>1
 |some t=>t.AR
def Kf(h:Heap):Option Tr->VL->Prop
 |none,v=>v=.none
 |some t,v=>∃a,v=.ref a/\t.deep<8/\∃g,h.IsTuple a g.toArray/\Vs h t g
abbrev KE:=Option Tr×VL×VL
def EM(x:KE):DictEntry:=⟨B0 x.1,x.2.1,x.2.2⟩
def RK{p:Nat->Bool}{j:Nat}:∀ {n:Nat},j<n->p j=true->(∀i,i<n->p i=true->i=j)->(List.range n).filter p=[j]
 |0,h,_,_=>absurd h yi
 |n+1,h,U,g=>by
  rw[List.range_succ,List.filter_append];by_cases e:j=n
  .subst e;have:(List.range j).filter p=[]:=List.filter_eq_nil_iff.mpr fun i hi T=>by
    have:=aq.mp hi;have:=g i AC T
    lia
   rw[this];simp[U]
  .have hn:p n=false:=by
    cases q:p n with
    |false=>rfl
    |true=>exact absurd (g n AC q).symm e
   rw[RK (show j<n by lia) U fun i hi=>g i AC];simp[hn]
section
variable{prog:Go}{w:KB}{A:OR}{E:tq}{s:SD}{d:AD}{o:Obj}{es:Array DictEntry}{ep:Nat}{xs:List KE}{k:vz}{kv:VL}
def Mq(g:yZ)(j:Nat):es[j]? = (xs[j]?).map EM:=by rw[<-Array.getElem?_toList,g,List.getElem?_map]
def Vt(g:yZ):es.size=xs.length:=by rw[<-Array.length_toList,g,List.length_map]
def UT(Z:yZ)(U:me)(T:∀x∈xs,x.1≠k):placesWithHash es.size (fun i=>es[i]?.map (·.hash)) (B0 k)=[]:=by
 unfold placesWithHash;refine List.filter_eq_nil_iff.mpr fun i hi g=>?_;dsimp only at g;rw[Mq Z]at g;cases q:xs[i]? with
 |none=>rw[q]at g;simp at g
 |some x=>
  rw[q]at g;have Y:=aJ q;have:B0 x.1=B0 k:=by simpa[EM]using g
  exact T x Y (U x Y this)
def Rq(U:yZ)(Y:me)(hn:(xs.map To).Nodup){j:Nat}{x:KE}(T:xs[j]? = some x)(Z:x.1=k):placesWithHash es.size (fun i=>es[i]?.map (·.hash)) (B0 k)=[j]:=by
 unfold placesWithHash;have hl:j<xs.length:=(aD.mp T).1;refine RK (by rw[Vt U];exact hl) (by dsimp only;rw[Mq U,T,<-Z];simp[EM]) fun i hi g=>?_;dsimp only at g;rw[Mq U]at g;cases q:xs[i]? with
 |none=>rw[q]at g;simp at g
 |some y=>
  rw[q]at g;have hy:=Y y (aJ q) (by simpa[EM]using g);have h1:(xs.map To)[i]? = some k:=by rw[List.getElem?_map,q];show some y.1=_;rw[hy]
  have h2:(xs.map To)[j]? = some k:=by rw[List.getElem?_map,T];show some x.1=_;rw[Z]
  exact(List.getElem?_inj (aD.mp h1).1 hn).mp (h1.trans h2.symm)
def TM{Q:t9}(h:Q true s):wpAny AS A (eqBool .none .none) Q E s:=by
 unfold eqBool;rw[if_pos (by rfl)];exact Wb (bQ (aA h))
def Kf.inj{h:Heap}{x y:vz}{v:VL}(a:Kf h x v)(b:Kf h y v):x=y:=by
 cases x with
 |none=>
  cases y with
  |none=>rfl
  |some t=>
   obtain⟨_,e,_⟩:=b;rw[show v=.none from a]at e;cases e
 |some u=>
  cases y with
  |none=>
   obtain⟨_,e,_⟩:=a;rw[show v=.none from b]at e;cases e
  |some t=>
   obtain⟨a1,Y,U⟩:=a;obtain⟨a2,g,T⟩:=b;rw[Y]at g;cases g;obtain⟨_,i1,b1,b2⟩:=U;obtain⟨_,i2,c1,Z⟩:=T;have:i1=i2:=by simpa using Iz b1 c1
   subst this;rw[Vs.inj b2 Z]
def Zt{Q:Option Nat->SD->Prop}(hu:A.units+8<cLine)(hk:zf)(ho:s.heap.get? d=some o)(hd:o.data=.dict es ep)(he:yZ)(his:∀x∈xs,Kf s.heap x.1 x.2.1)(hn:(xs.map To).Nodup)(Y:me) (hno:(∀x∈xs,x.1≠k)->Q none s)(Z:∀(j:Nat) (x:KE),xs[j]? = some x->x.1=k->Q (some j) s):wpAny AS A (dictFind d kv (B0 k)) Q E s:=by
 unfold dictFind
 try with_reducible refine aQ ?_
 refine Wb (wpAny_dictEntries ho hd ?_);cases k with
 |none=>
  have hk:kv=.none:=hk;subst hk;dsimp only;by_cases g:∃x∈xs,x.1=none
  .obtain⟨x,hm,g⟩:=g;obtain⟨j,hj⟩:=bZ.mp hm;have hp:=Rq (k:=none) he Y hn hj g;have T:es[j]? = some ⟨B0 none,.none,x.2.2⟩:=by
    rw[Mq he,hj];have h1:=his x hm;rw[g]at h1;show some (EM x)=_;unfold EM;rw[g,show x.2.1=Value.none from h1]
   rw[hp];rw[if_pos (by simp[T,carriedByValue])];unfold dictWalkPlain;simp only[List.forIn_cons,List.forIn_nil,T];refine Wb (Wb ?_);rw[if_pos As];refine Wb (wpAny_dictEpoch ho hd (Wb (TM (Wb (wpAny_dictEpoch ho hd ?_)))));rw[if_neg As,if_pos rfl];exact Wb (bQ (aA (aA (aA (Z j x hj g)))))
  .have hp:=UT (k:=none) he Y fun x hm z=>g ⟨x,hm,z⟩;rw[hp,if_pos zBy];unfold dictWalkPlain;simp only[List.forIn_nil];exact Wb (aA (aA (hno fun x hm z=>g ⟨x,hm,z⟩)))
 |some t=>
  obtain⟨a,rfl,U⟩:=hk;dsimp only;have hany:¬(es.any fun e=>e.key==Value.ref a&&e.hash != B0 xH)=true:=by
   intro z;rw[<-Array.any_toList,he,List.any_eq_true]at z;obtain⟨e,hm,z⟩:=z;obtain⟨x,g,rfl⟩:=aT.mp hm;rw[Bool.and_eq_true]at z;have h1:x.2.1=.ref a:=by simpa[EM]using z.1
   have h2:=his x g;rw[h1]at h2;have h3:=h2.inj (show Kf s.heap xH Jz from⟨a,rfl,U⟩);have h4:=z.2;rw[EM,h3]at h4;simp at h4
  by_cases g:∃x∈xs,x.1=some t
  .obtain⟨x,hm,g⟩:=g;obtain⟨j,hj⟩:=bZ.mp hm;have hp:=Rq (k:=some t) he Y hn hj g;have h1:=his x hm;rw[g]at h1;obtain⟨b,hb,htb⟩:=h1;have T:es[j]? = some ⟨B0 xH,.ref b,x.2.2⟩:=by
    rw[Mq he,hj];show some (EM x)=_;unfold EM;rw[g,hb]
   have hst:([j].filterMap fun i=>es[i]?.map (·.key))=[.ref b]:=by simp[T]
   rw[hp,hst,if_neg zBy,if_neg hany];by_cases hone:(([Value.ref b]:List VL)==[Value.ref a])=true<;>(first|rw[if_pos hone]|rw[if_neg hone])<;>(first|refine Wb (aA ?_)|refine Wb (wpAny_tableMayTell_quiet (knd:=LB prog w) U (fun v hv=>⟨t,b,List.mem_singleton.mp hv,htb⟩) ?_))<;>(
    rw[if_neg As];simp only[List.forIn_cons,List.forIn_nil,T];refine Wb (Wb ?_);rw[if_pos As];refine Wb (wpAny_dictEpoch ho hd (Wb ((LB prog w).eqBool (x:=t) (y:=t) hu htb U (Wb (wpAny_dictEpoch ho hd ?_)))));rw[if_neg As,if_pos As,if_neg As];refine Wb (bQ ?_);rw[if_pos As];exact aA (aA (aA (Z j x hj g))))
  .have hp:=UT (k:=some t) he Y fun x hm z=>g ⟨x,hm,z⟩;rw[hp,if_neg zBy,if_neg hany];rw[if_neg As];refine Wb (wpAny_tableMayTell_quiet (knd:=LB prog w) U (fun v hv=>by cases hv) ?_);rw[if_neg As];simp only[List.forIn_nil];exact Wb (aA (aA (hno fun x hm z=>g ⟨x,hm,z⟩)))
def cR{Q:Int->SD->Prop}(Y:A.units+8<cLine)(hk:zf)(h:Q (B0 k) wC):wpAny AS A (pyHash kv) Q E s:=by
 cases k with
 |some t=>
  obtain⟨a,rfl,T⟩:=hk;exact(LB prog w).pyHash Y T h
 |none=>
  have hk:kv=.none:=hk;subst hk;have g:s.TypeIs .none "NoneType" := rfl;unfold pyHash pyHashByItsType;have U:[Value.none].any Value.onHeap=false:=rfl;refine Wb ?_;rw[cRoomFor,if_neg (by rw[U];exact aM)];refine aA ?_;refine Wb (bT g F.slot_NoneType_hash.lookup ?_);show wpAny _ _ (if(some (Value.builtin "NoneType.__hash__")==some Value.none)=true then _ else _) Q E s;rw[if_neg (by rw[beq_builtin_none];exact aM)];refine Wb (bT g F.slot_NoneType_hash.lookup ?_);show wpAny _ _ (callSpecialIfBoundUnlessNone? .none "__hash__" _>>=_) Q E s;refine Wb (wpAny_callSpecialIfBoundUnlessNone?_slot g F.slot_NoneType_hash
   (aX F.slot_NoneType_hash g F.entry_NoneType_hash
    (show wpAny _ _ (do ret (<-mkInt 4238894112)) _ _ s from wpAny_ret_mkInt ?_) (F.args_NoneType_hash_1 _)))
  show wpAny _ _ (if(decide (-(2:Int)^63<=4238894112)&&decide ((4238894112:Int)<2^63))=true then _ else _) Q E _;rw[if_pos AT];exact aA h
def Gn(xs:List KE)(k:vz):Option KE:=xs.find? fun x=>decide (x.1=k)
def Q3(hn:(xs.map To).Nodup){j:Nat}{x:KE}(g:xs[j]? = some x)(T:x.1=k):Gn xs k=some x:=by
 unfold Gn;cases q:xs.find? (fun x=>decide (x.1=k)) with
 |none=>exact absurd (decide_eq_true T) (ba.mp q x (aJ g))
 |some y=>
  have Y:y.1=k:=by simpa using List.find?_some q
  obtain⟨i,hi⟩:=bZ.mp (List.mem_of_find?_eq_some q);have U:(xs.map To)[i]? = some k:=by rw[List.getElem?_map,hi];show some y.1=_;rw[Y]
  have Z:(xs.map To)[j]? = some k:=by rw[List.getElem?_map,g];show some x.1=_;rw[T]
  have:=(List.getElem?_inj (aD.mp U).1 hn).mp (U.trans Z.symm);subst this;rw[hi]at g;exact g
def Q0(h:∀x∈xs,x.1≠k):Gn xs k=none:=ba.mpr fun x g=>by simpa using h x g
structure Kj(h:Heap)(d:Addr)(xs:List KE):Prop where
 ob:∃o es ep,h.get? d=some o/\o.ExactDict/\o.data=.dict es ep/\es.toList=xs.map EM
 ks:∀x∈xs,Kf h x.1 x.2.1
 nd:(xs.map To).Nodup
def Kj.ty(hm:zBz):s.TypeIs zAP "dict" := let⟨o,_,_,g,T,_⟩:=hm.ob;⟨o,g,T.1⟩
def gw{Q:Uf}(U:A.units+8<cLine)(hk:zf)(hm:zBz)(T:me)(h:Q ((Gn xs k).map (·.2.2)) wC):wpAny AS A (dictGet d kv) Q E s:=by
 obtain⟨o,es,ep,Y,_,hd,he⟩:=hm.ob;unfold dictGet
 try with_reducible refine aQ ?_
 refine Wb (cR U hk (Wb (Zt (s:={s with toks:=s.toks+Fs k}) U hk Y hd he hm.ks hm.nd T (fun g=>?_) fun j x Z hx=>?_)))
 .rw[Q0 g]at h;exact aA h
 .rw[Q3 hm.nd Z hx]at h;refine Wb (wpAny_dictEntries (s:={s with toks:=s.toks+Fs k}) Y hd ?_);rw[Mq he j,Z];exact aA h
def kO{x:KE}{Q:tq}(U:A.in1.units+8<cLine)(hk:zf)(hm:zBz)(g:me)(T:Gn xs k=some x)(h:Q x.2.2 wC):wpAny AS A (getItem zAP kv) Q E s:=by
 unfold getItem
 try with_reducible refine aQ ?_
 refine Wb (wpAny_sequenceKey hm.ty AT ?_);refine Wb (aY (name:=Str.ofString "__getitem__") hm.ty slot_dict_getitem (aX slot_dict_getitem hm.ty entry_dict_getitem ?_ (args_dict_getitem _ _)));show wpAny _ _ (dictGet d kv>>=_) _ _ s;refine Wb (gw U hk hm g ?_);rw[T];exact aA ⟨x.2.2,rfl,wpAny_pure h⟩
def qr{Q:tq}(U:A.in1.units+8<cLine)(hk:zf)(hd:(d==sysModules)=false)(hm:zBz)(g:me)(neg:Bool) (h:Q (.bool (if neg then !(Gn xs k).isSome else(Gn xs k).isSome)) wC):wpAny AS A (compareOp (if neg then .NotIn else .In) kv zAP) Q E s:=by
 have key:∀ {Q:t9},Q (Gn xs k).isSome wC->wpAny AS A (contains zAP kv) Q E s:=fun {Q} h=>by
  unfold contains
  try with_reducible refine aQ ?_
  refine Wb (bT hm.ty slot_dict_contains.lookup ?_);show wpAny _ _ (if(some (Value.builtin "dict.__contains__")==some Value.none)=true then _ else _) _ E s;rw[if_neg (by rw[beq_builtin_none];exact aM)];refine Wb (wpAny_callSpecialUnlessNone?_slot (name:=Str.ofString "__contains__") hm.ty slot_dict_contains (aX slot_dict_contains hm.ty entry_dict_contains ?_ (args_dict_contains _ _)));show wpAny _ _ (dictGet d kv>>=_) _ _ s;refine Wb (gw U hk hm g ?_);cases T:Gn xs k with
  |some p=>
   rw[T]at h;show wpAny _ _ (ret Iu) _ _ _;exact aA ⟨_,rfl,wpAny_truthy_bool h⟩
  |none=>
   rw[T]at h;show wpAny _ _ (Builtin.Dict.pendingKey? d kv>>=_) _ _ _;exact Wb (wpAny_pendingKey_other hd (aA ⟨_,rfl,wpAny_truthy_bool h⟩))
 cases neg with
 |false=>
  show wpAny _ _ (do return .bool (<-contains zAP kv)) Q E s;exact Wb (key (aA h))
 |true=>
  show wpAny _ _ (do return .bool (!(<-contains zAP kv))) Q E s;exact Wb (key (aA h))
def putN(k:vz)(v:VL)(x:KE):KE:=if x.1=k then(x.1,x.2.1,v) else x
def Ib(xs:List KE)(k:vz)(kv v:VL):List KE:=if(Gn xs k).isSome then xs.map (putN k v) else xs++[(k,kv,v)]
def VC(v:VL):∀xs:List KE,(xs.map (putN k v)).map To=xs.map To
 |[]=>rfl
 |x::xs=>by
  rw[List.map_cons,List.map_cons,List.map_cons,VC v xs]
  congr 1
  unfold putN;split<;>rfl
def Q7{v:VL}:∀ {xs:List KE} {j:Nat} {x:KE},(xs.map To).Nodup->xs[j]? = some x->x.1=k->(xs.map EM).modify j (fun e=>{e with val:=v})=(xs.map (putN k v)).map EM
 |[],_,_,_,h,_=>by simp at h
 |y::ys,0,x,hn,h,g=>by
  have:y=x:=by simpa using h
  subst this;rw[List.map_cons,List.nodup_cons]at hn;rw[List.map_cons,List.map_cons,List.map_cons];have T:ys.map (putN k v)=ys:=by
   refine(au fun z U=>?_).trans (List.map_id _);unfold putN;rw[if_neg fun e=>hn.1 (by rw[g,<-e];exact List.mem_map_of_mem U)]
   rfl
  rw[T];show { EM y with val:=v}::ys.map EM=_
  congr 1
  unfold putN;rw[if_pos g]
  rfl
 |y::ys,j+1,x,hn,h,g=>by
  have h':ys[j]? = some x:=by simpa using h
  rw[List.map_cons,List.nodup_cons]at hn;rw[List.map_cons,List.map_cons,List.map_cons];have Y:putN k v y=y:=by
   unfold putN;rw[if_neg fun e=>hn.1 (by rw[e,<-g];exact List.mem_map_of_mem (aJ h'))]
  rw[Y];show EM y::(ys.map EM).modify j _=_;rw[Q7 hn.2 h' g]
def Kf.keep{h h':Heap}{k:vz}{v:VL}{o:Obj}{es ep}(a:Kf h k v)(prog:Go)(w:KB)(U:h.get? d=some o)(hd:o.data=.dict es ep)(g:Heap.SameBut d h h'):Kf h' k v:=by
 cases k with
 |none=>exact a
 |some t=>
  obtain⟨a1,Y,T⟩:=a;exact⟨a1,Y,(LB prog w).keeps T U hd g⟩
def qP{v:VL}{Q:x8}(hu:A.in1.units+8<cLine)(hk:zf)(hm:zBz)(hap:me)(hz:xs.length<=sizeLine) (hQ:∀h',Kj h' d (Ib xs k kv v)->Heap.SameBut d s.heap h'->Q () {s with heap:=h',toks:=s.toks+Fs k}):wpAny AS A (setItem zAP kv v) Q E s:=by
 unfold setItem
 try with_reducible refine aQ ?_
 refine Wb (wpAny_sequenceKey hm.ty AT ?_);refine Wb (aY (name:=Str.ofString "__setitem__") hm.ty slot_dict_setitem (aX slot_dict_setitem hm.ty entry_dict_setitem ?_ (args_dict_setitem _ _ _)));show wpAny _ _ (Builtin.Dict.notOrdered "__setitem__" ⟨[.ref d,kv,v],[]⟩>>=_) _ _ s;refine Wb (wpAny_notOrdered_dict hm.ty ?_);show wpAny _ _ (dictSet d kv v>>=_) _ _ s;refine Wb ?_;have fin:∀h',Kj h' d (Ib xs k kv v)->Heap.SameBut d s.heap h'->wpAny AS A.in1 (ret .none) (fun fin s'=>∃v,fin=.done (.ret v)/\wpAny AS A (pure ()) Q E s') E {s with heap:=h',toks:=s.toks+Fs k}:=fun h' h1 h2=>aA ⟨.none,rfl,wpAny_pure (hQ h' h1 h2)⟩;obtain⟨o,es,ep,g,hc,hd,Z⟩:=hm.ob;unfold dictSet
 try with_reducible refine aQ ?_
 refine Wb (cR hu hk ?_);unfold dictSetHashed
 try with_reducible refine aQ ?_
 refine Wb (Zt (s:={s with toks:=s.toks+Fs k}) hu hk g hd Z hm.ks hm.nd hap (fun Y=>?_) fun j x hj hx=>?_)
 .have T:Ib xs k kv v=xs++[(k,kv,v)]:=by unfold Ib;rw[Q0 Y];rfl
  rw[T]at fin;refine Wb (bQ (wpAny_updateDictKeys (hz:=by rw[Vt Z];exact hz) (s:={s with toks:=s.toks+Fs k}) g hd (fin _ ⟨⟨_,_,ep+1,Heap.get?_update_self _ g (Obj.isFreed_of_dict (Obj.data_mapDictKeys hd _)),hc.mapDictKeys _,Obj.data_mapDictKeys hd _,?_⟩,fun y U=>?_,?_⟩ (ag ..))))
  .simp[Z,EM]
  .rcases bG.mp U with h|h
   .exact(hm.ks y h).keep prog w g hd (ag ..)
   .rw[List.mem_singleton.mp h];exact hk.keep prog w g hd (ag ..)
  .rw[List.map_append,List.nodup_append];refine⟨hm.nd,by simp,fun a ha b hb=>?_⟩;have:b=k:=by simpa using hb
   subst this;obtain⟨y,U,rfl⟩:=aT.mp ha;exact Y y U
 .have T:Ib xs k kv v=xs.map (putN k v):=by unfold Ib;rw[Q3 hm.nd hj hx];rfl
  rw[T]at fin;refine Wb (bQ (Wb (wpAny_updateDict (s:={s with toks:=s.toks+Fs k}) g hd (wpAny_point (fin _ ⟨⟨_,_,ep,Heap.get?_update_self _ g (Obj.isFreed_of_dict (Obj.data_mapDict hd _)),hc.mapDict _,Obj.data_mapDict hd _,?_⟩,fun y U=>?_,?_⟩ (ag ..))))))
  .have:=Q7 (v:=v) hm.nd hj hx;rw[<-Z]at this;obtain⟨l⟩:=es
   simpa using this
  .obtain⟨z,hz',rfl⟩:=aT.mp U;unfold putN;split<;>exact(hm.ks z hz').keep prog w g hd (ag ..)
  .rw[VC];exact hm.nd
end
end TH
namespace L2
open PySem PySem.Spec PyProof.Rows
abbrev KR:=Option Tr×V×V
def Sk(q:KR)(x:TH.KE):Prop:=x.1=q.1/\RelV q.2.1 x.2.1/\RelV q.2.2 x.2.2
def dN(d:AD)(r:vU):HO:=.ext fun h=>(d==sysModules)=false/\∃o es ep xs,h.get? d=some o/\o.ExactDict/\o.data=.dict es ep/\es.toList=xs.map TH.EM/\PySem.Paired Sk r xs
def KP(H:Hp):Option Tr->V->Prop
 |none,v=>v=.Bq
 |some t,v=>t.deep<8/\Tv H t v
def KP.same{H H':Hp}{k:vz}{v:V}(h:KP H k v)(e:ug):KP H' k v:=by
 cases k with
 |none=>exact h
 |some t=>exact⟨h.1,h.2.same e⟩
structure Vh(H:Hp)(d:Addr)(r:vU)(k:vz):Prop where
 at_:H d=some (dN d r)
 ks:∀q∈r,KP H q.1 q.2.1
 nd:(r.map To).Nodup
 ap:∀q∈r,TH.B0 q.1=TH.B0 k->q.1=k
def RV{α β:Type}{R:zBV}{l:mu}{m:zAe}(h:PySem.Paired R l m):∀x∈m,∃q∈l,R q x:=by
 induction h with
 |nil=>intro x g;cases g
 |cons a _ T=>
  intro x g;rcases aN.mp g with rfl|g
  .exact⟨_,.head _,a⟩
  .obtain⟨q,Y,U⟩:=T x g;exact⟨q,.tail _ Y,U⟩
def UK{r:vU}{xs:List TH.KE}(h:PySem.Paired Sk r xs):xs.map To=r.map To:=by
 induction h with
 |nil=>rfl
 |cons a _ g=>rw[List.map_cons,List.map_cons,g,a.1]
section
variable{X:Cx}{pins:Cl}{σ:St}{H:Hp}{s:SD}{pos:Pos}
def KP.raw(I:BY){k:vz}{v:V}{u:VL}(h:KP H k v)(r:RelV v u):TH.Kf s.heap k u:=by
 cases k with
 |none=>
  have h:v=.Bq:=h;subst h;exact r
 |some t=>
  obtain⟨Z,a,ys,rfl,Y,U⟩:=h;obtain⟨g,T,p,_⟩:=I.tuple (BJ.of (K:=X.K) Y);exact⟨a,r,Z,g,p,U.vs I T⟩
def Ws(I:BY){d:AD}{r:vU}{k:vz}(h:Vh H d r k):(d==sysModules)=false/\∃xs,TH.Kj s.heap d xs/\PySem.Paired Sk r xs/\∀x∈xs,TH.B0 x.1=TH.B0 k->x.1=k:=by
 obtain⟨Z,o,es,ep,xs,g1,g2,g3,g4,g⟩:=(show Cj X.prog X.w H s.heap d (dN d r) from I.Aw d _ h.at_).1;refine⟨Z,xs,⟨⟨o,es,ep,g1,g2,g3,g4⟩,fun x T=>?_,by rw[UK g];exact h.nd⟩,g,fun x T=>?_⟩
 .obtain⟨q,Y,U,h3,_⟩:=RV g x T;rw[U];exact(h.ks q Y).raw I h3
 .obtain⟨q,Y,U,_⟩:=RV g x T;rw[U];exact h.ap q Y
def Qa{r:vU}{xs:List TH.KE}(h:PySem.Paired Sk r xs)(k:vz):match r.find? kS with
  |some q=>∃x,TH.Gn xs k=some x/\RelV q.2.2 x.2.2
  |none=>TH.Gn xs k=none:=by
 induction h with
 |nil=>exact rfl
 | @cons q x l m a _ g=>
  unfold TH.Gn at g ⊢;rw[List.find?_cons,List.find?_cons,a.1];by_cases z:q.1=k
  .simp only[decide_eq_true z];exact⟨x,rfl,a.2.2⟩
  .simp only[decide_eq_false z];exact g
def rj:R2:=fun x y H Q=>∃d r k q,x=.ref d/\KP H k y/\Vh H d r k/\r.find? kS=some q/\Q q.2.2 H
def kQ{o i:Expr}{U ty:TE}(hu:Ty)(ho:PE X o U)(hi:PE X i ty)(hs:lJ i):PE X (.Subscript o i pos) (cS rj U ty):=by
 intro pins s σ H Q I h;refine iT PySem.F.slot_dict_getitem.lookup hs (BV (ho pins s σ H _ I h) fun u s1 ⟨x,H1,I1,rx,q1⟩=>BV (hi pins s1 σ H1 _ I1 q1) fun iv s2 ⟨y,H2,T,Z,q2⟩=>?_);obtain⟨d,r,k,q,rfl,hk,hD,hf,q3⟩:=q2;obtain rfl:u=Value.ref d:=rx;obtain⟨hsm,xs,hm,hp,g⟩:=Ws T hD;have Y:=Qa hp k;rw[hf]at Y;obtain⟨x,h1,h2⟩:=Y;exact⟨hm.ty,TH.kO vV (hk.raw T Z) hm g h1 ⟨q.2.2,H2,T.tok _,h2,q3⟩⟩
def rT(neg:Bool):R2:=fun x y H Q=>∃d r k,y=.ref d/\KP H k x/\Vh H d r k/\Q (.bl (if neg then !(r.find? kS).isSome else(r.find? kS).isSome)) H
def mq(hu:Ty)(neg:Bool):DJ X (compareOp (if neg then .NotIn else .In)) (rT neg):=by
 intro pins s σ H x y v u Q I Z Y h;obtain⟨d,r,k,rfl,hk,hD,q⟩:=h;obtain rfl:u=Value.ref d:=Y;obtain⟨g,xs,hm,hp,U⟩:=Ws I hD;have T:=Qa hp k;have e:(TH.Gn xs k).isSome=(r.find? kS).isSome:=by
  split at T
  .rename_i q e;obtain⟨x,h1,_⟩:=T;rw[h1,e];rfl
  .rename_i e;rw[T,e];rfl
 refine TH.qr vV (hk.raw I Z) g hm U neg ?_;rw[e];exact⟨.bl _,H,I.tok _,rfl,q⟩
def G8(r:vU)(k:vz)(g v:V):List KR:=if(r.find? kS).isSome then r.map (fun q=>if q.1=k then(q.1,q.2.1,v) else q) else r++[(k,g,v)]
def jo{r:vU}{xs:List TH.KE}{k:vz}{T v:V}{U u:VL}(h:PySem.Paired Sk r xs)(hk:RelV T U)(Y:RelV v u):PySem.Paired Sk (G8 r k T v) (TH.Ib xs k U u):=by
 have g:=Qa h k;unfold G8 TH.Ib;split at g
 .rename_i q e;obtain⟨x,Z,_⟩:=g;rw[Z,e];simp only[Option.isSome_some,if_true];clear e Z hk
  induction h with
  |nil=>exact .nil
  | @cons q x l m a _ ih=>
   rw[List.map_cons,List.map_cons];refine .cons ?_ ih;unfold TH.putN;rw[a.1];by_cases z:q.1=k
   .rw[if_pos z,if_pos z];exact⟨rfl,a.2.1,Y⟩
   .rw[if_neg z,if_neg z];exact a
 .rename_i e;rw[g,e];exact h.snoc ⟨rfl,hk,Y⟩
def pj:YY:=fun o i v H Q=>∃d r k,o=.ref d/\KP H k i/\Vh H d r k/\r.length<=1000/\Q (upd H d (dN d (G8 r k i v)))
def lP(hu:Ty):eB X pj:=by
 intro pins s σ H o i v ov iv u Q I ro Z rv h;obtain⟨d,r,k,rfl,hk,hD,hl,q⟩:=h;obtain rfl:ov=Value.ref d:=ro;obtain⟨g,xs,hm,hp,U⟩:=Ws I hD;have hle:xs.length=r.length:=by have:=bO List.length (UK hp);simpa using this
 refine TH.qP vV (hk.raw I Z) hm U (aP (by lia:xs.length<=1000) Nk) fun h' T sb=>?_;obtain⟨o',es,ep,Y,g2,g3,g4⟩:=T.ob;refine⟨_,I.write (x:=d) (e:=d) (o:=dN d (G8 r k i v)) (t':=s.toks+TH.Fs k) (by rw[hD.at_];exact trivial) db (fun b w' hb e=>(sb.2 b hb).trans e) ⟨o',Y⟩ ?_,q⟩;exact⟨⟨g,o',es,ep,_,Y,g2,g3,g4,jo hp Z rv⟩,⟨o',Y⟩,fun h1 h2 ⟨a,o,es,ep,xs,q,r⟩ k=>⟨a,o,es,ep,xs,k _ q,r⟩⟩
def mh:TE:=fun _ H Q=>∀p,H p=none->Q vS (upd H p (dN p []))
def dg:PE X (.Dict [] [] pos) mh:=fun pins s σ H Q I h=>by
 refine wpAny_Dict_empty ⟨.ref s.heap.objs.size,_,I.laid (a:=s.heap.objs.size) (o:=dN s.heap.objs.size []) (t':=s.toks) (fun _ _ q=>aE _ q) UF ?_,rfl,h _ zDs⟩;have hb:sysModules<s.heap.objs.size:=bh AT (I.mod.glob.keeps I.bk).lt;have hn:(s.heap.objs.size==sysModules)=false:=beq_eq_false_iff_ne.mpr (Ne.symm (aI hb));exact⟨⟨hn,_,#[],0,[],Heap.get?_push_size _ rfl,⟨rfl,rfl,rfl⟩,rfl,rfl,.nil⟩,⟨_,Heap.get?_push_size _ rfl⟩,fun U T ⟨a,o,es,ep,xs,q,r⟩ k=>⟨a,o,es,ep,xs,k _ q,r⟩⟩
def find_key{r:vU}{k:vz}{q:KR}(h:r.find? kS=some q):q∈r/\q.1=k:=⟨List.mem_of_find?_eq_some h,by simpa using List.find?_some h⟩
end
section
variable{X:Cx}
def dU(hc:jj):FV X (.builtin "sum") (fun xs H Q=>∃(p:AD) (ns:uB),xs=[.ref p]/\BJ X.K H p jp/\Q (.int ns.sum) H):=by
 intro pins s σ H xs us Q I r h;obtain⟨p,ns,rfl,hq,q⟩:=h;obtain⟨u,rfl,r1⟩:=r.one;cases r1;obtain⟨Y,rv,pl,hz⟩:=I.tuple hq;have hi:=intsAre_of rv;obtain⟨xs,hx⟩:=hi.allInts.items;have g:s.heap.IsTuple p (intItems xs):=hx ▸ pl
 have U:p<s.heap.objs.size:=by obtain⟨_,e,_⟩:=g;exact aF e
 have e1:ns=xs.toList.map To:=by
  rw[<-nums_intItems,<-hx];exact(show numsOf Y.toArray.toList=ns from hi.numsOf).symm
 have e2:preSum (numAt xs) xs.size=ns.sum:=by
  rw[preSum_eq,List.take_of_length_le As,e1]
 refine call_sum_walkG (wpAny_pyIter_tuple g ?_);refine⟨_,[_,p],[_],_,_,_,numAt xs,rfl,Walks.tuple (A:=X.A.in1) SL _ p (aI U) (intItems xs),
  ⟨⟨_,Heap.get?_push_size _ rfl,rfl,rfl⟩,g.push _⟩,fun c T=>?_,(fun _ _=>intItems_at),fun h' tk Z hk=>?_⟩
 .show c<(s.heap.push _).objs.size;rw[Heap.size_push];rcases aN.mp T with rfl|T
  .exact bW _
  .rw[List.mem_singleton.mp T];exact bS U
 .have e3:preSum (numAt xs) (intItems xs).size=ns.sum:=by
   rw[<-e2];simp[intItems]
  rw[e3];exact⟨.int _,H,I.kept (t':=tk) (PyProof.Rows.LSm.kept_iter hk),⟨Z,rfl⟩,q⟩
end
end L2
namespace L2
open PySem PySem.Spec PyProof.Rows
def Rd.same{H H':Hp}{a:AD}{u:HO}(e:ug)(h:Rd H a u):Rd H' a u:=by
 rcases h with h|⟨o,h⟩
 .exact .inl (e _ _ h)
 .exact .inr ⟨o,e _ _ h⟩
def Bs:Tr->List PD
 |.nil=>[]
 |.cons b r=>.tuple (Bs b)::Bs r
def mC:Option Tr->PD
 |none=>.none
 |some t=>.tuple (Bs t)
mutual
def Du(H:Hp):PD->V->Prop
 |.none,v=>v=.Bq
 |.bool b,v=>v=.bl b
 |.int i,v=>v=.int i
 |.str x,v=>v=.str x
 |.tuple T,v=>∃a xs,v=.ref a/\H a=some M2/\Av H T xs
 |.list T,v=>∃a xs,v=.ref a/\H a=some NE/\Av H T xs
 |.dict g,v=>(∃ea C:AD,g=[(.int (C:Nat),.none)]/\v=.ref ea/\H ea=some (NX ea Nq))\/(∃(a:AD) (ns:wq),g=[(.none,.list (ns.map .int))]/\v=.ref a/\Rd H a (.lst jp))\/M3 H g v
def Av(H:Hp):List PD->List V->Prop
 |[],xs=>xs=[]
 |d::g,xs=>∃x r,xs=x::r/\Du H d x/\Av H g r
def M3(H:Hp):List (PD×PD)->V->Prop
 |[],_=>False
 |(g,T)::t,v=>g=.bool true/\T=.none/\∃a r,v=.ref a/\H a=some (dN a r)/\(r.map To).Nodup/\N1 H t r
def N1(H:Hp):List (PD×PD)->List KR->Prop
 |[],r=>r=[]
 |(k,d)::t,r=>∃q g,r=q::g/\k=mC q.1/\KP H q.1 q.2.1/\Du H d q.2.2/\N1 H t g
end
mutual
def Du.same{H H':Hp}(e:ug):∀ {d:PD} {v:V},Du H d v->Du H' d v
 |.none,_,h=>by rw[Du]at h ⊢;exact h
 |.bool _,_,h=>by rw[Du]at h ⊢;exact h
 |.int _,_,h=>by rw[Du]at h ⊢;exact h
 |.str _,_,h=>by rw[Du]at h ⊢;exact h
 |.tuple _,_,h=>by
  rw[Du]at h ⊢;obtain⟨a,xs,T,g,U⟩:=h;exact⟨a,xs,T,e _ _ g,Av.same e U⟩
 |.list _,_,h=>by
  rw[Du]at h ⊢;obtain⟨a,xs,T,g,U⟩:=h;exact⟨a,xs,T,e _ _ g,Av.same e U⟩
 |.dict _,_,h=>by
  rw[Du]at h ⊢;rcases h with ⟨ea,C,T,Y,g⟩|⟨a,ns,T,Y,g⟩|h
  .exact .inl ⟨ea,C,T,Y,e _ _ g⟩
  .exact .inr (.inl ⟨a,ns,T,Y,g.same e⟩)
  .exact .inr (.inr (M3.same e h))
def Av.same{H H':Hp}(e:ug):∀ {ds:vT} {xs:ON},Av H ds xs->Av H' ds xs
 |[],_,h=>by rw[Av]at h ⊢;exact h
 |_::_,_,h=>by
  rw[Av]at h ⊢;obtain⟨x,r,U,T,g⟩:=h;exact⟨x,r,U,Du.same e T,Av.same e g⟩
def M3.same{H H':Hp}(e:ug):∀ {g:List (PD×PD)} {v:V},M3 H g v->M3 H' g v
 |[],_,h=>by rw[M3]at h;exact h.elim
 |(_,_)::_,_,h=>by
  rw[M3]at h ⊢;obtain⟨h1,h2,a,r,Z,Y,U,T⟩:=h;exact⟨h1,h2,a,r,Z,e _ _ Y,U,N1.same e T⟩
def N1.same{H H':Hp}(e:ug):∀ {g:List (PD×PD)} {r:vU},N1 H g r->N1 H' g r
 |[],_,h=>by rw[N1]at h ⊢;exact h
 |(_,_)::_,_,h=>by
  rw[N1]at h ⊢;obtain⟨q,T,h1,h2,Z,Y,U⟩:=h;exact⟨q,T,h1,h2,Z.same e,Du.same e Y,N1.same e U⟩
end
mutual
def Du.br{K:Fg}{H:Hp}:∀ {d:PD} {v:V},d.canLay0=true->Du H d v->Br K H d v
 |.none,_,_,h=>by rw[Du]at h;rw[Br];exact h
 |.bool _,_,_,h=>by rw[Du]at h;rw[Br];exact h
 |.int _,_,_,h=>by rw[Du]at h;rw[Br];exact h
 |.str _,_,_,h=>by rw[Du]at h;rw[Br];exact h
 |.tuple _,_,c,h=>by
  rw[Du]at h;rw[Br];obtain⟨a,xs,U,T,g⟩:=h;exact⟨a,xs,U,BJ.of T,Av.br wm g⟩
 |.list _,_,c,h=>by
  rw[Du]at h;rw[Br];obtain⟨a,xs,U,T,g⟩:=h;exact⟨a,xs,U,Ar.of T,Av.br wm g⟩
 |.dict _,_,c,h=>by simp[PyData.canLay0]at c
def Av.br{K:Fg}{H:Hp}:∀ {ds:vT} {xs:ON},PyData.canLayAll0 ds=true->Av H ds xs->HD K H ds xs
 |[],_,_,h=>by rw[Av]at h;rw[HD];exact h
 |_::_,_,c,h=>by
  rw[Av]at h;rw[HD];obtain⟨x,r,U,T,g⟩:=h;simp only[PyData.canLayAll0,Bool.and_eq_true]at c;exact⟨x,r,U,Du.br c.1 T,Av.br c.2 g⟩
end
def Av.nil{H:Hp}:Av H [] []:=by rw[Av]
def Av.cons{H:Hp}{d:PD}{ds:tj}{x:V}{xs:uI}(h:Du H d x)(k:Av H ds xs):Av H (d::ds) (x::xs):=by rw[Av];exact⟨x,xs,rfl,h,k⟩
def Av.un{H:Hp}{d:PD}{ds:tj}{xs:uI}(h:Av H (d::ds) xs):∃x r,xs=x::r/\Du H d x/\Av H ds r:=by rw[Av]at h;exact h
def Av.nil_eq{H:Hp}{xs:uI}(h:Av H [] xs):xs=[]:=by rw[Av]at h;exact h
def Av.len{H:Hp}:∀ {ds:vT} {xs:ON},Av H ds xs->xs.length=ds.length
 |[],_,h=>by rw[h.nil_eq];rfl
 |_::_,_,h=>by obtain⟨x,r,rfl,_,g⟩:=h.un;simp[g.len]
def Av.get{H:Hp}:∀ {ds:vT} {xs:ON} {i:Nat} {d:PD},Av H ds xs->ds[i]? = some d->∃v,xs[i]? = some v/\Du H d v
 |[],_,i,_,_,e=>by simp at e
 |_::_,_,0,_,h,e=>by
  obtain⟨x,r,rfl,Y,_⟩:=h.un;simp at e;subst e;exact⟨x,rfl,Y⟩
 |_::_,_,i+1,_,h,e=>by
  obtain⟨x,r,rfl,_,U⟩:=h.un;obtain⟨v,T,g⟩:=U.get (i:=i) vH;exact⟨v,by simpa using T,g⟩
def Av.back{H:Hp}{ds:tj}{xs:uI}{i:Nat}{v:V}(h:Av H ds xs)(e:xs[i]? = some v):∃d,ds[i]? = some d/\Du H d v:=by
 have U:=h.len;have hi:i<ds.length:=by rw[<-U];exact(aD.mp e).1
 have hd:ds[i]? = some ds[i]:=by simp[hi]
 obtain⟨w,g,T⟩:=h.get hd;rw[e]at g;cases g;exact⟨_,hd,T⟩
def Av.app{H:Hp}:∀ {ds es:vT} {xs ys:ON},Av H ds xs->Av H es ys->Av H (ds++es) zM
 |[],_,_,_,h,k=>by rw[h.nil_eq];exact k
 |_::_,_,_,_,h,k=>by obtain⟨x,r,rfl,T,g⟩:=h.un;exact .cons T (g.app k)
def Av.take{H:Hp}:∀ {ds:vT} {xs:ON} (i:Nat),Av H ds xs->Av H (ds.take i) (xs.take i)
 |_,_,0,_=>by rw[List.take_zero,List.take_zero];exact .nil
 |[],_,i+1,h=>by rw[h.nil_eq];exact .nil
 |_::_,_,i+1,h=>by obtain⟨x,r,rfl,T,g⟩:=h.un;exact .cons T (g.take i)
def Av.drop{H:Hp}:∀ {ds:vT} {xs:ON} (i:Nat),Av H ds xs->Av H (ds.drop i) (xs.drop i)
 |_,_,0,h=>h
 |[],_,i+1,h=>by rw[h.nil_eq];exact .nil
 |_::_,_,i+1,h=>by obtain⟨x,r,rfl,T,g⟩:=h.un;exact g.drop i
inductive Oc where
 |lst (xs:List PyData)|j9 (kvs:List (List Key×PyData))|cZ (kvs:List (Option Tr×PyData))
inductive L where
 |no|d (x:PyData)|own (c:Oc)
abbrev Dv:=List L
abbrev tY:=Dv->Option sw
abbrev tZ:=Dv->Option PD
abbrev tf:=Dv->Option Bool
def TK(G:Hp):List (List Key×PD)->List (List Key×V)->Prop
 |[],r=>r=[]
 |q::t,r=>∃v g,r=(q.1,v)::g/\Du G q.2 v/\TK G t g
def TK.same{G g:Hp}(e:AL G g):∀ {t:List (List Key×PD)} {r:List (List Key×V)},TK G t r->TK g t r
 |[],r,h=>h
 |q::t,r,h=>by
  obtain⟨v,T,rfl,Y,U⟩:=h;exact⟨v,T,rfl,Y.same e,TK.same e U⟩
abbrev gG(kvs:List (Option Tr×PD)):List (PD×PD):=kvs.map fun q=>(mC q.1,q.2)
abbrev ZQ(kvs:List (Option Tr×PD)):PD:=.dict ((.bool true,.none)::gG kvs)
def KS(G:Hp)(a:AD):Oc->HO->Prop
 |.lst xs,o=>∃ys,o=.lst ys/\Av G xs ys
 |.j9 kvs,o=>∃r,o=.dT r/\TK G kvs r
 |.cZ kvs,o=>∃r,o=dN a r/\(r.map To).Nodup/\N1 G (gG kvs) r
def KS.same{G U:Hp}{a:AD}{c:Oc}{o:HO}(h:KS G a c o)(e:AL G U):KS U a c o:=by
 cases c with
 |cZ kvs=>obtain⟨r,T,g,Y⟩:=h;exact⟨r,T,g,N1.same e Y⟩
 |lst xs=>obtain⟨ys,T,g⟩:=h;exact⟨ys,T,g.same e⟩
 |j9 kvs=>obtain⟨ys,T,g⟩:=h;exact⟨ys,T,g.same e⟩
def KS.VN{G:Hp}{a:AD}{c:Oc}{xs:uI}(h:KS G a c M2):False:=by
 cases c with
 |cZ kvs=>obtain⟨r,g,T,U⟩:=h;unfold dN at g;cases g
 |lst xs=>obtain⟨ys,g,T⟩:=h;cases g
 |j9 kvs=>obtain⟨ys,g,T⟩:=h;cases g
def Nw(G0 H0 G:Hp):Prop:=∀a o,G a=some o->G0 a=some o\/H0 a=none\/∃xs,o=HO.tup xs
structure Rw(G0 H0 G H:Hp)(σ:St)(δ:Dv)(ts:List (PyData×V)):Prop where
 ext:AL G0 G
 new:Nw G0 H0 G
 ins:AL G H
 keep:AL H0 H
 len:σ.length=δ.length
 dat:∀(i:Nat) (x:PyData),δ[i]? = some (L.d x)->∃v,σ[i]? = some xp/\Du G x v
 own:∀(i:Nat) (xs:Oc),δ[i]? = some (L.own xs)->∃(a:Addr) (ys:HO),σ[i]? = some (some (V.ref a))/\G a=none/\H0 a=none/\H a=some ys/\KS G a xs ys
 apart:∀(i j:Nat) (xs ys:Oc),i≠j->δ[i]? = some (L.own xs)->δ[j]? = some (L.own ys)->σ[i]?≠σ[j]?
 CL:∀p∈ts,Du G p.1 p.2
def DE(X:Cx)(e:Expr)(f:tZ):Prop:=∃t,PE X e t/\∀δ x,f δ=some x->∀G0 H0 G H σ ts (Q:VK),Rw G0 H0 G H σ δ ts->(∀v g H',Rw G0 H0 g H' σ δ ((x,v)::ts)->Q v H')->t σ H Q
def DA(X:Cx)(es:uD)(f:tY):Prop:=∃t,PA X es t/\∀δ xs,f δ=some xs->∀G0 H0 G H σ ts (Q:List V->Hp->Prop),Rw G0 H0 G H σ δ ts->(∀vs g H',Rw G0 H0 g H' σ δ (xs.zip vs++ts)->vs.length=xs.length->Q vs H')->t σ H Q
def DT(X:Cx)(e:Expr)(f:tf):Prop:=∃t,PT X e t/\∀δ b,f δ=some b->∀G0 H0 G H σ ts (Q:zY),Rw G0 H0 G H σ δ ts->(∀g H',Rw G0 H0 g H' σ δ ts->Q b H')->t σ H Q
section
variable{G0 H0 G H:Hp}{σ:St}{δ:Dv}{ts:Sc}
def Rw.drop{p:PD×V}(r:Rw G0 H0 G H σ δ (p::ts)):Rw G0 H0 G H σ δ ts:={r with CL:=fun q g=>r.CL q (.tail _ g)}
def Rw.less{us:Sc}(r:IS)(h:∀p∈us,p∈ts):Rw G0 H0 G H σ δ us:={r with CL:=fun q g=>r.CL q (h q g)}
def Rw.put{x:PD}{v:V}(r:IS)(h:Du G x v):Rw G0 H0 G H σ δ ((x,v)::ts):={r with CL:=fun q g=>by rcases aN.mp g with rfl|g;exact h;exact r.CL q g}
def Rw.newObj{p:AD}{o:HO}(r:IS)(g:H p=none):Rw G0 H0 (upd G p o) (upd H p o) σ δ ts:=by
 have hG:G p=none:=by
  cases q:G p with
  |none=>rfl
  |some u=>rw[r.ins _ _ q]at g;cases g
 have h0:H0 p=none:=by
  cases q:H0 p with
  |none=>rfl
  |some u=>rw[r.keep _ _ q]at g;cases g
 have e:AL G (upd G p o):=Al hG o;refine⟨r.ext.trans e,fun a u h=>?_,fun a u h=>?_,r.keep.trans (Al g o),r.len,fun i x h=>?_,fun i xs h=>?_,r.apart,fun q hq=>(r.CL q hq).same e⟩
 .by_cases ha:a=p
  .subst ha;exact .inr (.inl h0)
  .rw[AK ha]at h;exact r.new _ _ h
 .by_cases ha:a=p
  .subst ha;rw[AU]at h ⊢;exact h
  .rw[AK ha]at h ⊢;exact r.ins _ _ h
 .obtain⟨v,U,T⟩:=r.dat i x h;exact⟨v,U,T.same e⟩
 .obtain⟨a,ys,U,T,Z,Y,k5⟩:=r.own i xs h;have ha:a≠p:=fun z=>by subst z;rw[Y]at g;cases g
  exact⟨a,ys,U,by rw[AK ha];exact T,Z,by rw[AK ha];exact Y,k5.same e⟩
def Rw.mF{p:AD}{xs:uI}{H':Hp}(r:IS)(e:ug)(g:H' p=some M2):Rw G0 H0 (upd G p M2) H' σ δ ts:=by
 have T:AL G (upd G p M2):=fun a o h=>by
  by_cases ha:a=p
  .subst ha;have:=e _ _ (r.ins _ _ h);rw[g]at this;rw[AU];exact this
  .rw[AK ha];exact h
 refine⟨r.ext.trans T,fun a u h=>?_,fun a u h=>?_,r.keep.trans e,r.len,fun i x h=>?_,fun i xs h=>?_,r.apart,fun q hq=>(r.CL q hq).same T⟩
 .by_cases ha:a=p
  .subst ha;rw[AU]at h;cases h;exact .inr zBe
  .rw[AK ha]at h;exact r.new _ _ h
 .by_cases ha:a=p
  .subst ha;rw[AU]at h;rw[g];exact h
  .rw[AK ha]at h;exact e _ _ (r.ins _ _ h)
 .obtain⟨v,Y,U⟩:=r.dat i x h;exact⟨v,Y,U.same T⟩
 .obtain⟨a,ys,Y,U,k3,Z,k5⟩:=r.own i xs h;have ha:a≠p:=fun z=>by subst z;rw[e _ _ Z]at g;cases g;exact k5.VN
  exact⟨a,ys,Y,by rw[AK ha];exact U,k3,e _ _ Z,k5.same T⟩
def Rw.lift{g H':Hp}(r:IS)(T:AL G g)(h2:Nw G H g)(h3:AL g H')(h4:ug):Rw G0 H0 g H' σ δ ts:=by
 refine⟨r.ext.trans T,fun a o h=>?_,h3,r.keep.trans h4,r.len,fun i x h=>?_,fun i xs h=>?_,r.apart,fun q hq=>(r.CL q hq).same T⟩
 .rcases h2 a o h with k|k|k
  .exact r.new a o k
  .right;left
   cases q:H0 a with
   |none=>rfl
   |some u=>rw[r.keep _ _ q]at k;cases k
  .exact .inr (.inr k)
 .obtain⟨v,Z,Y⟩:=r.dat i x h;exact⟨v,Z,Y.same T⟩
 .obtain⟨a,ys,Z,Y,k3,U,k5⟩:=r.own i xs h;refine⟨a,ys,Z,?_,k3,h4 _ _ U,k5.same T⟩;cases q:g a with
  |none=>rfl
  |some u=>
   rcases h2 a u q with z|z|⟨xs',z⟩
   .rw[Y]at z;cases z
   .rw[U]at z;cases z
   .have:=h3 _ _ q;rw[h4 _ _ U,z]at this;cases this;exact k5.VN.elim
end
section
variable{X:Cx}{a b e:Expr}{f g h:tZ}{pos:Pos}
def AJ{i j pos}:DE X (.Constant vR j pos) (fun _=>some vR):=⟨_,AY,fun δ x h G0 H0 G H σ ts Q r k=>by cases h;exact k _ _ _ (r.put Pb)⟩
def Gs{i j pos}:DE X (.Constant (.bool i) j pos) (fun _=>some (.bool i)):=⟨_,Jk,fun δ x h G0 H0 G H σ ts Q r k=>by cases h;exact k _ _ _ (r.put Pb)⟩
def F3{j pos}:DE X (.Constant .none j pos) (fun _=>some .none):=⟨_,nU,fun δ x h G0 H0 G H σ ts Q r k=>by cases h;exact k _ _ _ (r.put Pb)⟩
def Ce{i j pos}:DE X (.Constant (.str i) j pos) (fun _=>some (.str i)):=⟨_,lK,fun δ x h G0 H0 G H σ ts Q r k=>by cases h;exact k _ _ _ (r.put Pb)⟩
def nm(i:Nat)(δ:Dv):t8:=match δ[i]? with|some (.d x)=>some x|_=>none
def o8{i:Nat}{δ:Dv}{x:PD}(h:nm i δ=some x):δ[i]? = some (.d x):=by
 unfold nm at h;split at h
 .rename_i y e;cases h;exact e
 .cases h
def AE{i:Nat}{x:Str}(h:PE X ur (QP i)):DE X ur (nm i):=⟨_,h,fun δ y T G0 H0 G H σ ts Q r k=>by
 obtain⟨v,Y,U⟩:=r.dat _ _ (o8 T);exact⟨v,Y,k _ _ _ (r.put U)⟩⟩
def AQ(o:re)(f g:tZ)(δ:Dv):t8:=(f δ).bind fun x=>(g δ).bind fun y=>o x y
def Ea(X:Cx)(m:u4)(o:re):Prop:=∃r:R2,DJ X m r/\∀x y z,o x y=some z->∀G0 H0 G H σ δ ts u v (Q:VK),Rw G0 H0 G H σ δ ts->Du G x u->Du G y v->(∀w T H',Rw G0 H0 T H' σ δ ((z,w)::ts)->Q w H')->r u v H Q
def two{x y:PD}{f g:tZ}{δ:Dv}{o:re}{z:PD}(h:AQ o f g δ=some z):∃x y,f δ=some x/\g δ=some y/\o x y=some z:=by
 unfold AQ at h;obtain⟨x,Z,Y⟩:=aB.mp h;obtain⟨y,U,T⟩:=aB.mp Y;exact⟨x,y,Z,U,T⟩
def A1{op:Operator}{o:re}(ho:Ea X (binaryOp op) o)(ha:zg)(hb:DE X b g):DE X (.BinOp a op b pos) (AQ o f g):=by
 obtain⟨r,hr,Y⟩:=ho;obtain⟨ta,U,ka⟩:=ha;obtain⟨tb,T,Z⟩:=hb;refine⟨_,A2 hr U T,fun δ z hz G0 H0 G H σ ts Q R0 k=>?_⟩;obtain⟨x,y,h1,h2,h3⟩:=two (x:=.none) (y:=.none) hz;refine ka δ x h1 G0 H0 G H σ ts _ R0 fun u G1 H1 R1=>?_;refine Z δ y h2 G0 H0 G1 H1 σ _ _ R1 fun v G2 H2 R2=>?_;exact Y x y z h3 G0 H0 G2 H2 σ δ ts u v Q (R2.drop.drop) (R2.CL (x,u) zCx) (R2.CL (y,v) KM) k
def Me{op:CmpOp}{o:re}(ho:Ea X (compareOp op) o)(ha:zg)(hb:DE X b g)(hm:yg):DE X yI (AQ o f g):=by
 obtain⟨r,hr,Y⟩:=ho;obtain⟨ta,U,ka⟩:=ha;obtain⟨tb,T,Z⟩:=hb;refine⟨_,O2 hr U T hm,fun δ z hz G0 H0 G H σ ts Q R0 k=>?_⟩;obtain⟨x,y,h1,h2,h3⟩:=two (x:=.none) (y:=.none) hz;refine ka δ x h1 G0 H0 G H σ ts _ R0 fun u G1 H1 R1=>?_;refine Z δ y h2 G0 H0 G1 H1 σ _ _ R1 fun v G2 H2 R2=>?_;exact Y x y z h3 G0 H0 G2 H2 σ δ ts u v Q (R2.drop.drop) (R2.CL (x,u) zCx) (R2.CL (y,v) KM) k
end
section
variable{X:Cx}
def NA(o o':re)(x y:PD):t8:=match o x y with|some z=>some z|none=>o' x y
def Ea.or{m:u4}{o o':re}(h:Ea X m o)(h':Ea X m o'):Ea X m (NA o o'):=by
 obtain⟨r,hr,kr⟩:=h;obtain⟨r',U,T⟩:=h';refine⟨_,DJ.or hr U,fun x y z g G0 H0 G H σ δ ts u v Q Z du Y k=>?_⟩;unfold NA at g;split at g
 .rename_i z' e;cases g;exact .inl (kr x y z e G0 H0 G H σ δ ts u v Q Z du Y k)
 .exact .inr (T x y z g G0 H0 G H σ δ ts u v Q Z du Y k)
def PF{m:u4}{C:Int->Int->Prop}{T:Int->Int->V}{o:Int->Int->Option PD}(Y:DJ X m (rI C T))(Z:∀i j z,o i j=some z->C i j/\∀H,Du H z (T i j)) :
  Ea X m (fun x y=>match x,y with|.int i,.int j=>o i j|_,_=>none):=by
 refine⟨_,Y,fun x y z g G0 H0 G H σ δ ts u v Q R0 du U k=>?_⟩;dsimp only at g;split at g
 .rename_i i j;rw[Du]at du U;obtain⟨h1,h2⟩:=Z i j z g;exact⟨i,j,du,U,h1,k _ _ _ (R0.put (h2 _))⟩
 .cases g
def Lg{m:u4}{T:Int->Int->V}{o:Int->Int->PD}(Y:DJ X m (UG T))(Z:∀i j H,Du H (o i j) (T i j)) :
  Ea X m (fun x y=>match x,y with|.int i,.int j=>some (o i j)|_,_=>none):=by
 refine⟨_,Y,fun x y z g G0 H0 G H σ δ ts u v Q R0 du U k=>?_⟩;dsimp only at g;split at g
 .rename_i i j;cases g;rw[Du]at du U;exact⟨i,j,du,U,k _ _ _ (R0.put (Z _ _ _))⟩
 .cases g
def CI:Nat:=1000
def SU{n:Nat}(h:n<=CI):n<sizeLine:=T6 h
def GY{n:Nat}(h:n<=CI):n<=sizeLine:=bC (T6 h)
def fq:PD->PD->Option PD:=fun x y=>match x,y with|.int i,.int j=>some (.int (i+j))|_,_=>none
def Yi:PD->PD->Option PD:=fun x y=>match x,y with|.int i,.int j=>some (.int (i-j))|_,_=>none
def J8(n:Nat)(i:Int):Bool:=decide (i.natAbs<2^n)
def PR(i j:Int):Bool:=J8 64 i||J8 64 j||(J8 9000 i&&J8 9000 j)
def Yz:PD->PD->Option PD:=fun x y=>match x,y with|.int i,.int j=>(if PR i j=true then some zBJ else none)|_,_=>none
def oH:PD->PD->Option PD:=fun x y=>match x,y with|.int i,.int j=>(if j≠0/\J8 9000 j=true then some (.int (i.fdiv j)) else none)|_,_=>none
def IP:PD->PD->Option PD:=fun x y=>match x,y with|.int i,.int j=>(if j≠0 then some (.int (i.fmod j)) else none)|_,_=>none
def Oq:PD->PD->Option PD:=fun x y=>match x,y with|.int i,.int j=>(if 0<=j/\j<=1000/\J8 64 i=true then some (.int (i^j.toNat)) else none)|_,_=>none
def j7:Ea X vd fq:=Lg Fu fun _ _ _=>by rw[Du]
def Xn:Ea X (binaryOp .Sub) Yi:=Lg RF fun _ _ _=>by rw[Du]
def f7{i:Int}(h:J8 64 i=true):-(2^64)<i/\i<2^64:=by
 have:=ay h
 lia
def i5:Ea X zw Yz:=PF (o:=fun i j=>if PR i j=true then some zBJ else none) Cy fun i j z h=>by
 split at h
 .rename_i q;cases h;refine⟨?_,fun _=>by rw[Du]⟩;unfold PR at q;rw[Bool.or_eq_true,Bool.or_eq_true,Bool.and_eq_true]at q;rcases q with (q|q)|q
  .exact .inl (.inl (f7 q))
  .exact .inl (.inr (f7 q))
  .exact .inr ⟨9000,by decide,of_decide_eq_true q.1,of_decide_eq_true q.2⟩
 .cases h
def iz:Ea X (binaryOp .FloorDiv) oH:=PF (o:=fun i j=>if j≠0/\J8 9000 j=true then some (.int (i.fdiv j)) else none) Fb fun i j z h=>by
 split at h
 .rename_i q;cases h;exact⟨⟨q.1,9000,Nat.le_refl _,of_decide_eq_true q.2⟩,fun _=>by rw[Du]⟩
 .cases h
def Jc:Ea X (binaryOp .Mod) IP:=PF (o:=fun i j=>if j≠0 then some (.int (i.fmod j)) else none) Mi fun i j z h=>by
 split at h
 .rename_i q;cases h;exact⟨q,fun _=>by rw[Du]⟩
 .cases h
def Sv:Ea X (binaryOp .Pow) Oq:=PF (o:=fun i j=>if 0<=j/\j<=1000/\J8 64 i=true then some (.int (i^j.toNat)) else none) RU fun i j z h=>by
 split at h
 .rename_i q;cases h;exact⟨⟨q.1,by lia,of_decide_eq_true q.2.2⟩,fun _=>by rw[Du]⟩
 .cases h
def Ey(p:Int->Int->Bool):PD->PD->Option PD:=fun x y=>match x,y with|.int i,.int j=>some (.bool (p i j))|_,_=>none
def Rl:Ea X (compareOp .Lt) OB:=Lg (o:=fun i j=>.bool (decide (i<j))) SE fun _ _ _=>by rw[Du]
def Q9:Ea X (compareOp .Gt) uy:=Lg (o:=fun i j=>.bool (decide (j<i))) Uu fun _ _ _=>by rw[Du]
def gI:Ea X (compareOp .GtE) xg:=Lg (o:=fun i j=>.bool (decide (j<=i))) Y4 fun _ _ _=>by rw[Du]
def MO:PD->PD->Option PD:=fun x y=>match x,y with|.list a,.list b=>(if a.length+b.length<=CI then some (.list (a++b)) else none)|_,_=>none
def i4:Ea X vd MO:=by
 refine⟨_,VG,fun x y z g G0 H0 G H σ δ ts u v Q U du dv k=>?_⟩;unfold MO at g;split at g
 .rename_i a b;split at g
  .rename_i hl;cases g;rw[Du]at du dv;obtain⟨p,xs,rfl,h1,Z⟩:=du;obtain⟨q,ys,rfl,h3,Y⟩:=dv;refine⟨p,q,xs,ys,rfl,rfl,U.ins _ _ h1,U.ins _ _ h3,GY (by rw[Z.len,Y.len];exact hl),fun l T=>?_⟩;have R1:=U.newObj (o:=.lst zM) T;refine k _ _ _ (R1.put ?_);rw[Du];have e:AL G (upd G l (.lst zM)):=fun a o h=>by
    have:=U.ins _ _ h;rw[AK (AW this T)];exact h
   exact⟨l,xs++ys,rfl,AU,(Z.same e).app (Y.same e)⟩
  .cases g
 .cases g
def PB:PD->PD->Option PD:=fun x y=>match x,y with|.tuple a,.tuple b=>(if a.length+b.length<=CI then some (.tuple (a++b)) else none)|_,_=>none
def jH:Ea X vd PB:=by
 refine⟨_,jy,fun x y z g G0 H0 G H σ δ ts u v Q T du dv k=>?_⟩;unfold PB at g;split at g
 .rename_i a b;split at g
  .rename_i hl;cases g;rw[Du]at du dv;obtain⟨p,xs,rfl,h1,Z⟩:=du;obtain⟨q,ys,rfl,h3,Y⟩:=dv;refine⟨p,q,xs,ys,rfl,rfl,T.ins _ _ h1,T.ins _ _ h3,GY (by rw[Z.len,Y.len];exact hl),fun l H' e U=>?_⟩;have R1:=T.mF e U;refine k _ _ _ (R1.put ?_);rw[Du];have e1:AL G (upd G l (.tup zM)):=fun a o h=>by
    by_cases ha:a=l
    .subst ha;have:=e _ _ (T.ins _ _ h);rw[U]at this;rw[AU];exact this
    .rw[AK ha];exact h
   exact⟨l,xs++ys,rfl,AU,(Z.same e1).app (Y.same e1)⟩
  .cases g
 .cases g
def VT:PD->PD->Option PD:=fun x y=>match x,y with|.str a,.str b=>(if a.length+b.length<=CI then some (.str (a++b)) else none)|_,_=>none
def jd:Ea X vd VT:=by
 refine⟨_,Yx,fun x y z g G0 H0 G H σ δ ts u v Q Y du T k=>?_⟩;unfold VT at g;split at g
 .rename_i a b;split at g
  .rename_i U;cases g;rw[Du]at du T;exact⟨a,b,du,T,GY U,k _ _ _ (Y.put Pb)⟩
  .cases g
 .cases g
def A7:PD->PD->Option PD:=NA fq (NA MO (NA PB VT))
def BN:Ea X vd A7:=j7.or (i4.or (jH.or jd))
def Yl:PD->PD->Option PD:=fun x y=>match x,y with|.list a,.int k=>(if a.length*k.toNat<=CI/\-1000000<=k/\k<=1000000 then some (.list (List.replicate k.toNat a).flatten) else none)|_,_=>none
def Av.rep{H:Hp}{ds:vT}{xs:ON}(h:Av H ds xs):∀n,Av H (List.replicate n ds).flatten (List.replicate n xs).flatten
 |0=>.nil
 |n+1=>by rw[List.replicate_succ,List.replicate_succ,List.flatten_cons,List.flatten_cons];exact h.app (h.rep n)
def ir:Ea X zw Yl:=by
 refine⟨_,cH,fun x y z g G0 H0 G H σ δ ts u v Q U du Z k=>?_⟩;unfold Yl at g;split at g
 .rename_i a n;split at g
  .rename_i hl;cases g;rw[Du]at du;rw[Du]at Z;obtain⟨p,xs,rfl,h1,Y⟩:=du;subst Z;refine⟨p,n,xs,rfl,rfl,U.ins _ _ h1,by lia,by lia,GY (by rw[Y.len];exact hl.1),fun l T=>?_⟩;have R1:=U.newObj (o:=.lst (List.replicate n.toNat xs).flatten) T;refine k _ _ _ (R1.put ?_);rw[Du];have e:AL G (upd G l (.lst (List.replicate n.toNat xs).flatten)):=fun a o h=>by
    have:=U.ins _ _ h;rw[AK (AW this T)];exact h
   exact⟨l,_,rfl,AU,(Y.same e).rep _⟩
  .cases g
 .cases g
def Fc:PD->PD->Option PD:=NA Yz Yl
def LU:Ea X zw Fc:=i5.or ir
def Tn{d:PD}(h:SeqAt.shaped d=true):d.canLay0=true:=by unfold SeqAt.shaped at h;rw[Bool.and_eq_true]at h;exact h.1
def Er(neg:Bool):PD->PD->Option PD:=fun x y=>if SeqAt.shaped x=true/\SeqAt.shaped y=true then some (.bool (if neg then !PyData.eqv x y else PyData.eqv x y)) else none
def Z8{m:u4}{neg:Bool}(Y:DJ X m (eU X.K neg)):Ea X m (Er neg):=by
 refine⟨_,Y,fun x y z g G0 H0 G H σ δ ts u v Q U du Z k=>?_⟩;unfold Er at g;split at g
 .rename_i T;cases g;exact⟨x,y,(du.same U.ins).br (Tn T.1),(Z.same U.ins).br (Tn T.2),T.1,T.2,k _ _ _ (U.put Pb)⟩
 .cases g
def O4(g:Ty):Ea X (compareOp .Eq) (Er false):=Z8 (kD g)
def Kk(g:Ty):Ea X (compareOp .NotEq) yE:=Z8 (kX g)
def PyData.dk:PD->Bool
 |.none=>true
 |_=>false
def cP{H:Hp}:∀ {x:PD} {u:V},Du H x u->decide (u=.Bq)=PyData.dk x
 |.none,u,h=>by rw[Du]at h;subst h;rfl
 |.bool _,u,h=>by rw[Du]at h;subst h;rfl
 |.int _,u,h=>by rw[Du]at h;subst h;rfl
 |.str _,u,h=>by rw[Du]at h;subst h;rfl
 |.tuple _,u,h=>by rw[Du]at h;obtain⟨a,xs,rfl,_⟩:=h;rfl
 |.list _,u,h=>by rw[Du]at h;obtain⟨a,xs,rfl,_⟩:=h;rfl
 |.dict [],u,h=>by rw[Du,M3]at h;rcases h with ⟨ea,C,_,rfl,_⟩|⟨a,ns,_,rfl,_⟩|h;rfl;rfl;exact h.elim
 |.dict ((_,_)::_),u,h=>by rw[Du,M3]at h;rcases h with ⟨ea,C,_,rfl,_⟩|⟨a,ns,_,rfl,_⟩|⟨_,_,a,r,rfl,_⟩<;>rfl
def P6(neg:Bool):PD->PD->Option PD:=fun x y=>match y with
 |.none=>some (.bool (if neg then !PyData.dk x else PyData.dk x))
 |_=>none
def gA:Ea X (compareOp .Is) (P6 false):=by
 refine⟨_,mJ,fun x y z g G0 H0 G H σ δ ts u v Q U du T k=>?_⟩;unfold P6 at g;split at g
 .cases g;rw[Du]at T;refine⟨T,?_⟩;rw[cP du];exact k _ _ _ (U.put (by rw[Du];rfl))
 .cases g
def Vm:Ea X zBY (P6 true):=by
 refine⟨_,jN,fun x y z g G0 H0 G H σ δ ts u v Q U du T k=>?_⟩;unfold P6 at g;split at g
 .cases g;rw[Du]at T;refine⟨T,?_⟩;rw[cP du];exact k _ _ _ (U.put (by rw[Du];rfl))
 .cases g
end
section
variable{X:Cx}{a b c e:Expr}{es:uD}{f g h:tZ}{pos p:Pos}
def Nj:PD->Option Bool
 |.bool b=>some b
 |_=>none
def XS:PD->Option Int
 |.int b=>some b
 |_=>none
def R5{x:PD}{b:Bool}(h:Nj x=some b):x=.bool b:=by
 unfold Nj at h;split at h
 .cases h;rfl
 .cases h
def Zd{x:PD}{b:Int}(h:XS x=some b):x=.int b:=by
 unfold XS at h;split at h
 .cases h;rfl
 .cases h
def VR(ha:zg):DE X (.UnaryOp .USub a pos) (fun δ=>(f δ).bind fun x=>(XS x).map fun i=>.int (-i)):=by
 obtain⟨ta,U,Y⟩:=ha;refine⟨_,Yy WM U,fun δ z Z G0 H0 G H σ ts Q R0 k=>?_⟩;obtain⟨x,h1,h2⟩:=aB.mp Z;obtain⟨i,h3,rfl⟩:=aC.mp h2;have:=Zd h3;subst this;refine Y δ _ h1 G0 H0 G H σ ts _ R0 fun u G1 H1 T=>?_;have:=T.CL _ KM;rw[Du]at this;exact⟨i,this,k _ _ _ (T.drop.put Pb)⟩
def lL(ha:zg):DE X zo (fun δ=>(f δ).bind fun x=>(Nj x).map fun i=>.bool (!i)):=by
 obtain⟨ta,U,Y⟩:=ha;refine⟨_,cY U,fun δ z Z G0 H0 G H σ ts Q R0 k=>?_⟩;obtain⟨x,h1,h2⟩:=aB.mp Z;obtain⟨i,h3,rfl⟩:=aC.mp h2;have:=R5 h3;subst this;refine Y δ _ h1 G0 H0 G H σ ts _ R0 fun u G1 H1 T=>?_;have:=T.CL _ KM;rw[Du]at this;exact⟨i,this,k _ _ _ (T.drop.put Pb)⟩
def Rh{op}(ha:zg):DE X (.BoolOp op [a] pos) f:=by
 obtain⟨Y,T,U⟩:=ha;exact⟨_,R6 T,U⟩
def RT{rest:uD}(ha:zg)(hb:DE X (.BoolOp .And (b::rest) pos) g):DE X (.BoolOp .And (a::b::rest) pos) (fun δ=>(f δ).bind fun x=>(Nj x).bind fun c=>if c=true then g δ else some cr):=by
 obtain⟨ta,pa,ka⟩:=ha;obtain⟨tb,pb,kb⟩:=hb;refine⟨_,OG pa pb,fun δ z hz G0 H0 G H σ ts Q R0 k=>?_⟩;obtain⟨x,h1,h2⟩:=aB.mp hz;obtain⟨i,h3,T⟩:=aB.mp h2;have:=R5 h3;subst this;refine ka δ _ h1 G0 H0 G H σ ts _ R0 fun u G1 H1 Y=>?_;have Z:=Y.CL _ KM;rw[Du]at Z;refine⟨i,Z,?_⟩;split
 .rename_i U;rw[if_pos U]at T;exact kb δ z T G0 H0 G1 H1 σ ts Q Y.drop k
 .rename_i U;rw[if_neg U]at T;cases T;exact k _ _ _ (Y.drop.put Pb)
variable{fa fb:tf}
def DW(X:Cx)(e:Expr)(f:tf):Prop:=∃t,PW X e t/\∀δ b,f δ=some b->∀G0 H0 G H σ ts (Q:zY),Rw G0 H0 G H σ δ ts->(∀T H',Rw G0 H0 T H' σ δ ts->Q b H')->t σ H Q
def DW.dt(h:DW X e fa):DT X e fa:=let⟨t,p,k⟩:=h;⟨t,p.pt,k⟩
def Bx{op:CmpOp}{o:re}(ho:Ea X (compareOp op) o)(ha:zg)(hb:DE X b g)(hm:yg):DT X yI (fun δ=>(AQ o f g δ).bind Nj):=by
 obtain⟨r,hr,kr⟩:=ho;obtain⟨ta,Z,ka⟩:=ha;obtain⟨tb,Y,kb⟩:=hb;refine⟨_,Cw hr Z Y hm,fun δ z hz G0 H0 G H σ ts Q R0 k=>?_⟩;obtain⟨q,h0,h4⟩:=aB.mp hz;have:=R5 h4;subst this;obtain⟨x,y,h1,h2,h3⟩:=two (x:=.none) (y:=.none) h0;refine ka δ x h1 G0 H0 G H σ ts _ R0 fun u G1 H1 R1=>?_;refine kb δ y h2 G0 H0 G1 H1 σ _ _ R1 fun v G2 H2 R2=>?_;refine kr x y _ h3 G0 H0 G2 H2 σ δ ts u v _ (R2.drop.drop) (R2.CL (x,u) zCx) (R2.CL (y,v) KM) fun w G3 H3 U=>?_;have T:=U.CL _ KM;rw[Du]at T;exact⟨z,T,k _ _ U.drop⟩
def GS(ha : ym)(he : ∀ whole,isTrue e X.env whole = zr:=by intro _; rfl):DT X e (fun δ => (f δ).bind Nj):=by
  obtain ⟨ta,pa,ka⟩:=ha
  refine ⟨_,JI pa he,fun δ z hz G0 H0 G H σ ts Q R0 k => ?_⟩
  obtain ⟨q,h0,h4⟩:=aB.mp hz
  have:=R5 h4; subst this
  refine ka δ _ h0 G0 H0 G H σ ts _ R0 fun u G1 H1 R1 => ?_
  have hu:=R1.CL _ KM
  rw [Du] at hu
  exact ⟨z,hu,k _ _ R1.drop⟩
def Hu(ha:DT X a fa):DT X zo (fun δ=>(fa δ).map fun c=>!c):=by
 obtain⟨ta,T,U⟩:=ha;refine⟨_,JN T,fun δ z Y G0 H0 G H σ ts Q R0 k=>?_⟩;obtain⟨i,Z,rfl⟩:=aC.mp Y;exact U δ _ Z G0 H0 G H σ ts _ R0 fun G1 H1 R1=>k _ _ R1
def Hv{op:BoolOp}(ha:DT X a fa):DW X (.BoolOp op [a] pos) fa:=by
 obtain⟨Y,T,U⟩:=ha;cases op
 .exact⟨_,jR T,U⟩
 .exact⟨_,Ml T,U⟩
def IC{rest:uD}(ha:DT X a fa)(hb:DW X (.BoolOp .Or (b::rest) pos) fb):DW X (.BoolOp .Or (a::b::rest) pos) (fun δ=>(fa δ).bind fun c=>if c=true then some true else fb δ):=by
 obtain⟨ta,pa,ka⟩:=ha;obtain⟨tb,Z,kb⟩:=hb;refine⟨_,NR pa Z,fun δ z hz G0 H0 G H σ ts Q R0 k=>?_⟩;obtain⟨i,h3,T⟩:=aB.mp hz;refine ka δ _ h3 G0 H0 G H σ ts _ R0 fun G1 H1 Y=>?_;split
 .rename_i U;rw[if_pos U]at T;cases T;exact k _ _ Y
 .rename_i U;rw[if_neg U]at T;exact kb δ z T G0 H0 G1 H1 σ ts Q Y k
variable{fs:tY}
def AF:DA X [] (fun _=>some []):=⟨_,AV,fun δ xs h G0 H0 G H σ ts Q T k=>by cases h;exact k [] G H uf rfl⟩
def AB(ha:ym)(hr:DA X es fs)(hs:starEach zCh X.env=Jo::starEach es X.env:=by rfl):DA X zCh (fun δ=>(f δ).bind fun x=>(fs δ).map fun xs=>x::xs):=by
 obtain⟨ta,U,Z⟩:=ha;obtain⟨tr,pr,Y⟩:=hr;refine⟨_,AH U pr hs,fun δ z hz G0 H0 G H σ ts Q R0 k=>?_⟩;obtain⟨x,h1,h2⟩:=aB.mp hz;obtain⟨xs,h3,rfl⟩:=aC.mp h2;refine Z δ x h1 G0 H0 G H σ ts _ R0 fun u G1 H1 R1=>?_;refine Y δ xs h3 G0 H0 G1 H1 σ _ _ R1 fun vs G2 H2 R2 hl=>?_;refine k (u::vs) G2 H2 (R2.less fun q T=>?_) (by simp[hl]);simp only[List.zip_cons_cons,List.cons_append,List.mem_cons,List.mem_append]at T ⊢;rcases T with h|h|h
 .exact .inr (.inl h)
 .exact .inl h
 .exact .inr (.inr h)
def Zx{G:Hp}:∀ {xs:vT} {vs:ON},vs.length=xs.length->(∀q∈xs.zip vs,Du G q.1 q.2)->Av G xs vs
 |[],vs,T,_=>by rw[List.eq_nil_of_length_eq_zero T];exact .nil
 |x::xs,[],T,_=>by simp at T
 |x::xs,v::vs,T,h=>.cons (h (x,v) As) (Zx uf fun q U=>h q (by simp[U]))
def Rw.args{G0 H0 G H:Hp}{σ:St}{δ:Dv}{ts:Sc}{xs:tj}{vs:uI}(r:Rw G0 H0 G H σ δ (xs.zip vs++ts))(U:vs.length=xs.length):Av G xs vs/\Rw G0 H0 G H σ δ ts :=
 ⟨Zx U fun q T=>r.CL q (bc _ T),r.less fun q T=>aZ _ T⟩
def Rw.SQ{G0 H0 G H:Hp}{σ:St}{δ:Dv}{ts:Sc}{xs:tj}{vs:uI}{p:AD}(r:IS)(d:Av G xs vs)(T:H p=none):Rw G0 H0 (upd G p (.lst vs)) (upd H p (.lst vs)) σ δ ((.list xs,.ref p)::ts):=by
 refine(r.newObj T).put ?_;have e:AL G (upd G p (.lst vs)):=fun a o h=>by rw[AK (AW (r.ins _ _ h) T)];exact h
 rw[Du];exact⟨p,vs,rfl,AU,d.same e⟩
def Rw.fD{G0 H0 G H:Hp}{σ:St}{δ:Dv}{ts:Sc}{xs:tj}{vs:uI}{p:AD}(r:IS)(d:Av G xs vs)(T:H p=none):Rw G0 H0 (upd G p (.tup vs)) (upd H p (.tup vs)) σ δ ((.tuple xs,.ref p)::ts):=by
 refine(r.newObj T).put ?_;have e:AL G (upd G p (.tup vs)):=fun a o h=>by rw[AK (AW (r.ins _ _ h) T)];exact h
 rw[Du];exact⟨p,vs,rfl,AU,d.same e⟩
def JS(xs:tj):Option tj:=if xs.length<=CI then some xs else none
def Oa{xs ys:tj}(h:JS xs=some ys):xs=ys/\xs.length<=CI:=by
 unfold JS at h;split at h
 .rename_i q;cases h;exact⟨rfl,q⟩
 .cases h
def A9{U}(ha:DA X es fs):DE X (.Tuple es U pos) (fun δ=>((fs δ).bind JS).map .tuple):=by
 obtain⟨ta,Y,Z⟩:=ha;refine⟨_,RE Y,fun δ z hz G0 H0 G H σ ts Q R0 k=>?_⟩;obtain⟨ys,h1,rfl⟩:=aC.mp hz;obtain⟨xs,h2,h3⟩:=aB.mp h1;obtain⟨rfl,hl⟩:=Oa h3;refine Z δ _ h2 G0 H0 G H σ ts _ R0 fun vs G1 H1 R1 T=>?_;obtain⟨d,R2⟩:=R1.args T;exact⟨GY (by rw[T];exact hl),fun q hq=>k _ _ _ (R2.fD d hq)⟩
def BA(ha:DA X es fs):DE X (.List es pos) (fun δ=>((fs δ).bind JS).map .list):=by
 obtain⟨ta,U,Y⟩:=ha;refine⟨_,Jx U,fun δ z Z G0 H0 G H σ ts Q R0 k=>?_⟩;obtain⟨ys,h1,rfl⟩:=aC.mp Z;obtain⟨xs,h2,h3⟩:=aB.mp h1;obtain⟨rfl,hl⟩:=Oa h3;refine Y δ _ h2 G0 H0 G H σ ts _ R0 fun vs G1 H1 R1 T=>?_;obtain⟨d,R2⟩:=R1.args T;exact⟨GY (by rw[T];exact hl),fun q hq=>k _ _ _ (R2.SQ d hq)⟩
def Av.Gu{H:Hp}{ds:tj}{xs:uI}{i:Int}{d:PD}(h:Av H ds xs)(e:Gu ds i=some d):∃v,Gu xs i=some v/\Du H d v:=by
 unfold L2.Gu at e ⊢;rw[h.len];obtain⟨j,Z,Y⟩:=aB.mp e;obtain⟨v,U,T⟩:=h.get Y;exact⟨v,by rw[Z];exact U,T⟩
def Tt{G:Hp}:∀ns:List Int,Av G (ns.map .int) jp
 |[]=>.nil
 |n::ns=>.cons Pb (Tt ns)
def B4:PD->PD->Option PD:=fun x y=>match x,y with
 |.list xs,.int i=>Gu xs i
 |.tuple xs,.int i=>Gu xs i
 |.dict [(.none,.list xs)],.int i=>Gu xs i
 |.str z,.int i=>if z.length<=CI then(Gu z.cps.toList i).map fun c=>.str ⟨#[c]⟩ else none
 |_,_=>none
def Bk(ha:zg)(hb:DE X b g)(hs:Xj b):DE X (.Subscript a b pos) (AQ B4 f g):=by
 obtain⟨ta,pa,ka⟩:=ha;obtain⟨tb,pb,kb⟩:=hb;refine⟨_,CK kT pa pb hs,fun δ z hz G0 H0 G H σ ts Q R0 k=>?_⟩;obtain⟨x,y,h1,h2,T⟩:=two (x:=.none) (y:=.none) hz;refine ka δ x h1 G0 H0 G H σ ts _ R0 fun u G1 H1 R1=>?_;refine kb δ y h2 G0 H0 G1 H1 σ _ _ R1 fun v G2 H2 R2=>?_;have du:=R2.CL (x,u) zCx;have U:=R2.CL (y,v) KM;unfold B4 at T;split at T
 .rw[Du]at du;rw[Du]at U;obtain⟨p,xs,rfl,h4,h5⟩:=du;obtain⟨w,Y,Z⟩:=h5.Gu T;exact .inl ⟨p,xs,_,w,rfl,U,Ar.of (R2.ins _ _ h4),Y,k _ _ _ (R2.drop.drop.put Z)⟩
 .rw[Du]at du;rw[Du]at U;obtain⟨p,xs,rfl,h4,h5⟩:=du;obtain⟨w,Y,Z⟩:=h5.Gu T;exact .inr (.inl ⟨p,xs,_,w,rfl,U,BJ.of (R2.ins _ _ h4),Y,k _ _ _ (R2.drop.drop.put Z)⟩)
 .rw[Du]at du;rw[Du]at U;rcases du with ⟨ea,C,e1,_⟩|⟨p,ns,e1,rfl,h4⟩|z
  rotate_left 2
  .rw[M3]at z;cases z.1
  .simp at e1
  .obtain rfl:_=ns.map PyData.int:=by simpa using e1
   obtain⟨w,Y,Z⟩:=(Tt (G:=_) ns).Gu T;exact .inl ⟨p,_,_,w,rfl,U,.inl (h4.same R2.ins),Y,k _ _ _ (R2.drop.drop.put Z)⟩
 .rw[Du]at du;rw[Du]at U;split at T
  .rename_i hl;obtain⟨ch,Y,rfl⟩:=aC.mp T;exact .inr (.inr ⟨_,_,ch,du,U,GY hl,Y,k _ _ _ (R2.drop.drop.put Pb)⟩)
  .cases T
 .cases T
end
def Be(g:MD):Sp:=fun vs H Q _=>∃U x G,g U=some x/\Av G U vs/\AL G H/\∀v T H',AL G T->Nw G H T->AL T H'->AL H H'->Du T x v->Q v H'
section
variable{X:Cx}{a e:Expr}{es:uD}{f h:tZ}{fs:tY}{pos p:Pos}
def Aq{k:Nat}{Y:AD}{fd:Fr}{ps:uC}{m:MD}{x:Str}{st:Stmt}(T:Fn X.K X.mg x st ps Y fd)(F:AI X.prog X.w X.K X.mg X.base Ai k Y fd ps (Be m))(hr:DQ k X.A)(hg:y9)(ha:DA X zCh fs) (U:GM=false:=by decide)(he:starEach zCh X.env=Jo::starEach es X.env:=by rfl)(g:(backTo pos Ol).any To=false:=by rfl):DE X IR (fun δ=>(fs δ).bind m):=by
 obtain⟨ta,Z,ka⟩:=ha;refine⟨_,Bt T F hr hg Z U he g,fun δ z hz G0 H0 G H σ ts Q R0 k=>?_⟩;obtain⟨xs,h1,h2⟩:=aB.mp hz;refine ka δ _ h1 G0 H0 G H σ ts _ R0 fun vs G1 H1 R1 hv=>?_;obtain⟨d,R2⟩:=R1.args hv;refine⟨xs,z,G1,h2,by rw[List.append_nil];exact d,R2.ins,fun v G' H' h3 h4 h5 h6 h7=>?_⟩;exact k _ _ _ ((R2.lift h3 h4 h5 h6).put h7)
def O8(X:Cx)(v:VL)(o:MD):Prop:=∃r,FV X v r/\∀xs z,o xs=some z->∀G0 H0 G H σ δ ts us (Q:VK),Rw G0 H0 G H σ δ ts->Av G xs us->(∀w g H',Rw G0 H0 g H' σ δ ((z,w)::ts)->Q w H')->r us H Q
def Di{x:Str}{id:wN}{o:MD}(hc:O8 X wT o)(hg:y9)(hm:X.mg x=none)(g:bootBuiltins x=some wT)(ha:DA X zCh fs)(hn:x ≠ "__name__":=by decide)(U:GM=false:=by decide) (he:starEach zCh X.env=Jo::starEach es X.env:=by rfl)(T:(backTo pos Ol).any To=false:=by rfl):DE X IR (fun δ=>(fs δ).bind o):=by
 obtain⟨r,hr,Z⟩:=hc;obtain⟨ta,Y,ka⟩:=ha;refine⟨_,BW hr hg hm g Y hn U he T,fun δ z hz G0 H0 G H σ ts Q R0 k=>?_⟩;obtain⟨xs,h1,h2⟩:=aB.mp hz;refine ka δ _ h1 G0 H0 G H σ ts _ R0 fun vs G1 H1 R1 g=>?_;obtain⟨d,R2⟩:=R1.args g;exact Z xs z h2 G0 H0 G1 H1 σ δ ts vs Q R2 d k
def MB{x:Str}{T:wN}{o:MD}(hc:O8 X (.type T) o)(hg:y9)(hm:X.mg x=none)(g:bootBuiltins x=some (.type T))(ha:DA X zCh fs)(hn:x ≠ "__name__":=by decide)(Y:GM=false:=by decide) (he:starEach zCh X.env=Jo::starEach es X.env:=by rfl)(U:(backTo pos Ol).any To=false:=by rfl):DE X IR (fun δ=>(fs δ).bind o):=by
 obtain⟨r,hr,kr⟩:=hc;obtain⟨ta,Z,ka⟩:=ha;refine⟨_,T8 hr hg hm g Z hn Y he U,fun δ z hz G0 H0 G H σ ts Q R0 k=>?_⟩;obtain⟨xs,h1,h2⟩:=aB.mp hz;refine ka δ _ h1 G0 H0 G H σ ts _ R0 fun vs G1 H1 R1 g=>?_;obtain⟨d,R2⟩:=R1.args g;exact kr xs z h2 G0 H0 G1 H1 σ δ ts vs Q R2 d k
def Av.JW{H:Hp}{d:PD}{xs:uI}(h:Av H [d] xs):∃x,xs=[x]/\Du H d x:=by
 obtain⟨x,r,rfl,T,g⟩:=h.un;rw[g.nil_eq];exact⟨x,rfl,T⟩
def Av.Nm{H:Hp}{d e:PD}{xs:uI}(h:Av H [d,e] xs):∃x y,xs=[x,y]/\Du H d x/\Du H e y:=by
 obtain⟨x,r,rfl,U,T⟩:=h.un;obtain⟨y,rfl,g⟩:=T.JW;exact⟨x,y,rfl,U,g⟩
def F0:MD
 |[.list xs]=>some (.int xs.length)
 |[.tuple xs]=>some (.int xs.length)
 |[.dict [(.none,.list xs)]]=>some (.int xs.length)
 |_=>none
def Gv:O8 X (.builtin "len") F0:=by
 refine⟨_,CS,fun xs z g G0 H0 G H σ δ ts us Q T d k=>?_⟩;unfold F0 at g;split at g
 .cases g;obtain⟨u,rfl,du⟩:=d.JW;rw[Du]at du;obtain⟨p,ys,rfl,U,Y⟩:=du;refine⟨p,ys,rfl,.inl (Ar.of zAK),?_⟩;rw[Y.len];exact k _ _ _ (T.put Pb)
 .cases g;obtain⟨u,rfl,du⟩:=d.JW;rw[Du]at du;obtain⟨p,ys,rfl,U,Y⟩:=du;refine⟨p,ys,rfl,.inr (BJ.of zAK),?_⟩;rw[Y.len];exact k _ _ _ (T.put Pb)
 .cases g;obtain⟨u,rfl,du⟩:=d.JW;rw[Du]at du;rcases du with ⟨ea,C,Z,_⟩|⟨p,ns,Z,rfl,U⟩|z
  rotate_left 2
  .rw[M3]at z;cases z.1
  .simp at Z
  .obtain rfl:_=ns.map PyData.int:=by simpa using Z
   refine⟨p,_,rfl,.inl (.inl (U.same T.ins)),?_⟩;rw[List.length_map]at k ⊢;exact k _ _ _ (T.put Pb)
 .cases g
def IT:MD
 |[.list xs]=>some zAY
 |[.tuple xs]=>some zAY
 |_=>none
def QE:O8 X FS IT:=by
 refine⟨_,Ua,fun xs z g G0 H0 G H σ δ ts us Q T d k=>?_⟩;unfold IT at g;split at g
 .cases g;obtain⟨u,rfl,du⟩:=d.JW;rw[Du]at du;obtain⟨p,ys,rfl,U,Z⟩:=du;exact⟨p,ys,rfl,.inl ⟨Ar.of zAK,fun l hl=>k _ _ _ (T.fD Z hl)⟩⟩
 .cases g;obtain⟨u,rfl,du⟩:=d.JW;have Y:=du;rw[Du]at du;obtain⟨p,ys,rfl,U,Z⟩:=du;exact⟨p,ys,rfl,.inr ⟨BJ.of zAK,k _ _ _ (T.put Y)⟩⟩
 .cases g
def PL:MD
 |[.list xs]=>some xu
 |[.tuple xs]=>some xu
 |_=>none
def ia:O8 X iF PL:=by
 refine⟨_,WV,fun xs z g G0 H0 G H σ δ ts us Q T d k=>?_⟩;unfold PL at g;split at g
 .cases g;obtain⟨u,rfl,du⟩:=d.JW;rw[Du]at du;obtain⟨p,ys,rfl,Z,Y⟩:=du;exact⟨p,ys,rfl,.inl (Ar.of (T.ins _ _ Z)),fun l U=>k _ _ _ (T.SQ Y U)⟩
 .cases g;obtain⟨u,rfl,du⟩:=d.JW;rw[Du]at du;obtain⟨p,ys,rfl,Z,Y⟩:=du;exact⟨p,ys,rfl,.inr (BJ.of (T.ins _ _ Z)),fun l U=>k _ _ _ (T.SQ Y U)⟩
 .cases g
def Du.ty{K:Fg}{H:Hp}:∀ {d:PD} {v:V},yj->Du H d v->IK K H v xr/\∀g,d≠.dict g
 |.none,_,_,h=>by rw[Du]at h;subst h;exact⟨.Bq,by simp⟩
 |.bool _,_,_,h=>by rw[Du]at h;subst h;exact⟨.bl _,by simp⟩
 |.int _,_,_,h=>by rw[Du]at h;subst h;exact⟨.int _,by simp⟩
 |.str _,_,_,h=>by rw[Du]at h;subst h;exact⟨.str _,by simp⟩
 |.tuple _,_,_,h=>by rw[Du]at h;obtain⟨a,xs,rfl,T,_⟩:=h;exact⟨.tup T,by simp⟩
 |.list _,_,_,h=>by rw[Du]at h;obtain⟨a,xs,rfl,T,_⟩:=h;exact⟨.lst T,by simp⟩
 |.dict _,_,n,h=>absurd rfl (n _)
def Yv(q:PD->Bool):PD->Option PD
 |.dict _=>none
 |x=>some (.bool (q x))
def jw{q:PD->Bool}{x z:PD}(h:Yv q x=some z):(∀g,x≠.dict g)/\z=.bool (q x):=by
 unfold Yv at h;split at h
 .cases h
 .rename_i n;cases h;exact⟨fun g e=>n g e,rfl⟩
def Md{T:wN}{q:PD->Bool}{xT:Str}{p1 g:Pos}(hk:∀d:PD,(∀kv,d≠.dict kv)->PySem.W.kitOne X.K xr (.type T)=some (q d))(hg:Gl X "isinstance")(hm:X.mg "isinstance" = none)(hgT:Gl X xT)(hmT:X.mg xT=none)(Y:bootBuiltins xT=some (.type T))(ha:zg) (hnT:xT ≠ "__name__":=by decide)(hdT:(xT==("__debug__" : Str))=false:=by decide)(U:starEach [a,.Name xT g] X.env=Op::starEach [.Name xT g] X.env:=by rfl)(Z:(backTo pos (starEach [.Name xT g] X.env)).any To=false:=by rfl):DE X zAz (fun δ=>(f δ).bind (Yv q)):=by
 obtain⟨ta,pa,ka⟩:=ha;have pT:PE X (.Name xT g) (tC (.ty T)):=Ic hgT hmT Y rfl hnT hdT;refine⟨_,BW II hg hm ax (AH pa (AH pT AV) U) AT AT U Z,fun δ z hz G0 H0 G H σ ts Q R0 k=>?_⟩;obtain⟨x,h1,h2⟩:=aB.mp hz;obtain⟨n1,rfl⟩:=jw h2;refine ka δ _ h1 G0 H0 G H σ ts _ R0 fun u G1 H1 R1=>?_;have du:=R1.CL _ KM;obtain⟨t1,t2⟩:=(du.same R1.ins).ty (K:=X.K) n1;exact⟨u,.ty T,_,q x,rfl,by simp[D6],t1,hk x t2,k _ _ _ (R1.drop.put Pb)⟩
end
inductive Ou where
 |nx (δ:Dv)|rt (x:PyData)|bk (δ:Dv)|ct (δ:Dv)|rn (xs:List PyData)
def Fin(G0 H0:Hp)(D:Ends):Ou->Prop
 |.nx δ=>∀σ G H,Rw G0 H0 G H σ δ []->D.nx σ H
 |.rt x=>∀v G H,AL G0 G->Nw G0 H0 G->AL G H->AL H0 H->Du G x v->D.rt v H
 |.bk δ=>∀σ G H,Rw G0 H0 G H σ δ []->D.bk σ H
 |.ct δ=>∀σ G H,Rw G0 H0 G H σ δ []->D.ct σ H
 |.rn xs=>∀a ys G H,AL G0 G->Nw G0 H0 G->AL G H->AL H0 H->H0 a=none->G a=none->H a=some Jw->Av G xs ys->D.rt Jz H
abbrev DF:=Dv->Option Ou
def DS(X:Cx)(st:Stmt)(F:DF):Prop:=∃t,PS X st t/\∀δ r,F δ=some r->∀G0 H0 G H σ D,Rw G0 H0 G H σ δ []->Fin G0 H0 D r->t D σ H
def Mo(X:Cx)(st:uL)(F:DF):Prop:=∃t,IW X st t/\∀δ r,F δ=some r->∀G0 H0 G H σ D,Rw G0 H0 G H σ δ []->Fin G0 H0 D r->t D σ H
def Ag(T F2:DF)(δ:Dv):Option Ou:=match T δ with
 |some (.nx g)=>F2 g
 |o=>o
section
variable{X:Cx}{c e:Expr}{f h:tZ}{fa:tf}{pos p:Pos}{st:Stmt}{sts sts':uL}{F1 F2:DF}
def CB:Mo X [] (fun δ=>some zS):=⟨_,Cv,fun δ r h G0 H0 G H σ D R k=>by cases h;exact k _ _ _ R⟩
def AO(h1:DS X st F1)(h2:Mo X sts F2):Mo X (st::sts) (Ag F1 F2):=by
 obtain⟨t1,p1,Y⟩:=h1;obtain⟨t2,Z,k2⟩:=h2;refine⟨_,Aa p1 Z,fun δ r h G0 H0 G H σ D R k=>?_⟩;unfold Ag at h;split at h
 .rename_i g e1;exact Y δ _ e1 G0 H0 G H σ _ R fun T G' H' R'=>k2 g r h G0 H0 G' H' T D R' k
 .rename_i U;refine Y δ r h G0 H0 G H σ _ R ?_;cases r with
  |nx g=>exact absurd h (U g)
  |rt x=>exact k
  |bk g=>exact k
  |ct g=>exact k
  |rn xs=>exact k
def Ab(U:DS X st F1):Mo X [st] F1:=by
 obtain⟨t1,g,T⟩:=U;exact⟨_,Aj g,T⟩
def Vx:DS X st (fun _=>none):=⟨_,VA,fun _ _ h=>by cases h⟩
def BO(T:ym):DS X (.Return (some e) pos) (fun δ=>(f δ).map .rt):=by
 obtain⟨t,p,k⟩:=T;refine⟨_,BU p,fun δ r h G0 H0 G H σ D R q=>?_⟩;obtain⟨x,U,rfl⟩:=aC.mp h;exact k δ x U G0 H0 G H σ [] _ R fun v Y H' g=>q v Y H' g.ext g.new g.ins g.keep (g.CL _ KM)
def Dr(g:DT X c fa)(h1:Mo X sts F1)(h2:Mo X sts' F2):DS X (.If c sts sts' pos) (fun δ=>(fa δ).bind fun c=>if c=true then F1 δ else F2 δ):=by
 obtain⟨tc,pc,kc⟩:=g;obtain⟨t1,p1,k1⟩:=h1;obtain⟨t2,Z,k2⟩:=h2;refine⟨_,FN pc p1 Z,fun δ r h G0 H0 G H σ D R q=>?_⟩;obtain⟨i,h3,T⟩:=aB.mp h;refine kc δ i h3 G0 H0 G H σ [] _ R fun Y H' U=>?_;split
 .rename_i g;rw[if_pos g]at T;exact k1 δ r T G0 H0 Y H' σ D U q
 .rename_i g;rw[if_neg g]at T;exact k2 δ r T G0 H0 Y H' σ D U q
end
section
variable{G0 H0 G H:Hp}{σ:St}{δ:Dv}{ts:Sc}
def Rw.Hi{i:Nat}{x:PD}{v:V}(r:Rw G0 H0 G H σ δ ((x,v)::ts)):Rw G0 H0 G H (σ.set i xp) (δ.set i (.d x)) ts:=by
 have hl:=r.len;refine⟨r.ext,r.new,r.ins,r.keep,by simp[hl],fun j y h=>?_,fun j ys h=>?_,fun j l ys zs hjl U T=>?_,fun q hq=>r.CL q (.tail _ hq)⟩
 .by_cases g:i=j
  .subst g;by_cases hi:i<δ.length
   .rw[List.getElem?_set_self hi]at h;cases h;exact⟨v,by rw[List.getElem?_set_self AC],r.CL _ KM⟩
   .rw[List.getElem?_eq_none ii]at h;cases h
  .rw[List.getElem?_set_ne g]at h;obtain⟨w,Z,Y⟩:=r.dat j y h;exact⟨w,by rw[List.getElem?_set_ne g];exact Z,Y⟩
 .by_cases g:i=j
  .subst g;by_cases hi:i<δ.length
   .rw[List.getElem?_set_self hi]at h;cases h
   .rw[List.getElem?_eq_none ii]at h;cases h
  .rw[List.getElem?_set_ne g]at h;obtain⟨w,Z,Y,k3⟩:=r.own j ys h;exact⟨w,Z,by rw[List.getElem?_set_ne g];exact Y,k3⟩
 .have nj:i≠j:=fun z=>by
   subst z;by_cases hi:i<δ.length
   .rw[List.getElem?_set_self hi]at U;cases U
   .rw[List.getElem?_eq_none ii]at U;cases U
  have nl:i≠l:=fun z=>by
   subst z;by_cases hi:i<δ.length
   .rw[List.getElem?_set_self hi]at T;cases T
   .rw[List.getElem?_eq_none ii]at T;cases T
  rw[List.getElem?_set_ne nj]at U ⊢;rw[List.getElem?_set_ne nl]at T ⊢;exact r.apart j l ys zs hjl U T
end
section
variable{X:Cx}{e:Expr}{f:tZ}{pos p:Pos}
def Bg{i:Nat}{x:Str}{g:Pos}(hN:u7)(hi:X.N[i]? = some x)(T:xm)(Z:ym)(U:swapsWith e (some (.Name x g)) pos.line X.env=pure false:=by rfl)(Y:X.fn x=true\/X.env.scope.names.lookup x=some .local:=by first|exact .inl rfl|exact .inr rfl|assumption):DS X (.Assign [.Name x g] e pos) (fun δ=>(f δ).map fun y=>.nx wR):=by
 obtain⟨t,p,k⟩:=Z;refine⟨_,BC hN hi T p U Y,fun δ r h G0 H0 G H σ D R q=>?_⟩;obtain⟨y,h1,rfl⟩:=aC.mp h;exact k δ y h1 G0 H0 G H σ [] _ R fun v G' H' R'=>q _ _ _ R'.Hi
end
section
variable{G0 H0 G H:Hp}{σ:St}{δ:Dv}{ts:Sc}
def Rw.base(r:IS):Rw G H0 G H σ δ ts:={r with ext:=AL.refl G,new:=fun _ _ h=>.inl h}
def Nw.trans{T g:Hp}(a:Nw G0 H0 T)(b:Nw T H0 g):Nw G0 H0 g:=fun c o h=>by
 rcases b c o h with z|z|z
 .exact a c o z
 .exact .inr (.inl z)
 .exact .inr (.inr z)
def Rw.WD{U H':Hp}{g:St}{δ':Dv}{T:Sc}(r:IS)(q:Rw G H0 U H' g δ' T):Rw G0 H0 U H' g δ' T:={q with ext:=r.ext.trans q.ext,new:=r.new.trans q.new}
def GH(i:Nat)(δ:Dv):Dv:=match δ[i]? with
 |some (.own (.lst xs))=>δ.set i (.d xu)
 |some (.own (.cZ kvs))=>δ.set i (.d (ZQ kvs))
 |_=>δ
def Rw.letGo{i:Nat}{c:Oc}{x:PD}(r:IS)(hi:δ[i]? = some (.own c))(hx:∀a o,G a=none->KS G a c o->Du (upd G a o) x Jz):∃a o,σ[i]? = some (some Jz)/\G a=none/\H0 a=none/\H a=some o/\KS G a c o/\Rw G0 H0 (upd G a o) H σ (δ.set i (.d x)) ts:=by
 obtain⟨a,o,k1,k2,k3,k4,k5⟩:=r.own i _ hi;have e:AL G (upd G a o):=Al k2 _;have g:i<δ.length:=(aD.mp hi).1;refine⟨a,o,k1,k2,k3,k4,k5,r.ext.trans e,fun b o' h=>?_,fun b o' h=>?_,r.keep,by simp[r.len],fun j y h=>?_,fun j zs h=>?_,fun j l us ws hjl Z Y=>?_,fun q hq=>(r.CL q hq).same e⟩
 .by_cases hb:b=a
  .subst hb;exact .inr (.inl k3)
  .rw[AK hb]at h;exact r.new _ _ h
 .by_cases hb:b=a
  .subst hb;rw[AU]at h;rw[k4];exact h
  .rw[AK hb]at h;exact r.ins _ _ h
 .by_cases T:i=j
  .subst T;rw[List.getElem?_set_self g]at h;cases h;exact⟨.ref a,k1,hx a o k2 k5⟩
  .rw[List.getElem?_set_ne T]at h;obtain⟨w,U,m2⟩:=r.dat j y h;exact⟨w,U,m2.same e⟩
 .by_cases T:i=j
  .subst T;rw[List.getElem?_set_self g]at h;cases h
  .rw[List.getElem?_set_ne T]at h;obtain⟨b,us,U,m2,m3,m4,m5⟩:=r.own j zs h;have nb:b≠a:=fun z=>by subst z;exact r.apart i j _ zs T hi h (by rw[k1,U])
   exact⟨b,us,U,by rw[AK nb];exact m2,m3,m4,m5.same e⟩
 .have nj:i≠j:=fun z=>by subst z;rw[List.getElem?_set_self g]at Z;cases Z
  have nl:i≠l:=fun z=>by subst z;rw[List.getElem?_set_self g]at Y;cases Y
  rw[List.getElem?_set_ne nj]at Z;rw[List.getElem?_set_ne nl]at Y;exact r.apart j l us ws hjl Z Y
def nB{a:AD}{o:HO}{xs:tj}(g:G a=none)(h:KS G a NE o):Du (upd G a o) xu Jz:=by
 obtain⟨ys,rfl,k5⟩:=h;rw[Du];exact⟨a,ys,rfl,AU,k5.same (Al g _)⟩
def mG{a:AD}{o:HO}{kvs:List (Option Tr×PD)}(g:G a=none)(h:KS G a (.cZ kvs) o):Du (upd G a o) (ZQ kvs) Jz:=by
 obtain⟨r,rfl,n,k5⟩:=h;rw[Du,M3];exact .inr (.inr ⟨rfl,rfl,a,r,rfl,AU,n,N1.same (Al g _) k5⟩)
def Rw.GH(i:Nat)(r:IS):∃g,Rw G0 H0 g H σ (L2.GH i δ) ts:=by
 unfold L2.GH;split
 .rename_i xs hi;obtain⟨a,o,_,_,_,_,_,R⟩:=r.letGo (x:=.list xs) hi fun a o h=>nB h;exact⟨_,R⟩
 .rename_i kvs hi;obtain⟨a,o,_,_,_,_,_,R⟩:=r.letGo (x:=ZQ kvs) hi fun a o h=>mG h;exact⟨_,R⟩
 .exact⟨G,r⟩
def Rw.dJ{i:Nat}{xs:Oc}{ys:HO}{a:AD}(r:IS)(d:KS G a xs ys)(ha:H a=none):Rw G0 H0 G (upd H a ys) (σ.set i (some Jz)) (δ.set i (.own xs)) ts:=by
 have hG:G a=none:=by
  cases q:G a with
  |none=>rfl
  |some u=>rw[r.ins _ _ q]at ha;cases ha
 have h0:H0 a=none:=by
  cases q:H0 a with
  |none=>rfl
  |some u=>rw[r.keep _ _ q]at ha;cases ha
 have e:AL H (upd H a ys):=Al ha _;have hl:=r.len;have other:∀(j:Nat) (T:Oc),i≠j->(δ.set i (.own xs))[j]? = some (L.own T)->δ[j]? = some (L.own T):=fun j T g h=>by rw[List.getElem?_set_ne g]at h;exact h
 have U:∀(j:Nat) (T:Oc),δ[j]? = some (L.own T)->σ[j]?≠some (some (V.ref a)):=fun j T h z=>by
  obtain⟨b,us,Z,m2,m3,m4,m5⟩:=r.own j T h;rw[z]at Z;cases Z;rw[m4]at ha;cases ha
 refine⟨r.ext,r.new,r.ins.trans e,r.keep.trans e,by simp[hl],fun j y h=>?_,fun j T h=>?_,fun j l us ws hjl h1 Y=>?_,r.CL⟩
 .by_cases g:i=j
  .subst g;by_cases hi:i<δ.length
   .rw[List.getElem?_set_self hi]at h;cases h
   .rw[List.getElem?_eq_none ii]at h;cases h
  .rw[List.getElem?_set_ne g]at h;obtain⟨w,Z,m2⟩:=r.dat j y h;exact⟨w,by rw[List.getElem?_set_ne g];exact Z,m2⟩
 .by_cases g:i=j
  .subst g;by_cases hi:i<δ.length
   .rw[List.getElem?_set_self hi]at h;cases h;exact⟨a,ys,by rw[List.getElem?_set_self AC],hG,h0,AU,d⟩
   .rw[List.getElem?_eq_none ii]at h;cases h
  .have h:=other j T g h;obtain⟨b,us,Z,m2,m3,m4,m5⟩:=r.own j T h;exact⟨b,us,by rw[List.getElem?_set_ne g];exact Z,m2,m3,e _ _ m4,m5⟩
 .by_cases g:i=j
  .subst g;have hl2:i≠l:=hjl;have Y:=other l ws hl2 Y;by_cases hi:i<δ.length
   .rw[List.getElem?_set_self AC,List.getElem?_set_ne hl2];exact fun z=>U l ws Y z.symm
   .rw[List.getElem?_eq_none ii]at h1;cases h1
  .have h1:=other j us g h1;by_cases hk:i=l
   .subst hk;by_cases hi:i<δ.length
    .rw[List.getElem?_set_self AC,List.getElem?_set_ne g];exact fun z=>U j us h1 z
    .rw[List.getElem?_eq_none ii]at Y;cases Y
   .have Y:=other l ws hk Y;rw[List.getElem?_set_ne g,List.getElem?_set_ne hk];exact r.apart j l us ws hjl h1 Y
def Rw.gy{i:Nat}{xs T:Oc}{ys:HO}{a:AD}(r:IS)(hi:δ[i]? = some (.own xs))(ha:σ[i]? = some (some Jz))(d:KS G a T ys):Rw G0 H0 G (upd H a ys) σ (δ.set i (.own T)) ts:=by
 obtain⟨a',ys0,k1,k2,k3,k4,k5⟩:=r.own i xs hi;rw[ha]at k1;cases k1;have Y:i<δ.length:=(aD.mp hi).1;have hl:=r.len;refine⟨r.ext,r.new,fun b o h=>?_,fun b o h=>?_,by simp[hl],fun j y h=>?_,fun j zs h=>?_,fun j l us ws hjl h1 h2=>?_,r.CL⟩
 .rw[AK (fun z=>by subst z;rw[k2]at h;cases h)];exact r.ins _ _ h
 .rw[AK (fun z=>by subst z;rw[k3]at h;cases h)];exact r.keep _ _ h
 .by_cases g:i=j
  .subst g;rw[List.getElem?_set_self Y]at h;cases h
  .rw[List.getElem?_set_ne g]at h;exact r.dat j y h
 .by_cases g:i=j
  .subst g;rw[List.getElem?_set_self Y]at h;cases h;exact⟨a,ys,ha,k2,k3,AU,d⟩
  .rw[List.getElem?_set_ne g]at h;obtain⟨b,us,m1,m2,m3,m4,m5⟩:=r.own j zs h;have nb:b≠a:=fun z=>by subst z;exact r.apart i j xs zs g hi h (by rw[ha,m1])
   exact⟨b,us,m1,m2,m3,by rw[AK nb];exact m4,m5⟩
 .have f:∀(j:Nat) (us:Oc),(δ.set i (.own T))[j]? = some (L.own us)->∃U,δ[j]? = some (L.own U):=fun j us h=>by
   by_cases g:i=j
   .subst g;exact⟨xs,hi⟩
   .rw[List.getElem?_set_ne g]at h;exact⟨us,h⟩
  obtain⟨U,h1⟩:=f j us h1;obtain⟨Z,h2⟩:=f l ws h2;exact r.apart j l U Z hjl h1 h2
end
section
variable{X:Cx}{a b e:Expr}{es:uD}{f h:tZ}{fs:tY}{pos p:Pos}{st:Stmt}{F:DF}
def RD(i:Nat)(g:DS X st F):DS X st (fun δ=>F (GH i δ)):=by
 obtain⟨t,p,k⟩:=g;refine⟨t,p,fun δ r h G0 H0 G H σ D R q=>?_⟩;obtain⟨U,T⟩:=R.GH i;exact k _ r h G0 H0 U H σ D T q
def K9{i:Nat}{x:Str}{g U:Pos}(hN:u7)(hi:X.N[i]? = some x)(Z:xm)(ha:DA X es fs)(hs:swapsWith (.List es U) (some (.Name x g)) pos.line X.env=pure false:=by rfl)(hf:X.fn x=true\/X.env.scope.names.lookup x=some .local:=by first|exact .inl rfl|exact .inr rfl|assumption):DS X (.Assign [.Name x g] (.List es U) pos) (fun δ=>((fs δ).bind JS).map fun ys=>.nx (δ.set i (.own Jw))):=by
 obtain⟨t,p,k⟩:=ha;refine⟨_,BC hN hi Z (Jx p) hs hf,fun δ r h G0 H0 G H σ D R q=>?_⟩;obtain⟨y,h1,rfl⟩:=aC.mp h;obtain⟨xs,h2,h3⟩:=aB.mp h1;obtain⟨rfl,hl⟩:=Oa h3;refine k δ _ h2 G0 H0 G H σ [] _ R fun vs G1 H1 R1 Y=>?_;obtain⟨d,R2⟩:=R1.args Y;exact⟨GY (by rw[Y];exact hl),fun l T=>q _ _ _ (R2.dJ ⟨_,rfl,d⟩ T)⟩
def ow(i:Nat)(δ:Dv):Option tj:=match δ[i]? with
 |some (.own (.lst xs))=>some xs
 |_=>none
def Uz{i:Nat}{δ:Dv}{xs:tj}(h:ow i δ=some xs):δ[i]? = some (.own NE):=by
 unfold ow at h;split at h
 .rename_i y e;cases h;exact e
 .cases h
def IX{i:Nat}{x:Str}{np ap cp:Pos}(hv:PE X og (QP i))(he:ym) (hP:∀ {Z:TE} {t:TA},PE X og Z->PA X [e] t->PS X zDi (Us (lU X.K "list" Xk Z t)))(T:starEach [e] X.env=Jo::starEach [] X.env:=by rfl):DS X zDi (fun δ=>(f δ).bind fun y=>(ow i δ).bind fun xs=>if xs.length<CI then some xV else none):=by
 obtain⟨t,p,k⟩:=he;refine⟨_,hP hv (AH p AV T),fun δ r h G0 H0 G H σ D R q=>?_⟩;obtain⟨y,h1,h2⟩:=aB.mp h;obtain⟨xs,h3,U⟩:=aB.mp h2;split at U
 .rename_i hl;cases U;have hi:=Uz h3;obtain⟨a,_,g,k2,k3,k4,⟨ys,rfl,k5⟩⟩:=R.own i _ hi;refine⟨.ref a,g,.inl ⟨rfl,ys,Ar.of k4⟩,?_⟩;refine k δ y h1 G0 H0 G H σ [] _ R fun u G1 H1 Y=>?_;obtain⟨a',_,m1,m2,m3,m4,⟨zs,rfl,m5⟩⟩:=Y.own i _ hi;rw[g]at m1;cases m1;refine⟨a,zs,u,rfl,rfl,m4,SU (by rw[m5.len];lia),?_⟩;exact q _ _ _ (Y.drop.gy hi g ⟨_,rfl,m5.app (.cons (Y.CL _ KM) .nil)⟩)
 .cases U
def OM{i:Nat}{x:Str}{np ap cp:Pos}(hv:PE X og (QP i))(he:ym)
 (hP:∀ {Z:TE} {t:TA},PE X og Z->PA X [e] t->PS X zDj (Us (lU X.K "list" Xx Z t)))(Y:starEach [e] X.env=Jo::starEach [] X.env:=by rfl) :
  DS X zDj (fun δ=>(f δ).bind fun y=>(ow i δ).bind fun xs=>match y with|.list zs=>(if xs.length+zs.length<=CI then some (.nx (δ.set i (.own (.lst (xs++zs))))) else none)|_=>none):=by
 obtain⟨t,p,k⟩:=he;refine⟨_,hP hv (AH p AV Y),fun δ r h G0 H0 G H σ D R q=>?_⟩;obtain⟨y,h1,h2⟩:=aB.mp h;obtain⟨xs,h3,g⟩:=aB.mp h2;split at g
 .rename_i zs;split at g
  .rename_i hl;cases g;have hi:=Uz h3;obtain⟨a,_,U,k2,k3,k4,⟨ys,rfl,k5⟩⟩:=R.own i _ hi;refine⟨.ref a,U,.inl ⟨rfl,ys,Ar.of k4⟩,?_⟩;refine k δ _ h1 G0 H0 G H σ [] _ R fun u G1 H1 T=>?_;obtain⟨a',_,m1,m2,m3,m4,⟨us,rfl,m5⟩⟩:=T.own i _ hi;rw[U]at m1;cases m1;have du:=T.CL _ KM;rw[Du]at du;obtain⟨b,ws,rfl,n1,n2⟩:=du;refine⟨a,b,us,ws,rfl,rfl,m4,T.ins _ _ n1,GY (by rw[m5.len,n2.len];exact hl),?_⟩;exact q _ _ _ (T.drop.gy hi U ⟨_,rfl,m5.app n2⟩)
  .cases g
 .cases g
def cb{i:Nat}{x:Str}{np:Pos}(hv:PE X og (QP i))(hg:Gl X "len")(hm:X.mg "len" = none)(g:starEach [.Name x np] X.env=(false,eval og X.env)::starEach [] X.env:=by rfl)(T:(backTo pos vj).any To=false:=by rfl):DE X (.Call (.Name "len" p) [.Name x np] [] pos) (fun δ=>(ow i δ).map fun xs=>.int xs.length):=by
 refine⟨_,BW CS hg hm aa (AH hv AV g) AT AT g T,fun δ z hz G0 H0 G H σ ts Q U k=>?_⟩;obtain⟨xs,h1,rfl⟩:=aC.mp hz;obtain⟨a,_,Z,k2,k3,Y,⟨ys,rfl,k5⟩⟩:=U.own i _ (Uz h1);refine⟨.ref a,Z,a,ys,rfl,.inl (Ar.of Y),?_⟩;rw[k5.len];exact k _ _ _ (U.put Pb)
end
structure KJ(J:It)(xs:List PyData)(G:Hp):Prop where
 stop:∀H,AL G H->J.stop xs.length H
 go:∀(i:Nat) (d:PyData) H,xs[i]? = some d->AL G H->J.go i H
 Ft:∀(i:Nat) (d:PyData) H x H',xs[i]? = some d->AL G H->J.Ft i H x H'->∀Gc,AL G Gc->AL Gc H->∃Gc',AL Gc Gc'/\Nw Gc H Gc'/\AL Gc' H'/\AL H H'/\Du Gc' d x
def Nw.refl{G H:Hp}:Nw G H G:=fun _ _ h=>.inl h
def ip{K:Fg}{G:Hp}{a:AD}{ys:uI}{xs:tj}(ha:G a=some Jw)(d:Av G xs ys):KJ (YH K a) xs G where
 stop:=fun H e=>⟨ys,Ar.of v0,by rw[d.len];exact aH _⟩
 go:=fun i x H hx e=>by
  obtain⟨v,h1,_⟩:=d.get hx;exact⟨ys,v,Ar.of v0,h1⟩
 Ft:=fun i x H v H' hx e y Gc e1 e2=>by
  obtain⟨rfl,y⟩:=y;have h1:=y ys (Ar.of v0);obtain⟨x',h2,h3⟩:=d.back h1;rw[hx]at h2;cases h2;exact⟨Gc,AL.refl _,Nw.refl,e2,AL.refl _,h3.same e1⟩
def nt{K:Fg}{G:Hp}{a:AD}{ys:uI}{xs:tj}(ha:G a=some yt)(d:Av G xs ys):KJ (Xm K a) xs G where
 stop:=fun H e=>⟨ys,BJ.of v0,by rw[d.len];exact aH _⟩
 go:=fun i x H hx e=>by
  obtain⟨v,h1,_⟩:=d.get hx;exact⟨ys,v,BJ.of v0,h1⟩
 Ft:=fun i x H v H' hx e y Gc e1 e2=>by
  obtain⟨rfl,y⟩:=y;have h1:=y ys (BJ.of v0);obtain⟨x',h2,h3⟩:=d.back h1;rw[hx]at h2;cases h2;exact⟨Gc,AL.refl _,Nw.refl,e2,AL.refl _,h3.same e1⟩
def Ja(lo:Int)(n:Nat):tj:=(List.range n).map fun k=>.int (lo+(k:Nat))
def Z2{G:Hp}{lo:Int}{n:Nat}:KJ (T9 lo n) (Ja lo n) G where
 stop:=fun H e=>by show n<=_;simp[Ja]
 go:=fun i x H hx e=>by
  have:=(aD.mp hx).1;show i<n
  simpa[Ja]using this
 Ft:=fun i x H v H' hx e y Gc e1 e2=>by
  obtain⟨rfl,rfl⟩:=y;unfold Ja at hx;rw[List.getElem?_map]at hx;obtain⟨k,h1,rfl⟩:=aC.mp hx;have hk:k=i:=by
   have:=(aD.mp h1).1;rw[List.getElem?_range (by simpa using this)]at h1;cases h1;rfl
  subst hk;exact⟨Gc,AL.refl _,Nw.refl,e2,AL.refl _,by rw[Du]⟩
def Qx{Gc H:Hp}{p:AD}{Z d2:PD}{T g:V}(Y:AL Gc H)(U:H p=none)(h1:Du Gc Z T)(h2:Du Gc d2 g):∃Gc',AL Gc Gc'/\Nw Gc H Gc'/\AL Gc' (upd H p (.tup [T,g]))/\AL H (upd H p (.tup [T,g]))/\Du Gc' (.tuple [Z,d2]) vS:=by
 have hG:Gc p=none:=by
  cases q:Gc p with
  |none=>rfl
  |some u=>rw[Y _ _ q]at U;cases U
 have e:AL Gc (upd Gc p (.tup [T,g])):=Al hG _;refine⟨upd Gc p (.tup [T,g]),e,fun a o h=>?_,fun a o h=>?_,Al U _,?_⟩
 .by_cases ha:a=p
  .subst ha;exact .inr (.inl U)
  .rw[AK ha]at h;exact .inl h
 .by_cases ha:a=p
  .subst ha;rw[AU]at h ⊢;exact h
  .rw[AK ha]at h ⊢;exact Y _ _ h
 .rw[Du];exact⟨p,[T,g],rfl,AU,.cons (h1.same e) (.cons (h2.same e) .nil)⟩
def HL(xs:tj):tj:=xs.zipIdx.map fun q=>.tuple [.int (q.2:Nat),q.1]
def J3{xs:tj}{i:Nat}{d:PD}(h:(HL xs)[i]? = some d):∃x,xs[i]? = some x/\d=.tuple [.int (i:Nat),x]:=by
 unfold HL at h;rw[List.getElem?_map]at h;obtain⟨q,g,rfl⟩:=aC.mp h;rw[List.getElem?_zipIdx]at g;obtain⟨x,T,rfl⟩:=aC.mp g;exact⟨x,T,by simp⟩
def fN{K:Fg}{G:Hp}{a:AD}{ys:uI}{xs:tj}(ha:G a=some yt)(d:Av G xs ys):KJ (oO K a) (HL xs) G where
 stop:=fun H e=>⟨ys,BJ.of v0,by rw[d.len];simp[HL]⟩
 go:=fun i x H hx e=>by
  obtain⟨x',h0,rfl⟩:=J3 hx;obtain⟨v,h1,_⟩:=d.get h0;exact⟨ys,v,BJ.of v0,h1⟩
 Ft:=fun i x H v H' hx e y Gc e1 e2=>by
  obtain⟨x',h0,rfl⟩:=J3 hx;obtain⟨p,u,rfl,hp,rfl,y⟩:=y;have h1:=y ys (BJ.of v0);obtain⟨x2,h2,h3⟩:=d.back h1;rw[h0]at h2;cases h2;exact Qx e2 hp Pb (h3.same e1)
def ei{K:Fg}{G:Hp}{a:AD}{ys:uI}{xs:tj}(ha:G a=some Jw)(d:Av G xs ys):KJ (Xc K a) (HL xs) G where
 stop:=fun H e=>⟨ys,Ar.of v0,by rw[d.len];simp[HL]⟩
 go:=fun i x H hx e=>by
  obtain⟨x',h0,rfl⟩:=J3 hx;obtain⟨v,h1,_⟩:=d.get h0;exact⟨ys,v,Ar.of v0,h1⟩
 Ft:=fun i x H v H' hx e y Gc e1 e2=>by
  obtain⟨x',h0,rfl⟩:=J3 hx;obtain⟨p,u,rfl,hp,rfl,y⟩:=y;have h1:=y ys (Ar.of v0);obtain⟨x2,h2,h3⟩:=d.back h1;rw[h0]at h2;cases h2;exact Qx e2 hp Pb (h3.same e1)
def KU(xs ys:tj):tj:=(xs.zip ys).map fun q=>.tuple [q.1,q.2]
def Wf{xs ys:tj}{i:Nat}{d:PD}(h:(KU xs ys)[i]? = some d):∃x y,xs[i]? = some x/\ys[i]? = some y/\d=.tuple [x,y]:=by
 unfold KU at h;rw[List.getElem?_map]at h;obtain⟨q,U,rfl⟩:=aC.mp h;obtain⟨T,g⟩:=List.getElem?_zip_eq_some.mp U;exact⟨q.1,q.2,T,g,rfl⟩
def nI{G:Hp}{b1 b2:Bool}{a1 a2:AD}{us vs:uI}{xs ys:tj}(h1:G a1=some (if b1 then .tup us else .lst us))(h2:G a2=some (if b2 then .tup vs else .lst vs))(d1:Av G xs us)(d2:Av G ys vs):KJ (nv b1 b2 a1 a2) (KU xs ys) G where
 stop:=fun H e=>by
  have k1:=e _ _ h1;have k2:=e _ _ h2;refine⟨us,vs,?_,?_,?_⟩
  .cases b1<;>simpa[B9]using k1
  .cases b2<;>simpa[B9]using k2
  .rw[d1.len,d2.len];simp[KU];lia
 go:=fun i x H hx e=>by
  obtain⟨x1,x2,k1,k2,rfl⟩:=Wf hx;obtain⟨v1,k3,_⟩:=d1.get k1;obtain⟨v2,k4,_⟩:=d2.get k2;have m1:=e _ _ h1;have m2:=e _ _ h2;refine⟨us,v1,vs,v2,?_,?_,k3,k4⟩
  .cases b1<;>simpa[B9]using m1
  .cases b2<;>simpa[B9]using m2
 Ft:=fun i x H v H' hx e y Gc e1 e2=>by
  obtain⟨x1,x2,k1,k2,rfl⟩:=Wf hx;obtain⟨p,v1,v2,rfl,hp,rfl,y1,y2⟩:=y;have m1:=e _ _ h1;have m2:=e _ _ h2;have z1:=y1 us (by cases b1<;>simpa[B9]using m1);have z2:=y2 vs (by cases b2<;>simpa[B9]using m2);obtain⟨w1,n1,n2⟩:=d1.back z1;obtain⟨w2,n3,n4⟩:=d2.back z2;rw[k1]at n1;cases n1;rw[k2]at n3;cases n3;exact Qx e2 hp (n2.same e1) (n4.same e1)
def DI(X:Cx)(tg iter:Expr)(f:tY):Prop:=∃g,PI X tg iter g/\∀δ xs,f δ=some xs->∀G0 H0 G H σ ts (R:yO),Rw G0 H0 G H σ δ ts->(∀J T H',Rw G0 H0 T H' σ δ ts->KJ J xs T->R J H')->g σ H R
section
variable{X:Cx}{tg a b e:Expr}{f g h:tZ}{fs:tY}{pos p:Pos}{sts:uL}{F:DF}
def PI.or{U T:TI}(h:PI X tg e U)(h':PI X tg e T):PI X tg e (fun σ H R=>U σ H R\/T σ H R):=fun pins s σ H R I q=>by
 rcases q with q|q
 .exact h pins s σ H R I q
 .exact h' pins s σ H R I q
def Fj:PD->Option sw
 |.list xs=>some xs
 |.tuple xs=>some xs
 |_=>none
def FG(he:ym):DI X tg e (fun δ=>(f δ).bind Fj):=by
 obtain⟨t,p,k⟩:=he;refine⟨_,(EZ p).or (VD p),fun δ xs h G0 H0 G H σ ts R R0 q=>?_⟩;obtain⟨x,h1,Y⟩:=aB.mp h;unfold Fj at Y;split at Y
 .cases Y
  left
  refine k δ _ h1 G0 H0 G H σ ts _ R0 fun v G' H' T=>?_;have du:=T.CL _ KM;rw[Du]at du;obtain⟨a,ys,rfl,U,Z⟩:=du;exact⟨a,rfl,⟨ys,Ar.of zAK⟩,q _ _ _ T.drop (ip U Z)⟩
 .cases Y
  right
  refine k δ _ h1 G0 H0 G H σ ts _ R0 fun v G' H' T=>?_;have du:=T.CL _ KM;rw[Du]at du;obtain⟨a,ys,rfl,U,Z⟩:=du;exact⟨a,rfl,⟨ys,BJ.of zAK⟩,q _ _ _ T.drop (nt U Z)⟩
 .cases Y
def IM:List PD->Option sw
 |[.int j]=>if -1000000<=j/\j<=1000000 then some (Ja 0 j.toNat) else none
 |_=>none
def Yu:List PD->Option sw
 |[.int i,.int j]=>if -1000000<=i/\i<=1000000/\-1000000<=j/\j<=1000000 then some (Ja i (j-i).toNat) else none
 |_=>none
def Ju(hg:Gl X "range")(hm:zBR)(ha:DA X [a] fs)(Y:starEach [a] X.env=[Op]:=by rfl):DI X tg (.Call (.Name "range" p) [a] [] pos) (fun δ=>(fs δ).bind IM):=by
 obtain⟨t,p,k⟩:=ha;refine⟨_,Jt hg hm p Y,fun δ xs h G0 H0 G H σ ts R R0 q=>?_⟩;obtain⟨x,Z,T⟩:=aB.mp h;refine k δ _ Z G0 H0 G H σ ts _ R0 fun vs G' H' R' U=>?_;obtain⟨d,R2⟩:=R'.args U;unfold IM at T;split at T
 .split at T
  .cases T;obtain⟨u,rfl,du⟩:=d.JW;rw[Du]at du;subst du;exact⟨_,rfl,by lia,by lia,q _ _ _ R2 Z2⟩
  .cases T
 .cases T
def UD(hg:Gl X "range")(hm:zBR)(ha:DA X [a,b] fs)(hs:starEach [a,b] X.env=[Op,No]:=by rfl)(U:starEach [b] X.env=[No]:=by rfl):DI X tg (.Call (.Name "range" p) [a,b] [] pos) (fun δ=>(fs δ).bind Yu):=by
 obtain⟨t,p,k⟩:=ha;refine⟨_,cy hg hm p hs U,fun δ xs h G0 H0 G H σ ts R R0 q=>?_⟩;obtain⟨x,h1,T⟩:=aB.mp h;refine k δ _ h1 G0 H0 G H σ ts _ R0 fun vs G' H' R' Z=>?_;obtain⟨d,R2⟩:=R'.args Z;unfold Yu at T;split at T
 .split at T
  .cases T;obtain⟨u,v,rfl,du,Y⟩:=d.Nm;rw[Du]at du Y;subst du Y;exact⟨_,_,rfl,⟨by lia,by lia,by lia,by lia⟩,q _ _ _ R2 Z2⟩
  .cases T
 .cases T
def NW:List PD->Option sw
 |[.list xs]=>some (HL xs)
 |[.tuple xs]=>some (HL xs)
 |_=>none
def Ta{elts:uD}{x1}{T:Pos}(hg:Gl X "enumerate")(hm:X.mg "enumerate" = none)(ha:DA X [a] fs)(hs:starEach [a] X.env=[Op]:=by rfl):DI X (.Tuple elts x1 T) xU (fun δ=>(fs δ).bind NW):=by
 obtain⟨t,p,k⟩:=ha;refine⟨_,(WX hg hm p hs).or (iW hg hm p hs),fun δ xs h G0 H0 G H σ ts R R0 q=>?_⟩;obtain⟨x,h1,Y⟩:=aB.mp h;unfold NW at Y;split at Y
 .cases Y
  left
  refine k δ _ h1 G0 H0 G H σ ts _ R0 fun vs G' H' R' hv=>?_;obtain⟨d,R2⟩:=R'.args hv;obtain⟨u,rfl,du⟩:=d.JW;rw[Du]at du;obtain⟨a,ys,rfl,U,Z⟩:=du;exact⟨a,rfl,⟨ys,Ar.of (R2.ins _ _ U)⟩,q _ _ _ R2 (ei U Z)⟩
 .cases Y
  right
  refine k δ _ h1 G0 H0 G H σ ts _ R0 fun vs G' H' R' hv=>?_;obtain⟨d,R2⟩:=R'.args hv;obtain⟨u,rfl,du⟩:=d.JW;rw[Du]at du;obtain⟨a,ys,rfl,U,Z⟩:=du;exact⟨a,rfl,⟨ys,BJ.of (R2.ins _ _ U)⟩,q _ _ _ R2 (fN U Z)⟩
 .cases Y
def zip2:List PD->Option sw
 |[x,y]=>(Fj x).bind fun xs=>(Fj y).map fun ys=>KU xs ys
 |_=>none
def Iy{G:Hp}{x:PD}{v:V}{xs:tj}(h:Du G x v)(e:Fj x=some xs):∃(b:Bool) (a:AD) (ys:uI),v=.ref a/\G a=some (if b then .tup ys else .lst ys)/\Av G xs ys:=by
 unfold Fj at e;split at e
 .cases e;rw[Du]at h;obtain⟨a,ys,rfl,U,T⟩:=h;exact⟨false,a,ys,rfl,U,T⟩
 .cases e;rw[Du]at h;obtain⟨a,ys,rfl,U,T⟩:=h;exact⟨true,a,ys,rfl,U,T⟩
 .cases e
def Zb{elts:uD}{x1}{T:Pos}(hg:Gl X "zip")(hm:xn)(ha:DA X [a,b] fs)(hs:starEach [a,b] X.env=[Op,No]:=by rfl)(Y:starEach [b] X.env=[No]:=by rfl):DI X (.Tuple elts x1 T) (.Call (.Name "zip" p) [a,b] [] pos) (fun δ=>(fs δ).bind zip2):=by
 obtain⟨t,p,k⟩:=ha;refine⟨_,WA hg hm p hs Y,fun δ xs h G0 H0 G H σ ts R R0 q=>?_⟩;obtain⟨x,h1,U⟩:=aB.mp h;refine k δ _ h1 G0 H0 G H σ ts _ R0 fun vs G' H' R' hv=>?_;obtain⟨d,R2⟩:=R'.args hv;unfold zip2 at U;split at U
 .obtain⟨xs1,h3,h4⟩:=aB.mp U;obtain⟨ys1,h5,rfl⟩:=aC.mp h4;obtain⟨u,v,rfl,du,dv⟩:=d.Nm;obtain⟨b1,a1,us,rfl,Z,n2⟩:=Iy du h3;obtain⟨b2,a2,ws,rfl,m1,m2⟩:=Iy dv h5;have s1:=R2.ins _ _ Z;have s2:=R2.ins _ _ m1;exact⟨b1,b2,a1,a2,rfl,⟨us,by cases b1<;>simpa[B9]using s1⟩,⟨ws,by cases b2<;>simpa[B9]using s2⟩,q _ _ _ R2 (nI Z m1 n2 m2)⟩
 .cases U
def DG(X:Cx)(tg:Expr)(set:al):Prop:=∃g,PG X tg g/\∀δ x U,set x δ=some U->∀G0 H0 G H σ v (Q:St->Hp->Prop),Rw G0 H0 G H σ δ [(x,v)]->(∀T Y H',Rw G0 H0 Y H' T U []->Q T H')->g v σ H Q
def E9{i:Nat}{x:Str}(h:PG X ur (Ds i)):DG X ur (fun y δ=>some wR) :=
 ⟨_,h,fun δ y T e G0 H0 G H σ v Q R k=>by cases e;exact k _ _ _ R.Hi⟩
def Eu(i j:Nat)(y:PD)(δ:Dv):Option Dv:=match y with
 |.tuple [u,v]=>some ((δ.set i (.d u)).set j (.d v))
 |_=>none
def OV{x y:Str}{i j:Nat}{Z Y:Pos}{k1}(h:PG X (.Tuple [.Name x Z,.Name y Y] k1 pos) (ZX X.K 2 (Lq (Ds i) (Lq (Ds j) ZP)))):DG X (.Tuple [.Name x Z,.Name y Y] k1 pos) (Eu i j):=by
 refine⟨_,h,fun δ z δ' e G0 H0 G H σ v Q R k=>?_⟩;unfold Eu at e;split at e
 .cases e;have du:=R.CL _ KM;rw[Du]at du;obtain⟨a,ys,rfl,n1,n2⟩:=du;obtain⟨U,T,rfl,m1,m2⟩:=n2.Nm;refine⟨a,[U,T],rfl,BJ.of (R.ins _ _ n1),rfl,U,[T],rfl,T,[],rfl,rfl,?_⟩;exact k _ _ _ (((R.drop.put m2).put m1).Hi.Hi)
 .cases e
def E2(set:al)(U:DF):List PD->Dv->Option Ou
 |[],δ=>some zS
 |x::xs,δ=>match (set x δ).bind U with
  |some (.nx T)=>E2 set U xs T
  |some (.ct T)=>E2 set U xs T
  |some (.bk T)=>some (.nx T)
  |some (.rt v)=>some (.rt v)
  |some (.rn v)=>some (.rn v)
  |none=>none
def EB{set:al}(hp:zDO)(hc:jj)(hi:DI X tg e fs)(hg:DG X tg set)(hb:Mo X sts F)(hs:∀x,foldedSetIterable e X.env x=pure x:=by intro _;rfl):DS X (.For tg e sts [] pos) (fun δ=>(fs δ).bind fun xs=>E2 set F xs δ):=by
 obtain⟨wi,pi,ki⟩:=hi;obtain⟨g,pg,kg⟩:=hg;obtain⟨tb,pb,kb⟩:=hb;refine⟨_,Hr hp hc pi pg pb hs,fun δ r h G0 H0 G H σ D R q=>?_⟩;obtain⟨xs,h1,h2⟩:=aB.mp h;refine ki δ xs h1 G0 H0 G H σ [] _ R fun J Ga Ha Ra it=>?_;refine⟨fun i m U H'=>m=xs.length-i/\i<=xs.length/\∃T G',E2 set F (xs.drop i) T=some r/\Rw G0 H0 G' H' U T []/\AL Ga G',⟨xs.length,by simp,Nat.zero_le _,δ,Ga,by simpa using h2,Ra,AL.refl _⟩,?_⟩;rintro i m σ1 H1 ⟨rfl,hi,δ1,G1,f1,R1,s1⟩;have sH:AL Ga H1:=s1.trans R1.ins;by_cases Z:i<xs.length
 .right
  have hx:xs[i]? = some xs[i]:=by simp[Z]
  refine⟨it.go i _ H1 hx sH,fun U H'=>i+1<=xs.length/\∃T G',E2 set F (xs.drop On) T=some r/\Rw G0 H0 G' H' U T []/\AL Ga G',fun U H' n=>⟨xs.length-On,by lia,rfl,n⟩,fun x H' y=>?_⟩;obtain⟨G2,e1,e2,e3,e4,e5⟩:=it.Ft i _ H1 x H' hx sH y G1 s1 R1.ins;have R2:=(R1.lift e1 e2 e3 e4).put e5;have s2:=s1.trans e1;rw[List.drop_eq_getElem_cons Z]at f1;unfold E2 at f1;cases hb2:(set xs[i] δ1).bind F with
  |none=>rw[hb2]at f1;cases f1
  |some o=>
   obtain⟨δ2,k1,k2⟩:=aB.mp hb2;rw[hb2]at f1;have R2b:=R2.base;refine kg δ1 _ δ2 k1 G2 H0 G2 H' σ1 x _ R2b fun σ3 G3 H3 R3=>?_;refine kb δ2 o k2 G2 H0 G3 H3 σ3 _ R3 ?_;cases o with
   |nx Y=>exact fun σ4 G4 H4 R4=>⟨Z,Y,G4,f1,R2.drop.WD R4,s2.trans R4.ext⟩
   |ct Y=>exact fun σ4 G4 H4 R4=>⟨Z,Y,G4,f1,R2.drop.WD R4,s2.trans R4.ext⟩
   |bk Y=>cases f1;exact fun σ4 G4 H4 R4=>q σ4 G4 H4 (R2.drop.WD R4)
   |rt v=>cases f1;exact fun w G4 H4 h1 h2 h3 h4 h5=>q w G4 H4 (R2.ext.trans h1) (R2.new.trans h2) h3 h4 h5
   |rn v=>cases f1;exact fun w ys G4 H4 h1 h2=>q w ys G4 H4 (R2.ext.trans h1) (R2.new.trans h2)
 .left
  have e:i=xs.length:=by lia
  subst e;refine⟨it.stop H1 sH,?_⟩;rw[List.drop_length]at f1;unfold E2 at f1;cases f1;exact q _ _ _ R1
end
def tD(f:tZ):TE:=fun σ H Q=>∃δ x G0 H0 G ts,f δ=some x/\Rw G0 H0 G H σ δ ts/\∀v g H',Rw G0 H0 g H' σ δ ((x,v)::ts)->Q v H'
def Xf(f:tf):TT:=fun σ H Q=>∃δ x G0 H0 G ts,f δ=some x/\Rw G0 H0 G H σ δ ts/\∀g H',Rw G0 H0 g H' σ δ ts->Q x H'
def DE.pe{X:Cx}{e:Expr}{f:tZ}(h:ym):PE X e (tD f):=by
 obtain⟨t,p,k⟩:=h;intro pins s σ H Q I q;obtain⟨δ,x,G0,H0,G,ts,U,T,g⟩:=q;exact p pins s σ H Q I (k δ x U G0 H0 G H σ ts Q T g)
def DT.pt{X:Cx}{e:Expr}{f:tf}(h:DT X e f):PT X e (Xf f):=by
 obtain⟨t,p,k⟩:=h;intro pins s σ H Q I q;obtain⟨δ,x,G0,H0,G,ts,U,T,g⟩:=q;exact p pins s σ H Q I (k δ x U G0 H0 G H σ ts Q T g)
def XQ(X:Cx)(g:uD)(f:tf):Prop:=L4 X g (Xf f)
def HM{X:Cx}:XQ X [] (fun _=>some true):=by
 intro pins s σ H Q I q;obtain⟨δ,x,G0,H0,G,ts,U,T,g⟩:=q;cases U;exact EW pins s σ H Q I (g _ _ T)
def iD{X:Cx}{c:Expr}{f:tf}(h:DT X c f):XQ X [c] f:=jk h.pt
def DM(fr:uN)(δ:Dv):Dv:=fr.map fun o=>match o with
 |some j=>(match δ[j]? with|some (.d x)=>.d x|_=>.no)
 |none=>.no
def Rw.inner{G0 H0 G H:Hp}{σ:St}{δ:Dv}{ts:Sc}(fr:uN)(r:IS):Rw G H G H (carry fr σ) zAC ts:=by
 have key:∀(i:Nat) (l:L),(DM fr δ)[i]? = some l->∃o,fr[i]? = some o/\l=(match o with|some j=>(match δ[j]? with|some (.d x)=>.d x|_=>.no)|none=>.no):=fun i l h=>by
  unfold DM at h;rw[List.getElem?_map]at h;obtain⟨o,U,rfl⟩:=aC.mp h;exact⟨o,U,rfl⟩
 have g:∀(i:Nat) (xs:Oc),(DM fr δ)[i]?≠some (L.own xs):=fun i xs h=>by
  obtain⟨o,_,T⟩:=key i _ h;split at T
  .split at T<;>cases T
  .cases T
 refine⟨AL.refl _,Nw.refl,r.ins,AL.refl _,by simp[carry,DM],fun i x h=>?_,fun i xs h=>absurd h (g i xs),fun i j xs ys _ h=>absurd h (g i xs),r.CL⟩;obtain⟨o,U,T⟩:=key i _ h;split at T
 .rename_i j;split at T
  .rename_i y hy;cases T;obtain⟨v,Z,Y⟩:=r.dat j _ hy;refine⟨v,?_,Y⟩;unfold carry;rw[List.getElem?_map,U];simp[Z]
  .cases T
 .cases T
def Rw.other{G0 H0 G H:Hp}{σ:St}{δ:Dv}{ts:Sc}{D:AD}{o:HO}(r:IS)(hG:G D=none)(h0:H0 D=none)(Z:zDf):Rw G0 H0 G (upd H D o) σ δ ts:=by
 refine⟨r.ext,r.new,fun a u h=>?_,fun a u h=>?_,r.len,r.dat,fun i xs h=>?_,r.apart,r.CL⟩
 .rw[AK (fun z=>by subst z;rw[hG]at h;cases h)];exact r.ins _ _ h
 .rw[AK (fun z=>by subst z;rw[h0]at h;cases h)];exact r.keep _ _ h
 .obtain⟨a,ys,g,Y,U,T,k5⟩:=r.own i xs h;exact⟨a,ys,g,Y,U,by rw[AK (fun z=>by subst z;exact Z i xs h g)];exact T,k5⟩
def Rw.adopt{G0 H0 G H:Hp}{σ:St}{δ:Dv}{ts:Sc}{D:AD}{ys:uI}(r:IS)(hD:H D=some Jw)(hG:G D=none)(h0:H0 D=none)(ho:zDf):Rw G0 H0 (upd G D Jw) H σ δ ts:=by
 have e:AL G (upd G D Jw):=Al hG _;refine⟨r.ext.trans e,fun a u h=>?_,fun a u h=>?_,r.keep,r.len,fun i x h=>?_,fun i xs h=>?_,r.apart,fun q hq=>(r.CL q hq).same e⟩
 .by_cases ha:a=D
  .subst ha;exact .inr (.inl h0)
  .rw[AK ha]at h;exact r.new _ _ h
 .by_cases ha:a=D
  .subst ha;rw[AU]at h;rw[hD];exact h
  .rw[AK ha]at h;exact r.ins _ _ h
 .obtain⟨v,g,T⟩:=r.dat i x h;exact⟨v,g,T.same e⟩
 .obtain⟨a,U,g,T,Z,Y,k5⟩:=r.own i xs h;have ha:a≠D:=fun z=>by subst z;exact ho i xs h g
  exact⟨a,U,g,by rw[AK ha];exact T,Z,Y,k5.same e⟩
def KG(set:al)(T:tf)(f:tZ)(δ:Dv)(x:PD):Option t8 :=
 (set x δ).bind fun g=>(T g).bind fun b=>if b=true then(f g).map some else some none
def collect(one:PD->Option (Option PD)):List PD->Option sw
 |[]=>some []
 |x::xs=>(one x).bind fun o=>(collect one xs).map fun r=>o.toList++r
def Gg(set:al)(g:tf)(f:tZ)(fr:uN)(fs:tY)(δ:Dv):Option tj :=
 (fs δ).bind fun xs=>(collect (KG set g f zAC) xs).bind JS
def Dy(set:al)(g:tf)(f:tZ)(fr:uN)(fs:tY)(δ:Dv):t8 :=
 (Gg set g f fr fs δ).map .list
structure XW(G0 H0 Ga:Hp)(σ:St)(δ:Dv)(ts:List (PyData×V))(one:PyData->Option (Option PyData))(xs full:List PyData)(D:Addr)(i:Nat)(ys:ON)(H:Hp):Prop where
 ex:∃G done rest,Rw G0 H0 G H σ δ ts/\AL Ga G/\G D=none/\collect one (xs.drop i)=some rest/\done++rest=full/\Av G done ys
 h0:H0 D=none
 ap:∀(j:Nat) (us:Oc),δ[j]? = some (L.own us)->σ[j]?≠some wd
def Ss{G0 H0 G H:Hp}{D:AD}{ys:uI}(T:G0 D=none)(g:H0 D=some Jw)(n:Nw G0 H0 G)(e:AL G H)(k:AL H0 H):G D=none:=by
 cases q:G D with
 |none=>rfl
 |some o=>
  rcases n _ _ q with z|z|⟨us,z⟩
  .rw[T]at z;cases z
  .rw[g]at z;cases z
  .have:=e _ _ q;rw[k _ _ g,z]at this;cases this
section
variable{X:Cx}{elt iter:Expr}{x y:Str}{px pos:Pos}{ifs:uD}{scope:wn}{fs:tY}{tif:tf}{f:tZ}
def Ex(i:Nat)(y:PD)(δ:Dv):Option Dv:=some wR
def RC{wi:TI}{ix:Nat}{fr:uN}(ki:zCX){δ:Dv}{zs:tj}(hz:Gg (Ex ix) tif f fr fs δ=some zs){G0 H0 G H:Hp}{σ:St}{ts:Sc}{Q:VK}(R0:IS)(k:zCZ):O5 wi fr ix (Xf tif) (tD f) σ H Q:=by
 unfold Gg at hz;obtain⟨xs,m2,m3⟩:=aB.mp hz;obtain⟨full,m4,m5⟩:=aB.mp m3;obtain⟨rfl,hfew⟩:=Oa m5;refine ki δ xs m2 G0 H0 G H σ ts _ R0 fun J Ga Ha Ra it D hD=>?_;have hGD:Ga D=none:=by
  cases q:Ga D with
  |none=>rfl
  |some u=>rw[Ra.ins _ _ q]at hD;cases hD
 have T:H0 D=none:=by
  cases q:H0 D with
  |none=>rfl
  |some u=>rw[Ra.keep _ _ q]at hD;cases hD
 have g:∀(j:Nat) (us:Oc),δ[j]? = some (L.own us)->σ[j]?≠some wd:=fun j us h z=>by
  obtain⟨a,ys,k1,k2,k3,k4,k5⟩:=Ra.own j us h;rw[z]at k1;cases k1;rw[k4]at hD;cases hD
 refine Fq (n:=xs.length) (XW G0 H0 Ga σ δ ts (KG (Ex ix) tif f zAC) xs full D) ⟨⟨Ga,[],full,Ra.other hGD T g,AL.refl _,hGD,by simpa using m4,rfl,.nil⟩,T,g⟩ ?_ ?_
 .rintro i ys H1 hlt ⟨⟨G1,done,rest,R1,s1,g1,c1,e1,d1⟩,_,_⟩ hD1;have hx:xs[i]? = some xs[i]:=by simp[hlt]
  have sH:=s1.trans R1.ins;have hyl:ys.length<sizeLine:=SU (by
   rw[d1.len];have:done.length<=full.length:=by rw[<-e1];simp
   lia)
  refine⟨it.go i _ H1 hx sH,hyl,fun v H' y=>?_⟩;obtain⟨G2,n1,n2,n3,n4,n5⟩:=it.Ft i _ H1 v H' hx sH y G1 s1 R1.ins;have R2:=R1.lift n1 n2 n3 n4;have hD2:=n4 _ _ hD1;have g2:G2 D=none:=Ss g1 hD1 n2 n3 n4;rw[List.drop_eq_getElem_cons hlt]at c1;unfold collect at c1;obtain⟨o,c2,c3⟩:=aB.mp c1;obtain⟨U,c4,rfl⟩:=aC.mp c3;unfold KG Ex at c2;simp only[Option.bind_some]at c2;obtain⟨b,c5,c6⟩:=aB.mp c2;have Ri:=((R2.inner fr).put n5).Hi (i:=ix);have Ri0:Rw G2 H' G2 H' ((carry fr σ).set ix xp) ((DM fr δ).set ix (.d xs[i])) []:=Ri.less fun q hq=>by cases hq
  refine⟨_,b,G2,H',G2,[],c5,Ri0,fun G3 H3 Z=>?_⟩;have R3o:=R2.lift Z.ext Z.new Z.ins Z.keep;have hD3:=Z.keep _ _ hD2;have g3:G3 D=none:=Ss g2 hD2 Z.new Z.ins Z.keep;dsimp only;split
  .rename_i hb;rw[if_pos hb]at c6;obtain⟨w,c7,rfl⟩:=aC.mp c6;refine⟨_,w,G2,H',G3,[],c7,Z,fun u G4 H4 Y=>?_⟩;have R4o:=R2.lift Y.ext Y.new Y.ins Y.keep;have hD4:=Y.keep _ _ hD2;have g4:G4 D=none:=Ss g2 hD2 Y.new Y.ins Y.keep;refine⟨hD4,EG hlt ⟨⟨G4,done++[w],U,R4o.other g4 T g,s1.trans (n1.trans Y.ext),g4,c4,by simpa using e1,(d1.same (n1.trans Y.ext)).app (.cons (Y.CL _ KM) .nil)⟩,T,g⟩⟩
  .rename_i hb;rw[if_neg hb]at c6;cases c6;exact Xy hlt hD3 ⟨⟨G3,done,U,R3o,s1.trans (n1.trans Z.ext),g3,c4,by simpa using e1,d1.same (n1.trans Z.ext)⟩,T,g⟩
 .rintro ys H1 ⟨⟨G1,done,rest,R1,s1,g1,c1,e1,d1⟩,_,_⟩ hD1;refine⟨it.stop H1 (s1.trans R1.ins),?_⟩;rw[List.drop_length]at c1;cases c1;rw[List.append_nil]at e1;subst e1;exact k _ _ _ _ R1 hD1 g1 T g d1
def Z4{Z:TI}{ix:Nat}{fr:uN}(ki:zCY){δ:Dv}{z:PD}(hz:Dy (Ex ix) tif f fr fs δ=some z){G0 H0 G H:Hp}{σ:St}{ts:Sc}{Q:VK}(R0:IS)(k:zCG):O5 Z fr ix (Xf tif) (tD f) σ H Q:=by
 unfold Dy at hz;obtain⟨full,m1,rfl⟩:=aC.mp hz;refine RC ki m1 R0 fun D ys G1 H1 R1 Y g1 U T d1=>?_;have e:AL G1 (upd G1 D Jw):=Al g1 _;have R2:=R1.adopt Y g1 U T;refine k _ _ _ (R2.put ?_);rw[Du];exact⟨D,ys,rfl,AU,d1.same e⟩
def Ky(N:uC)(ix:Nat)(fr:uN)(hi:DI X (.Name x px) iter fs)(g:zCv)(Z:zDA) (h1:B1 scope N x ix=true:=by decide +kernel)(h2:X.calm=true:=by rfl)(h3:Fz N X.N scope X.env.scope fr 0=true:=by rfl)(h4:fr.length=N.length:=by rfl)(h5:freeOk X.env.scope scope.names=true:=by rfl) (Y:∀x,foldedSetIterable iter X.env x=pure x:=by intro _;rfl):DE X HJ (Dy (Ex ix) tif f fr fs):=by
 obtain⟨wi,pi,T⟩:=hi;exact⟨_,Ff N ix fr pi g (fun cl C s₀ H₀ fp=>(Z cl C s₀ H₀ fp).pe) h1 h2 h3 h4 h5 Y,fun δ z U G0 H0 G H σ ts Q R0 k=>Z4 T U R0 k⟩
end
section
variable{X:Cx}{elt iter:Expr}{x y:Str}{px py tp pos:Pos}{tk:Nat}{ifs:uD}{scope:wn}{fs:tY}{tif:tf}{f:tZ}
def W5{wi:TI}{ix iy:Nat}{fr:uN}(ki:zCX){δ:Dv}{zs:tj}(hz:Gg (Eu ix iy) tif f fr fs δ=some zs){G0 H0 G H:Hp}{σ:St}{ts:Sc}{Q:VK}(R0:IS)(k:zCZ):Mh X.K wi fr ix iy (Xf tif) (tD f) σ H Q:=by
 unfold Gg at hz;obtain⟨xs,m2,m3⟩:=aB.mp hz;obtain⟨full,m4,m5⟩:=aB.mp m3;obtain⟨rfl,hfew⟩:=Oa m5;refine ki δ xs m2 G0 H0 G H σ ts _ R0 fun J Ga Ha Ra it D hD=>?_;have hGD:Ga D=none:=by
  cases q:Ga D with
  |none=>rfl
  |some u=>rw[Ra.ins _ _ q]at hD;cases hD
 have T:H0 D=none:=by
  cases q:H0 D with
  |none=>rfl
  |some u=>rw[Ra.keep _ _ q]at hD;cases hD
 have g:∀(j:Nat) (us:Oc),δ[j]? = some (L.own us)->σ[j]?≠some wd:=fun j us h z=>by
  obtain⟨a,ys,k1,k2,k3,k4,k5⟩:=Ra.own j us h;rw[z]at k1;cases k1;rw[k4]at hD;cases hD
 refine Qm (n:=xs.length) (XW G0 H0 Ga σ δ ts (KG (Eu ix iy) tif f zAC) xs full D) ⟨⟨Ga,[],full,Ra.other hGD T g,AL.refl _,hGD,by simpa using m4,rfl,.nil⟩,T,g⟩ ?_ ?_
 .rintro i ys H1 hlt ⟨⟨G1,done,rest,R1,s1,g1,c1,e1,d1⟩,_,_⟩ hD1;have hx:xs[i]? = some xs[i]:=by simp[hlt]
  have sH:=s1.trans R1.ins;have hyl:ys.length<sizeLine:=SU (by
   rw[d1.len];have:done.length<=full.length:=by rw[<-e1];simp
   lia)
  refine⟨it.go i _ H1 hx sH,hyl,fun v H' y=>?_⟩;obtain⟨G2,n1,n2,n3,n4,n5⟩:=it.Ft i _ H1 v H' hx sH y G1 s1 R1.ins;have R2:=R1.lift n1 n2 n3 n4;have hD2:=n4 _ _ hD1;have g2:G2 D=none:=Ss g1 hD1 n2 n3 n4;rw[List.drop_eq_getElem_cons hlt]at c1;unfold collect at c1;obtain⟨o,c2,c3⟩:=aB.mp c1;obtain⟨U,c4,rfl⟩:=aC.mp c3;unfold KG at c2;obtain⟨δ1,c8,c9⟩:=aB.mp c2;obtain⟨b,c5,c6⟩:=aB.mp c9;unfold Eu at c8;split at c8
  .rename_i u1 u2 hu;cases c8;rw[hu,Du]at n5;obtain⟨pa,ps,rfl,q1,q2⟩:=n5;obtain⟨w1,w2,rfl,q3,q4⟩:=q2.Nm;have Ri:=(((R2.inner fr).put q4).put q3).Hi (i:=ix) |>.Hi (i:=iy)
   have Ri0:Rw G2 H' G2 H' (((carry fr σ).set ix (some w1)).set iy (some w2)) (((DM fr δ).set ix (.d u1)).set iy (.d u2)) []:=Ri.less fun q hq=>by cases hq
   refine⟨pa,w1,w2,rfl,BJ.of (n3 _ _ q1),?_⟩;refine⟨_,b,G2,H',G2,[],c5,Ri0,fun G3 H3 Z=>?_⟩;have R3o:=R2.lift Z.ext Z.new Z.ins Z.keep;have hD3:=Z.keep _ _ hD2;have g3:G3 D=none:=Ss g2 hD2 Z.new Z.ins Z.keep;dsimp only;split
   .rename_i hb;rw[if_pos hb]at c6;obtain⟨w,c7,rfl⟩:=aC.mp c6;refine⟨_,w,G2,H',G3,[],c7,Z,fun u G4 H4 Y=>?_⟩;have R4o:=R2.lift Y.ext Y.new Y.ins Y.keep;have hD4:=Y.keep _ _ hD2;have g4:G4 D=none:=Ss g2 hD2 Y.new Y.ins Y.keep;refine⟨hD4,EG hlt ⟨⟨G4,done++[w],U,R4o.other g4 T g,s1.trans (n1.trans Y.ext),g4,c4,by simpa using e1,(d1.same (n1.trans Y.ext)).app (.cons (Y.CL _ KM) .nil)⟩,T,g⟩⟩
   .rename_i hb;rw[if_neg hb]at c6;cases c6;exact Xy hlt hD3 ⟨⟨G3,done,U,R3o,s1.trans (n1.trans Z.ext),g3,c4,by simpa using e1,d1.same (n1.trans Z.ext)⟩,T,g⟩
  .cases c8
 .rintro ys H1 ⟨⟨G1,done,rest,R1,s1,g1,c1,e1,d1⟩,_,_⟩ hD1;refine⟨it.stop H1 (s1.trans R1.ins),?_⟩;rw[List.drop_length]at c1;cases c1;rw[List.append_nil]at e1;subst e1;exact k _ _ _ _ R1 hD1 g1 T g d1
def Rz{Z:TI}{ix iy:Nat}{fr:uN}(ki:zCY){δ:Dv}{z:PD}(hz:Dy (Eu ix iy) tif f fr fs δ=some z){G0 H0 G H:Hp}{σ:St}{ts:Sc}{Q:VK}(R0:IS)(k:zCG):Mh X.K Z fr ix iy (Xf tif) (tD f) σ H Q:=by
 unfold Dy at hz;obtain⟨full,m1,rfl⟩:=aC.mp hz;refine W5 ki m1 R0 fun D ys G1 H1 R1 Y g1 U T d1=>?_;have e:AL G1 (upd G1 D Jw):=Al g1 _;have R2:=R1.adopt Y g1 U T;refine k _ _ _ (R2.put ?_);rw[Du];exact⟨D,ys,rfl,AU,d1.same e⟩
def fh(N:uC)(ix g:Nat)(fr:uN)(hi:zBo)(U:zCv)(he:zDA) (h1:B1 scope N x ix=true:=by decide +kernel)(Y:B1 scope N y g=true:=by decide +kernel)(T:ix≠g:=by decide)(h2:X.calm=true:=by rfl)(h3:Fz N X.N scope X.env.scope fr 0=true:=by rfl)(h4:fr.length=N.length:=by rfl)(h5:freeOk X.env.scope scope.names=true:=by rfl) (hs:∀x,foldedSetIterable iter X.env x=pure x:=by intro _;rfl):DE X JT (Dy (Eu ix g) tif f fr fs):=by
 obtain⟨wi,pi,Z⟩:=hi;exact⟨_,Ov N ix g fr pi U v5 h1 Y T h2 h3 h4 h5 hs,fun δ z hz G0 H0 G H σ ts Q R0 k=>Rz Z hz R0 k⟩
def Pt{i:Nat}{z:Str}{pz g:Pos}(N:uC)(ix T:Nat)(fr:uN)(hN:u7)(U:X.N[i]? = some z)(hly:X.env.scope.names.lookup z=some .local)(hi:zBo)(hif:zCv)(he:zDA) (h1:B1 scope N x ix=true:=by decide +kernel)(h1':B1 scope N y T=true:=by decide +kernel)(Y:ix≠T:=by decide)(h2:X.calm=true:=by rfl)(h3:Fz N X.N scope X.env.scope fr 0=true:=by rfl)(h4:fr.length=N.length:=by rfl)(h5:freeOk X.env.scope scope.names=true:=by rfl) (Z:swapsWith JT (some zBG) g.line X.env=pure true:=by rfl) (hs:∀x,foldedSetIterable iter X.env x=pure x:=by intro _;rfl):DS X (.Assign [.Name z pz] JT g) (fun δ=>(Dy (Eu ix T) tif f fr fs δ).map fun y=>.nx wR):=by
 obtain⟨wi,pi,ki⟩:=hi;refine⟨_,VV N ix T fr hN U hly pi hif v5 h1 h1' Y h2 h3 h4 h5 Z hs,fun δ r h G0 H0 G H σ D R q=>?_⟩;obtain⟨y2,m1,rfl⟩:=aC.mp h;exact Rz ki m1 R fun v G' H' R'=>q _ _ _ R'.Hi
def KQ(N:uC)(ds:tj):Dv:=ds.map .d++List.replicate (N.length-ds.length) .no
def Dh(ps N:uC)(F:DF)(ds:tj):t8:=if ds.length=ps.length then(match F (KQ N ds) with
 |some (.rt x)=>some x
 |some (.nx _)=>some .none
 |some (.rn xs)=>some xu
 |_=>none) else none
def Rw.start{N:uC}{ds:tj}{vs:uI}{G H:Hp}(d:Av G ds vs)(e:AL G H):Rw G H G H zO (KQ N ds) []:=by
 have Y:=d.len;refine⟨AL.refl _,Nw.refl,e,AL.refl _,by simp[L2.start,KQ,Y],fun i x h=>?_,fun i xs h=>?_,fun i j xs ys _ h=>?_,fun q U=>by cases U⟩
 .unfold KQ at h;by_cases hi:i<ds.length
  .rw[List.getElem?_append_left nw,List.getElem?_map]at h;obtain⟨y,T,g⟩:=aC.mp h;cases g;obtain⟨v,h3,Z⟩:=d.get T;refine⟨v,?_,Z⟩;unfold L2.start;rw[List.getElem?_append_left ii,List.getElem?_map,h3];rfl
  .rw[List.getElem?_append_right nw,List.getElem?_replicate]at h;split at h<;>cases h
 .unfold KQ at h;by_cases hi:i<ds.length
  .rw[List.getElem?_append_left nw,List.getElem?_map]at h;obtain⟨y,T,g⟩:=aC.mp h;cases g
  .rw[List.getElem?_append_right nw,List.getElem?_replicate]at h;split at h<;>cases h
 .unfold KQ at h;by_cases hi:i<ds.length
  .rw[List.getElem?_append_left nw,List.getElem?_map]at h;obtain⟨y,T,g⟩:=aC.mp h;cases g
  .rw[List.getElem?_append_right nw,List.getElem?_replicate]at h;split at h<;>cases h
def gO{G H g H':Hp}{a:AD}{ys:uI}{xs:tj}(m1:AL G g)(m2:Nw G H g)(Z:AL g H')(m5:H a=none)(T:g a=none)(Y:H' a=some Jw)(U:Av g xs ys):AL G (upd g a Jw)/\Nw G H (upd g a Jw)/\AL (upd g a Jw) H'/\Du (upd g a Jw) xu Jz:=by
 refine⟨m1.trans (Al T _),fun b o hb=>?_,fun b o hb=>?_,?_⟩
 .by_cases z:b=a
  .subst z;exact .inr (.inl m5)
  .rw[AK z]at hb;exact m2 _ _ hb
 .by_cases z:b=a
  .subst z;rw[AU]at hb;rw[Y];exact hb
  .rw[AK z]at hb;exact Z _ _ hb
 .rw[Du];exact⟨a,ys,rfl,AU,U.same (Al T _)⟩
def Ii{P:Go}{w:KB}{K:Fg}{mg:t7}{base:Heap}{x:Str}{st:Stmt}{Z:AD}{fd:Fr}{N ps:uC}{k:Nat}{F:DF}(T:Fn K mg x st ps Z fd)(S:Ah N ps xc) (hb:∀(cdv:VL) (A:OR) (outer:uM) (s:SD) (H:Hp) (E:XK),DQ k (A.deeper (envOfC x xc s.heap.objs.size Z cdv))->Mo (Cq Ai P w K mg base N x xc Z cdv A outer s H E).I0 (EC st) F):AI P w K mg base Ai io Z fd ps (Be (Dh ps N F)):=by
 refine T.F.ok S Hb fun cdv A outer s H vs Q E hr h=>?_
 .obtain⟨ds,y,G,g,U,_⟩:=h;unfold Dh at g;split at g
  .rename_i hl;rw[U.len];exact hl
  .cases g
 .obtain⟨ds,y,G,g,U,h3,h4⟩:=h;obtain⟨t,p,kk⟩:=hb cdv A outer s H E hr;refine⟨t,p,?_⟩;unfold Dh at g;split at g
  .split at g
   .rename_i z Y;cases g;exact kk _ _ Y G H G H _ _ (Rw.start U h3) fun v G' H' m1 m2 m3 m4 m5=>h4 v G' H' m1 m2 m3 m4 m5
   .rename_i δ Y;cases g;exact kk _ _ Y G H G H _ _ (Rw.start U h3) fun σ' G' H' R=>h4 .Bq G' H' R.ext R.new R.ins R.keep Pb
   .rename_i xs Y;cases g;exact kk _ _ Y G H G H _ _ (Rw.start U h3) fun a ys G' H' m1 m2 m3 m4 m5 m6 m7 m8=>let⟨n1,n2,n3,n4⟩:=gO m1 m2 m3 m5 m6 m7 m8;h4 _ _ H' n1 n2 n3 m4 n4
   .cases g
  .cases g
end
section
variable{X:Cx}{tg a b c e:Expr}{f g h:tZ}{fa:tf}{pos p p2:Pos}{sts:uL}{F:DF}
def Gy{x:Str}{i:Int}{tk:Tok}(hg:y9)(hm:X.mg x=some (.int i tk))(hd:GM=false:=by decide):DE X ur (fun _=>some vR) :=
 ⟨_,EE (v:=.int i) hg hm ⟨tk,rfl⟩ hd,fun δ x h G0 H0 G H σ ts Q r k=>by cases h;exact k _ _ _ (r.put Pb)⟩
def mD{set:al}(he:ym)(hg:DG X tg set)(hs:swapsWithSole [tg] e pos.line X.env=pure false:=by rfl)(hw:swappedStores [tg] e X.env=pure none:=by rfl) (h1:(assignEach [tg] X.env).map wG=[assign tg X.env]:=by rfl):DS X (.Assign [tg] e pos) (fun δ=>(f δ).bind fun y=>(set y δ).map .nx):=by
 obtain⟨t,p,k⟩:=he;obtain⟨g,pg,kg⟩:=hg;refine⟨_,WS p pg hs hw h1,fun δ r h G0 H0 G H σ D R q=>?_⟩;obtain⟨y,Z,Y⟩:=aB.mp h;obtain⟨T,U,rfl⟩:=aC.mp Y;exact k δ y Z G0 H0 G H σ [] _ R fun v G' H' R'=>kg δ y T U G0 H0 G' H' σ v _ R' q
def Gw(fa:zBK)(F:DF):Nat->Dv->Option Ou
 |0,_=>none
 |n+1,δ=>(fa δ).bind fun b=>if b=true then(match F δ with
  |some (.nx T)=>Gw fa F n T
  |some (.ct T)=>Gw fa F n T
  |some (.bk T)=>some (.nx T)
  |some (.rt v)=>some (.rt v)
  |some (.rn v)=>some (.rn v)
  |none=>none) else some zS
def eM(n:Nat)(hp:zDO)(hc:DT X c fa)(hb:Mo X sts F):DS X (.While c sts [] pos) (Gw fa F n):=by
 obtain⟨tc,pc,kc⟩:=hc;obtain⟨tb,pb,kb⟩:=hb;refine⟨_,NG hp pc pb,fun δ r h G0 H0 G H σ D R q=>?_⟩;refine⟨fun m Y H'=>∃T G',Gw fa F m T=some r/\Rw G0 H0 G' H' Y T [],⟨n,δ,G,h,R⟩,?_⟩;rintro m σ1 H1 ⟨δ1,G1,f1,R1⟩;cases m with
 |zero=>cases f1
 |succ m=>
  unfold Gw at f1;obtain⟨b,h1,U⟩:=aB.mp f1;refine kc δ1 b h1 G0 H0 G1 H1 σ1 [] _ R1 fun G2 H2 R2=>?_;dsimp only;split
  .rename_i hb;rw[if_pos hb]at U;refine⟨fun Y H'=>∃T G',Gw fa F m T=some r/\Rw G0 H0 G' H' Y T [],fun Y H' z=>⟨m,Nat.lt_succ_self m,z⟩,?_⟩;cases e:F δ1 with
   |none=>rw[e]at U;cases U
   |some o=>
    rw[e]at U;refine kb δ1 o e G0 H0 G2 H2 σ1 _ R2 ?_;cases o with
    |nx Z=>exact fun σ4 G4 H4 R4=>⟨Z,G4,U,R4⟩
    |ct Z=>exact fun σ4 G4 H4 R4=>⟨Z,G4,U,R4⟩
    |bk Z=>cases U;exact q
    |rt v=>cases U;exact q
    |rn v=>cases U;exact q
  .rename_i hb;rw[if_neg hb]at U;cases U;exact q _ _ _ R2
def DO(X:Cx)(o:Option Expr)(f:Dv->Option uF):Prop:=∃t,PO X o t/\∀δ x,f δ=some x->∀G0 H0 G H σ ts (Q:Option Int->Hp->Prop),Rw G0 H0 G H σ δ ts->(∀T H',Rw G0 H0 T H' σ δ ts->Q x H')->t σ H Q
variable{fo fu:Dv->Option uF}{lo hi:Option Expr}
def IZ:DO X none (fun _=>some none):=⟨_,i8,fun δ x h G0 H0 G H σ ts Q r k=>by cases h;exact k _ _ r⟩
def Ie(Y:ym):DO X (some e) (fun δ=>(f δ).bind fun x=>(XS x).map some):=by
 obtain⟨t,p,k⟩:=Y;refine⟨_,jX p,fun δ z h G0 H0 G H σ ts Q r q=>?_⟩;obtain⟨x,h1,h2⟩:=aB.mp h;obtain⟨i,Z,rfl⟩:=aC.mp h2;have:=Zd Z;subst this;refine k δ _ h1 G0 H0 G H σ ts _ r fun v G' H' U=>?_;have T:=U.CL _ KM;rw[Du]at T;exact⟨i,T,q _ _ U.drop⟩
def cutD(xs:tj)(lo hi:uF):tj:=(xs.drop zQ).take ss
def Av.cut{H:Hp}{ds:tj}{xs:uI}(h:Av H ds xs)(lo hi:uF):Av H (cutD ds lo hi) (OT xs lo hi):=by
 unfold cutD OT;rw[h.len];exact(h.drop _).take _
def fP(x:PD)(lo hi:uF):t8:=match x with
 |.list xs=>some (.list (cutD xs lo hi))
 |.tuple xs=>if ¬zA then some (.tuple (cutD xs lo hi)) else none
 |_=>none
def G9(he:ym)(hl:DO X lo fo)(hh:DO X hi fu):DE X (.Subscript e (.Slice lo hi none p2) pos) (fun δ=>(f δ).bind fun x=>(fo δ).bind fun l=>(fu δ).bind fun u=>fP x l u):=by
 obtain⟨te,pe,ke⟩:=he;obtain⟨tl,pl,kl⟩:=hl;obtain⟨th,ph,kh⟩:=hh;refine⟨_,ef (jE.or nM) pe pl ph,fun δ z hz G0 H0 G H σ ts Q R0 k=>?_⟩;obtain⟨x,h1,h2⟩:=aB.mp hz;obtain⟨l,h3,h4⟩:=aB.mp h2;obtain⟨u,h5,T⟩:=aB.mp h4;refine ke δ x h1 G0 H0 G H σ ts _ R0 fun v G1 H1 R1=>?_;refine kl δ l h3 G0 H0 G1 H1 σ _ _ R1 fun G2 H2 R2=>?_;refine kh δ u h5 G0 H0 G2 H2 σ _ _ R2 fun G3 H3 U=>?_;have du:=U.CL _ KM;unfold fP at T;split at T
 .cases T;rw[Du]at du;obtain⟨a,ys,rfl,Z,Y⟩:=du;exact .inl ⟨a,ys,rfl,Ar.of (U.ins _ _ Z),fun q hq=>k _ _ _ (U.drop.SQ (Y.cut l u) hq)⟩
 .split at T
  .rename_i hc;cases T;rw[Du]at du;obtain⟨a,ys,rfl,Z,Y⟩:=du;exact .inr ⟨a,ys,rfl,BJ.of (U.ins _ _ Z),by rw[Y.len];exact hc,fun q hq=>k _ _ _ (U.drop.fD (Y.cut l u) hq)⟩
  .cases T
 .cases T
def Vr:List PD->Option (List Int)
 |[]=>some []
 |.int i::r=>(Vr r).map fun l=>i::l
 |_::_=>none
def Av.ints{H:Hp}:∀ {ds:vT} {xs:ON} {ns:wq},Av H ds xs->Vr ds=some ns->xs=ns.map V.int
 |[],xs,ns,h,e=>by cases e;rw[h.nil_eq];rfl
 |.int i::r,xs,ns,h,e=>by
  unfold Vr at e;obtain⟨l,Y,rfl⟩:=aC.mp e;obtain⟨x,q,rfl,T,U⟩:=h.un;rw[Du]at T;subst T;rw[List.map_cons,U.ints Y]
 |.none::_,_,_,_,e=>by cases e
 |.bool _::_,_,_,_,e=>by cases e
 |.str _::_,_,_,_,e=>by cases e
 |.tuple _::_,_,_,_,e=>by cases e
 |.list _::_,_,_,_,e=>by cases e
 |.dict _::_,_,_,_,e=>by cases e
def YU:MD
 |[.list xs]=>(Vr xs).map fun ns=>.int ns.sum
 |[.tuple xs]=>(Vr xs).map fun ns=>.int ns.sum
 |_=>none
def cM(hc:jj):O8 X (.builtin "sum") YU:=by
 refine⟨_,(NH hc).or (dU hc),fun xs z T G0 H0 G H σ δ ts us Q U d k=>?_⟩;unfold YU at T;split at T
 .obtain⟨ns,h1,rfl⟩:=aC.mp T;obtain⟨u,rfl,du⟩:=d.JW;rw[Du]at du;obtain⟨q,ys,rfl,Z,Y⟩:=du;refine .inl ⟨q,ns,rfl,by rw[<-Y.ints h1];exact Ar.of (U.ins _ _ Z),k _ _ _ (U.put Pb)⟩
 .obtain⟨ns,h1,rfl⟩:=aC.mp T;obtain⟨u,rfl,du⟩:=d.JW;rw[Du]at du;obtain⟨q,ys,rfl,Z,Y⟩:=du;refine .inr ⟨q,ns,rfl,by rw[<-Y.ints h1];exact BJ.of (U.ins _ _ Z),k _ _ _ (U.put Pb)⟩
 .cases T
end
open PySem
abbrev fC(x:PD):Dv->Option PD:=fun _=>some x
abbrev SS(f:dO):Dv->Option PD:=fun δ=>(f δ).bind fun x=>(XS x).map fun i=>.int (-i)
abbrev sE(f:dO):Dv->Option PD:=fun δ=>(f δ).bind fun x=>(Nj x).map fun i=>.bool (!i)
abbrev Wk(f g:dO):Dv->Option PD:=fun δ=>(f δ).bind fun x=>(Nj x).bind fun c=>if c=true then g δ else some cr
abbrev AG:Dv->Option sw:=fun _=>some []
abbrev AA(f:dO)(fs:zDG):Dv->Option sw:=fun δ=>(f δ).bind fun x=>(fs δ).map fun xs=>x::xs
abbrev A0(fs:zDG):Dv->Option PD:=fun δ=>((fs δ).bind JS).map .tuple
abbrev BH(fs:zDG):Dv->Option PD:=fun δ=>((fs δ).bind JS).map .list
abbrev AX(m:MD)(fs:zDG):Dv->Option PD:=fun δ=>(fs δ).bind m
abbrev Te(q:PD->Bool)(f:dO):Dv->Option PD:=fun δ=>(f δ).bind (Yv q)
abbrev iL(i:Nat):Dv->Option PD:=fun δ=>(ow i δ).map fun xs=>.int xs.length
abbrev Gh:Dv->Option (Option Int):=fun _=>some none
abbrev Gm(f:dO):Dv->Option (Option Int):=fun δ=>(f δ).bind fun x=>(XS x).map some
abbrev Ir(f:dO)(T g:Dv->Option (Option Int)):Dv->Option PD:=fun δ=>(f δ).bind fun x=>(T δ).bind fun l=>(g δ).bind fun u=>fP x l u
abbrev Jj(f:dO):Dv->Option Bool:=fun δ=>(f δ).bind Nj
abbrev CA(o:re)(f g:dO):Dv->Option Bool:=fun δ=>(AQ o f g δ).bind Nj
abbrev Le(f:zBK):Dv->Option Bool:=fun δ=>(f δ).map fun c=>!c
abbrev MX(f g:zBK):Dv->Option Bool:=fun δ=>(f δ).bind fun c=>if c=true then some true else g δ
abbrev GG(f:dO):Dv->Option sw:=fun δ=>(f δ).bind Fj
abbrev C5(m:List PD->Option sw)(fs:zDG):Dv->Option sw:=fun δ=>(fs δ).bind m
abbrev F9:Dv->Option Bool:=fun _=>some true
abbrev Ew(i:Nat):PD->Dv->Option Dv:=fun y δ=>some wR
abbrev Co:DF:=fun δ=>some zS
abbrev Bo(f:dO):DF:=fun δ=>(f δ).map .rt
abbrev Fp(c:zBK)(F G:DF):DF:=fun δ=>(c δ).bind fun c=>if c=true then F δ else G δ
abbrev Bh(i:Nat)(f:dO):DF:=fun δ=>(f δ).map fun y=>.nx wR
abbrev N6(i:Nat)(fs:zDG):DF:=fun δ=>((fs δ).bind JS).map fun ys=>.nx (δ.set i (.own Jw))
abbrev MR(i:Nat)(f:dO):DF:=fun δ=>(f δ).bind fun y=>(ow i δ).bind fun xs=>if xs.length<CI then some xV else none
abbrev eD(i:Nat)(f:dO):DF:=fun δ=>(f δ).bind fun y=>(ow i δ).bind fun xs=>match y with|.list g=>(if xs.length+g.length<=CI then some (.nx (δ.set i (.own (.lst (xs++g))))) else none)|_=>none
abbrev qv(f:dO)(set:al):DF:=fun δ=>(f δ).bind fun y=>(set y δ).map .nx
abbrev C6(fs:zDG)(set:al)(F:DF):DF:=fun δ=>(fs δ).bind fun xs=>E2 set F xs δ
abbrev U5(i:Nat)(F:DF):DF:=fun δ=>F (GH i δ)
abbrev Zp:DF:=fun _=>none
def Jv{P:Go}{w:KB}{K:Fg}{mg:t7}{base:Heap}{CX:Hm}{k:Nat}{f:AD}{fd:Fr}{ps:uC}{sp:Sp}(h:∀vs H Q E,¬sp vs H Q E):AI P w K mg base CX k f fd ps sp :=
 ⟨fun _ _ _ _ z=>(h _ _ _ _ z).elim,fun _ _ _ _ _ _ _ _ _ _ _ _ _ z=>(h _ _ _ _ z).elim⟩
def Kz{P:Go}{w:KB}{K:Fg}{mg:t7}{base:Heap}{CX:Hm}{k:Nat}{f:AD}{fd:Fr}{ps:uC}{sp:Sp}{m:MD}(F:zZ) (h:∀ds x,m ds=some x->∀(G H:Hp) (vs:uI) (Q:VK) (E:XK),Av G ds vs->AL G H->(∀v g H',AL G g->Nw G H g->AL g H'->AL H H'->Du g x v->Q v H')->sp vs H Q E):AI P w K mg base CX k f fd ps (Be m) :=
 F.imp fun vs H Q E z=>by
  obtain⟨ds,x,G,Z,Y,U,T⟩:=z;exact h ds x Z G H vs Q E Y U T
def BM(G H:Hp):Hp:=fun a=>match H a with
 |some (.tup xs)=>some M2
 |_=>G a
def fk{G H:Hp}{a:AD}{xs:uI}(h:H a=some M2):BM G H a=some M2:=by unfold BM;rw[h]
section
variable{G0 H0 G H:Hp}{σ:St}{δ:Dv}{ts:Sc}
def Rw.BM(r:IS):Rw G0 H0 (L2.BM G H) H σ δ ts:=by
 have e:AL G (L2.BM G H):=fun a o h=>by
  unfold L2.BM;split
  .rename_i xs g;rw[r.ins _ _ h]at g;exact g.symm ▸ rfl
  .exact h
 refine⟨r.ext.trans e,fun a o h=>?_,fun a o h=>?_,r.keep,r.len,fun i x h=>?_,fun i xs h=>?_,r.apart,fun q hq=>(r.CL q hq).same e⟩
 .unfold L2.BM at h;split at h
  .cases h;exact .inr zBe
  .exact r.new _ _ h
 .unfold L2.BM at h;split at h
  .rename_i xs g;rw[g];exact h
  .exact r.ins _ _ h
 .obtain⟨v,U,T⟩:=r.dat i x h;exact⟨v,U,T.same e⟩
 .obtain⟨a,ys,U,T,Z,Y,k5⟩:=r.own i xs h;refine⟨a,ys,U,?_,Z,Y,k5.same e⟩;unfold L2.BM;rw[Y];split
  .rename_i q;cases q;exact k5.VN.elim
  .exact T
end
def K0{G:Hp}:∀ {t:Tr} {xs:ON},Av G (Bs t) xs->Ts G t xs
 |.nil,xs,h=>by rw[Bs]at h;rw[Ts];exact h.nil_eq
 |.cons b r,xs,h=>by
  rw[Bs]at h;obtain⟨x,q,rfl,g,Y⟩:=h.un;rw[Du]at g;obtain⟨a,ys,rfl,U,T⟩:=g;rw[Ts];exact⟨a,ys,q,rfl,U,K0 T,K0 Y⟩
def SI{G H:Hp}:∀ {t:Tr} {xs:ON},Ts H t xs->Av (BM G H) (Bs t) xs
 |.nil,xs,h=>by rw[Ts]at h;rw[Bs,h];exact .nil
 |.cons b r,xs,h=>by
  rw[Ts]at h;obtain⟨a,ys,Y,rfl,U,T,g⟩:=h;rw[Bs];refine .cons ?_ (SI g);rw[Du];exact⟨a,ys,rfl,fk U,SI T⟩
mutual
def M8:∀ {ds:vT} {t:Tr},Ek ds=some t->ds=Bs t
 |[],t,h=>by rw[Ek]at h;cases h;rw[Bs]
 |d::ds,t,h=>by
  rw[Ek]at h;obtain⟨b,U,T⟩:=aB.mp h;obtain⟨r,g,rfl⟩:=aC.mp T;rw[Bs,<-iU U,<-M8 g]
def iU:∀ {d:PD} {t:Tr},Hf d=some t->d=.tuple (Bs t)
 |.tuple g,t,h=>by rw[Hf]at h;rw[M8 h]
 |.none,_,h=>by simp[Hf]at h
 |.bool _,_,h=>by simp[Hf]at h
 |.int _,_,h=>by simp[Hf]at h
 |.str _,_,h=>by simp[Hf]at h
 |.list _,_,h=>by simp[Hf]at h
 |.dict _,_,h=>by simp[Hf]at h
end
def mQ(rev:Bool)(t:Tr):t8:=if t.bs.length<64/\t.deep<=60 then some (.list (Bs zAL)) else none
def RI(rev:Bool):MD
 |[x]=>(Fj x).bind fun g=>(Ek g).bind (mQ rev)
 |_=>none
section
variable{X:Cx}{a e:Expr}{fs:tY}{pos p:Pos}
def jT{rev:Bool}{G0 H0 G H:Hp}{σ:St}{δ:Dv}{ts:Sc}{x z:PD}{u:V}{Q:VK}(Z:IS)(du:Du G x u)(hz:RI rev [x]=some z)(k:∀w G' H',Rw G0 H0 G' H' σ δ ((z,w)::ts)->Q w H'):∃(p:AD) (ys:uI) (t:Tr),[u]=[.ref p]/\zv/\Ts H t ys/\ys.length<64/\t.deep<=60/\∀(l:AD) (zs:uI),H l=none->Ts H zAL zs->Q ui (upd H l (.lst zs)):=by
 unfold RI at hz;obtain⟨ds,h1,h2⟩:=aB.mp hz;obtain⟨t,h3,g⟩:=aB.mp h2;unfold mQ at g;split at g
 .rename_i hc;cases g;have Y:=M8 h3;obtain⟨bb,a,ys,rfl,n1,n2⟩:=Iy du h1;rw[Y]at n2;have ht:=(K0 n2).same Z.ins;have hl:ys.length=t.bs.length:=by rw[ht.len]
  refine⟨a,ys,t,rfl,?_,ht,by lia,hc.2,fun l zs U T=>?_⟩
  .have:=Z.ins _ _ n1;cases bb
   .exact .inl (Ar.of (by simpa using this))
   .exact .inr (BJ.of (by simpa using this))
  .have R1:=Z.BM;exact k _ _ _ (R1.SQ (SI T) U)
 .cases g
def fF{e:Expr}{p pos kp g:Pos}{j}(hu:Ty)(hg:Gl X "sorted")(hm:X.mg "sorted" = none)(ha:DA X [e] fs) (hP:∀ {t:TA},PA X [e] t->PE X zDc (fun σ H Q=>t σ H fun vs U=>b8 X.K vs U Q)):DE X zDc (AX (RI true) fs):=by
 obtain⟨t,p,k⟩:=ha;refine⟨_,hP p,fun δ z Y G0 H0 G H σ ts Q R0 q=>?_⟩;obtain⟨xs,h1,T⟩:=aB.mp Y;refine k δ _ h1 G0 H0 G H σ ts _ R0 fun vs G1 U R1 Z=>?_;obtain⟨d,R2⟩:=R1.args Z;cases xs with
 |nil=>cases T
 |cons x r=>
  cases r with
  |cons y q=>cases T
  |nil=>
   obtain⟨u,rfl,du⟩:=d.JW;exact jT (rev:=true) R2 du T q
end
section
variable{G0 H0 G H:Hp}{σ:St}{δ:Dv}{ts:Sc}
def Rw.on{H':Hp}(r:IS)(e:ug):Rw G0 H0 G H' σ δ ts:=r.lift (AL.refl _) Nw.refl (r.ins.trans e) e
end
section
variable{F F1 F2:DF}{δ δ':Dv}{r:Option Ou}{c:tf}{f g:tZ}{fs:tY}
def Ac(h:F1 δ=some yF)(k:F2 δ'=r):Ag F1 F2 δ=r:=by unfold Ag;rw[h];exact k
def Ks{x:PD}(h:F1 δ=some (.rt x)):Ag F1 F2 δ=some (.rt x):=by unfold Ag;rw[h]
def Ll(h:c δ=some true)(k:F1 δ=r):Fp c F1 F2 δ=r:=by show(c δ).bind _=r;rw[h];exact k
def Ej(h:c δ=some false)(k:F2 δ=r):Fp c F1 F2 δ=r:=by show(c δ).bind _=r;rw[h];exact k
def Bm{i:Nat}{y:PD}(h:f δ=some y):Bh i f δ=some (.nx wR):=by show(f δ).map _=_;rw[h];rfl
def F7{y:PD}(h:f δ=some y):Bo f δ=some (.rt y):=by show(f δ).map _=_;rw[h];rfl
def BB{o:re}{x y:PD}{z:t8}(Y:f δ=some x)(U:g δ=some y)(T:o x y=z):AQ o f g δ=z:=by unfold AQ;rw[Y,U];exact T
def Am{m:MD}{xs:tj}{z:t8}(U:vt)(T:m xs=z):AX m fs δ=z:=by show(fs δ).bind m=z;rw[U];exact T
def AZ{x:PD}{xs:tj}(U:f δ=some x)(T:vt):AA f fs δ=some (x::xs):=by show(f δ).bind _=_;rw[U];show(fs δ).map _=_;rw[T];rfl
def Ia{xs:tj}(h:vt)(T:xs.length<=CI):BH fs δ=some xu:=by show((fs δ).bind JS).map _=_;rw[h];show(JS xs).map _=_;unfold JS;rw[if_pos T];rfl
def Kv{xs:tj}(h:vt)(T:xs.length<=CI):A0 fs δ=some zAY:=by show((fs δ).bind JS).map _=_;rw[h];show(JS xs).map _=_;unfold JS;rw[if_pos T];rfl
def Bw{o:re}{x y:PD}{b:Bool}(Y:f δ=some x)(U:g δ=some y)(T:o x y=some (.bool b)):CA o f g δ=some b:=by show(AQ o f g δ).bind Nj=_;rw[BB Y U T];rfl
def Jl{a b:tf}{q:Option Bool}(h:a δ=some false)(k:b δ=q):MX a b δ=q:=by show(a δ).bind _=q;rw[h];exact k
def Je{a:tf}{b:Bool}(h:a δ=some b):Le a δ=some (!b):=by show(a δ).map _=_;rw[h];rfl
def HP{b:Bool}(h:f δ=some (.bool b)):Jj f δ=some b:=by show(f δ).bind Nj=_;rw[h];rfl
def Wi{set:al}(U:Nat->Dv->Prop):∀(xs:vT) (δ:Dv) (n:Nat),U n δ->(∀(i:Nat) (x:PD) (δ:Dv),xs[i]? = some x->U (n+i) δ->∃T δ2,set x δ=some T/\F T=some yy/\U (n+i+1) δ2) ->
  ∃δ',E2 set F xs δ=some yF/\U (n+xs.length) δ'
 |[],δ,n,h,_=>⟨δ,rfl,h⟩
 |x::xs,δ,n,h,k=>by
  obtain⟨T,δ2,h1,h2,h3⟩:=k 0 x δ rfl h;obtain⟨δ',h4,h5⟩:=Wi U xs δ2 (n+1) h3 fun i y δ Y Z=>by
   have:=k On y δ (by simpa using Y) (by rw[show n+On=n+1+i by lia];exact Z);rw[show n+On+1=n+1+i+1 by lia]at this;exact this
  refine⟨δ',?_,by rw[List.length_cons,show n+(xs.length+1)=n+1+xs.length by lia];exact h5⟩;unfold E2;rw[h1,Option.bind_some,h2];exact h4
def fQ{set:al}{xs:tj}(U:Nat->Dv->Prop)(Y:vt)(h0:U 0 δ)(hs:∀(i:Nat) (x:PD) (δ:Dv),xs[i]? = some x->U i δ->∃T δ2,set x δ=some T/\F T=some yy/\U On δ2):∃δ',C6 fs set F δ=some yF/\U xs.length δ':=by
 obtain⟨δ',h1,h2⟩:=Wi (F:=F) (set:=set) U xs δ 0 h0 fun i x δ Y Z=>by
  have:=hs i x δ Y (by simpa using Z)
  simpa using this
 refine⟨δ',?_,by simpa using h2⟩;show(fs δ).bind _=_;rw[Y];exact h1
def QA{one:PD->Option (Option PD)}{g:PD->PD}:∀ {xs:vT},(∀x∈xs,one x=some (some (g x)))->collect one xs=some (xs.map g)
 |[],_=>rfl
 |x::xs,h=>by
  unfold collect;rw[h x KM,Option.bind_some,QA fun y T=>h y (.tail _ T)]
  rfl
def comp_map{ix:Nat}{fr:uN}{xs:tj}{g:PD->PD}(T:vt)(U:xs.length<=CI)(h:∀x∈xs,f ((DM fr δ).set ix (.d x))=some (g x)):Dy (Ex ix) F9 f fr fs δ=some (.list (xs.map g)):=by
 unfold Dy Gg;rw[T,Option.bind_some,QA (g:=g) fun x T=>?_,Option.bind_some,JS,if_pos (by rw[List.length_map];exact U)]
 .rfl
 .unfold KG Ex;rw[Option.bind_some];show(some true).bind _=_;rw[Option.bind_some,if_pos rfl,h x T]
  rfl
end
def FA{ps N:uC}{F:DF}{ds:tj}{x:PD}(g:ya)(h:F (KQ N ds)=some (.rt x)):Dh ps N F ds=some x:=by unfold Dh;rw[if_pos g,h]
def TN{lo:Int}{n i:Nat}{x:PD}(h:(Ja lo n)[i]? = some x):x=.int (lo+(i:Nat))/\i<n:=by
 unfold Ja at h;rw[List.getElem?_map]at h;obtain⟨j,g,rfl⟩:=aC.mp h;have T:=(aD.mp g).1;rw[List.getElem?_range uf]at g;cases g;exact⟨rfl,by simpa using T⟩
def nc{δ:Dv}{f:tZ}{j:Int}(h:f δ=some (.int j))(h0:-1000000<=j)(g:j<=1000000):C5 IM (AA f AG) δ=some (Ja 0 j.toNat):=by
 show(AA f AG δ).bind IM=_;rw[AZ h (show AG δ=some [] from rfl)];exact if_pos ⟨h0,g⟩
def cu{n:Nat}{i:Int}(h:i.natAbs<2^n):J8 n i=true:=decide_eq_true h
def dW{i j:Int}(h:PR i j=true):Fc vR (.int j)=some zBJ:=by
 show NA Yz Yl vR (.int j)=_;unfold NA;rw[show Yz vR (.int j)=some zBJ from if_pos h]
def mul_r{i j:Int}(h:j.natAbs<2^64):Fc vR (.int j)=some zBJ:=dW (by unfold PR;rw[cu h];simp)
def oY{i j:Int}(h:i.natAbs<2^64):Fc vR (.int j)=some zBJ:=dW (by unfold PR;rw[cu h];simp)
def mod_is{i j:Int}(h:0<j):IP vR (.int j)=some (.int (i % j)):=by
 show(if j≠0 then some (PyData.int (i.fmod j)) else none)=_;rw[if_pos AC,Int.fmod_eq_emod_of_nonneg _ AC]
def Z0{i:Int}{n:Nat}(hn:n<=1000)(hi:J8 64 i=true):Oq vR (.int (n:Int))=some (.int (i^n)):=by
 show(if 0<=(n:Int)/\(n:Int)<=1000/\J8 64 i=true then some (PyData.int (i^(n:Int).toNat)) else none)=_;rw[if_pos ⟨by lia,by lia,hi⟩,Int.toNat_natCast]
def Gb(C:AD):PD:=.dict [(.int (C:Nat),.none)]
def Dz(ns:uB):PD:=.dict [(.none,.list (ns.map .int))]
def ko{H:Hp}{a:AD}{ns:uB}(h:Rd H a (.lst jp)):Du H vm Jz:=by unfold Dz;rw[Du];exact .inr (.inl ⟨a,ns,rfl,rfl,h⟩)
def Ux(K:Fg):Bool:=K.all fun p=>match p.2.cls with|.type n=>n != "list" |_=>true
def Pw{a:AD}{o:Obj}:∀ {K:Fg},K.lookup a=some o->(a,o)∈K
 |[],h=>by cases h
 |(b,u)::K,h=>by
  rw[List.lookup_cons]at h;split at h
  .rename_i e;cases h;rw[show a=b from by simpa using e];exact .head _
  .exact .tail _ (Pw h)
def lz{K:Fg}{H:Hp}{a:AD}{xs:uI}(g:Ux K=true)(h:Ar K H a xs):Rd H a NE:=by
 rcases h with h|⟨o,T,n,Y,U,_⟩
 .exact h
 .unfold Ux at g;rw[List.all_eq_true]at g;have:=g _ (Pw Y);rw[U]at this;exact absurd this AT
abbrev Xr:=PD ⊕ AD
abbrev rW:=List PD->Option Xr
def Ep(g:rW):Sp:=fun vs H Q E=>∃U r G,g U=some r/\Av G U vs/\AL G H/\match r with
 |.inl x=>∀v T H',AL G T->Nw G H T->AL T H'->AL H H'->Du T x v->Q v H'
 |.inr C=>∀H',AL H H'->E Nq none H'
abbrev gp:=Ou ⊕ AD
abbrev HW:=Dv->Option gp
def mY(G0 H0:Hp)(D:Ends)(E:XK):gp->Prop
 |.inl o=>Fin G0 H0 D o
 |.inr C=>∀H',AL H0 H'->E Nq none H'
def DX(X:Cx)(E:XK)(st:Stmt)(F:HW):Prop:=∃t,PS X st t/\∀δ r,F δ=some r->∀G0 H0 G H σ D,Rw G0 H0 G H σ δ []->mY G0 H0 D E r->t D σ H
def UO(X:Cx)(E:XK)(g:uL)(F:HW):Prop:=∃t,IW X g t/\∀δ r,F δ=some r->∀G0 H0 G H σ D,Rw G0 H0 G H σ δ []->mY G0 H0 D E r->t D σ H
section
variable{X:Cx}{E:XK}{b c e:Expr}{es:uD}{f h:tZ}{fs:tY}{fa:tf}{pos p:Pos}{st:Stmt}{sts sts':uL}{F:DF}{J J1 J2:HW}
def d8{t:TS}(h:IW X.I0 sts t):IW X sts t:=fun pins s σ H D I k=>aW (h pins s σ H D (I.Hl _) k) (fun _ _ z=>z.Ee) fun _ _ z=>z.elim
def lB{t:TE}(h:PE X.I0 e t):PE X e t:=fun pins s σ H Q I k=>aW (h pins s σ H Q (I.Hl _) k) zCH fun _ _ z=>z.elim
def lE{t:TT}(h:PT X.I0 e t):PT X e t:=fun pins s σ H Q I k=>aW (h pins s σ H Q (I.Hl _) k) (fun _ _ ⟨H',g,q⟩=>⟨H',g.Ee,q⟩) fun _ _ z=>z.elim
def Zl{t:TA}(h:PA X.I0 es t):PA X es t:=fun p pins s σ H Q I k=>aW (h p pins s σ H Q (I.Hl _) k) zCH fun _ _ z=>z.elim
abbrev YN(F:DF):HW:=fun δ=>(F δ).map .inl
def Ro(h:Mo X.I0 sts F):UO X E sts (YN F):=by
 obtain⟨t,p,k⟩:=h;refine⟨t,d8 p,fun δ r h G0 H0 G H σ D R q=>?_⟩;obtain⟨o,g,rfl⟩:=aC.mp h;exact k δ o g G0 H0 G H σ D R q
def Iw(J1 J2:HW)(δ:Dv):Option gp:=match J1 δ with
 |some (.inl (.nx g))=>J2 g
 |o=>o
def Th:UO X E [] (fun δ=>some (.inl zS)):=⟨_,Cv,fun δ r h G0 H0 G H σ D R k=>by cases h;exact k _ _ _ R⟩
def Kt(h:DX X E st J):UO X E [st] J:=by
 obtain⟨t,p,k⟩:=h;exact⟨t,Aj p,k⟩
def G7(h1:DX X E st J1)(h2:UO X E sts J2):UO X E (st::sts) (Iw J1 J2):=by
 obtain⟨t1,Z,T⟩:=h1;obtain⟨t2,Y,k2⟩:=h2;refine⟨_,Aa Z Y,fun δ r h G0 H0 G H σ D R q=>?_⟩;unfold Iw at h;split at h
 .rename_i g e1;exact T δ _ e1 G0 H0 G H σ _ R fun U G' H' R'=>k2 g r h G0 H0 G' H' U D R' q
 .rename_i o hn;cases r with
  |inr C=>exact T δ _ h G0 H0 G H σ _ R q
  |inl o'=>
   cases o' with
   |nx g=>exact absurd h (hn g)
   |rt x=>exact T δ _ h G0 H0 G H σ _ R q
   |bk x=>exact T δ _ h G0 H0 G H σ _ R q
   |ct x=>exact T δ _ h G0 H0 G H σ _ R q
   |rn x=>exact T δ _ h G0 H0 G H σ _ R q
abbrev X5(c:zBK)(J1 J2:HW):HW:=fun δ=>(c δ).bind fun b=>if b=true then J1 δ else J2 δ
def ZJ(hc:DT X.I0 c fa)(h1:UO X E sts J1)(h2:UO X E sts' J2):DX X E (.If c sts sts' pos) (X5 fa J1 J2):=by
 obtain⟨tc,pc,kc⟩:=hc;obtain⟨t1,p1,k1⟩:=h1;obtain⟨t2,Z,k2⟩:=h2;refine⟨_,FN (lE pc) p1 Z,fun δ r h G0 H0 G H σ D R q=>?_⟩;obtain⟨b,h3,g⟩:=aB.mp h;refine kc δ _ h3 G0 H0 G H σ [] _ R fun Y U T=>?_;split
 .rename_i hb;rw[if_pos hb]at g;exact k1 δ r g G0 H0 Y U σ D T q
 .rename_i hb;rw[if_neg hb]at g;exact k2 δ r g G0 H0 Y U σ D T q
abbrev RS(C:AD)(f:dO):HW:=fun δ=>(f δ).map fun _=>.inr C
def QX{x:Str}{C:AD}{np U:Pos}(T:Exc X.K X.mg x C)(hL:Lets X E)(Z:DE X.I0 e f)(g:X.calm=true:=by rfl)(hg:Gl X x:=by rfl)(hd:GM=false:=by decide) (Y:starEach [e] X.env=[Jo]:=by rfl):DX X E (.Raise (some (.Call og [e] [] U)) none pos) (RS C f):=by
 obtain⟨t,p,k⟩:=Z;refine⟨_,fT T hL g hg (lB p) hd Y,fun δ r h G0 H0 G H σ D R q=>?_⟩;obtain⟨y,h1,rfl⟩:=aC.mp h;exact k δ y h1 G0 H0 G H σ [] _ R fun v G' H' R'=>q _ R'.keep
def U8{k:Nat}{m:rW}{T:TA}(ka:∀δ xs,fs δ=some xs->∀G0 H0 G H σ ts (Q:List V->Hp->Prop),Rw G0 H0 G H σ δ ts->(∀vs g H',Rw G0 H0 g H' σ δ (xs.zip vs++ts)->vs.length=xs.length->Q vs H')->T σ H Q) {δ:Dv}{r:Xr}(hz:(fs δ).bind m=some r){G0 H0 G H:Hp}{σ:St}{Q:VK}{Y:XK}(R:Rw G0 H0 G H σ δ [])(q1:∀x,r=.inl x->∀v g H',Rw G0 H0 g H' σ δ [(x,v)]->Q v H')(Z:∀C,r=.inr C->∀g H',Rw G0 H0 g H' σ δ []->Y Nq none H'):T σ H fun vs U=>Ep m (vs++[]) U Q Y:=by
 obtain⟨xs,h1,h2⟩:=aB.mp hz;refine ka δ _ h1 G0 H0 G H σ [] _ R fun vs G1 U R1 hv=>?_;obtain⟨d,R2⟩:=R1.args hv;refine⟨xs,r,G1,h2,by rw[List.append_nil];exact d,R2.ins,?_⟩;cases r with
 |inl x=>exact fun v g H' h3 h4 h5 h6 h7=>q1 x rfl _ _ _ ((R2.lift h3 h4 h5 h6).put h7)
 |inr C=>exact fun H' h=>Z C rfl _ _ (R2.on h)
section
variable{k:Nat}{fA:AD}{fd:Fr}{ps:uC}{m:rW}{x:Str}{st':Stmt}
abbrev IE(m:List PD->Option Xr)(fs:zDG)(nx:PD->Dv->Ou):HW:=fun δ=>((fs δ).bind m).map fun r=>match r with
 |.inl x=>.inl (nx x δ)
 |.inr C=>.inr C
def Jf(T:zCA)(F:zW)(hr:DQ k X.A)(hP:zBu)(ha:DA X.I0 zCh fs) {g:Pos}(Z:∀ {t:TE},PE X IR t->PS X (.Expr IR g) (Us t)) (hg:Gl X x:=by rfl)(Y:GM=false:=by decide)(he:starEach zCh X.env=Jo::starEach es X.env:=by rfl)(U:(backTo pos Ol).any To=false:=by rfl):DX X E (.Expr IR g) (IE m fs fun _ δ=>.nx δ):=by
 obtain⟨ta,pa,ka⟩:=ha;refine⟨_,Z (dM T F hr hg hP (Zl pa) Y he U),fun δ r h G0 H0 G H σ D R q=>?_⟩;obtain⟨z,h1,rfl⟩:=aC.mp h;refine U8 (k:=k) ka h1 R (fun x hx v G' H' R'=>?_) (fun C hC G' H' R'=>?_)
 .subst hx;exact q _ _ _ R'.drop
 .subst hC;exact q _ R'.keep
def k9{i:Nat}{y:Str}{U g:Pos}(T:zCA)(F:zW)(hr:DQ k X.A)(hP:zBu)(ha:DA X.I0 zCh fs) (hN:u7)(Y:Loc X.env.scope y)(hi:X.N[i]? = some y:=by rfl)(hg:Gl X x:=by rfl) (hdb:GM=false:=by decide)(he:starEach zCh X.env=Jo::starEach es X.env:=by rfl)(Z:(backTo pos Ol).any To=false:=by rfl) (hs:swapsWith IR (some (.Name y U)) g.line X.env=pure false:=by rfl)(hf:X.fn y=true\/X.env.scope.names.lookup y=some .local:=by first|exact .inl rfl|exact .inr rfl|assumption):DX X E (.Assign [.Name y U] (.Call (.Name x p) (e::es) [] pos) g) (IE m fs fun z δ=>.nx (δ.set i (.d z))):=by
 obtain⟨ta,pa,ka⟩:=ha;refine⟨_,BC hN hi Y (dM T F hr hg hP (Zl pa) hdb he Z) hs hf,fun δ r h G0 H0 G H σ D R q=>?_⟩;obtain⟨z,h1,rfl⟩:=aC.mp h;refine U8 (k:=k) ka h1 R (fun x Y v G' H' R'=>?_) (fun C hC G' H' R'=>?_)
 .subst Y;exact q _ _ _ R'.Hi
 .subst hC;exact q _ R'.keep
end
end
def Rw.pI{G0 H0 G H:Hp}{σ:St}{δ:Dv}{ts:Sc}(k:Nat)(o:Option V)(r:IS):Rw G0 H0 G H (σ.set k o) (δ.set k .no) ts:=by
 have ne:∀(j:Nat) (l:L),l≠.no->(δ.set k .no)[j]? = some l->k≠j/\δ[j]? = some l:=fun j l hl h=>by
  by_cases Y:k=j
  .subst Y;by_cases hi:k<δ.length
   .rw[List.getElem?_set_self hi]at h;cases h;exact absurd rfl hl
   .rw[List.getElem?_eq_none ii]at h;cases h
  .rw[List.getElem?_set_ne Y]at h;exact⟨Y,h⟩
 refine⟨r.ext,r.new,r.ins,r.keep,by simp[r.len],fun j y h=>?_,fun j zs h=>?_,fun j l us ws U h1 Z=>?_,r.CL⟩
 .obtain⟨n,h⟩:=ne j _ As h;obtain⟨w,T,g⟩:=r.dat j y h;exact⟨w,by rw[List.getElem?_set_ne n];exact T,g⟩
 .obtain⟨n,h⟩:=ne j _ As h;obtain⟨b,us,T,g⟩:=r.own j zs h;exact⟨b,us,by rw[List.getElem?_set_ne n];exact T,g⟩
 .obtain⟨n1,h1⟩:=ne j _ As h1;obtain⟨n2,Z⟩:=ne l _ As Z;rw[List.getElem?_set_ne n1,List.getElem?_set_ne n2];exact r.apart j l us ws U h1 Z
section
variable{X:Cx}{a b:Expr}{f:tZ}{pos:Pos}
def dy(T:Fk):PD->Option PD
 |.dict [(.int C,.none)]=>(T C.toNat).map .bool
 |_=>none
abbrev IH(T:Fk)(f:dO):Dv->Option PD:=fun δ=>(f δ).bind (dy T)
def F5{T:Fk}{cv:V}{xT:Str}{p1 g:Pos}(hk:∀C b,T C=some b->D8 X.K C/\PySem.W.kitOne X.K Nq (D6 cv)=some b)(hn:D6 cv≠.none)(hg:Gl X "isinstance")(hm:X.mg "isinstance" = none)(hT:PE X (.Name xT g) (tC cv))(ha:zg) (U:starEach [a,.Name xT g] X.env=Op::starEach [.Name xT g] X.env:=by rfl)(Z:(backTo pos (starEach [.Name xT g] X.env)).any To=false:=by rfl):DE X zAz (IH T f):=by
 obtain⟨ta,pa,ka⟩:=ha;refine⟨_,BW dI hg hm ax (AH pa (AH hT AV) U) AT AT U Z,fun δ z hz G0 H0 G H σ ts Q R0 k=>?_⟩;obtain⟨x,h1,Y⟩:=aB.mp hz;unfold dy at Y;split at Y
 .rename_i C;obtain⟨bb,h3,rfl⟩:=aC.mp Y;refine ka δ _ h1 G0 H0 G H σ ts _ R0 fun u G1 H1 R1=>?_;have du:=R1.CL _ KM;rw[Du]at du;rcases du with ⟨ea,C',e1,rfl,h4⟩|⟨_,_,e1,_⟩|z
  rotate_left
  .simp at e1
  .rw[M3]at z;cases z.1
  have:C=(C':Nat):=by simpa using e1
  subst this;obtain⟨k1,k2⟩:=hk _ _ h3;rw[Int.toNat_natCast]at k1 k2;exact⟨ea,C',cv,bb,rfl,hn,R1.ins _ _ h4,k1,k2,k _ _ _ (R1.drop.put Pb)⟩
 .cases Y
end
def Hj(ps N:uC)(J:HW)(ds:tj):Option Xr:=if ds.length=ps.length then(match J (KQ N ds) with
 |some (.inl (.rt x))=>some (.inl x)
 |some (.inl (.nx _))=>some (.inl .none)
 |some (.inl (.rn xs))=>some (.inl xu)
 |some (.inr C)=>some uk
 |_=>none) else none
section
variable{P:Go}{w:KB}{K:Fg}{mg:t7}{base:Heap}{x:Str}{st:Stmt}{fA:AD}{fd:Fr}{N ps:uC}{k:Nat}
def YW{qual:Str}{scope:wn}{U:VL}{A:OR}{outer:uM}{s:SD}{H:Hp}{E:XK}:Lets (Cq Tl P w K mg base N qual scope fA U A outer s H E) E:=fun _ _ _ _ _ _ _ _ I g T=>i6 I g T
def L9{qual:Str}{scope:wn}{g:VL}{A:OR}{outer:uM}{s:SD}{H:Hp}{E:XK}:Passes Tl (Cq Tl P w K mg base N qual scope fA g A outer s H E) E:=pd fun _ _ _ z=>z
def WZ{J:HW}(T:Fn K mg x st ps fA fd)(S:Ah N ps xc) (hb:∀(cdv:VL) (A:OR) (outer:uM) (s:SD) (H:Hp) (E:XK),DQ k (A.deeper (envOfC x xc s.heap.objs.size fA cdv))->UO (Cq Tl P w K mg base N x xc fA cdv A outer s H E) E (EC st) J):AI P w K mg base Tl io fA fd ps (Ep (Hj ps N J)):=by
 refine T.F.tH S Hb fun cdv A outer s H vs Q E hr h=>?_
 .obtain⟨ds,y,G,g,Y,_⟩:=h;unfold Hj at g;split at g
  .rename_i hl;rw[Y.len];exact hl
  .cases g
 .obtain⟨ds,y,G,g,Y,h3,h4⟩:=h;obtain⟨t,p,Z⟩:=hb cdv A outer s H E hr;refine⟨t,p,?_⟩;unfold Hj at g;split at g
  .split at g
   .rename_i z U;cases g;exact Z _ _ U G H G H _ _ (Rw.start Y h3) fun v G' H' m1 m2 m3 m4 m5=>h4 v G' H' m1 m2 m3 m4 m5
   .rename_i δ U;cases g;exact Z _ _ U G H G H _ _ (Rw.start Y h3) fun σ' G' H' R=>h4 .Bq G' H' R.ext R.new R.ins R.keep Pb
   .rename_i xs U;cases g;exact Z _ _ U G H G H _ _ (Rw.start Y h3) fun a ys G' H' m1 m2 m3 m4 m5 m6 m7 m8=>let⟨n1,n2,n3,n4⟩:=gO m1 m2 m3 m5 m6 m7 m8;h4 _ _ H' n1 n2 n3 m4 n4
   .rename_i C U;cases g;exact Z _ _ U G H G H _ _ (Rw.start Y h3) h4
   .cases g
  .cases g
def AI.tN{sp g:Sp}(F:AI P w K mg base Tl k fA fd ps sp)(h:∀vs H Q E,g vs H Q E->sp vs H Q fun _ _ _=>False):AI P w K mg base Ai k fA fd ps g :=
 ⟨fun vs H Q E z=>F.len _ _ _ _ (h _ _ _ _ z),fun A outer s H args us vs Q E Y Z hb T U=>codeAny_mono (F.run A outer s H args us vs Q _ Y Z hb T (h _ _ _ _ U)) fun r s' z=>by
  cases r with
  |ok fl=>cases fl<;>exact z
  |error e=>obtain⟨_,_,_,_,_,_,_,z⟩:=z;exact z.elim⟩
def good(m:rW)(ds:tj):t8:=match m ds with
 |some (.inl x)=>some x
 |_=>none
def Uv{m:rW}(F:AI P w K mg base Tl k fA fd ps (Ep m)):AI P w K mg base Ai k fA fd ps (Be (good m)):=F.tN fun vs H Q E z=>by
 obtain⟨Z,x,G,g,Y,U,T⟩:=z;unfold good at g;split at g
 .rename_i y e;cases g;exact⟨Z,.inl x,G,e,Y,U,T⟩
 .cases g
end
abbrev YO(fs:zDG):DF:=fun δ=>(fs δ).map .rn
abbrev RZ(i:Nat):DF:=fun δ=>(ow i δ).map .rn
section
variable{X:Cx}{a:Expr}{h:tZ}{pos:Pos}
def PK{i:Nat}{x:Str}{np:Pos}(Z:PE X og (QP i)):DS X (.Return (some og) pos) (RZ i):=by
 refine⟨_,BU Z,fun δ r h G0 H0 G H σ D R q=>?_⟩;obtain⟨xs,h1,rfl⟩:=aC.mp h;obtain⟨a,_,Y,U,T,g,⟨ys,rfl,k5⟩⟩:=R.own i _ (Uz h1);exact⟨.ref a,Y,q a ys G H R.ext R.new R.ins R.keep T U g k5⟩
end
section
variable{X:Cx}{elt iter:Expr}{x:Str}{px pos spos:Pos}{ifs:uD}{scope:wn}{fs:tY}{tif:tf}{f:tZ}
def jc(N:uC)(ix:Nat)(fr:uN)(hi:DI X (.Name x px) iter fs)(T:zCv)(he:zDA) (h1:B1 scope N x ix=true:=by decide +kernel)(h2:X.calm=true:=by rfl)(h3:Fz N X.N scope X.env.scope fr 0=true:=by rfl)(h4:fr.length=N.length:=by rfl)(h5:freeOk X.env.scope scope.names=true:=by rfl) (hs:∀x,foldedSetIterable iter X.env x=pure x:=by intro _;rfl):DS X (.Return (some HJ) spos) (YO (Gg (Ex ix) tif f fr fs)):=by
 obtain⟨wi,pi,ki⟩:=hi;refine⟨_,BU (Ff N ix fr pi T v5 h1 h2 h3 h4 h5 hs),fun δ r h G0 H0 G H σ D R q=>?_⟩;obtain⟨zs,m1,rfl⟩:=aC.mp h;exact RC ki m1 R fun D' ys G' H' g n1 Z Y n4 U=>q _ _ _ _ g.ext g.new g.ins g.keep Y Z n1 U
end
section
variable{N ps:uC} 
def Tg{F:DF}{ds xs:tj}(g:ya)(h:F (KQ N ds)=some (.rn xs)):Dh ps N F ds=some xu:=by unfold Dh;rw[if_pos g,h]
def MT{J:HW}{ds:tj}{y:PD}(g:ya)(h:J (KQ N ds)=some (.inl (.rt y))):Hj ps N J ds=some (.inl y):=by unfold Hj;rw[if_pos g,h]
def Sj{J:HW}{ds:tj}{δ:Dv}(g:ya)(h:J (KQ N ds)=some (.inl zS)):Hj ps N J ds=some (.inl .none):=by unfold Hj;rw[if_pos g,h]
def Mc{J:HW}{ds:tj}{C:AD}(g:ya)(h:J (KQ N ds)=some uk):Hj ps N J ds=some uk:=by unfold Hj;rw[if_pos g,h]
end
section
variable{J1 J2:HW}{δ δ':Dv}{r:Option gp}{c:tf}{fs:tY}{m:rW}{ds:tj}   
def GZ(h:J1 δ=some (.inl yF))(k:J2 δ'=r):Iw J1 J2 δ=r:=by unfold Iw;rw[h];exact k
def Sa{C:AD}(h:J1 δ=some uk):Iw J1 J2 δ=some uk:=by unfold Iw;rw[h]
def gV(h:c δ=some true)(k:J1 δ=r):X5 c J1 J2 δ=r:=by show(c δ).bind _=r;rw[h];exact k
def YX(h:c δ=some false)(k:J2 δ=r):X5 c J1 J2 δ=r:=by show(c δ).bind _=r;rw[h];exact k
def FY{nx:PD->Dv->Ou}{y:PD}(h:fs δ=some ds)(k:m ds=some (.inl y)):IE m fs nx δ=some (.inl (nx y δ)):=by show((fs δ).bind m).map _=_;rw[h];show(m ds).map _=_;rw[k];rfl
def QY{nx:PD->Dv->Ou}{C:AD}(h:fs δ=some ds)(k:m ds=some uk):IE m fs nx δ=some uk:=by show((fs δ).bind m).map _=_;rw[h];show(m ds).map _=_;rw[k];rfl
def O1{y:PD}(q:m ds=some (.inl y)):good m ds=some y:=by unfold good;rw[q]
end
def only(cs:uK)(m:rW)(ds:tj):Option Xr:=match m ds with
 |some (.inr C)=>if C∈cs then some uk else none
 |r=>r
def YC{cs:uK}{m:rW}{ds:tj}{C:AD}(h:only cs m ds=some uk):C∈cs:=by
 unfold only at h;split at h
 .split at h
  .rename_i g;cases h;exact g
  .cases h
 .rename_i n;exact absurd h (n C)
def PQ{cs:uK}{m:rW}{ds:tj}{C:AD}(h:m ds=some uk)(g:C∈cs):only cs m ds=some uk:=by unfold only;rw[h];exact if_pos g
def XI{cs:uK}{m:rW}{ds:tj}{x:PD}(h:m ds=some (.inl x)):only cs m ds=some (.inl x):=by unfold only;rw[h]
def We{P:Go}{w:KB}{K:Fg}{mg:t7}{base:Heap}{CX:Hm}{k:Nat}{f:AD}{fd:Fr}{ps:uC}{m:rW}(cs:uK)(F:AI P w K mg base CX k f fd ps (Ep m)):AI P w K mg base CX k f fd ps (Ep (only cs m)) :=
 F.imp fun vs H Q E z=>by
  obtain⟨U,r,G,g,T⟩:=z;refine⟨U,r,G,?_,T⟩;unfold only at g;split at g
  .rename_i C e;split at g
   .cases g;exact e
   .cases g
  .exact g
section
def add_l{a b:tj}(h:a.length+b.length<=CI):A7 (.list a) (.list b)=some (.list (a++b)):=by
 show NA fq (NA MO (NA PB VT)) (.list a) (.list b)=_;have:MO (.list a) (.list b)=some (.list (a++b)):=if_pos h;unfold NA;show(match MO (.list a) (.list b) with|some z=>some z|none=>_)=_;rw[this]
end
section
variable{F F1 F2:DF}{δ δ':Dv}{fs:tY}{xs:tj}{set:al}{r:Option Ou}
def ZY{Q:Dv->Prop}(h:F1 δ=some yF)(k:∃δ2,F2 δ'=some yy/\Q δ2):∃δ2,Ag F1 F2 δ=some yy/\Q δ2:=let⟨δ2,a,b⟩:=k;⟨δ2,Ac h a,b⟩
def bw(U:Nat->Dv->Prop)(Y:vt)(h0:U 0 δ)(Z:∀(i:Nat) (x:PD) (δ:Dv),xs[i]? = some x->U i δ->∃T,set x δ=some T/\∃δ2,F T=some yy/\U On δ2):∃δ',C6 fs set F δ=some yF/\U xs.length δ':=fQ U Y h0 fun i x δ a b=>let⟨T,c,δ2,e,g⟩:=Z i x δ a b;⟨T,δ2,c,e,g⟩
def Qr(T:Nat->Dv->Prop)(U:vt)(h0:T 0 δ)(Y:zCt) (k:∀δ',T xs.length δ'->F2 δ'=r):Ag (C6 fs set F) F2 δ=r:=by
 obtain⟨δ',h1,Z⟩:=bw T U h0 Y;exact Ac h1 (k δ' Z)
def S4{Q:Dv->Prop}(T:Nat->Dv->Prop)(U:vt)(h0:T 0 δ)(Y:zCt)(Z:∀δ,T xs.length δ->Q δ):∃δ',C6 fs set F δ=some yF/\Q δ':=let⟨δ',a,b⟩:=bw T U h0 Y;⟨δ',a,Z _ b⟩
def jD{f:tZ}{x:PD}(h:f δ=some x)(k:Fj x=some xs):GG f δ=some xs:=by show(f δ).bind Fj=_;rw[h];exact k
end
end L2
namespace L2
open PySem PySem.Spec PyProof.Rows
inductive Vw(X:Cx)(C ea:Addr)(k:Nat):List ExceptHandler->TS->Prop
 |hit {x n:Str} {G:Addr} {np hpos:Pos} {b0:Stmt} {suite:List Stmt} {rest:zD} {t:TS} (hg:y9) (hm:X.mg x=some zAS) (hd:GM=false) (hB:HS X.K C G true) (hk:X.N[k]? = some n) (hln:X.env.scope.names.lookup n=some .local) (hb:IW (X.held ea) (b0::suite) t) :
   Vw X C ea k zDh t
 |miss {x n:Str} {G:Addr} {np hpos:Pos} {b0:Stmt} {suite:List Stmt} {rest:zD} {t:TS} (hg:y9) (hm:X.mg x=some zAS) (hd:GM=false) (hB:HS X.K C G false) (r:Vw X C ea k rest t) :
   Vw X C ea k zDh t
def YQ(D:Ends)(k:Nat):Ends:={ nx:=fun g T=>D.nx (g.set k none) T,rt:=fun _ _=>False}
section
variable{X:Cx}{pins:Cl}{σ:St}{D:Ends}
def fK{H0 H':Hp}{s0 s1:SD}{ea C:AD}{a0:VL}{B:Heap}{k:Nat}{h5:Heap}(hN:u7)(hcalm:jj)(I:Inv X pins σ H0 s0)(F:ZA X.prog X.w X.stack H0 s0 ea Nq a0 H' s1 B){g:uM}(hrest:X.stack=X.env::g)(hfr:X.env.frame=some X.env.locals) (fl5:Heap.FlyingW B (X.env::g) ea Nq a0 h5)(Y:s1.heap.UpToSlots h5)(I5:Inv X pins σ H' zi):∀ {hs:zD} {t:TS},Vw X C ea k hs t->(H' ea=none->t (YQ D k) (σ.set k (some zx)) (upd H' ea (NX ea Nq)))->wpAny By X.A (handleBy zx X.env hs) (SP X pins D) X.xe zi:=by
 obtain⟨ob,Z,T⟩:=fl5.there;intro hs t Aw q
 induction Aw with
 |miss hg hm hd hB r ih=>
  refine wpAny_handleBy_cons zBA (by intro q;cases q);exact Vv (K:=X.K) I5.Hc Z T hB (ih q)
 | @hit x n G np hpos b0 suite rest t hg hm hd hB hk hln hb=>
  refine wpAny_handleBy_cons zBA (by intro q;cases q);refine Vv (K:=X.K) I5.Hc Z T hB (codeAny_handlers_suite_as ?_);refine lands_againW fl5 fun h6 fl6 up6=>?_;have I6:Inv X pins σ H' {s1 with heap:=h6,toks:=s1.toks}:=land I F fl6.1 (Y.trans up6);obtain⟨oe,ws,e1,e2,e3,_⟩:=fl6.first
  obtain⟨U,I7⟩:=pB I F I6 ⟨oe,ws,e1,e2,e3⟩;refine K8 (X:=X.held ea) (I7.held ea) hN hk (.inl hln) (v:=.ref ea) rfl (fun s8 I8=>?_) (.inr hln);refine aW (hb pins s8 _ _ (YQ D k) I8 (q U)) (fun fl s9 h9=>?_) fun _ _ z=>z.elim;cases fl with
  |next=>
   obtain⟨σ9,H9,I9,e9⟩:=h9;exact rg (I9.mL I.ok) hN hk hln fun s' I'=>⟨_,_,I',e9⟩
  |brk=>obtain⟨_,_,_,z⟩:=h9;exact z.elim
  |cont=>obtain⟨_,_,_,z⟩:=h9;exact z.elim
  |ret v=>obtain⟨_,_,_,_,_,z⟩:=h9;exact z.elim
end
def kq(k:Nat):Ou->Option Ou
 |.nx δ=>some (.nx (δ.set k .no))
 |_=>none
end L2
namespace L2
open PySem PySem.Spec PyProof.Rows
def GT(H:Hp)(v:VL)(x:Tr):Prop:=∃a ys,v=.ref a/\H a=some yt/\Ts H x ys
def YV(S:AD)(ev:ad)(ep:Nat)(t:yk):HO:=.ext fun h=>∃o,h.get? S=some o/\o.ExactSet/\o.data=.set ev ep t
abbrev kL(H:Hp)(p:Int×VL)(q:Int×Tr):Prop:=p.1=q.1/\q.2.deep<8/\GT H p.2 q.2
def eS(H:Hp)(S:AD)(st:TH.ES×SetTable):Prop:=∃ev ep,H S=some (YV S ev ep st.2)/\PySem.Paired (kL H) ev.toList st.1.toList
def GT.same{H H':Hp}{v:VL}{x:Tr}(h:GT H v x)(e:ug):GT H' v x:=let⟨a,ys,U,T,g⟩:=h;⟨a,ys,U,e _ _ T,g.same e⟩
structure gH(w:KB)(st:TH.ES×SetTable):Prop where
 fit:st.2.fits st.1.size=true
 plain:st.2.plain=true
 led:st.2.led=!w.params.followText "set-order"
 walk:TH.N9 st.2 st.1.size=true
 small:st.1.size<64
section
variable{X:Cx}{pins:Cl}{σ:St}{H:Hp}{s:SD}
def dG(I:BY){v:VL}{x:Tr}(g:GT H v x):∃a T,v=.ref a/\s.heap.IsTuple a T.toArray/\TH.Vs s.heap x T:=by
 obtain⟨a,ys,rfl,Y,U⟩:=g;obtain⟨T,r,p,_⟩:=I.tuple (BJ.of (K:=X.K) Y);exact⟨a,T,rfl,p,U.vs I r⟩
def V3(I:BY):∀ {t:Tr} {ys:ON} {us:ST},Ts H t ys->Vals ys us->t.deep<=8->TH.Kr (GT H) s.heap us t.bs
 |.nil,ys,us,h,r,_=>by
  rw[Ts]at h;subst h;cases r;exact .nil
 |.cons b q,ys,us,h,r,hd=>by
  rw[Ts]at h;obtain⟨a,T,rest,rfl,h1,h2,Z⟩:=h;rw[Tr.deep]at hd;cases r with
  |cons Y U=>
   cases Y;have g:GT H Jz b:=⟨a,T,rfl,h1,h2⟩;exact .cons ⟨by lia,g,dG I g⟩ (V3 I Z U AC)
def eQ(I:BY){l:zd}{m:ze}(h:PySem.Paired (kL H) l m):PySem.Paired (TH.Qc (GT H) s.heap) l m :=
 TH.Paired.imp (fun _ _ ⟨a,b,c⟩=>⟨a,b,c,dG I c⟩) h
def kU:∀ {us:ST} {ts:yw},PySem.Paired (GT H) us ts->∃zs,Vals zs us/\Ts H vx zs
 |_,_,.nil=>⟨[],.nil,by rw[Tr.of,Ts]⟩
 |_,_,.cons ⟨a,ys,e,Y,U⟩ r=>by
  obtain⟨zs,T,g⟩:=kU r;subst e;exact⟨.ref a::zs,.cons rfl T,by rw[Tr.of,Ts];exact⟨a,ys,zs,rfl,Y,U,g⟩⟩
def ox(w:KB)(K:Fg):List V->Hp->VK->Prop:=fun xs H Q=>∃p ys t st,xs=[.ref p]/\Ar K H p ys/\Ts H t ys/\t.deep<=8/\TH.Oz (TH.MW uh) t.bs=some st /\
 ∀S H',AL H H'->eS H' S st->Q (.ref S) H'
def b6(hc:jj)(hu:Ty):FV X (.type "set") (ox X.w X.K):=by
 intro pins s σ H xs us Q I r h;obtain⟨p,ys,t,st,rfl,hq,ht,hd,g,q⟩:=h;obtain⟨u,rfl,Y⟩:=r.one;cases Y;obtain⟨its,U,pl,hz⟩:=I.list hq;refine TH.XD (G:=GT H) SL pl.isList (V3 I ht U hd) AC g fun h2 tk S2 k2=>?_;obtain⟨o,ev,ep,T,g2,g3,g4⟩:=S2;have hf:=I.Aw.fresh (aH s.heap.objs.size);have es:=Al hf (YV s.heap.objs.size ev ep st.2);refine⟨.ref s.heap.objs.size,upd H s.heap.objs.size (YV s.heap.objs.size ev ep st.2),I.laid (t':=tk) k2 UF ?_,rfl,q _ _ es ⟨ev,ep,AU,TH.Paired.imp (fun _ _ ⟨a,b,c,_⟩=>⟨a,b,c.same es⟩) g4⟩⟩;exact⟨⟨o,T,g2,g3⟩,⟨o,T⟩,fun h1 h2 ⟨o,q1,Z⟩ k=>⟨o,k _ q1,Z⟩⟩
def ja(I:BY){S:AD}{st:TH.ES×SetTable}(h:eS H S st)(ok:gH X.w st):∃o ev ep,s.heap.get? S=some o/\TH.GU X.w o ev ep st.2/\TH.EO (GT H) s.heap ev st.1:=by
 obtain⟨ev,ep,U,T⟩:=h;obtain⟨⟨o,g1,Z,Y⟩,_,_⟩:=(show Cj X.prog X.w H s.heap S (YV S ev ep st.2) from I.Aw S _ U);have R:=eQ I T;have g:ev.size=st.1.size:=TH.EO.size R;exact⟨o,ev,ep,g1,⟨Z,Y,by rw[g];exact ok.fit,ok.plain,ok.led,by rw[g];exact ok.walk⟩,R⟩
def kB(w:KB):List V->Hp->VK->Prop:=fun xs H Q=>∃S st,xs=[.ref S]/\eS H S st/\gH w st/\∀(l:AD) (g:ON),H l=none->g.length<64->Ts H (Tr.of (Tr.C7 (TH.SJ st)).reverse) g->Q ui (upd H l (.lst g))
def ZF(hc:jj)(hu:Ty):FV X zAw (kB X.w):=by
 intro pins s σ H xs us Q I r h;obtain⟨S,st,rfl,hS,ok,q⟩:=h;obtain⟨u,rfl,g⟩:=r.one;cases g;obtain⟨o,ev,ep,g1,W,R⟩:=ja I hS ok;refine TH.ZC SL W g1 R ok.small AC fun h' D tk e1 us Y k1 gD hp hl=>?_;obtain⟨T,g,Z⟩:=kU hp;have U:T.length<64:=by rw[g.length];exact hl
 refine⟨.ref D,upd H D (.lst T),I.laid (t':=tk) k1 Y ⟨bC (aG U Nk),us,e1,g,gD⟩,rfl,q D T (I.Aw.fresh Y) U Z⟩
end
open PySem PyProof.Rows
end L2
namespace L2
open PySem PySem.Spec PyProof.Rows
def Rr(led:Bool)(l z:uJ):Bool:=match TH.Oz (TH.MW led) l with
 |some st=>decide ((Tr.C7 (TH.SJ st)).reverse=z)&&st.2.fits st.1.size&&st.2.plain&&decide (st.2.led=led)&&TH.N9 st.2 st.1.size&&decide (st.1.size<64)
 |none=>false
def ec{led:Bool}{l z:uJ}(h:Rr led l z=true):∃st,TH.Oz (TH.MW led) l=some st/\(Tr.C7 (TH.SJ st)).reverse=z/\st.2.fits st.1.size=true/\st.2.plain=true/\st.2.led=led/\TH.N9 st.2 st.1.size=true/\st.1.size<64:=by
 unfold Rr at h;split at h
 .rename_i st e;simp only[Bool.and_eq_true,decide_eq_true_eq]at h;obtain⟨⟨⟨⟨⟨h1,Z⟩,Y⟩,U⟩,T⟩,g⟩:=h;exact⟨st,e,h1,Z,Y,U,T,g⟩
 .cases h
def Yh(l:uJ):uJ:=match TH.Oz (TH.MW true) l with
 |some st=>(Tr.C7 (TH.SJ st)).reverse
 |none=>[]
def Hi(t:Tr):t8:=if t.deep<=8/\Rr true t.bs (Yh t.bs)=true/\Rr false t.bs (Yh t.bs)=true then some (.list (Bs (Tr.of (Yh t.bs)))) else none
def QO:PD->Option PD
 |.list g=>(Ek g).bind Hi
 |_=>none
section
variable{X:Cx}{e:Expr}{f:tZ}{pos p p2 pos2:Pos}
def Y0(hc:jj)(hu:Ty)(hg:Gl X "sorted")(hm:X.mg "sorted" = none)(hg2:Gl X "set")(hm2:X.mg "set" = none)(ha:ym) (Y:starEach [e] X.env=Jo::starEach [] X.env:=by rfl)(U:starEach [.Call (.Name "set" p2) [e] [] pos2] X.env=(false,eval (.Call (.Name "set" p2) [e] [] pos2) X.env)::starEach [] X.env:=by rfl) (hq1:(backTo pos2 vj).any To=false:=by rfl)(hq2:(backTo pos vj).any To=false:=by rfl):DE X (.Call zBb [.Call (.Name "set" p2) [e] [] pos2] [] pos) (fun δ=>(f δ).bind QO):=by
 obtain⟨ta,pa,ka⟩:=ha;refine⟨_,BW (ZF hc hu) hg hm PyProof.Rows.boot_sorted (AH (T8 (b6 hc hu) hg2 hm2 PyProof.Rows.boot_set (AH pa AV Y) AT AT Y hq1) AV U) AT AT U hq2,fun δ z hz G0 H0 G H σ ts Q R0 k=>?_⟩;obtain⟨y,h1,h2⟩:=aB.mp hz;refine ka δ y h1 G0 H0 G H σ ts _ R0 fun u G1 H1 R1=>?_;unfold QO at h2;split at h2
 .rename_i ds;obtain⟨t,h3,h4⟩:=aB.mp h2;unfold Hi at h4;split at h4
  .rename_i hh;cases h4;have hds:=M8 h3;have du:=R1.CL (_,u) KM;obtain⟨bb,a,ys,rfl,g,n2⟩:=Iy du (show Fj zAA=some ds from rfl);have n1':H1 a=some Jw:=by
    have:=R1.ins _ _ g;cases bb
    .simpa using this
    .exact absurd g (by
      have Z:=du;intro g;rw[Du]at Z;obtain⟨a',ys',e1,e2,_⟩:=Z;cases e1;rw[e2]at g;cases g)
   rw[hds]at n2;have ht:=(K0 n2).same R1.ins;have both:∀led,Rr led t.bs (Yh t.bs)=true:=fun led=>by cases led;exact hh.2.2;exact hh.2.1
   obtain⟨st,r1,r2,r3,r4,r5,r6,r7⟩:=ec (both (!X.w.params.followText "set-order"));refine⟨a,ys,t,st,rfl,Ar.of n1',ht,hh.1,r1,fun S H' e1 hS=>⟨S,st,rfl,hS,⟨r3,r4,r5,r6,r7⟩,fun l zs hl hz T=>?_⟩⟩;rw[r2]at T;have R2:=(R1.drop.on e1).BM;exact k _ _ _ (R2.SQ (SI T) hl)
  .cases h4
 .cases h2
end
end L2
namespace ZT
open PySem PyProof.Rows
abbrev FT(h:Heap)(T:AD)(a b c:VL):Prop:=h.get? T=some { cls:=.type "tuple",data:=.seq #[a,b,c]}
section
variable{prog:Go}{w:KB}{A:OR}{E:tq}{s:SD}{z TI TO i1 i2 i3:AD}{f1 f2 f3:uK}{n1 n2 n3 k:Nat}{P1 P2 P3:Nat->VL->Prop}{S1 S2 S3:vA}{a b c:VL}
def put3{T:AD}{x:VL}{k:Nat}{Q:x8}(g:FT s.heap T a b c) (h:∀h',h'.get? T=some { cls:=.type "tuple",data:=.seq ((#[a,b,c]:Array VL).setIfInBounds k x)}->Heap.SameBut T s.heap h'->Q () Nz):wpAny AS A (updateSeq T (·.setIfInBounds k x)) Q E s:=by
 refine wpAny_updateSeq g rfl (h _ ?_ (ag ..));rw[Heap.get?_update_self _ g rfl];simp[Obj.mapSeq]
structure OA(z TI TO i1 i2 i3:Addr)(f1 f2 f3:List Addr):Prop where
 a1:TO≠z/\TO≠i1/\TO≠i2/\TO≠i3
 a2:i1≠z/\i2≠z/\i3≠z
 b1:z ∉ f1/\TO ∉ f1/\i2 ∉ f1/\i3 ∉ f1
 b2:z ∉ f2/\TO ∉ f2/\i1 ∉ f2/\i3 ∉ f2
 b3:z ∉ f3/\TO ∉ f3/\i1 ∉ f3/\i2 ∉ f3
def oz{Q:tq}(D1:ua)(D2:ub)(D3:Draws prog w A i3 f3 n3 P3 S3)(ap:xW)(hz:bi)(hI:u5)(hO:zCB) (t1:vB)(t2:vC)(t3:S3 k s.heap)(l1:k<n1)(l2:k<n2)(l3:k<n3) (q:∀x y u h' tk,P1 k x->P2 k y->P3 k u->IsZip h' z TI TO yL->FT h' TO x y u->S1 io h'->S2 io h'->S3 io h'->FT h' s.heap.objs.size x y u->h'.objs.size=s.heap.objs.size+1 ->(∀c o,c≠z->c≠TO->c≠i1->c≠i2->c≠i3->s.heap.get? c=some o->h'.get? c=some o)->Q Do Iv):wpAny AS A Tm wX E s:=by
 obtain⟨⟨c5,c6,c7,c7'⟩,⟨c8,c9,c9'⟩,⟨d1,d2,d3,d3'⟩,⟨d4,d5,d6,d6'⟩,e4,e5,e6,e6'⟩:=ap;show wpAny _ _ zDV _ _ _;refine Wb vp;show wpAny _ _ zDW _ _ _;refine Wb uR;show wpAny _ _ zCO _ _ _;unfold Builtin.SmallTypes.ownedTupleIsFree;refine Wb zCu;simp only[if_true];refine Wb (bQ (Wb (aV hz rfl (x:=.ref TO) rfl (Wb (ai hz As fun g1 z1 m1=>Wb ?_)))));have m1:Heap.SameBut z s.heap g1:=m1;have z1:IsZip g1 z TI TO .ellipsis:=z1;simp only[List.zipIdx_cons,List.zipIdx_nil,List.forIn_cons,List.forIn_nil];refine Wb vk;show wpAny _ _ ZB _ _ _;refine Wb (D1.item k _ _ _ l1 (D1.frame _ _ _ t1 (Ao d1 m1)) fun x g2 tk2 p1 u1 Z=>aA ?_);have Z:Heap.SameBut i1 g1 g2:=Z;have o2:FT g2 TO a b c:=(Z.2 _ c6).trans ((m1.2 _ c5).trans hO);refine Wb (aU o2 rfl (Wb (put3 o2 fun g3 o3 Y=>Wb zDF)));have o3:FT g3 TO x b c:=o3;have Y:Heap.SameBut TO g2 g3:=Y;refine Wb vk;show wpAny _ _ Rc _ _ _;have t2':S2 k g3:=D2.frame _ _ _ (D2.frame _ _ _ (D2.frame _ _ _ t2 (Ao d4 m1)) (Ao d6 Z)) (Ao d5 Y);refine Wb zAx;have m4:Heap.SameBut i2 g3 g4:=m4;have o4:FT g4 TO x b c:=(m4.2 _ c7).trans o3;refine Wb zEG;have m5:Heap.SameBut TO g4 g5:=m5;have o5:FT g5 TO x y c:=o5;refine Wb vk;show wpAny _ _ (Builtin.SmallTypes.nextOf (.ref i3)>>=_) _ _ _;have t3':S3 k g5:=D3.frame _ _ _ (D3.frame _ _ _ (D3.frame _ _ _ (D3.frame _ _ _ (D3.frame _ _ _ t3 (Ao e4 m1)) (Ao e6 Z)) (Ao e5 Y)) (Ao e6' m4)) (Ao e5 m5);refine Wb (D3.item k _ _ _ l3 t3' fun u g6 tk6 p3 u3 U=>aA ?_);have U:Heap.SameBut i3 g5 g6:=U;have o6:FT g6 TO x y c:=(U.2 _ c7').trans o5;refine Wb (aU o6 rfl (Wb (put3 o6 fun g o7 T=>Wb (wpAny_letGo (aA WF)))));have T:Heap.SameBut TO g6 g:=T;have o7:FT g TO x y u:=o7;refine Wb (aU o7 rfl (Wb (wpAny_newTuple ?_)));have sz:g.objs.size=s.heap.objs.size:=by rw[T.1,U.1,m5.1,m4.1,Y.1,Z.1,m1.1]
 have z7:IsZip g z TI TO .ellipsis:=(T.2 _ c5.symm).trans ((U.2 _ c9'.symm).trans ((m5.2 _ c5.symm).trans ((m4.2 _ c9.symm).trans ((Y.2 _ c5.symm).trans ((Z.2 _ c8.symm).trans z1)))));have kp:∀c o,c≠z->c≠TO->c≠i1->c≠i2->c≠i3->s.heap.get? c=some o->g.get? c=some o:=fun c o e1 e2 e3 e4 e5 e=>(T.2 _ e2).trans ((U.2 _ e5).trans ((m5.2 _ e2).trans ((m4.2 _ e4).trans ((Y.2 _ e2).trans ((Z.2 _ e3).trans ((m1.2 _ e1).trans e))))));have v1:S1 io g:=D1.frame _ _ _ (D1.frame _ _ _ (D1.frame _ _ _ (D1.frame _ _ _ (D1.frame _ _ _ u1 (Ao d2 Y)) (Ao d3 m4)) (Ao d2 m5)) (Ao d3' U)) (Ao d2 T);have v2:S2 io g:=D2.frame _ _ _ (D2.frame _ _ _ (D2.frame _ _ _ u2 (Ao d5 m5)) (Ao d6' U)) (Ao d5 T);have v3:S3 io g:=D3.frame _ _ _ u3 (Ao e5 T);show wpAny _ _ zDu _ _ _;unfold Builtin.SmallTypes.ownedTupleHandOut;have z8:IsZip (g.push { cls:=.type "tuple",data:=.seq #[x,y,u]}) z TI TO .ellipsis:=aE _ z7;refine Wb (Wb (ai z8 As fun g8 w8 m8=>ai (show IsZip g8 z TI TO zAV from w8) As fun g9 w9 m9=>?_));have w9:IsZip g9 z TI TO zAV:=w9;have up:∀c o,c≠z->(g.push { cls:=.type "tuple",data:=.seq #[x,y,u]}).get? c=some o->g9.get? c=some o:=fun c o e1 e=>(m9.2 _ e1).trans ((m8.2 _ e1).trans e);have zl:z<g.objs.size:=aF z7;refine aA ⟨_,rfl,?_⟩;show Q zBc _;have fin:=q x y u g9 tk6 p1 p2 p3 (by rw[<-sz];exact w9) (up _ _ c5 (aE _ o7)) yB yC (D3.frame _ _ _ v3 fun c hc o e=>up c o (fun y=>e4 (y ▸ hc)) (aE _ e))
  (by rw[<-sz];exact up _ _ (ao zl) (aK _ rfl)) (by rw[<-sz,m9.1,m8.1,Heap.size_push]) fun c o e1 e2 e3 e4 e5 e=>up c o e1 (aE _ (kp c o e1 e2 e3 e4 e5 e))
 rw[sz];exact fin
def l9{Q:Fin->SD->Prop}(D1:ua)(D2:ub)(D3:Draws prog w A i3 f3 n3 P3 S3)(ap:xW)(hz:bi)(hI:u5)(hO:zCB) (t1:vB)(t2:vC)(t3:S3 k s.heap)(he:k=n1\/(k<n1/\k=n2)\/(k<n1/\k<n2/\k=n3)) (q:∀h' e tk,we->(∃o,h'.get? e=some o/\o.cls=.type "StopIteration")->E (.ref e) Iv):wpAny AS A Tm Q E s:=by
 obtain⟨⟨c5,c6,c7,c7'⟩,⟨c8,c9,c9'⟩,⟨d1,d2,d3,d3'⟩,⟨d4,d5,d6,d6'⟩,e4,e5,e6,e6'⟩:=ap;show wpAny _ _ zDV _ _ _;refine Wb vp;show wpAny _ _ zDW _ _ _;refine Wb uR;show wpAny _ _ zCO _ _ _;unfold Builtin.SmallTypes.ownedTupleIsFree;refine Wb zCu;simp only[if_true];refine Wb zDP;have Y:Heap.SameBut z s.heap g1:=Y;have z1:IsZip g1 z TI TO .ellipsis:=z1;simp only[List.zipIdx_cons,List.zipIdx_nil,List.forIn_cons,List.forIn_nil];refine Wb vk;show wpAny _ _ ZB _ _ _;have t1':=D1.frame _ _ _ t1 (Ao d1 Y);rcases he with he|⟨he1,he2⟩|⟨he1,he2,he3⟩
 .rw[he]at t1';refine Wb (D1.done _ _ _ t1' fun g2 e g T=>?_);obtain⟨o,T,hc⟩:=T;have z2:IsZip g2 z TI TO .ellipsis:=g _ _ c8.symm z1;have ez:e≠z:=fun y=>by subst y;rw[z2]at T;cases T;simp at hc
  exact ai z2 As fun g3 _ U=>q g3 e _ (fun c o e1 e2 e3 e4 e5 y=>(U.2 _ e1).trans (g _ _ e3 xw)) ⟨o,(U.2 _ ez).trans T,hc⟩
 .refine Wb zBB;have g:Heap.SameBut i1 g1 g2:=g;have o2:FT g2 TO a b c:=(g.2 _ c6).trans ((Y.2 _ c5).trans hO);refine Wb (aU o2 rfl (Wb (put3 o2 fun g3 o3 U=>Wb zDF)));have U:Heap.SameBut TO g2 g3:=U;have Z:S2 k g3:=D2.frame _ _ _ (D2.frame _ _ _ wz (Ao d6 g)) (Ao d5 U);rw[he2]at Z;refine Wb vk;show wpAny _ _ Rc _ _ _;refine Wb (D2.done _ _ _ Z fun g4 e m4 T=>?_);obtain⟨o,T,hc⟩:=T;have z4:IsZip g4 z TI TO .ellipsis:=m4 _ _ c9.symm zBf;have ez:e≠z:=fun y=>by subst y;rw[z4]at T;cases T;simp at hc
  exact ai z4 As fun g5 _ m5=>q g5 e _ (fun c o e1 e2 e3 e4 e5 y=>(m5.2 _ e1).trans (m4 _ _ e4 ((U.2 _ e2).trans ((g.2 _ e3).trans xw)))) ⟨o,(m5.2 _ ez).trans T,hc⟩
 .refine Wb zBB;have g:Heap.SameBut i1 g1 g2:=g;have o2:FT g2 TO a b c:=(g.2 _ c6).trans ((Y.2 _ c5).trans hO);refine Wb (aU o2 rfl (Wb (put3 o2 fun g3 o3 U=>Wb zDF)));have U:Heap.SameBut TO g2 g3:=U;have o3:FT g3 TO x b c:=o3;have Z:S2 k g3:=D2.frame _ _ _ (D2.frame _ _ _ wz (Ao d6 g)) (Ao d5 U);refine Wb vk;show wpAny _ _ Rc _ _ _;refine Wb (D2.item k _ _ _ he2 Z fun y g4 tk4 p2 u2 m4=>aA ?_);have m4:Heap.SameBut i2 g3 g4:=m4;have o4:FT g4 TO x b c:=(m4.2 _ c7).trans o3;refine Wb zEG;have m5:Heap.SameBut TO g4 g5:=m5;have t3':S3 k g5:=D3.frame _ _ _ (D3.frame _ _ _ (D3.frame _ _ _ (D3.frame _ _ _ (D3.frame _ _ _ t3 (Ao e4 Y)) (Ao e6 g)) (Ao e5 U)) (Ao e6' m4)) (Ao e5 m5);rw[he3]at t3';refine Wb vk;show wpAny _ _ (Builtin.SmallTypes.nextOf (.ref i3)>>=_) _ _ _;refine Wb (D3.done _ _ _ t3' fun g6 e m6 T=>?_);obtain⟨o,T,hc⟩:=T;have z6:IsZip g6 z TI TO .ellipsis:=m6 _ _ c9'.symm ((m5.2 _ c5.symm).trans ((m4.2 _ c9.symm).trans zBf));have ez:e≠z:=fun y=>by subst y;rw[z6]at T;cases T;simp at hc
  exact ai z6 As fun g7 _ m7=>q g7 e _ (fun c o e1 e2 e3 e4 e5 y=>(m7.2 _ e1).trans (m6 _ _ e5 ((m5.2 _ e2).trans ((m4.2 _ e4).trans ((U.2 _ e2).trans ((g.2 _ e3).trans xw)))))) ⟨o,(m7.2 _ ez).trans T,hc⟩
def Yp{Q:Uf}(D1:d7)(D2:em)(D3:Draws prog w A.in1 i3 f3 n3 P3 S3)(ap:xW)(hz:bi)(hI:u5)(hO:zCB) (t1:vB)(Y:vC)(t3:S3 k s.heap)(l1:k<n1)(l2:k<n2)(l3:k<n3) (q:∀x y u h' tk,P1 k x->P2 k y->P3 k u->IsZip h' z TI TO yL->FT h' TO x y u->S1 io h'->S2 io h'->S3 io h'->FT h' s.heap.objs.size x y u->h'.objs.size=s.heap.objs.size+1 ->(∀c o,c≠z->c≠TO->c≠i1->c≠i2->c≠i3->s.heap.get? c=some o->h'.get? c=some o)->Q (some Do) Iv):wpAny AS A zDe Q E s:=by
 have U:s.TypeIs Of "zip" := ⟨_,hz,rfl⟩;unfold pyNext;exact Wb (bV (aY (name:=Str.ofString "__next__") U bI
  (aX bI U F.entry_zip_next (oz D1 D2 D3 ap hz hI hO t1 Y t3 l1 l2 l3 fun x y u h' tk r1 r2 r3 r4 r5 r6 r7 r8 Z T g=>aA (q x y u h' tk r1 r2 r3 r4 r5 r6 r7 r8 Z T g)) wA)))
def Zo{Q:Uf}(D1:d7)(D2:em)(D3:Draws prog w A.in1 i3 f3 n3 P3 S3)(ap:xW)(hz:bi)(hI:u5)(hO:zCB) (t1:vB)(Y:vC)(t3:S3 k s.heap)(Z:k=n1\/(k<n1/\k=n2)\/(k<n1/\k<n2/\k=n3)) (q:∀h' tk,we->Q none Iv):wpAny AS A zDe Q E s:=by
 have U:s.TypeIs Of "zip" := ⟨_,hz,rfl⟩;unfold pyNext;refine Wb (bV (aY (name:=Str.ofString "__next__") U bI
  (aX bI U F.entry_zip_next (l9 D1 D2 D3 ap hz hI hO t1 Y t3 Z fun h' e tk kp g=>?_) wA)))
 obtain⟨o,g,hc⟩:=g;exact Wb wE
abbrev Ot(a b c:VL):Obj:={ cls:=.type "tuple",data:=.seq #[a,b,c]}
def ma(b1 b2 b3:Bool)(h:Heap)(g T U:AD):Heap :=
 (((((h.push (BP b1 g)).push xM).push (BP b3 U)).push vO).push xE).push
  { cls:=.type "zip",data:=.fields #[.none,.bool false,.bool false,.ref (((h.push (BP b1 g)).push xM).push (BP b3 U)).objs.size,.ref ((((h.push (BP b1 g)).push xM).push (BP b3 U)).push vO).objs.size]}
def fj(b1 b2 b3:Bool)(T Y Z:AD)(xs ys zs:tm):Meets (Builtin.«zip.__new__» ⟨[.type "zip",.ref T,.ref Y,.ref Z],[]⟩) (fun _ R s=>Sq b1 s.heap T xs/\Sq b2 s.heap Y ys/\Sq b3 s.heap Z zs /\R (.ok (.ret (.ref (((((s.heap.push uj).push zAB).push (BP b3 Z)).push (Ot Do (.ref (s.heap.push uj).objs.size) (.ref ((s.heap.push uj).push zAB).objs.size))).push xE).objs.size))) {s with heap:=ma b1 b2 b3 s.heap T Y Z}) :=
 .of_wp fun prog w A R s h=>by
  obtain⟨U,g,d,tk,os⟩:=s;obtain⟨h1,h2,h3,h⟩:=h;have hsub:=sub_zip;have i1:∀(A:OR) (E:ue) (Q:ue),Q (.ref U.objs.size) ⟨U.push uj,g,d,tk,os⟩->wpAny AS A (pyIter (.ref T)) Q E ⟨U,g,d,tk,os⟩:=fun A E Q q=>Mx (s:=⟨U,g,d,tk,os⟩) h1 q;have i2:∀(A:OR) (E:ue) (Q:ue),Q (.ref (U.push uj).objs.size) ⟨(U.push uj).push zAB,g,d,tk,os⟩->wpAny AS A (pyIter (.ref Y)) Q E ⟨U.push uj,g,d,tk,os⟩:=fun A E Q q=>Mx (s:=⟨U.push uj,g,d,tk,os⟩) (h2.push _) q;have i3:∀(A:OR) (E:ue) (Q:ue),Q (.ref ((U.push uj).push zAB).objs.size) ⟨((U.push uj).push zAB).push (BP b3 Z),g,d,tk,os⟩->wpAny AS A (pyIter (.ref Z)) Q E ⟨(U.push uj).push zAB,g,d,tk,os⟩:=fun A E Q q=>Mx (s:=⟨(U.push uj).push zAB,g,d,tk,os⟩) ((h3.push _).push _) q
  wp_walk using i1,i2,i3
  exact⟨_,rfl,h⟩
def ig(a b c:VL):checkTypeCall "zip" ⟨[a,b,c],[]⟩=pure ():=by kernel_rfl
def j6(a b c:VL):checkBuiltinCall "zip.__new__" ⟨[.type "zip",a,b,c],[]⟩=pure ():=by kernel_rfl
def jF(a b c d:VL):argsOk "object.__init__" ⟨[a,b,c,d],[]⟩:=by
 unfold argsOk;rw[signature?_of (n:=['_','_','t','i','n','i','_','_']) (o:=['t','c','e','j','b','o']) KK F.owner_object]
 kernel_rfl
def cI{b1 b2 b3:Bool}{Y U T:AD}{xs ys zs:tm}{Q:tq}(h1:Sq b1 s.heap Y xs)(h2:Sq b2 s.heap U ys)(h3:Sq b3 s.heap T zs) (h:∀h',IsZip h' (s.heap.objs.size+5) Rs lf .none->FT h' Rs Do zDa (.ref Re)->FT h' lf .none .none .none ->JL b1 h' s.heap.objs.size Y 0->JL b2 h' GE U 0->JL b3 h' Re T 0->(∀c o,s.heap.get? c=some o->h'.get? c=some o)->Q (.ref (s.heap.objs.size+5)) Nz):wpAny AS A (call (.type "zip") [.ref Y,.ref U,.ref T]) Q E s:=by
 refine callType_new F.called_zip AT (ig _ _ _) (j6 _ _ _) (fun obj=>jF obj _ _ _) F.entry_zip_new (fj b1 b2 b3 Y U T xs ys zs) ⟨h1,h2,h3,?_⟩;have up:∀(g:Heap) (o:Obj) (c:AD) (u:Obj),g.get? c=some u->(g.push o).get? c=some u:=fun g o c u e=>aE _ e;have n1:(s.heap.push (BP b1 Y)).objs.size=s.heap.objs.size+1:=Heap.size_push ..;have a0:(s.heap.push (BP b1 Y)).get? s.heap.objs.size=some (BP b1 Y):=aK _ (by cases b1<;>rfl);generalize hg1:s.heap.push (BP b1 Y)=g1 at n1 a0;have k1:∀c o,s.heap.get? c=some o->g1.get? c=some o:=fun c o e=>by rw[<-hg1];exact up _ _ _ _ e
 have n2:(g1.push (BP b2 U)).objs.size=s.heap.objs.size+2:=by rw[Heap.size_push,n1]
 have a1:(g1.push (BP b2 U)).get? GE=some (BP b2 U):=by rw[<-n1];exact aK _ (by cases b2<;>rfl)
 generalize hg2:g1.push (BP b2 U)=g2 at n2 a1;have k2:∀c o,g1.get? c=some o->g2.get? c=some o:=fun c o e=>by rw[<-hg2];exact up _ _ _ _ e
 have n3:(g2.push (BP b3 T)).objs.size=s.heap.objs.size+3:=by rw[Heap.size_push,n2]
 have a2:(g2.push (BP b3 T)).get? Re=some (BP b3 T):=by rw[<-n2];exact aK _ (by cases b3<;>rfl)
 generalize hg3:g2.push (BP b3 T)=g3 at n3 a2;have k3:∀c o,g2.get? c=some o->g3.get? c=some o:=fun c o e=>by rw[<-hg3];exact up _ _ _ _ e
 have n4:(g3.push (Ot Do zDa (.ref Re))).objs.size=s.heap.objs.size+4:=by rw[Heap.size_push,n3]
 have a3:FT (g3.push (Ot Do zDa (.ref Re))) Rs Do zDa (.ref Re):=by rw[<-n3];exact aK _ rfl
 generalize hg4:g3.push (Ot Do zDa (.ref Re))=g4 at n4 a3;have k4:∀c o,g3.get? c=some o->g4.get? c=some o:=fun c o e=>by rw[<-hg4];exact up _ _ _ _ e
 have n5:(g4.push xE).objs.size=s.heap.objs.size+5:=by rw[Heap.size_push,n4]
 have a4:FT (g4.push xE) lf .none .none .none:=by rw[<-n4];exact aK _ rfl
 generalize Z:g4.push xE=g5 at n5 a4;have k5:∀c o,g4.get? c=some o->g5.get? c=some o:=fun c o e=>by rw[<-Z];exact up _ _ _ _ e
 have ez:ma b1 b2 b3 s.heap Y U T=g5.push { cls:=.type "zip",data:=.fields #[.none,.bool false,.bool false,.ref Rs,.ref lf]}:=by
  unfold ma;rw[hg1,hg2,hg3,n1,n2,hg4,Z,n3,n4]
 have a5:IsZip (g5.push { cls:=.type "zip",data:=.fields #[.none,.bool false,.bool false,.ref Rs,.ref lf]}) (s.heap.objs.size+5) Rs lf .none:=by rw[<-n5];exact aK _ rfl
 rw[n1,n2,hg4,Z,n5,ez];show _/\_;have k6:∀c o,g5.get? c=some o->(g5.push { cls:=.type "zip",data:=.fields #[.none,.bool false,.bool false,.ref Rs,.ref lf]}).get? c=some o:=fun c o e=>up _ _ _ _ e;refine⟨⟨_,a5,rfl⟩,h _ a5 (k6 _ _ (k5 _ _ a3)) (k6 _ _ a4) ?_ ?_ ?_ fun c o e=>k6 _ _ (k5 _ _ (k4 _ _ (k3 _ _ (k2 _ _ (k1 _ _ e)))))⟩
 .have:=k6 _ _ (k5 _ _ (k4 _ _ (k3 _ _ (k2 _ _ a0))));cases b1 with
  |true=>exact⟨_,this,rfl,rfl⟩
  |false=>exact⟨_,this,rfl,rfl⟩
 .have:=k6 _ _ (k5 _ _ (k4 _ _ (k3 _ _ a1)));cases b2 with
  |true=>exact⟨_,this,rfl,rfl⟩
  |false=>exact⟨_,this,rfl,rfl⟩
 .have:=k6 _ _ (k5 _ _ (k4 _ _ a2));cases b3 with
  |true=>exact⟨_,this,rfl,rfl⟩
  |false=>exact⟨_,this,rfl,rfl⟩
end
end ZT
namespace L2
open PySem PySem.Spec PyProof.Rows
def eK(b1 b2 b3:Bool)(a1 a2 a3:AD):It :=
 ⟨fun i H=>∃xs x ys y g u,B9 b1 H a1 xs/\B9 b2 H a2 ys/\B9 b3 H a3 g/\xs[i]? = some x/\ys[i]? = some y/\g[i]? = some u,
  fun i H v H'=>∃p x y u,v=.ref p/\H p=none/\H'=upd H p (.tup [x,y,u])/\(∀xs,B9 b1 H a1 xs->xs[i]? = some x)/\(∀ys,B9 b2 H a2 ys->ys[i]? = some y)/\∀g,B9 b3 H a3 g->g[i]? = some u,
  fun i H=>∃xs ys g,B9 b1 H a1 xs/\B9 b2 H a2 ys/\B9 b3 H a3 g/\(i=xs.length\/(i<xs.length/\i=ys.length)\/(i<xs.length/\i<ys.length/\i=g.length))⟩
def rS(b1 b2 b3:Bool)(a1 a2 a3 z TI TO i1 i2 i3:AD):Nat->Heap->Prop:=fun i h=>IsZip h z TI TO .none/\ZT.FT h TI (.ref i1) (.ref i2) (.ref i3)/\(∃a b c,ZT.FT h TO a b c)/\ZT.JL b1 h i1 a1 i/\ZT.JL b2 h i2 a2 i/\ZT.JL b3 h i3 a3 i
def cD{z TI TO i1 i2 i3 a1 a2 a3:AD}(ne:[z,TI,TO,i1,i2,i3].Nodup)(e1:∀b∈[z,TI,TO,i1,i2,i3],a1≠b)(e2:∀b∈[z,TI,TO,i1,i2,i3],a2≠b)(e3:∀b∈[z,TI,TO,i1,i2,i3],a3≠b):ZT.OA z TI TO i1 i2 i3 [i1,a1] [i2,a2] [i3,a3]:=by
 simp only[List.nodup_cons,List.mem_cons,List.not_mem_nil,or_false,not_or]at ne;obtain⟨⟨n1,n2,n3,n4,T⟩,⟨n5,n6,n7,n7'⟩,⟨n8,n9,g⟩,⟨Z,Y⟩,U,_⟩:=ne;have x:∀ {a:AD},(∀b∈[z,TI,TO,i1,i2,i3],a≠b)->z≠a/\TO≠a/\i1≠a/\i2≠a/\i3≠a:=fun h=>⟨Ne.symm (h z As),Ne.symm (h TO As),Ne.symm (h i1 As),Ne.symm (h i2 As),Ne.symm (h i3 As)⟩;have m:∀ {b i a:AD},b≠i->b≠a->b ∉ [i,a]:=fun h1 h2=>by simp[h1,h2]
 obtain⟨x1,x2,x3,x4,x5⟩:=x e1;obtain⟨y1,y2,y3,y4,y5⟩:=x e2;obtain⟨w1,w2,w3,w4,w5⟩:=x e3;exact⟨⟨Ne.symm n2,n8,n9,g⟩,⟨Ne.symm n3,Ne.symm n4,Ne.symm T⟩,⟨m n3 x1,m n8 x2,m (Ne.symm Z) x4,m (Ne.symm Y) x5⟩,⟨m n4 y1,m n9 y2,m Z y3,m (Ne.symm U) y5⟩,⟨m T w1,m g w2,m Y w3,m U w4⟩⟩
def Zj{P:Go}{w:KB}{K:Fg}{elts:uD}{x1}{pos:Pos}{b1 b2 b3:Bool}{a1 a2 a3 z TI TO i1 i2 i3:AD}(ne:[z,TI,TO,i1,i2,i3].Nodup) :
  Turn P w K zAU (eK b1 b2 b3 a1 a2 a3) [z,TI,TO,i1,i2,i3] z (rS b1 b2 b3 a1 a2 a3 z TI TO i1 i2 i3) where
 mem:=by simp
 obj:=fun i h st b hb=>by
  obtain⟨h1,h2,⟨u,v,w,h3⟩,h4,h5,h6⟩:=st;have hb:b=z\/b=TI\/b=TO\/b=i1\/b=i2\/b=i3:=by simpa using hb
  rcases hb with rfl|rfl|rfl|rfl|rfl|rfl
  .exact⟨_,h1,fun v y=>by cases y⟩
  .exact⟨_,h2,fun v y=>by cases y⟩
  .exact⟨_,h3,fun v y=>by cases y⟩
  .exact GX h4
  .exact GX h5
  .exact GX h6
 keep:=fun i h h' st k=>by
  obtain⟨h1,h2,⟨u,v,w,h3⟩,h4,h5,h6⟩:=st;exact⟨k z As _ h1,k TI As _ h2,⟨u,v,w,k TO As _ h3⟩,FX h4 fun o e=>k i1 As o e,FX h5 fun o e=>k i2 As o e,FX h6 fun o e=>k i3 As o e⟩
 item:=by
  intro X hP hw hK hc i pins s σ H E I hf st hg;subst hP hw hK;obtain⟨xs,x,ys,y,zs,t,q1,q2,q3,hx,hy,ht⟩:=hg;obtain⟨us,rv1,p1⟩:=q1.raw I;obtain⟨vs,rv2,p2⟩:=q2.raw I;obtain⟨ws,rv3,p3⟩:=q3.raw I;obtain⟨u,hu,ru⟩:=rv1.get hx;obtain⟨v,hv,rv⟩:=rv2.get hy;obtain⟨o3,hw,rw'⟩:=rv3.get ht;obtain⟨t1,t2,⟨ta,tb,tc,t3⟩,t4,t5,t6⟩:=st;have e1:∀b∈[z,TI,TO,i1,i2,i3],a1≠b:=fun b hb=>q1.none (hf b hb).1;have e2:∀b∈[z,TI,TO,i1,i2,i3],a2≠b:=fun b hb=>q2.none (hf b hb).1;have e3:∀b∈[z,TI,TO,i1,i2,i3],a3≠b:=fun b hb=>q3.none (hf b hb).1;refine ZT.Yp zCP zCQ zDS (cD ne e1 e2 e3) t1 t2 t3 ⟨t4,p1⟩ ⟨t5,p2⟩ ⟨t6,p3⟩ (aD.mp hu).1 (aD.mp hv).1 (aD.mp hw).1
   fun u' v' w' h' tk r1 r2 r2' r3 r4 r5 r6 r6' r7 r8 r9=>⟨_,rfl,wpAny_letOwnedTupleGo_zip (s:={s with heap:=h',toks:=tk}) r3 fun h'' z'' sb=>?_⟩
  rw[hu]at r1;rw[hv]at r2;rw[hw]at r2';cases r1;cases r2;cases r2';have ne':=ne;simp only[List.nodup_cons,List.mem_cons,List.not_mem_nil,or_false,not_or]at ne';obtain⟨⟨n1,n2,n3,n4,n4'⟩,⟨n5,n6,n7,n7'⟩,⟨n8,n9,n9'⟩,⟨n10,n11⟩,n12,_⟩:=ne';have keep:∀b o,b ∉ [z,TI,TO,i1,i2,i3]->s.heap.get? b=some o->h''.get? b=some o:=fun b o hb q=>by
   simp only[List.mem_cons,List.not_mem_nil,or_false,not_or]at hb;exact(sb.2 b hb.1).trans (r9 b o hb.1 hb.2.2.1 hb.2.2.2.1 hb.2.2.2.2.1 hb.2.2.2.2.2 q)
  have lt:∀b∈[z,TI,TO,i1,i2,i3],b<s.heap.objs.size:=fun b hb=>by
   have hb:b=z\/b=TI\/b=TO\/b=i1\/b=i2\/b=i3:=by simpa using hb
   rcases hb with rfl|rfl|rfl|rfl|rfl|rfl
   .exact aF t1
   .exact aF t2
   .exact aF t3
   .obtain⟨o,e,_⟩:=GX t4;exact aF e
   .obtain⟨o,e,_⟩:=GX t5;exact aF e
   .obtain⟨o,e,_⟩:=GX t6;exact aF e
  have hTn:H s.heap.objs.size=none:=I.Aw.fresh UF;have hT'':h''.get? s.heap.objs.size=some { cls:=.type "tuple",data:=.seq #[u,v,o3]}:=(sb.2 _ (ao (lt z As))).trans r7;have neT:∀b o,s.heap.get? b=some o->b≠s.heap.objs.size:=fun b o q=>aI (aF q);have F8:∀b o,H b=some o->b ∉ [z,TI,TO,i1,i2,i3]:=fun b o q hb=>by rw[(hf b hb).1]at q;cases q
  refine⟨.ref s.heap.objs.size,upd H s.heap.objs.size (.tup [x,y,t]),?_,rfl,⟨_,x,y,t,rfl,hTn,rfl,fun zs hz=>by rw[hz.inj q1];exact hx,fun zs hz=>by rw[hz.inj q2];exact hy,fun zs hz=>by rw[hz.inj q3];exact ht⟩,⟨z'',?_,⟨u,v,o3,?_⟩,?_,?_,?_⟩,fun b hb=>?_⟩
  .show Inv X pins σ _ zAy;refine I.step (h':=h'') (g':=s.gens) (d':=s.drawn) (t':=tk) (ch:=[z,TI,TO,i1,i2,i3]) xq vq uO
    (fun b o _ q n=>by rw[AK (neT b o q)];exact n) vc ux uq
    (fun b ps q=>⟨#[],by rw[AK (AW q hTn),q];simp⟩) wF vv yf I.bare
   .obtain⟨_,f1,_,f3,f4,f5⟩:=hf b hb;exact⟨f3,f1,f4,f5⟩
   .obtain⟨o,es,ep,ho,r⟩:=hm;exact⟨o,es,ep,keep _ o xf ho,r⟩
   .by_cases hb:b=s.heap.objs.size
    .subst hb;rw[AU]at q;cases q;exact⟨show 3<=sizeLine by decide,[u,v,o3],.cons ru (.cons rv (.cons rw' .nil)),_,hT'',rfl,_,rfl⟩
    .rw[AK hb]at q;refine(I.Aw b o q).Hd xA vM fun c ys r=>by rw[AK (AW r hTn)];exact r
     rcases hc with rfl|hc
     .exact F8 _ _ q
     .exact F8 _ _ hc
  .exact(sb.2 _ (Ne.symm n1)).trans (r9 _ _ (Ne.symm n1) n5 n6 n7 n7' t2)
  .exact(sb.2 _ (Ne.symm n2)).trans r4
  .exact FX r5.1 fun o e=>(sb.2 _ (Ne.symm n3)).trans e
  .exact FX r6.1 fun o e=>(sb.2 _ (Ne.symm n4)).trans e
  .exact FX r6'.1 fun o e=>(sb.2 _ (Ne.symm n4')).trans e
  .rw[AK (aI (lt b hb))];exact(hf b hb).1
 done:=by
  intro X hP hw hK hc i pins s σ H E I hf st hg;subst hP hw hK;obtain⟨xs,ys,zs,q1,q2,q3,he⟩:=hg;obtain⟨us,rv1,p1⟩:=q1.raw I;obtain⟨vs,rv2,p2⟩:=q2.raw I;obtain⟨ws,rv3,p3⟩:=q3.raw I;obtain⟨t1,t2,⟨ta,tb,tc,t3⟩,t4,t5,t6⟩:=st;have e1:∀b∈[z,TI,TO,i1,i2,i3],a1≠b:=fun b hb=>q1.none (hf b hb).1;have e2:∀b∈[z,TI,TO,i1,i2,i3],a2≠b:=fun b hb=>q2.none (hf b hb).1;have e3:∀b∈[z,TI,TO,i1,i2,i3],a3≠b:=fun b hb=>q3.none (hf b hb).1;have he':i=us.length\/(i<us.length/\i=vs.length)\/(i<us.length/\i<vs.length/\i=ws.length):=by rw[<-rv1.length,<-rv2.length,<-rv3.length];exact he
  refine ZT.Zo zCP zCQ zDS (cD ne e1 e2 e3) t1 t2 t3 ⟨t4,p1⟩ ⟨t5,p2⟩ ⟨t6,p3⟩ he' fun h' tk kp=>⟨rfl,?_⟩;have keep:∀b o,b ∉ [z,TI,TO,i1,i2,i3]->s.heap.get? b=some o->h'.get? b=some o:=fun b o hb q=>by
   simp only[List.mem_cons,List.not_mem_nil,or_false,not_or]at hb;exact kp b o hb.1 hb.2.2.1 hb.2.2.2.1 hb.2.2.2.2.1 hb.2.2.2.2.2 q
  have F8:∀b o,H b=some o->b ∉ [z,TI,TO,i1,i2,i3]:=fun b o q hb=>by rw[(hf b hb).1]at q;cases q
  show Inv X pins σ _ zBI;refine I.step (h':=h') (g':=s.gens) (d':=s.drawn) (t':=tk) (ch:=[z,TI,TO,i1,i2,i3]) xq vq uO
    (fun b o _ q n=>n) vc (fun b ys q=>q) (fun b o u q=>q)
    (fun b ps q=>⟨#[],by rw[q];simp⟩) wF vv yf I.bare
  .obtain⟨_,f1,_,f3,f4,f5⟩:=hf b hb;exact⟨f3,f1,f4,f5⟩
  .obtain⟨o,es,ep,ho,r⟩:=hm;exact⟨o,es,ep,keep _ o xf ho,r⟩
  .refine(I.Aw b o q).Hd xA (fun c r=>r) fun c ys r=>r;rcases hc with rfl|hc
   .exact F8 _ _ q
   .exact F8 _ _ hc
 self:=fun _ _ _ _ _ st h=>wpAny_pyIter_zip st.1 h
def pO(U:TA):TI:=fun σ H R=>U σ H fun vs g=>∃(b1 b2 b3:Bool) (a1 a2 a3:AD),vs=[.ref a1,.ref a2,.ref a3]/\(∃xs,B9 b1 g a1 xs)/\(∃ys,B9 b2 g a2 ys)/\(∃T,B9 b3 g a3 T)/\R (eK b1 b2 b3 a1 a2 a3) g
def je{X:Cx}{elts:uD}{x1}{T:Pos}{a b c:Expr}{ta:TA}{p pos:Pos}(hg:Gl X "zip")(hm:xn)(ha:PA X [a,b,c] ta)(hs:starEach [a,b,c] X.env=[Op,No,zAZ]:=by rfl)(Y:starEach [b,c] X.env=[No,zAZ]:=by rfl):PI X (.Tuple elts x1 T) (.Call (.Name "zip" p) [a,b,c] [] pos) (pO ta):=by
 intro pins s σ H R I h;refine Call_ (GQ I hg hm boot_zip (aj (BV TD fun us s1 ⟨vs,H1,g,r1,q1⟩=>?_) (by rw[hs,Y]) (by rw[Y];rfl)));obtain⟨b1,b2,b3,l1,l2,l3,e,⟨xs,h1⟩,⟨ys,h2⟩,⟨zs,h3⟩,q⟩:=q1;subst e;cases r1 with
 |cons r U=>
  cases U with
  |cons r' U=>
   cases U with
   |cons r'' U=>
    cases U;cases r;cases r';cases r'';obtain⟨us,_,p1⟩:=h1.raw g;obtain⟨vs,_,p2⟩:=h2.raw g;obtain⟨ws,_,p3⟩:=h3.raw g;refine ZT.cI p1 p2 p3 fun h' z1 z2 z3 z4 z5 z6 hk=>wpAny_pyIter_zip z1 ?_;have I2:Inv X pins σ H1 zC:=g.kept (t':=s1.toks) hk;refine⟨_,[s1.heap.objs.size+5,s1.heap.objs.size+3,s1.heap.objs.size+4,s1.heap.objs.size,s1.heap.objs.size+1,s1.heap.objs.size+2],_,_,H1,rfl,I2,Zj ?_,⟨z1,z2,⟨_,_,_,z3⟩,z4,z5,z6⟩,fun b hb=>?_,q⟩
    .simp
    have Z:s1.heap.objs.size<=b:=by
     have hb2:b=s1.heap.objs.size+5\/b=s1.heap.objs.size+3\/b=s1.heap.objs.size+4\/b=s1.heap.objs.size\/b=s1.heap.objs.size+1\/b=s1.heap.objs.size+2:=by simpa using hb
     rcases hb2 with h|h|h|h|h|h<;>rw[h]<;>first|exact aH _|exact Nat.le_add_right _ _
    exact g.Qh Z (g.Aw.fresh Z)
def L8(xs ys zs:tj):tj:=(xs.zip (ys.zip zs)).map fun q=>.tuple [q.1,q.2.1,q.2.2]
def UJ{xs ys zs:tj}{i:Nat}{d:PD}(h:(L8 xs ys zs)[i]? = some d):∃x y z,xs[i]? = some x/\ys[i]? = some y/\zs[i]? = some z/\d=.tuple [x,y,z]:=by
 unfold L8 at h;rw[List.getElem?_map]at h;obtain⟨q,Z,rfl⟩:=aC.mp h;obtain⟨Y,U⟩:=List.getElem?_zip_eq_some.mp Z;obtain⟨T,g⟩:=List.getElem?_zip_eq_some.mp U;exact⟨q.1,q.2.1,q.2.2,Y,T,g,rfl⟩
def jP{Gc H:Hp}{p:AD}{x y z:PD}{u v w:V}(T:AL Gc H)(g:H p=none)(Y:Du Gc x u)(d2:Du Gc y v)(d3:Du Gc z w):∃Gc',AL Gc Gc'/\Nw Gc H Gc'/\AL Gc' (upd H p (.tup [u,v,w]))/\AL H (upd H p (.tup [u,v,w]))/\Du Gc' (.tuple [x,y,z]) vS:=by
 have U:Gc p=none:=by
  cases q:Gc p with
  |none=>rfl
  |some o=>rw[T _ _ q]at g;cases g
 have e:AL Gc (upd Gc p (.tup [u,v,w])):=Al U _;refine⟨upd Gc p (.tup [u,v,w]),e,fun b o h=>?_,fun b o h=>?_,Al g _,?_⟩
 .by_cases hb:b=p
  .subst hb;exact .inr (.inl g)
  .rw[AK hb]at h;exact .inl h
 .by_cases hb:b=p
  .subst hb;rw[AU]at h ⊢;exact h
  .rw[AK hb]at h ⊢;exact T _ _ h
 .rw[Du];exact⟨p,_,rfl,AU,.cons (Y.same e) (.cons (d2.same e) (.cons (d3.same e) .nil))⟩
def jQ{G:Hp}{b1 b2 b3:Bool}{a1 a2 a3:AD}{us vs ws:uI}{xs ys zs:tj}(h1:G a1=some (if b1 then .tup us else .lst us))(h2:G a2=some (if b2 then .tup vs else .lst vs))(h3:G a3=some (if b3 then .tup ws else .lst ws))(d1:Av G xs us)(d2:Av G ys vs)(d3:Av G zs ws):KJ (eK b1 b2 b3 a1 a2 a3) (L8 xs ys zs) G where
 stop:=fun H e=>by
  have k1:=e _ _ h1;have k2:=e _ _ h2;have k3:=e _ _ h3;refine⟨us,vs,ws,?_,?_,?_,?_⟩
  .cases b1<;>simpa[B9]using k1
  .cases b2<;>simpa[B9]using k2
  .cases b3<;>simpa[B9]using k3
  .rw[d1.len,d2.len,d3.len];simp[L8];lia
 go:=fun i x H hx e=>by
  obtain⟨x1,x2,x3,k1,k2,k3,rfl⟩:=UJ hx;obtain⟨v1,j1,_⟩:=d1.get k1;obtain⟨v2,j2,_⟩:=d2.get k2;obtain⟨v3,j3,_⟩:=d3.get k3;have m1:=e _ _ h1;have m2:=e _ _ h2;have m3:=e _ _ h3;refine⟨us,v1,vs,v2,ws,v3,?_,?_,?_,j1,j2,j3⟩
  .cases b1<;>simpa[B9]using m1
  .cases b2<;>simpa[B9]using m2
  .cases b3<;>simpa[B9]using m3
 Ft:=fun i x H v H' hx e y Gc e1 e2=>by
  obtain⟨x1,x2,x3,k1,k2,k3,rfl⟩:=UJ hx;obtain⟨p,v1,v2,v3,rfl,hp,rfl,y1,y2,y3⟩:=y;have m1:=e _ _ h1;have m2:=e _ _ h2;have m3:=e _ _ h3;have z1:=y1 us (by cases b1<;>simpa[B9]using m1);have z2:=y2 vs (by cases b2<;>simpa[B9]using m2);have z3:=y3 ws (by cases b3<;>simpa[B9]using m3);obtain⟨w1,n1,n2⟩:=d1.back z1;obtain⟨w2,n3,n4⟩:=d2.back z2;obtain⟨w3,n5,n6⟩:=d3.back z3;rw[k1]at n1;cases n1;rw[k2]at n3;cases n3;rw[k3]at n5;cases n5;exact jP e2 hp (n2.same e1) (n4.same e1) (n6.same e1)
def TU:List PD->Option sw
 |[x,y,z]=>(Fj x).bind fun xs=>(Fj y).bind fun ys=>(Fj z).map fun g=>L8 xs ys g
 |_=>none
section
variable{X:Cx}{a b c:Expr}{fs:tY}{pos p:Pos}
def jt{elts:uD}{x1}{g:Pos}(hg:Gl X "zip")(hm:xn)(ha:DA X [a,b,c] fs)(hs:starEach [a,b,c] X.env=[Op,No,zAZ]:=by rfl)(U:starEach [b,c] X.env=[No,zAZ]:=by rfl):DI X zBa (.Call (.Name "zip" p) [a,b,c] [] pos) (fun δ=>(fs δ).bind TU):=by
 obtain⟨t,p,k⟩:=ha;refine⟨_,je hg hm p hs U,fun δ xs h G0 H0 G H σ ts R R0 q=>?_⟩;obtain⟨x,h1,T⟩:=aB.mp h;refine k δ _ h1 G0 H0 G H σ ts _ R0 fun vs G' H' R' hv=>?_;obtain⟨d,R2⟩:=R'.args hv;unfold TU at T;split at T
 .obtain⟨xs1,h3,h4⟩:=aB.mp T;obtain⟨ys1,h5,h6⟩:=aB.mp h4;obtain⟨zs1,h7,rfl⟩:=aC.mp h6;obtain⟨v1,r1,rfl,du,d⟩:=d.un;obtain⟨v2,r2,rfl,dv,d⟩:=d.un;obtain⟨w,rfl,dw⟩:=d.JW;obtain⟨b1,a1,us,rfl,Z,n2⟩:=Iy du h3;obtain⟨b2,a2,vs,rfl,m1,m2⟩:=Iy dv h5;obtain⟨b3,a3,ws,rfl,Y,o2⟩:=Iy dw h7;have s1:=R2.ins _ _ Z;have s2:=R2.ins _ _ m1;have s3:=R2.ins _ _ Y;exact⟨b1,b2,b3,a1,a2,a3,rfl,⟨us,by cases b1<;>simpa[B9]using s1⟩,⟨vs,by cases b2<;>simpa[B9]using s2⟩,⟨ws,by cases b3<;>simpa[B9]using s3⟩,q _ _ _ R2 (jQ Z m1 Y n2 m2 o2)⟩
 .cases T
def VS(i j l:Nat)(y:PD)(δ:Dv):Option Dv:=match y with
 |.tuple [u,v,w]=>some (((δ.set i (.d u)).set j (.d v)).set l (.d w))
 |_=>none
def di{x y z:Str}{i j l:Nat}{px py Z:Pos}{k1}(h:PG X zBp (ZX X.K 3 (Lq (Ds i) (Lq (Ds j) (Lq (Ds l) ZP))))):DG X zBp (VS i j l):=by
 refine⟨_,h,fun δ z δ' e G0 H0 G H σ v Q R k=>?_⟩;unfold VS at e;split at e
 .cases e;have du:=R.CL _ KM;rw[Du]at du;obtain⟨a,ys,rfl,n1,g⟩:=du;obtain⟨Y,r1,rfl,m1,g⟩:=g.un;obtain⟨U,r2,rfl,m2,g⟩:=g.un;obtain⟨T,rfl,m3⟩:=g.JW;refine⟨a,[Y,U,T],rfl,BJ.of (R.ins _ _ n1),rfl,Y,[U,T],rfl,U,[T],rfl,T,[],rfl,rfl,?_⟩;exact k _ _ _ ((((R.drop.put m3).put m2).put m1).Hi.Hi.Hi)
 .cases e
end
end L2
namespace L2
open PySem PySem.Spec PyProof.Rows
abbrev VO(i:Nat)(f:dO):DF:=fun δ=>(f δ).bind fun x=>match x with
 |.list xs=>some (.nx (δ.set i (.own NE)))
 |_=>none
section
variable{X:Cx}{a b:Expr}{f g:tZ}{i:Nat}{y:Str}{pos pos' p cp:Pos}
def Zm(ha:zg)(hb:DE X b g)(hN:u7)(Y:X.N[i]? = some y)(hx:Loc X.env.scope y) (hs:swapsWith (.BinOp a .Add b cp) (some (.Name y pos')) pos.line X.env=pure false:=by rfl)(hf:X.fn y=true\/X.env.scope.names.lookup y=some .local:=by first|exact .inl rfl|exact .inr rfl|assumption):DS X (.Assign [.Name y pos'] (.BinOp a .Add b cp) pos) (VO i (AQ MO f g)):=by
 obtain⟨ta,pa,ka⟩:=ha;obtain⟨tb,pb,kb⟩:=hb;refine⟨_,BC hN Y hx (A2 VG pa pb) hs hf,fun δ r hz G0 H0 G H σ D R q=>?_⟩;obtain⟨z,h1,h2⟩:=aB.mp hz;obtain⟨x,y,h3,h4,T⟩:=two (x:=.none) (y:=.none) h1;refine ka δ x h3 G0 H0 G H σ [] _ R fun u G1 H1 R1=>?_;refine kb δ y h4 G0 H0 G1 H1 σ _ _ R1 fun v G2 H2 R2=>?_;have du:=R2.CL (x,u) zCx;have dv:=R2.CL (y,v) KM;unfold MO at T;split at T
 .split at T
  .rename_i hl;cases T;cases h2;rw[Du]at du dv;obtain⟨p,xs,rfl,k1,k2⟩:=du;obtain⟨q',ys,rfl,k3,Z⟩:=dv;exact⟨p,q',xs,ys,rfl,rfl,R2.ins _ _ k1,R2.ins _ _ k3,GY (by rw[k2.len,Z.len];exact hl),fun l U=>q _ _ _ (R2.drop.drop.dJ ⟨_,rfl,k2.app Z⟩ U)⟩
  .cases T
 .cases T
end
end L2
namespace L2
open PySem PySem.Spec PyProof.Rows
section
variable{X:Cx}
def cC{pins:Cl}{σ:St}{H:Hp}{s:SD}(I:BY){t:Tr}{v:V}{u:VL}(h:Tv H t v)(r:RelV v u):∃a g,u=.ref a/\s.heap.IsTuple a g.toArray/\TH.Vs s.heap t g:=by
 obtain⟨a,ys,rfl,Y,U⟩:=h;obtain⟨g,T,p,_⟩:=I.tuple (BJ.of (K:=X.K) Y);exact⟨a,g,r,p,U.vs I T⟩
open Classical in
end
end L2
namespace ZT
open PySem PyProof.Rows
def ND(h:Heap)(z TI TO T:AD)(b:Bool):Prop:=h.get? z=some { cls:=.type "zip",data:=.fields #[rawInt T,.bool b,.bool false,.ref TI,.ref TO]}/\∃o,h.get? T=some o
section
variable{prog:Go}{w:KB}{A:OR}{E:tq}{s:SD}{z TI TO T i1 i2:AD}{f1 f2:uK}{n1 n2 k:Nat}{P1 P2:Nat->VL->Prop}{S1 S2:vA}{b:Bool}
def Xh{Q:t9}(hz:xk)(Z:T≠z)(q:∀h',ND h' z TI TO T true->Heap.SameBut z s.heap h'->Q false Nz):wpAny AS A (Builtin.SmallTypes.ownedTupleIsFree Of) Q E s:=by
 obtain⟨hz,o,g⟩:=hz;unfold Builtin.SmallTypes.ownedTupleIsFree;refine Wb (aV hz rfl (x:=rawInt T) rfl ?_);show wpAny _ _ (loadIfAlive (Int.toNat (T:Int))>>=_) _ _ _;rw[Int.toNat_natCast];refine Wb (PySem.W.kdx_alive g ?_);show wpAny _ _ (field Of 1>>=_) _ _ _;refine Wb (aV hz rfl (x:=.bool b) rfl ?_);cases b with
 |true=>exact Wb (aA (aA (q _ ⟨hz,o,g⟩ zR)))
 |false=>
  show wpAny _ _ (setField Of 1 Iu>>=_) _ _ _;refine Wb (ai hz As fun g1 Y U=>aA (q g1 ⟨Y,o,(U.2 _ Z).trans g⟩ U))
def dH{Q:tq}(D1:ua)(Z:ub)(ap:lv)(hz:xk)(hI:LT) (hT:T≠z/\T≠i1/\T≠i2)(t1:vB)(t2:vC)(l1:k<n1)(l2:k<n2) (q:∀x y h' tk,P1 k x->P2 k y->ND h' z TI TO T true->S1 io h'->S2 io h'->IsPair h' s.heap.objs.size x y->h'.objs.size=s.heap.objs.size+1 ->(∀c o,c≠z->c≠i1->c≠i2->s.heap.get? c=some o->h'.get? c=some o)->Q Do Iv):wpAny AS A Tm wX E s:=by
 obtain⟨⟨c1,c2,c3,c4⟩,⟨c5,c6,c7⟩,⟨c8,c9,c10⟩,⟨d1,d2,d3⟩,d4,d5,d6⟩:=ap;show wpAny _ _ zDV _ _ _;refine Wb (aV hz.1 rfl (x:=.bool false) rfl ?_);show wpAny _ _ zDW _ _ _;refine Wb zBg;show wpAny _ _ zCO _ _ _;refine Wb (Xh hz hT.1 fun g1 z1 g=>?_);simp only[Bool.false_eq_true,if_false];have g:Heap.SameBut z s.heap g1:=g;rw[<-Array.forIn_toList];simp only[List.forIn_cons,List.forIn_nil];refine Wb (Wb (Wb (aQ ?_)));show wpAny _ _ ZB _ _ _;refine Wb (D1.item k _ _ _ l1 (D1.frame _ _ _ t1 (Ao d1 g)) fun x g2 tk2 p1 u1 U=>aA WF);have U:Heap.SameBut i1 g1 g2:=U;have t2':S2 k g2:=Z.frame _ _ _ (Z.frame _ _ _ t2 (Ao d4 g)) (Ao d6 U);refine Wb (Wb (aQ ?_));show wpAny _ _ Rc _ _ _;refine Wb (Z.item k _ _ _ l2 t2' fun y Y tk4 p2 u2 m4=>aA (aA WF));have m4:Heap.SameBut i2 g2 Y:=m4;show wpAny _ _ (newTuple [x,y]>>=_) _ _ _;refine Wb (wpAny_newTuple (hsz:=by rw[sizeLine_eq];show(2:Nat)<=_;decide) ?_);have sz:Y.objs.size=s.heap.objs.size:=by rw[m4.1,U.1,g.1]
 have kp:∀c o,c≠i1->c≠i2->g1.get? c=some o->(Y.push { cls:=.type "tuple",data:=.seq #[x,y]}).get? c=some o:=fun c o e3 e4 e=>aE _ ((m4.2 _ e4).trans ((U.2 _ e3).trans e));obtain⟨z1,o,ho⟩:=z1;have fin:=q x y (Y.push { cls:=.type "tuple",data:=.seq #[x,y]}) tk4 p1 p2 ⟨kp _ _ c8.symm c9.symm z1,o,kp _ _ hT.2.1 hT.2.2 ho⟩ (D1.frame _ _ _ (D1.frame _ _ _ u1 (Ao d3 m4)) fun c hc o e=>aE _ e) (Z.frame _ _ _ u2 fun c hc o e=>aE _ e)
  (by rw[<-sz];exact aK _ rfl) (by rw[<-sz,Heap.size_push]) fun c o e1 e3 e4 e=>kp c o e3 e4 ((g.2 _ e1).trans e)
 rw[<-sz]at fin;exact aA ⟨_,rfl,fin⟩
def fi{Q:Fin->SD->Prop}(D1:ua)(D2:ub)(ap:lv)(hz:xk)(hI:LT) (hT:T≠z)(t1:vB)(t2:vC)(he:zBx) (q:∀h' e tk,yQ->(∃o,h'.get? e=some o/\o.cls=.type "StopIteration")->E (.ref e) Iv):wpAny AS A Tm Q E s:=by
 obtain⟨⟨c1,c2,c3,c4⟩,⟨c5,c6,c7⟩,⟨c8,c9,c10⟩,⟨d1,d2,d3⟩,d4,d5,d6⟩:=ap;show wpAny _ _ zDV _ _ _;refine Wb (aV hz.1 rfl (x:=.bool false) rfl ?_);show wpAny _ _ zDW _ _ _;refine Wb zBg;show wpAny _ _ zCO _ _ _;refine Wb (Xh hz hT fun g1 z1 Y=>?_);simp only[Bool.false_eq_true,if_false];have Y:Heap.SameBut z s.heap g1:=Y;rw[<-Array.forIn_toList];simp only[List.forIn_cons,List.forIn_nil];refine Wb (Wb (Wb (aQ ?_)));show wpAny _ _ ZB _ _ _;have g:=D1.frame _ _ _ t1 (Ao d1 Y);rcases he with he|⟨he1,he2⟩
 .rw[he]at g;refine Wb (D1.done _ _ _ g fun g2 e U ho=>?_);exact q g2 e _ (fun c o e1 e3 e4 y=>U _ _ e3 xw) ho
 .refine Wb (D1.item k _ _ _ he1 g fun x g2 tk2 p1 u1 U=>aA WF);have U:Heap.SameBut i1 g1 g2:=U;have Z:S2 k g2:=D2.frame _ _ _ wz (Ao d6 U);rw[he2]at Z;refine Wb (Wb (aQ ?_));show wpAny _ _ Rc _ _ _;refine Wb (D2.done _ _ _ Z fun g4 e m4 ho=>?_);exact q g4 e _ (fun c o e1 e3 e4 y=>m4 _ _ e4 ((U.2 _ e3).trans xw)) ho
def Z1{Q:Uf}(D1:d7)(D2:em)(ap:lv)(hz:xk)(hI:LT) (hT:T≠z/\T≠i1/\T≠i2)(t1:vB)(U:vC)(l1:k<n1)(l2:k<n2) (q:∀x y h' tk,P1 k x->P2 k y->ND h' z TI TO T true->S1 io h'->S2 io h'->IsPair h' s.heap.objs.size x y->h'.objs.size=s.heap.objs.size+1 ->(∀c o,c≠z->c≠i1->c≠i2->s.heap.get? c=some o->h'.get? c=some o)->Q (some Do) Iv):wpAny AS A zDe Q E s:=by
 have g:s.TypeIs Of "zip" := ⟨_,hz.1,rfl⟩;unfold pyNext;exact Wb (bV (aY (name:=Str.ofString "__next__") g bI
  (aX bI g F.entry_zip_next (dH D1 D2 ap hz hI hT t1 U l1 l2 fun x y h' tk r1 r2 r3 r4 r5 r6 Z Y=>aA (q x y h' tk r1 r2 r3 r4 r5 r6 Z Y)) wA)))
def UZ{Q:Uf}(D1:d7)(D2:em)(ap:lv)(hz:xk)(hI:LT) (hT:T≠z)(t1:vB)(Y:vC)(Z:zBx) (q:∀h' tk,yQ->Q none Iv):wpAny AS A zDe Q E s:=by
 have g:s.TypeIs Of "zip" := ⟨_,hz.1,rfl⟩;unfold pyNext;refine Wb (bV (aY (name:=Str.ofString "__next__") g bI
  (aX bI g F.entry_zip_next (fi D1 D2 ap hz hI hT t1 Y Z fun h' e tk kp U=>?_) wA)))
 obtain⟨o,U,hc⟩:=U;exact Wb (wpAny_isInstance (T := "StopIteration") (b:=true) ⟨o,U,hc⟩ isSubtype_stop (aA (q _ _ kp)))
end
end ZT
namespace TH
open PySem PyProof.Rows
section
variable{prog:Go}{w:KB}{A:OR}{E:tq}{s:SD}{z TI TO i1 i2 d:AD}{f1 f2:uK}{P1 P2:Nat->VL->Prop}{S1 S2:vA}
def V1(h:Heap)(z TI TO d:AD):Prop:=(IsZip h z TI TO .none/\∃a b,IsPair h TO a b)\/∃T b,ZT.ND h z TI TO T b/\d<T
def V1.keep{h h':Heap}(st:V1 h z TI TO d)(hz:z<d)(Z:TO<d)(e:Heap.SameBut d h h'):V1 h' z TI TO d:=by
 rcases st with ⟨U,a,b,g⟩|⟨T,b,⟨U,o,g⟩,Y⟩
 .exact .inl ⟨(e.2 _ (aI hz)).trans U,a,b,(e.2 _ (aI Z)).trans g⟩
 .exact .inr ⟨T,b,⟨(e.2 _ (aI hz)).trans U,o,(e.2 _ (ao Y)).trans g⟩,Y⟩
structure gz(z TI TO i1 i2 d:Addr):Prop where
 z:z<d
 I:TI<d
 O:TO<d
 a:i1<d
 b:i2<d
def qM{n1 n2 k:Nat}{Q:Uf}(lw:gz z TI TO i1 i2 d)(hd:d<s.heap.objs.size)(D1:d7)(D2:em)(ap:ZT.Apart z TI TO i1 i2 f1 f2)(st:V1 s.heap z TI TO d)(hI:LT) (t1:vB)(t2:vC)(l1:k<n1)(l2:k<n2) (q:∀x y h' tk,P1 k x->P2 k y->V1 h' z TI TO d->S1 io h'->S2 io h'->IsPair h' s.heap.objs.size x y->h'.objs.size=s.heap.objs.size+1 ->(∀c o,c≠z->c≠TO->c≠i1->c≠i2->s.heap.get? c=some o->h'.get? c=some o)->Q (some Do) Iv):wpAny AS A zDe Q E s:=by
 rcases st with ⟨h1,a,b,h2⟩|⟨T,b,h1,U⟩
 .exact ZT.next_item D1 D2 ap h1 hI h2 t1 t2 l1 l2 fun x y h' tk r1 r2 r3 r4 r5 r6 g Z Y=>q x y h' tk r1 r2 (.inr ⟨_,false,⟨r3,_,g⟩,hd⟩) r5 r6 g Z Y
 .exact ZT.Z1 D1 D2 ap h1 hI ⟨ao (bh lw.z U),Nat.ne_of_gt (bh lw.a U),Nat.ne_of_gt (bh lw.b U)⟩ t1 t2 l1 l2 fun x y h' tk r1 r2 r3 r5 r6 g Z Y=>q x y h' tk r1 r2 (.inr ⟨T,true,r3,U⟩) r5 r6 g Z fun c o e1 e2 e3 e4 e=>Y c o e1 e3 e4 e
def dF{g Z k:Nat}{Q:Uf}(lw:gz z TI TO i1 i2 d)(D1:Draws prog w A.in1 i1 f1 g P1 S1)(D2:Draws prog w A.in1 i2 f2 Z P2 S2)(ap:ZT.Apart z TI TO i1 i2 f1 f2)(st:V1 s.heap z TI TO d)(hI:LT) (t1:vB)(Y:vC)(he:k=g\/(k<g/\k=Z)) (q:∀h' tk,oN->Q none Iv):wpAny AS A zDe Q E s:=by
 rcases st with ⟨U,a,b,h2⟩|⟨T,b,U,h3⟩
 .exact ZT.next_end D1 D2 ap U hI h2 t1 Y he q
 .exact ZT.UZ D1 D2 ap U hI (ao (bh lw.z h3)) t1 Y he fun h' tk kp=>q h' tk fun c o e1 e2 e3 e4 e=>kp c o e1 e3 e4 e
end
end TH
namespace L2
open PySem PySem.Spec PyProof.Rows
abbrev TB:=St->Hp->(Hp->Prop)->XK->Prop
def gW(X:Cx)(st:Stmt)(t:TB):Prop:=∀(pins:Cl) (s:SD) (σ:St) (H:Hp) (N:Hp->Prop) (E:XK),Inv X pins σ H s->t σ H N E->wpAny By X.A (exec st X.env) zBL (Uq X pins σ E) s
def VF(X:Cx)(g:uL)(t:TB):Prop:=∀(pins:Cl) (s:SD) (σ:St) (H:Hp) (N:Hp->Prop) (E:XK),Inv X pins σ H s->t σ H N E->wpAny By X.A (execs g X.env) zBL (Uq X pins σ E) s
section
variable{X:Cx}{st:Stmt}{rest a b:uL}{t u:TB}{e c:Expr}{pos:Pos}
def jL:VF X [] (fun _ H N _=>N H):=fun _ _ _ H _ _ I h=>wpAny_execs_nil ⟨rfl,H,I,h⟩
def eT(Y:gW X st t)(U:VF X rest u):VF X (st::rest) (fun σ H N E=>t σ H (fun g=>u σ g N E) E):=by
 intro pins s σ H N E I h;refine wpAny_execs_cons (BV (Y pins s σ H _ E I h) fun f s1 q=>?_);obtain⟨rfl,g,Z,T⟩:=q;exact U pins s1 σ g N E Z T
def jO{T:TX}(Z:qj X e T)(Y:swapsWith e none pos.line X.env=pure false:=by rfl):gW X (.Expr e pos) (fun σ H N E=>T σ H (fun _ g=>N g) E):=by
 intro pins s σ H N E I h;exact wpAny_Expr_any (BV (Z pins s σ H _ E I h) fun v s1 ⟨x,g,I1,r1,U⟩=>⟨rfl,g,I1,U⟩) I.quiet Y
def pR{T:TT}(Z:PT X.I0 c T)(ha:VF X a t)(hb:VF X b u):gW X (.If c a b pos) (fun σ H N E=>T σ H fun d g=>if d=true then t σ g N E else u σ g N E):=by
 intro pins s σ H N E I h;refine wpAny_If (aW (Z pins s σ H _ (I.Hl _) h) (fun d s1 ⟨g,Y,U⟩=>?_) fun _ _ z=>z.elim);cases d with
 |true=>exact ha pins s1 σ g N E Y.Ee U
 |false=>exact hb pins s1 σ g N E Y.Ee U
def qR(X:Cx)(k:Nat)(T:zD)(t:TB):TS:=fun D σ H=>t σ H (fun U=>D.nx σ U) fun cls _ H'=>∃C,cls=.ref C/\∀ea,∃g,Vw X C ea k T g/\(H' ea=none->g (YQ D k) (σ.set k (some zx)) (upd H' ea (NX ea cls)))
def jn{U:uL}{k:Nat}{h0:ExceptHandler}{hs:zD}(he:VF X U t)(hN:u7)(Z:jj)(hstk:∃rest,X.stack=X.env::rest)(hfr:X.env.frame=some X.env.locals):PS X (.Try U (h0::hs) [] [] pos) (qR X k (h0::hs) t):=by
 intro pins s σ H D I h;refine wpAny_Try_except (aW (he pins s σ H _ _ I h) (fun f s1 q=>?_) fun ev s1 hf=>?_)
 .obtain⟨rfl,H1,I1,q1⟩:=q;exact wpAny_execs_nil ⟨_,H1,I1,q1⟩
 .obtain⟨H0,s0,I,ea,cls,a0,H',B,ee,F,C,hc,q⟩:=hf;subst ee hc;obtain⟨rest,g⟩:=hstk;have F1:=F.nF;rw[g]at F1;have hfrm:X.A.frames=some (X.env::rest):=by rw[<-g];exact I.ok.frames
  refine wpAny_looks_onW hfrm hfr F1 fun h4 Y up4=>?_;refine wpAny_landsW Y fun h5 fl5 up5=>?_;have T:=up4.trans up5;have I5:Inv X pins σ H' zi:=land I F fl5.1 T;obtain⟨tb,q1,q2⟩:=q ea;exact fK hN Z I F g hfr fl5 T I5 q1 q2
end
abbrev FB:=Dv->Option (Option AD)
def oT(G0 H0:Hp)(σ:St)(δ:Dv)(N:Hp->Prop)(E:XK):Option AD->Prop
 |none=>∀g H',Rw G0 H0 g H' σ δ []->N H'
 |some C=>∀g H',Rw G0 H0 g H' σ δ []->E Nq none H'
def mj(X:Cx)(st:Stmt)(F:FB):Prop:=∃t,gW X st t/\∀δ r,F δ=some r->∀G0 H0 G H σ N E,Rw G0 H0 G H σ δ []->oT G0 H0 σ δ N E r->t σ H N E
def DB(X:Cx)(g:uL)(F:FB):Prop:=∃t,VF X g t/\∀δ r,F δ=some r->∀G0 H0 G H σ N E,Rw G0 H0 G H σ δ []->oT G0 H0 σ δ N E r->t σ H N E
def WJ:FB:=fun _=>some none
def QT(g F2:FB):FB:=fun δ=>(g δ).bind fun r=>match r with
 |none=>F2 δ
 |some C=>some (some C)
def O9(m:rW)(fs:tY):FB:=fun δ=>((fs δ).bind m).map fun r=>match r with
 |.inl _=>none
 |.inr C=>some C
def cV(c:tf)(g F2:FB):FB:=fun δ=>(c δ).bind fun b=>if b=true then g δ else F2 δ
section
variable{X:Cx}{st:Stmt}{rest a b:uL}{e c:Expr}{es:uD}{fs:tY}{fc:tf}{F1 F2:FB}{pos p spos:Pos}
def Vc:DB X [] WJ:=⟨_,jL,fun δ r h G0 H0 G H σ N E R q=>by cases h;exact q _ _ R⟩
def Sf(h1:mj X st F1)(h2:DB X rest F2):DB X (st::rest) (QT F1 F2):=by
 obtain⟨t1,Y,k1⟩:=h1;obtain⟨t2,U,Z⟩:=h2;refine⟨_,eT Y U,fun δ r h G0 H0 G H σ N E R q=>?_⟩;obtain⟨g,h3,T⟩:=aB.mp h;refine k1 δ g h3 G0 H0 G H σ _ E R ?_;cases g with
 |none=>exact fun G' H' R'=>Z δ r T G0 H0 G' H' σ N E R' q
 |some C=>cases T;exact q
def qL(hc:DT X.I0 c fc)(ha:DB X a F1)(hb:DB X b F2):mj X (.If c a b pos) (cV fc F1 F2):=by
 obtain⟨tc,pc,kc⟩:=hc;obtain⟨t1,Z,k1⟩:=ha;obtain⟨t2,Y,k2⟩:=hb;refine⟨_,pR pc Z Y,fun δ r h G0 H0 G H σ N E R q=>?_⟩;obtain⟨d,h3,g⟩:=aB.mp h;refine kc δ d h3 G0 H0 G H σ [] _ R fun U H' T=>?_;cases d with
 |true=>exact k1 δ r g G0 H0 U H' σ N E T q
 |false=>exact k2 δ r g G0 H0 U H' σ N E T q
def Xu{g:Nat}{fA:AD}{fd:Fr}{ps:uC}{m:rW}{x:Str}{st':Stmt}(T:zCA)(F:AI X.prog X.w X.K X.mg X.base (CN X.prog X.w) g fA fd ps (Ep m))(hr:DQ g X.A)(ha:DA X.I0 zCh fs) (hg:Gl X x:=by rfl)(Z:GM=false:=by decide)(he:starEach zCh X.env=Jo::starEach es X.env:=by rfl)(Y:(backTo pos Ol).any To=false:=by rfl) (U:swapsWith IR none spos.line X.env=pure false:=by rfl):mj X (.Expr IR spos) (O9 m fs):=by
 obtain⟨ta,pa,ka⟩:=ha;refine⟨_,jO (mI T F hr hg pa Z he Y) U,fun δ r h G0 H0 G H σ N E R q=>?_⟩;obtain⟨w,h1,rfl⟩:=aC.mp h;refine U8 (k:=g) ka h1 R (fun x hx v G' H' R'=>?_) (fun C hC G' H' R'=>?_)
 .subst hx;exact q _ _ R'.drop
 .subst hC;exact q _ _ R'
end
abbrev U0(k:Nat)(F:FB)(g:DF):DF:=fun δ=>(F δ).bind fun r=>match r with
 |none=>some zS
 |some C=>(g (δ.set k (.d (Gb C)))).bind (kq k)
def iO{X:Cx}{k:Nat}{g:uL}{F:FB}{Fh:DF}{Z n:Str}{Gx:AD}{np hpos tp:Pos}{b0:Stmt}{suite:uL}(hb:DB X g F)(hN:u7)(hB:∀δ C,F δ=some (some C)->HS X.K C Gx true)(hm:X.mg Z=some (.ref Gx))(hs:∀ea,Mo (X.held ea) (b0::suite) Fh) (T:X.calm=true:=by rfl)(U:∃rest,X.stack=X.env::rest:=by exact⟨_,rfl⟩)(hfr:X.env.frame=some X.env.locals:=by rfl)(hg:Gl X Z:=by rfl)(hd:(Z==("__debug__" : Str))=false:=by decide)(hk:X.N[k]? = some n:=by rfl)(hln:X.env.scope.names.lookup n=some .local:=by rfl):DS X (.Try g [.ExceptHandler (some (.Name Z np)) (some n) (b0::suite) hpos] [] [] tp) (U0 k F Fh):=by
 obtain⟨tb,pb,kb⟩:=hb;refine⟨_,jn (k:=k) pb hN T U hfr,fun δ r h G0 H0 G H σ D R q=>?_⟩;obtain⟨w,h1,h2⟩:=aB.mp h;refine kb δ w h1 G0 H0 G H σ _ _ R ?_;cases w with
 |none=>cases h2;exact fun G' H' R'=>q _ _ _ R'
 |some C=>
  intro G' H' R';refine⟨C,rfl,fun ea=>?_⟩;obtain⟨th,p1,p2⟩:=hs ea;refine⟨th,.hit hg hm hd (hB δ C h1) hk hln p1,fun hea=>?_⟩;obtain⟨o,h3,Y⟩:=aB.mp h2;have R2:=R'.newObj (o:=NX ea Nq) hea;have de:Du (upd G' ea (NX ea Nq)) (Gb C) zx:=by unfold Gb;rw[Du];exact .inl ⟨ea,C,rfl,rfl,AU⟩
  refine p2 _ o h3 G0 H0 _ _ _ _ ((R2.put de).Hi) ?_;cases o with
  |nx δ'=>cases Y;exact fun σ4 G4 H4 R4=>q _ _ _ (R4.pI k none)
  |rt v=>cases Y
  |bk v=>cases Y
  |ct v=>cases Y
  |rn v=>cases Y
section
variable{k:Nat}{F F1 F2:FB}{Fh:DF}{δ δ':Dv}{fs:tY}{m:rW}{ds:tj}{c:tf}{r:Option (Option AD)}
def VX(h:F δ=some none):U0 k F Fh δ=some zS:=by show(F δ).bind _=_;rw[h];rfl
def WI{C:AD}(h:F δ=some (some C))(z:Fh (δ.set k (.d (Gb C)))=some yF):U0 k F Fh δ=some (.nx (δ'.set k .no)):=by
 show(F δ).bind _=_;rw[h];show(Fh (δ.set k (.d (Gb C)))).bind (kq k)=_;rw[z];rfl
def PJ(h:F1 δ=some none)(q:F2 δ=r):QT F1 F2 δ=r:=by show(F1 δ).bind _=_;rw[h];exact q
def O0{C:AD}(h:F1 δ=some (some C)):QT F1 F2 δ=some (some C):=by show(F1 δ).bind _=_;rw[h];rfl
def gb(h:c δ=some true)(q:F1 δ=r):cV c F1 F2 δ=r:=by show(c δ).bind _=_;rw[h];exact q
def gn(h:c δ=some false)(q:F2 δ=r):cV c F1 F2 δ=r:=by show(c δ).bind _=_;rw[h];exact q
def WW{y:PD}(h:fs δ=some ds)(q:m ds=some (.inl y)):O9 m fs δ=some none:=by show((fs δ).bind m).map _=_;rw[h];show(m ds).map _=_;rw[q];rfl
def Vz{C:AD}(h:fs δ=some ds)(q:m ds=some uk):O9 m fs δ=some (some C):=by show((fs δ).bind m).map _=_;rw[h];show(m ds).map _=_;rw[q];rfl
def C4(P:AD->Prop)(F:FB):Prop:=∀δ C,F δ=some (some C)->P C
def C4.at{P:AD->Prop}{F:FB}(h:C4 P F):∀δ C,F δ=some (some C)->P C:=h
variable{P:AD->Prop}
def C4.nil:C4 P WJ:=fun δ C h=>by cases h
def C4.seq(Z:C4 P F1)(Y:C4 P F2):C4 P (QT F1 F2):=fun δ C h=>by
 obtain⟨T,U,g⟩:=aB.mp h;cases T with
 |none=>exact Y δ C g
 |some C'=>cases g;exact Z δ _ U
def C4.if(U:C4 P F1)(T:C4 P F2):C4 P (cV c F1 F2):=fun δ C h=>by
 obtain⟨b,_,g⟩:=aB.mp h;cases b with
 |true=>exact U δ C g
 |false=>exact T δ C g
def C4.call(h:∀ds C,m ds=some uk->P C):C4 P (O9 m fs):=fun δ C z=>by
 obtain⟨w,U,g⟩:=aC.mp z;obtain⟨ds,_,T⟩:=aB.mp U;cases w with
 |inl y=>cases g
 |inr Y=>cases g;exact h ds _ T
end
end L2
namespace L2
open PySem PySem.Spec PyProof.Rows
def oX{G:Hp}{x:PD}{t:Tr}{v:V}(h:Hf x=some t)(d:Du G x v):Tv G t v:=by
 cases x with
 |tuple U=>
  rw[Hf]at h;have:=M8 h;subst this;rw[Du]at d;obtain⟨a,xs,rfl,T,g⟩:=d;exact⟨a,xs,rfl,T,K0 g⟩
 |_=>simp[Hf]at h
end L2
namespace TH
open PySem PyProof.Rows
def U9:typeLookup (.type "zip") "__len__" = pure none:=by rw[typeLookup_type,builtinLookup_eq_fast];kernel_rfl
def Ub:typeLookup (.type "zip") "__length_hint__" = pure none:=by rw[typeLookup_type,builtinLookup_eq_fast];kernel_rfl
section
variable{prog:Go}{w:KB}{A:OR}{E:tq}{s:SD}{z TI TO i1 i2 S n:AD}
def eY{Q:t9}(g:s.TypeIs Of "zip")(h:Q true s):wpAny AS A (Builtin.List.listLengthHint Of) Q E s:=by
 unfold Builtin.List.listLengthHint;refine Wb (bT g U9 ?_);exact Wb (bT g Ub (aA h))
def Yc(us vs:tm)(lo:AD)(h:Heap)(as:uK):Prop:=∀(j:Nat) (a:AD),as[j]? = some a->lo<a/\∃x y,us[j]? = some x/\vs[j]? = some y/\IsPair h a x y
def qI{R:Result->SD->Prop}{b1 b2:Bool}{l1 l2:AD}{us vs:tm}{h0:Heap}(hh:vY)(lw:gz z TI TO i1 i2 S)(hn:n<=z/\n<=TI/\n<=TO/\n<=i1/\n<=i2)(ap:ZT.Apart z TI TO i1 i2 [i1,l1] [i2,l2]) (n1:l1≠i1)(n2:l2≠i2)(m1:l1<n)(m2:l2<n)(e2:vs.length=us.length)(hs:us.length<=sizeLine)(res:VL) (hR:∀h' tk T c as,(∀c o,c<n->h0.get? c=some o->h'.get? c=some o)->h'.get? S=some { cls:=.type "list",dict:=none,data:=.seq T c,slots:=#[]}->as.length=us.length->Yc us vs S h' as->as.Nodup->T.toList=as.map Value.ref->R (.ok (.ret res)) Iv):∀(m i:Nat) (h:Heap) (tk c:Nat) (T:xP) (as:uK),us.length-i=m->i<=us.length->V1 h z TI TO S->IsPair h TI (.ref i1) (.ref i2)->ZT.JL b1 h i1 l1 i/\ZT.Sq b1 h l1 us->ZT.JL b2 h i2 l2 i/\ZT.Sq b2 h l2 vs->(∀c o,c<n->h0.get? c=some o->h.get? c=some o) ->h.get? S=some { cls:=.type "list",dict:=none,data:=.seq T c,slots:=#[]}->T.toList=as.map Value.ref->as.length=i->Yc us vs S h as->as.Nodup ->codeAny AS A (.builtin "list.extend.loop" ⟨[.ref S,.ref z,res],[]⟩) R {s with heap:=h,toks:=tk}:=by
 have D1:=ZT.EI (prog:=prog) (w:=w) (A:=A.in1.in1) hh b1 i1 l1 us n1;have D2:=ZT.EI (prog:=prog) (w:=w) (A:=A.in1.in1) hh b2 i2 l2 vs n2;have low:∀c:AD,c<n->c≠z/\c≠TO/\c≠i1/\c≠i2:=fun c g=>⟨aI (aG g hn.1),Nat.ne_of_lt (aG g hn.2.2.1),Nat.ne_of_lt (aG g hn.2.2.2.1),Nat.ne_of_lt (aG g hn.2.2.2.2)⟩;have Y:∀c:AD,S<=c->c≠z/\c≠TO/\c≠i1/\c≠i2:=fun c g=>⟨ao (aG lw.z g),Nat.ne_of_gt (aG lw.O g),Nat.ne_of_gt (aG lw.a g),Nat.ne_of_gt (aG lw.b g)⟩;intro m
 induction m with
 |zero=>
  intro i h tk c T as hm hi st hI t1 t2 kp hS ha hl hG nda;have hin:i=us.length:=by lia
  subst hin;refine codeAny_builtin PySem.F.entry_extend_loop ?_;rw[Around.under_plainId PySem.F.plain_extend_loop _];show wpAny _ A.in1 (pyNext Of>>=_) _ _ _;refine Wb (dF (s:={s with heap:=h,toks:=tk}) (A:=A.in1) lw D1 D2 ap st hI t1 t2 db fun h' Z kp'=>?_);have up:∀c o,c≠z/\c≠TO/\c≠i1/\c≠i2->h.get? c=some o->h'.get? c=some o:=fun c o q e=>kp' c o q.1 q.2.1 q.2.2.1 q.2.2.2 e;refine aA (hR h' Z T c as (fun c o g e=>up c o (low c g) (kp c o g e)) (up S _ (Y S UF) hS) hl (fun j a U=>?_) nda ha);obtain⟨r1,x,y,r2,r3,r4⟩:=hG j a U;exact⟨r1,x,y,r2,r3,up a _ (Y a (bC r1)) r4⟩
 |succ m ih=>
  intro i h tk c T as hm hi st hI t1 t2 kp hS ha hl hG nda;have hlt:i<us.length:=by lia
  have hsz:T.size=i:=by rw[<-Array.length_toList,ha,List.length_map,hl]
  have hSl:S<h.objs.size:=aF hS;refine codeAny_builtin PySem.F.entry_extend_loop ?_;rw[Around.under_plainId PySem.F.plain_extend_loop _];show wpAny _ A.in1 (pyNext Of>>=_) _ _ _;refine Wb (qM (s:={s with heap:=h,toks:=tk}) (A:=A.in1) lw hSl D1 D2 ap st hI t1 t2 hlt AC fun x y h' Z r1 r2 r3 r4 r5 r6 r7 r8=>?_);dsimp only at r6 r7 r8 ⊢;have kp1:∀c o,c≠z/\c≠TO/\c≠i1/\c≠i2->h.get? c=some o->h'.get? c=some o:=fun c o q e=>r8 c o q.1 q.2.1 q.2.2.1 q.2.2.2 e;have hS':=kp1 S _ (Y S UF) hS;have sb:Heap.SameBut S h' (h'.update S (Obj.mapSeq (·.push wg))):=ag ..;have up:∀b o,b≠S->h'.get? b=some o->(h'.update S (Obj.mapSeq (·.push wg))).get? b=some o:=fun b o hb e=>(sb.2 b hb).trans e;have hT:=up _ _ (ao hSl) r6;have nS:n<S:=aR hn.1 lw.z;show wpAny _ A.in1 (updateSeq S (·.push wg)>>=_) _ _ _;refine Wb (wpAny_updateSeq hS' rfl (aA ⟨plainId_quiet PySem.F.plain_extend_loop _,?_⟩) (by rw[hsz];lia) (by show(T.push wg).size<=sizeLine+1;rw[Array.size_push,hsz];lia));refine ih On _ Z _ (T.push wg) (as++[h.objs.size]) AC hlt (r3.keep lw.z lw.O sb) (up _ _ (aI lw.I) (r8 _ _ ap.a1.1 ap.a1.2.1 ap.a1.2.2.1 ap.a1.2.2.2 hI))
   (D1.frame _ _ _ r4 fun c g o e=>up c o ?_ e) (D2.frame _ _ _ r5 fun c g o e=>up c o ?_ e) (fun c o g e=>up c o (aI (bh g nS)) (kp1 c o (low c g) (kp c o g e)))
   (bM _ hS' rfl) (by rw[Array.toList_push,ha,List.map_append];rfl) (by rw[List.length_append,hl];rfl) (fun j b U=>?_) ?_
  .rcases aN.mp g with rfl|g
   .exact aI lw.a
   .rw[List.mem_singleton.mp g];exact aI (bh m1 nS)
  .rcases aN.mp g with rfl|g
   .exact aI lw.b
   .rw[List.mem_singleton.mp g];exact aI (bh m2 nS)
  .by_cases hj1:j<as.length
   .rw[List.getElem?_append_left hj1]at U;obtain⟨q1,x',y',q2,q3,q4⟩:=hG j b U;exact⟨q1,x',y',q2,q3,up b _ (ao q1) (kp1 b _ (Y b (bC q1)) q4)⟩
   .rw[List.getElem?_append_right AC]at U;have hj0:j-as.length=0:=by
     have:=(aD.mp U).1;simp at this
     lia
    rw[hj0]at U;have hb:h.objs.size=b:=by simpa using U
    subst hb;have hji:j=i:=by lia
    subst hji;exact⟨hSl,x,y,r1,r2,hT⟩
  .refine List.nodup_append.mpr ⟨nda,by simp,fun a ha b hb=>?_⟩;rw[List.mem_singleton.mp hb];obtain⟨j,U⟩:=bZ.mp ha;obtain⟨_,_,_,_,_,q⟩:=hG j a U;exact aI (aF q)
def jU{b1 b2 : Bool}{l1 l2 : AD}{us vs : tm}{Q : ue}(hh : A.handled = none)(lw : gz z TI TO i1 i2 s.heap.objs.size)(hn : n<=z/\n<=TI/\n<=TO/\n<=i1/\n<=i2)(ap : ZT.Apart z TI TO i1 i2 [i1,l1] [i2,l2]) (n1 : l1≠i1)(n2 : l2≠i2)(m1 : l1 < n)(m2 : l2 < n)(e2 : vs.length = us.length)(hs : us.length<=sizeLine) (hz : bi)(hI : LT)(hO : IsPair s.heap TO .none .none)(t1 : ZT.JL b1 s.heap i1 l1 0)(p1 : ZT.Sq b1 s.heap l1 us)(t2 : ZT.JL b2 s.heap i2 l2 0)(p2 : ZT.Sq b2 s.heap l2 vs) (q : ∀ h' tk acc c as,(∀ c o,c < n->s.heap.get? c = some o->h'.get? c = some o)->h'.get? s.heap.objs.size = some { cls:=.type "list",dict:=none,data:=.seq acc c,slots:=#[] }->as.length = us.length->Yc us vs s.heap.objs.size h' as->as.Nodup->acc.toList = as.map Value.ref->Q Do { s with heap:=h',toks:=tk }):wpAny AS A (call iF [.ref z]) Q E s:=by
  refine callType_codes (Q₁:=fun obj s₁ => obj = .ref s.heap.objs.size/\s₁ = { s with heap:=s.heap.push { cls:=.type "list",data:=.seq #[] } }) PySem.F.called_list (PySem.F.typeCall_list_1 _) PySem.F.entry_list_init
    (code_list_new _ ⟨rfl,rfl⟩) fun obj s₁ h₁ => ?_
  obtain ⟨rfl,rfl⟩:=h₁
  have hS : (s.heap.push { cls:=.type "list",data:=.seq #[] }).get? s.heap.objs.size = some { cls:=.type "list",data:=.seq #[] }:=aK _ rfl
  refine ⟨⟨_,hS,rfl⟩,PySem.F.args_list_init_2 _ _,?_⟩
  show wpAny _ _ (do let old <- Builtin.List.listItems Do; Builtin.List.listUpdate Do (fun _ => #[]); letGo old.toList.reverse; Builtin.List.listExtendWith Do Of .none) _ _ _
  refine Wb ?_
  unfold Builtin.List.listItems
  refine Wb (aU hS rfl WF)
  show wpAny _ _ (updateSeq s.heap.objs.size (fun _ => #[]) >>= fun _ => letGo (#[] : Array VL).toList.reverse >>= fun _ => Builtin.List.listExtendWith Do Of .none) _ _ _
  refine Wb (wpAny_updateSeq hS rfl ?_)
  have hS2:=bM xX hS rfl
  have oth : ∀ b o,b < s.heap.objs.size->s.heap.get? b = some o->((s.heap.push { cls:=.type "list",data:=.seq #[] }).update s.heap.objs.size xX).get? b = some o :=
    fun b o hb e => (Heap.get?_update_other _ _ (ao hb)).trans (aE _ e)
  generalize (s.heap.push { cls:=.type "list",data:=.seq #[] }).update s.heap.objs.size xX = h2 at hS2 oth
  have oth' : ∀ b o,s.heap.get? b = some o->h2.get? b = some o:=fun b o e => oth b o u8 e
  refine Wb (wpAny_letGo ?_)
  unfold Builtin.List.listExtendWith
  refine Wb (wpAny_typeOf (T := "zip") ⟨_,oth' _ _ hz,rfl⟩ ?_)
  have k1 : Builtin.List.listSameRef Do Of = false:=by simp [Builtin.List.listSameRef,Nat.ne_of_gt lw.z]
  have k2 : (Value.type "zip" == Value.type "list") = false:=by decide
  have k3 : (Value.type "zip" == Value.type "tuple") = false:=by decide
  simp only [k1,k2,k3,Bool.or_false,Bool.false_eq_true,if_false]
  refine Wb (wpAny_pyIter_zip (oth' _ _ hz) ?_)
  refine Wb (aQ (eY ⟨_,oth' _ _ hz,rfl⟩ ?_))
  refine wpAny_ite_split (fun _ => ?_) (fun hab => absurd As hab)
  refine Wb (bQ ?_)
  refine Wb ?_
  show wpAny _ _ (updateSeq s.heap.objs.size (·.push .none) >>= fun _ => updateSeq s.heap.objs.size (·.pop)) _ _ _
  refine Wb (wpAny_updateSeq hS2 rfl ?_)
  have hS3:=bM zE hS2 rfl
  refine wpAny_updateSeq (hz:=by seq_fits) hS3 rfl ?_
  have hS4:=bM (Obj.mapSeq (·.pop)) hS3 rfl
  have oth2 : ∀ b o,s.heap.get? b = some o->((h2.update s.heap.objs.size zE).update s.heap.objs.size (Obj.mapSeq (·.pop))).get? b = some o:=fun b o e => (Heap.get?_update_other _ _ (ao u8)).trans ((Heap.get?_update_other _ _ (ao u8)).trans (oth' b o e))
  generalize (h2.update s.heap.objs.size zE).update s.heap.objs.size (Obj.mapSeq (·.pop)) = h3 at hS4 oth2
  refine aA ⟨plainId_quiet PySem.F.plain_extend_loop _,?_⟩
  have:=qI (s:=s) (A:=A.in1) (prog:=prog) (w:=w) (h0:=s.heap) (b1 := b1) (b2 := b2) (S:=s.heap.objs.size) (R:=wants (fun r s₂ => r = .none/\Q Do s₂) E) hh lw hn ap n1 n2 m1 m2 e2 hs .none (fun h' tk acc c as r1 r2 r3 r4 r5 r6 => ⟨rfl,q h' tk acc c as r1 r2 r3 r4 r5 r6⟩) _ 0 h3 s.toks _ #[] [] rfl (bJ _)
    (.inl ⟨oth2 _ _ hz,_,_,oth2 _ _ hO⟩) (oth2 _ _ hI) ⟨?_,?_⟩ ⟨?_,?_⟩ (fun c o _ e => oth2 c o e) hS4 rfl rfl (fun j a hj => by simp at hj) List.nodup_nil
  . exact this
  . cases b1 with
    | true => obtain ⟨o,q,r⟩:=(show s.heap.IsTupleIter i1 l1 0 from t1); exact (show h3.IsTupleIter i1 l1 0 from ⟨o,oth2 _ _ q,r⟩)
    | false => obtain ⟨o,q,r⟩:=(show s.heap.IsListIter i1 l1 0 from t1); exact (show h3.IsListIter i1 l1 0 from ⟨o,oth2 _ _ q,r⟩)
  . exact p1.keep fun o e => oth2 _ _ e
  . cases b2 with
    | true => obtain ⟨o,q,r⟩:=(show s.heap.IsTupleIter i2 l2 0 from t2); exact (show h3.IsTupleIter i2 l2 0 from ⟨o,oth2 _ _ q,r⟩)
    | false => obtain ⟨o,q,r⟩:=(show s.heap.IsListIter i2 l2 0 from t2); exact (show h3.IsListIter i2 l2 0 from ⟨o,oth2 _ _ q,r⟩)
  . exact p2.keep fun o e => oth2 _ _ e
end
end TH
namespace L2
open PySem PySem.Spec PyProof.Rows
def su(U:TA):TE:=fun σ H Q=>U σ H fun vs g=>∃(b1 b2:Bool) (a1 a2:AD) (xs ys:ON),vs=[.ref a1,.ref a2]/\B9 b1 g a1 xs/\B9 b2 g a2 ys/\ys.length=xs.length/\xs.length<=1000 /\
 ∀(S:AD) (T:Hp) (as:List AD),AL g T->g S=none->T S=some (.lst zBd)->as.length=xs.length->(∀(j:Nat) a x y,as[j]? = some a->xs[j]? = some x->ys[j]? = some y->g a=none/\T a=some zBH)->Q (.ref S) T
def pX{X:Cx}{a b:Expr}{ta:TA}{p p2 pos g:Pos}(hc:jj)(hgd:Gl X "list")(hmd:X.mg "list" = none)(hg:Gl X "zip")(hm:xn)(ha:PA X [a,b] ta) (he:starEach [.Call wh [a,b] [] g] X.env=(false,eval (.Call wh [a,b] [] g) X.env)::starEach [] X.env:=by rfl)(hpl:(backTo pos vj).any To=false:=by rfl) (hs:starEach [a,b] X.env=[Op,No]:=by rfl)(hs2:starEach [b] X.env=[No]:=by rfl):PE X (.Call (.Name "list" p) [.Call wh [a,b] [] g] [] pos) (su ta):=by
 intro pins s σ H Q I h;refine wpAny_Call_Name_kw (GQ I hgd hmd boot_list ?_ AT AT);refine aj ?_ he hpl;rw[he];show wpAny _ _ (spliced ((false,eval (.Call wh [a,b] [] g) X.env)::backTo pos vj)) _ _ s;refine Calls.spliced_cons ?_;refine Call_ (GQ I hg hm boot_zip (aj (BV (ha g pins s σ H _ I h) fun us s1 ⟨vs,H1,I1,r1,q1⟩=>?_) (by rw[hs,hs2]) (by rw[hs2];rfl)));obtain⟨b1,b2,l1,l2,xs,ys,e,h1,h2,e2,e3,q⟩:=q1;subst e;cases r1 with
 |cons r rr=>
  cases rr with
  |cons r' rr=>
   cases rr;cases r;cases r';obtain⟨us,rv1,p1⟩:=h1.raw I1;obtain⟨vs,rv2,p2⟩:=h2.raw I1;have Z:=p1.lt;have Y:=p2.lt;refine ZT.WR p1 p2 fun h' z1 z2 z3 z4 z5 hkp=>?_;refine Calls.spliced_nil ?_;have s4:s1.heap.objs.size+4<h'.objs.size:=aF z1;have g1:∀m,m<=4->s1.heap.objs.size+m<h'.objs.size:=fun m hm=>aR (Nat.add_le_add_left hm _) s4;have ne:∀(x:AD) m,x<s1.heap.objs.size->x≠s1.heap.objs.size+m:=fun x m hx=>aI (aG hx (Nat.le_add_right _ _));have ap:ZT.Apart (s1.heap.objs.size+4) (s1.heap.objs.size+2) (s1.heap.objs.size+3) s1.heap.objs.size (s1.heap.objs.size+1) [s1.heap.objs.size,l1] [s1.heap.objs.size+1,l2]:=by
    refine⟨⟨by simp,by simp,by simp,by simp⟩,⟨by simp,by simp,by simp⟩,⟨by simp,by simp,by simp⟩,⟨?_,?_,?_⟩,?_,?_,?_⟩
    .simp[Ne.symm (ne l1 4 Z)]
    .simp[Ne.symm (ne l1 3 Z)]
    .simp[Ne.symm (ne l1 1 Z)]
    .simp[Ne.symm (ne l2 4 Y)]
    .simp[Ne.symm (ne l2 3 Y)]
    .simp only[List.mem_cons,List.not_mem_nil,or_false,not_or];exact⟨aI (bW _),Nat.ne_of_gt Y⟩
   have ll:us.length=xs.length:=rv1.length.symm;have ll2:vs.length=ys.length:=rv2.length.symm;have sl:us.length<=sizeLine:=by rw[ll];exact aP e3 Nk
   refine TH.jU (s:={s1 with heap:=h'}) (n:=s1.heap.objs.size) (z:=s1.heap.objs.size+4) (TI:=s1.heap.objs.size+2) (TO:=s1.heap.objs.size+3) (i1:=s1.heap.objs.size) (i2:=s1.heap.objs.size+1) (b1:=b1) (b2:=b2) (us:=us) (vs:=vs) (I1.ok.hd hc)
    ⟨s4,g1 2 AT,g1 3 AT,g1 0 AT,g1 1 AT⟩ ⟨Nat.le_add_right _ _,Nat.le_add_right _ _,Nat.le_add_right _ _,Nat.le_refl _,Nat.le_add_right _ _⟩ ap (aI Z) (ne l2 1 Y) Z Y AC sl
    z1 z2 z3 z4 (p1.keep fun o e=>hkp _ _ e) z5 (p2.keep fun o e=>hkp _ _ e) fun h2 tk acc c as kp hS hal hG nda hacc=>?_
   have le:s1.heap.objs.size<=h'.objs.size:=bC (g1 0 AT);have keep:∀b o,s1.heap.get? b=some o->h2.get? b=some o:=fun b o e=>kp b o u8 (hkp b o e);have at_:∀(j:Nat) T,as[j]? = some T->∃x y u v,xs[j]? = some x/\ys[j]? = some y/\RelV x u/\RelV y v/\h2.get? T=some { cls:=.type "tuple",data:=.seq #[u,v]}/\h'.objs.size<T:=fun j T U=>by
    obtain⟨k1,u,v,k2,k3,k4⟩:=hG j T U;have hj1:j<xs.length:=by rw[<-ll];exact(aD.mp k2).1
    have hj2:j<ys.length:=by rw[<-ll2];exact(aD.mp k3).1
    obtain⟨u',m1,m2⟩:=rv1.get (aL hj1);obtain⟨v',m3,m4⟩:=rv2.get (aL hj2);rw[k2]at m1;cases m1;rw[k3]at m3;cases m3;exact⟨_,_,u,v,List.getElem?_eq_getElem hj1,List.getElem?_eq_getElem hj2,m2,m4,k4,k1⟩
   let prs:Nat->Option HO:=fun j=>match xs[j]?,ys[j]? with|some x,some y=>some zBH|_,_=>none
   let H':Hp:=fun y=>if y=h'.objs.size then some (.lst zBd) else if y∈as then prs (as.idxOf y) else H1 y
   have hHD:H' h'.objs.size=some (.lst zBd):=if_pos rfl;have hHa:∀(j:Nat) T x y,as[j]? = some T->xs[j]? = some x->ys[j]? = some y->H' T=some zBH:=fun j T x y U hx hy=>by
    obtain⟨_,_,_,_,_,_,_,_,_,hlt⟩:=at_ j T U;show(if T=_ then _ else _)=_;rw[if_neg (ao hlt),if_pos (aJ U)];have hi:as.idxOf T=j:=by
     have hm:=aJ U;have hli:=List.idxOf_lt_length_iff.mpr hm;have e2:as[as.idxOf T]? = some T:=by rw[List.getElem?_eq_getElem hli,List.getElem_idxOf hli]
     exact(List.getElem?_inj hli nda).mp (e2.trans U.symm)
    rw[hi];show(match xs[j]?,ys[j]? with|some x,some y=>some (HO.tup [x,y])|_,_=>none)=_;rw[hx,hy]
   have hHo:∀y,y<s1.heap.objs.size->H' y=H1 y:=fun y hy=>by
    show(if y=_ then _ else _)=_;rw[if_neg (aI (aG hy le))];refine if_neg fun hm=>?_;obtain⟨j,U⟩:=bR hm;obtain⟨_,_,_,_,_,_,_,_,_,hlt⟩:=at_ j y U;exact absurd (aG hy le) (Nat.not_lt_of_gt hlt)
   have up:∀b o,H1 b=some o->H' b=some o:=fun b o e=>by
    rw[hHo b (I1.Aw b o e).lt];exact e
   have Aw:Et X.prog X.w H' h2:=fun y u e=>by
    by_cases hyD:y=h'.objs.size
    .subst hyD;rw[hHD]at e;cases e;refine⟨by rw[List.length_map,hal];exact sl,as.map Value.ref,c,T7 as,?_⟩;rw[<-hacc,Array.toArray_toList];exact hS
    .by_cases hm:y∈as
     .obtain⟨j,U⟩:=bR hm;obtain⟨x,y',u',v',k1,k2,k3,k4,k5,_⟩:=at_ j y U;rw[hHa j y x y' U k1 k2]at e;cases e;exact⟨YE,[u',v'],.cons k3 (.cons k4 .nil),_,k5,rfl,_,rfl⟩
     .have e':H1 y=some u:=by
       have:H' y=H1 y:=by
        show(if y=_ then _ else _)=_;rw[if_neg hyD,if_neg hm]
       rw[this]at e;exact e
      exact(I1.Aw y u e').Hd (fun b o _ z=>keep b o z) (fun b z=>up _ _ z) fun b xs z=>up _ _ z
   have I3:Inv X pins σ H' {s1 with heap:=h2,toks:=tk}:=I1.many keep hHo Aw;refine⟨.ref h'.objs.size,H',I3,rfl,q h'.objs.size H' as up (I1.Aw.fresh le) hHD (by rw[hal,ll]) fun j T x y U hx hy=>⟨?_,hHa j T x y U hx hy⟩⟩;obtain⟨_,_,_,_,_,_,_,_,_,hlt⟩:=at_ j T U;exact I1.Aw.fresh (bC (aR le hlt))
end L2
namespace L2
open PySem PySem.Spec PyProof.Rows
section
variable{X:Cx}{a b:Expr}{fs:tY}{p p2 pos pos2:Pos}
def Tq(G H H':Hp):Hp:=fun b=>if H b=none then H' b else G b
def ny{G H H':Hp}(g:AL G H)(e:ug):AL G (Tq G H H')/\Nw G H (Tq G H H')/\AL (Tq G H H') H':=by
 refine⟨fun b o h=>?_,fun b o h=>?_,fun b o h=>?_⟩
 .unfold Tq;rw[if_neg (by rw[g _ _ h];simp)];exact h
 .unfold Tq at h;split at h
  .rename_i z;exact .inr (.inl z)
  .exact .inl h
 .unfold Tq at h;split at h
  .exact h
  .exact e _ _ (g _ _ h)
def cq{G Z:Hp}(e:AL G Z):∀ {xs ys:vT} {us vs:ON} {as:List AD},Av G xs us->Av G ys vs->ys.length=xs.length->as.length=xs.length->(∀(j:Nat) a x y,as[j]? = some a->us[j]? = some x->vs[j]? = some y->Z a=some zBH)->Av Z (KU xs ys) zBd
 |[],ys,us,vs,as,Y,U,T,g,h=>by
  have:as=[]:=bN vw;subst this;unfold KU;rw[List.zip_nil_left,List.map_nil,Av];rfl
 |x::xs,[],us,vs,as,Y,U,T,g,h=>by simp at T
 |x::xs,y::ys,us,vs,[],Y,U,T,g,h=>by simp at g
 |x::xs,y::ys,us,vs,a::as,Y,U,T,g,h=>by
  rw[Av]at Y U;obtain⟨u,us',rfl,k1,k2⟩:=Y;obtain⟨v,vs',rfl,m1,m2⟩:=U;have ih:=cq e k2 m2 uf vw fun j a' x' y' h1 h2 h3=>h (j+1) a' x' y' (by simpa using h1) (by simpa using h2) (by simpa using h3);show Av Z (.tuple [x,y]::KU xs ys) (.ref a::as.map V.ref);rw[Av];refine⟨_,_,rfl,?_,ih⟩;rw[Du];refine⟨a,_,rfl,h 0 a u v rfl rfl rfl,?_⟩;rw[Av];refine⟨_,_,rfl,k1.same e,?_⟩;rw[Av];refine⟨_,_,rfl,m1.same e,?_⟩;rw[Av]
def Yo:MD
 |[x,y]=>(Fj x).bind fun xs=>(Fj y).bind fun ys=>if ys.length=xs.length/\xs.length<=1000 then some (.list (KU xs ys)) else none
 |_=>none
def qO(hc:jj)(hgd:Gl X "list")(Z:X.mg "list" = none)(hg:Gl X "zip")(hm:xn)(ha:DA X [a,b] fs) (he:starEach [.Call wh [a,b] [] pos2] X.env=(false,eval (.Call wh [a,b] [] pos2) X.env)::starEach [] X.env:=by rfl)(Y:(backTo pos vj).any To=false:=by rfl) (hs:starEach [a,b] X.env=[Op,No]:=by rfl)(U:starEach [b] X.env=[No]:=by rfl):DE X (.Call (.Name "list" p) [.Call wh [a,b] [] pos2] [] pos) (fun δ=>(fs δ).bind Yo):=by
 obtain⟨t,pt,k⟩:=ha;refine⟨_,pX hc hgd Z hg hm pt he Y hs U,fun δ z hz G0 H0 G H σ ts Q R0 q=>?_⟩;obtain⟨x,h1,T⟩:=aB.mp hz;refine k δ _ h1 G0 H0 G H σ ts _ R0 fun vs G' H' R' hv=>?_;obtain⟨d,R2⟩:=R'.args hv;unfold Yo at T;split at T
 .obtain⟨xs1,h3,h4⟩:=aB.mp T;obtain⟨ys1,h5,h6⟩:=aB.mp h4;split at h6
  .rename_i hl;cases h6;obtain⟨u,v,rfl,du,dv⟩:=d.Nm;obtain⟨b1,a1,us,rfl,n1,g⟩:=Iy du h3;obtain⟨b2,a2,ws,rfl,m1,m2⟩:=Iy dv h5;have s1:=R2.ins _ _ n1;have s2:=R2.ins _ _ m1;refine⟨b1,b2,a1,a2,us,ws,rfl,by cases b1<;>simpa[B9]using s1,by cases b2<;>simpa[B9]using s2,by rw[g.len,m2.len];exact hl.1,by rw[g.len];exact hl.2,fun S H2 as e hS hS2 hal hp=>?_⟩;obtain⟨g1,g2,g3⟩:=ny R2.ins e;refine q _ _ _ ((R2.lift g1 g2 g3 e).put ?_);rw[Du];refine⟨S,_,rfl,?_,cq g1 g m2 hl.1 (by rw[hal,g.len]) fun j a' x' y' q1 q2 q3=>?_⟩
   .unfold Tq;rw[if_pos hS];exact hS2
   .obtain⟨z1,z2⟩:=hp j a' x' y' q1 q2 q3;unfold Tq;rw[if_pos z1];exact z2
  .cases h6
 .cases T
end
end L2
namespace L2
open PySem PySem.Spec PyProof.Rows
section
variable{X:Cx}
def pV:R2:=fun x y H Q=>∃(p:AD) (ys:ON) (row t:Tr),y=.ref p/\H p=some Jw/\Ts H row ys/\row.deep<=60/\Tv H t x/\Q (.bl (decide (t∈row.bs))) H
open Classical in
def j5(hu:Ty):DJ X (compareOp .In) pV:=by
 intro pins s σ H x y v u Q I rx ry h;obtain⟨p,ys,row,t,rfl,hp,ht,hd,tv,q⟩:=h;obtain rfl:u=Value.ref p:=ry;obtain⟨T,r,pl,hz⟩:=I.list (Ar.of (K:=X.K) hp);obtain⟨b,js,rfl,hb,vb⟩:=cC I tv rx;have hl:=r.length;have htl:=ht.len;have at_:∀(i:Nat) (y:VL),T[i]? = some y->∃c a g,row.bs[i]? = some c/\y=.ref a/\s.heap.IsTuple a g.toArray/\TH.Vs s.heap c g:=fun i y Z=>by
  have hi:i<T.length:=(aD.mp Z).1;have U:ys[i]? = some (ys[i]' AC):=aL _;obtain⟨w,Y,h2⟩:=r.get U;rw[Z]at Y;cases Y;obtain⟨c,hc,tc⟩:=ht.get U;obtain⟨a,g,e,h3,h4⟩:=cC I tc h2;exact⟨c,a,g,hc,e,h3,h4⟩
 have key:∀(i:Nat) (y:VL) (c:Tr),T[i]? = some y->row.bs[i]? = some c->decide OF=decide (c=t):=fun i y c Z hc=>by
  obtain⟨c',a,g,Y,rfl,h3,h4⟩:=at_ i y Z;rw[hc]at Y;cases Y;refine decide_eq_decide.mpr ⟨fun⟨a',zs',e,k1,k2⟩=>?_,fun e=>⟨a,g,rfl,h3,e ▸ h4⟩⟩;cases e;have:g=zs':=by simpa using TH.Iz h3 k1
  subst this;exact TH.Vs.inj h4 k2
 refine SeqAt.in_listAt zDv pl.isList (fun y Z=>?_) ⟨.bl _,H,I,rfl,?_⟩
 .obtain⟨i,hi,rfl⟩:=Array.getElem_of_mem Z;have hi':i<T.length:=by simpa using hi
  have U:T[i]? = some (T.toArray[i]):=by simp[hi']
  obtain⟨c,a,g,Y,h2,h3,h4⟩:=at_ i _ U;have hcd:=Tr.Qn (aJ Y);show SeqAt.EqAt _ _ _ _ (decide _);rw[key i _ c U Y,h2];exact TH.Sg h3 h4 hb vb (by first|lia|(rw[Around.in1_units];lia))
 .have e:T.toArray.any zDv=decide (t∈row.bs):=by
   rw[show T.toArray.any zDv=T.any zDv by simp];rw[Bool.eq_iff_iff,List.any_eq_true,decide_eq_true_eq];constructor
   .rintro⟨y,Z,h⟩;obtain⟨i,hi⟩:=bZ.mp Z;obtain⟨c,_,_,Y,_⟩:=at_ i y hi;rw[key i y c hi Y]at h;rw[<-of_decide_eq_true h];exact aJ Y
   .intro hm;obtain⟨i,hi⟩:=bZ.mp hm;have hil:i<T.length:=by have:=(aD.mp hi).1;lia
    refine⟨T[i],List.getElem_mem hil,?_⟩;rw[key i _ t (aL hil) hi];simp
  rw[e];exact q
def YZ:PD->PD->Option PD:=fun x y=>(Hf x).bind fun t=>match y with
 |.list g=>(Ek g).bind fun row=>if row.deep<=60 then some (.bool (decide (t∈row.bs))) else none
 |_=>none
def lM(U:Ty):Ea X (compareOp .In) YZ:=by
 refine⟨_,j5 U,fun x y z g G0 H0 G H σ δ ts u v Q R du T k=>?_⟩;obtain⟨t,h1,g⟩:=aB.mp g;split at g
 .rename_i ds;obtain⟨row,h2,g⟩:=aB.mp g;split at g
  .rename_i hd;cases g;rw[Du]at T;obtain⟨p,ys,rfl,h3,Z⟩:=T;have Y:=M8 h2;subst Y;exact⟨p,ys,row,t,rfl,R.ins _ _ h3,(K0 Z).same R.ins,hd,(oX h1 du).same R.ins,k _ _ _ (R.put Pb)⟩
  .cases g
 .cases g
end
end L2
namespace L2
open PySem PySem.Spec PyProof.Rows
section
variable{X:Cx}{b c:Expr}         
def fB(neg:Bool):PD->PD->Option PD
 |.bool b,.bool c=>some (.bool (if neg then !(b==c) else b==c))
 |_,_=>none
def cQ:Ea X zBY (fB true):=by
 refine⟨_,iR,fun x y z g G0 H0 G H σ δ ts u v Q U du T k=>?_⟩;unfold fB at g;split at g
 .cases g;rw[Du]at du T;exact⟨_,_,du,T,k _ _ _ (U.put (by rw[Du];rfl))⟩
 .cases g
end
end L2
namespace Q55
open PySem L2
abbrev GR:Stmt:=top 15
abbrev LK:Stmt:=top 16
abbrev FD:Stmt:=top 17
abbrev Gi:Stmt:=top 18
abbrev GB:Stmt:=top 19
abbrev CO:Stmt:=top 20
abbrev FW:Stmt:=top 21
abbrev K7:Stmt:=top 22
abbrev Nc:Stmt:=top 23
abbrev NS:Stmt:=top 26
abbrev EK:Stmt:=top 27
abbrev NM:Stmt:=top 28
abbrev Io:Stmt:=top 31
abbrev Kl:Stmt:=top 32
abbrev Gz:Stmt:=top 33
abbrev EV:Stmt:=top 34
abbrev Ei:Stmt:=top 35
abbrev IQ:Stmt:=top 36
abbrev G5:Stmt:=top 37
abbrev MQ:Stmt:=top 39
abbrev Ji:Stmt:=top 40
abbrev Jd:Stmt:=top 42
abbrev Gp:Stmt:=top 43
abbrev NL:Stmt:=top 44
abbrev Oj:Stmt:=top 45
abbrev KL:Stmt:=top 48
abbrev Jg:Stmt:=top 49
abbrev GI:Stmt:=top 52
abbrev GL:Stmt:=top 53
abbrev El:Stmt:=top 54
abbrev NB:Stmt:=top 55
abbrev IL:Stmt:=top 56
abbrev K5:Stmt:=top 57
abbrev Lp:Stmt:=top 58
abbrev Gq:Stmt:=top 59
abbrev HV:Stmt:=top 61
abbrev FZ:Stmt:=top 62
abbrev Fe:Stmt:=top 64
abbrev MN:Stmt:=top 65
abbrev KA:Stmt:=top 66
abbrev ML:Stmt:=top 67
abbrev MK:Stmt:=top 70
abbrev LI:Stmt:=top 71
abbrev KD:Stmt:=top 72
abbrev JP:Stmt:=top 73
abbrev HQ:Stmt:=top 74
abbrev RG:Stmt:=top 75
def Xl{n:wN}:D6 (.ty n)≠.none:=fun z=>nomatch z
def mulC{i j:Int}(T:-18446744073709551616<j)(g:j<18446744073709551616):QQ i j\/Nd i j:=.inl (.inr ⟨T,g⟩)
def mulL{i j:Int}(T:-18446744073709551616<i)(g:i<18446744073709551616):QQ i j\/Nd i j:=.inl (.inl ⟨T,g⟩)
def Om:Sp:=fun vs H Q _=>∃a b,vs=[.int a,.int b]/\Q (.int (FM.gi a b)) H
def Qw:Sp:=fun vs H Q _=>∃t b m,vs=[.int t,.int b]/\b≠0/\m<=9000/\b.natAbs<2^m/\∀l H',AL H H'->H' l=some (.tup (KO (Rat.divInt t b)))->Q ui H'
def lh(K:Fg)(op:Rat->Rat->Rat)(ok:Rat->Prop):Sp:=fun vs H Q _=>∃v w p q n,vs=[v,w]/\Rt K H p v/\Rt K H q w/\FM.Fits p n/\FM.Fits q n/\n<=4000/\ok q /\
 ∀l H',AL H H'->H' l=some (.tup (KO (op p q)))->Q ui H'
section
variable{P:Go}{w:KB}{K:Fg}{mg:t7}{base:Heap}{f g:AD}{fd gd:Fr}
def N4:Ah ["one","other","greater","lesser","rest"] Js (AM CO):=B8
def tR(σ:St):Nat:=match σ[3]? with|some (some (V.int l))=>l.natAbs|_=>0
def N5(F:Fn K mg "greatest_divisor" CO Js f fd)(Y:mg "abs" = none):AI P w K mg base Ai 1 f fd Js Om:=by
 have sc:=N4;refine F.F.ok (k:=0) sc Hb Fa
 .obtain⟨a,b,rfl,_⟩:=h
  rfl
 obtain⟨a,b,rfl,q⟩:=h;refine⟨_,(Aa (BC (i:=2) sc.nd rfl At (BW QJ rfl Y PyProof.Rows.boot_abs (AH zDz AV)))
 (Aa (BC (i:=3) sc.nd rfl At (BW QJ rfl Y PyProof.Rows.boot_abs v6))
 (Aa (NG aO (Cw RB (pv 3) AY XV)
  (Aa (BC (i:=4) sc.nd rfl At (A2 Mi zDJ (pv 3)))
  (Aa (BC (i:=2) sc.nd rfl At (pv 3))
  (Aj (BC (i:=3) sc.nd rfl At (pv 4))))))
 (Aj (BU zDJ))))),?_⟩
 refine⟨_,rfl,_,rfl,_,rfl,_,rfl,?_⟩;refine QK (fun σ H'=>∃g l r,σ=[some (.int a),some (.int b),some yc,some (.int l),r]/\H=H'/\Int.gcd g l=Int.gcd a b/\0<=g/\0<=l) (fun σ _=>tR σ) ?_ ?_ ?_
 .exact⟨_,_,_,rfl,rfl,FM.i9 a b,FM.abs_nonneg a,FM.abs_nonneg b⟩
 .rintro σ H' ⟨g,l,r,rfl,rfl,hg,h0,U⟩;refine⟨_,rfl,rfl,_,rfl,Eb SB SB⟩
  .have T:l≠0:=fun z=>by subst z;simp at c
   refine⟨_,rfl,_,rfl,_,_,rfl,rfl,T,_,rfl,_,rfl,⟨_,_,_,rfl,rfl,?_,U,FM.fmod_nonneg T U⟩,?_⟩
   .rw[FM.Wc];exact hg
   .exact FM.UY g l T
  .have T:l=0:=by simpa using c
   subst T;refine⟨_,rfl,?_⟩;rw[FM.lq hg h0];exact q
 .exact fun σ H Q Q' Z ⟨v,e,s,k,e2,q⟩=>⟨v,e,s,k,e2,Z _ _ q⟩
def S7:Ah ["top","bottom","shared"] um (AM GR):=B8
def TJ(F:Fn K mg "fraction_of" GR um f fd)(Ax:zDU) (BS:zDg):AI P w K mg base Ai 2 f fd um Qw:=by
 have sc:=S7;refine F.F.ok (k:=1) sc Hb Fa
 .obtain⟨t,b,m,rfl,_⟩:=h
  rfl
 obtain⟨t,b,m,rfl,hb,hm,Z,q⟩:=h;refine⟨_,(Aa (FN (Cw Ur zCb AY XV)
  (Aj VA)
  Cv)
 (Aa (BC (i:=2) sc.nd rfl At (Bt Ax BS hr rfl (AH zDz v6)))
 (Aa (FN (Cw SE zCb AY XV)
  (Aj (BC (i:=2) sc.nd rfl At (Yy WM zDJ)))
  Cv)
 (Aj yn)))),?_⟩
 refine⟨_,rfl,rfl,_,rfl,Eb (fun c=>absurd c (by simpa using hb)) (fun _=>?_)⟩;refine⟨_,rfl,_,rfl,t,b,rfl,?_⟩
 try dsimp only[Ds]
 refine Ld x6 (fun nx hn=>?_) ?_
 .refine⟨_,rfl,_,_,rfl,rfl,_,rfl,Eb SB SB⟩
  .have U:b<0:=ay c;refine⟨_,rfl,_,rfl,hn _ _ ⟨?_,rfl⟩⟩;unfold FM.gs;rw[if_pos U]
   rfl
  .have U:¬b<0:=bY (ar.mpr c);refine hn _ _ ⟨?_,rfl⟩;unfold FM.gs;rw[if_neg U]
   rfl
 .rintro T H' ⟨rfl,rfl⟩;have h0:FM.gs t b≠0:=FM.gj hb;have Y:(FM.gs t b).natAbs<2^m:=aR (FM.gQ hb) Z;refine⟨_,rfl,_,rfl,_,_,rfl,rfl,⟨h0,m,hm,Y⟩,_,rfl,_,rfl,_,_,rfl,rfl,⟨h0,m,hm,Y⟩,YE,fun p hp=>?_⟩;refine q p _ (Al hp _) ?_;rw[AU];show some zF=_;rw[FM.Vb hb,FM.Wh hb]
  rfl
def Ud:Ah Js Js (AM LK):=B8
def Ul(F:Fn K mg "frac_times" LK Js f fd)(CV:Fn K mg "fraction_of" GR um g gd) (GK:AI P w K mg base Ai 2 g gd um Qw):AI P w K mg base Ai 3 f fd Js (lh K (fun p q=>p*q) (fun _=>True)):=by
 have sc:=Ud;refine F.F.ok (k:=2) sc Hb Fa
 .obtain⟨v,w,p,q,n,rfl,_⟩:=h
  rfl
 obtain⟨v,w,p,q,n,rfl,⟨a,rfl,sp⟩,⟨b,rfl,Y⟩,U,T,hn,Aw,k⟩:=h;refine⟨_,(Aj (BU (Bt CV GK hr rfl (AH (A2 Cy zCN (CK DL zCb AY Db)) (AH (A2 Cy zCN (CK DL zCb AY Db)) AV))))),?_⟩;refine⟨_,rfl,_,_,_,_,rfl,rfl,sp,rfl,_,rfl,_,_,_,_,rfl,rfl,Y,rfl,_,_,rfl,rfl,OP U.1 T.1 AC,_,rfl,_,_,_,_,rfl,rfl,sp,rfl,_,rfl,_,_,_,_,rfl,rfl,Y,rfl,_,_,rfl,rfl,OP U.d T.d AC,_,_,n+n,rfl,FM.YF p q,by lia,FM.dd U T,fun l H' e1 Z=>?_⟩;exact k l H' e1 (by rw[FM.Vj p q]at Z;exact Z)
end
def gL:Sp:=fun vs H Q _=>∃(a:AD) (bs:wq) (k:Nat),vs=[.ref a]/\H a=some (.lst (bs.map V.int))/\(∀b∈bs,1<=b/\b.natAbs<2^k)/\k*bs.length<=4000 /\
 ∀c:Int,1<=c->c.natAbs<2^(k*bs.length+1)->(∀b∈bs,b ∣ c)->Q zAa H
def Qv{c b:Int}(Y:1<=c)(hb:1<=b):1<=c.fdiv yz*b/\c ∣ c.fdiv yz*b/\b ∣ c.fdiv yz*b/\(c.fdiv yz).natAbs<=c.natAbs:=by
 have hg:0<FM.gi c b:=FM.MY AC;obtain⟨q,U⟩:=FM.Pl c b;obtain⟨r,g⟩:=FM.N7 c b;have e:=FM.HH (Int.ne_of_gt hg) U;refine⟨?_,?_,Int.dvd_mul_left _ _,FM.FE _ _⟩
 .rw[e];have T:0<q:=by
   rcases Int.lt_or_le 0 q with h|h
   .exact h
   .have:=Int.mul_nonpos_of_nonneg_of_nonpos (Int.le_of_lt hg) h
    lia
  exact Int.mul_pos T AC
 .rw[e];refine⟨r,?_⟩;rw[g]
  conv=>rhs;rw[U]
  rw[<-g,Int.mul_comm yz q,Int.mul_assoc,Int.mul_comm yz r]
  conv=>lhs;rw[g]
  rw[Int.mul_comm yz r]
def gP:Sp:=fun vs H Q _=>∃(a:AD) (xs:ON) (ps:List (Int×Int)) (k:Nat),vs=[.ref a]/\H a=some NE/\xs.length=ps.length/\ps.length<=1000/\(∀(j:Nat) x p,xs[j]? = some x->ps[j]? = some p->∃c,x=.ref c/\H c=some zBh) /\
 (∀p∈ps,1<=p.2/\p.1.natAbs<2^k/\p.2.natAbs<2^k)/\k*ps.length<=4000/\∀l H',AL H H'->H' l=some (.tup (KO (ps.map fun p=>Rat.divInt p.1 p.2).sum))->Q ui H'
def div_add(x y:Int){c:Int}(g:c≠0):Rat.divInt (x+y) c=Rat.divInt x c+Rat.divInt y c:=by
 rw[Rat.divInt_add_divInt _ _ g g,<-Int.add_mul,Rat.divInt_mul_right g]
def div_one{t b c:Int}(hb:b≠0)(g:c≠0)(h:b ∣ c):Rat.divInt (t*c.fdiv b) c=Rat.divInt t b:=by
 obtain⟨q,rfl⟩:=h;rw[FM.HH hb rfl,Rat.divInt_mul_right (fun z=>g (by rw[z,Int.mul_zero]))]
def Xb{c:Int}(g:c≠0):∀ {ps:List (Int×Int)},(∀p∈ps,p.2≠0/\p.2 ∣ c)->Rat.divInt (ps.map fun p=>p.1*c.fdiv p.2).sum c=(ps.map fun p=>Rat.divInt p.1 p.2).sum
 |[],_=>by simp
 |p::ps,h=>by
  obtain⟨Y,U⟩:=h p ae;rw[List.map_cons,List.sum_cons,List.map_cons,List.sum_cons,div_add _ _ g,div_one Y g U,Xb g fun q T=>h q (aS _ T)]
def hJ:Sp:=fun vs H Q _=>∃(b:Int) (p k:Nat),vs=[.int b,.int p]/\b.natAbs<2^k/\k*p<=4000/\Q (.int (b^p)) H
def SF{b:Int}{k e p:Nat}(hb:b.natAbs<2^k)(T:e<=p):(b^e).natAbs<2^(k*p+1):=by
 rw[Int.natAbs_pow];have g:b.natAbs^e<=(2^k)^e:=Nat.pow_le_pow_left (bC hb) e;rw[<-Nat.pow_mul]at g;exact aR g (Nat.pow_lt_pow_right AT (Nat.lt_succ_of_le (av k T)))
def tT(σ:St):Nat:=match σ[4]? with|some (some (V.int l))=>l.natAbs|_=>0
section
variable{P:Go}{w:KB}{K:Fg}{mg:t7}{base:Heap}{f g g1 g2:AD}{fd gd gd1 gd2:Fr}
def LO:Ah ["bottoms","common","bottom"] xF (AM FW):=B8
def QI(F:Fn K mg "common_bottom" FW xF f fd)(Ax:zDU) (BS:zDg):AI P w K mg base Ai 2 f fd xF gL:=by
 have sc:=LO;refine F.F.ok (k:=1) sc Hb Fa
 .obtain⟨a,bs,k,rfl,_⟩:=h
  rfl
 obtain⟨a,bs,k,rfl,ha,hb,hk,q⟩:=h;refine⟨_,(Aa (BC (i:=1) sc.nd rfl At AY)
 (Aa (Hr aO rfl zAb zCR
  (Aj zDy))
 (Aj (BU zCb)))),?_⟩
 refine⟨_,rfl,a,rfl,⟨_,Ar.of ha⟩,LY (xs:=bs.map V.int) (fun i σ H'=>∃(c:Int) (r:Option V),σ=[some Jz,some zAa,r]/\H=H'/\1<=c/\c.natAbs<2^(k*i+1)/\∀j b,j<i->bs[j]? = some b->b ∣ c) ?_ ?_ ?_ ?_⟩
 .exact⟨1,_,rfl,rfl,by decide,by simp,fun j b h=>absurd h yi⟩
 .rintro i σ H' _ ⟨c,r,rfl,rfl,_⟩;exact Ar.of ha
 .rintro i x σ H' Z ⟨c,r,rfl,rfl,c1,Y,U⟩;have hi:i<bs.length:=by have:=(aD.mp Z).1;simpa using this
  rw[List.getElem?_map,List.getElem?_eq_getElem hi]at Z;cases Z;obtain⟨b1,b2⟩:=hb _ (bX hi);obtain⟨s1,s2,s3,s4⟩:=Qv c1 b1;have hg:FM.gi c bs[i]≠0:=Int.ne_of_gt (FM.MY AC);have hki:k*i+k<=4000:=by
   have:k*On<=k*bs.length:=av k hi;rw[Nat.mul_succ]at this
   lia
  have n1:(c.fdiv (FM.gi c bs[i])).natAbs<2^(k*i+1):=aR s4 Y;refine⟨_,rfl,_,rfl,_,rfl,c,bs[i],rfl,_,_,rfl,rfl,⟨hg,k,by have:k*1<=k*bs.length:=av k AC;lia,Nat.lt_of_le_of_lt (FM.ZG AC) b2⟩,_,rfl,_,_,rfl,rfl,OP n1 b2 AC,_,_,rfl,rfl,s1,?_,fun j b hj T=>?_⟩
  .have:=FM.SH n1 b2;rw[Nat.mul_succ,show k*i+k+1=k*i+1+k by lia];exact this
  .by_cases z:j=i
   .subst z;rw[List.getElem?_eq_getElem hi]at T;cases T;exact s3
   .exact Int.dvd_trans (U j b AC T) s2
 .rintro σ H' ⟨c,r,rfl,rfl,c1,Y,U⟩;rw[List.length_map]at Y U;refine⟨_,rfl,q c c1 Y fun b hb=>?_⟩;obtain⟨j,hj⟩:=bR hb;exact U j b (aD.mp hj).1 hj
def Ui:Ah vf ["some"] (AM K7):=B8
def Ue(F:Fn K mg "frac_total" K7 ["some"] f fd)(Cc:Fn K mg "common_bottom" FW xF g1 gd1)(CV:Fn K mg "fraction_of" GR um g2 gd2) (JH:AI P w K mg base Ai 2 g1 gd1 xF gL)(GK:AI P w K mg base Ai 2 g2 gd2 um Qw)(FL:zBM):AI P w K mg base Ai 3 f fd ["some"] gP:=by
 have sc:=Ui;refine F.F.ok (k:=2) sc Hb Fa
 .obtain⟨a,xs,ps,k,rfl,_⟩:=h
  rfl
 obtain⟨a,xs,ps,k,rfl,ha,hl,h1000,hx,hp,hk,q⟩:=h;have hk1:ps≠[]->k<=4000:=fun hne=>by
  have:k*1<=k*ps.length:=av k (List.length_pos_iff.mpr hne)
  lia
 have at_:∀(i:Nat) (hi:i<xs.length),∃(p:Int×Int) (c:AD),ps[i]? = some p/\xs[i]=.ref c/\H c=some zBh:=fun i hi=>by
  have hpi:ps[i]? = some (ps[i]' AC):=aL _;obtain⟨c,h1,h2⟩:=hx i xs[i] _ (aL hi) hpi;exact⟨_,c,hpi,h1,h2⟩
 refine⟨_,(Aa (BC (i:=1) sc.nd rfl x9 (Bt Cc JH hr rfl (AH (Ff [".0","part"] 1 [none,none] zAb cx zEB) AV)))
 (Aj (BU (Bt CV GK hr rfl (AH (BW (NH rfl) rfl FL bo (AH zDx AV)) v6))))),?_⟩
 refine⟨_,rfl,a,rfl,⟨_,Ar.of ha⟩,fun D hD=>Fq (n:=xs.length) (fun i ys H'=>AL H H'/\ys=((ps.take i).map wG).map V.int) ?_ ?_ ?_⟩
 .exact⟨Al hD _,rfl⟩
 .rintro i ys H0 hi ⟨Y,rfl⟩ hD0;obtain⟨p,c,h1,h2,h3⟩:=at_ i hi;refine⟨⟨xs,xs[i],Ar.of (Y _ _ ha),by simp[hi]⟩,?_,fun x H' y=>?_⟩
  .rw[List.length_map,List.length_map,List.length_take];exact aR (Nat.min_le_left _ _) (aG (show i<1000 by lia) Nk)
  .obtain⟨rfl,y⟩:=y;have T:=y xs (Ar.of (Y _ _ ha));rw[List.getElem?_eq_getElem hi,h2]at T;cases T;unfold HK;refine E8 ⟨_,rfl,_,_,_,_,rfl,rfl,BJ.of (Y _ _ h3),rfl,hD0,EG hi ⟨fun b o z=>?_,?_⟩⟩
   .rw[AK zAD];exact Y _ _ z
   .rw[List.take_succ,h1];simp
 rintro ys H0 ⟨Y,rfl⟩ hD0;refine⟨⟨xs,Ar.of (Y _ _ ha),Nat.le_refl _⟩,?_⟩;rw[hl,List.take_length]at hD0;refine⟨D,ps.map wG,k,rfl,hD0,fun b hb=>?_,by rw[List.length_map];exact hk,fun c c1 c2 c3=>?_⟩
 .obtain⟨p,U,rfl⟩:=aT.mp hb;exact⟨(hp p U).1,(hp p U).2.2⟩
 rw[List.length_map]at c2;refine⟨_,rfl,a,rfl,⟨_,Ar.of (Y _ _ ha)⟩,fun D2 hD2=>Fq (n:=xs.length) (fun i ys H'=>AL H0 H'/\ys=((ps.take i).map fun p=>p.1*c.fdiv p.2).map V.int) ?_ ?_ ?_⟩
 .exact⟨Al hD2 _,rfl⟩
 .rintro i ys H1 hi ⟨e1,rfl⟩ Z;have E1:=Y.trans e1;obtain⟨p,d,h1,h2,h3⟩:=at_ i hi;have hpm:=aJ h1;have hkk:=hk1 (List.ne_nil_of_mem hpm);obtain⟨p1,p2,p3⟩:=hp p hpm;refine⟨⟨xs,xs[i],Ar.of (E1 _ _ ha),by simp[hi]⟩,?_,fun x H' y=>?_⟩
  .rw[List.length_map,List.length_map,List.length_take];exact aR (Nat.min_le_left _ _) (aG (show i<1000 by lia) Nk)
  .obtain⟨rfl,y⟩:=y;have T:=y xs (Ar.of (E1 _ _ ha));rw[List.getElem?_eq_getElem hi,h2]at T;cases T;unfold HK;refine E8 ⟨_,rfl,_,_,_,_,rfl,rfl,BJ.of (E1 _ _ h3),rfl,_,rfl,_,rfl,_,_,_,_,rfl,rfl,BJ.of (E1 _ _ h3),rfl,_,_,rfl,rfl,⟨by lia,k,by lia,p3⟩,_,_,rfl,rfl,OP p2 (aR (FM.FE c p.2) c2) AC,Z,EG hi ⟨fun b o z=>?_,?_⟩⟩
   .rw[AK (AW z hD2)];exact e1 _ _ z
   .rw[List.take_succ,h1];simp
 rintro ys H1 ⟨e1,rfl⟩ Z;refine⟨⟨xs,Ar.of ((Y.trans e1) _ _ ha),Nat.le_refl _⟩,?_⟩;rw[hl,List.take_length]at Z;refine⟨D2,_,rfl,Ar.of Z,_,rfl,_,c,k*ps.length+1,rfl,by lia,by lia,c2,fun l H' e2 hl'=>?_⟩;refine q l H' (Y.trans (e1.trans e2)) ?_;rw[Xb AC fun p U=>⟨by have:=(hp p U).1;lia,c3 _ (List.mem_map_of_mem U)⟩]at hl';exact hl'
def W3:Ah ["base","power","product","square","left"] yR (AM Nc):=B8
def W0(F:Fn K mg "power_of" Nc yR f fd):AI P w K mg base Ai 1 f fd yR hJ:=by
 have sc:=W3;refine F.F.ok (k:=0) sc Hb Fa
 .obtain⟨b,p,k,rfl,_⟩:=h
  rfl
 obtain⟨b,p,k,rfl,hb,hk,q⟩:=h;refine⟨_,(Aa (BC (i:=2) sc.nd rfl At AY)
 (Aa (BC (i:=3) sc.nd rfl At zDz)
 (Aa (BC (i:=4) sc.nd rfl At zCb)
 (Aa (NG aO (Cw Uu (pv 4) AY XV)
  (Aa (FN (Cw Ur (A2 Og (pv 4) AY) AY XV)
   (Aj (BC (i:=2) sc.nd rfl At (A2 Cy zDJ (pv 3))))
   Cv)
  (Aa (BC (i:=4) sc.nd rfl At (A2 jB (pv 4) AY))
  (Aj (FN (Cw Uu (pv 4) AY XV)
   (Aj (BC (i:=3) sc.nd rfl At (A2 Cy (pv 3) (pv 3))))
   Cv)))))
 (Aj (BU zDJ)))))),?_⟩
 refine⟨_,rfl,_,rfl,?_⟩;refine QK (fun σ H'=>∃e f l:Nat,σ=[some (.int b),some (.int p),some (.int (b^e)),some (.int (b^f)),some (.int l)]/\H=H'/\e+f*l=p) (fun σ _=>tT σ) ?_ ?_ ?_
 .refine⟨0,1,p,?_,rfl,by lia⟩;rw[Int.pow_zero,Int.pow_succ,Int.pow_zero,Int.one_mul]
  rfl
 .rintro σ H' ⟨e,f,l,rfl,rfl,he⟩;refine⟨_,rfl,_,_,rfl,rfl,_,rfl,Eb SB SB⟩
  .have hl:0<l:=by have:=ay c;lia
   have T:f<=p:=by
    have:f*1<=f*l:=av f hl
    lia
   try dsimp only[Ds]
   refine Ld (fun Z H'=>∃Y:Nat,Z=[some (.int b),some (.int p),some (.int (b^Y)),some (.int (b^f)),some (.int l)]/\H=H'/\Y+f*(2*(l / 2))=p) (fun nx hnx=>?_) ?_
   .refine⟨_,rfl,_,_,rfl,rfl,(by show(0:Int)<2;decide),rfl,_,rfl,Eb SB SB⟩
    .have hodd:l % 2=1:=by
      have:((l:Int) % 2)=1:=by simpa using c
      lia
     refine⟨_,rfl,_,rfl,_,_,rfl,rfl,OP (SF hb (show e<=p by lia)) (SF hb T) AC,hnx _ _ ⟨e+f,?_,rfl,?_⟩⟩
     .show [some (V.int b),some (V.int p),some (V.int (b^e*b^f)),some (V.int (b^f)),some (V.int l)]=_;rw[<-Int.pow_add]
     .have:l=2*(l / 2)+1:=by lia
      rw[<-he]
      conv=>rhs;rw[this,Nat.mul_add,Nat.mul_one]
      lia
    .have hev:l % 2=0:=by
      have:¬((l:Int) % 2)=1:=by simpa using c
      lia
     refine hnx _ _ ⟨e,rfl,rfl,?_⟩;rw[show 2*(l / 2)=l by lia];exact he
   .rintro Z _ ⟨Y,rfl,rfl,U⟩;refine⟨_,rfl,_,_,rfl,rfl,⟨by decide,by decide⟩,?_⟩;have el:((l:Int) / 2)=((l / 2:Nat):Int):=by lia
    refine⟨_,rfl,_,_,rfl,rfl,_,rfl,Eb SB SB⟩
    .refine⟨_,rfl,_,rfl,_,_,rfl,rfl,OP (SF hb T) (SF hb T) AC,⟨Y,f+f,l / 2,?_,rfl,?_⟩,?_⟩
     .show [some (V.int b),some (V.int p),some (V.int (b^Y)),some (V.int (b^f*b^f)),some (V.int ((l:Int) / 2))]=_;rw[el,<-Int.pow_add]
     .rw[<-U,<-Nat.two_mul,Nat.mul_assoc,Nat.mul_left_comm]
     .show((l:Int) / 2).natAbs<((l:Nat):Int).natAbs
      lia
    .refine⟨⟨Y,f,l / 2,?_,rfl,?_⟩,?_⟩
     .show [some (V.int b),some (V.int p),some (V.int (b^Y)),some (V.int (b^f)),some (V.int ((l:Int) / 2))]=_;rw[el]
     .have:l / 2=0:=by have:=bY (ar.mpr c);lia
      rw[this]at U ⊢
      simpa using U
     .show((l:Int) / 2).natAbs<((l:Nat):Int).natAbs
      lia
  .have hl:l=0:=by have:=bY (ar.mpr c);lia
   subst hl;rw[Nat.mul_zero,Nat.add_zero]at he;subst he;exact⟨_,rfl,q⟩
 .exact fun σ H Q Q' hq ⟨v,e,s,k,e2,e3,e4,q1,q2⟩=>⟨v,e,s,k,e2,e3,e4,q1,hq _ _ q2⟩
end
def DU(H:Hp)(d:PD)(v:V):Prop:=∃N:Nat,∀l,N<=l->Dt l H d v
def CT(H:Hp)(ds:tj)(xs:uI):Prop:=∃N:Nat,∀l,N<=l->Az l H ds xs
def DU.same{H H':Hp}{d:PD}{v:V}(h:DU H d v)(e:ug):DU H' d v:=let⟨N,k⟩:=h;⟨N,fun l g=>(k l g).same e⟩
def CT.same{H H':Hp}{d:tj}{v:uI}(h:CT H d v)(e:ug):CT H' d v:=let⟨N,k⟩:=h;⟨N,fun l g=>(k l g).same e⟩
def DU.int{H:Hp}{i:Int}:DU H vR vR:=⟨0,fun _ _=>.int⟩
def DU.bool{H:Hp}{i:Bool}:DU H (.bool i) (.bl i):=⟨0,fun _ _=>.bool⟩
def DU.Bq{H:Hp}:DU H .none .Bq:=⟨0,fun _ _=>.Bq⟩
def DU.str{H:Hp}{x:Str}:DU H (.str x) (.str x):=⟨0,fun _ _=>.str⟩
def CT.nil{H:Hp}:CT H [] []:=⟨0,fun _ _=>.nil⟩
def CT.cons{H:Hp}{d:PD}{ds:tj}{x:V}{xs:uI}(h:DU H d x)(k:CT H ds xs):CT H (d::ds) (x::xs) :=
 let⟨N,a⟩:=h;let⟨M,b⟩:=k;⟨max N M,fun l g=>.cons (a l AC) (b l AC)⟩
def CT.app{H:Hp}{ds es:tj}{xs ys:uI}(h:CT H ds xs)(k:CT H es ys):CT H (ds++es) zM :=
 let⟨N,a⟩:=h;let⟨M,b⟩:=k;⟨max N M,fun l g=>(a l AC).app (b l AC)⟩
def CT.len{H:Hp}{ds:tj}{xs:uI}(h:CT H ds xs):xs.length=ds.length:=let⟨N,a⟩:=h;(a N UF).len
def CT.get{H:Hp}{ds:tj}{xs:uI}{i:Nat}{d:PD}(h:CT H ds xs)(e:ds[i]? = some d):∃v,xs[i]? = some v/\DU H d v:=by
 have g:=h.len;have hi:i<xs.length:=by rw[g];exact(aD.mp e).1
 have T:xs[i]? = some xs[i]:=by simp[hi]
 obtain⟨N,a⟩:=h;refine⟨xs[i],T,N,fun l g=>?_⟩;obtain⟨Z,U,Y⟩:=(a l g).get T;rw[e]at U;cases U;exact Y
def DU.lst{H:Hp}{a:AD}{ds:tj}{xs:uI}(h:H a=some NE)(k:CT H ds xs):DU H zAA Jz :=
 let⟨N,b⟩:=k;⟨max N (a+1),fun l g=>.lst zj h (b l AC)⟩
def DU.tup{H:Hp}{a:AD}{ds:tj}{xs:uI}(h:H a=some M2)(k:CT H ds xs):DU H yx Jz :=
 let⟨N,b⟩:=k;⟨max N (a+1),fun l g=>.tup zj h (b l AC)⟩
def DU.oJ{H:Hp}{ds:tj}{v:V}(h:DU H zAA v):∃a xs,v=.ref a/\H a=some NE/\CT H ds xs:=by
 obtain⟨N,b⟩:=h;have h0:=b N UF;rw[Dt]at h0;obtain⟨a,xs,rfl,_,ha,_⟩:=h0;refine⟨a,xs,rfl,ha,N,fun l Z=>?_⟩;have U:=b l Z;rw[Dt]at U;obtain⟨a',Y,e,_,g,T⟩:=U;cases e;rw[ha]at g;cases g;exact T
def DU.ql{H:Hp}{ds:tj}{v:V}(h:DU H yx v):∃a xs,v=.ref a/\H a=some M2/\CT H ds xs:=by
 obtain⟨N,b⟩:=h;have h0:=b N UF;rw[Dt]at h0;obtain⟨a,xs,rfl,_,ha,_⟩:=h0;refine⟨a,xs,rfl,ha,N,fun l Z=>?_⟩;have U:=b l Z;rw[Dt]at U;obtain⟨a',Y,e,_,g,T⟩:=U;cases e;rw[ha]at g;cases g;exact T
def CT.Nm{H:Hp}{d e:PD}{xs:uI}(h:CT H [d,e] xs):∃x y,xs=[x,y]/\DU H d x/\DU H e y:=by
 obtain⟨x,T,Y⟩:=h.get (i:=0) rfl;obtain⟨y,g,U⟩:=h.get (i:=1) rfl;have:=h.len
 match xs,this with
 |[a,b],_=>
  simp at T g;subst T g;exact⟨a,b,rfl,Y,U⟩
mutual
def qH{c:AD}{H:Hp}:∀ {d:PD} {v:V},Dt c H d v->DU H d v
 |.none,_,h=>by rw[Dt]at h;subst h;exact .Bq
 |.bool _,_,h=>by rw[Dt]at h;subst h;exact .bool
 |.int _,_,h=>by rw[Dt]at h;subst h;exact .int
 |.str _,_,h=>by rw[Dt]at h;subst h;exact .str
 |.tuple _,_,h=>by
  rw[Dt]at h;obtain⟨a,xs,rfl,n,T,g⟩:=h;exact .tup T (K2 g)
 |.list _,_,h=>by
  rw[Dt]at h;obtain⟨a,xs,rfl,n,T,g⟩:=h;exact .lst T (K2 g)
 |.dict _,_,h=>by rw[Dt]at h;exact h.elim
def K2{c:AD}{H:Hp}:∀ {ds:vT} {xs:ON},Az c H ds xs->CT H ds xs
 |[],_,h=>by rw[Az]at h;subst h;exact .nil
 |_::_,_,h=>by
  rw[Az]at h;obtain⟨x,r,rfl,T,g⟩:=h;exact .cons (qH T) (K2 g)
end
def DU.ints{H:Hp}{ps:uB}{v:V}(h:DU H (.tuple (ps.map .int)) v):∃a,v=.ref a/\H a=some (.tup (ps.map V.int)):=by
 obtain⟨a,xs,rfl,ha,U⟩:=h.ql;refine⟨a,rfl,?_⟩;rw[ha]
 congr 2
 obtain⟨N,b⟩:=U;have:=b N UF;clear b ha h
 induction ps generalizing xs with
 |nil=>rw[List.map_nil,Az]at this;exact this
 |cons p ps T=>
  rw[List.map_cons,Az]at this;obtain⟨x,r,rfl,g,Y⟩:=this;rw[Dt]at g;subst g;rw[List.map_cons,T r Y]
def Fm:PD->Bool
 |.tuple [.int a,.int b]=>decide (1<=b)&&(FM.gi a b==1)
 |_=>false
def QS{ds:tj}(h:ds.length≠2\/∃d0 g,ds=[d0,g]/\((J5 d0 && !Ij d0)=false\/(J5 g && !Ij g)=false)):Fm yx=false:=by
 rcases h with h|⟨d0,g,rfl,h⟩
 .match ds,h with
  |[],_=>rfl
  |[a],_=>cases a<;>rfl
  |[_,_],h=>exact absurd rfl h
  |a::b::_::_,_=>cases a<;>first|rfl|(cases b<;>rfl)
 .cases d0<;>first|rfl|(cases g<;>first|rfl|(exfalso;rcases h with h|h<;>exact absurd h (by simp[J5,Ij])))
def cj:Sp:=fun vs H Q _=>∃l d v,vs=[v]/\Dt l H d v/\Q (.bl (J5 d && !Ij d)) H
def cm:Sp:=fun vs H Q _=>∃l d v,vs=[v]/\Dt l H d v/\Q (.bl (Fm d)) H
def UH{d:PD}(h:(J5 d && !Ij d)=true):∃i,d=.int i:=by
 cases d<;>first|exact⟨_,rfl⟩|(exact absurd h (by simp[J5,Ij]))|(rename_i b;cases b<;>exact absurd h AT)
section
variable{P:Go}{w:KB}{K:Fg}{mg:t7}{base:Heap}{f g1 g2:AD}{fd gd1 gd2:Fr}
def W7:Ah IF IF (AM GB):=B8
def W8(F:Fn K mg "is_whole" GB IF f fd)(g:W1)(T:mg "int" = none)(U:mg "bool" = none):AI P w K mg base Ai 1 f fd IF cj:=by
 have sc:=W7;refine F.F.ok (k:=0) sc Hb (fun cdv A outer s H vs Q E Y h=>?_)
 .obtain⟨l,d,v,rfl,_⟩:=h
  rfl
 obtain⟨l,d,v,rfl,hd,q⟩:=h;refine⟨_,(Aj (BU (OG (BW II rfl g ax (AH zDz (AH (Ic (v:=.ty "int") rfl T PyProof.Rows.boot_int rfl) AV))) (R6 (cY (BW II rfl g ax (AH zDz (AH (Ic (v:=.ty "bool") rfl U PyProof.Rows.boot_bool rfl) AV)))))))),?_⟩;refine⟨_,rfl,_,_,_,_,rfl,Xl,hd.ty,Wr K d hd.nodict,_,rfl,Eb (fun c=>⟨_,rfl,_,_,_,_,rfl,Xl,hd.ty,UP K d hd.nodict,_,rfl,?_⟩) SB⟩
 .rw[c,Bool.true_and]at q;exact q
 .rw[Bool.eq_false_iff.mpr c,Bool.false_and]at q;exact q
def TF:Ah IF IF (AM FD):=B8
def Sl(F:Fn K mg "is_fraction" FD IF f fd)(CZ:Fn K mg "is_whole" GB IF g1 gd1)(Ax:Fn K mg "greatest_divisor" CO Js g2 gd2) (Dw:AI P w K mg base Ai 1 g1 gd1 IF cj)(BS:AI P w K mg base Ai 1 g2 gd2 Js Om)(AN:W1)(B5:wU)(A5:am):AI P w K mg base Ai 2 f fd IF cm:=by
 have sc:=TF;refine F.F.ok (k:=1) sc Hb Fa
 .obtain⟨l,d,v,rfl,_⟩:=h
  rfl
 obtain⟨l,d,v,rfl,hd,q⟩:=h;refine⟨_,(Aa (FN (PW.pt (NR xB (Ml (Cw RB pw AY XV))))
  (Aj (BU Jk))
  Cv)
 (Aa (FN (PW.pt (NR (JN (JI (Bt CZ Dw hr rfl zEC))) (Ml (JN (JI (Bt CZ Dw hr rfl zEC))))))
  (Aj (BU Jk))
  Cv)
 (Aj (BU (OG (O2 Y4 zCN AY XV) (R6 (O2 Ur (Bt Ax BS hr rfl (AH zCN zEC)) AY XV))))))),?_⟩
 refine⟨_,rfl,_,_,_,_,rfl,Xl,hd.ty,Lc K d hd.nodict,_,rfl,?_⟩;have no:FR d=false->Fm d=false:=fun z=>by cases d<;>first|rfl|exact absurd z (by simp[FR])
 by_cases ht:FR d=true
 .rw[ht];obtain⟨Y,rfl⟩:∃Y,d=.tuple Y:=by cases d<;>first|exact⟨_,rfl⟩|exact absurd ht (by simp[FR])
  rw[Dt]at hd;obtain⟨a,xs,rfl,na,ha,g⟩:=hd;have hlen:=g.len;have s1:BJ K H a xs:=BJ.of ha;refine U7 ⟨_,rfl,a,xs,rfl,.inr s1,rfl,_,rfl,Eb SB SB⟩
  .have:Y.length≠2:=by
    rw[<-hlen];intro z;rw[z]at c;exact absurd c AT
   rw[QS (.inl this)]at q;exact q
  .have h2:xs.length=2:=by
    by_cases z:xs.length=2
    .exact z
    .exfalso
     refine c ?_;have:¬(V.int (xs.length:Nat)=V.int 2):=by simp;lia
     rw[decide_eq_false this];rfl
   obtain⟨d0,Z,rfl⟩:∃d0 Z,Y=[d0,Z]:=by
    match Y,(show Y.length=2 by lia) with
    |[x,y],_=>exact⟨x,y,rfl⟩
   rw[Az]at g;obtain⟨x0,r,rfl,U,g⟩:=g;rw[Az]at g;obtain⟨x1,r,rfl,T,g⟩:=g;rw[Az]at g;subst g;refine⟨_,rfl,_,_,_,_,rfl,rfl,s1,rfl,l,d0,x0,rfl,U,_,rfl,Eb (fun c0=>?_) (fun c0=>?_)⟩
   .rw[QS (.inr ⟨d0,Z,rfl,.inl (by simp at c0;rcases c0 with c|c<;>simp[c])⟩)]at q;exact q
   refine⟨_,rfl,_,_,_,_,rfl,rfl,s1,rfl,l,Z,x1,rfl,T,_,rfl,Eb (fun c1=>?_) (fun c1=>?_)⟩
   .rw[QS (.inr ⟨d0,Z,rfl,.inr (by simp at c1;rcases c1 with c|c<;>simp[c])⟩)]at q;exact q
   obtain⟨i,rfl⟩:=UH (d:=d0) (by simpa using c0);obtain⟨j,rfl⟩:=UH (d:=Z) (by simpa using c1);rw[Dt]at U T;subst U T;refine⟨_,rfl,_,_,_,_,rfl,rfl,s1,rfl,_,_,rfl,rfl,_,rfl,Eb SB SB⟩
   .refine⟨_,rfl,_,_,_,_,rfl,rfl,s1,rfl,_,rfl,_,_,_,_,rfl,rfl,s1,rfl,i,j,rfl,rfl,?_⟩;have hj:1<=j:=by have:=ay c;lia
    have e:Fm (.tuple [.int i,.int j])=decide (V.int (FM.gi i j)=V.int 1):=by
     rw[Fm,decide_eq_true hj,Bool.true_and,Bool.eq_iff_iff];simp
    rw[e]at q;exact q
   .have hj:¬1<=j:=fun z=>c (decide_eq_true AC);have e:Fm (.tuple [.int i,.int j])=false:=by rw[Fm,decide_eq_false hj,Bool.false_and]
    rw[e]at q;exact q
 .rw[Bool.eq_false_iff.mpr ht];rw[no (ar.mpr ht)]at q;exact E8 (E8 q)
end
def DP:PD->Bool
 |.list g=>g.all Fm
 |_=>false
def Ge:PD->Nat
 |.list g=>g.length
 |_=>0
def rowAt(ds:tj)(i:Nat):Bool:=match ds[i]? with
 |some d=>DP d&&decide (Ge d=i)
 |none=>true
def J6(ds:tj):Bool:=(List.range ds.length).all (rowAt ds)
def Cr:PD->Bool
 |.list g=>decide (1<=g.length)&&(decide (g.length<=40)&&J6 g)
 |_=>false
def Cu:PD->Bool
 |.tuple [r,l]=>Cr r&&(DP l&&decide (Ge l=Ge r))
 |_=>false
def Zs{d:PD}(h:FI d=false):DP d=false:=by cases d<;>first|rfl|exact absurd h (by simp[FI])
def XG{d:PD}(h:FI d=false):Cr d=false:=by cases d<;>first|rfl|exact absurd h (by simp[FI])
def Zn{d:PD}(h:FR d=false):Cu d=false:=by cases d<;>first|rfl|exact absurd h (by simp[FR])
def ZN{ds:tj}(h:ds.length≠2):Cu yx=false:=by
 match ds,h with
 |[],_=>rfl
 |[_],_=>rfl
 |[_,_],h=>exact absurd rfl h
 |_::_::_::_,_=>rfl
def K1{d:PD}(h:FI d=true):∃ds,d=.list ds:=by cases d<;>first|exact⟨_,rfl⟩|exact absurd h (by simp[FI])
def fU{d:PD}(h:FR d=true):∃ds,d=.tuple ds:=by cases d<;>first|exact⟨_,rfl⟩|exact absurd h (by simp[FR])
def SG{d:PD}(h:DP d=true):FI d=true:=by cases d<;>first|rfl|exact absurd h (by simp[DP])
def WN{d:PD}(h:Cr d=true):FI d=true:=by cases d<;>first|rfl|exact absurd h (by simp[Cr])
def UC{ds:tj}(h:∀j,j<ds.length->rowAt ds j=true):J6 ds=true:=by
 unfold J6;rw[List.all_eq_true];intro j g;exact h j (aq.mp g)
def UN{ds:tj}{i:Nat}(hi:i<ds.length)(h:rowAt ds i=false):J6 ds=false:=by
 refine ar.mpr fun z=>?_;unfold J6 at z;rw[List.all_eq_true]at z;rw[z i (aq.mpr hi)]at h;cases h
def NF{ds:tj}{i:Nat}{d:PD}(h:ds[i]? = some d):rowAt ds i=(DP d&&decide (Ge d=i)):=by unfold rowAt;rw[h]
def Tc:Sp:=fun vs H Q _=>∃l d v,vs=[v]/\Dt l H d v/\Q (.bl (DP d)) H
def Zi:Sp:=fun vs H Q _=>∃l d v,vs=[v]/\Dt l H d v/\∀H',AL H H'->Q (.bl (Cr d)) H'
def ib:Sp:=fun vs H Q _=>∃l d v,vs=[v]/\Dt l H d v/\∀H',AL H H'->Q (.bl (Cu d)) H'
section
variable{P:Go}{w:KB}{K:Fg}{mg:t7}{base:Heap}{f g1 g2:AD}{fd gd1 gd2:Fr}
def QG:Ah ["thing","part"] IF (AM Gi):=B8
def Qi(F:Fn K mg "are_fractions" Gi IF f fd)(DY:Fn K mg "is_fraction" FD IF g1 gd1) (GJ:AI P w K mg base Ai 2 g1 gd1 IF cm)(AN:W1)(Ef:zAc):AI P w K mg base Ai 3 f fd IF Tc:=by
 have sc:=QG;refine F.F.ok (k:=2) sc Hb Fa
 .obtain⟨l,d,v,rfl,_⟩:=h
  rfl
 obtain⟨l,d,v,rfl,hd,q⟩:=h;refine⟨_,(Aa (FN vn
  (Aj (BU Jk))
  Cv)
 (Aa (Hr aO rfl zAb (A6 (i:=1) sc.nd rfl At)
  (Aj (FN (JN (JI (Bt DY GJ hr rfl v6)))
   (Aj (BU Jk))
   Cv)))
 (Aj (BU Jk)))),?_⟩
 refine⟨_,rfl,_,_,_,_,rfl,Xl,hd.ty,Qt K d hd.nodict,_,rfl,?_⟩;by_cases g:FI d=false
 .rw[g];rw[Zs g]at q;exact E8 q
 have g:FI d=true:=by simpa using g
 rw[g];refine U7 ?_;obtain⟨ds,rfl⟩:=K1 g;rw[Dt]at hd;obtain⟨a,xs,rfl,na,ha,ht⟩:=hd;have T:=ht.len;refine⟨_,rfl,a,rfl,⟨_,Ar.of ha⟩,LY (xs:=xs) (fun i σ H'=>∃U,σ=[some Jz,U]/\H=H'/\∀j c,j<i->ds[j]? = some c->Fm c=true) ?_ ?_ ?_ ?_⟩
 .exact⟨_,rfl,rfl,fun j c h=>absurd h yi⟩
 .rintro i σ H' _ ⟨U,rfl,rfl,_⟩;exact Ar.of ha
 .rintro i x σ H' hx ⟨U,rfl,rfl,hf⟩;obtain⟨c,Y,tc⟩:=ht.get hx;refine⟨_,rfl,l,c,x,rfl,tc,_,rfl,Eb (fun b=>?_) (fun b=>?_)⟩
  .have hb:Fm c=false:=by simpa using b
   have e:DP zAA=false:=ar.mpr fun z=>by
    rw[DP,List.all_eq_true]at z;rw[z c (aJ Y)]at hb;cases hb
   rw[e]at q;exact q
  .have hb:Fm c=true:=by simpa using b
   refine⟨_,rfl,rfl,fun j e Z he=>?_⟩;by_cases z:j=i
   .subst z;rw[Y]at he;cases he;exact hb
   .exact hf j e AC he
 .rintro σ H' ⟨U,rfl,rfl,hf⟩;have e:DP zAA=true:=by
   rw[DP,List.all_eq_true];intro c Y;obtain⟨j,Z⟩:=bR Y;exact hf j c (by rw[T];exact(aD.mp Z).1) Z
  rw[e]at q;exact q
def Wt:Ah ["thing","k","row"] IF (AM NM):=B8
def XH{tk:Tok}(F:Fn K mg "are_rows" NM IF f fd)(DN:Fn K mg "are_fractions" Gi IF g1 gd1) (JE:AI P w K mg base Ai 3 g1 gd1 IF Tc)(GW:mg "MOST_ROWS" = some (.int 40 tk))(AN:W1)(Ef:zAc)(A5:am)(Cf:mg "enumerate" = none):AI P w K mg base Ai 4 f fd IF Zi:=by
 have sc:=Wt;refine F.F.ok (k:=3) sc Hb Fa
 .obtain⟨l,d,v,rfl,_⟩:=h
  rfl
 obtain⟨l,d,v,rfl,hd,q⟩:=h;refine⟨_,(Aa (FN (PW.pt (NR vn (NR (Cw SE pw AY XV) (Ml (Cw Uu pw (EE (v:=.int 40) rfl GW ⟨_,rfl⟩) XV)))))
  (Aj (BU Jk))
  Cv)
 (Aa (Hr aO rfl (WX rfl Cf (AH zDz AV)) (Jy rfl (CU (A6 (i:=1) sc.nd rfl At) (CU zCR IY)))
  (Aj (FN (PW.pt (NR (JN (JI (Bt DN JE hr rfl v7))) (Ml (Cw RB (BW CS rfl A5 aa v7) zCb XV))))
   (Aj (BU Jk))
   Cv)))
 (Aj (BU Jk)))),?_⟩
 refine⟨_,rfl,_,_,_,_,rfl,Xl,hd.ty,Qt K d hd.nodict,_,rfl,?_⟩;by_cases Z:FI d=false
 .rw[Z];have:=q H (.refl H);rw[XG Z]at this;exact E8 (E8 this)
 have Z:FI d=true:=by simpa using Z
 rw[Z];refine U7 ?_;obtain⟨T,rfl⟩:=K1 Z;rw[Dt]at hd;obtain⟨a,xs,rfl,na,ha,ht⟩:=hd;have g:=ht.len;refine⟨_,rfl,a,xs,rfl,.inl (Ar.of ha),_,_,rfl,rfl,_,rfl,Eb SB SB⟩
 .have e:Cr (.list T)=false:=by
   have:¬1<=T.length:=by rw[<-g];have:=ay c;lia
   rw[Cr,decide_eq_false this,Bool.false_and]
  have:=q H (.refl H);rw[e]at this;exact E8 this
 have h1:1<=T.length:=by rw[<-g];have:=bY (ar.mpr c);lia
 refine⟨_,rfl,a,xs,rfl,.inl (Ar.of ha),_,_,rfl,rfl,_,rfl,Eb SB SB⟩
 .have e:Cr (.list T)=false:=by
   have:¬T.length<=40:=by rw[<-g];have:=ay c;lia
   rw[Cr,decide_eq_false this,Bool.false_and,Bool.and_false]
  have:=q H (.refl H);rw[e]at this;exact this
 have h2:T.length<=40:=by rw[<-g];have:=bY (ar.mpr c);lia
 have e:Cr (.list T)=J6 T:=by rw[Cr,decide_eq_true h1,decide_eq_true h2,Bool.true_and,Bool.true_and]
 rw[e]at q;refine⟨_,rfl,a,rfl,⟨_,Ar.of ha⟩,Zc (xs:=xs) (fun i σ H'=>∃r1 r2,σ=[some Jz,r1,r2]/\AL H H'/\∀j,j<i->rowAt T j=true) ?_ ?_ ?_ ?_⟩
 .exact⟨_,_,rfl,.refl _,fun j h=>absurd h yi⟩
 .rintro i σ H' _ ⟨r1,r2,rfl,e,_⟩;exact Ar.of v0
 .rintro i x σ H0 hx ⟨r1,r2,rfl,e0,hf⟩ p hp;obtain⟨c,hc,tc⟩:=ht.get hx;have hi:i<T.length:=(aD.mp hc).1;have s1:=Al hp wc;have Y:=e0.trans s1;have hp':(upd H0 p wc) p=some wc:=AU;generalize upd H0 p wc=H1 at s1 Y hp';have tc:=tc.same Y;refine⟨p,_,rfl,BJ.of hp',rfl,_,_,rfl,_,_,rfl,rfl,?_⟩;refine⟨_,rfl,l,c,x,rfl,tc,_,rfl,Eb (fun b=>?_) (fun b=>?_)⟩
  .have hb:DP c=false:=by simpa using b
   have:=q H1 Y;rw[UN hi (by rw[NF hc,hb,Bool.false_and])]at this;exact E8 this
  have hb:DP c=true:=by simpa using b
  obtain⟨cs,rfl⟩:=K1 (SG hb);rw[Dt]at tc;obtain⟨b,ys,rfl,nb,hb',hy⟩:=tc;refine⟨_,rfl,b,ys,rfl,.inl (Ar.of hb'),_,rfl,rfl,_,rfl,Eb (fun z=>?_) (fun z=>?_)⟩
  .have U:¬Ge (.list cs)=i:=by
    rw[Ge,<-hy.len];intro zz;rw[zz]at z;simp at z
   have:=q H1 Y;rw[UN hi (by rw[NF hc,hb,decide_eq_false U,Bool.and_false])]at this;exact this
  .have U:Ge (.list cs)=i:=by
    rw[Ge,<-hy.len];by_cases zz:ys.length=i
    .exact zz
    .exfalso
     refine z ?_;have:¬(V.int (ys.length:Nat)=V.int (i:Nat)):=by simp;lia
     rw[decide_eq_false this];rfl
   refine⟨_,_,rfl,Y,fun j hj=>?_⟩;by_cases zz:j=i
   .subst zz;rw[NF hc,hb,decide_eq_true U,Bool.and_self]
   .exact hf j AC
 .rintro σ H' ⟨r1,r2,rfl,Y,hf⟩;have:=q H' Y;rw[UC fun j hj=>hf j (by rw[g];exact hj)]at this;exact this
def XF:Ah IF IF (AM NS):=B8
def Wx(F:Fn K mg "is_table" NS IF f fd)(Ko:Fn K mg "are_rows" NM IF g1 gd1)(DN:Fn K mg "are_fractions" Gi IF g2 gd2) (Y6:AI P w K mg base Ai 4 g1 gd1 IF Zi)(JE:AI P w K mg base Ai 4 g2 gd2 IF Tc)(AN:W1)(B5:wU)(A5:am):AI P w K mg base Ai 5 f fd IF ib:=by
 have sc:=XF;refine F.F.ok (k:=4) sc Hb Fa
 .obtain⟨l,d,v,rfl,_⟩:=h
  rfl
 obtain⟨l,d,v,rfl,hd,q⟩:=h;refine⟨_,(Aa (FN (PW.pt (NR xB (Ml (Cw RB pw AY XV))))
  (Aj (BU Jk))
  Cv)
 (Aj (BU (OG (Bt Ko Y6 hr rfl zEC) (OG (Bt DN JE hr rfl zEC) (R6 (O2 Ur (BW CS rfl A5 aa zEC) (BW CS rfl A5 aa zEC) XV))))))),?_⟩
 refine⟨_,rfl,_,_,_,_,rfl,Xl,hd.ty,Lc K d hd.nodict,_,rfl,?_⟩;by_cases Z:FR d=false
 .rw[Z];have:=q H (.refl H);rw[Zn Z]at this;exact E8 (E8 this)
 have Z:FR d=true:=by simpa using Z
 rw[Z];refine U7 ?_;obtain⟨ds,rfl⟩:=fU Z;rw[Dt]at hd;obtain⟨a,xs,rfl,na,ha,U⟩:=hd;have hlen:=U.len;have s1:BJ K H a xs:=BJ.of ha;refine⟨_,rfl,a,xs,rfl,.inr s1,rfl,_,rfl,Eb SB SB⟩
 .have:ds.length≠2:=by
   rw[<-hlen];intro z;rw[z]at c;exact absurd c AT
  have q:=q H (.refl H);rw[ZN this]at q;exact q
 have h2:xs.length=2:=by
  by_cases z:xs.length=2
  .exact z
  .exfalso
   refine c ?_;have:¬(V.int (xs.length:Nat)=V.int 2):=by simp;lia
   rw[decide_eq_false this];rfl
 obtain⟨d0,d1,rfl⟩:∃d0 d1,ds=[d0,d1]:=by
  match ds,(show ds.length=2 by lia) with
  |[x,y],_=>exact⟨x,y,rfl⟩
 rw[Az]at U;obtain⟨x0,r,rfl,T,U⟩:=U;rw[Az]at U;obtain⟨x1,r,rfl,g,U⟩:=U;rw[Az]at U;subst U;rw[Cu]at q;refine⟨_,rfl,_,_,_,_,rfl,rfl,s1,rfl,l,d0,x0,rfl,T,fun H1 Y=>⟨_,rfl,Eb (fun c0=>?_) (fun c0=>?_)⟩⟩
 .rw[c0]at q;refine⟨_,rfl,_,_,_,_,rfl,rfl,Y.tup s1,rfl,l,d1,x1,rfl,g.same Y,_,rfl,Eb (fun c1=>?_) (fun c1=>?_)⟩
  .rw[c1]at q;obtain⟨r0,rfl⟩:=K1 (WN c0);obtain⟨r1,rfl⟩:=K1 (SG c1);have T:=T.same Y;have g:=g.same Y;rw[Dt]at T g;obtain⟨a0,y0,rfl,_,ha0,hy0⟩:=T;obtain⟨a1,y1,rfl,_,ha1,hy1⟩:=g;refine⟨_,rfl,_,_,_,_,rfl,rfl,Y.tup s1,rfl,a1,y1,rfl,.inl (Ar.of ha1),_,rfl,_,_,_,_,rfl,rfl,Y.tup s1,rfl,a0,y0,rfl,.inl (Ar.of ha0),rfl,?_⟩;have:=q H1 Y;rw[Bool.true_and,Bool.true_and,Ge,Ge,<-hy0.len,<-hy1.len]at this;have e:decide (V.int (y1.length:Nat)=V.int (y0.length:Nat))=decide (y1.length=y0.length):=by
    rw[Bool.eq_iff_iff];simp;lia
   rw[<-e]at this;exact this
  .rw[Bool.eq_false_iff.mpr c1,Bool.false_and,Bool.and_false]at q;exact q H1 Y
 .rw[Bool.eq_false_iff.mpr c0,Bool.false_and]at q;exact q H1 Y
end
def oA(r:Rat):Fm (Ak r)=true:=by
 have h:=r.den_nz;have k:=r.reduced;rw[Ak,Fm,decide_eq_true (show(1:Int)<=(r.den:Int) by lia),Bool.true_and];rw[beq_iff_eq];unfold FM.gi;unfold Nat.Coprime at k;rw[show r.num.gcd (r.den:Int)=1 from k]
 rfl
def Qy{i n:Nat}(h:i<n)(hn:n<=60):i<sizeLine:=aG (show i<60 by lia) Nk
def Q8{n:Nat}(hn:n<=60):n<=sizeLine:=aP hn Nk
structure Tb where
 rs:List (List Rat)
 ls:List Rat
def An(r:uH):tj:=r.map Ak
def Bs(r:uH):PD:=.list (An r)
def BE(rs:List uH):tj:=rs.map Bs
def Ad(t:Tb):PD:=.tuple [.list xN,.list xO]
structure Tb.Ok(m:Nat)(t:Tb):Prop where
 one:1<=t.rs.length
 most:t.rs.length<=m
 last:t.ls.length=t.rs.length
 row:∀(i:Nat) r,t.rs[i]? = some r->r.length=i
def WE(r:uH):∀e∈An r,Fm e=true:=fun e g=>by
 obtain⟨q,_,rfl⟩:=aT.mp g;exact oA q
def DV(r:uH):(An r).length=r.length:=bU _
def B7(r:List uH):(BE r).length=r.length:=bU _
def Tb.Ok.rf{m:Nat}{t:Tb}(h:t.Ok m):∀r∈t.rs,r.length<t.rs.length:=fun r g=>by
 obtain⟨i,hi⟩:=bR g;rw[h.row i r hi];exact(aD.mp hi).1
def Tb.Ok.is{m:Nat}(hm:m<=40){t:Tb}(h:t.Ok m):Cu f8=true:=by
 have U:=h.one;have Y:=h.most;rw[Ad,Cu,Cr,Ge,Ge,B7,DV,decide_eq_true U,decide_eq_true (show t.rs.length<=40 by lia),decide_eq_true h.last,DP,Bool.true_and,Bool.true_and,Bool.and_true,List.all_eq_true.mpr (WE _),Bool.and_true];refine UC fun j T=>?_;rw[B7]at T;have g:t.rs[j]? = some t.rs[j]:=by simp[T]
 rw[NF (d:=Bs t.rs[j]) (by rw[BE,List.getElem?_map,g];rfl),Bs,Ge,DV,decide_eq_true (h.row j _ g),DP,Bool.and_true,List.all_eq_true.mpr (WE _)]
def Tb.behind(a b:Tb):Tb:=⟨a.rs++b.rs.map (a.ls ++ ·),a.ls++b.ls⟩
def Tb.Ok.behind{m n:Nat}{a b:Tb}(h:a.Ok m)(k:b.Ok n):(a.behind b).Ok (m+n):=by
 have Y:=h.one;have U:=h.most;have T:=k.most;refine⟨?_,?_,?_,fun i r g=>?_⟩
 .simp[Tb.behind];lia
 .simp[Tb.behind];lia
 .simp[Tb.behind,h.last,k.last]
 .unfold Tb.behind at g;simp only at g;by_cases hi:i<a.rs.length
  .rw[List.getElem?_append_left hi]at g;exact h.row i r g
  .rw[List.getElem?_append_right AC,List.getElem?_map]at g;cases hb:b.rs[i-a.rs.length]? with
   |none=>rw[hb]at g;cases g
   |some z=>
    rw[hb]at g;cases g;rw[List.length_append,h.last,k.row _ _ hb]
    lia
def CT.qZ{H:Hp}{d:PD}{ds:tj}{xs:uI}(h:CT H (d::ds) xs):∃x r,xs=x::r/\DU H d x/\CT H ds r:=by
 obtain⟨N,b⟩:=h;have h0:=b N UF;rw[Az]at h0;obtain⟨x,r,rfl,_,_⟩:=h0;refine⟨x,r,rfl,⟨N,fun l g=>?_⟩,⟨N,fun l g=>?_⟩⟩
 .have:=b l g;rw[Az]at this;obtain⟨_,_,e,T,_⟩:=this;cases e;exact T
 .have:=b l g;rw[Az]at this;obtain⟨_,_,e,_,T⟩:=this;cases e;exact T
def DU.rat{H:Hp}{q:Rat}{v:V}(h:DU H (Ak q) v):∃p,v=.ref p/\H p=some (.tup (KO q)):=h.ints (ps:=[q.num,(q.den:Int)])
def Zh{H:Hp}{q:Rat}{p:AD}(h:H p=some (.tup (KO q))):DU H (Ak q) vS:=.tup h (.cons .int (.cons .int .nil))
def QH{c:AD}{zs:ON}{H:Hp}(T:H c=some (.lst zs)):∀ {g:zk} {xs:ON},CT H (An g) xs->Az c H (An g) xs
 |[],xs,h=>by
  have:=h.len;rw[show An []=[] from rfl,List.length_nil]at this;rw[List.eq_nil_of_length_eq_zero this];exact .nil
 |q::g,xs,h=>by
  obtain⟨x,r,rfl,Z,Y⟩:=CT.qZ h;obtain⟨p,rfl,U⟩:=Z.rat;exact .cons (.tup (fun z=>by subst z;rw[U]at T;cases T) U (.cons .int (.cons .int .nil))) (QH T Y)
def UW{c:AD}{zs:uI}{H H':Hp}(T:H c=some (.lst zs))(e:SameBut c H H'){g:uH}{xs:uI}(h:CT H (An g) xs):CT H' (An g) xs:=K2 (.but e (QH T h))
def kK{c a:AD}{zs xs:uI}{H:Hp}{g:uH}(T:H c=some (.lst zs))(n:a≠c)(ha:H a=some NE)(h:CT H (An g) xs):Dt c H (Bs g) Jz:=.lst n ha (QH T h)
def DU.tab{H:Hp}{t:Tb}{v:V}(h:DU H f8 v):∃p R L xs ys,v=.ref p/\H p=some (.tup [.ref R,.ref L])/\H R=some NE/\CT H xN xs/\H L=some Jw/\CT H xO ys:=by
 obtain⟨p,zs,rfl,g,h1⟩:=h.ql;obtain⟨x,y,rfl,h2,h3⟩:=h1.Nm;obtain⟨R,xs,rfl,T,Z⟩:=h2.oJ;obtain⟨L,ys,rfl,U,Y⟩:=h3.oJ;exact⟨p,R,L,xs,ys,rfl,g,T,Z,U,Y⟩
def nO{H:Hp}{t:Tb}{p R L:AD}{xs ys:uI}(g:H p=some (.tup [.ref R,.ref L]))(T:H R=some NE)(Z:CT H xN xs)(U:H L=some Jw)(Y:CT H xO ys):DU H f8 vS :=
 .tup g (.cons (.lst T Z) (.cons (.lst U Y) .nil))
def Wj{H:Hp}{rs:List uH}{xs:uI}{i:Nat}{r:uH}(h:CT H (BE rs) xs)(g:rs[i]? = some r):∃a ys,xs[i]? = some Jz/\H a=some Jw/\CT H (An r) ys:=by
 obtain⟨v,Z,Y⟩:=h.get (i:=i) (d:=Bs r) (by rw[BE,List.getElem?_map,g];rfl);obtain⟨a,ys,rfl,U,T⟩:=Y.oJ;exact⟨a,ys,Z,U,T⟩
def OD(a b:uH):An (a++b)=An a++An b:=List.map_append
def Ig(c b:Int):Int:=c.fdiv yz*b
def JD(bs:uB):Int:=bs.foldl Ig 1
def Vg{k:Nat}:∀(bs:wq) (c:Int) (n:Nat),1<=c->c.natAbs<2^n->(∀b∈bs,1<=b/\b.natAbs<2^k) ->
  1<=bs.foldl Ig c/\(bs.foldl Ig c).natAbs<2^(n+k*bs.length)/\c ∣ bs.foldl Ig c/\∀b∈bs,b ∣ bs.foldl Ig c
 |[],c,n,U,T,_=>⟨U,by simpa using T,Int.dvd_refl _,fun _ z=>(List.not_mem_nil z).elim⟩
 |b::bs,c,n,U,T,h=>by
  obtain⟨b1,b2⟩:=h b ae;obtain⟨s1,s2,s3,Z⟩:=Qv U b1;have n1:(Ig c b).natAbs<2^(n+k):=FM.SH (aR Z T) b2;obtain⟨r1,r2,Y,r4⟩:=Vg bs (Ig c b) (n+k) s1 n1 fun y g=>h y (aS _ g);refine⟨r1,?_,Int.dvd_trans s2 Y,fun y g=>?_⟩
  .rw[List.length_cons,Nat.mul_succ,show n+(k*bs.length+k)=n+k+k*bs.length by lia];exact r2
  .rcases aN.mp g with rfl|g
   .exact Int.dvd_trans s3 Y
   .exact r4 y g
def X6{k:Nat}{bs:uB}(h:∀b∈bs,1<=b/\b.natAbs<2^k):1<=JD bs/\(JD bs).natAbs<2^(1+k*bs.length)/\∀b∈bs,b ∣ JD bs:=by
 obtain⟨a,b,_,d⟩:=Vg bs 1 1 AT AT h;exact⟨a,b,d⟩
def Zr(bs:uB)(b:Int):JD (bs++[b])=Ig (JD bs) b:=by
 unfold JD;rw[List.foldl_append]
 rfl
def cU:Sp:=fun vs H Q _=>∃(a:AD) (bs:wq) (k:Nat),vs=[.ref a]/\H a=some (.lst (bs.map V.int))/\(∀b∈bs,1<=b/\b.natAbs<2^k)/\k*bs.length<=4000/\Q (.int (JD bs)) H
def Gk(rs:uH)(B:Int):uB:=rs.map fun r=>r.num*B.fdiv (r.den:Int)
def bq:Sp:=fun vs H Q _=>∃(a:AD) (xs:ON) (rs:zk) (B:Int) (n m:Nat),vs=[.ref a,.int B]/\H a=some NE/\CT H (An rs) xs/\rs.length<=50/\(∀r∈rs,FM.Fits r n)/\B.natAbs<2^m/\n+m<=4000 /\
 ∀D H',AL H H'->H D=none->H' D=some (.lst ((Gk rs B).map V.int))->Q vD H'
def NI{H:Hp}{g:uH}{xs:uI}{i:Nat}{q:Rat}(h:CT H (An g) xs)(T:g[i]? = some q):∃p,xs[i]? = some vS/\H p=some (.tup (KO q)):=by
 obtain⟨v,Z,Y⟩:=h.get (i:=i) (d:=Ak q) (by rw[An,List.getElem?_map,T];rfl);obtain⟨p,rfl,U⟩:=Y.rat;exact⟨p,Z,U⟩
def Xv{rs:uH}{n:Nat}(h:∀r∈rs,FM.Fits r n):∀b∈rs.map (fun r=>(r.den:Int)),1<=b/\b.natAbs<2^n:=fun b hb=>by
 obtain⟨r,g,rfl⟩:=aT.mp hb;have:=r.den_nz;exact⟨by lia,(h r g).d⟩
section
variable{P:Go}{w:KB}{K:Fg}{mg:t7}{base:Heap}{f g:AD}{fd gd:Fr}
def PU(F:Fn K mg "common_bottom" FW xF f fd)(Ax:zDU) (BS:zDg):AI P w K mg base Ai 2 f fd xF cU:=by
 have sc:=LO;refine F.F.ok (k:=1) sc Hb Fa
 .obtain⟨a,bs,k,rfl,_⟩:=h
  rfl
 obtain⟨a,bs,k,rfl,ha,hb,hk,q⟩:=h;refine⟨_,(Aa (BC (i:=1) sc.nd rfl At AY)
 (Aa (Hr aO rfl zAb zCR
  (Aj zDy))
 (Aj (BU zCb)))),?_⟩
 refine⟨_,rfl,a,rfl,⟨_,Ar.of ha⟩,LY (xs:=bs.map V.int) (fun i σ H'=>∃(r:Option V),σ=[some Jz,some (.int (JD (bs.take i))),r]/\H=H') ?_ ?_ ?_ ?_⟩
 .exact⟨_,rfl,rfl⟩
 .rintro i σ H' _ ⟨r,rfl,rfl⟩;exact Ar.of ha
 .rintro i x σ H' T ⟨r,rfl,rfl⟩;have hi:i<bs.length:=by have:=(aD.mp T).1;simpa using this
  rw[List.getElem?_map,List.getElem?_eq_getElem hi]at T;cases T;obtain⟨b1,b2⟩:=hb _ (bX hi);obtain⟨c1,U,_⟩:=X6 (k:=k) (bs:=bs.take i) fun y hy=>hb y (List.mem_of_mem_take hy);rw[List.length_take,Nat.min_eq_left AC]at U;obtain⟨s1,s2,s3,Y⟩:=Qv c1 b1;have hg:FM.gi (JD (bs.take i)) bs[i]≠0:=Int.ne_of_gt (FM.MY AC);have hki:k*i+k<=4000:=by
   have:k*On<=k*bs.length:=av k hi;rw[Nat.mul_succ]at this
   lia
  have Z:((JD (bs.take i)).fdiv (FM.gi (JD (bs.take i)) bs[i])).natAbs<2^(1+k*i):=aR Y U;refine⟨_,rfl,_,rfl,_,rfl,JD (bs.take i),bs[i],rfl,_,_,rfl,rfl,⟨hg,k,by have:k*1<=k*bs.length:=av k AC;lia,Nat.lt_of_le_of_lt (FM.ZG AC) b2⟩,_,rfl,_,_,rfl,rfl,OP Z b2 AC,some (.int bs[i]),?_,rfl⟩;rw[List.take_add_one,List.getElem?_eq_getElem hi];show _=[some (V.ref a),some (V.int (JD (bs.take i++[bs[i]]))),some (V.int bs[i])];rw[Zr]
  rfl
 .rintro σ H' ⟨r,rfl,rfl⟩;rw[List.length_map,List.take_length];exact⟨_,rfl,q⟩
def V2:Ah vf vf (AM MQ):=B8
def VJ(F:Fn K mg "tops_over" MQ vf f fd):AI P w K mg base Ai 1 f fd vf bq:=by
 have sc:=V2;refine F.F.ok (k:=0) sc Hb (fun cdv A outer s H vs Q E Z h=>?_)
 .obtain⟨a,xs,rs,B,n,m,rfl,_⟩:=h
  rfl
 obtain⟨a,xs,rs,B,n,m,rfl,ha,dx,hl,hf,hB,hnm,q⟩:=h;have hxl:xs.length=rs.length:=by rw[dx.len,DV]
 refine⟨_,(Aj (BU zDx)),?_⟩;refine⟨_,rfl,a,rfl,⟨_,Ar.of ha⟩,fun D hD=>Fq (n:=xs.length) (fun i ys H'=>AL H H'/\ys=(Gk (rs.take i) B).map V.int) ⟨Al hD _,rfl⟩ ?_ ?_⟩
 .rintro i ys H1 hi ⟨U,rfl⟩ T;have Z:rs[i]? = some (rs[i]' AC):=aL _;obtain⟨p,hp1,Y⟩:=NI dx Z;have ft:=hf _ (aJ Z);generalize rs[i]' AC=r at Z Y ft;have hd:=r.den_nz;refine⟨⟨xs,.ref p,Ar.of (U _ _ ha),hp1⟩,Qy (n:=60) (by unfold Gk;simp;lia) AT,fun x H' y=>?_⟩;obtain⟨rfl,y⟩:=y;have hx:=y xs (Ar.of (U _ _ ha));rw[hp1]at hx;cases hx;unfold HK;have n2:(B.fdiv (r.den:Int)).natAbs<2^m:=aR (FM.FE _ _) hB;refine E8 ⟨_,rfl,_,_,_,_,rfl,rfl,BJ.of (U _ _ Y),rfl,_,rfl,_,rfl,_,_,_,_,rfl,rfl,BJ.of (U _ _ Y),rfl,_,_,rfl,rfl,⟨by lia,n,by lia,ft.d⟩,_,_,rfl,rfl,OP ft.1 n2 AC,T,EG hi ⟨fun b o z=>?_,?_⟩⟩
  .rw[AK zAD];exact U _ _ z
  .rw[List.take_add_one,Z,Gk,Gk,List.map_append,List.map_append]
   rfl
 .rintro ys H1 ⟨U,rfl⟩ T;rw[hxl,List.take_length]at T;exact⟨⟨xs,Ar.of (U _ _ ha),Nat.le_refl _⟩,q D H1 U hD T⟩
end
def Df(a b:uB):uB:=List.zipWith (· * ·) a b
def WT(a b:uB):Int:=(Df a b).sum
def Fl(n:Nat):uB:=List.replicate n 1
def Kg(rows:y7):Tr->List Int->List Int
 |.nil,g=>g
 |.cons b r,g=>Kg rows r (Df g (rows.map fun row=>WT row (Kg rows b ku)))
def FQ(rows:zAg)(t:Tr):uB:=rows.map fun row=>WT row (Kg rows t ku)
def Rb(rows:y7):∀(t:Tr) (g:wq),Kg rows t g=t.bs.foldl ra g
 |.nil,g=>rfl
 |.cons b r,g=>by
  rw[Kg,Tr.bs,List.foldl_cons,Rb rows r]
  rfl
def Mv(rows:zAg)(t:Tr):(FQ rows t).length=rows.length:=bU _
def dh{a b:uB}(h:a.length=b.length):(Df a b).length=a.length:=by unfold Df;rw[List.length_zipWith,h,Nat.min_self]
def Dl(n:Nat)(xs:uB):Prop:=∀x∈xs,x.natAbs<=n
def Dl.mul{m n:Nat}:∀ {a b:wq},Dl m a->Dl n b->Dl (m*n) (Df a b)
 |[],_,_,_=>fun x h=>by cases h
 |_::_,[],_,_=>fun x h=>by cases h
 |x::a,y::b,ha,hb=>fun z h=>by
  have h:z∈x*y::Df a b:=h;rcases aN.mp h with rfl|h
  .rw[Int.natAbs_mul];exact Nat.mul_le_mul (ha x KM) (hb y KM)
  .exact Dl.mul (fun x h=>ha x (.tail _ h)) (fun x h=>hb x (.tail _ h)) z h
def Zg{n:Nat}:∀ {a:wq},Dl n a->a.sum.natAbs<=a.length*n
 |[],_=>bJ _
 |x::a,h=>by
  have T:=h x KM;have g:=Zg (a:=a) fun x h'=>h x (.tail _ h');rw[List.sum_cons,List.length_cons,Nat.succ_mul];have:=Int.natAbs_add_le x a.sum
  lia
def nK{m n:Nat}{a b:uB}(ha:Dl m a)(hb:Dl n b):(WT a b).natAbs<=a.length*m*n:=by
 have h:=Zg (ha.mul hb);have g:(Df a b).length<=a.length:=by unfold Df;rw[List.length_zipWith];exact Nat.min_le_left _ _
 refine aP h ?_;rw[Nat.mul_assoc];exact Nat.mul_le_mul_right _ g
structure LL(rows:y7)(c:Nat):Prop where
 len:rows.length<=1000
 one:∀row∈rows,row.length<=rows.length
 big:∃M,(∀row∈rows,Dl M row)/\M<=2^c/\∀row∈rows,row.length*M<=2^c
def Dl.mono{m n:Nat}{xs:uB}(h:Dl m xs)(e:m<=n:=by decide):Dl n xs:=fun x g=>aP (h x g) e
def TR(n k:Nat):Dl (2^k) (Fl n):=fun x h=>by
 unfold Fl at h;rw[List.eq_of_mem_replicate h];exact Nat.one_le_two_pow
def gX{rows:zAg}{c:Nat}(h:LL rows c){t:Tr}{k:Nat}(U:Dl (2^(c*k)) (Kg rows t ku)):Dl (2^(c*io)) (FQ rows t):=fun x g=>by
 unfold FQ at g;obtain⟨row,T,rfl⟩:=aT.mp g;obtain⟨M,Z,_,Y⟩:=h.big;have:=nK (Z row T) U;refine aP this ?_;rw[Nat.mul_add,Nat.mul_one,Nat.add_comm,Nat.pow_add];exact Nat.mul_le_mul_right _ (Y row T)
def RN{rows:y7}{c:Nat}(h:LL rows c):∀(t:Tr) (g:wq) (j:Nat),g.length=rows.length->Dl (2^(c*j)) g->(Kg rows t g).length=rows.length/\Dl (2^(c*(j+(t.AR-1)))) (Kg rows t g)
 |.nil,g,j,T,ha=>⟨T,ha⟩
 |.cons b r,g,j,T,ha=>by
  have hb:=RN h b ku 0 zBi (TR _ _);have kb:1<=b.AR:=Tr.D0 b;have kr:1<=r.AR:=Tr.D0 r;rw[Nat.zero_add]at hb;have Z:=gX h hb.2;rw[show b.AR-1+1=b.AR by lia]at Z;have Y:=ha.mul Z;rw[<-Nat.pow_add,<-Nat.mul_add]at Y;have U:=RN h r (Df g (FQ rows b)) (j+b.AR) (by rw[dh (by rw[T,Mv])];exact T) Y;rw[Kg,Tr.AR];refine⟨U.1,?_⟩;rw[show j+(b.AR+r.AR-1)=j+b.AR+(r.AR-1) by lia];exact U.2
def jV{rows:zAg}{c:Nat}(h:LL rows c)(t:Tr):Dl (2^(c*t.AR)) (FQ rows t):=by
 have T:=(RN h t ku 0 zBi (TR _ _)).2;have U:1<=t.AR:=Tr.D0 t;rw[Nat.zero_add]at T;have g:=gX h T;rw[show t.AR-1+1=t.AR by lia]at g;exact g
def X3{m:Nat}(hm:m+1<=1000000){x y:Int}(T:x.natAbs<=2^m)(g:y.natAbs<=2^m):QQ x y\/Nd x y:=by
 have:2^m<2^(m+1):=Nat.pow_lt_pow_of_lt AT (bW m);exact .inr ⟨m+1,hm,Nat.lt_of_le_of_lt T this,Nat.lt_of_le_of_lt g this⟩
def LJ{n:Nat}(h:n<=1000):n<sizeLine:=aR h Nk
def Uy{H H':Hp}{p:AD}(e:ug)(h:H' p=none):H p=none:=by
 cases z:H p with
 |none=>rfl
 |some o=>rw[e _ _ z]at h;cases h
def ints_get{ps:uB}{i:Nat}{x:Int}(h:ps[i]? = some x):(ps.map V.int)[i]? = some (.int x):=by rw[List.getElem?_map,h];rfl
def T5{xs ys:uB}{i:Nat}{x y:Int}(T:xs[i]? = some x)(g:ys[i]? = some y):(Df xs ys).take On=(Df xs ys).take i++[x*y]:=by
 have h:(Df xs ys)[i]? = some (x*y):=by unfold Df;rw[List.getElem?_zipWith,T,g]
 rw[List.take_add_one,h];rfl
def kN:Sp:=fun vs H Q _=>∃a b xs ys m,vs=[.ref a,.ref b]/\H a=some (.lst (xs.map V.int))/\H b=some (.lst (ys.map V.int))/\xs.length<=ys.length/\xs.length<=1000/\m+1<=1000000/\Dl (2^m) xs/\Dl (2^m) ys/\∀H',AL H H'->Q (.int (WT xs ys)) H'
section
variable{P:Go}{w:KB}{K:Fg}{mg:t7}{base:Heap}{f:AD}{fd:Fr}
def ZL:Ah wt wt (AM Oj):=B8
def ZO(F:Fn K mg "read_by" Oj wt f fd)(FL:zBM)(EN:y8):AI P w K mg base Ai 1 f fd wt kN:=by
 have sc:=ZL;refine F.F.ok (k:=0) sc Hb Fa
 .obtain⟨a,b,ps,qs,m,rfl,_⟩:=h
  rfl
 obtain⟨a,b,ps,qs,m,rfl,ha,hb,hl,h60,hm,sx,sy,q⟩:=h;refine⟨_,(Aj (BU (BW (NH rfl) rfl FL bo (AH (Ov [".0","part","share"] 1 2 [none,none,none] (WA rfl EN (AH zDz v6)) cx (fun _ _ _ _ _=>(A2 Cy zCb zDJ))) AV)))),?_⟩;refine⟨_,rfl,_,rfl,false,false,a,b,rfl,⟨_,ha⟩,⟨_,hb⟩,fun D hD=>Qm (n:=ps.length) (fun i us H'=>AL H H'/\us=((Df ps qs).take i).map V.int) ?_ ?_ ?_⟩
 .exact⟨Al hD _,by rw[List.take_zero];rfl⟩
 .rintro i us H1 hi ⟨T,rfl⟩ g;have hx:=aL hi;have hy:=aL (l:=qs) (i:=i) AC;have e1a:=T _ _ ha;have Z:=T _ _ hb;refine⟨⟨_,_,_,_,e1a,Z,ints_get hx,ints_get hy⟩,LJ (by rw[List.length_map,List.length_take];lia),fun v H' y=>?_⟩;obtain⟨p,x,z,rfl,np,rfl,k1,k2⟩:=y;have Y:=k1 _ e1a;have U:=k2 _ Z;rw[ints_get hx]at Y;rw[ints_get hy]at U;cases Y;cases U;have sp:=Al np (.tup [.int ps[i],.int qs[i]]);refine⟨p,_,_,rfl,BJ.of AU,?_⟩;unfold HK;refine E8 ⟨_,rfl,_,rfl,_,_,rfl,rfl,X3 hm (sx _ (bX _)) (sy _ (bX _)),sp _ _ g,EG hi ⟨fun c o z=>?_,?_⟩⟩
  .rw[AK zAD];exact sp _ _ (T _ _ z)
  .rw[T5 hx hy,List.map_append]
   rfl
 .rintro us H1 ⟨T,rfl⟩ g;refine⟨⟨_,_,T _ _ ha,T _ _ hb,.inl (by rw[List.length_map])⟩,D,_,rfl,Ar.of g,?_⟩;rw[List.take_of_length_le (by unfold Df;rw[List.length_zipWith];lia)];exact q _ T
end
def KY(d:AD)(H H':Hp):Prop:=∀a o,a≠d->H a=some o->H' a=some o
def KY.of{d:AD}{H H':Hp}(e:ug):KY d H H':=fun a o _ h=>e a o h
def KY.trans{d:AD}{H T g:Hp}(e:KY d H T)(U:KY d T g):KY d H g:=fun a o n h=>U a o n (e a o n h)
def lV{d:AD}{r:vU}{xs:uI}:dN d r≠.lst xs:=by unfold dN;intro z;cases z
def oE{d:AD}{r:vU}{xs:uI}:dN d r≠.tup xs:=by unfold dN;intro z;cases z
def KY.lst{d:AD}{H H':Hp}(e:KY d H H'){r:vU}(hd:H d=some (dN d r)){l:AD}{xs:uI}(h:H l=some NE):H' l=some NE:=e l _ (Y8 h hd fun z=>lV z.symm) h
def KY.BM{d:AD}{H H':Hp}(e:KY d H H'){r:vU}(hd:H d=some (dN d r)):MM H H':=fun b xs h=>e b _ (Y8 h hd fun z=>oE z.symm) h
def UR(H:Hp)(vs:uI)(rows:zAg):Prop:=vs.length=rows.length/\∀(i:Nat) (row:wq),rows[i]? = some row->∃a:AD,vs[i]? = some Jz/\H a=some (.lst (row.map V.int))
def UR.same{H H':Hp}{vs:uI}{rows:zAg}(h:UR H vs rows)(e:ug):UR H' vs rows:=⟨h.1,fun i row hi=>let⟨a,T,g⟩:=h.2 i row hi;⟨a,T,e _ _ g⟩⟩
def UR.but{d:AD}{H H':Hp}{vs:uI}{rows:zAg}(h:UR H vs rows)(e:KY d H H'){r:vU}(hd:H d=some (dN d r)):UR H' vs rows:=⟨h.1,fun i row hi=>let⟨a,T,g⟩:=h.2 i row hi;⟨a,T,e.lst hd g⟩⟩
structure Y2(Dm:yw)(c:Nat):Prop where
 len:Dm.length<=1000
 inj:∀a∈Dm,∀b∈Dm,TH.B0 (some a)=TH.B0 (some b)->a=b
 bs:∀t∈Dm,∀b∈t.bs,b∈Dm
 deep:∀t∈Dm,t.deep<8
 size:∀t∈Dm,c*t.AR+1<=1000000
structure Memo(Dm:yw)(rows:y7)(W:Addr)(H:Hp)(d:Addr)(r:vU):Prop where
 at_:H d=some (dN d r)
 nd:(r.map To).Nodup
 all:∀q∈r,∃(t:Tr) (l:Addr),q.1=some t/\t∈Dm/\Tv H t q.2.1/\q.2.2=.ref l/\H l=some wj/\l≠W
def Memo.same{Dm:uJ}{rows:zAg}{W:AD}{H H':Hp}{d:AD}{r:vU}(h:zAp)(e:ug):Memo Dm rows W H' d r:=⟨e _ _ h.at_,h.nd,fun q g=>let⟨t,l,h1,h2,Z,Y,U,T⟩:=h.all q g;⟨t,l,h1,h2,Z.same e,Y,e _ _ U,T⟩⟩
def Memo.ok{Dm:uJ}{c:Nat}{rows:zAg}{W:AD}{H:Hp}{d:AD}{r:vU}(h:zAp)(D:Y2 Dm c){t:Tr}(Z:t∈Dm):Vh H d r xH:=by
 refine⟨h.at_,fun q g=>?_,h.nd,fun q g Y=>?_⟩
 .obtain⟨u,l,U,T,h3,_⟩:=h.all q g;rw[U];exact⟨D.deep u T,h3⟩
 .obtain⟨u,l,U,T,_⟩:=h.all q g;rw[U]at Y ⊢;rw[D.inj u T t Z Y]
def UX{α:Type}[DecidableEq α]:∀ {a b:mu},a.Nodup->(∀x∈a,x∈b)->a.length<=b.length
 |[],_,_,_=>bJ _
 |x::a,b,hn,h=>by
  have T:=h x KM;obtain⟨Y,U⟩:=List.nodup_cons.mp hn;have:=UX (a:=a) (b:=b.erase x) U fun y g=>(List.mem_erase_of_ne (show y≠x from fun e=>Y (by rw[<-e];exact g))).mpr (h y (.tail _ g));rw[List.length_erase_of_mem T]at this;have:=List.length_pos_of_mem T;rw[List.length_cons]
  lia
def Memo.len{Dm:uJ}{rows:zAg}{W:AD}{H:Hp}{d:AD}{r:vU}(h:zAp):r.length<=Dm.length:=by
 have:=UX (b:=Dm.map some) h.nd fun x g=>by
  obtain⟨q,T,rfl⟩:=aT.mp g;obtain⟨u,l,Y,U,_⟩:=h.all q T;rw[Y];exact List.mem_map_of_mem U
 simpa using this
def Memo.put{Dm:uJ}{rows:zAg}{W:AD}{H H':Hp}{d:AD}{r:vU}(h:zAp){t:Tr}{v:V}{l:AD}(ht:t∈Dm)(tv:Tv H t v)(hl:H l=some wj)(hlW:l≠W) (e:H'=upd H d zDk):KY d H H'/\Memo Dm rows W H' d (G8 r xH v ui)/\H' l=some wj:=by
 subst e;have hb:KY d H (upd H d zDk):=fun a o n h=>by rw[AK n];exact h
 have Z:=hb.lst h.at_ hl;have old:∀q∈r,∃(t':Tr) (l':AD),q.1=some t'/\t'∈Dm/\Tv (upd H d zDk) t' q.2.1/\q.2.2=.ref l'/\upd H d zDk l'=some (.lst ((FQ rows t').map V.int))/\l'≠W:=fun q g=>by
  obtain⟨u,l',h1,T,h3,h4,h5,h6⟩:=h.all q g;exact⟨u,l',h1,T,h3.BM (hb.BM h.at_),h4,hb.lst h.at_ h5,h6⟩
 refine⟨hb,⟨AU,?_,fun q g=>?_⟩,Z⟩
 .unfold G8;split
  .rw[List.map_map];rw[show((fun x:KR=>x.1) ∘ fun q:KR=>if q.1=some t then(q.1,q.2.1,V.ref l) else q)=fun x=>x.1 from funext fun q=>by
    show(if q.1=some t then(q.1,q.2.1,V.ref l) else q).1=q.1;split<;>rfl]
   exact h.nd
  .rename_i hn;rw[List.map_append];refine List.nodup_append.mpr ⟨h.nd,by simp,fun a ha b hb'=>?_⟩;obtain⟨q,g,rfl⟩:=aT.mp ha;have hb':b=some t:=by simpa using hb'
   subst hb';have hn:r.find? zAq=none:=by
    cases z:r.find? zAq with
    |none=>rfl
    |some x=>rw[z]at hn;exact absurd rfl hn
   have:=ba.mp hn q g
   simpa using this
 .have Y:q∈r\/(∃U∈r,U.1=some t/\q=(U.1,U.2.1,.ref l))\/q=(some t,v,.ref l):=by
   unfold G8 at g;split at g
   .obtain⟨U,h1,T⟩:=aT.mp g;split at T
    .rename_i z;exact .inr (.inl ⟨U,h1,z,T.symm⟩)
    .subst T;exact .inl h1
   .rcases bG.mp g with g|g
    .exact .inl g
    .exact .inr (.inr vw)
  rcases Y with Y|⟨U,h1,T,rfl⟩|rfl
  .exact old q Y
  .obtain⟨u,l',k1,k2,k3,_⟩:=old U h1;rw[T]at k1;cases k1;exact⟨t,l,T,k2,k3,rfl,Z,hlW⟩
  .exact⟨t,l,rfl,ht,tv.BM (hb.BM h.at_),rfl,Z,hlW⟩
def L7:∀ {t b:Tr},b∈t.bs->b.AR<=t.AR
 |.nil,b,h=>by cases h
 |.cons c r,b,h=>by
  rw[Tr.bs]at h;rw[Tr.AR];rcases aN.mp h with rfl|h
  .exact Nat.le_add_right _ _
  .exact aP (L7 h) (Nat.le_add_left _ _)
def ff(r:vU)(k:vz)(T v:V):∃q,(G8 r k T v).find? kS=some q:=by
 have:∃q∈G8 r k T v,q.1=k:=by
  unfold G8;split
  .rename_i h;obtain⟨q,Z⟩:=Option.isSome_iff_exists.mp h;obtain⟨U,g⟩:=find_key Z;exact⟨_,List.mem_map_of_mem U,by rw[if_pos g];exact g⟩
  .exact⟨_,List.mem_append_right _ KM,rfl⟩
 obtain⟨q,U,g⟩:=this;cases z:(G8 r k T v).find? kS with
 |some Y=>exact⟨Y,rfl⟩
 |none=>exact absurd g (by simpa using ba.mp z q U)
def RA:∀(t:Tr) (i:Nat),(Tr.of (t.bs.take i)).AR<=t.AR
 |.nil,i=>by rw[Tr.bs,List.take_nil];exact aH _
 |.cons b r,0=>by
  have:=Tr.D0 (.cons b r);exact this
 |.cons b r,i+1=>by
  rw[Tr.bs,List.take_succ_cons,Tr.of,Tr.AR,Tr.AR];exact Nat.add_le_add_left (RA r i) _
def Zf(Dm:uJ)(c n:Nat):Sp:=fun vs H Q _=>∃R g rows v t d r W,vs=[.ref R,v,.ref d]/\H R=some (.lst g)/\UR H g rows/\LL rows c/\Tv H t v/\t∈Dm/\t.deep<n/\(∃o,H W=some o)/\Memo Dm rows W H d r/\∀H' T l,KY d H H'->Memo Dm rows W H' d T->H' l=some wj->Q ui H'
section
variable{P:Go}{w:KB}{K:Fg}{mg:t7}{base:Heap}{f g1:AD}{fd gd1:Fr}
def W6:Ah ["rows","tree","known","shares","bough"] vg (AM NL):=B8
def QC{Dm:yw}{c:Nat}(DO:Y2 Dm c)(FH:Fn K mg "readings" NL vg f fd)(J4:Fn K mg "read_by" Oj wt g1 gd1)(Q4:AI P w K mg base Ai 1 g1 gd1 wt kN)(A5:am)(EN:y8) :
  ∀n,AI P w K mg base Ai (n+1) f fd vg (Zf Dm c n)
 |0=>Jv fun _ _ _ _ ⟨_,_,_,_,_,_,_,_,_,_,_,_,_,_,h,_⟩=>absurd h yi
 |n+1=>by
  have sc:=W6;have Ng:=QC DO FH J4 Q4 A5 EN n;have cf:=Q4.mono (show 1<=n+1 by lia);refine FH.F.ok (k:=n+1) sc Hb Fa
  .obtain⟨R,rvs,rows,v,t,d,r,W,rfl,_⟩:=h
   rfl
  obtain⟨R,rvs,rows,v,t,d,r,W,rfl,hR,U,ro,tv,ht,hdp,⟨oW,hW⟩,Y,q⟩:=h;have hWs:∀ {H':Hp} {ρ:vU},KY d H H'->Memo Dm rows W H' d ρ->∃o,H' W=some o:=fun {H' ρ} e m=>by
   by_cases z:W=d
   .exact⟨_,by rw[z];exact m.at_⟩
   .exact⟨_,e _ _ z hW⟩
  refine⟨_,(Aa (FN (Cw (mq zAE true) zCb zDJ rfl)
  (Aa (BC (i:=3) sc.nd rfl x9 (A2 cH (Jx (AH AY AV)) pw))
  (Aa (Hr aO rfl (VD zCb) zCj
   (Aj (BC (i:=3) sc.nd rfl x9 (Ov [".0","share","read"] 1 2 [none,none,none] (WA rfl EN (AH (pv 3) (AH (Bt FH Ng hr rfl (AH zDz (AH (pv 4) v7))) AV))) cx (fun _ _ _ _ _=>(A2 Cy zCb zDJ))))))
  (Aj (WS (Ff [".0","row","shares"] 1 [none,none,some 3] zAb cx (fun _ _ _ _ _=>(Bt J4 cf hr rfl (AH zCb v7)))) (cJ zDJ zCb (lP zAE))))))
  Cv)
 (Aj (BU (kQ zAE zDJ zCb Db)))),?_⟩
  have key:KP H xH v:=⟨DO.deep t ht,tv⟩;cases hz:r.find? zAq with
  |some q'=>
   refine⟨_,rfl,_,rfl,d,r,some t,rfl,key,Y.ok DO ht,false,by rw[hz];rfl,U7 ?_⟩;obtain⟨hm,hk⟩:=find_key hz;obtain⟨u,l,h1,h2,h3,h4,h5,_⟩:=Y.all q' hm;rw[hk]at h1;cases h1;refine⟨_,rfl,_,rfl,d,r,some t,q',rfl,key,Y.ok DO ht,hz,?_⟩;rw[h4];exact q H r l (fun a o _ h=>h) Y h5
  |none=>
   refine⟨_,rfl,_,rfl,d,r,some t,rfl,key,Y.ok DO ht,true,by rw[hz];rfl,E8 ?_⟩;refine⟨by show 1<=sizeLine;decide,fun p hp=>⟨_,rfl,_,_,rfl,.inl (Ar.of (Al hp _ _ _ hR)),p,_,_,rfl,rfl,AU,by lia,?_,?_,fun S hS=>?_⟩⟩
   .have:=U.1;have:=ro.len;lia
   .have:=U.1;have:=ro.len;refine bC (LJ ?_);simp
    lia
   rw[List.flatten_replicate_singleton,show((rvs.length:Nat):Int).toNat=rows.length by rw[U.1];rfl];have e0:AL H (upd zBj S wY):=(Al hp _).trans (Al hS _);have hS0:upd zBj S wY S=some (.lst (((t.bs.take 0).foldl ra ku).map V.int)):=by
    rw[AU,List.take_zero,List.foldl_nil];unfold Fl;rw[List.map_replicate]
   generalize upd zBj S wY=H0 at e0 hS0;obtain⟨a,ys,rfl,ha,hts⟩:=tv;have hyl:=hts.len;have sizes:∀i,((t.bs.take i).foldl ra ku).length=rows.length/\Dl (2^(c*t.AR)) ((t.bs.take i).foldl ra ku):=fun i=>by
    have h:=RN ro (Tr.of (t.bs.take i)) ku 0 zBi (TR _ _);rw[Rb,Tr.O7]at h;refine⟨h.1,h.2.mono (bf AT (av _ ?_))⟩;have:=RA t i
    lia
   refine⟨_,rfl,a,rfl,⟨_,BJ.of (e0 _ _ ha)⟩,iZ (xs:=ys) (fun i σ H'=>∃(r4:Option V) (S:AD) (ρ:vU),σ=[some (.ref R),some Jz,some zAP,some (.ref S),r4]/\KY d H H'/\Memo Dm rows W H' d ρ/\H' S=some (.lst (((t.bs.take i).foldl ra ku).map V.int))) ?_ ?_ ?_ ?_⟩
   .exact⟨_,S,r,rfl,.of e0,Y.same e0,hS0⟩
   .rintro i σ H' _ ⟨r4,S',ρ,rfl,e,_⟩;exact BJ.of (e.BM Y.at_ _ _ ha)
   .rintro i x σ H1 hx ⟨r4,S1,ρ,rfl,e1,me1,hS1⟩;obtain⟨b,hb,tb⟩:=hts.get hx;have hbm:b∈t.bs:=aJ hb;have hbd:=Tr.Qn hbm;refine⟨_,rfl,_,rfl,_,rfl,_,rfl,R,rvs,rows,x,b,d,ρ,W,rfl,e1.lst Y.at_ hR,U.but e1 Y.at_,ro,tb.BM (e1.BM Y.at_),DO.bs t ht b hbm,by lia,hWs e1 me1,me1,fun H2 r2 l e2 me2 hl2=>?_⟩;have hS2:=e2.lst me1.at_ hS1;have e02:=e1.trans e2;obtain⟨sl,sb⟩:=sizes i;generalize hsh:(t.bs.take i).foldl ra ku=sh at sl sb hS2;have hnext:(t.bs.take On).foldl ra ku=Df sh (FQ rows b):=by
     rw[List.take_add_one,hb,List.foldl_append,hsh];rfl
    have rl:=Mv rows b;have rb:=jV ro b;have kb:b.AR<=t.AR:=L7 hbm;have rb':=rb.mono (bf AT (av c kb));refine⟨false,false,S1,l,rfl,⟨_,hS2⟩,⟨_,hl2⟩,fun D hD=>Qm (n:=sh.length) (fun j us H'=>AL H2 H'/\us=((Df sh (FQ rows b)).take j).map V.int) ?_ ?_ ?_⟩
    .exact⟨Al hD _,by rw[List.take_zero];rfl⟩
    .rintro j us H3 hj ⟨g,rfl⟩ T;have hx:=aL hj;have hy:=aL (l:=FQ rows b) (i:=j) AC;have e3a:=g _ _ hS2;have e3b:=g _ _ hl2;refine⟨⟨_,_,_,_,e3a,e3b,ints_get hx,ints_get hy⟩,LJ (by have:=ro.len;rw[List.length_map,List.length_take];lia),fun v H' y=>?_⟩;obtain⟨p,x,z,rfl,np,rfl,k1,k2⟩:=y;have hx':=k1 _ e3a;have hy':=k2 _ e3b;rw[ints_get hx]at hx';rw[ints_get hy]at hy';cases hx';cases hy';have sp:=Al np (.tup [.int sh[j],.int (FQ rows b)[j]]);refine⟨p,_,_,rfl,BJ.of AU,?_⟩;unfold HK;refine E8 ⟨_,rfl,_,rfl,_,_,rfl,rfl,X3 (DO.size t ht) (sb _ (bX _)) (rb' _ (bX _)),sp _ _ T,EG hj ⟨fun c o z=>?_,?_⟩⟩
     .rw[AK zAD];exact sp _ _ (g _ _ z)
     .rw[T5 hx hy,List.map_append]
      rfl
    .rintro us H3 ⟨g,rfl⟩ T;refine⟨⟨_,_,g _ _ hS2,g _ _ hl2,.inl (by rw[List.length_map])⟩,?_⟩;refine⟨_,D,r2,rfl,e02.trans (.of g),me2.same g,?_⟩;rw[T,hnext,List.take_of_length_le (by unfold Df;rw[List.length_zipWith];lia)]
   .rintro σ H1 ⟨r4,S1,ρ,rfl,e1,me1,hS1⟩;rw[hyl,List.take_length,<-Rb]at hS1;obtain⟨sl,sb⟩:=sizes t.bs.length;rw[List.take_length,<-Rb]at sl sb;have hR1:=e1.lst Y.at_ hR;have hrw1:=U.but e1 Y.at_;refine⟨_,rfl,R,rfl,⟨_,Ar.of hR1⟩,fun D hD=>Fq (n:=rvs.length) (fun j us H'=>AL H1 H'/\us=((FQ rows t).take j).map V.int) ?_ ?_ ?_⟩
    .exact⟨Al hD _,by rw[List.take_zero];rfl⟩
    .rintro j us H3 hj ⟨g,rfl⟩ T;have hj':j<rows.length:=by rw[<-U.1];exact hj
     have Z:=aL hj';generalize rows[j]=row at Z;have hrm:=aJ Z;obtain⟨pr,g1,g2⟩:=hrw1.2 j row Z;have hR3:=g _ _ hR1;refine⟨⟨_,_,Ar.of hR3,g1⟩,LJ (by have:=ro.len;rw[List.length_map,List.length_take,Mv];lia),fun x H' y=>?_⟩;obtain⟨rfl,y⟩:=y;have hx:=y _ (Ar.of hR3);rw[g1]at hx;cases hx;unfold HK;obtain⟨M,b1,b2,_⟩:=ro.big;refine E8 ⟨_,rfl,_,rfl,pr,S1,row,_,c*t.AR,rfl,g _ _ g2,g _ _ hS1,?_,?_,DO.size t ht,?_,sb,fun H4 e4=>?_⟩
     .rw[sl];exact ro.one row hrm
     .have:=ro.one row hrm;have:=ro.len;lia
     .refine(b1 row hrm).mono (aP b2 (bf AT ?_));have:=Tr.D0 t;exact Nat.le_mul_of_pos_right c this
     .refine⟨e4 _ _ T,EG hj ⟨fun c o z=>?_,?_⟩⟩
      .rw[AK zAD];exact e4 _ _ (g _ _ z)
      .have:(FQ rows t)[j]? = some (WT row (Kg rows t ku)):=by unfold FQ;rw[List.getElem?_map,Z];rfl
       rw[List.take_add_one,this,List.map_append]
       rfl
    .rintro us H3 ⟨g,rfl⟩ T;rw[List.take_of_length_le (by rw[Mv,U.1];exact aH _)]at T;have me3:=me1.same g;have hDW:D≠W:=fun z=>by
      obtain⟨o,hw⟩:=hWs e1 me1;rw[<-z,hD]at hw;cases hw
     have tv3:Tv H3 t Jz:=⟨a,ys,rfl,g _ _ (e1.BM Y.at_ _ _ ha),(hts.BM (e1.BM Y.at_)).same g⟩;refine⟨⟨_,Ar.of (g _ _ hR1),Nat.le_refl _⟩,_,rfl,_,rfl,d,ρ,some t,rfl,⟨DO.deep t ht,tv3⟩,me3.ok DO ht,Nat.le_trans me3.len DO.len,?_⟩;generalize h4:upd H3 d (dN d (G8 ρ xH Jz vD))=H4;obtain⟨b4,me4,l4⟩:=me3.put ht tv3 T hDW h4.symm;have tv4:=tv3.BM (b4.BM me3.at_);have key4:KP H4 xH Jz:=⟨DO.deep t ht,tv4⟩;obtain⟨q',hq',hv⟩:∃q',(G8 ρ (some t) (.ref a) (.ref D)).find? (fun q=>decide (q.1=some t))=some q'/\∃l,q'.2.2=.ref l/\H4 l=some (.lst ((FQ rows t).map V.int)):=by
      obtain⟨q',hq'⟩:=ff ρ xH Jz vD;obtain⟨hm,hk⟩:=find_key hq';obtain⟨u,l,h1,h2,h3,h4,h5,_⟩:=me4.all q' hm;rw[hk]at h1;cases h1;exact⟨q',hq',l,h4,h5⟩
     obtain⟨l,hv,hl⟩:=hv;refine⟨_,rfl,_,rfl,d,_,some t,q',rfl,key4,me4.ok DO ht,hq',?_⟩;rw[hv];exact q H4 _ l ((e1.trans (.of g)).trans b4) me4 hl
end
def GF(r:uH):uB:=r.map fun q=>(q.den:Int)
def JJ(t:Tb)(i:Nat):uB:=GF t.ls++((t.rs.take i).map GF).flatten
def Fi(t:Tb):Int:=JD (JJ t t.rs.length)
def Tb.Fits(t:Tb)(n:Nat):Prop:=(∀r∈t.rs,∀q∈r,FM.Fits q n)/\∀q∈t.ls,FM.Fits q n
def Rm{t:Tb}{i:Nat}{r:uH}(h:t.rs[i]? = some r):JJ t On=JJ t i++GF r:=by
 unfold JJ;rw[List.take_add_one,h,List.map_append,List.flatten_append,List.append_assoc];simp
def MF{t:Tb}{m:Nat}(o:t.Ok m):∀i,i<=t.rs.length->(JJ t i).length<=t.rs.length+t.rs.length*i
 |0,_=>by unfold JJ GF;simp[o.last]
 |i+1,h=>by
  have g:=aL (l:=t.rs) (i:=i) AC;have:=MF o i AC;rw[Rm g,List.length_append,show(GF t.rs[i]).length=t.rs[i].length from bU _,o.row i _ g,Nat.mul_succ]
  lia
def US{t:Tb}{n:Nat}(h:t.Fits n)(i:Nat):∀b∈JJ t i,1<=b/\b.natAbs<2^n:=fun b hb=>by
 unfold JJ at hb;rcases bG.mp hb with hb|hb
 .exact Xv h.2 b hb
 .obtain⟨l,T,hb⟩:=List.mem_flatten.mp hb;obtain⟨r,g,rfl⟩:=aT.mp T;exact Xv (h.1 r (List.mem_of_mem_take g)) b hb
def mK:Sp:=fun vs H Q _=>∃(v:V) (t:Tb) (m n:Nat),vs=[v]/\DU H f8 v/\t.Ok m/\m<=40/\t.Fits n/\n*(m+m*m)<=4000/\∀H',AL H H'->Q (.int (Fi t)) H'
section
variable{P:Go}{w:KB}{K:Fg}{mg:t7}{base:Heap}{f g1 g2:AD}{fd gd1:Fr}
def Q5:Ah ["table","bottoms","row"] QB (AM Ji):=B8
def R9(F:Fn K mg "table_bottom" Ji QB f fd)(Cc:Fn K mg "common_bottom" FW xF g1 gd1) (JH:AI P w K mg base Ai 2 g1 gd1 xF cU):AI P w K mg base Ai 3 f fd QB mK:=by
 have sc:=Q5;refine F.F.ok (k:=2) sc Hb (fun cdv A outer s H vs Q E g h=>?_)
 .obtain⟨v,t,m,n,rfl,_⟩:=h
  rfl
 obtain⟨v,t,m,n,rfl,dt,ot,hm,ft,hnm,q⟩:=h;obtain⟨p,R,L,xs,ys,rfl,hp,hR,dR,hL,dL⟩:=dt.tab;have hyl:ys.length=t.ls.length:=by rw[dL.len,DV]
 have hxl:xs.length=t.rs.length:=by rw[dR.len,B7]
 have h1:=ot.most;have h2:=ot.last;refine⟨_,(Aa (P0 (i:=1) [".0","part"] 1 [none,none] sc.nd rfl rfl (EZ zCN) cx zEB)
 (Aa (Hr aO rfl (EZ zCN) zCR
  (Aj (Ca (Hz af PySem.F.slot_list_extend PySem.F.type_list_extend Ln zCb (AH (Ff [".0","part"] 1 [none,none] (EZ zDJ) cx zEB) AV)))))
 (Aj (BU (Bt Cc JH g rfl v6))))),?_⟩
 refine⟨_,rfl,_,_,_,_,rfl,rfl,BJ.of hp,rfl,L,rfl,⟨_,Ar.of hL⟩,fun Z hZ=>Fq (n:=ys.length) (fun i us H'=>AL H H'/\us=(GF (t.ls.take i)).map V.int) ⟨Al hZ _,rfl⟩ ?_ ?_⟩
 .rintro i us H1 hi ⟨e1,rfl⟩ hD1;have g:t.ls[i]? = some (t.ls[i]' AC):=aL _;obtain⟨p,U,T⟩:=NI dL g;generalize t.ls[i]' AC=r at g T;refine⟨⟨ys,.ref p,Ar.of (e1 _ _ hL),U⟩,Qy (n:=60) (by unfold GF;simp;lia) AT,fun x H' y=>?_⟩;obtain⟨rfl,y⟩:=y;have hx:=y ys (Ar.of (e1 _ _ hL));rw[U]at hx;cases hx;unfold HK;refine E8 ⟨_,rfl,_,_,_,_,rfl,rfl,BJ.of (e1 _ _ T),rfl,hD1,EG hi ⟨fun b o z=>?_,?_⟩⟩
  .rw[AK (AW z hZ)];exact e1 _ _ z
  .rw[List.take_add_one,g,GF,GF,List.map_append,List.map_append]
   rfl
 rintro us H1 ⟨e1,rfl⟩ hZ1;rw[hyl,List.take_length]at hZ1;refine⟨⟨ys,Ar.of (e1 _ _ hL),Nat.le_refl _⟩,?_⟩;refine⟨_,rfl,_,_,_,_,rfl,rfl,BJ.of (e1 _ _ hp),rfl,R,rfl,⟨_,Ar.of (e1 _ _ hR)⟩,LY (xs:=xs) (fun i σ H'=>∃r2,σ=[some vS,some (.ref Z),r2]/\AL H H'/\H' Z=some (.lst ((JJ t i).map V.int))) ?_ ?_ ?_ ?_⟩
 .exact⟨_,rfl,e1,by rw[hZ1];unfold JJ;simp⟩
 .rintro i σ H' _ ⟨r2,rfl,e,_⟩;exact Ar.of (e _ _ hR)
 .rintro i x σ H2 hx ⟨r2,rfl,e2,Y⟩;have hi:i<t.rs.length:=by rw[<-hxl];exact(aD.mp hx).1
  have g:t.rs[i]? = some t.rs[i]:=aL hi;have hrl:=ot.row _ _ g;obtain⟨a,zs,g1,g2,dz⟩:=Wj dR g;generalize t.rs[i]=row at g dz hrl;rw[hx]at g1;cases g1;have hzl:zs.length=row.length:=by rw[dz.len,DV]
  refine⟨_,rfl,.inl ⟨rfl,_,Ar.of Y⟩,_,rfl,a,rfl,⟨_,Ar.of (e2 _ _ g2)⟩,fun D hD=>Fq (n:=zs.length) (fun j ys H'=>AL H2 H'/\ys=(GF (row.take j)).map V.int) ⟨Al hD _,rfl⟩ ?_ ?_⟩
  .rintro j us H3 hj ⟨e3,rfl⟩ hD3;have E3:=e2.trans e3;have g:row[j]? = some (row[j]' AC):=aL _;obtain⟨p,U,T⟩:=NI dz g;generalize row[j]' AC=r at g T;refine⟨⟨zs,.ref p,Ar.of (E3 _ _ g2),U⟩,Qy (n:=60) (by unfold GF;simp;lia) AT,fun x H' y=>?_⟩;obtain⟨rfl,y⟩:=y;have hx:=y zs (Ar.of (E3 _ _ g2));rw[U]at hx;cases hx;unfold HK;refine E8 ⟨_,rfl,_,_,_,_,rfl,rfl,BJ.of (E3 _ _ T),rfl,hD3,EG hj ⟨fun b o z=>?_,?_⟩⟩
   .rw[AK zAD];exact e3 _ _ z
   .rw[List.take_add_one,g,GF,GF,List.map_append,List.map_append]
    rfl
  .rintro us H3 ⟨e3,rfl⟩ hD3;have E3:=e2.trans e3;rw[hzl,List.take_length]at hD3;refine⟨⟨zs,Ar.of (E3 _ _ g2),Nat.le_refl _⟩,Z,D,_,_,rfl,rfl,e3 _ _ Y,hD3,?_,_,rfl,fun b o z=>?_,?_⟩
   .have:=MF ot i AC;rw[List.length_map,List.length_map,show(GF row).length=row.length from bU _];have h40:t.rs.length*i<=40*40:=Nat.mul_le_mul AC AC;exact aP (show _<=2000 by lia) Nk
   .rw[AK (AW z hZ)];exact e3 _ _ (e2 _ _ z)
   .rw[AU,Rm g,List.map_append]
 .rintro σ H2 ⟨r2,rfl,e2,Y⟩;rw[hxl]at Y;refine⟨_,rfl,Z,_,n,rfl,Y,US ft _,?_,q H2 e2⟩;have:=MF ot _ UF;have h3:t.rs.length*t.rs.length<=m*m:=Nat.mul_le_mul h1 h1;exact aP (av n AC) hnm
end
def GA(t:Tb):List uB:=(t.rs++[t.ls]).map fun r=>Gk r (Fi t)
def EJ(t:Tb)(u:Tr):Rat:=Rat.divInt ((FQ (GA t) u).getLast?.getD 0) (Fi t^u.AR)
def mS:Sp:=fun vs H Q _=>∃v u,vs=[v]/\Tv H u v/\u.deep<8/\u.AR<=8/\∀H',AL H H'->Q (.int (u.AR:Nat)) H'
def kA(Dm:uJ)(c:Nat):Sp:=fun vs H Q _=>∃(v:V) (t:Tb) (L:AD) (g:ON) (ts:yw) (m n k:Nat),vs=[v,.ref L]/\DU H f8 v/\t.Ok m/\m<=40/\t.Fits n/\n*(m+m*m)<=4000/\LL (GA t) c/\(Fi t).natAbs<2^k/\n+k<=4000/\1<=Fi t /\
 H L=some (.lst g)/\g.length=ts.length/\ts.length<=1000/\(∀(i:Nat) (x:V),g[i]? = some x->∃u,ts[i]? = some u/\Tv H u x/\u∈Dm/\u.AR<=8/\k*u.AR<=4000) /\
 ∀D H' T,AL H H'->H D=none->H' D=some (.lst T)->CT H' (An (ts.map (EJ t))) T->Q vD H'
def Pr(H:Hp)(zs:uI)(g:uH):Prop:=zs.length=g.length/\∀(i:Nat) (q:Rat),g[i]? = some q->∃p:AD,zs[i]? = some vS/\H p=some (.tup (KO q))
def Pr.BM{H H':Hp}{zs:uI}{g:uH}(h:Pr H zs g)(e:MM H H'):Pr H' zs g:=⟨h.1,fun i q hi=>let⟨p,U,T⟩:=h.2 i q hi;⟨p,U,e _ _ T⟩⟩
def Pr.snoc{H:Hp}{zs:uI}{g:uH}(h:Pr H zs g){p:AD}{q:Rat}(T:H p=some (.tup (KO q))):Pr H (zs++[.ref p]) (g++[q]):=by
 refine⟨by rw[List.length_append,List.length_append,h.1];rfl,fun i r hi=>?_⟩;by_cases z:i<g.length
 .rw[List.getElem?_append_left z]at hi;rw[List.getElem?_append_left (by rw[h.1];exact z)];exact h.2 i r hi
 .rw[List.getElem?_append_right AC]at hi;rw[List.getElem?_append_right (by rw[h.1];lia),h.1];have:i-g.length=0:=by
   have:=(aD.mp hi).1;simp at this
   lia
  rw[this]at hi ⊢;cases hi;exact⟨p,rfl,T⟩
def Pr.qT{H:Hp}:∀ {g:zk} {zs:ON},Pr H zs g->CT H (An g) zs
 |[],[],_=>.nil
 |[],_::_,h=>by cases h.1
 |_::_,[],h=>by cases h.1
 |q::g,z::zs,h=>by
  obtain⟨p,U,T⟩:=h.2 0 q rfl;cases U;refine .cons (Zh T) (Pr.qT ⟨by simpa using h.1,fun i r hi=>?_⟩);exact h.2 On r hi
def iQ{xs:uB}(h:1<=xs.length):Gu (xs.map V.int) (-1)=some (V.int (xs.getLast?.getD 0)):=by
 have g:xs≠[]:=fun z=>by rw[z]at h;exact absurd h AT
 have e:=List.dropLast_concat_getLast g;rw[<-e,List.map_append,List.getLast?_append];exact ej _ _
def kZ{b:Int}(h:1<=b)(k:Nat):b^k≠0:=Int.ne_of_gt (Int.pow_pos h)
def fv{b:Int}{k p:Nat}(h:b.natAbs<2^k)(hk:k*p<=4000):∃m,m<=9000/\(b^p).natAbs<2^m:=by
 refine⟨k*p+1,by lia,?_⟩;rw[Int.natAbs_pow];refine aR (Nat.pow_le_pow_left (bC h) p) ?_;rw[<-Nat.pow_mul];exact Nat.pow_lt_pow_of_lt AT AC
section
variable{P:Go}{w:KB}{K:Fg}{mg:t7}{base:Heap}{f g1 g2 g3 g4 g5 g6:AD}{fd gd1 gd2 gd3 gd4 gd5 gd6:Fr}
def QR:Ah ["table","trees","bottom","rows","known","weights","tree"] Px (AM Gp):=B8
def Qe{Dm:uJ}{c:Nat}(DO:Y2 Dm c)(F:Fn K mg "weights_under" Gp Px f fd)(HI:Fn K mg "table_bottom" Ji QB g1 gd1)(Jn:Fn K mg "tops_over" MQ vf g2 gd2) (FH:Fn K mg "readings" NL vg g3 gd3)(Kn:Fn K mg "power_of" Nc yR g4 gd4)(BG:Fn K mg "knots_within" EV SC g5 gd5)(CV:Fn K mg "fraction_of" GR um g6 gd6) (Sr:AI P w K mg base Ai 11 g1 gd1 QB mK)(Wv:AI P w K mg base Ai 11 g2 gd2 vf bq)(Ng:AI P w K mg base Ai 11 g3 gd3 vg (Zf Dm c 8))(Y9:AI P w K mg base Ai 11 g4 gd4 yR hJ) (Bp:AI P w K mg base Ai 11 g5 gd5 SC mS)(GK:AI P w K mg base Ai 11 g6 gd6 um Qw):AI P w K mg base Ai 12 f fd Px (kA Dm c):=by
 have sc:=QR;refine F.F.ok (k:=11) sc Hb Fa
 .obtain⟨v,t,L,tvs,ts,m,n,k,rfl,_⟩:=h
  rfl
 obtain⟨v,t,L,tvs,ts,m,n,k,rfl,dt,ot,hm,ft,hnm,ro,hB,hnk,hB1,hL,htl,hts,hall,q⟩:=h;have o1:=ot.most;have o2:=ot.last;have o3:=ot.one;refine⟨_,(Aa (BC (i:=2) sc.nd rfl x9 (Bt HI Sr hr rfl (AH zDz AV)))
 (Aa (P0 (i:=3) [".0","row","bottom"] 1 [none,none,some 2] sc.nd rfl rfl (EZ (A2 VG zCN (Jx zEC))) cx (fun _ _ _ _ _=>(Bt Jn Wv hr rfl (AH zCb v7))))
 (Aa (BC (i:=4) sc.nd rfl At dg)
 (Aa (BC (i:=5) sc.nd rfl At (Jx AV))
 (Aa (Hr aO rfl (EZ zCb) (A6 (i:=6) sc.nd rfl At)
  (Aj (Ca (Hz af bD bE FK (pv 5) (AH (Bt CV GK hr rfl (AH (CK Mf (Bt FH Ng hr rfl (AH (pv 3) (AH (pv 6) (AH (pv 4) AV)))) (Yy WM AY) Db) (AH (Bt Kn Y9 hr rfl (AH zDJ (AH (Bt BG Bp hr rfl (AH (pv 6) AV)) AV))) AV))) AV)))))
 (Aj (BU (pv 5)))))))),?_⟩
 refine⟨_,rfl,v,t,m,n,rfl,dt,ot,hm,ft,hnm,fun H1 e1=>?_⟩;obtain⟨p,R,U,xs,ys,rfl,hp,hR,dR,hL',dL⟩:=(dt.same e1).tab;have hxl:xs.length=t.rs.length:=by rw[dR.len,B7]
 refine⟨_,rfl,_,_,_,_,rfl,rfl,BJ.of hp,rfl,_,rfl,_,_,_,_,rfl,rfl,BJ.of hp,rfl,(by show 1<=sizeLine;decide),fun q1 hq1=>?_⟩;have e2:=Al hq1 (.lst [V.ref U]);have h2:upd H1 q1 (.lst [V.ref U]) q1=some (.lst [V.ref U]):=AU;generalize upd H1 q1 (.lst [V.ref U])=H2 at e2 h2;refine⟨R,q1,_,_,rfl,rfl,e2 _ _ hR,h2,Q8 ii,fun C0 hC0=>?_⟩;have e3:=Al hC0 zT;have h3:upd H2 C0 zT C0=some zT:=AU;generalize upd H2 C0 zT=H3 at e3 h3;have E3:=(e1.trans e2).trans e3;have E13:=e2.trans e3;have get:∀(i:Nat) (row:zk),(t.rs++[t.ls])[i]? = some row->∃(a:AD) (T:ON),(xs++[V.ref U])[i]? = some Jz/\H3 a=some (.lst T)/\CT H3 (An row) T/\row.length<=50/\∀q∈row,FM.Fits q n:=fun i row hi=>by
  by_cases z:i<t.rs.length
  .rw[List.getElem?_append_left z]at hi;rw[List.getElem?_append_left AC];obtain⟨a,T,g1,g2,g3⟩:=Wj dR hi;exact⟨a,T,g1,E13 _ _ g2,g3.same E13,by rw[ot.row i row hi];lia,ft.1 row (aJ hi)⟩
  .rw[List.getElem?_append_right AC]at hi;have:i-t.rs.length=0:=by
    have:=(aD.mp hi).1;simp at this
    lia
   rw[this]at hi;cases hi;rw[List.getElem?_append_right AC,hxl,this];exact⟨U,ys,rfl,E13 _ _ hL',dL.same E13,by lia,ft.2⟩
 have hal:(t.rs++[t.ls]).length=(xs++[V.ref U]).length:=by rw[List.length_append,List.length_append,hxl];rfl
 have hal60:(xs++[V.ref U]).length<60:=by rw[List.length_append,hxl];simp;lia
 refine⟨C0,rfl,⟨_,Ar.of h3⟩,fun D hD=>Fq (n:=(xs++[V.ref U]).length) (fun i us H'=>AL H3 H'/\us.length=i/\∀(j:Nat) (row:zk),j<i->(t.rs++[t.ls])[j]? = some row->∃a:AD,us[j]? = some Jz/\H' a=some (.lst ((Gk row (Fi t)).map V.int))/\a≠D) ?_ ?_ ?_⟩
 .exact⟨Al hD _,rfl,fun j row hj=>absurd hj yi⟩
 .rintro i us H4 hi ⟨e4,hul,hus⟩ hD4;have hr:(t.rs++[t.ls])[i]? = some ((t.rs++[t.ls])[i]' AC):=aL _;generalize (t.rs++[t.ls])[i]' AC=row at hr;obtain⟨a,T,g1,g2,g3,g4,g5⟩:=get i row hr;refine⟨⟨_,.ref a,Ar.of (e4 _ _ h3),g1⟩,Qy (n:=60) AC AT,fun x H' y=>?_⟩;obtain⟨rfl,y⟩:=y;have hx:=y _ (Ar.of (e4 _ _ h3));rw[g1]at hx;cases hx;unfold HK;refine E8 ⟨_,rfl,_,rfl,a,T,row,Fi t,n,k,rfl,e4 _ _ g2,g3.same e4,g4,g5,hB,hnk,fun D5 H5 e5 n5 h5=>⟨e5 _ _ hD4,EG hi ⟨fun b o z=>?_,by simp[hul],fun j Y hj hr'=>?_⟩⟩⟩
  .rw[AK zAD];exact e5 _ _ (e4 _ _ z)
  .by_cases z:j<i
   .obtain⟨b,k1,k2,k3⟩:=hus j Y z hr';exact⟨b,by rw[List.getElem?_append_left AC];exact k1,by rw[AK k3];exact e5 _ _ k2,k3⟩
   .have:j=i:=by lia
    subst this;rw[hr]at hr';cases hr';have nD:D5≠D:=fun z=>by rw[z,hD4]at n5;cases n5
    exact⟨D5,by rw[List.getElem?_append_right AC,hul,Nat.sub_self];rfl,by rw[AK nD];exact h5,nD⟩
 rintro rvs H4 ⟨e4,hul,hus⟩ hD4;refine⟨⟨_,Ar.of (e4 _ _ h3),Nat.le_refl _⟩,?_⟩;have E4:=E3.trans e4;have hrw:UR H4 rvs (GA t):=by
  refine⟨by rw[hul,<-hal];exact(bU _).symm,fun j row hj=>?_⟩;unfold GA at hj;rw[List.getElem?_map]at hj;cases hj':(t.rs++[t.ls])[j]? with
  |none=>rw[hj']at hj;cases hj
  |some Y=>
   rw[hj']at hj;cases hj;obtain⟨a,k1,k2,_⟩:=hus j Y (by rw[<-hal];exact(aD.mp hj').1) hj';exact⟨a,k1,k2⟩
 have hDn:H D=none:=Uy E3 hD;refine fun d hd=>?_;have e5:=Al hd (dN d []);have h5:upd H4 d (dN d []) d=some (dN d []):=AU;generalize upd H4 d (dN d [])=H5 at e5 h5;refine⟨(by show 0<=sizeLine;decide),fun W hW=>?_⟩;have e6:=Al hW li;have h6:upd H5 W li W=some li:=AU;generalize upd H5 W li=H6 at e6 h6;have hdn:=Uy E4 hd;have E5:=E4.trans e5;have hWn:=Uy E5 hW;have E6:=E5.trans e6;have hdW:d≠W:=fun z=>by rw[<-z,h5]at hW;cases hW
 have W4:H4 W=none:=Uy e5 hW;refine⟨_,rfl,L,rfl,⟨_,Ar.of (E6 _ _ hL)⟩,LY (xs:=tvs) (fun i σ H'=>∃(r6:Option V) (ρ:vU) (T:ON),σ=[some vS,some (.ref L),some (.int (Fi t)),some vD,some zAP,some (.ref W),r6]/\AL H4 H'/\Memo Dm (GA t) W H' d ρ/\H' W=some (.lst T)/\Pr H' T ((ts.take i).map (EJ t))) ?_ ?_ ?_ ?_⟩
 .refine⟨_,[],[],rfl,e5.trans e6,⟨e6 _ _ h5,.nil,fun q hq=>by cases hq⟩,h6,rfl,fun i q hi=>by cases hi⟩
 .rintro i σ H' _ ⟨r6,ρ,T,rfl,e,_⟩;exact Ar.of (e _ _ (E4 _ _ hL))
 .rintro i x σ H7 hx ⟨r6,ρ,T,rfl,e7,Z,hW7,fl7⟩;obtain⟨u,hu,tu,hD,h8,hk⟩:=hall i x hx;have E7:=E4.trans e7;refine⟨_,rfl,.inl ⟨rfl,_,Ar.of hW7⟩,_,rfl,_,rfl,_,rfl,D,rvs,GA t,x,u,d,ρ,W,rfl,e7 _ _ hD4,hrw.same e7,ro,tu.same E7,hD,DO.deep u hD,⟨_,hW7⟩,Z,fun H8 ρ8 l e8 me8 hl8=>?_⟩;have tu8:=(tu.same E7).BM (e8.BM Z.at_);have hW8:=e8.lst Z.at_ hW7;have fl8:=fl7.BM (e8.BM Z.at_);have hne:(FQ (GA t) u).length=(t.rs++[t.ls]).length:=(Mv _ _).trans (bU _);have hE8:AL H4 H8:=fun b o z=>e8 _ _ (fun y=>by rw[y,hd]at z;cases z) (e7 _ _ z);refine⟨_,rfl,_,_,_,_,rfl,rfl,Ar.of hl8,iQ (by rw[hne,List.length_append];simp),?_⟩;refine⟨_,rfl,_,rfl,x,u,rfl,tu8,DO.deep u hD,h8,fun H9 e9=>?_⟩;refine⟨Fi t,u.AR,k,rfl,hB,hk,?_⟩;obtain⟨mb,hmb,hpb⟩:=fv hB hk;refine⟨_,_,mb,rfl,kZ hB1 _,hmb,hpb,fun l' H10 e10 hl10=>?_⟩;have g:=e9.trans e10;refine⟨W,T,.ref l',rfl,rfl,g _ _ hW8,LJ ?_,?_⟩
  .rw[fl7.1,List.length_map,List.length_take];lia
  .refine⟨_,ρ8,_,rfl,fun b o z=>?_,⟨?_,me8.nd,fun q' hq'=>?_⟩,AU,?_⟩
   .rw[AK (AW z W4)];exact g _ _ (hE8 _ _ z)
   .rw[AK hdW];exact g _ _ me8.at_
   .obtain⟨u',l2,k1,k2,k3,k4,k5,k6⟩:=me8.all q' hq';exact⟨u',l2,k1,k2,(k3.same g).BM (MM.upd (g _ _ hW8)),k4,by rw[AK k6];exact g _ _ k5,k6⟩
   .rw[List.take_add_one,hu,List.map_append];refine((fl8.BM (.of g)).snoc (q:=EJ t u) hl10).BM (MM.upd (g _ _ hW8))
 .rintro σ H7 ⟨r6,ρ,T,rfl,e7,Z,hW7,fl7⟩;rw[htl,List.take_length]at fl7;exact⟨_,rfl,q W H7 T (E4.trans e7) hWn hW7 fl7.qT⟩
end
section
variable{P:Go}{w:KB}{K:Fg}{mg:t7}{base:Heap}{f:AD}{fd:Fr}
def SO:Ah SC SC (AM EV):=B8
def M4(A8:MD):DF :=
 (Bo (AQ A7 Da (AX YU (AA (Dy (Ex 1) F9 (AX A8 zCc) [none,none] (GG LE)) AG))))
def A8:Nat->MD
 |0=>fun _=>none
 |n+1=>Dh SC SC (M4 (A8 n))
def L5{k:Nat}(g:Fn K mg "knots_within" EV SC f fd)(T:zBM):∀n,
  AI P w K mg base Ai (k+n+1) f fd SC (Be (A8 n))
 |0=>Jv fun _ _ _ _ ⟨_,_,_,h,_⟩=>by cases h
 |n+1=>by
  have sc:=SO;have Y:=L5 (k:=k) g T n;refine Ii (k:=k+n+1) (F:=M4 (A8 n)) g sc fun cdv A outer s H E U=>?_;exact(Ab (BO (A1 BN AJ (Di (cM rfl) rfl T bo (AB (Ky [".0","bough"] 1 [none,none] (FG EQ) uT (fun _ _ _ _ _=>(Aq g Y U rfl zCr))) AF)))))
def PZ:Ah ["tree","density","bough"] SC (AM Ei):=B8
def LA(A8:MD)(Ae:MD):DF :=
 (Ag (Bh 1 (AX A8 zCf))
 (Ag (C6 (GG LE) (Ew 2)
  (Bh 1 (AQ Fc M0 (AX Ae zCT))))
 (Bo M0)))
def Ae(A8:MD):Nat->MD
 |0=>fun _=>none
 |n+1=>Dh SC ["tree","density","bough"] (LA A8 (Ae A8 n))
def Kc{k:Nat}{A8:MD}(T:Fn K mg "density_within" Ei SC f fd)
 {Y:AD}{Z:Fr}(BG:Fn K mg "knots_within" EV SC Y Z)(g:AI P w K mg base Ai k Y Z SC (Be A8)):∀n,
  AI P w K mg base Ai (k+n+1) f fd SC (Be (Ae A8 n))
 |0=>Jv fun _ _ _ _ ⟨_,_,_,h,_⟩=>by cases h
 |n+1=>by
  have sc:=PZ;have Bj:=Kc (k:=k) (A8:=A8) T BG g n;have g:=g.mono (show k<=k+n+1 by lia);refine Ii (k:=k+n+1) (F:=LA A8 (Ae A8 n)) T sc fun cdv A outer s H E U=>?_;exact(AO (Bg (i:=1) sc.nd rfl At (Aq BG g U rfl (AB EQ AF)))
 (AO (EB aO rfl (FG EQ) (E9 zCR)
  (Ab (Bg (i:=1) sc.nd rfl At (A1 LU Ho (Aq T Bj U rfl zCs)))))
 (Ab (BO Ho))))
def JU:Ah zG zG (AM Gz):=B8
def OU:DF :=
 (Bo (AX IT (AA (AX (RI true) zCf) AG)))
def A3:MD:=Dh zG zG (OU)
def N3{k:Nat}(F:Fn K mg "in_falling_order" Gz zG f fd)(T:mg "sorted" = none)(U:wU):AI P w K mg base Ai io f fd zG (Be (A3)):=Ii F JU fun cdv A outer s H E g=>by
 have sc:=JU;exact(Ab (BO (MB QE rfl U bF (AB (fF Lx rfl T (AB EQ AF) (fun h=>eE Lx rfl T h)) AF))))
def N2:Ah ["tree","larger","k","bough","grown"] SC (AM G5):=B8
def Jr(A3:MD)(BI:MD):DF :=
 (Ag (N6 1 (AA (AX A3 (AA (AQ A7 LE (A0 (AA (A0 AG) AG))) AG)) AG))
 (Ag (C6 (C5 NW zCf) (Eu 2 3)
  (C6 (GG (AX BI Pi)) (Ew 4)
   (MR 1 (AX A3 (AA (AQ A7 (AQ A7 (Ir LE Gh (Gm Lz)) (A0 (AA v8 AG))) (Ir LE (Gm (AQ A7 Lz Da)) Gh)) AG)))))
 (RZ 1)))
def BI(A3:MD):Nat->MD
 |0=>fun _=>none
 |n+1=>Dh SC ["tree","larger","k","bough","grown"] (Jr A3 (BI A3 n))
def JR{k:Nat}{A3:MD}(Y:Fn K mg "trees_one_larger" G5 SC f fd)
 {Z:AD}{JV:Fr}(U:Fn K mg "in_falling_order" Gz zG Z JV)(g:AI P w K mg base Ai k Z JV zG (Be A3))(Cf:mg "enumerate" = none):∀n,
  AI P w K mg base Ai (k+n+1) f fd SC (Be (BI A3 n))
 |0=>Jv fun _ _ _ _ ⟨_,_,_,h,_⟩=>by cases h
 |n+1=>by
  have sc:=N2;have EA:=JR (k:=k) (A3:=A3) Y U g Cf n;have g:=g.mono (show k<=k+n+1 by lia);refine Ii (k:=k+n+1) (F:=Jr A3 (BI A3 n)) Y sc fun cdv A outer s H E T=>?_;exact(AO (K9 (i:=1) sc.nd rfl At (AB (Aq U g T rfl (AB (A1 BN EQ (A9 (AB (A9 AF) AF))) AF)) AF))
 (AO (EB aO rfl (Ta rfl Cf (AB EQ AF)) (OV (Jy rfl (CU zCR (CU zCk IY))))
  (Ab (EB aO rfl (FG (Aq Y EA T rfl zCw)) (E9 zCj)
   (Ab (IX zCb (Aq U g T rfl (AB (A1 BN (A1 BN (G9 EQ IZ (Ie IO)) (A9 (AB uW AF))) (G9 EQ (Ie (A1 BN IO AJ)) IZ)) AF)) xx)))))
 (Ab (PK zCb))))
def P9:Ah ["many","trees","knots","larger","tree"] zm (AM Io):=B8
def ZR(BI:MD):DF :=
 (Ag (Fp (MX (CA OB LE Da) (CA uy LE (fC (.int 7))))
  Zp
  Co)
 (Ag (Bh 1 (BH (AA (A0 AG) AG)))
 (Ag (C6 (C5 Yu (AA Da zCf)) (Ew 2)
  (Ag (N6 3 AG)
  (Ag (C6 (GG M0) (Ew 4)
   (eD 3 (AX BI (AA v8 AG))))
  (U5 3 (Bh 1 (fun δ=>((nm 3) δ).bind QO))))))
 (Bo M0))))
def BK(BI:MD):MD:=Dh zm ["many","trees","knots","larger","tree"] (ZR BI)
def Wz{k:Nat}{BI:MD}(F:Fn K mg "trees_of" Io zm f fd) {U:AD}{Y:Fr}(B3:Fn K mg "trees_one_larger" G5 SC U Y)(EA:AI P w K mg base Ai k U Y SC (Be BI))(BQ:uc)(ZI:mg "set" = none)(IU:mg "sorted" = none){g:Tok}(Fy:mg "MOST_KNOTS" = some (.int 7 g)):AI P w K mg base Ai io f fd zm (Be (BK BI)):=Ii F P9 fun cdv A outer s H E T=>by
 have sc:=P9;exact(AO (Dr zDd
  (Ab Vx)
  CB)
 (AO (Bg (i:=1) sc.nd rfl At (BA (AB (A9 AF) AF)))
 (AO (EB aO rfl (UD rfl BQ (AB AJ (AB EQ AF))) (E9 zCR)
  (AO (K9 (i:=3) sc.nd rfl At AF)
  (AO (EB aO rfl (FG Ho) (E9 zCj)
   (Ab (OM (pv 3) (Aq B3 EA T rfl (AB uW AF)) xI)))
  (Ab (RD 3 (Bg (i:=1) sc.nd rfl At (Y0 rfl vW rfl IU rfl ZI Nr)))))))
 (Ab (BO Ho)))))
def Pp:Ah ["most","trees","many"] ["most"] (AM Kl):=B8
def YT(BK:MD):DF :=
 (Ag (Fp (MX (CA OB LE IN) (CA uy LE (fC (.int 7))))
  Zp
  Co)
 (Ag (N6 1 AG)
 (Ag (C6 (C5 Yu (AA Da (AA (AQ A7 LE Da) AG))) (Ew 2)
  (eD 1 (AX BK zCT)))
 (RZ 1))))
def Bv(BK:MD):MD:=Dh ["most"] ["most","trees","many"] (YT BK)
def Wy{k:Nat}{BK:MD}(F:Fn K mg "trees_to" Kl ["most"] f fd) {T:AD}{U:Fr}(Dp:Fn K mg "trees_of" Io zm T U)(EL:AI P w K mg base Ai k T U zm (Be BK))(BQ:uc){g:Tok}(Fy:mg "MOST_KNOTS" = some (.int 7 g)):AI P w K mg base Ai io f fd ["most"] (Be (Bv BK)):=Ii F Pp fun cdv A outer s H E Y=>by
 have sc:=Pp;exact(AO (Dr zDd
  (Ab Vx)
  CB)
 (AO (K9 (i:=1) sc.nd rfl At AF)
 (AO (EB aO rfl (UD rfl BQ (AB AJ (AB (A1 BN EQ AJ) AF))) (E9 zCR)
  (Ab (OM zCb (Aq Dp EL Y rfl zCs) xI)))
 (Ab (PK zCb)))))
def Pe:Ah IF IF (AM GB):=B8
def ZH:DF :=
 (Bo (Wk (Te J5 LE) (sE (Te Ij LE))))
def BZ:MD:=Dh IF IF (ZH)
def W2{k:Nat}(F:Fn K mg "is_whole" GB IF f fd)(U:mg "bool" = none)(T:mg "int" = none)(g:W1):AI P w K mg base Ai io f fd IF (Be (BZ)):=Ii F Pe fun cdv A outer s H E Y=>by
 have sc:=Pe;exact(Ab (BO (RT (Md (Wr _) rfl g rfl T PyProof.Rows.boot_int EQ) (Rh (lL (Md (UP _) rfl g rfl U PyProof.Rows.boot_bool EQ))))))
def Mr:Ah IF IF (AM FD):=B8
def Nx(g:MD)(BZ:MD):DF :=
 (Ag (Fp zEF
  (Bo (fC cr))
  Co)
 (Ag (Fp (MX (Le (Jj (AX BZ (AA zDR AG)))) (Le (Jj (AX BZ zDl))))
  (Bo (fC cr))
  Co)
 (Bo (Wk (AQ xg (AQ B4 LE Da) Da) (AQ (Er false) (AX g (AA zDR zDl)) Da)))))
def Cn(g:MD)(BZ:MD):MD:=Dh IF IF (Nx g BZ)
def Sh{k:Nat}{Cz:MD}{BZ:MD}(F:Fn K mg "is_fraction" FD IF f fd) {T:AD}{U:Fr}(Ax:Fn K mg "greatest_divisor" CO Js T U)(BS:AI P w K mg base Ai k T U Js (Be Cz)) {Y:AD}{Z:Fr}(CZ:Fn K mg "is_whole" GB IF Y Z)(Dw:AI P w K mg base Ai k Y Z IF (Be BZ))(AN:W1)(A5:am)(B5:wU):AI P w K mg base Ai io f fd IF (Be (Cn Cz BZ)):=Ii F Mr fun cdv A outer s H E g=>by
 have sc:=Mr;exact(AO (Dr zCl
  (Ab zAM)
  CB)
 (AO (Dr (DW.dt (IC (Hu (GS (Aq CZ Dw g rfl (AB zCg AF)))) (Hv (Hu (GS (Aq CZ Dw g rfl (AB zCg AF)))))))
  (Ab zAM)
  CB)
 (Ab (BO (RT (Me gI zCg AJ XV) (Rh (Me (O4 Lx) (Aq Ax BS g rfl (AB zCg (AB zCg AF))) AJ XV)))))))
def J0:Ah IF IF (AM EK):=B8
def He(T:MD)(g:AD):HW :=
 (X5 (Le (Jj (AX T zCf)))
  (RS g (fC (.str (Str.ofString "a table is a tuple of rows, the k-th of k fractions, and a last of as many as there are rows"))))
  (fun δ=>some (.inl zS)))
def Af(T:MD)(g:AD):rW:=Hj IF IF (He T g)
def Ob{k:Nat}{Z:MD}{g:AD}(F:Fn K mg "refuse_no_table" EK IF f fd) {U:AD}{Y:Fr}(Ki:Fn K mg "is_table" NS IF U Y)(NZ:AI P w K mg base Ai k U Y IF (Be Z))(T:Exc K mg "NoTable" g):AI P w K mg base Tl io f fd IF (Ep (Af Z g)):=WZ F J0 fun cdv A outer s H E hr=>by
 have sc:=J0;exact(Kt (ZJ (Hu (GS (Aq Ki NZ hr rfl (AB EQ AF))))
  (Kt (by exact QX T YW Ce))
  Th))
def HZ:Ah zH zH (AM FZ):=B8
def Hw(g:AD):HW :=
 (X5 (CA uy (AX YU (AA (Dy (Ex 1) F9 (AX F0 (AA (AQ B4 M0 IN) AG)) [none,none] (GG LE)) AG)) (fC (.int 40)))
  (RS g (fC (.str (Str.ofString "a table has at most 40 rows"))))
  (fun δ=>some (.inl zS)))
def BR(g:AD):rW:=Hj zH zH (Hw g)
def Lh{k:Nat}{g:AD}(F:Fn K mg "refuse_too_many_rows" FZ zH f fd)(A5:am)(Z:zBM){T:Tok}(Y:mg "MOST_ROWS" = some (.int 40 T))(U:Exc K mg "TooMany" g):AI P w K mg base Tl io f fd zH (Ep (BR g)):=WZ F HZ fun cdv A outer s H E hr=>by
 have sc:=HZ;exact(Kt (ZJ (Bx Q9 (Di (cM rfl) rfl Z bo (AB (Ky [".0","table"] 1 [none,none] (FG EQ) uT (fun _ _ _ _ _=>(Di Gv rfl A5 aa (AB zCy AF)))) AF)) (Gy rfl Y) XV)
  (Kt (by exact QX U YW Ce))
  Th))
def JO:Ah QB QB (AM El):=B8
def En(Af:rW)(g:AD):HW :=
 (Iw zED
 (X5 (CA uy (AX F0 (AA zDR AG)) (fC (.int 5)))
  (RS g (fC (.str (Str.ofString "papers are told and judged of tables of at most five rows"))))
  (fun δ=>some (.inl zS))))
def Au(Af:rW)(g:AD):rW:=Hj QB QB (En Af g)
def Nb{k:Nat}{Af:rW}{T:AD}(F:Fn K mg "refuse_no_judging" El QB f fd) {Y:AD}{Z:Fr}(Bf:Fn K mg "refuse_no_table" EK IF Y Z)(Bn:AI P w K mg base Tl k Y Z IF (Ep Af))(A5:am){g:Tok}(G6:mg "MOST_JUDGED_ROWS" = some (.int 5 g))(U:Exc K mg "TooMany" T):AI P w K mg base Tl io f fd QB (Ep (Au Af T)):=WZ F JO fun cdv A outer s H E hr=>by
 have sc:=JO;exact(G7 (by exact Jf Bf Bn hr L9 zCo yd)
 (Kt (ZJ (Bx Q9 (Di Gv rfl A5 aa (AB zCg AF)) (Gy rfl G6) XV)
  (Kt (by exact QX U YW Ce))
  Th)))
def Lw:Ah zAd zAd (AM Jd):=B8
def My(Ae:MD):DF :=
 (YO (Gg (Ex 1) F9 (A0 (AA Da (AA (AX Ae zCc) AG))) [none,none] (GG LE)))
def CY(Ae:MD):MD:=Dh zAd zAd (My Ae)
def RL{k:Nat}{Ae:MD}(F:Fn K mg "true_weights" Jd zAd f fd) {g:AD}{T:Fr}(Z:Fn K mg "density_within" Ei SC g T)(Y:AI P w K mg base Ai k g T SC (Be Ae)):AI P w K mg base Ai io f fd zAd (Be (CY Ae)):=Ii F Lw fun cdv A outer s H E U=>by
 have sc:=Lw;exact(Ab (jc [".0","tree"] 1 [none,none] (FG EQ) uT (fun _ _ _ _ _=>(A9 (AB AJ (AB (Aq Z Y U rfl zCr) AF))))))
def ME:Ah ["trees","one","other","tree","weight","due"] uo (AM Jg):=B8
def Mj:DF :=
 (Ag (C6 (C5 TU (AA LE (AA M0 zCT))) (VS 3 4 5)
  (Fp (CA yE v8 v9)
   (Bo (nm 3))
   Co))
 (Bo tX))
def Bi:MD:=Dh uo ["trees","one","other","tree","weight","due"] (Mj)
def RM{k:Nat}(F:Fn K mg "first_unlike" Jg uo f fd)(T:y8):AI P w K mg base Ai io f fd uo (Be (Bi)):=Ii F ME fun cdv A outer s H E g=>by
 have sc:=ME;exact(AO (EB aO rfl (jt rfl T (AB EQ (AB Ho zCs))) (di (Jy rfl (CU zCk (CU zCj (CU zDC IY)))))
  (Ab (Dr (Bx (Kk Lx) uW xC XV)
   (Ab (BO Nr))
   CB)))
 (Ab (BO F3)))
def Ms:Ah ["table","order","trees","tree"] QB (AM KL):=B8
def Nv(Bi:MD)(Af:rW)(BK:MD)(CY:MD)(g:MD):HW :=
 (Iw zED
 (YN (Ag (C6 (C5 IM (AA mo AG)) (Ew 1)
  (Ag (Bh 2 (AX BK zDM))
  (Ag (Bh 3 (AX Bi (AA Lz (AA (AX g (AA LE zCT)) (AA (AX CY zCT) AG)))))
  (Fp (CA (P6 true) (nm 3) tX)
   (Bo (A0 (AA M0 Pi)))
   Co))))
 (Bo (A0 (AA mo (AA tX AG)))))))
def Ci(Bi:MD)(Af:rW)(BK:MD)(CY:MD)(g:MD):rW:=Hj QB ["table","order","trees","tree"] (Nv Bi Af BK CY g)
def Td{k:Nat}{Bi:MD}{Af:rW}{BK:MD}{CY:MD}{Ba:MD}(F:Fn K mg "table_order" KL QB f fd) {U:AD}{Lk:Fr}(HN:Fn K mg "first_unlike" Jg uo U Lk)(JY:AI P w K mg base Ai k U Lk uo (Be Bi)) {CG:AD}{B2:Fr}(Bf:Fn K mg "refuse_no_table" EK IF CG B2)(Bn:AI P w K mg base Tl k CG B2 IF (Ep Af)) {FU:AD}{EU:Fr}(Dp:Fn K mg "trees_of" Io zm FU EU)(EL:AI P w K mg base Ai k FU EU zm (Be BK)) {Y:AD}{Z:Fr}(HE:Fn K mg "true_weights" Jd zAd Y Z)(Jh:AI P w K mg base Ai k Y Z zAd (Be CY)) {FJ:AD}{Ec:Fr}(DK:Fn K mg "weights_under" Gp Px FJ Ec)(ED:AI P w K mg base Ai k FJ Ec Px (Be Ba))(BQ:uc){g:Tok}(Cg:zU):AI P w K mg base Tl io f fd QB (Ep (Ci Bi Af BK CY Ba)):=WZ F Ms fun cdv A outer s H E T=>by
 have sc:=Ms;exact(G7 (by exact Jf Bf Bn T L9 zCo yd)
 (Ro (AO (EB aO rfl (Ju rfl BQ (AB (Gy rfl Cg) AF)) (E9 (A6 (i:=1) sc.nd rfl At))
  (AO (Bg (i:=2) sc.nd rfl At (Aq Dp EL T rfl (AB (A1 BN Ho AJ) AF)))
  (AO (Bg (i:=3) sc.nd rfl At (Aq HN JY T rfl (AB IO (AB (Aq DK ED T rfl (AB EQ zCs)) (AB (Aq HE Jh T rfl zCs) AF)))))
  (Ab (Dr (Bx Vm Nr F3 XV)
   (Ab (BO (A9 (AB Ho zCw))))
   CB)))))
 (Ab (BO (A9 (AB (Gy rfl Cg) (AB F3 AF))))))))
def Pg:Ah Px Px (AM NB):=B8
def SA(g:MD):DF :=
 (Bo (fun δ=>((AA M0 (AA (AX g (AA LE zCc)) AG)) δ).bind Yo))
def Dk(g:MD):MD:=Dh Px Px (SA g)
def XE{k:Nat}{U:MD}(F:Fn K mg "lines_of" NB Px f fd) {g:AD}{T:Fr}(DK:Fn K mg "weights_under" Gp Px g T)(ED:AI P w K mg base Ai k g T Px (Be U))(Z:zAc)(EN:y8):AI P w K mg base Ai io f fd Px (Be (Dk U)):=Ii F Pg fun cdv A outer s H E Y=>by
 have sc:=Pg;exact(Ab (BO (qO rfl rfl Z rfl EN (AB Ho (AB (Aq DK ED Y rfl (AB EQ zCr)) AF)))))
def PY:Ah ["tree","parents","bough","number"] SC (AM IQ):=B8
def LF(BD:MD):DF :=
 (Ag (N6 1 AG)
 (Ag (C6 (GG LE) (Ew 2)
  (Ag (Bh 3 (AQ A7 (iL 1) Da))
  (Ag (MR 1 IN)
  (eD 1 (Dy (Ex 1) F9 (AQ A7 Lz M0) [none,none,some 3] (GG (AX BD zCT)))))))
 (RZ 1)))
def BD:Nat->MD
 |0=>fun _=>none
 |n+1=>Dh SC ["tree","parents","bough","number"] (LF (BD n))
def Ka{k:Nat}(T:Fn K mg "parents_within" IQ SC f fd)(U:am):∀n,
  AI P w K mg base Ai (k+n+1) f fd SC (Be (BD n))
 |0=>Jv fun _ _ _ _ ⟨_,_,_,h,_⟩=>by cases h
 |n+1=>by
  have sc:=PY;have Z:=Ka (k:=k) T U n;refine Ii (k:=k+n+1) (F:=LF (BD n)) T sc fun cdv A outer s H E Y=>?_;exact(AO (K9 (i:=1) sc.nd rfl At AF)
 (AO (EB aO rfl (FG EQ) (E9 zCR)
  (AO (Bg (i:=3) sc.nd rfl x9 (A1 BN (cb zCb rfl U) AJ))
  (AO (IX zCb AJ yS)
  (Ab (OM zCb (Ky [".0","parent","number"] 1 [none,none,some 3] (FG (Aq T Z Y rfl zCs)) uT (fun _ _ _ _ _=>(A1 BN IO Ho))) (fun g ha=>Ca (Hz af PySem.F.slot_list_extend PySem.F.type_list_extend Ln g ha)))))))
 (Ab (PK zCb))))
def LG:Ah zJ vP (AM Gq):=B8
def MA(T:MD)(g:MD)(BD:MD):DF :=
 (Ag (Bh 2 (Dy (Eu 1 2) F9 (A0 (AA (A0 zCc) zCT)) [none,none,none] (C5 NW zDl)))
 (Ag (C6 (GG (AX BD zCc)) (Ew 3)
  (Ag (N6 4 AG)
  (Ag (C6 (GG Lz) (Eu 5 6)
   (C6 (C5 NW (AA (AQ B4 zDR (AQ B4 v9 (nm 3))) AG)) (Eu 7 8)
    (MR 4 (A0 (AA (AQ A7 v9 (A0 (AA (nm 7) AG))) (AA (AX T (AA (nm 6) (AA (nm 8) AG))) AG))))))
  (U5 4 (Bh 2 v8)))))
 (Bo (AX g (AA (Dy (Eu 1 2) F9 Lz [none,none,none] (GG Lz)) AG)))))
def BF(T:MD)(g:MD)(BD:MD):MD:=Dh vP zJ (MA T g BD)
def Qu{k:Nat}{Fw:MD}{Fx:MD}{BD:MD}(F:Fn K mg "walked_weight" Gq vP f fd) {U:AD}{Y:Fr}(Iq:Fn K mg "frac_times" LK Js U Y)(Lb:AI P w K mg base Ai k U Y Js (Be Fw)) {T:AD}{Z:Fr}(JF:Fn K mg "frac_total" K7 ["some"] T Z)(La:AI P w K mg base Ai k T Z ["some"] (Be Fx)) {LM:AD}{Ke:Fr}(CM:Fn K mg "parents_within" IQ SC LM Ke)(Ed:AI P w K mg base Ai k LM Ke SC (Be BD))(Cf:mg "enumerate" = none):AI P w K mg base Ai io f fd vP (Be (BF Fw Fx BD)):=Ii F LG fun cdv A outer s H E g=>by
 have sc:=LG;exact(AO (Pt (i:=2) [".0","k","part"] 1 2 [none,none,none] sc.nd rfl rfl (Ta rfl Cf (AB zCg AF)) uT (fun _ _ _ _ _=>(A9 (AB (A9 zCr) zCs))))
 (AO (EB aO rfl (FG (Aq CM Ed g rfl zCr)) (E9 zCk)
  (AO (K9 (i:=4) sc.nd rfl At AF)
  (AO (EB aO rfl (FG IO) (OV (Jy rfl (CU zDC (CU (A6 (i:=6) sc.nd rfl At) IY))))
   (Ab (EB aO rfl (Ta rfl Cf (AB (Bk zCg (Bk xC Nr Db) Db) AF)) (OV (Jy rfl (CU (A6 (i:=7) sc.nd rfl At) (CU (A6 (i:=8) sc.nd rfl At) IY))))
    (Ab (IX (pv 4) (A9 (AB (A1 BN xC (A9 (AB (AE (pv 7)) AF))) (AB (Aq Iq Lb g rfl (AB (AE (pv 6)) (AB (AE (pv 8)) AF))) AF))) xx)))))
  (Ab (RD 4 (Bg (i:=2) sc.nd rfl At uW))))))
 (Ab (BO (Aq JF La g rfl (AB (fh [".0","way","share"] 1 2 [none,none,none] (FG IO) uT (fun _ _ _ _ _=>(AE zDJ))) AF))))))
def Q2:Ah sK sK (AM Lp):=B8
def UQ(Cn:MD):DF :=
 (Ag (Fp zEF
  (Bo (fC cr))
  Co)
 (Bo (Wk (AQ YZ zDR M0) (AX Cn zDl))))
def CH(Cn:MD):MD:=Dh sK sK (UQ Cn)
def YR{k:Nat}{Cn:MD}(F:Fn K mg "is_line" Lp sK f fd) {T:AD}{U:Fr}(Z:Fn K mg "is_fraction" FD IF T U)(Y:AI P w K mg base Ai k T U IF (Be Cn))(AN:W1)(A5:am)(B5:wU):AI P w K mg base Ai io f fd sK (Be (CH Cn)):=Ii F Q2 fun cdv A outer s H E g=>by
 have sc:=Q2;exact(AO (Dr zCl
  (Ab zAM)
  CB)
 (Ab (BO (RT (Me (lM Lx) zCg Ho rfl) (Rh (Aq Z Y g rfl (AB zCg AF)))))))
def KZ:Ah ["table","trees","lines","tree","line"] uU (AM IL):=B8
def LD(Ae:MD)(CH:MD)(BF:MD):DF :=
 (Ag (Fp (MX (Le (Jj (Te FI Lz))) (CA yE (AX F0 zCT) (AX F0 zCc)))
  (Bo (fC cr))
  Co)
 (Ag (C6 (C5 zip2 (AA M0 zCT)) (Eu 3 4)
  (Fp (MX (Le (Jj (AX CH (AA v8 (AA (BH Pi) AG))))) (MX (CA yE (AQ B4 v8 Da) (A0 (AA Da (AA (AX Ae Pi) AG)))) (CA yE (AQ B4 v8 Da) (AX BF (AA LE Pi)))))
   (Bo (fC cr))
   Co))
 (Bo (fC Iu))))
def B6(Ae:MD)(CH:MD)(BF:MD):MD:=Dh uU ["table","trees","lines","tree","line"] (LD Ae CH BF)
def PV{k:Nat}{Ae:MD}{CH:MD}{BF:MD}(F:Fn K mg "are_true_lines" IL uU f fd) {CQ:AD}{CD:Fr}(BL:Fn K mg "density_within" Ei SC CQ CD)(Bj:AI P w K mg base Ai k CQ CD SC (Be Ae)) {T:AD}{U:Fr}(HB:Fn K mg "is_line" Lp sK T U)(Ih:AI P w K mg base Ai k T U sK (Be CH)) {Y:AD}{Z:Fr}(DC:Fn K mg "walked_weight" Gq vP Y Z)(EH:AI P w K mg base Ai k Y Z vP (Be BF))(AN:W1)(A5:am)(Ef:zAc)(EN:y8):AI P w K mg base Ai io f fd uU (Be (B6 Ae CH BF)):=Ii F KZ fun cdv A outer s H E g=>by
 have sc:=KZ;exact(AO (Dr (DW.dt (IC (Hu (GS (Md (Qt _) rfl AN rfl Ef PyProof.Rows.boot_list IO))) (Hv (Bx (Kk Lx) (Di Gv rfl A5 aa zCs) (Di Gv rfl A5 aa zCr) XV))))
  (Ab zAM)
  CB)
 (AO (EB aO rfl (Zb rfl EN (AB Ho zCs)) (OV (Jy rfl (CU zCk (CU zCj IY))))
  (Ab (Dr (DW.dt (IC (Hu (GS (Aq HB Ih g rfl (AB uW (AB (BA zCw) AF))))) (IC (Bx (Kk Lx) (Bk uW AJ Db) (A9 (AB AJ (AB (Aq BL Bj g rfl zCw) AF))) XV) (Hv (Bx (Kk Lx) (Bk uW AJ Db) (Aq DC EH g rfl (AB EQ zCw)) XV)))))
   (Ab zAM)
   CB)))
 (Ab zAM)))
def Ny:Ah kw kw (AM K5):=B8
def Ox(Ae:MD)(CH:MD)(BK:MD)(BF:MD):DF :=
 (Ag (Fp (CA (Er false) M0 mo)
  (Bo (AQ (P6 false) Lz tX))
  Co)
 (Ag (Fp (MX (Le (Jj (AX CH (AA Lz (AA (AX BK zDM) AG))))) (CA (Er false) (AQ B4 Lz Da) (A0 (AA Da (AA (AX Ae (AA (AQ B4 Lz IN) AG)) AG)))))
  (Bo (fC cr))
  Co)
 (Bo (AQ (Er false) (AQ B4 Lz Da) (AX BF (AA LE (AA (AQ B4 Lz IN) AG)))))))
def DD(Ae:MD)(CH:MD)(BK:MD)(BF:MD):MD:=Dh kw kw (Ox Ae CH BK BF)
def Ug{k:Nat}{Ae:MD}{CH:MD}{BK:MD}{BF:MD}(F:Fn K mg "is_due_odd" K5 kw f fd) {CQ:AD}{CD:Fr}(BL:Fn K mg "density_within" Ei SC CQ CD)(Bj:AI P w K mg base Ai k CQ CD SC (Be Ae)) {U:AD}{Y:Fr}(HB:Fn K mg "is_line" Lp sK U Y)(Ih:AI P w K mg base Ai k U Y sK (Be CH)) {Z:AD}{EU:Fr}(Dp:Fn K mg "trees_of" Io zm Z EU)(EL:AI P w K mg base Ai k Z EU zm (Be BK)) {FP:AD}{Eh:Fr}(DC:Fn K mg "walked_weight" Gq vP FP Eh)(EH:AI P w K mg base Ai k FP Eh vP (Be BF)){g:Tok}(Cg:zU):AI P w K mg base Ai io f fd kw (Be (DD Ae CH BK BF)):=Ii F Ny fun cdv A outer s H E T=>by
 have sc:=Ny;exact(AO (Dr (Bx (O4 vW) Ho (Gy rfl Cg) XV)
  (Ab (BO (Me gA IO F3 XV)))
  CB)
 (AO (Dr (DW.dt (IC (Hu (GS (Aq HB Ih T rfl (AB IO (AB (Aq Dp EL T rfl (AB (A1 BN Ho AJ) AF)) AF))))) (Hv (Bx (O4 vW) (Bk IO AJ Db) (A9 (AB AJ (AB (Aq BL Bj T rfl (AB (Bk IO AJ Db) AF)) AF))) XV))))
  (Ab zAM)
  CB)
 (Ab (BO (Me (O4 vW) (Bk IO AJ Db) (Aq DC EH T rfl (AB EQ (AB (Bk IO AJ Db) AF))) XV)))))
def M7:Ah ["table","paper","order"] sq (AM GL):=B8
def IB(B6:MD)(DD:MD)(BZ:MD)(Au:rW)(Bv:MD):HW :=
 (Iw (IE Au zCf fun _ δ=>.nx δ)
 (YN (Ag (Fp (MX (Le (Jj (Te FR M0))) (CA yE (AX F0 zCc) (fC (.int 3))))
  (Bo (fC cr))
  Co)
 (Ag (Bh 2 (AQ B4 M0 IN))
 (Ag (Fp (MX (Le (Jj (AX BZ zCT))) (MX (CA OB Lz IN) (CA uy Lz mo)))
  (Bo (fC cr))
  Co)
 (Bo (Wk (AX B6 (AA LE (AA (AX Bv zCT) (AA (AQ B4 M0 Da) AG)))) (AX DD (AA LE (AA Lz (AA (AQ B4 M0 wV) AG)))))))))))
def Bc(B6:MD)(DD:MD)(BZ:MD)(Au:rW)(Bv:MD):rW:=Hj sq ["table","paper","order"] (IB B6 DD BZ Au Bv)
def Sn{k:Nat}{B6:MD}{DD:MD}{BZ:MD}{Au:rW}{Bv:MD}(F:Fn K mg "judge_paper" GL sq f fd) {Z:AD}{Kb:Fr}(GD:Fn K mg "are_true_lines" IL uU Z Kb)(IV:AI P w K mg base Ai k Z Kb uU (Be B6)) {U:AD}{Y:Fr}(Ik:Fn K mg "is_due_odd" K5 kw U Y)(LV:AI P w K mg base Ai k U Y kw (Be DD)) {Ip:AD}{Ht:Fr}(CZ:Fn K mg "is_whole" GB IF Ip Ht)(Dw:AI P w K mg base Ai k Ip Ht IF (Be BZ)) {De:AD}{DH:Fr}(CJ:Fn K mg "refuse_no_judging" El QB De DH)(Cd:AI P w K mg base Tl k De DH QB (Ep Au)) {Il:AD}{Hn:Fr}(GC:Fn K mg "trees_to" Kl ["most"] Il Hn)(HC:AI P w K mg base Ai k Il Hn ["most"] (Be Bv))(AN:W1)(A5:am)(B5:wU){g:Tok}(Cg:zU):AI P w K mg base Tl io f fd sq (Ep (Bc B6 DD BZ Au Bv)):=WZ F M7 fun cdv A outer s H E T=>by
 have sc:=M7;exact(G7 (by exact Jf CJ Cd T L9 zCo yd)
 (Ro (AO (Dr (DW.dt (IC (Hu (GS (Md (Lc _) rfl AN rfl B5 bF Ho))) (Hv (Bx (Kk vW) (Di Gv rfl A5 aa zCr) AJ XV))))
  (Ab zAM)
  CB)
 (AO (Bg (i:=2) sc.nd rfl At zCy)
 (AO (Dr (DW.dt (IC (Hu (GS (Aq CZ Dw T rfl zCs))) (IC (Bx Rl IO AJ XV) (Hv (Bx Q9 IO (Gy rfl Cg) XV)))))
  (Ab zAM)
  CB)
 (Ab (BO (RT (Aq GD IV T rfl (AB EQ (AB (Aq GC HC T rfl zCs) (AB zCy AF)))) (Rh (Aq Ik LV T rfl (AB EQ (AB IO (AB zCy AF)))))))))))))
def M9:Ah ["table","told","odd"] QB (AM GI):=B8
def KC(Dk:MD)(Au:rW)(Ci:rW)(Bv:MD):HW :=
 (Iw (IE Au zCf fun _ δ=>.nx δ)
 (Iw (IE Ci zCf fun z δ=>.nx (δ.set 1 (.d z)))
 (YN (Ag (Bh 2 tX)
 (Ag (Fp (CA (P6 true) (AQ B4 M0 Da) tX)
  (Bh 2 (AQ B4 (AX Dk (AA LE (AA (BH (AA (AQ B4 M0 Da) AG)) AG))) IN))
  Co)
 (Bo (A0 (AA (AQ B4 M0 IN) (AA (AX Dk (AA LE (AA (AX Bv (AA (AQ B4 M0 IN) AG)) AG))) zCT)))))))))
def Bb(Dk:MD)(Au:rW)(Ci:rW)(Bv:MD):rW:=Hj QB ["table","told","odd"] (KC Dk Au Ci Bv)
def Si{k:Nat}{Dk:MD}{Au:rW}{Ci:rW}{Bv:MD}(F:Fn K mg "order_paper" GI QB f fd) {T:AD}{U:Fr}(JB:Fn K mg "lines_of" NB Px T U)(Km:AI P w K mg base Ai k T U Px (Be Dk)) {De:AD}{DH:Fr}(CJ:Fn K mg "refuse_no_judging" El QB De DH)(Cd:AI P w K mg base Tl k De DH QB (Ep Au)) {Y:AD}{Z:Fr}(IG:Fn K mg "table_order" KL QB Y Z)(J7:AI P w K mg base Tl k Y Z QB (Ep Ci)) {Il:AD}{Hn:Fr}(GC:Fn K mg "trees_to" Kl ["most"] Il Hn)(HC:AI P w K mg base Ai k Il Hn ["most"] (Be Bv)):AI P w K mg base Tl io f fd QB (Ep (Bb Dk Au Ci Bv)):=WZ F M9 fun cdv A outer s H E g=>by
 have sc:=M9;exact(G7 (by exact Jf CJ Cd g L9 zCo yd)
 (G7 (by exact k9 (i:=1) IG J7 g L9 zCo sc.nd At)
 (Ro (AO (Bg (i:=2) sc.nd rfl At F3)
 (AO (Dr (Bx Vm zCy F3 XV)
  (Ab (Bg (i:=2) sc.nd rfl At (Bk (Aq JB Km g rfl (AB EQ (AB (BA (AB zCy AF)) AF))) AJ Db)))
  CB)
 (Ab (BO (A9 (AB zCy (AB (Aq JB Km g rfl (AB EQ (AB (Aq GC HC g rfl (AB zCy AF)) AF))) zCs))))))))))
def Ls:Ah ["one","other","rows"] Js (AM HV):=B8
def MS(Af:rW)(BR:rW):HW :=
 (Iw zED
 (Iw (IE Af zCc fun _ δ=>.nx δ)
 (Iw (IE BR (AA (BH (AA LE zCc)) AG) fun _ δ=>.nx δ)
 (YN (Ag (Bh 2 (AQ A7 (Dy (Ex 1) F9 (AX PL zCc) [none,none] (GG zDR)) (Dy (Ex 1) F9 (AQ A7 (AQ B4 Lz Da) M0) [none,none,some 0] (GG (AQ B4 M0 IN)))))
 (Bo (A0 (AA Lz (AA (AQ A7 (AQ B4 LE Da) (AQ B4 M0 Da)) AG)))))))))
def Ct(Af:rW)(BR:rW):rW:=Hj Js ["one","other","rows"] (MS Af BR)
def Q6{k:Nat}{Af:rW}{BR:rW}(F:Fn K mg "table_behind" HV Js f fd) {Y:AD}{B2:Fr}(Bf:Fn K mg "refuse_no_table" EK IF Y B2)(Z:AI P w K mg base Tl k Y B2 IF (Ep Af)) {T:AD}{U:Fr}(Dj:Fn K mg "refuse_too_many_rows" FZ zH T U)(Fd:AI P w K mg base Tl k T U zH (Ep BR))(Ef:zAc):AI P w K mg base Tl io f fd Js (Ep (Ct Af BR)):=WZ F Ls fun cdv A outer s H E g=>by
 have sc:=Ls;exact(G7 (by exact Jf Bf Z g L9 zCo yd)
 (G7 (by exact Jf Bf Z g L9 (by exact zCr) yd)
 (G7 (by exact Jf Dj Fd g L9 (by exact(AB (BA (AB EQ zCr)) AF)) yd)
 (Ro (AO (Bg (i:=2) sc.nd rfl At (A1 BN (Ky [".0","row"] 1 [none,none] (FG zCg) uT (fun _ _ _ _ _=>(MB ia rfl Ef PyProof.Rows.boot_list zCr))) (Ky [".0","row","one"] 1 [none,none,some 0] (FG zCy) uT (fun _ _ _ _ _=>(A1 BN (Bk IO AJ Db) Ho)))))
 (Ab (BO (A9 (AB IO (AB (A1 BN zCg zCy) AF))))))))))
def Mp:Ah zBU xY (AM KD):=B8
def KI(Z:Fk)(Y:Fk)(kt_NoLine:Fk)(kt_NoName:Fk)(kt_NoParts:Fk)(kt_NoStart:Fk)(kt_NoTable:Fk)(kt_NoText:Fk)(kt_NoTree:Fk)(T:Fk)(U:Fk)(kt_TooMany:Fk)(g:Fk):DF :=
 (Ag (Fp (CA (P6 false) LE tX)
  (Bo (BH AG))
  Co)
 (Ag (Bh 1 (BH (AA (IH Z LE) (AA (IH kt_NoTree LE) (AA (IH Y LE) AG)))))
 (Ag (Bh 1 (AQ A7 M0 (BH (AA (IH kt_NoStart LE) (AA (IH kt_NoTable LE) (AA (IH kt_NoName LE) AG))))))
 (Ag (Bh 1 (AQ A7 M0 (BH (AA (IH T LE) (AA (IH U LE) (AA (IH kt_NoParts LE) AG))))))
 (Ag (Bh 1 (AQ A7 M0 (BH (AA (IH kt_TooMany LE) (AA (IH kt_NoText LE) (AA (IH kt_NoLine LE) AG))))))
 (Ag (Bh 2 (BH (AA (fC (.str (Str.ofString "bottom"))) (AA (fC (.str (Str.ofString "tree"))) (AA (fC (.str (Str.ofString "change"))) (AA (fC (.str (Str.ofString "start"))) (AA (fC (.str WP)) (AA (fC (.str (Str.ofString "name"))) (AA (fC (.str (Str.ofString "weighing"))) (AA (fC (.str (Str.ofString "alike"))) (AA (fC (.str (Str.ofString "parts"))) (AA (fC (.str bn)) (AA (fC (.str (Str.ofString "text"))) (AA (fC (.str (Str.ofString "line"))) AG))))))))))))))
 (Ag (Bh 3 (Dy (Eu 1 2) (Jj Lz) M0 [none,none,none] (C5 zip2 (AA Lz zCc))))
 (Ag (Fp (Jj (IH g LE))
  (Bo (nm 3))
  Co)
 (Bo (BH (AA (fC (.str (Str.ofString "none"))) AG)))))))))))
def Cp(Z:Fk)(Y:Fk)(kt_NoLine:Fk)(kt_NoName:Fk)(kt_NoParts:Fk)(kt_NoStart:Fk)(kt_NoTable:Fk)(kt_NoText:Fk)(kt_NoTree:Fk)(T:Fk)(U:Fk)(kt_TooMany:Fk)(g:Fk):MD:=Dh xY zBU (KI Z Y kt_NoLine kt_NoName kt_NoParts kt_NoStart kt_NoTable kt_NoText kt_NoTree T U kt_TooMany g)
def Su{k:Nat}{C_NoBottom:AD}{Z:AD}{C_NoLine:AD}{C_NoName:AD}{C_NoParts:AD}{C_NoStart:AD}{C_NoTable:AD}{C_NoText:AD}{C_NoTree:AD}{g:AD}{Y:AD}{C_TooMany:AD}{kt_NoBottom:Fk}{kt_NoChange:Fk}{kt_NoLine:Fk}{kt_NoName:Fk}{kt_NoParts:Fk}{kt_NoStart:Fk}{kt_NoTable:Fk}{kt_NoText:Fk}{kt_NoTree:Fk}{U:Fk}{kt_NotAlike:Fk}{kt_TooMany:Fk}{T:Fk}(F:Fn K mg "_law_called" KD xY f fd)(K6:mg "ValueError" = none)(AN:W1)(EN:y8)(NQ:mg "NoBottom" = some (.ref C_NoBottom))(NJ:mg "NoChange" = some (.ref Z))(QW:mg "NoLine" = some (.ref C_NoLine))(QZ:mg "NoName" = some (.ref C_NoName))(Oy:mg "NoParts" = some (.ref C_NoParts))(N8:mg "NoStart" = some (.ref C_NoStart))(Lv:mg "NoTable" = some (.ref C_NoTable))(Qg:mg "NoText" = some (.ref C_NoText))(Qo:mg "NoTree" = some (.ref C_NoTree))(LC:mg "NoWeighing" = some (.ref g))(NP:mg "NotAlike" = some (.ref Y))(Lu:mg "TooMany" = some (.ref C_TooMany))(kh_NoBottom:∀C b,kt_NoBottom C=some b->D8 K C/\PySem.W.kitOne K Nq (D6 (.ref C_NoBottom))=some b)(kh_NoChange:∀C b,kt_NoChange C=some b->D8 K C/\PySem.W.kitOne K Nq (D6 (.ref Z))=some b)(kh_NoLine:∀C b,kt_NoLine C=some b->D8 K C/\PySem.W.kitOne K Nq (D6 (.ref C_NoLine))=some b)(kh_NoName:∀C b,kt_NoName C=some b->D8 K C/\PySem.W.kitOne K Nq (D6 (.ref C_NoName))=some b)(kh_NoParts:∀C b,kt_NoParts C=some b->D8 K C/\PySem.W.kitOne K Nq (D6 (.ref C_NoParts))=some b)(kh_NoStart:∀C b,kt_NoStart C=some b->D8 K C/\PySem.W.kitOne K Nq (D6 (.ref C_NoStart))=some b)(kh_NoTable:∀C b,kt_NoTable C=some b->D8 K C/\PySem.W.kitOne K Nq (D6 (.ref C_NoTable))=some b)(kh_NoText:∀C b,kt_NoText C=some b->D8 K C/\PySem.W.kitOne K Nq (D6 (.ref C_NoText))=some b)(kh_NoTree:∀C b,kt_NoTree C=some b->D8 K C/\PySem.W.kitOne K Nq (D6 (.ref C_NoTree))=some b)(kh_NoWeighing:∀C b,U C=some b->D8 K C/\PySem.W.kitOne K Nq (D6 (.ref g))=some b)(kh_NotAlike:∀C b,kt_NotAlike C=some b->D8 K C/\PySem.W.kitOne K Nq (D6 (.ref Y))=some b)(kh_TooMany:∀C b,kt_TooMany C=some b->D8 K C/\PySem.W.kitOne K Nq (D6 (.ref C_TooMany))=some b)(kh_ValueError:∀C b,T C=some b->D8 K C/\PySem.W.kitOne K Nq (D6 (.ty "ValueError"))=some b):AI P w K mg base Ai io f fd xY (Be (Cp kt_NoBottom kt_NoChange kt_NoLine kt_NoName kt_NoParts kt_NoStart kt_NoTable kt_NoText kt_NoTree U kt_NotAlike kt_TooMany T)):=Ii F Mp fun cdv A outer s H E hr=>by
 have sc:=Mp;exact(AO (Dr (Bx gA EQ F3 XV)
  (Ab (BO (BA AF)))
  CB)
 (AO (Bg (i:=1) sc.nd rfl At (BA (AB (F5 kh_NoBottom JX rfl AN (EE (v:=.ref C_NoBottom) rfl NQ rfl) EQ) (AB (F5 kh_NoTree JX rfl AN (EE (v:=.ref C_NoTree) rfl Qo rfl) EQ) (AB (F5 kh_NoChange JX rfl AN (EE (v:=.ref Z) rfl NJ rfl) EQ) AF)))))
 (AO (Bg (i:=1) sc.nd rfl At (A1 BN Ho (BA (AB (F5 kh_NoStart JX rfl AN (EE (v:=.ref C_NoStart) rfl N8 rfl) EQ) (AB (F5 kh_NoTable JX rfl AN (EE (v:=.ref C_NoTable) rfl Lv rfl) EQ) (AB (F5 kh_NoName JX rfl AN (EE (v:=.ref C_NoName) rfl QZ rfl) EQ) AF))))))
 (AO (Bg (i:=1) sc.nd rfl At (A1 BN Ho (BA (AB (F5 kh_NoWeighing JX rfl AN (EE (v:=.ref g) rfl LC rfl) EQ) (AB (F5 kh_NotAlike JX rfl AN (EE (v:=.ref Y) rfl NP rfl) EQ) (AB (F5 kh_NoParts JX rfl AN (EE (v:=.ref C_NoParts) rfl Oy rfl) EQ) AF))))))
 (AO (Bg (i:=1) sc.nd rfl At (A1 BN Ho (BA (AB (F5 kh_TooMany JX rfl AN (EE (v:=.ref C_TooMany) rfl Lu rfl) EQ) (AB (F5 kh_NoText JX rfl AN (EE (v:=.ref C_NoText) rfl Qg rfl) EQ) (AB (F5 kh_NoLine JX rfl AN (EE (v:=.ref C_NoLine) rfl QW rfl) EQ) AF))))))
 (AO (Bg (i:=2) sc.nd rfl At (BA (AB Ce (AB Ce (AB Ce (AB Ce (AB Ce (AB Ce (AB Ce (AB Ce (AB Ce (AB Ce (AB Ce (AB Ce AF))))))))))))))
 (AO (Pt (i:=3) [".0","_law_name","_law_truth"] 1 2 [none,none,none] sc.nd rfl rfl (Zb rfl EN (AB IO zCr)) (fun _ _ _ _ _=>(iD (GS IO))) (fun _ _ _ _ _=>(AE zCb)))
 (AO (Dr (GS (F5 kh_ValueError JX rfl AN (Ic (v:=.ty "ValueError") rfl K6 PyProof.Rows.Boot.«ValueError» rfl) EQ))
  (Ab (BO Nr))
  CB)
 (Ab (BO zAr))))))))))
def Nu:Ah xy Pz (AM JP):=B8
def LP(Cp:MD)(Bc:rW)(Bb:rW):DF :=
 (Ag (N6 2 AG)
 (Ag (C6 (C5 IM (AA wV AG)) (Ew 3)
  (Ag (Bh 4 tX)
  (Ag (U0 5
   (QT (cV (CA (Er false) (nm 3) IN)
   (QT (O9 Bb zCf)
    WJ)
   (QT (O9 Bc (AA LE zCc))
    WJ))
   WJ)
   (Bh 4 v9))
  (MR 2 (AX Cp (AA v8 AG))))))
 (RZ 2)))
def DR(Cp:MD)(Bc:rW)(Bb:rW):MD:=Dh Pz xy (LP Cp Bc Bb)
def Uc{k:Nat}{Cp:MD}{Bc:rW}{Bb:rW}{g:AD}(F:Fn K mg "_law_flags" JP Pz f fd) {Z:AD}{Mg:Fr}(IA:Fn K mg "_law_called" KD xY Z Mg)(KW:AI P w K mg base Ai k Z Mg xY (Be Cp)) {GN:AD}{F6:Fr}(Ck:Fn K mg "judge_paper" GL sq GN F6)(Dc:AI P w K mg base Tl k GN F6 sq (Ep Bc)) {GO:AD}{Fv:Fr}(Cm:Fn K mg "order_paper" GI QB GO Fv)(DZ:AI P w K mg base Tl k GO Fv QB (Ep Bb))(BQ:uc)(LR:mg "GroveError" = some (.ref g))(U:∀ds C,Bc ds=some uk->HS K C g true)(T:∀ds C,Bb ds=some uk->HS K C g true):AI P w K mg base Ai io f fd Pz (Be (DR Cp Bc Bb)):=Ii F Nu fun cdv A outer s H E Y=>by
 have sc:=Nu;exact(AO (K9 (i:=2) sc.nd rfl At AF)
 (AO (EB aO rfl (Ju rfl BQ (AB AJ AF)) (E9 zCk)
  (AO (Bg (i:=4) sc.nd rfl At F3)
  (AO (iO (k:=5) (Sf (qL (Bx (O4 (by have:=Y.units;exact this)) Nr AJ XV) (Sf (Xu Cm DZ Y zCo)
    Vc) (Sf (Xu Ck Dc Y (by exact(AB EQ zCr)))
    Vc))
   Vc) sc.nd (C4.at (P:=fun C=>HS K C g true) (C4.seq (C4.if (C4.seq (C4.call T) C4.nil) (C4.seq (C4.call U) C4.nil)) C4.nil)) LR (fun ea=>(Ab (Bg (i:=4) sc.nd rfl At xC))))
  (Ab (IX zDJ (Aq IA KW Y rfl (AB uW AF)) xx)))))
 (Ab (PK zDJ))))
def Ly:Ah vh Os (AM HQ):=B8
def Mu:DF :=
 (Ag (qv LE (Eu 2 3))
 (Ag (Bh 4 (AQ IP M0 (AX F0 Pi)))
 (Ag (Bh 1 (AQ oH M0 (fC (.int 4))))
 (Ag zCS
 (Ag (C6 zCK (Ew 6)
  (Ag zCp
  (Ag zDw
  (MR 5 zDK))))
 (Ag (U5 5 zCJ)
 (U5 5 (Bo (AQ B4 zCU (AQ IP M0 (fC (.int 32))))))))))))
def Cb:MD:=Dh Os vh (Mu)
def RP{k:Nat}(F:Fn K mg "_law_spoiled" HQ Os f fd)(U:am)(Y:uc)(T:wU):AI P w K mg base Ai io f fd Os (Be (Cb)):=Ii F Ly fun cdv A outer s H E Z=>by
 have sc:=Ly;exact(AO (mD EQ (OV (Jy rfl (CU zCR (CU zCk IY)))))
 (AO (Bg (i:=4) sc.nd rfl At (A1 Jc Ho (Di Gv rfl U aa zCw)))
 (AO (Bg (i:=1) sc.nd rfl At (A1 iz Ho AJ))
 (AO (K9 (i:=5) sc.nd rfl At (AB F3 (AB (BA (AB IO zCw)) (AB (A9 zCs) (AB (A9 (AB IO (AB Nr (AB (BA AF) AF)))) (AB (A9 (AB (BA AF) (AB (BA AF) AF))) (AB (A9 (AB (MB QE rfl T bF zCs) zCw)) (AB (A9 (AB IO (AB (MB QE rfl T bF zCw) AF))) AF))))))))
 (AO (EB aO rfl (FG (BA (AB (A9 lm) (AB (A9 lm) (AB (A9 lm) (AB (A9 (AB AJ (AB (VR AJ) AF))) (AB AJ (AB Gs (AB F3 (AB (BA lm) (AB (A9 (AB AJ lm)) (AB Ce AF)))))))))))) (E9 (A6 (i:=6) sc.nd rfl At))
  (AO (IX (pv 5) (A9 (AB IO (AB (A1 BN (A1 BN (G9 Nr IZ (Ie uW)) (BA (AB (AE (pv 6)) AF))) (G9 Nr (Ie (A1 BN uW AJ)) IZ)) AF))) yS)
  (AO (Bg (i:=7) sc.nd rfl At (A1 BN IO (BA (AB (A1 BN (BA (AB (AE (pv 6)) AF)) (Ky [".0","_law_k"] 1 [none,none] (Ju rfl Y (AB (A1 Xn (Di Gv rfl U aa zCs) AJ) AF)) uT (fun _ _ _ _ _=>(A9 lm)))) AF))))
  (Ab (IX (pv 5) (A9 (AB (AE (pv 7)) zDN)) yS)))))
 (AO (RD 5 (Zm (i:=5) xC (BA (AB (A9 (AB IO zDN)) (AB (A9 (AB IO (AB (G9 Nr IZ (Ie (VR AJ))) AF))) (AB (A9 (AB (G9 IO IZ (Ie (VR AJ))) zCw)) (AB (A9 (AB (A1 BN IO (BA (AB (BA AF) AF))) zDN)) AF))))) sc.nd rfl At))
 (Ab (RD 5 (BO (Bk (A1 BN xC (BA (AB (A9 (AB (A1 BN (A1 BN (G9 IO IZ (Ie uW)) (BA (AB (A1 BN (Bk IO uW Db) (BA (AB (A9 lm) AF))) AF))) (G9 IO (Ie (A1 BN uW AJ)) IZ)) zCw)) AF))) (A1 Jc Ho AJ) Db))))))))))
end
def Zy:Sp:=fun vs H Q _=>∃(l:AD) (x n:Int),vs=[.ref l,.int n]/\H l=some (.lst [.int x])/\0<n/\n<2^64/\∀r y:Int,0<=r->r<n->Q (.int r) (upd H l (.lst [.int y]))
def XY(K:Fg):Sp:=fun vs H Q _=>∃(a:AD) (ns:wq) (k:Int),vs=[.ref a,.int k]/\Ar K H a jp/\0<=k/\k<1000/\∀x:Int,Q (.int x) H
def Xe:Sp:=fun vs H Q _=>∃(l:AD) (x:Int),vs=[.ref l]/\H l=some (.lst [.int x])/\∀(p:AD) (r:Rat) (y:Int) (H':Hp),AL (upd H l (.lst [.int y])) H'->H' p=some (.tup (KO r))->r.num.natAbs<=6->r.den<=6->Q vS H'
def b5:∀i,i<13->∀j,j<6->(Rat.divInt ((i:Nat)-6:Int) (1+(j:Nat):Int)).num.natAbs<=6/\(Rat.divInt ((i:Nat)-6:Int) (1+(j:Nat):Int)).den<=6:=by decide +kernel
def XA{i j:Int}(T:0<=i)(Y:i<13)(g:0<=j)(U:j<6):(Rat.divInt (i-6) (1+j)).num.natAbs<=6/\(Rat.divInt (i-6) (1+j)).den<=6:=by
 have:=b5 i.toNat AC j.toNat AC
 rwa [Int.toNat_of_nonneg T,Int.toNat_of_nonneg g]at this
section
variable{P:Go}{w:KB}{K:Fg}{mg:t7}{base:Heap}{f g g1 g2:AD}{fd gd gd1 gd2:Fr}
def WL:Ah ["_law_pile","_law_size","_law_digit"] vG (AM MN):=B8
def WK(F:Fn K mg "_law_take" MN vG f fd):AI P w K mg base Ai 1 f fd vG Zy:=by
 have sc:=WL;refine F.F.ok (k:=0) sc Hb (fun cdv A outer s H vs Q E U h=>?_)
 .obtain⟨l,x,n,rfl,_⟩:=h
  rfl
 obtain⟨l,x,n,rfl,T,h0,Y,q⟩:=h;refine⟨_,(Aa (BC (i:=2) sc.nd rfl At (A2 Mi (CK Mf zDz AY Db) zCb))
 (Aa (WS (A2 Fb (CK Mf zDz AY Db) zCb) (cJ zDz AY set_list))
 (Aj (BU zDJ)))),?_⟩
 refine⟨_,rfl,_,_,_,_,rfl,rfl,Ar.of T,rfl,_,rfl,_,_,rfl,rfl,(by show n≠0;lia),?_⟩;refine⟨_,rfl,_,_,_,_,rfl,rfl,Ar.of T,rfl,_,rfl,_,_,rfl,rfl,⟨by lia,64,by decide,by lia⟩,_,rfl,l,_,_,0,rfl,rfl,T,rfl,_,rfl,?_⟩;exact q _ _ (Int.fmod_nonneg_of_pos x h0) (Int.fmod_lt_of_pos x h0)
def Sx:Ah uV uV (AM KA):=B8
def tM(σ:St):Nat:=match σ[1]? with|some (some (V.int l))=>l.natAbs|_=>0
def Sb(F:Fn K mg "_law_shared" KA uV f fd)(Z:mg "abs" = none):AI P w K mg base Ai 1 f fd uV Om:=by
 have sc:=Sx;refine F.F.ok (k:=0) sc Hb Fa
 .obtain⟨a,b,rfl,_⟩:=h
  rfl
 obtain⟨a,b,rfl,q⟩:=h;refine⟨_,(Aa (NG aO (Cw RB zCb AY XV)
  (Aj (oS (i:=0) (j:=1) rfl sc.nd rfl rfl AT rfl rfl (AH zCb (AH (A2 Mi zDz zCb) AV)) rfl)))
 (Aj (BU (BW QJ rfl Z PyProof.Rows.boot_abs (AH zDz AV))))),?_⟩
 refine QK (fun σ H'=>∃g l,σ=[some yc,some (.int l)]/\H=H'/\Int.gcd g l=Int.gcd a b) (fun σ _=>tM σ) ⟨_,_,rfl,rfl,rfl⟩ ?_ ?_
 .rintro σ H' ⟨g,l,rfl,rfl,hg⟩;refine⟨_,rfl,rfl,_,rfl,Eb SB SB⟩
  .have T:l≠0:=fun z=>by subst z;simp at c
   refine⟨_,rfl,_,rfl,_,rfl,_,_,rfl,rfl,T,_,_,rfl,⟨_,_,rfl,rfl,?_⟩,?_⟩
   .rw[FM.Wc];exact hg
   .exact FM.UY g l T
  .have T:l=0:=by simpa using c
   subst T;refine⟨_,rfl,_,rfl,?_⟩;rw[FM.ji hg];exact q
 .exact fun σ H Q Q' U ⟨v,e,s,k,Y,q⟩=>⟨v,e,s,k,Y,U _ _ q⟩
def VY:Ah ["_law_top","_law_bottom","_law_by_here"] u6 (AM ML):=B8
def V9(F:Fn K mg "_law_frac" ML u6 f fd)(ID:Fn K mg "_law_shared" KA uV g gd) (Um:AI P w K mg base Ai 1 g gd uV Om):AI P w K mg base Ai 2 f fd u6 Qw:=by
 have sc:=VY;refine F.F.ok (k:=1) sc Hb Fa
 .obtain⟨t,b,m,rfl,_⟩:=h
  rfl
 obtain⟨t,b,m,rfl,hb,hm,Z,q⟩:=h;refine⟨_,(Aa (BC (i:=2) sc.nd rfl At (Bt ID Um hr rfl (AH zDz v6)))
 (Aa (FN (Cw SE zCb AY XV)
  (Aj (BC (i:=2) sc.nd rfl At (A2 RF AY zDJ)))
  Cv)
 (Aj yn))),?_⟩
 refine⟨_,rfl,_,rfl,t,b,rfl,?_⟩
 try dsimp only[Ds]
 refine Ld x6 (fun nx hn=>?_) ?_
 .refine⟨_,rfl,_,_,rfl,rfl,_,rfl,Eb SB SB⟩
  .have U:b<0:=ay c;refine⟨_,rfl,_,_,rfl,rfl,hn _ _ ⟨?_,rfl⟩⟩;show [some (V.int t),some (V.int b),some (V.int (0-FM.gi t b))]=_;unfold FM.gs;rw[if_pos U,Int.zero_sub]
  .have U:¬b<0:=bY (ar.mpr c);refine hn _ _ ⟨?_,rfl⟩;unfold FM.gs;rw[if_neg U]
   rfl
 .rintro T H' ⟨rfl,rfl⟩;have h0:FM.gs t b≠0:=FM.gj hb;have Y:(FM.gs t b).natAbs<2^m:=aR (FM.gQ hb) Z;refine⟨_,rfl,_,rfl,_,_,rfl,rfl,⟨h0,m,hm,Y⟩,_,rfl,_,rfl,_,_,rfl,rfl,⟨h0,m,hm,Y⟩,YE,fun p hp=>?_⟩;refine q p _ (Al hp _) ?_;rw[AU];show some zF=_;rw[FM.Vb hb,FM.Wh hb]
  rfl
def VH:Ah ms M1 (AM Fe):=B8
def Vy(F:Fn K mg "_law_cell" Fe M1 f fd)(A5:am)(BQ:uc):AI P w K mg base Ai 1 f fd M1 (XY K):=by
 have sc:=VH;refine F.F.ok (k:=0) sc Hb Fa
 .obtain⟨a,ns,k,rfl,_⟩:=h
  rfl
 obtain⟨a,ns,k,rfl,hS,h0,hk,q⟩:=h;refine⟨_,(Aa (BC (i:=2) sc.nd rfl At AY)
 (Aa (FN (Cw SE zCb pw XV)
  (Aj (BC (i:=2) sc.nd rfl At (CK Mf zDz zCb Db)))
  Cv)
 (Aa (FN (Cw Y4 zDJ (A2 RU AY AY) XV)
  (Aj (BU (A2 Og (A2 RF zDJ (A2 RU AY AY)) (A2 RU AY AY))))
  Cv)
 (Aa (BC (i:=3) sc.nd rfl At (A2 Og (A2 Fu (A2 Fu (A2 Cy zDJ AY) (A2 Cy zCb AY)) AY) AY))
 (Aa (BC (i:=4) sc.nd rfl At AY)
 (Aa (Hr aO rfl (Jt rfl BQ (AH AY AV)) zDC
  (Aa (BC (i:=3) sc.nd rfl At (A2 Og (A2 Fu (A2 Fu (A2 Cy (pv 3) (pv 3)) (A2 Cy AY (pv 5))) AY) AY))
  (Aj (BC (i:=4) sc.nd rfl At (A2 Fu (A2 Cy (pv 4) AY) (A2 Og (A2 Cy (pv 3) (pv 3)) AY))))))
 (Aj (BU (pv 4))))))))),?_⟩
 try dsimp only[Ds]
 refine Ld zDL (fun nx hn=>?_) ?_
 .exact hn _ _ ⟨0,rfl,rfl⟩
 rintro _ _ ⟨_,rfl,rfl⟩
 try dsimp only[Ds]
 refine Ld zDL (fun nx hn=>?_) ?_
 .refine⟨_,rfl,_,rfl,a,_,rfl,.inl hS,_,_,rfl,rfl,_,rfl,Eb SB SB⟩
  .have c':k<(((ns.map V.int).length:Nat):Int):=ay c;rw[List.length_map]at c';have hk:k.toNat<ns.length:=by lia
   have Y:Gu jp k=some (.int ns[k.toNat]):=by
    have z:=Kw (xs:=ns.map V.int) (j:=k.toNat) (v:=.int ns[k.toNat]) (by rw[List.getElem?_map,List.getElem?_eq_getElem hk];rfl)
    rwa [show((k.toNat:Nat):Int)=k by lia]at z
   exact⟨_,rfl,_,rfl,a,_,_,_,rfl,rfl,hS,Y,hn _ _ ⟨_,rfl,rfl⟩⟩
  .exact hn _ _ ⟨_,rfl,rfl⟩
 rintro _ _ ⟨c,rfl,rfl⟩;refine⟨_,rfl,_,_,rfl,rfl,⟨by decide,by decide,by decide⟩,_,_,rfl,rfl,_,rfl,Eb (fun _=>?_) (fun _=>?_)⟩
 .exact⟨_,rfl,_,_,rfl,rfl,⟨by decide,by decide,by decide⟩,_,_,rfl,rfl,_,_,rfl,rfl,⟨by decide,by decide,by decide⟩,_,_,rfl,rfl,(by show(0:Int)<10^60;decide),q _⟩
 .refine⟨_,rfl,_,_,rfl,rfl,mulC AT AT,_,rfl,_,_,rfl,rfl,mulC AT AT,_,_,rfl,rfl,_,_,rfl,rfl,_,_,rfl,rfl,(by show(0:Int)<2147483629;decide),?_⟩;have z0:0<=(c*48271+k*69621+11) % 2147483629:=Int.emod_nonneg _ AT;have z1:(c*48271+k*69621+11) % 2147483629<2147483629:=Int.emod_lt_of_pos _ AT;refine⟨8,rfl,by decide,by decide,UA (n:=8) (fun _ σ H'=>∃(m Z:Int) (U:Option V),σ=[some Jz,some (.int k),some zAa,some (.int m),some (.int Z),U]/\0<=m/\m<2147483629/\H=H') ⟨(c*48271+k*69621+11) % 2147483629,0,none,rfl,z0,z1,rfl⟩ ?_ ?_⟩
  .rintro i σ H' hi ⟨m,Z,U,rfl,m0,m1,rfl⟩;refine⟨_,rfl,_,rfl,_,_,rfl,rfl,mulC AC AC,_,rfl,_,_,rfl,rfl,mulL AT AT,_,_,rfl,rfl,_,_,rfl,rfl,_,_,rfl,rfl,(by show(0:Int)<2147483587;decide),?_⟩;have y0:0<=yM % 2147483587:=Int.emod_nonneg _ AT;have y1:yM % 2147483587<2147483587:=Int.emod_lt_of_pos _ AT;exact⟨_,rfl,_,_,rfl,rfl,mulC AT AT,_,rfl,_,rfl,(yM % 2147483587:Int),(yM % 2147483587:Int),rfl,rfl,mulC AC AC,_,_,rfl,rfl,(by show(0:Int)<2147483563;decide),_,_,rfl,rfl,_,_,_,rfl,y0,by lia,rfl⟩
  .rintro σ H' ⟨m,Z,U,rfl,m0,m1,rfl⟩;exact⟨_,rfl,q _⟩
def WC:Ah ["_law_pile","_law_top"] zAh (AM MK):=B8
def Wo(F:Fn K mg "_law_part" MK zAh f fd)(Z:Fn K mg "_law_take" MN vG g1 gd1)(Jm:Fn K mg "_law_frac" ML u6 g2 gd2) (Y:AI P w K mg base Ai 2 g1 gd1 vG Zy)(Pa:AI P w K mg base Ai 2 g2 gd2 u6 Qw):AI P w K mg base Ai 3 f fd zAh Xe:=by
 have sc:=WC;refine F.F.ok (k:=2) sc Hb (fun cdv A outer s H vs Q E U h=>?_)
 .obtain⟨l,x,rfl,_⟩:=h
  rfl
 obtain⟨l,x,rfl,hl,q⟩:=h;refine⟨_,(Aa (BC (i:=1) sc.nd rfl At (A2 RF (Bt Z Y U rfl (AH zDz (AH AY AV))) AY))
 (Aj (BU (Bt Jm Pa U rfl (AH zCb (AH (A2 Fu AY (Bt Z Y U rfl (AH zDz (AH AY AV)))) AV)))))),?_⟩
 refine⟨_,rfl,l,x,13,rfl,hl,by decide,by decide,fun i y i0 i1=>⟨_,_,rfl,rfl,?_⟩⟩;refine⟨_,rfl,_,rfl,l,y,6,rfl,AU,by decide,by decide,fun j z j0 j1=>⟨_,_,rfl,rfl,?_⟩⟩;have hd:=XA i0 i1 j0 j1;refine⟨i-6,1+j,8,rfl,by lia,by decide,by lia,fun p H' e hp=>?_⟩;refine q p _ z H' (fun b o hb=>e _ _ ?_) hp hd.1 hd.2;by_cases T:b=l
 .subst T;rw[AU]at hb ⊢;exact hb
 .rw[AK T]at hb;rw[AK T,AK T];exact hb
end
mutual
def RH{H:Hp}:∀ {d:PD} {v:V},d.canLay0=true->Du H d v->DU H d v
 |.none,_,_,h=>by rw[Du]at h;subst h;exact .Bq
 |.bool _,_,_,h=>by rw[Du]at h;subst h;exact .bool
 |.int _,_,_,h=>by rw[Du]at h;subst h;exact .int
 |.str _,_,_,h=>by rw[Du]at h;subst h;exact .str
 |.tuple _,_,c,h=>by
  rw[Du]at h;obtain⟨a,xs,rfl,T,g⟩:=h;exact .tup T (Tf (by simpa only[PyData.canLay0]using c) g)
 |.list _,_,c,h=>by
  rw[Du]at h;obtain⟨a,xs,rfl,T,g⟩:=h;exact .lst T (Tf (by simpa only[PyData.canLay0]using c) g)
 |.dict _,_,c,h=>by simp[PyData.canLay0]at c
def Tf{H:Hp}:∀ {ds:vT} {xs:ON},PyData.canLayAll0 ds=true->Av H ds xs->CT H ds xs
 |[],_,_,h=>by rw[h.nil_eq];exact .nil
 |_::_,_,c,h=>by
  obtain⟨x,r,rfl,T,g⟩:=h.un;simp only[PyData.canLayAll0,Bool.and_eq_true]at c;exact .cons (RH c.1 T) (Tf c.2 g)
end
mutual
def gu{l:AD}{H:Hp}:∀ {d:PD} {v:V},Dt l H d v->Du H d v
 |.none,_,h=>by rw[Dt]at h;rw[Du];exact h
 |.bool _,_,h=>by rw[Dt]at h;rw[Du];exact h
 |.int _,_,h=>by rw[Dt]at h;rw[Du];exact h
 |.str _,_,h=>by rw[Dt]at h;rw[Du];exact h
 |.tuple _,_,h=>by
  rw[Dt]at h;rw[Du];obtain⟨a,xs,rfl,n,T,g⟩:=h;exact⟨a,xs,rfl,T,TC g⟩
 |.list _,_,h=>by
  rw[Dt]at h;rw[Du];obtain⟨a,xs,rfl,n,T,g⟩:=h;exact⟨a,xs,rfl,T,TC g⟩
 |.dict _,_,h=>by rw[Dt]at h;exact h.elim
def TC{l:AD}{H:Hp}:∀ {ds:vT} {xs:ON},Az l H ds xs->Av H ds xs
 |[],_,h=>by rw[Az]at h;subst h;exact .nil
 |_::_,_,h=>by
  rw[Az]at h;obtain⟨x,r,rfl,T,g⟩:=h;exact .cons (gu T) (TC g)
end
def DU.du{H:Hp}{d:PD}{v:V}(h:DU H d v):Du H d v:=let⟨N,k⟩:=h;gu (k N UF)
def Y7{G H H':Hp}{l:AD}{vs:uI}{ds:tj}(Y:AL G H)(e:ug)(T:H' l=some (.tup vs))(d:Av G ds vs):∃g,AL G g/\Nw G H g/\AL g H'/\Du g yx ui:=by
 have U:AL G (upd G l (.tup vs)):=fun a o h=>by
  by_cases ha:a=l
  .subst ha;have:=e _ _ (Y _ _ h);rw[T]at this;rw[AU];exact this
  .rw[AK ha];exact h
 refine⟨upd G l (.tup vs),U,fun a u h=>?_,fun a u h=>?_,?_⟩
 .by_cases ha:a=l
  .subst ha;rw[AU]at h;cases h;exact .inr zBe
  .rw[AK ha]at h;exact .inl h
 .by_cases ha:a=l
  .subst ha;rw[AU]at h;rw[T];exact h
  .rw[AK ha]at h;exact e _ _ (Y _ _ h)
 .rw[Du];exact⟨l,vs,rfl,AU,d.same U⟩
def LN{G:Hp}:∀ps:List Int,Av G (ps.map .int) (ps.map V.int)
 |[]=>.nil
 |p::ps=>.cons Pb (LN ps)
section
variable{P:Go}{w:KB}{K:Fg}{mg:t7}{base:Heap}{CX:Hm}{k:Nat}{f:AD}{fd:Fr}{ps:uC}
def mB(q:PD->Bool):MD
 |[d]=>if d.canLay0=true then some (.bool (q d)) else none
 |_=>none
def qD{q:PD->Bool}{d:PD}(h:zCC):mB q [d]=some (.bool (q d)):=if_pos h
def mP{q:PD->Bool}{d:PD}{b:Bool}(h:zCC)(e:q d=b):mB q [d]=some (.bool b):=(qD h).trans (by rw[e])
def tP{sp:Sp}{q:PD->Bool}(F:zZ)(h:∀(l:AD) d v H Q E,Dt l H d v->(∀H',AL H H'->Q (.bl (q d)) H')->sp [v] H Q E):AI P w K mg base CX k f fd ps (Be (mB q)) :=
 Kz F fun Z x hm G H vs Q E d e T=>by
  unfold mB at hm;split at hm
  .split at hm
   .rename_i dd U;cases hm;obtain⟨v,rfl,Y⟩:=d.JW;obtain⟨N,b⟩:=RH U (Y.same e);exact h N _ v H Q E (b N UF) fun H' g=>T _ G H' (.refl _) Nw.refl (e.trans g) g Pb
   .cases hm
  .cases hm
end
def Wq:∀ps:List Int,PyData.canLayAll0 (ps.map .int)=true
 |[]=>by simp[PyData.canLayAll0]
 |p::ps=>by rw[List.map_cons];simp only[PyData.canLayAll0,PyData.canLay0];rw[Wq ps];rfl
def Lm:PD->Rat
 |.tuple [.int a,.int b]=>Rat.divInt a b
 |_=>0
def Lf(r:Rat):Lm (Ak r)=r:=FM.Hx r
def Ti(r:Rat):(Ak r).canLay0=true:=by unfold Ak;simp only[PyData.canLay0];exact Wq [r.num,(r.den:Int)]
section
variable{P:Go}{w:KB}{K:Fg}{mg:t7}{base:Heap}{CX:Hm}{k:Nat}{f:AD}{fd:Fr}{ps:uC}
def qo(ds:tj):t8:=match ds with
 |[.int t,.int b]=>if b≠0/\b.natAbs<2^400 then some (Ak (Rat.divInt t b)) else none
 |_=>none
def sQ(F:AI P w K mg base CX k f fd ps Qw):AI P w K mg base CX k f fd ps (Be qo) :=
 Kz F fun ds x hm G H vs Q E d e kk=>by
  unfold qo at hm;split at hm
  .split at hm
   .rename_i T;cases hm;obtain⟨v1,v2,rfl,Z,Y⟩:=d.Nm;rw[Du]at Z Y;subst Z Y;refine⟨_,_,400,rfl,T.1,by decide,T.2,fun l H' U g=>?_⟩;obtain⟨G',n1,n2,n3,n4⟩:=Y7 e U g (LN [(Rat.divInt _ _).num,((Rat.divInt _ _).den:Int)]);exact kk _ G' H' n1 n2 n3 U n4
   .cases hm
  .cases hm
end
def eH{n:Nat}{ds:tj}(h:∀d∈ds,Ok n d):gZ n ds:=by
 induction ds with
 |nil=>exact⟨by simp[PyData.canLayAll0],by simp[PyData.depthAll]⟩
 |cons d ds g=>
  obtain⟨a,b⟩:=h d KM;obtain⟨U,Y⟩:=g fun e T=>h e (.tail _ T);exact⟨by simp only[PyData.canLayAll0];rw[a,U];rfl,by simp only[PyData.depthAll];lia⟩
def sJ{n:Nat}{ds:tj}(h:∀d∈ds,Ok n d):Ok (n+1) yx:=.tup (eH h)
def SN(r:Rat):Ok 1 (Ak r):=sJ (n:=0) fun d hd=>by
 rcases aN.mp hd with rfl|hd
 .exact .int
 .rw[List.mem_singleton.mp hd];exact .int
def ne_self{x:PD}{n:Nat}(h:Ok n x)(hn:n<=64):Er true x x=some cr:=by
 refine(if_pos ⟨h.shaped hn,h.shaped hn⟩).trans ?_;rw[NC x h.1];rfl
def fR{x:PD}{n:Nat}(h:Ok n x)(hn:n<=64):Er false x x=some Iu:=by
 refine(if_pos ⟨h.shaped hn,h.shaped hn⟩).trans ?_;rw[NC x h.1];rfl
def iq(x y:Int):Er false (.int x) (.int y)=some (.bool (decide (x=y))):=by
 have h:SeqAt.shaped (.int x)=true/\SeqAt.shaped (.int y)=true:=⟨(Ok.int (n:=0)).shaped AT,(Ok.int (n:=0)).shaped AT⟩;refine(if_pos h).trans ?_;simp[PyData.eqv];exact Bool.eq_iff_iff.mpr As
def Kx:∀ts:List Tr,L2.Bs vx=ts.map fun t=>.tuple (L2.Bs t)
 |[]=>rfl
 |t::ts=>by rw[List.map_cons,<-Kx ts];rfl
abbrev tD(t:Tr):PD:=.tuple (L2.Bs t)
def WB(r:Rat):Prop:=FM.Fits r 3/\r.den<=6
def OI(l:AD)(g:Hp)(i:Nat)(ys:uI)(H':Hp):Prop:=SameBut l g H'/\(∃y,H' l=some (.lst [.int y]))/\ys.length=i/\∃rs:List Rat,rs.length=i/\(∀r∈rs,WB r)/\CT H' (An rs) ys
def Wn{l D:AD}{g:Hp}{y:Int}(U:g l=some (.lst [.int y]))(T:g D=none):OI l g 0 [] (upd g D li):=⟨.of (Al T _),⟨y,Al T _ _ _ U⟩,rfl,[],rfl,fun _ z=>(List.not_mem_nil z).elim,.nil⟩
def Po{l D p:AD}{Z H1 T:Hp}{yb y2:Int}{i:Nat}{ys:uI}{r:Rat}(hl:Z l=some (.lst [.int yb]))(hD:Z D=none)(d:OI l Z i ys H1)(hD1:H1 D=some Jw)(e2:AL (upd H1 l (.lst [.int y2])) T)(hp:T p=some (.tup (KO r)))(h6:r.num.natAbs<=6)(h7:r.den<=6):T D=some Jw/\OI l Z On (ys++[.ref p]) (upd T D (.lst (ys++[.ref p]))):=by
 obtain⟨e1,⟨y1,hl1⟩,hyl,rs,hrl,hrs,dr⟩:=d;have nl:l≠D:=AW hl hD;have hl2:T l=some (.lst [.int y2]):=e2 _ _ AU;have g:SameBut l H1 T:=SameBut.upd.trans (.of e2);have Y:=g _ _ nl.symm hD1;have d2:CT T (An (rs++[r])) (ys++[.ref p]):=by
  rw[OD];exact(UW hl1 g dr).app (.cons (Zh hp) .nil)
 refine⟨Y,fun b o nb z=>?_,⟨y2,by rw[AK nl];exact hl2⟩,by simp[hyl],rs++[r],by simp[hrl],fun x U=>?_,UW Y .upd d2⟩
 .rw[AK zAD];exact g _ _ nb (e1 _ _ nb z)
 .rcases bG.mp U with U|U
  .exact hrs x U
  .rw[List.mem_singleton.mp U];exact⟨⟨aR h6 AT,Nat.lt_of_le_of_lt h7 AT⟩,h7⟩
def VM(K:Fg):Sp:=fun vs H Q _=>∃(a:AD) (ns:wq),vs=[.ref a,.int 0,.int 4]/\Ar K H a jp/\∀v H' t,AL H H'->DU H' f8 v->t.Ok 4->(∀r∈t.rs,∀q∈r,WB q)->(∀q∈t.ls,WB q)->Q v H'
section
variable{P:Go}{w:KB}{K:Fg}{mg:t7}{base:Heap}{f g1 g2:AD}{fd gd1 gd2:Fr}
def Uj:Ah ["_law_script","_law_start","_law_most","_law_size","_law_rows","_law_k","_law_pile"] ce (AM LI):=B8
def S8(F:Fn K mg "_law_table" LI ce f fd)(CC:Fn K mg "_law_cell" Fe M1 g1 gd1)(Hy:Fn K mg "_law_part" MK zAh g2 gd2) (C8:AI P w K mg base Ai 3 g1 gd1 M1 (XY K))(P8:AI P w K mg base Ai 3 g2 gd2 zAh Xe)(BQ:uc):AI P w K mg base Ai 4 f fd ce (VM K):=by
 have sc:=Uj;refine F.F.ok (k:=3) sc Hb (fun cdv A outer s H vs Q E g h=>?_)
 .obtain⟨a,ns,rfl,_⟩:=h
  rfl
 obtain⟨a,ns,rfl,hS,q⟩:=h;refine⟨_,(Aa (BC (i:=3) sc.nd rfl At (A2 Fu AY (A2 Mi (Bt CC C8 g rfl (AH zDz v6)) zDJ)))
 (Aa (BC (i:=4) sc.nd rfl At (Jx AV))
 (Aa (Hr aO rfl (Jt rfl BQ (AH (pv 3) AV)) zDC
  (Aa (BC (i:=6) sc.nd rfl x9 (Jx (AH (Bt CC C8 g rfl (AH zDz (AH (A2 Fu (A2 Fu zCb AY) (pv 5)) AV))) AV)))
  (Aj (Ca (Hz af bD bE FK (pv 4) (AH (Ff [".0","_law_j","_law_pile"] 1 [none,none,some 6] (Jt rfl BQ (AH (pv 5) AV)) cx (fun _ _ _ _ _=>(Bt Hy P8 g rfl v7))) AV))))))
 (Aa (BC (i:=6) sc.nd rfl x9 (Jx (AH (Bt CC C8 g rfl (AH zDz (AH (A2 Fu (A2 Fu zCb AY) zDJ) AV))) AV)))
 (Aj (BU (RE (AH (pv 4) (AH (Ff [".0","_law_j","_law_pile"] 1 [none,none,some 6] (Jt rfl BQ (AH (pv 3) AV)) cx (fun _ _ _ _ _=>(Bt Hy P8 g rfl v7))) AV))))))))),?_⟩
 refine⟨_,rfl,_,rfl,a,ns,0,rfl,hS,by decide,by decide,fun x0=>⟨_,rfl,_,_,rfl,rfl,(by decide:(4:Int)≠0),_,_,rfl,rfl,?_⟩⟩;obtain⟨size,hs1,hs4,es⟩:∃size:Nat,1<=size/\size<=4/\1+x0.fmod 4=(size:Int):=by
  have e:=Int.fmod_eq_emod_of_nonneg x0 (show(0:Int)<=4 by decide);exact⟨(1+x0.fmod 4).toNat,by lia,by lia,by lia⟩
 rw[show((fun i j:Int=>V.int (i+j)) 1 (x0.fmod 4))=V.int (size:Int) from bO V.int es];refine⟨Q8 (show 0<=60 by decide),fun R hR=>?_⟩;have e1:=Al hR li;have hR1:upd H R li R=some li:=AU;generalize upd H R li=H1 at e1 hR1;refine⟨_,rfl,(size:Int),rfl,by lia,by lia,UA (n:=(size:Int).toNat) (fun i σ H'=>∃(r5 r6:Option V) (rs:List (List Rat)) (xs:ON),σ=[some Jz,some zDp,some (.int 4),some (.int (size:Int)),some (.ref R),r5,r6]/\AL H H'/\H' R=some NE/\Az R H' (BE rs) xs/\rs.length=i/\(∀(j:Nat) r,rs[j]? = some r->r.length=j)/\∀r∈rs,∀q∈r,WB q) ?_ ?_ ?_⟩
 .exact⟨_,_,[],[],rfl,e1,hR1,.nil,rfl,fun j r z=>by simp at z,fun _ z=>(List.not_mem_nil z).elim⟩
 .rintro i σ H2 hi ⟨r5,r6,rs,xs,rfl,e2,Y,dx,hrl,hrj,hrf⟩;refine⟨_,rfl,_,rfl,_,_,rfl,rfl,_,rfl,_,_,rfl,rfl,a,ns,_,rfl,e2.seq hS,by lia,by lia,fun cell=>⟨Q8 (show 1<=60 by decide),fun l hl=>?_⟩⟩;have e3:=Al hl vK;have T:upd H2 l vK l=some vK:=AU;generalize upd H2 l vK=H3 at e3 T;have hxl:xs.length=i:=by rw[dx.len,B7,hrl]
  refine⟨_,rfl,.inl ⟨rfl,_,Ar.of (e3 _ _ Y)⟩,_,rfl,0+(i:Int),rfl,by lia,by lia,fun D hD=>Fq (n:=(0+(i:Int)).toNat) (OI l H3) (Wn T hD) ?_ ?_⟩
  .rintro j ys H4 hj d U;refine⟨hj,Qy (n:=60) (by rw[d.2.2.1];lia) AT,fun x H' y=>?_⟩;obtain⟨rfl,rfl⟩:=y;obtain⟨y1,hl1⟩:=d.2.1;unfold HK;refine E8 ⟨_,rfl,l,y1,rfl,hl1,fun p r y2 H5 Z hp r6 r7=>?_⟩;obtain⟨k1,k2⟩:=Po T hD d U Z hp r6 r7;exact⟨k1,EG hj k2⟩
  .rintro ys H4 ⟨e4,_,hyl,qs,hql,hqs,dq⟩ U;have E4:AL H2 H4:=fun b o z=>e4 _ _ (AW z hl) (e3 _ _ z);have hR4:=E4 _ _ Y;have nD:D≠R:=fun z=>by subst z;rw[e3 _ _ Y]at hD;cases hD
   refine⟨aH _,R,xs,_,rfl,rfl,hR4,Qy (n:=60) AC AT,?_⟩;have u:SameBut R H4 (upd H4 R (.lst (xs++[.ref D]))):=.upd;refine⟨_,_,rs++[qs],xs++[.ref D],rfl,fun b o z=>?_,AU,?_,by simp[hrl],fun j r g=>?_,fun r g=>?_⟩
   .rw[AK (AW z hR)];exact E4 _ _ (e2 _ _ z)
   .rw[BE,List.map_append];exact .but u ((dx.same E4).app (.cons (kK hR4 nD U dq) .nil))
   .by_cases z:j<rs.length
    .rw[List.getElem?_append_left z]at g;exact hrj j r g
    .rw[List.getElem?_append_right AC]at g;have:=(aD.mp g).1;rw[List.length_singleton]at this;rw[show j-rs.length=0 by lia]at g;cases g
     lia
   .rcases bG.mp g with g|g
    .exact hrf r g
    .rw[List.mem_singleton.mp g];exact hqs
 .rintro σ H2 ⟨r5,r6,rs,xs,rfl,e2,Y,dx,hrl,hrj,hrf⟩;refine⟨_,rfl,_,rfl,_,_,rfl,rfl,_,rfl,_,_,rfl,rfl,a,ns,_,rfl,e2.seq hS,by decide,by decide,fun cell=>⟨Q8 (show 1<=60 by decide),fun l hl=>?_⟩⟩;have e3:=Al hl vK;have T:upd H2 l vK l=some vK:=AU;generalize upd H2 l vK=H3 at e3 T;refine⟨_,rfl,_,rfl,(size:Int),rfl,by lia,by lia,fun D hD=>Fq (n:=(size:Int).toNat) (OI l H3) (Wn T hD) ?_ ?_⟩
  .rintro j ys H4 hj d U;refine⟨hj,Qy (n:=60) (by rw[d.2.2.1];lia) AT,fun x H' y=>?_⟩;obtain⟨rfl,rfl⟩:=y;obtain⟨y1,hl1⟩:=d.2.1;unfold HK;refine E8 ⟨_,rfl,l,y1,rfl,hl1,fun p r y2 H5 Z hp r6 r7=>?_⟩;obtain⟨k1,k2⟩:=Po T hD d U Z hp r6 r7;exact⟨k1,EG hj k2⟩
  .rintro ys H4 ⟨e4,_,hyl,qs,hql,hqs,dq⟩ U;have E4:AL H2 H4:=fun b o z=>e4 _ _ (AW z hl) (e3 _ _ z);refine⟨aH _,Q8 (show 2<=60 by decide),fun t0 ht=>?_⟩;have Z:=Al ht ye;have h5:upd H4 t0 ye t0=some ye:=AU;generalize upd H4 t0 ye=H5 at Z h5;exact q _ H5 ⟨rs,qs⟩ (e2.trans (E4.trans Z)) (nO h5 (Z _ _ (E4 _ _ Y)) ((K2 dx).same (E4.trans Z)) (Z _ _ U) (dq.same Z)) ⟨by show 1<=rs.length;lia,by show rs.length<=4;lia,by show qs.length=rs.length;lia,hrj⟩ hrf hqs
end
def Tb.Sm(t:Tb):Prop:=(∀r∈t.rs,∀q∈r,WB q)/\∀q∈t.ls,WB q
instance (r:Rat):Decidable (WB r):=inferInstanceAs (Decidable ((r.num.natAbs<2^3/\r.den<2^3)/\r.den<=6))
def X1(t:Tb):(Ad t).canLay0=true:=by
 have f:∀r:List Rat,PyData.canLayAll0 (An r)=true:=fun r=>by
  induction r with
  |nil=>rfl
  |cons q r T=>show PyData.canLayAll0 (Ak q::An r)=true;simp[PyData.canLayAll0,T,Ak,PyData.canLay0]
 have g:∀rs:List (List Rat),PyData.canLayAll0 (BE rs)=true:=fun rs=>by
  induction rs with
  |nil=>rfl
  |cons r rs T=>show PyData.canLayAll0 (Bs r::BE rs)=true;simp[PyData.canLayAll0,T,Bs,PyData.canLay0,f]
 simp[Ad,PyData.canLay0,PyData.canLayAll0,f,g]
def LS(G H H':Hp):Hp:=fun b=>match H' b with
 |some (.tup xs)=>some M2
 |some o=>if H b=none then some o else G b
 |none=>none
def mx{G H H':Hp}{a:AD}{xs:uI}(h:H' a=some M2):LS G H H' a=some M2:=by unfold LS;rw[h]
def kY{G H H':Hp}{a:AD}{xs:uI}(h:H' a=some NE)(h0:H a=none):LS G H H' a=some NE:=by unfold LS;rw[h];exact if_pos h0
def iJ{G H H':Hp}(T:AL G H)(e:ug):AL G (LS G H H')/\Nw G H (LS G H H')/\AL (LS G H H') H':=by
 refine⟨fun a o h=>?_,fun a o h=>?_,fun a o h=>?_⟩
 .have g:=T _ _ h;have U:=e _ _ g;unfold LS;rw[U];cases o with
  |tup xs=>rfl
  |_=>simp only[g];exact h
 .unfold LS at h;split at h
  .cases h;exact .inr zBe
  .split at h
   .rename_i z;exact .inr (.inl z)
   .exact .inl h
  .cases h
 .unfold LS at h;cases z:H' a with
  |none=>rw[z]at h;cases h
  |some u=>
   rw[z]at h;cases u with
   |tup xs=>exact h
   |_=>
    simp only at h;split at h
    .exact h
    .rw[<-z];exact e _ _ (T _ _ h)
def R7{G H H':Hp}:∀ {g:zk} {xs:ON},CT H' (An g) xs->Av (LS G H H') (An g) xs
 |[],xs,h=>by
  have:=h.len;have e:xs=[]:=bN (by simpa[An]using this);rw[e];exact .nil
 |q::g,xs,h=>by
  obtain⟨x,r,rfl,Y,U⟩:=CT.qZ (d:=Ak q) (ds:=An g) h;obtain⟨p,rfl,T⟩:=Y.rat;refine .cons ?_ (R7 U);unfold Ak;rw[Du];exact⟨p,_,rfl,mx T,LN [q.num,(q.den:Int)]⟩
def Ap:Nat->List Tr
 |0=>[]
 |n+1=>Ap n++TH.tz n
def pQ:Nat->Nat
 |0=>0|1=>1|2=>2|3=>4|4=>8|5=>17|6=>37|_=>85
def nR:∀n,n<=5->(Ap n).length=pQ n/\∀t∈Ap n,t.deep<=8/\t.AR<=5/\1<=t.AR:=by decide +kernel
abbrev Em(ns:List Nat):List PD:=ns.map fun(n:Nat)=>PyData.int (n:Int)
def VI{p:Rat->Prop}(h0:p 0){l:uH}(h:∀q∈l,p q)(i:Nat):p (l.getD i 0):=by
 rw[List.getD_eq_getElem?_getD];cases e:l[i]? with
 |none=>exact h0
 |some q=>exact h q (aJ e)
def Vu(p q:Rat):PyData.eqv (Ak p) (Ak q)=decide (p=q):=by
 by_cases h:p=q
 .subst h;rw[decide_eq_true rfl];exact NC _ (Ti p)
 .rw[decide_eq_false h];refine ar.mpr fun z=>h ?_;unfold Ak at z;simp[PyData.eqv,PyData.eqvAll]at z;exact FM.jJ z.1 AC
def PM(p q:Rat):Er true (Ak p) (Ak q)=some (.bool (!decide (p=q))):=by
 refine(if_pos ⟨(SN p).shaped AT,(SN q).shaped AT⟩).trans ?_;rw[Vu];rfl
def OL{i:Nat}{f:tZ}{δ:Dv}{y:PD}{xs:tj}(h:f δ=some y)(o:ow i δ=some xs)(g:xs.length<CI):MR i f δ=some xV:=by
 show(f δ).bind _=_;rw[h];show(ow i δ).bind _=_;rw[o];exact if_pos g
abbrev Mon:=List Nat
abbrev Es:=List (Mon×Int)
def D4(x:wu):Mon->Rat
 |[]=>1
 |i::m=>x i*D4 x m
def Bz(x:wu):Es->Rat
 |[]=>0
 |t::p=>(t.2:Rat)*D4 x t.1+Bz x p
def TZ(a:Nat):Mon->Mon
 |[]=>[a]
 |b::m=>if a<=b then a::b::m else b::TZ a m
def YI(x:wu)(a:Nat):∀m:Mon,D4 x (TZ a m)=x a*D4 x m
 |[]=>rfl
 |b::m=>by
  unfold TZ;split
  .rfl
  .show x b*D4 x (TZ a m)=x a*(x b*D4 x m);rw[YI x a m,<-Rat.mul_assoc,<-Rat.mul_assoc,Rat.mul_comm (x b)]
def mulM:Mon->Mon->Mon
 |[],n=>n
 |a::m,n=>TZ a (mulM m n)
def Xd(x:wu):∀m n:Mon,D4 x (mulM m n)=D4 x m*D4 x n
 |[],n=>by show D4 x n=1*D4 x n;rw[Rat.one_mul]
 |a::m,n=>by
  show D4 x (TZ a (mulM m n))=x a*D4 x m*D4 x n;rw[YI,Xd x m n,Rat.mul_assoc]
def NK(m:Mon)(c:Int):Es->Es
 |[]=>if c=0 then [] else [(m,c)]
 |(n,d)::p=>if m=n then(if c+d=0 then p else(n,c+d)::p) else(n,d)::NK m c p
def Wd:((0:Int):Rat)=0:=rfl
def iM(a b:Int):((a+b:Int):Rat)=(a:Rat)+(b:Rat):=Rat.intCast_add a b
def iI(a b:Int):((a*b:Int):Rat)=(a:Rat)*(b:Rat):=Rat.intCast_mul a b
def QF(x:wu)(m:Mon)(c:Int):∀p:Es,Bz x (NK m c p)=(c:Rat)*D4 x m+Bz x p
 |[]=>by
  unfold NK;split
  .rename_i e;subst e;show(0:Rat)=((0:Int):Rat)*_+0;rw[Wd,Rat.zero_mul,Rat.add_zero]
  .rfl
 |(n,d)::p=>by
  unfold NK;split
  .rename_i e;subst e;have h:(c:Rat)*D4 x m+Bz x ((m,d)::p)=((c+d:Int):Rat)*D4 x m+Bz x p:=by
    show(c:Rat)*D4 x m+((d:Rat)*D4 x m+Bz x p)=_;rw[<-Rat.add_assoc,<-Rat.add_mul,iM]
   rw[h];split
   .rename_i e;rw[e,Wd,Rat.zero_mul,Rat.zero_add]
   .rfl
  .show(d:Rat)*D4 x n+Bz x (NK m c p)=_;rw[QF x m c p];show _=(c:Rat)*D4 x m+((d:Rat)*D4 x n+Bz x p);rw[<-Rat.add_assoc,<-Rat.add_assoc,Rat.add_comm (_*_) (_*_)]
def JG:Es->Es->Es
 |[],q=>q
 |t::p,q=>NK t.1 t.2 (JG p q)
def Mk(x:wu):∀p q:Es,Bz x (JG p q)=Bz x p+Bz x q
 |[],q=>by show Bz x q=0+_;rw[Rat.zero_add]
 |t::p,q=>by
  show Bz x (NK t.1 t.2 (JG p q))=(t.2:Rat)*D4 x t.1+Bz x p+Bz x q;rw[QF,Mk x p q,Rat.add_assoc]
def Sz(m:Mon)(c:Int):Es->Es
 |[]=>[]
 |t::p=>NK (mulM m t.1) (c*t.2) (Sz m c p)
def Sd(x:wu)(m:Mon)(c:Int):∀p:Es,Bz x (Sz m c p)=(c:Rat)*D4 x m*Bz x p
 |[]=>by show(0:Rat)=_*0;rw[Rat.mul_zero]
 |t::p=>by
  show Bz x (NK (mulM m t.1) (c*t.2) (Sz m c p))=_;rw[QF,Sd x m c p,Xd,iI];show _=(c:Rat)*D4 x m*zBN;rw[Rat.mul_add]
  congr 1
  rw[Rat.mul_assoc,Rat.mul_assoc,<-Rat.mul_assoc (t.2:Rat),Rat.mul_comm (t.2:Rat) (D4 x m),Rat.mul_assoc]
def Lj:Es->Es->Es
 |[],_=>[]
 |t::p,q=>JG (Sz t.1 t.2 q) (Lj p q)
def So(x:wu):∀p q:Es,Bz x (Lj p q)=Bz x p*Bz x q
 |[],q=>by show(0:Rat)=0*_;rw[Rat.zero_mul]
 |t::p,q=>by
  show Bz x (JG (Sz t.1 t.2 q) (Lj p q))=zBN*Bz x q;rw[Mk,Sd,So x p q,Rat.add_mul]
def ZW(p:Es):Es:=Sz [] (-1) p
def ie(x:wu)(p:Es):Bz x (ZW p)=- Bz x p:=by
 unfold ZW;rw[Sd];show((-1:Int):Rat)*1*Bz x p=_;rw[Rat.mul_one,show((-1:Int):Rat)=-1 from rfl,Rat.neg_mul,Rat.one_mul]
def Y5:List Es->Es
 |[]=>[]
 |p::l=>JG p (Y5 l)
def XM(x:wu):∀l:List Es,Bz x (Y5 l)=(l.map (Bz x)).sum
 |[]=>rfl
 |p::l=>by
  show Bz x (JG p (Y5 l))=_;rw[Mk,XM x l,List.map_cons,List.sum_cons]
structure Rg(α:Type) where
 add:α->α->α
 mul:α->α->α
 z:α
 o:α
def QV{α:Type}(R:Rg α)(a b:mu):α:=(List.zipWith R.mul a b).foldr R.add R.z
def LH{α:Type}(R:Rg α)(rows:List (List α)):Tr->List α->List α
 |.nil,g=>g
 |.cons b r,g=>LH R rows r (List.zipWith R.mul g (rows.map fun row=>QV R row (LH R rows b (List.replicate rows.length R.o))))
def PC{α:Type}(R:Rg α)(rows:List (List α))(ls:mu)(u:Tr):α:=QV R ls (LH R rows u (List.replicate rows.length R.o))
structure Kd{α β:Type}(R:Rg α)(S:Rg β)(φ:α->β):Prop where
 add:∀a b,φ (R.add a b)=S.add (φ a) (φ b)
 mul:∀a b,φ (R.mul a b)=S.mul (φ a) (φ b)
 z:φ R.z=S.z
 o:φ R.o=S.o
section
variable{α β:Type}{R:Rg α}{S:Rg β}{φ:α->β}
def Kd.zip(h:Kd R S φ):∀a b:List α,(List.zipWith R.mul a b).map φ=List.zipWith S.mul (a.map φ) (b.map φ)
 |[],_=>rfl
 |_::_,[]=>rfl
 |x::a,y::b=>by
  show φ (R.mul x y)::(List.zipWith R.mul a b).map φ=S.mul (φ x) (φ y)::List.zipWith S.mul (a.map φ) (b.map φ);rw[h.mul,Kd.zip h a b]
def Kd.fold(h:Kd R S φ):∀a:List α,φ (a.foldr R.add R.z)=(a.map φ).foldr S.add S.z
 |[]=>h.z
 |x::a=>by
  show φ (R.add x (a.foldr R.add R.z))=S.add (φ x) ((a.map φ).foldr S.add S.z);rw[h.add,Kd.fold h a]
def Kd.dot(h:Kd R S φ)(a b:mu):φ (QV R a b)=QV S (a.map φ) (b.map φ):=by
 unfold QV;rw[h.fold,h.zip]
def Kd.Kg(h:Kd R S φ)(rows:List (List α)):∀(t:Tr) (g:mu),(LH R rows t g).map φ=LH S (rows.map (List.map φ)) t (g.map φ)
 |.nil,g=>rfl
 |.cons b r,g=>by
  rw[LH,LH,Kd.Kg h rows r,h.zip,List.map_map,List.map_map]
  congr 2
  refine au fun row _=>?_;show φ (QV R row _)=QV S (row.map φ) _;rw[h.dot,Kd.Kg h rows b,List.map_replicate,h.o,List.length_map]
def Kd.last(h:Kd R S φ)(rows:List (List α))(ls:mu)(u:Tr):φ (PC R rows ls u)=PC S (rows.map (List.map φ)) (ls.map φ) u:=by
 unfold PC;rw[h.dot,h.Kg,List.map_replicate,h.o,List.length_map]
end
def rI:Rg Int:=⟨fun a b=>a+b,fun a b=>a*b,0,1⟩
def rQ:Rg Rat:=⟨fun a b=>a+b,fun a b=>a*b,0,1⟩
def rP:Rg Es:=⟨JG,Lj,[],[([],1)]⟩
def mr:Kd rI rQ (fun n:Int=>(n:Rat)):=⟨Rat.intCast_add,Rat.intCast_mul,rfl,rfl⟩
def k7(x:wu):Kd rP rQ (Bz x):=⟨Mk x,So x,rfl,by show((1:Int):Rat)*1+0=1;rw[Rat.mul_one,Rat.add_zero];rfl⟩
def ZE(rows:y7):∀(t:Tr) (g:wq),Kg rows t g=LH rI rows t g
 |.nil,g=>rfl
 |.cons b r,g=>by
  rw[Kg,LH,ZE rows r];show LH rI rows r (Df g _)=LH rI rows r (Df g _)
  congr 2
  refine au fun row _=>?_;rw[ZE rows b]
  rfl
def nk(rows:zAg)(ls:uB)(u:Tr):(FQ (rows++[ls]) u).getLast?.getD 0=PC rI (rows++[ls]) ls u:=by
 unfold FQ;rw[List.map_append,List.map_singleton,List.getLast?_concat,Option.getD_some,ZE]
 rfl
def Uo(m:Nat):List (List Es):=(List.range m).map fun i=>(List.range i).map fun j=>[([5*i+j],1)]
def PH(m:Nat)(u:Tr):Es:=PC rP (Uo (m+1)) ((List.range m).map fun j=>[([5*m+j],1)]) u
def XU(x:wu)(b:Rat):∀m:Mon,D4 zBk m=D4 x m*b^m.length
 |[]=>by show(1:Rat)=1*b^0;rw[Rat.one_mul,Rat.pow_zero]
 |i::m=>by
  show x i*b*D4 zBk m=x i*D4 x m*b^(m.length+1);rw[XU x b m,Rat.pow_succ];rw[Rat.mul_assoc,Rat.mul_assoc,<-Rat.mul_assoc b,Rat.mul_comm b (D4 x m),Rat.mul_assoc,Rat.mul_comm b]
def YB(x:wu)(b:Rat)(k:Nat):∀p:Es,(∀t∈p,t.1.length=k)->Bz zBk p=Bz x p*b^k
 |[],_=>by show(0:Rat)=0*_;rw[Rat.zero_mul]
 |t::p,h=>by
  show(t.2:Rat)*D4 zBk t.1+Bz zBk p=zBN*b^k;rw[XU,YB x b k p fun u g=>h u (.tail _ g),h t KM,Rat.add_mul,Rat.mul_assoc]
def Dx(t:Tb):List uH:=t.rs++[t.ls]
def xT(t:Tb)(n:Nat):Rat:=((Dx t).getD (n / 5) []).getD (n % 5) 0
def Vp(x:wu)(n:Nat):Bz x [([n],1)]=x n:=by
 show((1:Int):Rat)*(x n*1)+0=x n;rw[Rat.add_zero,Rat.mul_one,show((1:Int):Rat)=1 from rfl,Rat.one_mul]
def ZD(t:Tb){i j:Nat}(g:j<5):xT t (5*i+j)=((Dx t).getD i []).getD j 0:=by
 unfold xT;rw[show(5*i+j) / 5=i by lia,show(5*i+j) % 5=j by lia]
def fV{t:Tb}{i:Nat}(h:i<t.rs.length):(Dx t).getD i []=t.rs.getD i []:=by
 unfold Dx;rw[List.getD_eq_getElem?_getD,List.getD_eq_getElem?_getD,List.getElem?_append_left h]
def NN(t:Tb):(Dx t)[t.rs.length]? = some t.ls:=by
 unfold Dx;rw[List.getElem?_append_right UF,Nat.sub_self];rfl
def T2{t:Tb}{m:Nat}(h:t.Ok m){i:Nat}{row:uH}(e:(Dx t)[i]? = some row):row.length=i/\i<=t.rs.length:=by
 by_cases z:i<t.rs.length
 .unfold Dx at e;rw[List.getElem?_append_left z]at e;exact⟨h.row i row e,by lia⟩
 .have g:=(aD.mp e).1;unfold Dx at g;rw[List.length_append,List.length_singleton]at g;have:i=t.rs.length:=by lia
  subst this;rw[NN]at e;cases e;exact⟨h.last,Nat.le_refl _⟩
def dB{t:Tb}(h:wv)(b:Rat){i:Nat}{row:uH}(e:(Dx t)[i]? = some row):((List.range i).map fun j=>[([5*i+j],(1:Int))]).map (Bz fun n=>xT t n*b)=row.map (· * b):=by
 obtain⟨g,hi⟩:=T2 h e;have T:=h.most;refine List.ext_getElem? fun j=>?_;rw[List.getElem?_map,List.getElem?_map,List.getElem?_map];by_cases z:j<i
 .rw[List.getElem?_range z,List.getElem?_eq_getElem (show j<row.length by lia),Option.map_some,Option.map_some,Option.map_some,Vp];rw[ZD t AC,List.getD_eq_getElem?_getD (l:=Dx t),e,Option.getD_some,List.getD_eq_getElem?_getD,List.getElem?_eq_getElem (show j<row.length by lia)]
  rfl
 .rw[List.getElem?_eq_none zAF,List.getElem?_eq_none (show row.length<=j by lia)]
  rfl
def jW{t:Tb}(h:wv)(b:Rat):(Uo (t.rs.length+1)).map (List.map (Bz fun n=>xT t n*b))=(Dx t).map (List.map (· * b)):=by
 have g:(Dx t).length=t.rs.length+1:=by unfold Dx;rw[List.length_append];rfl
 refine List.ext_getElem? fun i=>?_;unfold Uo;rw[List.getElem?_map,List.getElem?_map,List.getElem?_map];by_cases z:i<t.rs.length+1
 .have e:=aL (l:=Dx t) (i:=i) AC;rw[List.getElem?_range z,e,Option.map_some,Option.map_some,Option.map_some,dB h b e]
 .rw[List.getElem?_eq_none zAF,List.getElem?_eq_none (show(Dx t).length<=i by lia)]
  rfl
def iB(q:Rat):q*(((q.den:Nat):Int):Rat)=(q.num:Rat):=by
 have h:=FM.Hx q;have hd:(((q.den:Nat):Int):Rat)≠0:=fun e=>q.den_nz (by have:=Rat.intCast_eq_zero_iff.mp e;lia);rw[Rat.divInt_eq_div]at h;have e:=Rat.div_mul_cancel (a:=(q.num:Rat)) hd;rw[h]at e;exact e
def eL{q:Rat}{B:Int}(h:(q.den:Int) ∣ B):((q.num*B.fdiv (q.den:Int):Int):Rat)=q*(B:Rat):=by
 obtain⟨c,rfl⟩:=h;have hd:(q.den:Int)≠0:=by have:=q.den_nz;lia
 rw[Int.mul_fdiv_cancel_left _ hd,Rat.intCast_mul,Rat.intCast_mul,<-Rat.mul_assoc,iB]
def Ow{r:uH}{B:Int}(h:∀q∈r,(q.den:Int) ∣ B):(Gk r B).map (fun n:Int=>(n:Rat))=r.map (· * (B:Rat)):=by
 unfold Gk;rw[List.map_map];exact au fun q g=>eL (h q g)
def Xa{t:Tb}{n:Nat}(h:t.Fits n){m:Nat}(o:t.Ok m):1<=Fi t/\(Fi t).natAbs<2^(1+n*(m+m*m))/\∀r∈Dx t,∀q∈r,(q.den:Int) ∣ Fi t:=by
 obtain⟨h1,Z,Y⟩:=X6 (US h t.rs.length);have U:=MF o t.rs.length UF;have hm:=o.most;refine⟨h1,Nat.lt_of_lt_of_le Z (bf AT ?_),fun r g q T=>Y _ ?_⟩
 .have:t.rs.length+t.rs.length*t.rs.length<=m+m*m:=Nat.add_le_add hm (Nat.mul_le_mul hm hm);have:=av n (aP U this)
  lia
 .unfold JJ;rw[List.take_length];rcases bG.mp g with g|g
  .exact aZ _ (List.mem_flatten.mpr ⟨GF r,List.mem_map.mpr ⟨r,g,rfl⟩,List.mem_map.mpr ⟨q,T,rfl⟩⟩)
  .rw[List.mem_singleton.mp g]at T;exact bc _ (aT.mpr ⟨q,T,rfl⟩)
def i7:([1,2,3,4].all fun m=>(Ap 5).all fun u=>(PH m u).all fun t=>decide (t.1.length=u.AR))=true:=by decide +kernel
def mO{m:Nat}(Y:1<=m)(U:m<=4){u:Tr}(g:u∈Ap 5):∀t∈PH m u,t.1.length=u.AR:=by
 have hm:m∈[1,2,3,4]:=by
  match m,Y,U with
  |1,_,_=>exact .head _
  |2,_,_=>exact .tail _ KM
  |3,_,_=>exact .tail _ zCx
  |4,_,_=>exact .tail _ (.tail _ zCx)
 exact fun t T=>ay (ak.mp (ak.mp (ak.mp i7 m hm) u g) t T)
def gc{t:Tb}(h:wv){n:Nat}(Y:t.Fits n){u:Tr}(T:u∈Ap 5):EJ t u=Bz (xT t) (PH t.rs.length u):=by
 obtain⟨b1,_,b3⟩:=Xa Y h;have Z:=mO h.one h.most T;unfold EJ GA;generalize Fi t=B at b1 b3;rw[List.map_append,List.map_singleton,nk];have z:((PC rI (t.rs.map (fun r=>Gk r B)++[Gk t.ls B]) (Gk t.ls B) u:Int):Rat)=Bz (xT t) (PH t.rs.length u)*(B:Rat)^u.AR:=by
  rw[<-YB (xT t) (B:Rat) u.AR _ Z];refine(mr.last _ _ u).trans ?_;refine Eq.trans ?_ ((k7 (fun n=>xT t n*(B:Rat))).last (Uo (t.rs.length+1)) ((List.range t.rs.length).map fun j=>[([5*t.rs.length+j],1)]) u).symm;rw[jW h,dB h (B:Rat) (NN t),Ow fun q g=>b3 t.ls (aZ _ (List.mem_singleton.mpr rfl)) q g]
  congr 1
  unfold Dx;rw[List.map_append,List.map_append,List.map_map]
  congr 1
  .exact au fun r U=>Ow fun q g=>b3 r (bc _ U) q g
  .exact bO (fun x=>[x]) (Ow fun q g=>b3 t.ls (aZ _ (List.mem_singleton.mpr rfl)) q g)
 have hB:((B^u.AR:Int):Rat)≠0:=fun e=>Int.pow_ne_zero (by lia:B≠0) (Rat.intCast_eq_zero_iff.mp e);rw[Rat.divInt_eq_div,z,<-Rat.intCast_pow];exact Rat.mul_div_cancel hB
def gx:Option Tr->PD
 |none=>.none
 |some t=>tD t
def SK:List Tr->List Rat->List Rat->Option Tr
 |t::ts,w::g,v::vs=>if w=v then SK ts g vs else some t
 |_,_,_=>none
abbrev MU:DF:=Fp (CA yE v8 v9) (Bo (nm 3)) Co
abbrev Xz(ts:yw)(g vs:zk)(δ:Dv):Option Ou:=E2 (VS 3 4 5) MU (L8 (ts.map tD) (g.map Ak) (vs.map Ak)) δ
def VZ{t:Tr}{ts:uJ}{w v:Rat}{T vs:uH}(a b c d e f:L)(h:w=v):Xz (t::ts) (w::T) (v::vs) [a,b,c,d,e,f]=Xz ts T vs [a,b,c,.d (tD t),.d (Ak w),.d (Ak v)]:=by
 have U:MU [a,b,c,.d (tD t),.d (Ak w),.d (Ak v)]=some (.nx [a,b,c,.d (tD t),.d (Ak w),.d (Ak v)]):=Ej (Bw (x:=Ak w) (y:=Ak v) rfl rfl ((PM w v).trans (by rw[decide_eq_true h];rfl))) rfl;show uS=_;rw[U];rfl
def cN{t:Tr}{ts:uJ}{w v:Rat}{T vs:uH}(a b c d e f:L)(h:w≠v):Xz (t::ts) (w::T) (v::vs) [a,b,c,d,e,f]=some (.rt (tD t)):=by
 have U:MU [a,b,c,.d (tD t),.d (Ak w),.d (Ak v)]=some (.rt (tD t)):=Ll (Bw (x:=Ak w) (y:=Ak v) rfl rfl ((PM w v).trans (by rw[decide_eq_false h];rfl))) rfl;show uS=_;rw[U]
def Xw:∀ {ts:yw} {g vs:zk} {t:Tr} (a b c d e f:L),SK ts g vs=some t->Xz ts g vs [a,b,c,d,e,f]=some (.rt (tD t))
 |[],_,_,_,_,_,_,_,_,_,h=>by cases h
 |_::_,[],[],_,_,_,_,_,_,_,h=>by cases h
 |_::_,[],_::_,_,_,_,_,_,_,_,h=>by cases h
 |_::_,_::_,[],_,_,_,_,_,_,_,h=>by cases h
 |s::ts,w::g,v::vs,t,a,b,c,d,e,f,h=>by
  unfold SK at h;split at h
  .rename_i z;rw[VZ a b c d e f z];exact Xw a b c _ _ _ h
  .rename_i z;cases h;exact cN a b c d e f z
def YL:∀ {ts:yw} {g vs:zk} (a b c d e f:L),SK ts g vs=none->∃δ',Xz ts g vs [a,b,c,d,e,f]=some yF
 |[],_,_,_,_,_,_,_,_,_=>⟨_,rfl⟩
 |_::_,[],[],_,_,_,_,_,_,_=>⟨_,rfl⟩
 |_::_,[],_::_,_,_,_,_,_,_,_=>⟨_,rfl⟩
 |_::_,_::_,[],_,_,_,_,_,_,_=>⟨_,rfl⟩
 |s::ts,w::g,v::vs,a,b,c,d,e,f,h=>by
  unfold SK at h;split at h
  .rename_i z;rw[VZ a b c d e f z];exact YL a b c _ _ _ h
  .cases h
abbrev Jq(g:zk):PD:=.list (g.map Ak)
abbrev EF(ts:yw):PD:=.list (L2.Bs vx)
def first_is(ts:uJ)(g vs:uH):Bi [EF ts,Jq g,Jq vs]=some (gx (SK ts g vs)):=by
 refine FA rfl ?_;unfold Mj;have Y:C5 TU (AA LE (AA M0 zCT)) [.d (EF ts),.d (Jq g),.d (Jq vs),.no,.no,.no]=some (L8 (ts.map tD) (g.map Ak) (vs.map Ak)):=by
  show some (L8 (L2.Bs vx) (g.map Ak) (vs.map Ak))=_;rw[Kx]
 have T:C6 (C5 TU (AA LE (AA M0 zCT))) (VS 3 4 5) MU [.d (EF ts),.d (Jq g),.d (Jq vs),.no,.no,.no]=Xz ts g vs [.d (EF ts),.d (Jq g),.d (Jq vs),.no,.no,.no]:=by
  show(C5 TU _ _).bind _=_;rw[Y];rfl
 cases h:SK ts g vs with
 |some t=>exact Ks (T.trans (Xw _ _ _ _ _ _ h))
 |none=>
  obtain⟨U,k⟩:=YL (.d (EF ts)) (.d (Jq g)) (.d (Jq vs)) .no .no .no h;exact Ac (T.trans k) rfl
def Z7{α:Type}{i:Nat}{f:tZ}{fs:tY}{δ:Dv}{fr:uN}{zs:mu}{a g:α->PD}(Y:fs δ=some (zs.map a))(Z:zs.length<=CI) (h:∀z∈zs,f ((DM fr δ).set i (.d (a z)))=some (g z)):Gg (Ex i) F9 f fr fs δ=some (zs.map g):=by
 unfold Gg;rw[Y,Option.bind_some];have:∀zs:List α,(∀z∈zs,f ((DM fr δ).set i (.d (a z)))=some (g z))->L2.collect (KG (Ex i) F9 f zAC) (zs.map a)=some (zs.map g):=fun zs=>by
  induction zs with
  |nil=>intro _;rfl
  |cons z zs T=>
   intro h;rw[List.map_cons,List.map_cons];unfold L2.collect;rw[T fun y U=>h y (.tail _ U)];have e:KG (Ex i) F9 f zAC (a z)=some (some (g z)):=by
    unfold KG Ex;rw[Option.bind_some];show(some true).bind _=_;rw[Option.bind_some,if_pos rfl,h z KM]
    rfl
   rw[e];rfl
 rw[this zs h,Option.bind_some,JS,if_pos (by rw[List.length_map];exact Z)]
def UU{set:al}{F:DF}(U:Dv->Prop)(g:PD->Option PD):∀(xs:vT) (δ:Dv),U δ->(∀x∈xs,∀δ,U δ->∃T,set x δ=some T/\xD) ->
  (∃r,xs.findSome? g=some r/\E2 set F xs δ=some (.rt r))\/(xs.findSome? g=none/\∃δ',E2 set F xs δ=some yF/\U δ')
 |[],δ,h,_=>.inr ⟨rfl,δ,rfl,h⟩
 |x::xs,δ,h,k=>by
  obtain⟨T,h1,h2⟩:=k x KM δ h;rcases h2 with ⟨r,Z,Y⟩|⟨Z,δ2,Y,h5⟩
  .refine .inl ⟨r,by rw[List.findSome?_cons,Z],?_⟩;unfold E2;rw[h1,Option.bind_some,Y]
  .have e:(x::xs).findSome? g=xs.findSome? g:=by rw[List.findSome?_cons,Z]
   have e2:E2 set F (x::xs) δ=E2 set F xs δ2:=by
    rw[E2,h1,Option.bind_some,Y]
   rw[e,e2];exact UU U g xs δ2 h5 fun y hy=>k y (.tail _ hy)
def a8{set:al}{F F2:DF}{fs:tY}{δ:Dv}{xs:tj}{z:PD}(U:Dv->Prop)(g:PD->Option PD)(hx:vt)(h0:U δ)(hs:∀x∈xs,∀δ,U δ->∃T,set x δ=some T/\xD) (k:∀δ',U δ'->F2 δ'=some (.rt z)):Ag (C6 fs set F) F2 δ=some (.rt ((xs.findSome? g).getD z)):=by
 have e:C6 fs set F δ=E2 set F xs δ:=by show(fs δ).bind _=_;rw[hx];rfl
 rcases UU (F:=F) U g xs δ h0 hs with ⟨r,Z,Y⟩|⟨Z,δ',Y,h3⟩
 .rw[Z];exact Ks (e.trans Y)
 .rw[Z];exact Ac (e.trans Y) (k δ' h3)
def M6:∀t:Tr,Ek (L2.Bs t)=some t
 |.nil=>by rw[L2.Bs,Ek]
 |.cons b r=>by rw[L2.Bs,Ek,Hf,M6 b,M6 r];rfl
def JZ:PD->List Rat
 |.list xs=>xs.map Lm
 |_=>[]
def RO(r:uH):JZ (.list (An r))=r:=by
 unfold JZ An;show List.map Lm (r.map Ak)=r;rw[List.map_map];exact List.map_id'' (fun q=>Lf q) r
def tabOf:PD->Tb
 |.tuple [.list rs,d]=>⟨rs.map JZ,JZ d⟩
 |_=>⟨[],[]⟩
def Ql(t:Tb):tabOf f8=t:=by
 unfold Ad tabOf;have e:(BE t.rs).map JZ=t.rs:=by
  unfold BE;rw[List.map_map];exact List.map_id'' (fun r=>RO r) t.rs
 show Tb.mk ((BE t.rs).map JZ) (JZ (.list xO))=t;rw[e,RO]
def a7:((Ap 6).all fun t=>(Ap 6).all fun u=>decide (TH.B0 (some u)≠TH.B0 xH)||decide (u=t))=true:=by decide +kernel
def hU:∀u∈Ap 6,u.eC=true/\u.deep<8/\u.AR<=6/\∀b∈u.bs,b∈Ap 6:=by decide +kernel
def qe:Y2 (Ap 6) 1000:=⟨by decide +kernel,fun a ha b hb e=>by
 have:=ak.mp (ak.mp a7 b hb) a ha;rw[Bool.or_eq_true]at this;rcases this with h|h
 .exact absurd e (ay h)
 .exact ay h,fun t g=>(hU t g).2.2.2,fun t g=>(hU t g).2.1,fun t g=>by have:=(hU t g).2.2.1;lia⟩
def Tb.Wu(t:Tb):Prop:=∃m n k:Nat,t.Ok m/\m<=40/\t.Fits n/\n*(m+m*m)<=4000/\LL (GA t) 1000/\(Fi t).natAbs<2^k/\n+k<=4000/\1<=Fi t/\k*6<=4000
def fe{t:Tb}{m n k:Nat}(o:t.Ok m)(hm:m<=40)(h:t.Fits n)(b1:1<=Fi t)(b2:(Fi t).natAbs<2^k)(b3:∀r∈Dx t,∀q∈r,(q.den:Int) ∣ Fi t)(Z:n+k+6<=1000):LL (GA t) 1000:=by
 have h4:=o.most;have hl:(GA t).length=t.rs.length+1:=by unfold GA;rw[List.length_map,List.length_append];rfl
 have one:∀row∈GA t,row.length<=40/\row.length<=t.rs.length:=fun row g=>by
  unfold GA at g;obtain⟨r,T,rfl⟩:=aT.mp g;have e:(Gk r (Fi t)).length=r.length:=bU _;rw[e];obtain⟨i,hi⟩:=bR T;have:=T2 o (show(Dx t)[i]? = some r from hi)
  lia
 refine⟨by lia,fun row g=>by have:=one row g;lia,2^(n+k),fun row g x hx=>?_,Nat.pow_le_pow_right AT AC,fun row g=>aP (Nat.mul_le_mul_right _ (aP (one row g).1 (show 40<=2^6 by decide))) ?_⟩
 .unfold GA at g;obtain⟨r,T,rfl⟩:=aT.mp g;unfold Gk at hx;obtain⟨q,U,rfl⟩:=aT.mp hx;have f:FM.Fits q n:=by
   rcases bG.mp T with g|g
   .exact h.1 r g q U
   .rw[List.mem_singleton.mp g]at U;exact h.2 q U
  obtain⟨c,Z⟩:=b3 r T q U;have hd:(q.den:Int)≠0:=by have:=q.den_nz;lia
  have e:(Fi t).fdiv (q.den:Int)=c:=by rw[Z,Int.mul_fdiv_cancel_left _ hd]
  have Y:c.natAbs<=(Fi t).natAbs:=by
   rw[Z,Int.natAbs_mul];exact Nat.le_mul_of_pos_left _ (by have:=q.den_nz;lia)
  rw[e,Int.natAbs_mul,Nat.pow_add];exact Nat.mul_le_mul (bC f.1) (aP Y (bC b2))
 .rw[<-Nat.pow_add];exact bf AT AC
def pW{t:Tb}{m n:Nat}(o:t.Ok m)(hm:m<=40)(h:t.Fits n)(hb:n*(m+m*m)<=600)(hn:n<=300):t.Wu:=by
 obtain⟨b1,b2,b3⟩:=Xa h o;exact⟨m,n,1+n*(m+m*m),o,hm,h,by lia,fe o hm h b1 b2 b3 AC,b2,by lia,b1,by lia⟩
open Classical in
noncomputable def Pu(ds:tj):t8:=match ds with
 |[x,.list ys]=>if x=Ad (tabOf x)/\(tabOf x).Wu/\ys=L2.Bs ((Ek ys).getD .nil)/\(∀u∈((Ek ys).getD .nil).bs,u∈Ap 6)/\ys.length<=1000 then some (Jq (((Ek ys).getD .nil).bs.map (EJ (tabOf x)))) else none
 |_=>none
def Zu{t:Tb}(h:t.Wu){ts:uJ}(T:∀u∈ts,u∈Ap 6)(U:ts.length<=1000):Pu [Ad t,EF ts]=some (Jq (ts.map (EJ t))):=by
 unfold Pu;have e:(Ek (L2.Bs vx)).getD .nil=Tr.of ts:=by rw[M6];rfl
 refine(if_pos ⟨by rw[Ql],by rw[Ql];exact h,by rw[e],fun u g=>T u (by rw[e,Tr.O7]at g;exact g),by rw[Kx,List.length_map];exact U⟩).trans ?_;rw[Ql,e,Tr.O7]
def sM{P:Go}{w:KB}{K:Fg}{mg:t7}{base:Heap}{f:AD}{fd:Fr}{k:Nat}{ps:uC}(F:AI P w K mg base Ai k f fd ps (kA (Ap 6) 1000)):AI P w K mg base Ai k f fd ps (Be Pu) :=
 Kz F fun ds x hm G H vs Q E d e Z=>by
  unfold Pu at hm;split at hm
  .rename_i tx ys;split at hm
   .rename_i hc;obtain⟨c1,⟨m,n,kb,w1,w2,w3,w4,w5,w6,w7,w8,w9⟩,c3,c4,c5⟩:=hc;cases hm;generalize tabOf tx=t at c1 w1 w3 w5 w6 w8 Z;subst c1;generalize (Ek ys).getD .nil=T at c3 c4 Z;subst c3;obtain⟨v1,v2,rfl,d1,d2⟩:=d.Nm;rw[Du]at d2;obtain⟨L,U,rfl,hL,Y⟩:=d2;have ts:=(K0 Y).same e;have g:U.length=T.bs.length:=ts.len;have hll:T.bs.length<=1000:=by
     rw[<-g,Y.len];exact c5
    refine⟨v1,t,L,U,T.bs,m,n,kb,rfl,RH (X1 t) (d1.same e),w1,w2,w3,w4,w5,w6,w7,w8,e _ _ hL,g,hll,fun i x hx=>?_,fun D H' zs e' hD hD' dz=>?_⟩
    .obtain⟨u,hu,tu⟩:=ts.get hx;have hm:=c4 u (aJ hu);have h6:=(hU u hm).2.2.1;exact⟨u,hu,tu,hm,by lia,Nat.le_trans (av _ h6) w9⟩
    .obtain⟨n1,n2,n3⟩:=iJ e e';refine Z vD _ H' n1 n2 n3 e' ?_;rw[Du];exact⟨D,zs,rfl,kY hD' hD,R7 dz⟩
   .cases hm
  .cases hm
abbrev rh:MD:=BI A3 9
abbrev UI:MD:=BK rh
def LQ:(List.range 6).map (fun k=>UI [.int ((k+1:Nat):Int)])=(List.range 6).map fun k=>some (EF (TH.tz k)):=by kernel_rfl
def of_is{k:Nat}(h:k<6):UI [.int ((k+1:Nat):Int)]=some (EF (TH.tz k)):=List.map_inj_left.mp LQ k (aq.mpr h)
def lW:Tr->Nat
 |.nil=>1
 |.cons b r=>b.AR*lW b*lW r
def Tz(u:Tr):Nat:=u.AR*lW u
abbrev Na:MD:=Ae (A8 9) 9
def eh:(Ap 6).map (fun u=>Na [tD u])=(Ap 6).map fun u=>some (.int yG):=by kernel_rfl
def S0{u:Tr}(h:u∈Ap 6):Na [tD u]=some (.int yG):=List.map_inj_left.mp eh u h
def HY(u:Tr):Rat:=Rat.divInt 1 (Tz u:Nat)
def iA:(Ap 6).map (fun u=>Ak (HY u))=(Ap 6).map fun u=>PyData.tuple [.int 1,.int yG]:=by kernel_rfl
def YS{u:Tr}(h:u∈Ap 6):Ak (HY u)=.tuple [.int 1,.int yG]:=List.map_inj_left.mp iA u h
abbrev RJ:MD:=CY Na
def jx{ts:uJ}(U:∀u∈ts,u∈Ap 6)(Y:ts.length<=1000):RJ [EF ts]=some (Jq (ts.map HY)):=by
 refine Tg rfl ?_;unfold My;have e:Gg (Ex 1) F9 (A0 (AA Da (AA (AX Na zCc) AG))) [none,none] (GG LE) [.d (EF ts)]=some (ts.map fun u=>Ak (HY u)):=by
  refine Z7 (zs:=ts) (a:=tD) (g:=fun u=>Ak (HY u)) ?_ (aP Y (by unfold CI;lia)) fun u T=>?_
  .show some (L2.Bs vx)=_;rw[Kx]
  .rw[YS (U u T)];exact Kv (xs:=[.int 1,.int yG]) (AZ rfl (AZ (Am (xs:=[tD u]) rfl (S0 (U u T))) rfl)) xh
 have:YO (Gg (Ex 1) F9 (A0 (AA Da (AA (AX Na zCc) AG))) [none,none] (GG LE)) [.d (EF ts)]=some (.rn (ts.map fun u=>Ak (HY u))):=by
  show(Gg _ _ _ _ _ _).map _=_;rw[e];rfl
 rw[show(ts.map HY).map Ak=ts.map fun u=>Ak (HY u) by rw[List.map_map];rfl];exact this
def Ez(t:Tb)(u:Tr):Bool:=!decide (EJ t u=HY u)
def V4(f g:Tr->Rat):∀ts:List Tr,SK ts (ts.map f) (ts.map g)=ts.find? fun u=>!decide (f u=g u)
 |[]=>rfl
 |u::ts=>by
  show(if f u=g u then SK ts (ts.map f) (ts.map g) else some u)=_;rw[List.find?_cons,V4 f g ts];by_cases h:f u=g u
  .rw[if_pos h,decide_eq_true h];rfl
  .rw[if_neg h,decide_eq_false h];rfl
def WQ(u:Tr):PD:=.tuple [.int ((u.AR-1:Nat):Int),tD u]
def Yn(t:Tb):PD:=(((Ap 6).find? (Ez t)).map WQ).getD (.tuple [.int 6,.none])
def KN(t:Tb)(k:Nat):t8:=((TH.tz k).find? (Ez t)).map fun u=>.tuple [.int (k:Nat),tD u]
def Z3:∀k,k<6->(TH.tz k).length<=100/\∀u∈TH.tz k,u∈Ap 6/\u.AR=k+1:=by decide +kernel
def ic{k:Nat}(hk:k<6)(t:Tb):KN t k=((TH.tz k).find? (Ez t)).map WQ:=by
 unfold KN;cases h:(TH.tz k).find? (Ez t) with
 |none=>rfl
 |some u=>
  have g:=List.mem_of_find?_eq_some h;have:=((Z3 k hk).2 u g).2;show some (PyData.tuple [.int (k:Nat),tD u])=some (WQ u);unfold WQ;rw[show u.AR-1=k by lia]
def VQ(t:Tb):∀n,n<=6->(List.range n).findSome? (KN t)=((Ap n).find? (Ez t)).map WQ
 |0,_=>rfl
 |n+1,h=>by
  rw[List.range_succ,List.findSome?_append,VQ t n AC,Ap,List.find?_append];rw[show([n]:List Nat).findSome? (KN t)=KN t n by rw[List.findSome?_cons];cases KN t n<;>rfl,ic AC];cases (Ap n).find? (Ez t)<;>rfl
abbrev rY(g:MD):DF:=(Ag (C6 (C5 IM (AA mo AG)) (Ew 1)
  (Ag (Bh 2 (AX UI zDM))
  (Ag (Bh 3 (AX Bi (AA Lz (AA (AX g (AA LE zCT)) (AA (AX RJ zCT) AG)))))
  (Fp (CA (P6 true) (nm 3) tX)
   (Bo (A0 (AA M0 Pi)))
   Co))))
 (Bo (A0 (AA mo (AA tX AG)))))
def ey{t:Tb}(h:t.Wu):rY Pu [.d f8,.no,.no,.no]=some (.rt (Yn t)):=by
 have e:=a8 (F2:=Bo (A0 (AA mo (AA tX AG)))) (set:=Ew 1) (F:=(Ag (Bh 2 (AX UI zDM))
  (Ag (Bh 3 (AX Bi zEE))
  (Fp (CA (P6 true) (nm 3) tX)
   (Bo (A0 (AA M0 Pi)))
   Co)))) (fs:=C5 IM (AA mo AG)) (δ:=[.d f8,.no,.no,.no]) (xs:=Ja 0 6) (z:=.tuple [.int 6,.none]) (fun δ=>∃Y U g:L,δ=[.d f8,Y,U,g]) zBl rfl ⟨_,_,_,rfl⟩ ?_ ?_
 .refine e.trans ?_;have e2:(Ja 0 6).findSome? zBl=(List.range 6).findSome? (KN t):=rfl;rw[e2,VQ t 6 UF]
  rfl
 .rintro x hx δ ⟨Y,U,g,rfl⟩;obtain⟨i,hi⟩:=bR hx;obtain⟨rfl,T⟩:=TN hi;rw[Int.zero_add];obtain⟨tl,ts⟩:=Z3 i T;refine⟨_,rfl,?_⟩;have b1:AX UI zDM [.d f8,.d (.int (i:Nat)),U,g]=some (EF (TH.tz i)):=Am (xs:=[.int ((i+1:Nat):Int)]) rfl (of_is T);have b2:AX Bi zEE [.d f8,.d (.int (i:Nat)),.d (EF (TH.tz i)),g]=some (gx ((TH.tz i).find? (Ez t))):=by
   refine Am (xs:=[EF (TH.tz i),Jq ((TH.tz i).map (EJ t)),Jq ((TH.tz i).map HY)]) (AZ rfl (AZ (Am (xs:=[Ad t,EF (TH.tz i)]) rfl (Zu h (fun u Z=>(ts u Z).1) AC)) (AZ (Am (xs:=[EF (TH.tz i)]) rfl (jx (fun u Z=>(ts u Z).1) AC)) rfl))) ?_;rw[first_is,V4]
   rfl
  show(∃r,KN t i=some r/\_)\/(KN t i=none/\_);unfold KN;cases hf:(TH.tz i).find? (Ez t) with
  |some u=>
   rw[hf]at b2;refine .inl ⟨_,rfl,Ac (Bm b1) (Ac (Bm b2) (Ll ?_ rfl))⟩
   rfl
  |none=>
   rw[hf]at b2;refine .inr ⟨rfl,_,Ac (Bm b1) (Ac (Bm b2) (Ej ?_ rfl)),_,_,_,rfl⟩
   rfl
 .rintro δ ⟨Y,U,g,rfl⟩
  rfl
def Hh(t:Tb)(k:Nat):uH:=t.rs.getD k []
def fY{t:Tb}(o:wv)(k:Nat):(Hh t k).length<=3/\(k<t.rs.length->(Hh t k).length=k):=by
 unfold Hh;rw[List.getD_eq_getElem?_getD];cases h:t.rs[k]? with
 |none=>
  refine⟨by decide,fun z=>?_⟩;rw[List.getElem?_eq_none_iff]at h
  lia
 |some r=>
  have g:=o.row k r h;have U:=(aD.mp h).1;have T:=o.most;show r.length<=3/\(k<t.rs.length->r.length=k);exact⟨by lia,fun _=>g⟩
def Lo{α:Type}(mul:α->α->α)(row:zBm)(g:List (uG×α))(p:Nat):List (uG×α):=g.flatMap fun w=>(List.range uz).map fun k=>(w.1++[k],mul w.2 (row uz k))
def Kq{α:Type}(mul:α->α->α)(row:zBm)(ls:Nat->α)(m:Nat)(ps:uG):List (uG×α):=ps.foldl (Lo mul row) ((List.range m).map fun k=>([k],ls k))
def fG:Tr->List Nat->List Nat
 |.nil,g=>g
 |.cons b r,g=>fG r (g++[0]++(fG b []).map (g.length+1 + ·))
def Dd(u:Tr):uG:=fG u []
def jZ:(Ap 5).map (fun u=>BD 9 [tD u])=(Ap 5).map fun u=>some (PyData.list (Em (Dd u))):=by kernel_rfl
def Ut(m:Nat)(ps:uG):List (uG×Es):=Kq Lj (fun r k=>[([5*r+k],1)]) (fun k=>[([5*m+k],1)]) m ps
def Yj(p q:Es):Bool:=(JG (ZW q) p).isEmpty
def fS{p q:Es}(h:Yj p q=true)(x:wu):Bz x p=Bz x q:=by
 have e:=Mk x (ZW q) p;unfold Yj at h;rw[List.isEmpty_iff.mp h,ie]at e;have e:(0:Rat)=-Bz x q+Bz x p:=e
 grind
def eZ:([1,2,3,4].all fun m=>(Ap 5).all fun u=>Yj (Y5 ((Ut m (Dd u)).map wG)) (PH m u))=true:=by decide +kernel
def jg:([1,2,3,4].all fun m=>(Ap 5).all fun u=>(List.range 6).all fun i=>decide ((Ut m wK).length<=100))=true:=by decide +kernel
def iV:∀u∈Ap 5,(Dd u).length+1=u.AR/\∀i,i<5->∀p,(Dd u)[i]? = some p->p<=i:=by decide +kernel
def Eo(t:Tb)(ps:uG):List (uG×Rat):=Kq (· * ·) xK (fun k=>t.ls.getD k 0) t.rs.length ps
def MG(m:Nat){α:Type}(g:List (uG×α)):Prop:=∀w∈g,∀e∈w.1,e<m
def Z9{α:Type}(mul:α->α->α)(row:zBm)(ls:Nat->α)(m:Nat)(ps:uG)(p:Nat):Kq mul row ls m (ps++[p])=Lo mul row (Kq mul row ls m ps) p:=by
 unfold Kq;rw[List.foldl_append];rfl
def f9{α:Type}{mul:α->α->α}{row:zBm}{m:Nat}{T:List (uG×α)}(h:MG m T)(p:Nat):MG m (Lo mul row T p):=fun w U e Z=>by
 unfold Lo at U;obtain⟨v,Y,g⟩:=List.mem_flatMap.mp U;obtain⟨k,hk,rfl⟩:=aT.mp g;rcases bG.mp Z with z|z
 .exact h v Y e z
 .rw[List.mem_singleton.mp z];have hk:=aq.mp hk;rw[List.getD_eq_getElem?_getD]at hk;cases q:v.1[p]? with
  |none=>rw[q]at hk;exact absurd hk yi
  |some r=>
   rw[q]at hk;have:=h v Y r (aJ q);exact bh hk this
def jM{α:Type}(mul:α->α->α)(row:zBm)(ls:Nat->α)(m:Nat):∀ps:uG,MG m (Kq mul row ls m ps):=by
 have go:∀(ps:List Nat) (g:List (List Nat×α)),MG m g->MG m (ps.foldl (Lo mul row) g):=fun ps=>by
  induction ps with
  |nil=>intro g h;exact h
  |cons p ps T=>intro g h;exact T _ (f9 h p)
 intro ps;refine go ps _ fun w U e Y=>?_;obtain⟨k,hk,rfl⟩:=aT.mp U;rw[List.mem_singleton.mp Y];exact aq.mp hk
def Vd{α β:Type}{f g:α->List β}:∀ {l:mu},(∀a∈l,f a=g a)->l.flatMap f=l.flatMap g
 |[],_=>rfl
 |a::l,h=>by rw[List.flatMap_cons,List.flatMap_cons,h a KM,Vd fun b hb=>h b (.tail _ hb)]
def Wg{t:Tb}(o:wv):∀ps:uG,(Ut t.rs.length ps).map zAs=Eo t ps:=by
 have h4:=o.most;have st:∀(g:List (List Nat×Es)) (p:Nat),MG t.rs.length g->(Lo Lj (fun r k=>[([5*r+k],1)]) g p).map zAs=Lo (· * ·) xK (g.map fun w=>(w.1,Bz (xT t) w.2)) p:=fun g p T=>by
  unfold Lo;rw[List.map_flatMap,List.flatMap_map];refine Vd fun w hm=>?_;rw[List.map_map];refine au fun k hk=>?_;have hk:=aq.mp hk;show(w.1++[k],Bz (xT t) (Lj w.2 [([5*w.1.getD p 0+k],1)]))=(w.1++[k],Bz (xT t) w.2*(Hh t uz).getD k 0);have Y:w.1.getD p 0<t.rs.length:=by
   rw[List.getD_eq_getElem?_getD]at hk ⊢;cases q:w.1[p]? with
   |none=>rw[q]at hk;exact absurd hk yi
   |some r=>exact T w hm r (aJ q)
  rw[So,Vp,ZD t AC,fV Y]
  rfl
 have go:∀(ps:List Nat) (g:List (List Nat×Es)),MG t.rs.length g->(ps.foldl (Lo Lj (fun r k=>[([5*r+k],1)])) g).map zAs=ps.foldl (Lo (· * ·) xK) (g.map fun w=>(w.1,Bz (xT t) w.2)):=fun ps=>by
  induction ps with
  |nil=>intro g _;rfl
  |cons p ps U=>intro g h;rw[List.foldl_cons,List.foldl_cons,<-st g p h];exact U _ (f9 h p)
 intro ps;unfold Ut Eo Kq;rw[go ps _ fun w T e Z=>by
  obtain⟨k,hk,rfl⟩:=aT.mp T;rw[List.mem_singleton.mp Z];exact aq.mp hk]
 congr 1
 rw[List.map_map];refine au fun k hk=>?_;have hk:=aq.mp hk;show([k],Bz (xT t) [([5*t.rs.length+k],1)])=([k],t.ls.getD k 0);rw[Vp,ZD t AC,List.getD_eq_getElem?_getD (l:=Dx t),NN]
 rfl
def m4{m:Nat}(T:1<=m)(g:m<=4):m∈[1,2,3,4]:=by
 match m,T,g with
 |1,_,_=>exact .head _
 |2,_,_=>exact .tail _ KM
 |3,_,_=>exact .tail _ zCx
 |4,_,_=>exact .tail _ (.tail _ zCx)
def df{t:Tb}(o:wv){n:Nat}(T:t.Fits n){u:Tr}(g:u∈Ap 5):((Eo t (Dd u)).map wG).sum=EJ t u:=by
 rw[gc o T g,<-fS (ak.mp (ak.mp eZ _ (m4 o.one o.most)) u g) (xT t),XM,<-Wg o,List.map_map,List.map_map]
 rfl
def Va{t:Tb}(o:wv){u:Tr}(g:u∈Ap 5){i:Nat}(hi:i<6):(Eo t wK).length<=100:=by
 rw[<-Wg o,List.length_map];exact ay (ak.mp (ak.mp (ak.mp jg _ (m4 o.one o.most)) u g) i (aq.mpr hi))
open Classical in
noncomputable def mT(ds:tj):t8:=match ds with
 |[x,y]=>if ∃p q,x=Ak p/\y=Ak q/\FM.Fits p 400/\FM.Fits q 400 then some (Ak (Lm x*Lm y)) else none
 |_=>none
def oh{p q:Rat}(T:FM.Fits p 400)(g:FM.Fits q 400):mT [Ak p,Ak q]=some (Ak (p*q)):=by
 unfold mT;refine(if_pos ⟨p,q,rfl,rfl,T,g⟩).trans ?_;rw[Lf,Lf]
section
variable{P:Go}{w:KB}{K:Fg}{mg:t7}{base:Heap}{CX:Hm}{k:Nat}{f:AD}{fd:Fr}{ps:uC}
def toT(F:AI P w K mg base CX k f fd ps (lh K (fun p q=>p*q) fun _=>True)):AI P w K mg base CX k f fd ps (Be mT) :=
 Kz F fun ds x hm G H vs Q E d e T=>by
  unfold mT at hm;split at hm
  .split at hm
   .rename_i hh;obtain⟨p,q,rfl,rfl,hp,hq⟩:=hh;cases hm;rw[Lf,Lf]at T;obtain⟨v1,v2,rfl,d1,d2⟩:=d.Nm;obtain⟨a,rfl,ha⟩:=(RH (Ti p) (d1.same e)).rat;obtain⟨b,rfl,hb⟩:=(RH (Ti q) (d2.same e)).rat;refine⟨_,_,p,q,400,rfl,.of ha,.of hb,hp,hq,by decide,trivial,fun l H' U g=>?_⟩;obtain⟨G',n1,n2,Z,Y⟩:=Y7 e U g (LN [(p*q).num,((p*q).den:Int)]);exact T _ G' H' n1 n2 Z U Y
   .cases hm
  .cases hm
end
abbrev pairD(p:Int×Int):PD:=.tuple [.int p.1,.int p.2]
def gY:PD->Rat
 |.list g=>(g.map Lm).sum
 |_=>0
open Classical in
noncomputable def Vl(ds:tj):t8:=match ds with
 |[x]=>if ∃ps:List (Int×Int),x=.list (ps.map pairD)/\ps.length<=100/\∀p∈ps,1<=p.2/\p.1.natAbs<2^20/\p.2.natAbs<2^20 then some (Ak (gY x)) else none
 |_=>none
def iG{ps:List (Int×Int)}(T:ps.length<=100)(g:∀p∈ps,1<=p.2/\p.1.natAbs<2^20/\p.2.natAbs<2^20):Vl [.list (ps.map pairD)]=some (Ak (ps.map fun p=>Rat.divInt p.1 p.2).sum):=by
 unfold Vl;refine(if_pos ⟨ps,rfl,T,g⟩).trans ?_;show some (Ak ((ps.map pairD).map Lm).sum)=_;rw[List.map_map]
 rfl
def oZ{G:Hp}{p:Int×Int}{v:V}(h:Du G (pairD p) v):∃c,v=.ref c/\G c=some zBh:=by
 rw[Du]at h;obtain⟨c,xs,rfl,Y,U⟩:=h;obtain⟨x,y,rfl,T,g⟩:=U.Nm;rw[Du]at T g;subst T g;exact⟨c,rfl,Y⟩
def pC{P:Go}{w:KB}{K:Fg}{mg:t7}{base:Heap}{CX:Hm}{k:Nat}{f:AD}{fd:Fr}{ps:uC}(F:AI P w K mg base CX k f fd ps gP):AI P w K mg base CX k f fd ps (Be Vl) :=
 Kz F fun ds x hm G H vs Q E d e Y=>by
  unfold Vl at hm;split at hm
  .split at hm
   .rename_i hh;obtain⟨g,rfl,h1,h2⟩:=hh;cases hm;obtain⟨v,rfl,d1⟩:=d.JW;rw[Du]at d1;obtain⟨a,xs,rfl,n1,U⟩:=d1;have hl:=U.len;rw[List.length_map]at hl;have ht:gY (.list (g.map pairD))=(g.map fun p=>Rat.divInt p.1 p.2).sum:=by
     show((g.map pairD).map Lm).sum=_;rw[List.map_map];rfl
    rw[ht]at Y;refine⟨a,xs,g,20,rfl,e _ _ n1,hl,by lia,fun j x p hx hp=>?_,h2,by lia,fun l H' e' T=>?_⟩
    .obtain⟨v,Z,k2⟩:=U.get (i:=j) (d:=pairD p) (by rw[List.getElem?_map,hp];rfl);rw[hx]at Z;cases Z;obtain⟨c,r1,r2⟩:=oZ k2;exact⟨c,r1,e _ _ r2⟩
    .obtain⟨G',m1,m2,m3,m4⟩:=Y7 e e' T (LN [((g.map fun p=>Rat.divInt p.1 p.2).sum).num,(((g.map fun p=>Rat.divInt p.1 p.2).sum).den:Int)]);exact Y _ G' H' m1 m2 m3 e' m4
   .cases hm
  .cases hm
def ER(w:uG×Rat):PD:=.tuple [.tuple (Em w.1),Ak w.2]
def jv(row:uH):HL (An row)=(List.range row.length).map fun(k:Nat)=>PyData.tuple [.int (k:Int),Ak (row.getD k 0)]:=by
 refine List.ext_getElem? fun i=>?_;unfold HL An;rw[List.getElem?_map,List.getElem?_zipIdx,List.getElem?_map,List.getElem?_map];by_cases h:i<row.length
 .rw[List.getElem?_range h,List.getElem?_eq_getElem h];simp[List.getD_eq_getElem?_getD,h]
 .rw[List.getElem?_eq_none AC,List.getElem?_eq_none zAF]
  rfl
def Tu{α:Type}{i j:Nat}{f:tZ}{fs:tY}{δ:Dv}{fr:uN}{zs:mu}{a b g:α->PD}(Y:fs δ=some (zs.map fun z=>.tuple [a z,b z]))(Z:zs.length<=CI) (h:∀z∈zs,f zCD=some (g z)):Dy (Eu i j) F9 f fr fs δ=some (.list (zs.map g)):=by
 unfold Dy Gg;rw[Y,Option.bind_some];have:∀zs:List α,(∀z∈zs,f zCD=some (g z))->L2.collect (KG (Eu i j) F9 f zAC) (zs.map fun z=>.tuple [a z,b z])=some (zs.map g):=fun zs=>by
  induction zs with
  |nil=>intro _;rfl
  |cons z zs T=>
   intro h;rw[List.map_cons];unfold L2.collect;rw[T fun y U=>h y (.tail _ U)];have e:KG (Eu i j) F9 f zAC (.tuple [a z,b z])=some (some (g z)):=by
    unfold KG Eu;rw[Option.bind_some];show(some true).bind _=_;rw[Option.bind_some,if_pos rfl,h z KM]
    rfl
   rw[e];rfl
 rw[this zs h,Option.bind_some,JS,if_pos (by rw[List.length_map];exact Z)]
 rfl
def jq{α:Type}(mul:α->α->α)(row:zBm)(ls:Nat->α)(m:Nat):∀(ps:uG),∀w∈Kq mul row ls m ps,w.1.length=ps.length+1:=by
 have go:∀(ps:List Nat) (n:Nat) (T:List (List Nat×α)),(∀w∈T,w.1.length=n)->∀w∈ps.foldl (Lo mul row) T,w.1.length=ps.length+n:=fun ps=>by
  induction ps with
  |nil=>intro n T h w g;rw[List.length_nil,Nat.zero_add];exact h w g
  |cons p ps Z=>
   intro n T h w g;rw[List.length_cons,show ps.length+1+n=ps.length+(n+1) by lia];refine Z (n+1) _ (fun v U=>?_) w g;unfold Lo at U;obtain⟨z,hz,Y⟩:=List.mem_flatMap.mp U;obtain⟨k,_,rfl⟩:=aT.mp Y;rw[List.length_append,h z hz];rfl
 intro ps w g;refine go ps 1 _ (fun v U=>?_) w g;obtain⟨k,_,rfl⟩:=aT.mp U
 rfl
def eI(n:Nat):FM.Fits 0 (n+1):=⟨Nat.pow_pos AT,Nat.one_lt_two_pow AC⟩
def VW{t:Tb}(s:t.Sm):∀(ps:uG),∀w∈Eo t ps,FM.Fits w.2 (3*(ps.length+1)):=by
 have T:∀r k,FM.Fits ((Hh t r).getD k 0) 3:=fun r k=>by
  unfold Hh;rw[List.getD_eq_getElem?_getD (l:=t.rs)];cases h:t.rs[r]? with
  |none=>exact eI 2
  |some row=>exact VI (p:=fun q=>FM.Fits q 3) (eI 2) (fun q hq=>(s.1 row (aJ h) q hq).1) k
 have go:∀(ps:List Nat) (n:Nat) (U:List (List Nat×Rat)),(∀w∈U,FM.Fits w.2 (3*n))->∀w∈ps.foldl (Lo (· * ·) xK) U,FM.Fits w.2 (3*(ps.length+n)):=fun ps=>by
  induction ps with
  |nil=>intro n U h w g;rw[List.length_nil,Nat.zero_add];exact h w g
  |cons p ps ih=>
   intro n U h w g;rw[List.length_cons,show ps.length+1+n=ps.length+(n+1) by lia];refine ih (n+1) _ (fun v Y=>?_) w g;unfold Lo at Y;obtain⟨z,hz,Z⟩:=List.mem_flatMap.mp Y;obtain⟨k,_,rfl⟩:=aT.mp Z;rw[Nat.mul_succ];exact(h z hz).times (T _ _)
 intro ps w g;refine go ps 1 _ (fun v Y=>?_) w g;obtain⟨k,_,rfl⟩:=aT.mp Y;exact VI (p:=fun q=>FM.Fits q 3) (eI 2) (fun q hq=>(s.2 q hq).1) k
def cat_t{xs ys:tj}(h:xs.length+ys.length<=500):A7 zAY (.tuple ys)=some (.tuple zM):=by
 have e:PB zAY (.tuple ys)=some (.tuple zM):=if_pos (by unfold CI;lia);unfold A7 NA;show(match PB zAY (.tuple ys) with|some z=>some z|none=>VT zAY (.tuple ys))=_;rw[e]
noncomputable abbrev oP:MD:=BF mT Vl (BD 9)
abbrev Mm(t:Tb)(p:Nat)(w:List Nat×Rat):List (List Nat×Rat):=(List.range uz).map fun k=>(w.1++[k],w.2*(Hh t uz).getD k 0)
def gT{t:Tb}(o:wv)(s:t.Sm){n:Nat}(hf:t.Fits n){u:Tr}(hu:u∈Ap 5):oP [Ad t,tD u]=some (Ak (EJ t u)):=by
 have h4:=o.most;have hl:=o.last;obtain⟨pl,pp⟩:=iV u hu;have hk5:=((nR 5 AT).2 u hu).2.1;have hpar:BD 9 [tD u]=some (PyData.list (Em (Dd u))):=List.map_inj_left.mp jZ u hu;have w0:(List.range t.ls.length).map (fun k=>ER ([k],t.ls.getD k 0))=(Eo t []).map ER:=by
  unfold Eo Kq;rw[List.foldl_nil,List.map_map,hl]
  rfl
 refine FA rfl ?_;unfold MA;refine Ac (Bm (y:=.list ((Eo t []).map ER)) ?_) ?_
 .rw[<-w0];refine Tu (zs:=List.range t.ls.length) (a:=fun(k:Nat)=>.int (k:Int)) (b:=fun k=>Ak (t.ls.getD k 0)) ?_ (by rw[List.length_range];unfold CI;lia) fun k _=>rfl;rw[<-jv]
  rfl
 refine Qr (xs:=Em (Dd u)) (fun i δ=>∃l3 l4 l5 l6 U T:L,δ=[.d f8,.d (tD u),.d (.list ((Eo t wK).map ER)),l3,l4,l5,l6,U,T]) ?_ ⟨_,_,_,_,_,_,rfl⟩ ?_ ?_
 .exact jD (x:=.list (Em (Dd u))) (Am (xs:=[tD u]) rfl hpar) rfl
 .rintro i x δ hx ⟨l3,l4,l5,l6,U,T,rfl⟩;unfold Em at hx;rw[List.getElem?_map]at hx;obtain⟨p,hp,rfl⟩:=aC.mp hx;have hi:i<(Dd u).length:=(aD.mp hp).1;have hpi:=pp i AC p hp;have et:(Dd u).take On=(Dd u).take i++[p]:=by rw[List.take_succ,hp];rfl
  have wl:∀w∈Eo t wK,w.1.length=i+1:=fun w hw=>by
   have:=jq _ _ _ _ _ w hw;rw[List.length_take,Nat.min_eq_left AC]at this;exact this
  have wf:∀w∈Eo t wK,FM.Fits w.2 (3*On):=fun w hw=>by
   have:=VW s _ w hw;rw[List.length_take,Nat.min_eq_left AC]at this;exact this
  have wo:MG t.rs.length (Eo t wK):=jM _ _ _ _ _;have l1:=Va o hu (i:=i+1) AC;have enext:Eo t ((Dd u).take On)=(Eo t wK).flatMap zV:=by
   rw[et];exact Z9 _ _ _ _ _ p
  rw[enext]at l1;have enx:∀g:List (List Nat×Rat),Eo t ((Dd u).take On)=g.flatMap zV->True:=fun _ _=>trivial;rw[enext];generalize Eo t wK=g at wl wf wo l1;have l2:∀j,((g.take j).flatMap zV).length<=100:=fun j=>by
   have:g.flatMap zV=(g.take j).flatMap zV++(g.drop j).flatMap zV:=by rw[<-List.flatMap_append,List.take_append_drop]
   rw[this,List.length_append]at l1
   lia
  refine⟨_,rfl,ZY (δ':=[.d f8,.d (tD u),.d vL,.d vX,.own li,l5,l6,U,T]) rfl ?_⟩;have mid:∃δ',C6 (GG Lz) (Eu 5 6) (C6 (C5 NW (AA (AQ B4 zDR (AQ B4 v9 (nm 3))) AG)) (Eu 7 8) (MR 4 (A0 (AA (AQ A7 v9 (A0 (AA (nm 7) AG))) (AA (AX mT (AA (nm 6) (AA (nm 8) AG))) AG))))) [.d f8,.d (tD u),.d vL,.d vX,.own li,l5,l6,U,T]=some yF/\∃l5 l6 U T:L,δ'=[.d f8,.d (tD u),.d vL,.d vX,.own (.lst ((g.flatMap zV).map ER)),l5,l6,U,T]:=by
   refine S4 (xs:=g.map ER) (fun j δ=>∃l5 l6 U T:L,δ=[.d f8,.d (tD u),.d vL,.d vX,.own (.lst (((g.take j).flatMap zV).map ER)),l5,l6,U,T]) rfl ⟨_,_,_,_,rfl⟩ ?_ ?_
   .rintro j x δ hx ⟨l5,l6,U,T,rfl⟩;rw[List.getElem?_map]at hx;obtain⟨w,hw,rfl⟩:=aC.mp hx;have hm:=aJ hw;have hwl:=wl w hm;have hwf:=wf w hm;have hpw:w.1[p]? = some uz:=by rw[List.getD_eq_getElem?_getD,List.getElem?_eq_getElem (show p<w.1.length by lia)];rfl
    have hrk:=wo w hm _ (aJ hpw);have Z:=l2 (j+1);have etj:g.take (j+1)=g.take j++[w]:=by rw[List.take_succ,hw];rfl
    have efl:(g.take (j+1)).flatMap zV=(g.take j).flatMap zV++Mm t p w:=by rw[etj,List.flatMap_append,List.flatMap_cons,List.flatMap_nil,List.append_nil]
    rw[efl]at Z ⊢;have hst:Mm t p w=(List.range uz).map fun k=>(w.1++[k],w.2*(Hh t uz).getD k 0):=rfl;rw[hst]at Z ⊢;have Y:t.rs[w.1.getD p 0]? = some (Hh t uz):=by unfold Hh;rw[List.getD_eq_getElem?_getD (l:=t.rs),List.getElem?_eq_getElem hrk];rfl
    have hrl:=(fY o uz).2 hrk;have hrs:∀q∈Hh t uz,FM.Fits q 3:=fun q hq=>(s.1 _ (aJ Y) q hq).1;generalize w.1.getD p 0=r at hpw Y hrl hrs Z hrk;generalize Hh t r=row at Y hrl hrs Z;generalize (g.take j).flatMap zV=pre at Z;rw[List.length_append,List.length_map,List.length_range]at Z;refine⟨[.d f8,.d (tD u),.d vL,.d vX,.own (.lst (pre.map ER)),.d (.tuple (Em w.1)),.d (Ak w.2),U,T],rfl,?_⟩;refine S4 (xs:=HL (An row)) (fun k δ=>∃U T:L,δ=[.d f8,.d (tD u),.d vL,.d vX,.own (.lst ((pre++(List.range k).map fun k=>(w.1++[k],w.2*row.getD k 0)).map ER)),.d (.tuple (Em w.1)),.d (Ak w.2),U,T]) ?_ ⟨_,_,by rw[List.range_zero,List.map_nil,List.append_nil]⟩ ?_ ?_
    .have e1:AQ B4 v9 (nm 3) [.d f8,.d (tD u),.d vL,.d vX,.own (.lst (pre.map ER)),.d (.tuple (Em w.1)),.d (Ak w.2),U,T]=some (.int (r:Int)):=BB (x:=.tuple (Em w.1)) (y:=.int (p:Int)) rfl rfl (Kw (by unfold Em;rw[List.getElem?_map,hpw];rfl));have e2:AQ B4 zDR (AQ B4 v9 (nm 3)) [.d f8,.d (tD u),.d vL,.d vX,.own (.lst (pre.map ER)),.d (.tuple (Em w.1)),.d (Ak w.2),U,T]=some (.list (An row)):=BB (x:=.list xN) (y:=.int (r:Int)) rfl e1 (Kw (by unfold BE;rw[List.getElem?_map,Y];rfl));show(AA _ AG _).bind NW=_;rw[AZ e2 rfl]
     rfl
    .rintro k x δ hx ⟨U,T,rfl⟩;obtain⟨y,hy,rfl⟩:=J3 hx;unfold An at hy;rw[List.getElem?_map]at hy;obtain⟨q,hq,rfl⟩:=aC.mp hy;have hkl:k<row.length:=(aD.mp hq).1;have hqg:row.getD k 0=q:=by rw[List.getD_eq_getElem?_getD,hq];rfl
     have hqf:=hrs q (aJ hq);refine⟨_,rfl,_,OL (y:=ER (w.1++[k],w.2*row.getD k 0)) (xs:=(pre++(List.range k).map fun k=>(w.1++[k],w.2*row.getD k 0)).map ER) ?_ rfl ?_,.d (.int (k:Int)),.d (Ak q),?_⟩
     .rw[hqg];refine Kv (xs:=[.tuple (Em (w.1++[k])),Ak (w.2*q)]) (AZ (BB (x:=.tuple (Em w.1)) (y:=.tuple [.int (k:Int)]) rfl rfl ?_) (AZ (Am (xs:=[Ak w.2,Ak q]) rfl (oh (hwf.mono AC) (hqf.mono))) rfl)) xh;rw[cat_t (by unfold Em;rw[List.length_map];simp;lia)];unfold Em;rw[List.map_append]
      rfl
     .rw[List.length_map,List.length_append,List.length_map,List.length_range];unfold CI
      lia
     .have er:(pre++(List.range io).map fun k=>(w.1++[k],w.2*row.getD k 0)).map ER=(pre++(List.range k).map fun k=>(w.1++[k],w.2*row.getD k 0)).map ER++[ER (w.1++[k],w.2*row.getD k 0)]:=by
       simp only[List.range_succ,List.map_append,List.append_assoc,List.map_cons,List.map_nil]
      rw[er]
      rfl
    .rintro δ ⟨U,T,rfl⟩;have:(HL (An row)).length=r:=by unfold HL;simp[An,hrl]
     rw[this];exact⟨_,_,_,_,rfl⟩
   .rintro δ ⟨l5,l6,U,T,rfl⟩;rw[List.length_map,List.take_length];exact⟨_,_,_,_,rfl⟩
  obtain⟨δ',f1,l5',l6',l7',l8',rfl⟩:=mid;exact ZY f1 ⟨_,rfl,_,_,_,_,_,_,rfl⟩
 .rintro δ ⟨l3,l4,l5,l6,U,T,rfl⟩;have hn:(Em (Dd u)).length=(Dd u).length:=bU _;rw[hn,List.take_length];have hlen:(Eo t (Dd u)).length<=100:=by
   have:=Va o hu (i:=(Dd u).length) AC
   rwa [List.take_length]at this
  have hfit:=VW s (Dd u);have hsum:=df o hf hu;generalize Eo t (Dd u)=g at hlen hfit hsum;refine F7 (Am (xs:=[.list ((g.map fun w=>(w.2.num,(w.2.den:Int))).map pairD)]) (AZ ?_ rfl) ?_)
  .rw[List.map_map];exact Tu (zs:=g) (a:=fun w=>.tuple (Em w.1)) (b:=fun w=>Ak w.2) rfl (by unfold CI;lia) fun w _=>rfl
  .refine(iG (by rw[List.length_map];exact hlen) fun p hp=>?_).trans ?_
   .obtain⟨w,hw,rfl⟩:=aT.mp hp;have hfw:=(hfit w hw).mono (show 3*((Dd u).length+1)<=20 by lia);exact⟨by have:=w.2.den_nz;show(1:Int)<=(w.2.den:Int);lia,hfw.1,hfw.d⟩
   .rw[List.map_map,<-hsum]
    congr 3
    exact au fun w _=>FM.Hx w.2
def Zv(n:Nat):∀k,∃us,Ap (n+k)=Ap n++us
 |0=>⟨[],by rw[List.append_nil];rfl⟩
 |k+1=>by
  obtain⟨us,h⟩:=Zv n k;exact⟨us++TH.tz (n+k),by rw[<-List.append_assoc,<-h];rfl⟩
def SR{u:Tr}(h:u∈Ap 5):u∈Ap 6:=bc _ h
def Ve:Nat->Tr
 |0=>.nil
 |n+1=>.cons (Ve n) .nil
def oU:∀m,m<=4->1<=m->Ve m∈Ap (m+1)/\Ve m∈Ap 5/\PH m (Ve m)=[]/\HY (Ve m)≠0:=by decide +kernel
def fits_of{t:Tb}(s:t.Sm):t.Fits 3:=⟨fun r T q g=>(s.1 r T q g).1,fun q g=>(s.2 q g).1⟩
def qF{t:Tb}(o:wv)(s:t.Sm):t.Wu:=pW o AT (fits_of s) AT AT
def dY{t:Tb}(o:wv)(s:t.Sm):∃u,u∈Ap 5/\(Ap 5).find? (Ez t)=some u/\(Ap 6).find? (Ez t)=some u:=by
 have Y:=o.one;have U:=o.most;obtain⟨c1,T,c3,Z⟩:=oU t.rs.length U Y;have hb:Ez t (Ve t.rs.length)=true:=by
  unfold Ez;rw[gc o (fits_of s) T,c3];have:¬(Bz (xT t) []=HY (Ve t.rs.length)):=fun z=>Z z.symm;rw[decide_eq_false this]
  rfl
 cases g:(Ap 5).find? (Ez t) with
 |none=>exact absurd hb (by simpa using ba.mp g _ T)
 |some u=>exact⟨u,List.mem_of_find?_eq_some g,rfl,by rw[Ap,List.find?_append,g];rfl⟩
def qV:((Ap 5).Pairwise fun u v=>u.AR<=v.AR)/\∀u∈Ap 5,u∈TH.tz (u.AR-1)/\1<=u.AR/\u.AR<=5:=by decide +kernel
def Y1:∀k,k<6->(∀v∈Ap k,v.AR<=k/\(k<5->v∈Ap 5))/\(k<5->∀v∈TH.tz k,v∈Ap 5/\v.AR=k+1)/\(Ap k).length<=17/\(k<5->(TH.tz k).length<=9):=by decide +kernel
structure Qk(t:Tb)(k:Nat)(u:Tr):Prop where
 k5:k<5
 z:u∈TH.tz k
 m5:u∈Ap 5
 kn:u.AR=k+1
 good:∀v∈Ap 5,v.AR<=k->EJ t v=HY v
 find:(TH.tz k).find? (Ez t)=some u
 bad:EJ t u≠HY u
 f6:(Ap 6).find? (Ez t)=some u
def k8{t:Tb}{u:Tr}(h:Ez t u=false):EJ t u=HY u:=by
 unfold Ez at h
 simpa using h
def nZ{t:Tb}{u:Tr}(h:Ez t u=true):EJ t u≠HY u:=by
 unfold Ez at h
 simpa using h
def a9{t:Tb}(o:wv)(s:t.Sm):∃k u,Qk t k u:=by
 obtain⟨u,Z,T,f6⟩:=dY o s;obtain⟨U,z2,z3⟩:=qV.2 u Z;obtain⟨b,as,bs,e,ha⟩:=List.find?_eq_some_iff_append.mp T;have good:∀v∈Ap 5,v.AR<u.AR->Ez t v=false:=fun v g hlt=>by
  have Y:=qV.1;rw[e]at g Y;rcases bG.mp g with q|q
  .simpa using ha v q
  .rcases aN.mp q with rfl|q
   .lia
   .have:=(bj.mp (List.pairwise_append.mp Y).2.1).1 v q
    lia
 refine⟨u.AR-1,u,by lia,U,Z,by lia,fun v g hl=>k8 (good v g AC),?_,nZ b,f6⟩;obtain⟨us,h5⟩:=Zv (u.AR-1+1) (5-(u.AR-1+1));have e1:Ap (u.AR-1+1)=Ap (u.AR-1)++TH.tz (u.AR-1):=rfl;rw[show u.AR-1+1+(5-(u.AR-1+1))=5 by lia,e1]at h5;rw[h5,List.append_assoc,List.find?_append,List.find?_append]at T;have n1:(Ap (u.AR-1)).find? (Ez t)=none:=ba.mpr fun v g=>by
  have:=(Y1 (u.AR-1) AC).1 v g;rw[good v (this.2 AC) AC]
  decide
 rw[n1,Option.none_or]at T;cases hf:(TH.tz (u.AR-1)).find? (Ez t) with
 |none=>exact absurd b (by simpa using ba.mp hf _ U)
 |some w=>rw[hf,Option.some_or]at T;exact T
def Gf(v:Tr):PD:=.tuple [tD v,Ak (HY v)]
def U6(t:Tb)(k:Nat)(u:Tr):PD:=.tuple [.int (k:Int),.list wL,.tuple [tD u,Ak (EJ t u)]]
def lC(ds:tj):t8:=match ds with
 |[.int a,.int b]=>some (.int (FM.gi a b))
 |_=>none
def rE{P:Go}{w:KB}{K:Fg}{mg:t7}{base:Heap}{f:AD}{fd:Fr}{k:Nat}{ps:uC}(F:AI P w K mg base Ai k f fd ps Om):AI P w K mg base Ai k f fd ps (Be lC) :=
 Kz F fun ds x hm G H vs Q E d e U=>by
  unfold lC at hm;split at hm
  .cases hm;obtain⟨Z,Y,rfl,T,g⟩:=d.Nm;rw[Du]at T g;subst T g;exact⟨_,_,rfl,U _ G H (.refl _) Nw.refl e (.refl _) Pb⟩
  .cases hm
abbrev qf:MD:=Cn lC BZ
def Vf{f g:tZ}{δ:Dv}{r:t8}(h:f δ=some Iu)(k:g δ=r):Wk f g δ=r:=by
 show(f δ).bind _=_;rw[h];exact k
def Rp(z:Int):Er true (.int z) (.int z)=some cr:=ne_self (Ok.int (n:=0)) AT
def kf(z:Int):Er false (.int z) (.int z)=some Iu:=fR (Ok.int (n:=0)) AT
def oq(q:Rat):qf [Ak q]=some Iu:=by
 refine FA rfl ?_;unfold Nx;have hd:=q.den_nz;have hg:FM.gi q.num (q.den:Int)=1:=by
  have k:=q.reduced;unfold FM.gi;unfold Nat.Coprime at k;rw[show q.num.gcd (q.den:Int)=1 from k]
  rfl
 have g:∀z:Int,BZ [.int z]=some Iu:=fun _=>rfl;refine Ac zX (Ac (Ej (Jl (Je (HP (Am (xs:=[.int q.num]) rfl (g _)))) (Je (HP (Am (xs:=[.int (q.den:Int)]) rfl (g _))))) rfl) (F7 (Vf (BB (x:=.int (q.den:Int)) (y:=.int 1) rfl rfl ?_) (BB (x:=.int 1) (y:=.int 1) (Am (xs:=[.int q.num,.int (q.den:Int)]) rfl ?_) rfl (kf 1)))))
 .show some (PyData.bool (decide ((1:Int)<=(q.den:Int))))=_;rw[decide_eq_true AC]
 .show some (PyData.int (FM.gi q.num (q.den:Int)))=_;rw[hg]
def Ry(t:Tb)(v:Tr):PD:=.tuple [tD v,Ak (EJ t v)]
noncomputable abbrev qW:MD:=Dk Pu
def QU{α:Type}(f g:α->PD):∀zs:List α,KU (zs.map f) (zs.map g)=zs.map fun z=>.tuple [f z,g z]
 |[]=>rfl
 |z::zs=>bO (PyData.tuple [f z,g z] :: ·) (QU f g zs)
def gR{t:Tb}(h:t.Wu){ts:uJ}(T:∀u∈ts,u∈Ap 6)(g:ts.length<=1000):qW [Ad t,EF ts]=some (.list (ts.map (Ry t))):=by
 refine FA rfl ?_;unfold SA;refine F7 ?_;show(AA M0 (AA (AX Pu (AA LE zCc)) AG) _).bind Yo=_;rw[AZ (x:=EF ts) (xs:=[Jq (ts.map (EJ t))]) rfl (AZ (Am (xs:=[Ad t,EF ts]) rfl (Zu h T g)) rfl),Option.bind_some];have e:L2.Bs vx=ts.map tD:=Kx ts;have U:(ts.map (EJ t)).map Ak=ts.map fun u=>Ak (EJ t u):=by rw[List.map_map];rfl
 unfold EF Jq;rw[e,U];show(if _/\_ then some (PyData.list (KU (ts.map tD) (ts.map fun u=>Ak (EJ t u)))) else none)=_;rw[if_pos ⟨by rw[List.length_map,List.length_map],by rw[List.length_map];exact g⟩,QU]
 rfl
abbrev gU:MD:=Bv UI
def lZ:(List.range 5).map (fun k=>gU [.int ((k:Nat):Int)])=(List.range 5).map fun k=>some (EF (Ap k)):=by kernel_rfl
def fw{k:Nat}(h:k<5):gU [.int ((k:Nat):Int)]=some (EF (Ap k)):=List.map_inj_left.mp lZ k (aq.mpr h)
def p4{t:Tb}{k:Nat}{u:Tr}(h:Qk t k u):Yn t=.tuple [.int (k:Int),tD u]:=by
 unfold Yn;rw[h.f6];show WQ u=_;unfold WQ;have:=h.kn;rw[show u.AR-1=k by lia]
def ml{t:Tb}{k:Nat}{u:Tr}(h:Qk t k u):(Ap k).map (Ry t)=(Ap k).map Gf:=au fun v g=>by
 have a:=(Y1 k (by have:=h.k5;lia)).1 v g;show PyData.tuple [tD v,Ak (EJ t v)]=_;rw[h.good v (a.2 h.k5) a.1]
 rfl
def Od{F:DF}{δ:Dv}{o:Ou}(h:F δ=some o):YN F δ=some (.inl o):=by show(F δ).map _=_;rw[h];rfl
section
variable{C C1 C2:AD}
abbrev dZ(C1:AD):List PD->Option Xr:=Af (mB Cu) C1
def OX{t:Tb}{m:Nat}(h:t.Ok m)(hm:m<=40):dZ C [Ad t]=some (.inl .none):=by
 refine Sj (δ:=[.d f8]) rfl ?_;unfold He;exact YX (Je (HP (Am (xs:=[Ad t]) rfl (mP (X1 t) (h.is hm))))) rfl
def nh{d:PD}(g:zCC)(h:Cu d=false):dZ C [d]=some uk:=by
 refine Mc rfl ?_;unfold He;exact gV (Je (HP (Am (xs:=[d]) rfl (mP g h)))) rfl
abbrev Vk(C1 C2:AD):List PD->Option Xr:=Au (dZ C1) C2
def Za{t:Tb}(o:wv):Vk C1 C2 [Ad t]=some (.inl .none):=by
 have T:=o.most;refine Sj (δ:=[.d f8]) rfl ?_;unfold En;refine GZ (FY (ds:=[Ad t]) rfl (OX o AT)) (YX zn rfl);show some zAi=_;have g:=B7 t.rs;rw[decide_eq_false AC]
def Xg{t:Tb}{m:Nat}(o:t.Ok m)(hm:m<=40)(T:6<=t.rs.length):Vk C1 C2 [Ad t]=some (.inr C2):=by
 refine Mc rfl ?_;unfold En;refine GZ (FY (ds:=[Ad t]) rfl (OX o hm)) (gV zn rfl);show some zAi=_;have g:=B7 t.rs;rw[decide_eq_true AC]
def gf{d:PD}(g:zCC)(h:Cu d=false):Vk C1 C2 [d]=some (.inr C1):=by
 refine Mc rfl ?_;unfold En;exact Sa (QY (ds:=[d]) rfl (nh g h))
noncomputable abbrev oD(C1:AD):List PD->Option Xr:=Ci Bi (dZ C1) UI RJ Pu
def ed{t:Tb}(h:t.Wu):oD C1 [Ad t]=some (.inl (Yn t)):=by
 obtain⟨m,n,k,o,hm,_⟩:=id h;refine MT rfl ?_;unfold Nv;exact GZ (FY (ds:=[Ad t]) rfl (OX o hm)) (Od (ey h))
noncomputable abbrev dS(C1 C2:AD):List PD->Option Xr:=Bb qW (Vk C1 C2) (oD C1) gU
def gM{d:PD}{C:AD}(h:Vk C1 C2 [d]=some uk):dS C1 C2 [d]=some uk:=by
 refine Mc rfl ?_;unfold KC;exact Sa (QY (ds:=[d]) rfl h)
def gr{t:Tb}(o:wv)(s:t.Sm){k:Nat}{u:Tr}(h:Qk t k u):dS C1 C2 [Ad t]=some (.inl (U6 t k u)):=by
 have w:=qF o s;have hk:=h.k5;refine MT rfl ?_;unfold KC;refine GZ zAt (GZ (δ':=[.d f8,.d (.tuple [.int (k:Int),tD u]),.no]) (FY (y:=.tuple [.int (k:Int),tD u]) (ds:=[Ad t]) rfl ((ed w).trans (by rw[p4 h]))) (Od (Ac rfl (Ac (Ll (δ:=[.d f8,.d (.tuple [.int (k:Int),tD u]),.d .none]) rfl (Bm (y:=Ry t u) (BB (x:=.list [Ry t u]) (y:=.int 0) ?_ rfl rfl))) (F7 ?_)))))
 .refine Am (xs:=[Ad t,EF [u]]) rfl (gR w (fun v g=>?_) (by show(1:Nat)<=1000;decide));rw[List.mem_singleton.mp g];exact SR h.m5
 .have a:=Y1 k AC;refine Kv (xs:=[.int (k:Int),.list wL,Ry t u]) (AZ rfl (AZ (Am (xs:=[Ad t,EF (Ap k)]) zAj ?_) rfl)) (by show(3:Nat)<=CI;decide);rw[gR w (fun v g=>SR ((a.1 v g).2 hk)) (by have:=a.2.2.1;lia),ml h]
end
abbrev lT:MD:=CH qf
def kG{ts:uJ}(hd:(Tr.of ts).deep<=60){v:Tr}(g:v∈(Tr.of ts).bs):YZ (tD v) (EF ts)=some Iu:=by
 have U:Hf (tD v)=some v:=by rw[Hf,M6]
 have T:Ek (L2.Bs vx)=some vx:=M6 _;unfold YZ;rw[U,Option.bind_some];show(Ek (L2.Bs vx)).bind _=_;rw[T,Option.bind_some,if_pos hd,decide_eq_true g]
def fz{ts:uJ}(hd:(Tr.of ts).deep<=60){v:Tr}(g:v∈(Tr.of ts).bs)(q:Rat):lT [.tuple [tD v,Ak q],EF ts]=some Iu:=by
 refine FA rfl ?_;unfold UQ;exact Ac zX (F7 (Vf (BB (x:=tD v) (y:=EF ts) rfl rfl (kG hd g)) (Am (xs:=[Ak q]) rfl (oq q))))
def nL:∀v∈Ap 5,(Tr.of [v]).deep<=60/\v∈(Tr.of [v]).bs:=by decide +kernel
def sf:∀k,k<5->(Tr.of (TH.tz k)).deep<=60/\∀v∈TH.tz k,v∈(Tr.of (TH.tz k)).bs:=by decide +kernel
def YM(p q:Rat):Er false (Ak p) (Ak q)=some (.bool (decide (p=q))):=by
 refine(if_pos ⟨(SN p).shaped AT,(SN q).shaped AT⟩).trans ?_;rw[Vu];rfl
noncomputable abbrev qg:MD:=B6 Na lT oP
def qN{t:Tb}(o:wv)(s:t.Sm){k:Nat}{u:Tr}(h:Qk t k u):qg [Ad t,EF (Ap k),.list wL]=some Iu:=by
 have hk:=h.k5;have a:=Y1 k AC;have Y:L2.Bs (Tr.of (Ap k))=(Ap k).map tD:=Kx _;refine FA rfl ?_;unfold LD;refine Ac (δ':=[.d f8,.d (EF (Ap k)),.d (.list wL),.no,.no]) (Ej (Jl rfl (Bw (x:=.int (((Ap k).map Gf).length:Nat)) (y:=.int (((Ap k).map Gf).length:Nat)) rfl ?_ (Rp _))) rfl) ?_
 .show some (PyData.int ((L2.Bs (Tr.of (Ap k))).length:Nat))=_;rw[Y,List.length_map,List.length_map]
 refine Qr (xs:=(Ap k).map fun v=>.tuple [tD v,Gf v]) (fun i δ=>∃l T:L,δ=[.d f8,.d (EF (Ap k)),.d (.list wL),l,T]) ?_ ⟨_,_,rfl⟩ ?_ ?_
 .show some (KU (L2.Bs (Tr.of (Ap k))) wL)=_;rw[Y,QU]
 .rintro i x δ U ⟨l,T,rfl⟩;rw[List.getElem?_map]at U;obtain⟨v,hv,rfl⟩:=aC.mp U;have hm:=aJ hv;have g:=(a.1 v hm).2 hk;have hg:=h.good v g (a.1 v hm).1;refine⟨[.d f8,.d (EF (Ap k)),.d (.list wL),.d (tD v),.d (Gf v)],rfl,_,Ej (Jl (Je (HP (Am (xs:=[Gf v,EF [v]]) rfl (fz (nL v g).1 (nL v g).2 _)))) (Jl (Bw (x:=Ak (HY v)) (y:=Ak (HY v)) rfl ?_ zCE) (Bw (x:=Ak (HY v)) (y:=Ak (HY v)) rfl (Am (xs:=[Ad t,tD v]) rfl ?_) zCE))) rfl,_,_,rfl⟩
  .rw[YS (SR g)];exact Kv (xs:=[.int 1,.int ((Tz v:Nat):Int)]) (AZ rfl (AZ (Am (xs:=[tD v]) rfl (S0 (SR g))) rfl)) xh
  .rw[gT o s (fits_of s) g,hg]
 .rintro δ ⟨l,T,rfl⟩
  rfl
noncomputable abbrev qc:MD:=DD Na lT UI oP
def lX{t:Tb}(o:wv)(s:t.Sm){k:Nat}{u:Tr}(h:Qk t k u):qc [Ad t,.int (k:Int),Ry t u]=some Iu:=by
 have hk:=h.k5;have z:=sf k hk;refine FA rfl ?_;unfold Ox;refine Ac (δ':=[.d f8,.d (.int (k:Int)),.d (Ry t u)]) (Ej (Bw (x:=.int (k:Int)) (y:=.int 6) rfl rfl ((iq _ _).trans (by rw[decide_eq_false AC]))) rfl) (Ac (Ej (Jl (Je (HP (Am (xs:=[Ry t u,EF (TH.tz k)]) (AZ rfl (AZ (Am (xs:=[.int ((k+1:Nat):Int)]) rfl (of_is AC)) rfl)) (fz z.1 (z.2 u h.z) _)))) (Bw (x:=Ak (EJ t u)) (y:=Ak (HY u)) rfl ?_ ((YM _ _).trans (by rw[decide_eq_false h.bad])))) rfl) (F7 (BB (x:=Ak (EJ t u)) (y:=Ak (EJ t u)) rfl (Am (xs:=[Ad t,tD u]) rfl (gT o s (fits_of s) h.m5)) ((YM _ _).trans (by rw[decide_eq_true rfl])))));rw[YS (SR h.m5)];exact Kv (xs:=[.int 1,.int yG]) (AZ rfl (AZ (Am (xs:=[tD u]) rfl (S0 (SR h.m5))) rfl)) xh
section
variable{C C1 C2:AD}
noncomputable abbrev X2(C1 C2:AD):List PD->Option Xr:=Bc qg qc BZ (Vk C1 C2) gU
def gE{d p:PD}{C:AD}(h:Vk C1 C2 [d]=some uk):X2 C1 C2 [d,p]=some uk:=by
 refine Mc rfl ?_;unfold IB;exact Sa (QY (ds:=[d]) rfl h)
def qE{t:Tb}(o:wv)(s:t.Sm){k:Nat}{u:Tr}(h:Qk t k u):X2 C1 C2 [Ad t,U6 t k u]=some (.inl Iu):=by
 have hk:=h.k5;refine MT rfl ?_;unfold IB;have T:BZ [.int (k:Int)]=some Iu:=rfl;refine GZ zAt (Od (Ac (δ':=[.d f8,.d (U6 t k u),.no]) (Ej (Jl rfl (Bw (x:=.int 3) (y:=.int 3) rfl rfl (Rp 3))) rfl) (Ac (δ':=[.d f8,.d (U6 t k u),.d (.int (k:Int))]) rfl (Ac (Ej (Jl (Je (HP (Am (xs:=[.int (k:Int)]) rfl T))) (Jl (Bw (x:=.int (k:Int)) (y:=.int 0) rfl rfl ?_) (Bw (x:=.int (k:Int)) (y:=.int 6) rfl rfl ?_))) rfl) (F7 (Vf (Am (xs:=[Ad t,EF (Ap k),.list wL]) zAj (qN o s h)) (Am (xs:=[Ad t,.int (k:Int),Ry t u]) rfl (lX o s h))))))))
 .show some (PyData.bool (decide ((k:Int)<0)))=_;rw[decide_eq_false AC]
 .show some (PyData.bool (decide ((6:Int)<(k:Int))))=_;rw[decide_eq_false AC]
end
def Rf:PD:=.tuple [.int 0,.int 1]
def oK:tj:=[.tuple [.int 2,.int 4],.tuple [.int 1,.int 0],.tuple [.int 0,.int 2],.tuple [.int 1,.int (-1)],.int 1,.bool true,.none,.list [.int 1,.int 1],.tuple [.int 1,.int 1,.int 1],.str yo]
def sW:PD->PD
 |.list xs=>.list (xs++[Rf])
 |d=>d
def XX(rs ls:tj)(p:Nat):tj :=
 [.none,.list [.list rs,.list ls],.tuple [.list rs],.tuple [.list rs,.list ls,.list []],.tuple [.list [],.list []],.tuple [.tuple rs,.list ls],.tuple [.list rs,.tuple ls]] ++
 (oK.flatMap (fun b=>[.tuple [.list rs,.list (ls.take p++[b]++ls.drop (p+1))],.tuple [.list (rs++[.list ([b]++List.replicate (rs.length-1) Rf)]),.list (ls++[Rf])]]) ++
 [.tuple [.list rs,.list (ls++[.tuple [.int 1,.int 1]])],.tuple [.list rs,.list (ls.take (ls.length-1))],.tuple [.list (rs.take (rs.length-1)),.list ls],.tuple [.list (rs++[.list []]),.list (ls++[Rf])]])
def qU(rs ls:tj)(p:Nat):PD:=.tuple [.list (rs.take p++[sW (rs.getD p .none)]++rs.drop (p+1)),.list ls]
def iw:∀b∈oK,Fm b=false:=by decide +kernel
def dP{ds:tj}{d:PD}(hi:d∈ds)(hd:Fm d=false):DP zAA=false:=by
 rw[DP];refine ar.mpr fun z=>?_;have:=ak.mp z d hi;rw[hd]at this;cases this
def V0{r l:PD}(h:DP l=false):Cu (.tuple [r,l])=false:=by rw[Cu,h];simp
def Nh{r l:PD}(h:Cr r=false):Cu (.tuple [r,l])=false:=by rw[Cu,h];simp
def Sy{a b:tj}(h:b.length≠a.length):Cu (.tuple [.list a,.list b])=false:=by
 rw[Cu,show decide (Ge (.list b)=Ge (.list a))=false from bL h];simp
def Qd{ds:tj}{i:Nat}{d:PD}(hi:ds[i]? = some d)(hd:(DP d&&decide (Ge d=i))=false):Cr zAA=false:=by
 rw[Cr];have:J6 ds=false:=by
  unfold J6;refine ar.mpr fun z=>?_;have:=ak.mp z i (aq.mpr (aD.mp hi).1);unfold rowAt at this;rw[hi]at this;simp only at this;rw[hd]at this;cases this
 rw[this];simp
def jY{rs ls:tj}{p:Nat}{xs:tj}(g:rs[p]? = some xu)(T:xs.length=p):Cu (qU rs ls p)=false:=by
 refine Nh (Qd (i:=p) (d:=.list (xs++[Rf])) ?_ ?_)
 .have U:=(aD.mp g).1;rw[List.append_assoc,List.getElem?_append_right (by rw[List.length_take];lia),List.length_take,Nat.min_eq_left AC,Nat.sub_self,List.getD_eq_getElem?_getD,g]
  rfl
 .rw[show decide (Ge (.list (xs++[Rf]))=p)=false from bL (by show(xs++[Rf]).length≠p;simp;lia),Bool.and_false]
def jl{rs ls:tj}{p:Nat}(Y:1<=rs.length)(U:ls.length=rs.length)(T:p<rs.length):∀d∈XX rs ls p,Cu d=false:=fun d hd=>by
 unfold XX at hd;rw[List.mem_append,List.mem_append]at hd;rcases hd with hd|hd|hd
 .simp only[List.mem_cons,List.not_mem_nil,or_false]at hd;rcases hd with rfl|rfl|rfl|rfl|rfl|rfl|rfl
  .rfl
  .rfl
  .rfl
  .rfl
  .rfl
  .exact Nh rfl
  .exact V0 rfl
 .obtain⟨b,hb,hd⟩:=List.mem_flatMap.mp hd;have g:=iw b hb;simp only[List.mem_cons,List.not_mem_nil,or_false]at hd;rcases hd with rfl|rfl
  .exact V0 (dP (d:=b) As g)
  .exact Nh (Qd (i:=rs.length) (d:=.list ([b]++List.replicate (rs.length-1) Rf)) As (by rw[dP (d:=b) As g,Bool.false_and]))
 .simp only[List.mem_cons,List.not_mem_nil,or_false]at hd;rcases hd with rfl|rfl|rfl|rfl
  .exact Sy ii
  .exact Sy ii
  .exact Sy ii
  .exact Nh (Qd (i:=rs.length) (d:=.list []) As (by rw[show decide (Ge (.list [])=rs.length)=false from bL (by show(0:Nat)≠_;lia),Bool.and_false]))
def iC(A B C D:DF)(δ:Dv):Ag A (Ag B (Ag C D)) δ=Ag (Ag A (Ag B C)) D δ:=by
 unfold Ag;cases A δ with
 |none=>rfl
 |some o=>
  cases o with
  |nx g=>
   simp only;cases B g with
   |none=>rfl
   |some o=>
    cases o with
    |nx T=>rfl
    |_=>rfl
  |_=>rfl
def nJ{δ:Dv}{A B C:DF}{r:Option Ou}{d0 U d2 d3 d4 T g:L}{G:DF}{os:Oc}(h:Ag A (Ag B C) δ=some (.nx [d0,U,d2,d3,d4,.own os,T,g]))(k:G [d0,U,d2,d3,d4,.own os,T,g]=r):Ag A (Ag B (Ag C G)) δ=r:=by
 rw[iC];exact Ac h k
def sv:DF:=(Ag zCS
 (Ag (C6 zCK (Ew 6)
  (Ag zCp
  (Ag zDw
  (MR 5 zDK))))
 (U5 5 zCJ)))
def qm:tZ:=zCU
def cc{α:Type}{l:mu}(h:l.length=1):∃a,l=[a]:=match l,h with|[a],_=>⟨a,rfl⟩
def ln2{α:Type}{l:mu}(h:l.length=2):∃a b,l=[a,b]:=match l,h with|[a,b],_=>⟨a,b,rfl⟩
def nq{α:Type}{l:mu}(h:l.length=3):∃a b c,l=[a,b,c]:=match l,h with|[a,b,c],_=>⟨a,b,c,rfl⟩
def qY{α:Type}{l:mu}(h:l.length=4):∃a b c d,l=[a,b,c,d]:=match l,h with|[a,b,c,d],_=>⟨a,b,c,d,rfl⟩
def dn(t:Tb)(p:Nat)(m:Int)(o:L):Dv:=[.d f8,.d (.int m),.d (.list xN),.d (.list xO),.d vX,o,.d (.str yo),.d (.list (BE t.rs++[.list ([.str yo]++List.replicate ((BE t.rs).length-1) Rf)]))]
abbrev NT(t:Tb)(p:Nat):List PD:=XX xN xO p++[qU xN xO p]
structure JC(t:Tb)(p:Nat):Prop where
 a:∀m:Int,sv [.d f8,.d (.int m),.d (.list xN),.d (.list xO),.d vX,.no,.no,.no]=some (.nx (dn t p m (.own (.lst (XX xN xO p)))))
 b:∀m:Int,qm (dn t p m (.d (.list (XX xN xO p))))=some (.list (NT t p))
 c:(NT t p).all PyData.canLay0=true
 l:(NT t p).length=32
def pN(g:Rat):JC ⟨[[]],[g]⟩ 0:=⟨fun m=>by kernel_rfl,fun m=>by kernel_rfl,by kernel_rfl,by kernel_rfl⟩
def pk(a T g:Rat):JC ⟨[[],[a]],[T,g]⟩ 0:=⟨fun m=>by kernel_rfl,fun m=>by kernel_rfl,by kernel_rfl,by kernel_rfl⟩
def pA(a T g:Rat):JC ⟨[[],[a]],[T,g]⟩ 1:=⟨fun m=>by kernel_rfl,fun m=>by kernel_rfl,by kernel_rfl,by kernel_rfl⟩
def qJ(a b c U T g:Rat):JC ⟨[[],[a],[b,c]],[U,T,g]⟩ 0:=⟨fun m=>by kernel_rfl,fun m=>by kernel_rfl,by kernel_rfl,by kernel_rfl⟩
def o9(a b c U T g:Rat):JC ⟨[[],[a],[b,c]],[U,T,g]⟩ 1:=⟨fun m=>by kernel_rfl,fun m=>by kernel_rfl,by kernel_rfl,by kernel_rfl⟩
def pG(a b c U T g:Rat):JC ⟨[[],[a],[b,c]],[U,T,g]⟩ 2:=⟨fun m=>by kernel_rfl,fun m=>by kernel_rfl,by kernel_rfl,by kernel_rfl⟩
def pf(a b c d e f Y U T g:Rat):JC ⟨[[],[a],[b,c],[d,e,f]],[Y,U,T,g]⟩ 0:=⟨fun m=>by kernel_rfl,fun m=>by kernel_rfl,by kernel_rfl,by kernel_rfl⟩
def pS(a b c d e f Y U T g:Rat):JC ⟨[[],[a],[b,c],[d,e,f]],[Y,U,T,g]⟩ 1:=⟨fun m=>by kernel_rfl,fun m=>by kernel_rfl,by kernel_rfl,by kernel_rfl⟩
def ou(a b c d e f Y U T g:Rat):JC ⟨[[],[a],[b,c],[d,e,f]],[Y,U,T,g]⟩ 2:=⟨fun m=>by kernel_rfl,fun m=>by kernel_rfl,by kernel_rfl,by kernel_rfl⟩
def p6(a b c d e f Y U T g:Rat):JC ⟨[[],[a],[b,c],[d,e,f]],[Y,U,T,g]⟩ 3:=⟨fun m=>by kernel_rfl,fun m=>by kernel_rfl,by kernel_rfl,by kernel_rfl⟩
def pE{t:Tb}(o:wv):∀p,p<t.rs.length->JC t p:=by
 obtain⟨rs,ls⟩:=t;have h1:=o.one;have h4:=o.most;have hl:=o.last;have Y:=o.row;dsimp only at h1 h4 hl Y;intro p T;dsimp only at T;rcases(by lia:rs.length=1\/rs.length=2\/rs.length=3\/rs.length=4) with e|e|e|e
 .obtain⟨r0,rfl⟩:=cc e;obtain⟨g,rfl⟩:=cc (hl.trans e);cases List.length_eq_zero_iff.mp (Y 0 r0 rfl)
  match p,T with
  |0,_=>exact pN g
  |p+1,T=>exact absurd T As
 .obtain⟨r0,r1,rfl⟩:=ln2 e;obtain⟨g,U,rfl⟩:=ln2 (hl.trans e);cases List.length_eq_zero_iff.mp (Y 0 r0 rfl);obtain⟨a,rfl⟩:=cc (Y 1 r1 rfl)
  match p,T with
  |0,_=>exact pk a g U
  |1,_=>exact pA a g U
  |p+2,T=>exact absurd T As
 .obtain⟨r0,r1,r2,rfl⟩:=nq e;obtain⟨g,U,Z,rfl⟩:=nq (hl.trans e);cases List.length_eq_zero_iff.mp (Y 0 r0 rfl);obtain⟨a,rfl⟩:=cc (Y 1 r1 rfl);obtain⟨b,c,rfl⟩:=ln2 (Y 2 r2 rfl)
  match p,T with
  |0,_=>exact qJ a b c g U Z
  |1,_=>exact o9 a b c g U Z
  |2,_=>exact pG a b c g U Z
  |p+3,T=>exact absurd T As
 .obtain⟨r0,r1,r2,r3,rfl⟩:=qY e;obtain⟨g,U,Z,l3,rfl⟩:=qY (hl.trans e);cases List.length_eq_zero_iff.mp (Y 0 r0 rfl);obtain⟨a,rfl⟩:=cc (Y 1 r1 rfl);obtain⟨b,c,rfl⟩:=ln2 (Y 2 r2 rfl);obtain⟨d,e1,f,rfl⟩:=nq (Y 3 r3 rfl)
  match p,T with
  |0,_=>exact pf a b c d e1 f g U Z l3
  |1,_=>exact pS a b c d e1 f g U Z l3
  |2,_=>exact ou a b c d e1 f g U Z l3
  |3,_=>exact p6 a b c d e1 f g U Z l3
  |p+4,T=>exact absurd T As
def kz{t:Tb}(o:wv)(c:Int):∃d,Cb [Ad t,.int c]=some d/\d.canLay0=true/\Cu d=false:=by
 have h1:=o.one;have Z:=o.last;have U:(t.rs.length:Int)≠0:=by lia
 have e1:Int.fmod c (t.rs.length:Int)=c % (t.rs.length:Int):=Int.fmod_eq_emod_of_nonneg _ AC;have b1:=Int.emod_nonneg c U;have b2:=Int.emod_lt_of_pos c (show(0:Int)<(t.rs.length:Int) by lia);obtain⟨p,hp⟩:∃p:Nat,Int.fmod c (t.rs.length:Int)=(p:Int):=⟨(c % (t.rs.length:Int)).toNat,by lia⟩;have g:p<t.rs.length:=by lia
 have f1:Int.fmod (c.fdiv 4) 32=(c.fdiv 4) % 32:=Int.fmod_eq_emod_of_nonneg _ AT;obtain⟨j,hj⟩:∃j:Nat,Int.fmod (c.fdiv 4) 32=(j:Int):=⟨((c.fdiv 4) % 32).toNat,by lia⟩;have T:j<32:=by lia
 have R:=pE o p g;have hx:(NT t p)[j]? = some ((NT t p)[j]'(by rw[R.l];exact T)):=aL _;refine⟨(NT t p)[j]'(by rw[R.l];exact T),?_,List.all_eq_true.mp R.c _ (bX _),?_⟩
 .refine FA rfl ?_;unfold Mu;refine Ac (δ':=[.d f8,.d zAa,.d (.list xN),.d (.list xO),.no,.no,.no,.no]) rfl (Ac (Bm (y:=.int (p:Int)) (BB (x:=.int c) (y:=.int ((An t.ls).length:Int)) rfl rfl ?_)) (Ac (Bm (y:=.int (c.fdiv 4)) rfl) (nJ (R.a (c.fdiv 4)) ?_)))
  .show(if((An t.ls).length:Int)≠0 then some (PyData.int (c.fmod ((An t.ls).length:Int))) else none)=_;rw[DV,Z,if_pos U,hp]
  .show Bo (AQ B4 qm (AQ IP M0 (fC (.int 32)))) (dn t p (c.fdiv 4) (.d (.list (XX xN xO p))))=_;refine F7 (BB (R.b _) (y:=.int (j:Int)) (BB (x:=.int (c.fdiv 4)) (y:=.int 32) rfl rfl ?_) ?_)
   .show(if(32:Int)≠0 then some (PyData.int ((c.fdiv 4).fmod 32)) else none)=_;rw[if_pos AT,hj]
   .show Gu _ _=_;rw[Kw];exact hx
 .rcases bG.mp (bX (l:=NT t p) (n:=j) (by rw[R.l];exact T)) with h|h
  .exact jl (by rw[B7];exact h1) (by rw[B7,DV];exact Z) (by rw[B7];exact g) _ h
  .rw[List.mem_singleton.mp h];have Y:t.rs[p]? = some t.rs[p]:=aL g;exact jY (xs:=An t.rs[p]) (by unfold BE;rw[List.getElem?_map,Y];rfl) (by rw[DV];exact o.row p _ Y)
section
variable{C C1 C3:AD}{d:PD}{a b:Tb}{m n:Nat}
abbrev qd(C3:AD):List PD->Option Xr:=BR C3
def pJ(h:a.rs.length+b.rs.length<=40):qd C [.list [Ad a,Ad b]]=some (.inl .none):=by
 refine Sj (δ:=[.d (.list [Ad a,Ad b])]) rfl ?_;unfold Hw;refine YX (Bw (x:=.int [((BE a.rs).length:Int),((BE b.rs).length:Int)].sum) (y:=.int 40) rfl rfl ?_) rfl;show some (PyData.bool (decide ((40:Int) < [((BE a.rs).length:Int),((BE b.rs).length:Int)].sum)))=_;rw[B7,B7,decide_eq_false ii]
abbrev cW(C1 C3:AD):List PD->Option Xr:=Ct (dZ C1) (qd C3)
def gB(ls:zk):PD->PD
 |.list r=>.list (An ls++r)
 |d=>d
def ju(rs:List uH):∀x∈BE rs,PL [x]=some x:=fun x g=>by obtain⟨r,_,rfl⟩:=aT.mp g;rfl
def gg(ha:a.Ok m)(hm:m<=40)(hb:b.Ok n)(hn:n<=40)(h:a.rs.length+b.rs.length<=40):cW C1 C3 [Ad a,Ad b]=some (.inl (Ad (a.behind b))):=by
 have hal:=ha.last;have Z:=hb.last;refine MT rfl ?_;unfold MS;refine GZ (FY (ds:=[Ad a]) rfl (OX ha hm)) (GZ (FY (ds:=[Ad b]) rfl (OX hb hn)) (GZ (FY (ds:=[.list [Ad a,Ad b]]) rfl (pJ h)) ?_));refine Od ?_;have eR:BE (a.behind b).rs=(BE a.rs).map id++(BE b.rs).map (gB a.ls):=by
  rw[List.map_id,Tb.behind,BE,List.map_append]
  congr 1
  rw[BE,List.map_map,List.map_map];exact au fun r _=>by show Bs (a.ls++r)=.list (An a.ls++An r);rw[Bs,OD]
 refine Ac (Bm (y:=.list (BE (a.behind b).rs)) ?_) (F7 (Kv (AZ rfl (AZ (x:=.list (An (a.behind b).ls)) (BB (x:=.list (An a.ls)) (y:=.list (An b.ls)) rfl rfl ?_) rfl)) (show 2<=1000 by decide)))
 .rw[eR];refine BB (comp_map (xs:=BE a.rs) (g:=id) rfl (by rw[B7];unfold CI;lia) fun x T=>Am (xs:=[x]) rfl (ju _ x T)) (comp_map (xs:=BE b.rs) (g:=gB a.ls) rfl (by rw[B7];unfold CI;lia) fun x T=>?_) (add_l (by rw[List.length_map,List.length_map,B7,B7];unfold CI;lia));obtain⟨r,Y,rfl⟩:=aT.mp T;have:=hb.rf r Y;exact BB (x:=.list (An a.ls)) (y:=Bs r) rfl rfl (add_l (by rw[DV,DV];unfold CI;lia))
 .refine(add_l (by rw[DV,DV];unfold CI;lia)).trans ?_;rw[Tb.behind,OD]
end
def Im:tj:=[.none,.int 0,.tuple [.int 0,.list [],.tuple [.tuple [],.tuple [.int 1,.int 1]]],.tuple [.int 0,.list [],.none],.list [],.tuple [.int 7,.list [],.none]]
section
variable{C1 C2:AD}
def kE{t:Tb}(o:wv):∀p∈Im,X2 C1 C2 [Ad t,p]=some (.inl cr):=by
 intro p g;refine MT rfl ?_;unfold IB;refine GZ zAt (Od ?_);unfold Im at g;simp only[List.mem_cons,List.not_mem_nil,or_false]at g;rcases g with rfl|rfl|rfl|rfl|rfl|rfl
 .kernel_rfl
 .kernel_rfl
 .kernel_rfl
 .kernel_rfl
 .kernel_rfl
 .kernel_rfl
end
section
variable{P:Go}{w:KB}{K:Fg}{mg:t7}{base:Heap}{f:AD} 
def cn:Ah xL zBO (AM RG):=B8
def Sw(C9:MD)(DR:MD)(Cb:MD)(Bc:rW)(Bb:rW)(Ct:rW):DF :=
 (Ag (Bh 2 (BH (AA tX (AA IN (AA (A0 (AA IN (AA (BH AG) (AA (A0 (AA (A0 AG) (AA (A0 (AA Da (AA Da AG))) AG))) AG)))) (AA (A0 (AA IN (AA (BH AG) (AA tX AG)))) (AA (BH AG) (AA (A0 (AA (fC (.int 7)) (AA (BH AG) (AA tX AG)))) AG))))))))
 (Ag (Bh 3 (AQ B4 Lz (AQ IP (AX C9 (AA LE (AA mo AG))) mo)))
 (Ag (C6 (C5 IM zq) (Ew 4)
  (Fp (CA yE (AX DR (AA (AX Cb (AA M0 (AA (AX C9 (AA LE (AA (AQ A7 (fC (.int 7)) v8) AG))) AG))) Pi)) (BH (AA (BH (AA (fC (.str WP)) AG)) (AA (BH (AA (fC (.str WP)) AG)) AG))))
   (Bo (fC cr))
   Co))
 (Ag (Bh 5 (AX (good Ct) (AA M0 zCc)))
 (Ag (Gw (CA OB zCm mo)
  (Bh 5 (AX (good Ct) (AA v9 zCc))) 8)
 (Ag (Fp (CA yE (AX DR (AA v9 Pi)) (BH (AA (BH (AA (fC (.str bn)) AG)) (AA (BH (AA (fC (.str bn)) AG)) AG))))
  (Bo (fC cr))
  Co)
 (Ag (Fp (CA (fB true) (AX (good Bc) (AA M0 (AA (AX (good Bb) zCc) AG))) (fC Iu))
  (Bo (fC cr))
  Co)
 (Bo (AQ (Er false) (AX DR (AA M0 Pi)) (BH (AA (BH AG) xJ)))))))))))
def eX{k:Nat}{C9:MD}{DR:MD}{Cb:MD}{Bc:rW}{Bb:rW}{Ct:rW} {Y:AD}{Z:Fr}(CC:Fn K mg "_law_cell" Fe M1 Y Z)(C8:AI P w K mg base Ai k Y Z M1 (Be C9)) {Oe:AD}{Ni:Fr}(U:Fn K mg "_law_flags" JP Pz Oe Ni)(T:AI P w K mg base Ai k Oe Ni Pz (Be DR)) {Mn:AD}{Lr:Fr}(EY:Fn K mg "_law_spoiled" HQ Os Mn Lr)(F4:AI P w K mg base Ai k Mn Lr Os (Be Cb)) {GN:AD}{F6:Fr}(Ck:Fn K mg "judge_paper" GL sq GN F6)(Dc:AI P w K mg base Tl k GN F6 sq (Ep Bc)) {GO:AD}{Fv:Fr}(Cm:Fn K mg "order_paper" GI QB GO Fv)(DZ:AI P w K mg base Tl k GO Fv QB (Ep Bb)) {MV:AD}{L6:Fr}(Dg:Fn K mg "table_behind" HV Js MV L6)(EX:AI P w K mg base Tl k MV L6 Js (Ep Ct))(A5:am)(BQ:uc)(cdv:VL)(A:OR)(outer:uM)(s:SD)(H:Hp)(E:XK)(g:DQ k (A.deeper (PyProof.Rows.envOfC "law" (AM RG) s.heap.objs.size f cdv))):Mo (Cq Ai P w K mg base xL "law" (AM RG) f cdv A outer s H E).I0 ((EC RG).drop 1) (Sw C9 DR Cb Bc Bb Ct):=by
 have sc:=cn;exact(AO (Bg (i:=2) sc.nd rfl At (BA (AB F3 (AB AJ (AB (A9 (AB AJ (AB (BA AF) (AB (A9 (AB (A9 AF) (AB (A9 lm) AF))) AF)))) (AB (A9 (AB AJ (AB (BA AF) (AB F3 AF)))) (AB (BA AF) (AB (A9 (AB AJ (AB (BA AF) (AB F3 AF)))) AF))))))))
 (AO (Bg (i:=3) sc.nd rfl At (Bk IO (A1 Jc (Aq CC C8 g rfl (AB EQ (AB AJ AF))) AJ) Db))
 (AO (EB aO rfl (Ju rfl BQ (AB AJ AF)) (E9 zCj)
  (Ab (Dr (Bx (Kk Lx) (Aq U T g rfl (AB (Aq EY F4 g rfl (AB Ho (AB (Aq CC C8 g rfl (AB EQ (AB (A1 BN AJ uW) AF))) AF))) zCw)) (BA (AB zAr (AB zAr AF))) XV)
   (Ab zAM)
   CB)))
 (AO (Bg (i:=5) sc.nd rfl At (Aq Dg (Uv EX) g rfl (AB Ho zCr)))
 (AO (eM 8 aO (Bx Rl (Di Gv rfl A5 aa (AB (Bk xC AJ Db) AF)) AJ XV)
  (Ab (Bg (i:=5) sc.nd rfl At (Aq Dg (Uv EX) g rfl (AB xC zCr)))))
 (AO (Dr (Bx (Kk Lx) (Aq U T g rfl (AB xC zCw)) (BA (AB zAr (AB zAr AF))) XV)
  (Ab zAM)
  CB)
 (AO (Dr (Bx cQ (Aq Ck (Uv Dc) g rfl (AB Ho (AB (Aq Cm (Uv DZ) g rfl zCr) AF))) Gs XV)
  (Ab zAM)
  CB)
 (Ab (BO (Me (O4 Lx) (Aq U T g rfl (AB Ho zCw)) (BA (AB (BA AF) (AB (BA AF) AF))) XV))))))))))
end
def GP(a b:AD)(x y:Bool):AD->Option Bool:=fun C=>if C=a then some x else if C=b then some y else none
def gq{a b:AD}{x y:Bool}:GP a b x y a=some x:=if_pos rfl
def hV{a b:AD}{x y:Bool}(h:a≠b):GP a b x y b=some y:=(if_neg fun z=>h z.symm).trans (if_pos rfl)
def HU{K:Fg}{a b:AD}{x y:Bool}{cv:V}(T:D8 K a)(g:D8 K b)(Y:PySem.W.kitOne K Jz (D6 cv)=some x)(U:PySem.W.kitOne K (.ref b) (D6 cv)=some y):∀C z,GP a b x y C=some z->D8 K C/\PySem.W.kitOne K Nq (D6 cv)=some z:=fun C z h=>by
 unfold GP at h;split at h
 .rename_i e;subst e;cases h;exact⟨T,Y⟩
 .split at h
  .rename_i e;subst e;cases h;exact⟨g,U⟩
  .cases h
def lg{T:Fk}{C:AD}{b:Bool}(h:T C=some b):dy T (Gb C)=some (.bool b):=by
 show(T ((C:Nat):Int).toNat).map PyData.bool=_;rw[Int.toNat_natCast,h];rfl
def Bl{T:Fk}{C:AD}{b:Bool}{f:tZ}{δ:Dv}(g:f δ=some (Gb C))(h:T C=some b):IH T f δ=some (.bool b):=by
 show(f δ).bind _=_;rw[g];exact lg h
abbrev Mw(C1 C2:AD):MD :=
 Cp iS iS iS iS iS iS (GP C1 C2 true false) iS iS iS iS (GP C1 C2 false true) (GP C1 C2 true true)
def eA{C1 C2:AD}:Mw C1 C2 [Gb C1]=some (.list [.str WP]):=by
 refine FA rfl ?_;unfold KI;have n:∀ {y:Bool},GP C1 C2 false y C1=some false:=gq;have t:∀ {y:Bool},GP C1 C2 true y C1=some true:=gq;refine Ac (Ej rfl rfl) ?_;refine Ac (Bm zDX) ?_;refine Ac (Bm (BB rfl (Ia (AZ ln (AZ (Bl (C:=C1) rfl t) (AZ ln rfl))) AT) rfl)) ?_;refine Ac (Bm (BB rfl zDX rfl)) ?_;refine Ac (Bm (BB rfl zDX rfl)) ?_;refine Ac rfl ?_;refine Ac (Bm (y:=.list [.str WP]) rfl) ?_;exact Ks (Ll (HP (Bl (C:=C1) rfl t)) rfl)
def eP{C1 C2:AD}(h:C1≠C2):Mw C1 C2 [Gb C2]=some (.list [.str bn]):=by
 refine FA rfl ?_;unfold KI;have n:∀ {y:Bool},GP C1 C2 y false C2=some false:=hV h;have t:∀ {y:Bool},GP C1 C2 y true C2=some true:=hV h;refine Ac (Ej rfl rfl) ?_;refine Ac (Bm zDY) ?_;refine Ac (Bm (BB rfl zDY rfl)) ?_;refine Ac (Bm (BB rfl zDY rfl)) ?_;refine Ac (Bm (BB rfl (Ia (AZ (Bl (C:=C2) rfl t) (AZ lp (AZ lp rfl))) AT) rfl)) ?_;refine Ac rfl ?_;refine Ac (Bm (y:=.list [.str bn]) rfl) ?_;exact Ks (Ll (HP (Bl (C:=C2) rfl t)) rfl)
def Wl{C1 C2:AD}:Mw C1 C2 [.none]=some (.list []):=FA rfl (Ks (Ll rfl rfl))
def kP{F:DF}{δ δ2 g:Dv}(U:F (δ.set 3 (.d zDp))=some yy)(T:F (δ2.set 3 (.d (.int 1)))=some (.nx g)):C6 (C5 IM (AA wV AG)) (Ew 3) F δ=some (.nx g):=by
 have Z:Ew 3 zDp δ=some (δ.set 3 (.d zDp)):=rfl;have Y:Ew 3 (.int 1) δ2=some (δ2.set 3 (.d (.int 1))):=rfl;show E2 (Ew 3) F [.int 0,.int 1] δ=_;unfold E2;rw[Z,Option.bind_some,U];show E2 (Ew 3) F [.int 1] δ2=_;unfold E2;rw[Y,Option.bind_some,T]
 rfl
noncomputable abbrev md(C1 C2:AD):List PD->Option Xr:=only [C1,C2] (X2 C1 C2)
noncomputable abbrev lH(C1 C2:AD):List PD->Option Xr:=only [C1,C2] (dS C1 C2)
noncomputable abbrev Vi(C1 C2:AD):MD:=DR (Mw C1 C2) (md C1 C2) (lH C1 C2)
def gm{C1 C2 C:AD}{d p y:PD}(h0:lH C1 C2 [d]=some uk)(Y:md C1 C2 [d,p]=some uk)(T:Mw C1 C2 [Gb C]=some y):Vi C1 C2 [d,p]=some (.list [y,y]):=by
 refine Tg rfl ?_;unfold LP;refine Ac (δ':=[.d d,.d p,.own li,.no,.no,.no]) rfl (Ac (δ':=[.d d,.d p,.own (.lst [y,y]),.d (.int 1),.d (Gb C),.no]) (kP (δ2:=[.d d,.d p,.own (.lst [y]),.d zDp,.d (Gb C),.no]) ?_ ?_) rfl)
 .exact Ac rfl (Ac (WI (C:=C) (δ':=[.d d,.d p,.own li,.d zDp,.d (Gb C),.d (Gb C)]) (O0 (gb rfl (O0 (Vz (ds:=[d]) rfl h0)))) rfl) (OL (xs:=[]) (Am (xs:=[Gb C]) rfl T) rfl AT))
 .exact Ac rfl (Ac (WI (C:=C) (δ':=[.d d,.d p,.own (.lst [y]),.d (.int 1),.d (Gb C),.d (Gb C)]) (O0 (gn rfl (O0 (Vz (ds:=[d,p]) rfl Y)))) rfl) (OL (xs:=[y]) (Am (xs:=[Gb C]) rfl T) rfl (by show(1:Nat)<CI;decide)))
def lG{C1 C2:AD}{d p x y:PD}(h0:lH C1 C2 [d]=some (.inl x))(U:md C1 C2 [d,p]=some (.inl y)):Vi C1 C2 [d,p]=some xi:=by
 refine Tg rfl ?_;unfold LP;refine Ac (δ':=[.d d,.d p,.own li,.no,.no,.no]) rfl (Ac (δ':=[.d d,.d p,.own (.lst [.list [],.list []]),.d (.int 1),.d .none,.no]) (kP (δ2:=[.d d,.d p,.own (.lst [.list []]),.d zDp,.d .none,.no]) ?_ ?_) rfl)
 .exact Ac rfl (Ac (VX (PJ (gb rfl (PJ (WW (ds:=[d]) rfl h0) rfl)) rfl)) (OL (xs:=[]) (Am (xs:=[.none]) rfl Wl) rfl AT))
 .exact Ac rfl (Ac (VX (PJ (gn rfl (PJ (WW (ds:=[d,p]) rfl U) rfl)) rfl)) (OL (xs:=[.list []]) (Am (xs:=[.none]) rfl Wl) rfl (by show(1:Nat)<CI;decide)))
def lj{C1 C2:AD}{d p:PD}(g:zCC)(h:Cu d=false):Vi C1 C2 [d,p]=some zDH :=
 gm (PQ (gM (gf g h)) KM) (PQ (gE (gf g h)) KM) eA
def iY{C1 C2:AD}(g:C1≠C2){t:Tb}{m:Nat}{p:PD}(o:t.Ok m)(hm:m<=40)(T:6<=t.rs.length):Vi C1 C2 [Ad t,p]=some zDI :=
 gm (PQ (gM (Xg o hm T)) zCx) (PQ (gE (Xg o hm T)) zCx) (eP g)
def jS{C1 C2:AD}{t:Tb}(o:wv)(s:t.Sm){p:PD}(g:p∈Im):Vi C1 C2 [Ad t,p]=some xi:=by
 obtain⟨k,u,h⟩:=a9 o s;exact lG (XI (gr o s h)) (XI (kE o p g))
section
variable{P:Go}{w:KB}{K:Fg}{mg:t7}{base:Heap}{f:AD}{fd:Fr}
def OJ:Ah ms M1 (AM Fe):=B8
def MJ:DF :=
 (Ag (Bh 2 IN)
 (Ag (Fp (CA OB M0 (AX F0 zCf))
  (Bh 2 (AQ B4 LE M0))
  Co)
 (Ag (Fp (CA xg Lz yH)
  (Bo (AQ IP (AQ Yi Lz yH) (AQ Oq (fC (.int 10)) (fC (.int 60)))))
  Co)
 (Ag (Bh 3 (AQ IP zDB (fC (.int 2147483629))))
 (Ag (Bh 4 IN)
 (Ag (C6 (C5 IM zq) (Ew 5)
  (Ag Ps
  (Bh 4 bd)))
 (Bo v8)))))))
def C9:MD:=Dh M1 ms (MJ)
def U4{k:Nat}(F:Fn K mg "_law_cell" Fe M1 f fd)(T:am)(g:uc):AI P w K mg base Ai io f fd M1 (Be (C9)):=Ii F OJ fun cdv A outer s H E U=>by
 have sc:=OJ;exact(AO (Bg (i:=2) sc.nd rfl At AJ)
 (AO (Dr (Bx Rl Ho (Di Gv rfl T aa (AB EQ AF)) XV)
  (Ab (Bg (i:=2) sc.nd rfl At (Bk EQ Ho Db)))
  CB)
 (AO (Dr (Bx gI IO (A1 Sv AJ AJ) XV)
  (Ab (BO (A1 Jc (A1 Xn IO (A1 Sv AJ AJ)) (A1 Sv AJ AJ))))
  CB)
 (AO (Bg (i:=3) sc.nd rfl At (A1 Jc (A1 BN (A1 BN (A1 LU IO AJ) (A1 LU Ho AJ)) AJ) AJ))
 (AO (Bg (i:=4) sc.nd rfl At AJ)
 (AO (EB aO rfl (Ju rfl g (AB AJ AF)) (E9 zDC)
  (AO (Bg (i:=3) sc.nd rfl At (A1 Jc (A1 BN (A1 BN (A1 LU Nr Nr) (A1 LU AJ xC)) AJ) AJ))
  (Ab (Bg (i:=4) sc.nd rfl At (A1 BN (A1 LU uW AJ) (A1 Jc (A1 LU Nr Nr) AJ))))))
 (Ab (BO uW))))))))
end
def XT(ns:uB)(k:Nat):∃c,C9 [Dz ns,.int (k:Nat)]=some zAa:=by
 suffices hh:∃c,MJ [.d vm,.d td,.no,.no,.no,.no]=some (.rt zAa) by
  obtain⟨c,h⟩:=hh;exact⟨c,FA rfl h⟩
 unfold MJ;have Z:∃g,(Fp (CA OB M0 (AX F0 zCf)) (Bh 2 (AQ B4 LE M0)) Co) [.d vm,.d td,.d zDp,.no,.no,.no]=some (.nx [.d vm,.d td,.d yc,.no,.no,.no]):=by
  have t:CA OB M0 (AX F0 zCf) [.d vm,.d td,.d zDp,.no,.no,.no]=some (decide ((k:Int)<((ns.map PyData.int).length:Nat))):=Bw (x:=.int (k:Nat)) (y:=.int ((ns.map PyData.int).length:Nat)) rfl rfl rfl;rw[List.length_map]at t;by_cases z:k<ns.length
  .rw[decide_eq_true (show(k:Int)<(ns.length:Nat) by lia)]at t;exact⟨ns[k],Ll t (Bm (BB (x:=Dz ns) (y:=.int (k:Nat)) rfl rfl (Kw (by rw[List.getElem?_map,List.getElem?_eq_getElem z];rfl))))⟩
  .rw[decide_eq_false (show ¬(k:Int)<(ns.length:Nat) by lia)]at t;exact⟨0,Ej t rfl⟩
 obtain⟨g,Z⟩:=Z;have T:AQ Oq (fC (.int 10)) (fC (.int 18)) [.d vm,.d td,.d yc,.no,.no,.no]=some (.int ((10:Int)^18)):=BB (x:=.int 10) (y:=.int 18) rfl rfl (Z0 (n:=18) AT AT);have p60:AQ Oq (fC (.int 10)) (fC (.int 60)) [.d vm,.d td,.d yc,.no,.no,.no]=some (.int ((10:Int)^60)):=BB (x:=.int 10) (y:=.int 60) rfl rfl (Z0 (n:=60) AT AT);have U:CA xg Lz yH [.d vm,.d td,.d yc,.no,.no,.no]=some (decide ((10:Int)^18<=g)):=Bw (x:=.int g) (y:=.int ((10:Int)^18)) rfl T rfl;by_cases z:(10:Int)^18<=g
 .rw[decide_eq_true z]at U;exact⟨_,Ac rfl (Ac Z (Ks (Ll U (F7 (BB (x:=.int (g-(10:Int)^18)) (BB (x:=.int g) rfl T rfl) p60 (mod_is (Int.pow_pos AT)))))))⟩
 .rw[decide_eq_false z]at U;have hn:∀(a:Int) (m:Int),0<m->m<2^60->(a % m).natAbs<2^64:=fun a m h0 h1=>by
   have:=Int.emod_nonneg a (by lia:m≠0);have:=Int.emod_lt_of_pos a h0
   lia
  generalize Y:(g*48271+(k:Int)*69621+11) % 2147483629=v;have v1:v.natAbs<2^64:=by rw[<-Y];exact hn _ _ AT AT
  have e3:AQ IP zDB (fC (.int 2147483629)) [.d vm,.d td,.d yc,.no,.no,.no]=some (.int v):=by
   refine BB (x:=.int (g*48271+(k:Int)*69621+11)) (y:=.int 2147483629) (BB (x:=.int (g*48271+(k:Int)*69621)) (y:=.int 11) (BB (x:=.int (g*48271)) (y:=.int ((k:Int)*69621)) (BB (x:=.int g) (y:=.int 48271) rfl rfl (mul_r AT)) (BB (x:=.int (k:Nat)) (y:=.int 69621) rfl rfl (mul_r AT)) rfl) rfl rfl) rfl ((mod_is AT).trans ?_);rw[Y]
  have loop:∀(F2:DF) (r:PD->Prop),(∀(v f:Int) (l:L),∃c,F2 [.d vm,.d td,.d yc,.d (.int v),.d (.int f),l]=some (.rt zAa))->∃c,Ag (C6 (C5 IM zq) (Ew 5) (Ag Ps (Bh 4 bd))) F2 [.d vm,.d td,.d yc,.d (.int v),.d zDp,.no]=some (.rt zAa):=fun F2 r hF=>by
   have h:=S4 (set:=Ew 5) (F:=Ag Ps (Bh 4 bd)) (fs:=C5 IM zq) (δ:=[.d vm,.d td,.d yc,.d (.int v),.d zDp,.no]) (xs:=Ja 0 8) (Q:=fun δ=>∃(v f:Int) (l:L),δ=[.d vm,.d td,.d yc,.d (.int v),.d (.int f),l]) (fun i δ=>∃(v f:Int) (l:L),v.natAbs<2^64/\δ=[.d vm,.d td,.d yc,.d (.int v),.d (.int f),l]) rfl ⟨v,0,_,v1,rfl⟩ ?_ ?_
   .obtain⟨δ',e,v',f',l,rfl⟩:=h;obtain⟨c,hc⟩:=hF v' f' l;exact⟨c,Ac e hc⟩
   .rintro i y δ hy ⟨v,f,l,Y,rfl⟩;obtain⟨rfl,_⟩:=TN hy;have hu:(yN % 2147483587).natAbs<2^64:=hn _ _ AT AT;refine⟨_,rfl,?_⟩;refine ZY (Bm (y:=.int (yN % 2147483587)) (BB (x:=.int yN) (y:=.int 2147483587) (BB (x:=.int (v*v+69621*(0+(i:Int)))) (y:=.int 7) (BB (x:=.int (v*v)) (y:=.int (69621*(0+(i:Int)))) (BB (x:=.int v) (y:=.int v) rfl rfl (mul_r Y)) (BB (x:=.int 69621) (y:=.int (0+(i:Int))) rfl rfl (oY AT)) rfl) rfl rfl) rfl (mod_is AT))) ?_;generalize yN % 2147483587=u at hu;exact⟨_,Bm (y:=.int (f*2147483563+u*u % 2147483563)) (BB (x:=.int (f*2147483563)) (y:=.int (u*u % 2147483563)) (BB (x:=.int f) (y:=.int 2147483563) rfl rfl (mul_r AT)) (BB (x:=.int (u*u)) (y:=.int 2147483563) (BB (x:=.int u) (y:=.int u) rfl rfl (mul_r hu)) rfl (mod_is AT)) rfl),u,_,_,hu,rfl⟩
   .rintro δ ⟨v,f,l,_,rfl⟩;exact⟨v,f,l,rfl⟩
  obtain⟨c,hc⟩:=loop (Bo v8) (fun _=>True) fun v f l=>⟨f,rfl⟩;exact⟨c,Ac rfl (Ac Z (Ac (Ej U rfl) (Ac (Bm e3) (Ac rfl hc))))⟩
def mV:Er true zDH zDH=some cr:=by kernel_rfl
def j4:Er true zDI zDI=some cr:=by kernel_rfl
def TM:Er false xi xi=some Iu:=by kernel_rfl
def Tb.Ok.self{t:Tb}{m:Nat}(o:t.Ok m):t.Ok t.rs.length:=⟨o.one,Nat.le_refl _,o.last,o.row⟩
def QN(a b:Tb):(a.behind b).rs.length=a.rs.length+b.rs.length:=by unfold Tb.behind;simp
section
variable{C1 C2:AD}
def tF{t:Tb}(o:wv){d0 d2 d3 d4:L}:∀(k:Nat) (g:Tb),g.Ok g.rs.length->g.rs.length<=9->6<=g.rs.length+k->∃g':Tb,g'.Ok g'.rs.length/\6<=g'.rs.length/\g'.rs.length<=9 /\Gw (CA OB zCm mo) (Bh 5 (AX (good (cW C1 C2)) (AA v9 zCc))) io [d0,.d f8,d2,d3,d4,.d (Ad g)]=some (.nx [d0,.d f8,d2,d3,d4,.d (Ad g')]):=by
 intro k
 induction k with
 |zero=>
  intro g U Y Z;refine⟨g,U,Z,Y,?_⟩;have e:CA OB zCm mo [d0,.d f8,d2,d3,d4,.d (Ad g)]=some false:=Bw (x:=.int ((BE g.rs).length:Nat)) (y:=.int 6) rfl rfl (by
   show some wD=_;rw[B7,decide_eq_false AC])
  unfold Gw;rw[e]
  rfl
 |succ k ih=>
  intro g U Y Z;by_cases hg:6<=g.rs.length
  .refine⟨g,U,hg,Y,?_⟩;have e:CA OB zCm mo [d0,.d f8,d2,d3,d4,.d (Ad g)]=some false:=Bw (x:=.int ((BE g.rs).length:Nat)) (y:=.int 6) rfl rfl (by
    show some wD=_;rw[B7,decide_eq_false AC])
   unfold Gw;rw[e]
   rfl
  .have e:CA OB zCm mo [d0,.d f8,d2,d3,d4,.d (Ad g)]=some true:=Bw (x:=.int ((BE g.rs).length:Nat)) (y:=.int 6) rfl rfl (by
    show some wD=_;rw[B7,decide_eq_true AC])
   have h1:=o.one;have h4:=o.most;have st:Bh 5 (AX (good (cW C1 C2)) (AA v9 zCc)) [d0,.d f8,d2,d3,d4,.d (Ad g)]=some (.nx [d0,.d f8,d2,d3,d4,.d (Ad (g.behind t))]):=Bm (y:=Ad (g.behind t)) (Am (xs:=[Ad g,Ad t]) rfl (O1 (gg U AC o AT AC)));obtain⟨g',a1,a2,a3,a4⟩:=ih (g.behind t) ((U.behind o).self) (by rw[QN];lia) (by rw[QN];lia);refine⟨g',a1,a2,a3,?_⟩;rw[Gw,e];show(match Bh 5 _ _ with|some (.nx T)=>_|some (.ct T)=>_|some (.bk T)=>_|some (.rt v)=>_|some (.rn v)=>_|none=>_)=_;rw[st];exact a4
def mU(h12:C1≠C2)(ns:uB){t:Tb}(o:wv)(s:t.Sm):Sw C9 (Vi C1 C2) Cb (X2 C1 C2) (dS C1 C2) (cW C1 C2) [.d vm,.d f8,.no,.no,.no,.no]=some (.rt Iu):=by
 have h1:=o.one;have h4:=o.most;obtain⟨c,hc⟩:=XT ns 6;have b1:=Int.emod_nonneg c (show(6:Int)≠0 by decide);have b2:=Int.emod_lt_of_pos c (show(0:Int)<6 by decide);obtain⟨j,hj⟩:∃j:Nat,c % 6=(j:Int):=⟨(c % 6).toNat,by lia⟩;have Y:j<Im.length:=by show j<6;lia
 obtain⟨p,hp⟩:∃p,Im[j]? = some p:=⟨Im[j],List.getElem?_eq_getElem Y⟩;have U:p∈Im:=aJ hp;unfold Sw;refine Ac (δ':=[.d vm,.d f8,.d (.list Im),.no,.no,.no]) rfl ?_;refine Ac (δ':=[.d vm,.d f8,.d (.list Im),.d p,.no,.no]) (Bm (y:=p) (BB (x:=.list Im) (y:=.int (j:Int)) rfl (BB (x:=.int c) (y:=.int 6) (Am (xs:=[Dz ns,.int ((6:Nat):Int)]) rfl hc) rfl ((mod_is AT).trans (by rw[hj]))) (by
  show Gu _ _=_;rw[Kw];exact hp))) ?_
 refine Qr (xs:=Ja 0 8) (fun i δ=>∃l:L,δ=[.d vm,.d f8,.d (.list Im),.d p,l,.no]) (nc (j:=8) rfl AT AT) ⟨_,rfl⟩ ?_ ?_
 .rintro i x δ hx ⟨l,rfl⟩;obtain⟨rfl,hi⟩:=TN hx;obtain⟨c2,Z⟩:=XT ns (7+i);obtain⟨d,e1,e2,e3⟩:=kz o c2;refine⟨_,rfl,[.d vm,.d f8,.d (.list Im),.d p,.d (.int (0+(i:Nat))),.no],Ej (Bw (Am (xs:=[d,p]) (AZ (Am (xs:=[Ad t,.int c2]) (AZ rfl (AZ (Am (xs:=[Dz ns,.int ((7+i:Nat):Int)]) (AZ rfl (AZ (x:=.int ((7+i:Nat):Int)) ?_ rfl)) Z) rfl)) e1) rfl) (lj e2 e3)) rfl mV) rfl,_,rfl⟩;show some (PyData.int (7+(0+(i:Int))))=_
  congr 2
  lia
 .rintro δ ⟨l,rfl⟩;refine Ac (δ':=[.d vm,.d f8,.d (.list Im),.d p,l,.d (Ad (t.behind t))]) (Bm (y:=Ad (t.behind t)) (Am (xs:=[Ad t,Ad t]) rfl (O1 (gg o AT o AT AC)))) ?_;obtain⟨g,a1,a2,a3,a4⟩:=tF (C1:=C1) (C2:=C2) o (d0:=.d vm) (d2:=.d (.list Im)) (d3:=.d p) (d4:=l) 7 (t.behind t) ((o.behind o).self) (by rw[QN];lia) AC;refine Ac a4 (Ac (Ej (Bw (Am (xs:=[Ad g,p]) rfl (iY h12 a1 AC a2)) rfl j4) rfl) ?_);obtain⟨k,u,h⟩:=a9 o s;exact Ac (Ej (Bw (x:=.bool true) (y:=.bool true) (Am (xs:=[Ad t,U6 t k u]) (AZ rfl (AZ (Am (xs:=[Ad t]) rfl (O1 (gr o s h))) rfl)) (O1 (qE o s h))) rfl rfl) rfl) (F7 (BB (Am (xs:=[Ad t,p]) rfl (jS o s U)) rfl TM))
end
def Yg(K:Fg):Sp:=fun vs H Q _=>∃(a:AD) (ns:wq),vs=[.ref a]/\Ar K H a jp/\ns.length<=63/\∀H',Q (.bl true) H'
def rA{X:Cx}{st:Stmt}{g:uL}{t1:TS}{F:DF}(d:Mo X g F)(U:PS X st t1){T:TS->Prop}(k:∀u:TS,(∀δ r,F δ=some r->∀G0 H0 G H σ D,Rw G0 H0 G H σ δ []->Fin G0 H0 D r->u D σ H)->T (dc t1 u)):∃t,IW X (st::g) t/\T t:=by
 obtain⟨t,pt,kt⟩:=d;exact⟨_,Aa U pt,k t kt⟩
section
variable{P:Go}{w:KB}{K:Fg}{mg:t7}{base:Heap}{f g1 g2 g3 g4 g5 g6 g7:AD}{fd gd1 gd2 gd3 gd4 gd5 gd6 gd7:Fr}
def ng{k:Nat}{C1 C2:AD}(Y:C1≠C2)(hK:Ux K=true)(F:Fn K mg "law" RG zBO f fd)(JQ:Fn K mg "_law_table" LI ce g1 gd1)(CC:Fn K mg "_law_cell" Fe M1 g2 gd2)(D9:Fn K mg "_law_flags" JP Pz g3 gd3)(EY:Fn K mg "_law_spoiled" HQ Os g4 gd4)(Ck:Fn K mg "judge_paper" GL sq g5 gd5)(Cm:Fn K mg "order_paper" GI QB g6 gd6)(Dg:Fn K mg "table_behind" HV Js g7 gd7) (U2:AI P w K mg base Ai k g1 gd1 ce (VM K))(C8:AI P w K mg base Ai k g2 gd2 M1 (Be C9))(Eg:AI P w K mg base Ai k g3 gd3 Pz (Be (Vi C1 C2)))(F4:AI P w K mg base Ai k g4 gd4 Os (Be Cb))(Dc:AI P w K mg base Tl k g5 gd5 sq (Ep (X2 C1 C2)))(DZ:AI P w K mg base Tl k g6 gd6 QB (Ep (dS C1 C2)))(EX:AI P w K mg base Tl k g7 gd7 Js (Ep (cW C1 C2))) (A5:am)(BQ:uc):AI P w K mg base Ai io f fd zBO (Yg K):=by
 have sc:=cn;refine F.F.ok (k:=k) sc Hb (fun cdv A outer s H vs Q E Z h=>?_)
 .obtain⟨a,ns,rfl,_⟩:=h
  rfl
 obtain⟨a,ns,rfl,hS,h63,q⟩:=h;refine rA (eX CC C8 D9 Eg EY F4 Ck Dc Cm DZ Dg EX A5 BQ cdv A outer s H E Z) (BC (i:=1) sc.nd rfl At (Bt JQ U2 Z rfl (AH zDz (AH AY (AH AY AV))))) fun u kt=>?_;refine⟨_,rfl,a,ns,rfl,hS,fun v T tb e1 g ho hs U=>?_⟩;refine kt _ _ (mU Y ns ho ⟨hs,U⟩) T T T T _ _ ⟨.refl _,Nw.refl,.refl _,.refl _,rfl,fun i x h=>?_,fun i xs h=>?_,fun i j xs ys _ h=>?_,fun q hq=>by cases hq⟩ fun v G' H' _ _ _ _ g=>?_
 .rcases i with _|_|_|_|_|_|i
  .cases h;exact⟨_,rfl,ko ((lz hK hS).same e1)⟩
  .cases h;exact⟨_,rfl,g.du⟩
  all_goals first|(cases h;done)|(simp at h)
 .rcases i with _|_|_|_|_|_|i
  all_goals first|(cases h;done)|(simp at h)
 .rcases i with _|_|_|_|_|_|i
  all_goals first|(cases h;done)|(simp at h)
 .rw[Du]at g;subst g;exact q H'
end
def cT(n:Nat)(g:Tr->Nat):Sp:=fun vs H Q _=>∃v t,vs=[v]/\Tv H t v/\t.deep<n/\n<=60/\t.AR<=8/\∀H',AL H H'->Q (.int (g t)) H'
def fI{P:Go}{w:KB}{K:Fg}{mg:t7}{base:Heap}{CX:Hm}{k:Nat}{f:AD}{fd:Fr}{ps:uC}{sp:Sp}(h:∀vs H Q E,¬sp vs H Q E):AI P w K mg base CX k f fd ps sp :=
 ⟨fun _ _ _ _ z=>(h _ _ _ _ z).elim,fun _ _ _ _ _ _ _ _ _ _ _ _ _ z=>(h _ _ _ _ z).elim⟩
section
variable{P:Go}{w:KB}{K:Fg}{mg:t7}{base:Heap}{f:AD}{fd:Fr}
def Rk:Ah SC SC (AM EV):=B8
def L1(BG:Fn K mg "knots_within" EV SC f fd)(FL:zBM):∀n,AI P w K mg base Ai n f fd SC (cT n Tr.AR)
 |0=>fI fun _ _ _ _ ⟨_,_,_,_,h,_⟩=>absurd h yi
 |n+1=>by
  have sc:=Rk;have Bp:=L1 BG FL n;refine BG.F.ok (k:=n) sc Hb Fa
  .obtain⟨v,t,rfl,_⟩:=h
   rfl
  obtain⟨v,t,rfl,⟨a,xs,rfl,ha,ht⟩,hd,hn,hk,q⟩:=h;refine⟨_,(Aj (BU (A2 Fu AY (BW (NH rfl) rfl FL bo (AH (Ff [".0","bough"] 1 [none,none] (VD zDz) cx (fun _ _ _ _ _=>(Bt BG Bp hr rfl v6))) AV))))),?_⟩;have g:=ht.len;have Z:xs.length<8:=by rw[g];have:=Tr.OS t;lia
  refine⟨_,rfl,a,rfl,⟨_,BJ.of ha⟩,fun D hD=>Fq (n:=xs.length) (fun i ys H'=>AL H H'/\ys=(t.bs.take i).map fun c=>V.int (c.AR:Nat)) ?_ ?_ ?_⟩
  .exact⟨Al hD _,by simp⟩
  .rintro i ys H0 hi ⟨U,rfl⟩ T;have hi':i<t.bs.length:=by lia
   refine⟨⟨xs,xs[i],BJ.of (U _ _ ha),by simp[hi]⟩,?_,fun x H' y=>?_⟩
   .rw[List.length_map,List.length_take];exact aR (Nat.min_le_left _ _) (aG (bh hi Z) Nk)
   .obtain⟨rfl,y⟩:=y;have hx:=y xs (BJ.of (U _ _ ha));obtain⟨c,hc,tc⟩:=ht.get hx;have Y:c∈t.bs:=aJ hc;have hcd:=Tr.Qn Y;have hck:=Tr.L7 Y;unfold HK;refine E8 ⟨_,rfl,x,c,rfl,tc.same U,by lia,by lia,by lia,fun H2 e2=>⟨e2 _ _ T,EG hi ⟨?_,?_⟩⟩⟩
    .exact fun b o z=>by
      rw[AK zAD];exact e2 _ _ (U _ _ z)
    .rw[List.take_succ,hc];simp
  .rintro ys H0 ⟨U,rfl⟩ T;refine⟨⟨xs,BJ.of (U _ _ ha),Nat.le_refl _⟩,?_⟩;refine⟨D,t.bs.map fun c=>(c.AR:Int),rfl,Ar.of ?_,_,_,rfl,rfl,?_⟩
   .rw[T,g,List.take_length,List.map_map]
    rfl
   .show Q (.int (1+(t.bs.map fun c=>(c.AR:Int)).sum)) H0;rw[Tr.UM];exact q H0 U
end
def qB{P:Go}{w:KB}{K:Fg}{mg:t7}{base:Heap}{f:AD}{fd:Fr}{k:Nat}{ps:uC}(F:AI P w K mg base Ai k f fd ps (cT 8 Tr.AR)):AI P w K mg base Ai k f fd ps mS :=
 F.imp fun vs H Q E z=>by
  obtain⟨v,u,rfl,g,hd,hk,q⟩:=z;exact⟨v,u,rfl,g,hd,by decide,hk,q⟩
section
open PySem.W
def fnX{w:KB}{mg:t7}{h:Heap}(X:(kH w.params).In h)(G:h.Ns mainGlobals mg)(n:wN)(i:Nat)(m:wN)(t c f:Nat)(ps:uC)
 (ha:nsIn Ev mainGlobals wk=some (some xo):=by kernel_rfl)(g:(kH w.params).lookup f=some (fO n i m t c):=by kernel_rfl)(T:codeIn Ev (.ref c) wk=true:=by kernel_rfl)(hk:keepIn Ev xo=true:=by kernel_rfl)
 (hb:∀(kV doc pm:VL) (an:Option AD) (cdv ct:VL) (us:tm),us.length=ps.length->bindArgs (fnOf wk wk (HR (top i)) (EC (top i)) (AM (top i)) .none kV doc pm an cdv ct) ⟨us,[]⟩=pure (ps.zip us):=by first|(exact fun _ _ _ _ _ _ us g=>match us,g with|[_],_=>rfl)|(exact fun _ _ _ _ _ _ us g=>match us,g with|[_,_],_=>rfl)|(exact fun _ _ _ _ _ _ us g=>match us,g with|[_,_,_],_=>rfl)|(exact fun _ _ _ _ _ _ us g=>match us,g with|[_,_,_,_],_=>rfl)|(exact fun _ _ _ _ _ _ us g=>match us,g with|[_,_,_,_,_],_=>rfl)|(exact fun _ _ _ _ _ _ us g=>match us,g with|[],_=>rfl)) :
  Fn Ev mg wk (top i) ps f (fnOf wk wk (HR (top i)) (EC (top i)) (AM (top i)) .none .none .none (.str (Str.ofString m) t) none (.ref c) .none) :=
 ⟨cz g T hk,(cz (st:=top i) g T hk).binds hb,mg_of X G ha⟩
set_option maxHeartbeats 4000000 in
def sZ(w:KB)(mg:t7)(fa:AD)(h:Heap)(X:(kH w.params).In h)(G:h.Ns mainGlobals mg)(hfa:mg "law" = some (.ref fa)):∃fd:FuncData,(∀(s:SD) (v:VL),BindsTo s fd ⟨[v],[]⟩ [("_law_script",v)])/\∀base:Heap,(kH w.params).In base->base.Ns mainGlobals mg->AI CF.prog w Ev mg base Ai 25 fa fd zBO (Yg Ev):=by
 have e:=hfa.symm.trans (mg_of X G (v:=.ref 484) KK);cases e;have CV:=fnX X G "fraction_of" 15 "stepgrove.fracs" 399 177 178 um;have Iq:=fnX X G "frac_times" 16 "stepgrove.fracs" 399 184 185 Js;have DY:=fnX X G "is_fraction" 17 "stepgrove.fracs" 399 191 192 IF;have DN:=fnX X G "are_fractions" 18 "stepgrove.fracs" 399 198 199 IF;have CZ:=fnX X G "is_whole" 19 "stepgrove.fracs" 399 205 206 IF;have Ax:=fnX X G "greatest_divisor" 20 "stepgrove.fracs" 399 212 213 Js;have Cc:=fnX X G "common_bottom" 21 "stepgrove.fracs" 399 219 220 xF;have JF:=fnX X G "frac_total" 22 "stepgrove.fracs" 399 224 225 ["some"];have Kn:=fnX X G "power_of" 23 "stepgrove.fracs" 399 231 232 yR;have Ki:=fnX X G "is_table" 26 "stepgrove.tables" 477 238 239 IF;have Bf:=fnX X G "refuse_no_table" 27 "stepgrove.tables" 477 245 246 IF;have Ko:=fnX X G "are_rows" 28 "stepgrove.tables" 477 252 253 IF;have Dp:=fnX X G "trees_of" 31 "stepgrove.trees" 504 259 260 zm;have GC:=fnX X G "trees_to" 32 "stepgrove.trees" 504 266 267 ["most"];have Cs:=fnX X G "in_falling_order" 33 "stepgrove.trees" 504 273 274 zG;have BG:=fnX X G "knots_within" 34 "stepgrove.trees" 504 278 279 SC;have BL:=fnX X G "density_within" 35 "stepgrove.trees" 504 285 286 SC;have CM:=fnX X G "parents_within" 36 "stepgrove.trees" 504 290 291 SC;have B3:=fnX X G "trees_one_larger" 37 "stepgrove.trees" 504 297 298 SC;have Jn:=fnX X G "tops_over" 39 "stepgrove.wholes" 567 302 303 vf;have HI:=fnX X G "table_bottom" 40 "stepgrove.wholes" 567 307 308 QB;have HE:=fnX X G "true_weights" 42 "stepgrove.weights" 581 312 313 zAd;have DK:=fnX X G "weights_under" 43 "stepgrove.weights" 581 317 318 Px;have FH:=fnX X G "readings" 44 "stepgrove.weights" 581 322 323 vg;have J4:=fnX X G "read_by" 45 "stepgrove.weights" 581 327 328 wt;have IG:=fnX X G "table_order" 48 "stepgrove.orders" 607 334 335 QB;have HN:=fnX X G "first_unlike" 49 "stepgrove.orders" 607 341 342 uo;have Cm:=fnX X G "order_paper" 52 "stepgrove.judging" 633 348 349 QB;have Ck:=fnX X G "judge_paper" 53 "stepgrove.judging" 633 355 356 sq;have CJ:=fnX X G "refuse_no_judging" 54 "stepgrove.judging" 633 362 363 QB;have JB:=fnX X G "lines_of" 55 "stepgrove.judging" 633 369 370 Px;have GD:=fnX X G "are_true_lines" 56 "stepgrove.judging" 633 376 377 uU;have Ik:=fnX X G "is_due_odd" 57 "stepgrove.judging" 633 383 384 kw;have HB:=fnX X G "is_line" 58 "stepgrove.judging" 633 390 391 sK;have DC:=fnX X G "walked_weight" 59 "stepgrove.judging" 633 395 396 vP;have Dg:=fnX X G "table_behind" 61 "stepgrove.joins" 704 400 401 Js;have Dj:=fnX X G "refuse_too_many_rows" 62 "stepgrove.joins" 704 405 406 zH
 have CC:=fnX X G "_law_cell" 64 "law_stepgrove_k55_tables_that_no_judge_walks" 718 412 413 M1;have Hs:=fnX X G "_law_take" 65 "law_stepgrove_k55_tables_that_no_judge_walks" 718 419 420 vG;have ID:=fnX X G "_law_shared" 66 "law_stepgrove_k55_tables_that_no_judge_walks" 718 426 427 uV;have Jm:=fnX X G "_law_frac" 67 "law_stepgrove_k55_tables_that_no_judge_walks" 718 433 434 u6;have Hy:=fnX X G "_law_part" 70 "law_stepgrove_k55_tables_that_no_judge_walks" 718 454 455 zAh;have JQ:=fnX X G "_law_table" 71 "law_stepgrove_k55_tables_that_no_judge_walks" 718 459 460 ce;have IA:=fnX X G "_law_called" 72 "law_stepgrove_k55_tables_that_no_judge_walks" 718 464 465 xY;have D9:=fnX X G "_law_flags" 73 "law_stepgrove_k55_tables_that_no_judge_walks" 718 471 472 Pz;have EY:=fnX X G "_law_spoiled" 74 "law_stepgrove_k55_tables_that_no_judge_walks" 718 476 477 Os;have pH:=fnX X G "law" 75 "law_stepgrove_k55_tables_that_no_judge_walks" 718 483 484 zBO;have A5:mg "len" = none:=mg_none_of X G KK;have BQ:mg "range" = none:=mg_none_of X G KK;have NU:mg "abs" = none:=mg_none_of X G KK;have AN:mg "isinstance" = none:=mg_none_of X G KK;have PN:mg "int" = none:=mg_none_of X G KK;have Mb:mg "bool" = none:=mg_none_of X G KK;have B5:mg "tuple" = none:=mg_none_of X G KK;have Ef:mg "list" = none:=mg_none_of X G KK;have Cf:mg "enumerate" = none:=mg_none_of X G KK;have FL:mg "sum" = none:=mg_none_of X G KK;have EN:mg "zip" = none:=mg_none_of X G KK;have IU:mg "sorted" = none:=mg_none_of X G KK;have ZI:mg "set" = none:=mg_none_of X G KK;have tI:mg "dict" = none:=mg_none_of X G KK;have tW:mg "all" = none:=mg_none_of X G KK;have K6:mg "ValueError" = none:=mg_none_of X G KK;have a_MR:nsIn Ev mainGlobals "MOST_ROWS" = some (some (.int 40 479)):=by kernel_rfl
 have a_MK:nsIn Ev mainGlobals "MOST_KNOTS" = some (some (.int 7 506)):=by kernel_rfl
 have a_MO:nsIn Ev mainGlobals "MOST_ORDER" = some (some (.int 6 609)):=by kernel_rfl
 have a_MJ:nsIn Ev mainGlobals "MOST_JUDGED_ROWS" = some (some (.int 5 635)):=by kernel_rfl
 have a_GroveError:PySem.W.nsIn Ev mainGlobals "GroveError" = some (some Mz):=by kernel_rfl
 have a_NoBottom:PySem.W.nsIn Ev mainGlobals "NoBottom" = some (some (.ref 37)):=by kernel_rfl
 have a_NoTree:PySem.W.nsIn Ev mainGlobals "NoTree" = some (some (.ref 49)):=by kernel_rfl
 have a_NoChange:PySem.W.nsIn Ev mainGlobals "NoChange" = some (some (.ref 61)):=by kernel_rfl
 have a_NoStart:PySem.W.nsIn Ev mainGlobals "NoStart" = some (some (.ref 73)):=by kernel_rfl
 have a_NoTable:PySem.W.nsIn Ev mainGlobals "NoTable" = some (some uY):=by kernel_rfl
 have a_NoName:PySem.W.nsIn Ev mainGlobals "NoName" = some (some (.ref 97)):=by kernel_rfl
 have a_NoWeighing:PySem.W.nsIn Ev mainGlobals "NoWeighing" = some (some (.ref 109)):=by kernel_rfl
 have a_NotAlike:PySem.W.nsIn Ev mainGlobals "NotAlike" = some (some (.ref 121)):=by kernel_rfl
 have a_NoParts:PySem.W.nsIn Ev mainGlobals "NoParts" = some (some (.ref 133)):=by kernel_rfl
 have a_TooMany:PySem.W.nsIn Ev mainGlobals "TooMany" = some (some oF):=by kernel_rfl
 have a_NoText:PySem.W.nsIn Ev mainGlobals "NoText" = some (some (.ref 157)):=by kernel_rfl
 have a_NoLine:PySem.W.nsIn Ev mainGlobals "NoLine" = some (some (.ref 169)):=by kernel_rfl
 have LR:=az X G a_GroveError;have NQ:=az X G a_NoBottom;have Qo:=az X G a_NoTree;have NJ:=az X G a_NoChange;have N8:=az X G a_NoStart;have Lv:=az X G a_NoTable;have QZ:=az X G a_NoName;have LC:=az X G a_NoWeighing;have NP:=az X G a_NotAlike;have Oy:=az X G a_NoParts;have Lu:=az X G a_TooMany;have Qg:=az X G a_NoText;have QW:=az X G a_NoLine;have X_NoTable:Exc Ev mg "NoTable" 85:=⟨Lv,by kernel_rfl⟩;have be_NoTable:HS Ev 85 24 true:=⟨by kernel_rfl,by kernel_rfl,by kernel_rfl,by kernel_rfl⟩;have T:D8 Ev 85:=⟨by kernel_rfl,by kernel_rfl,by kernel_rfl,by kernel_rfl,by kernel_rfl,by kernel_rfl,by kernel_rfl,by kernel_rfl⟩;have tV_NoTable:PySem.W.kitOne Ev uY Mt=some true:=by kernel_rfl
 have t_NoTable_GroveError:PySem.W.kitOne Ev uY Mz=some true:=by kernel_rfl
 have t_NoTable_NoBottom:PySem.W.kitOne Ev uY (.ref 37)=some false:=by kernel_rfl
 have t_NoTable_NoTree:PySem.W.kitOne Ev uY (.ref 49)=some false:=by kernel_rfl
 have t_NoTable_NoChange:PySem.W.kitOne Ev uY (.ref 61)=some false:=by kernel_rfl
 have t_NoTable_NoStart:PySem.W.kitOne Ev uY (.ref 73)=some false:=by kernel_rfl
 have t_NoTable_NoTable:PySem.W.kitOne Ev uY uY=some true:=by kernel_rfl
 have t_NoTable_NoName:PySem.W.kitOne Ev uY (.ref 97)=some false:=by kernel_rfl
 have Y:PySem.W.kitOne Ev uY (.ref 109)=some false:=by kernel_rfl
 have t_NoTable_NotAlike:PySem.W.kitOne Ev uY (.ref 121)=some false:=by kernel_rfl
 have t_NoTable_NoParts:PySem.W.kitOne Ev uY (.ref 133)=some false:=by kernel_rfl
 have t_NoTable_TooMany:PySem.W.kitOne Ev uY oF=some false:=by kernel_rfl
 have t_NoTable_NoText:PySem.W.kitOne Ev uY (.ref 157)=some false:=by kernel_rfl
 have t_NoTable_NoLine:PySem.W.kitOne Ev uY (.ref 169)=some false:=by kernel_rfl
 have X_TooMany:Exc Ev mg "TooMany" 145:=⟨Lu,by kernel_rfl⟩;have be_TooMany:HS Ev 145 24 true:=⟨by kernel_rfl,by kernel_rfl,by kernel_rfl,by kernel_rfl⟩;have g:D8 Ev 145:=⟨by kernel_rfl,by kernel_rfl,by kernel_rfl,by kernel_rfl,by kernel_rfl,by kernel_rfl,by kernel_rfl,by kernel_rfl⟩;have tV_TooMany:PySem.W.kitOne Ev oF Mt=some true:=by kernel_rfl
 have t_TooMany_GroveError:PySem.W.kitOne Ev oF Mz=some true:=by kernel_rfl
 have t_TooMany_NoBottom:PySem.W.kitOne Ev oF (.ref 37)=some false:=by kernel_rfl
 have t_TooMany_NoTree:PySem.W.kitOne Ev oF (.ref 49)=some false:=by kernel_rfl
 have t_TooMany_NoChange:PySem.W.kitOne Ev oF (.ref 61)=some false:=by kernel_rfl
 have t_TooMany_NoStart:PySem.W.kitOne Ev oF (.ref 73)=some false:=by kernel_rfl
 have t_TooMany_NoTable:PySem.W.kitOne Ev oF uY=some false:=by kernel_rfl
 have t_TooMany_NoName:PySem.W.kitOne Ev oF (.ref 97)=some false:=by kernel_rfl
 have U:PySem.W.kitOne Ev oF (.ref 109)=some false:=by kernel_rfl
 have Z:PySem.W.kitOne Ev oF (.ref 121)=some false:=by kernel_rfl
 have t_TooMany_NoParts:PySem.W.kitOne Ev oF (.ref 133)=some false:=by kernel_rfl
 have t_TooMany_TooMany:PySem.W.kitOne Ev oF oF=some true:=by kernel_rfl
 have t_TooMany_NoText:PySem.W.kitOne Ev oF (.ref 157)=some false:=by kernel_rfl
 have t_TooMany_NoLine:PySem.W.kitOne Ev oF (.ref 169)=some false:=by kernel_rfl
 have hK:Ux Ev=true:=by kernel_rfl
 refine⟨fnOf (Str.ofString "law") (Str.ofString "law") (HR (top 75)) (EC (top 75)) (AM (top 75)) .none .none .none (.str (Str.ofString "law_stepgrove_k55_tables_that_no_judge_walks") 718) none (.ref 483) .none,fun s v=>.of_eq rfl,fun base _ _=>?_⟩;have GW:=az X G a_MR;have Fy:=az X G a_MK;have Cg:=az X G a_MO;have G6:=az X G a_MJ;have WO:=N5 (P:=CF.prog) (w:=w) (base:=base) Ax NU;have fJ:=TJ CV Ax WO;have qz:=PU Cc Ax WO;have qu:=R9 HI Cc qz;have sC:=VJ (P:=CF.prog) (w:=w) (base:=base) Jn;have q8:=W0 (P:=CF.prog) (w:=w) (base:=base) Kn;have sd:=ZO (P:=CF.prog) (w:=w) (base:=base) J4 FL EN;have se:=QC qe FH J4 sd A5 EN 8;have sg:=qB (L1 (P:=CF.prog) (w:=w) (base:=base) BG FL 8);have sL:=Qe qe DK HI Jn FH Kn BG CV (qu.mono) (sC.mono) (se.mono) (q8.mono) (sg.mono) (fJ.mono);have ED:=sM sL;have BS:=rE WO;have Lb:=toT (Ul Iq CV fJ);have rd:=Ue JF Cc CV (QI Cc Ax WO) (fJ.mono) FL;have La:=pC rd;have sO:=Sb (P:=CF.prog) (w:=w) (base:=base) ID NU;have ly:=V9 Jm ID sO;have Pa:=sQ ly;have sD:=WK (P:=CF.prog) (w:=w) (base:=base) Hs;have si:=Wo Hy Hs Jm (sD.mono) ly;have rZ:=Vy (P:=CF.prog) (w:=w) (base:=base) CC A5 BQ;have sG:=S8 JQ CC Hy (rZ.mono) si BQ;have q9:=W8 (P:=CF.prog) (w:=w) (base:=base) CZ AN PN Mb;have mW:=Sl DY CZ Ax q9 WO AN B5 A5;have mw:=Qi DN DY mW AN Ef;have rk:=XH Ko DN mw GW AN Ef A5 Cf;have sS:=Wx Ki Ko DN rk (mw.mono) AN B5 A5;have NZ:=tP (q:=Cu) sS (fun l d v H Q E hd hq=>⟨l,d,v,rfl,hd,hq⟩);have Dw:=W2 (P:=CF.prog) (w:=w) (base:=base) (k:=0) CZ Mb PN AN;have GJ:=Sh (P:=CF.prog) (w:=w) (base:=base) (k:=1) DY Ax (BS.mono) CZ (Dw.mono) AN A5 B5;have Bn:=Ob (P:=CF.prog) (w:=w) (base:=base) (k:=5) Bf Ki (NZ.mono) X_NoTable;have Fd:=Lh (P:=CF.prog) (w:=w) (base:=base) (k:=5) Dj A5 FL GW X_TooMany;have Cd:=Nb (P:=CF.prog) (w:=w) (base:=base) (k:=6) CJ Bf (Bn.mono) A5 G6 X_TooMany;have Bp:=L5 (P:=CF.prog) (w:=w) (base:=base) (k:=0) BG FL 9;have Bj:=Kc (P:=CF.prog) (w:=w) (base:=base) (k:=10) BL BG (Bp.mono) 9;have CP:=N3 (P:=CF.prog) (w:=w) (base:=base) (k:=0) Cs IU B5;have EA:=JR (P:=CF.prog) (w:=w) (base:=base) (k:=1) B3 Cs (CP.mono) Cf 9;have EL:=Wz (P:=CF.prog) (w:=w) (base:=base) (k:=11) Dp B3 (EA.mono) BQ ZI IU Fy;have HC:=Wy (P:=CF.prog) (w:=w) (base:=base) (k:=12) GC Dp (EL.mono) BQ Fy;have Jh:=RL (P:=CF.prog) (w:=w) (base:=base) (k:=20) HE BL (Bj.mono);have JY:=RM (P:=CF.prog) (w:=w) (base:=base) (k:=0) HN EN;have J7:=Td (P:=CF.prog) (w:=w) (base:=base) (k:=21) IG HN (JY.mono) Bf (Bn.mono) Dp (EL.mono) HE (Jh.mono) DK (ED.mono) BQ Cg;have Km:=XE (P:=CF.prog) (w:=w) (base:=base) (k:=12) JB DK (ED.mono) Ef EN;have Ed:=Ka (P:=CF.prog) (w:=w) (base:=base) (k:=0) CM A5 9;have EH:=Qu (P:=CF.prog) (w:=w) (base:=base) (k:=10) DC Iq (Lb.mono) JF (La.mono) CM (Ed.mono) Cf;have Ih:=YR (P:=CF.prog) (w:=w) (base:=base) (k:=2) HB DY (GJ.mono) AN A5 B5;have IV:=PV (P:=CF.prog) (w:=w) (base:=base) (k:=20) GD BL (Bj.mono) HB (Ih.mono) DC (EH.mono) AN A5 Ef EN;have LV:=Ug (P:=CF.prog) (w:=w) (base:=base) (k:=20) Ik BL (Bj.mono) HB (Ih.mono) Dp (EL.mono) DC (EH.mono) Cg
 have Dc:=Sn (P:=CF.prog) (w:=w) (base:=base) (k:=21) Ck GD (IV.mono) Ik (LV.mono) CZ (Dw.mono) CJ (Cd.mono) GC (HC.mono) AN A5 B5 Cg;have DZ:=Si (P:=CF.prog) (w:=w) (base:=base) (k:=22) Cm JB (Km.mono) CJ (Cd.mono) IG (J7.mono) GC (HC.mono);have EX:=Q6 (P:=CF.prog) (w:=w) (base:=base) (k:=7) Dg Bf (Bn.mono) Dj (Fd.mono) Ef;have C8:=U4 (P:=CF.prog) (w:=w) (base:=base) (k:=0) CC A5 BQ;have KW:=Su (P:=CF.prog) (w:=w) (base:=base) (k:=0) IA K6 AN EN NQ NJ QW QZ Oy N8 Lv Qg Qo LC NP Lu (HU T g t_NoTable_NoBottom t_TooMany_NoBottom) (HU T g t_NoTable_NoChange t_TooMany_NoChange) (HU T g t_NoTable_NoLine t_TooMany_NoLine) (HU T g t_NoTable_NoName t_TooMany_NoName) (HU T g t_NoTable_NoParts t_TooMany_NoParts) (HU T g t_NoTable_NoStart t_TooMany_NoStart) (HU T g t_NoTable_NoTable t_TooMany_NoTable) (HU T g t_NoTable_NoText t_TooMany_NoText) (HU T g t_NoTable_NoTree t_TooMany_NoTree) (HU T g Y U) (HU T g t_NoTable_NotAlike Z) (HU T g t_NoTable_TooMany t_TooMany_TooMany) (HU (cv:=.ty "ValueError") T g tV_NoTable tV_TooMany);have Eg:=Uc (P:=CF.prog) (w:=w) (base:=base) (k:=23) D9 IA (KW.mono) Ck ((We [_,_] Dc).mono) Cm ((We [_,_] DZ).mono) BQ LR (fun ds C h=>by
  have:=YC h;rcases aN.mp this with rfl|this
  .exact be_NoTable
  .rw[List.mem_singleton.mp this];exact be_TooMany) (fun ds C h=>by
  have:=YC h;rcases aN.mp this with rfl|this
  .exact be_NoTable
  .rw[List.mem_singleton.mp this];exact be_TooMany)
 have F4:=RP (P:=CF.prog) (w:=w) (base:=base) (k:=0) EY A5 BQ B5;exact ng (k:=24) AT hK pH JQ CC D9 EY Ck Cm Dg (sG.mono) (C8.mono) (Eg.mono) (F4.mono) (Dc.mono) (DZ.mono) (EX.mono) A5 BQ
def walkX:WalkO qX [] (XL qX []) hX.says CF.row.toRowW dX [] xZ :=
 L2.ij (l:=CF) (n:=63) (k:=25) (x := "_law_script") (CX:=fun _=>Ai) (K:=kH) (sp:=fun w=>Yg Ev) rfl AT rfl ⟨rfl,by decide,by decide⟩ (fun w mg h X G H d e=>by rw[mg_none_of X G KK]at e;cases e) (fun w h Y=>kIn_of Y) sZ (fun _ _ a ns g _ T=>⟨a,ns,rfl,T,g,fun _=>rfl⟩) fun _ _ _ _ _ z=>z
end
end Q55
open PySem PySem.W PyProof.Rows
set_option maxRecDepth 100000 in
theorem PySem.Challenge.cw_stepgrove_k55_tables_that_no_judge_walks_holds : PySem.Challenge.rw_stepgrove_k55_tables_that_no_judge_walks.Holds := by
  refine Q55.openX ?hw Q55.walkX
  w_witness2
#print axioms PySem.Challenge.cw_stepgrove_k55_tables_that_no_judge_walks_holds
