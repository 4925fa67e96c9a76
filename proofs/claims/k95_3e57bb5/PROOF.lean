import PyProof.Rows.All
import Wide.All
import OpenK.AllK
import Wide.FinOn
import Lean
import PyProof.EqAt
import PyProof.EqKinds
import PyProof.TupleCall
import PySem.Challenge.RW_stepgrove_k95_whole_mirrored_rules
set_option Elab.async false
set_option linter.all false
set_option maxRecDepth 100000
abbrev MD:=List PySem.PyData->Option PySem.PyData
abbrev Fg:=PySem.W.Frag
abbrev Wb:=@PySem.wpAny_bind
abbrev PD:=PySem.PyData
abbrev SD:=PySem.Shared
abbrev VL:=PySem.Value
abbrev AD:=PySem.Addr
abbrev aA:=@PySem.wpAny_pure
abbrev aB:=@Option.bind_eq_some_iff
abbrev aC:=@Option.map_eq_some_iff
abbrev aD:=@List.getElem?_eq_some_iff
abbrev aE:=@PySem.Heap.get?_push_of_some
abbrev aF:=@PySem.Heap.lt_size
abbrev aG:=@Nat.ne_of_lt
abbrev aH:=@List.getElem?_eq_getElem
abbrev aI:=@Nat.lt_of_lt_of_le
abbrev aJ:=@Nat.le_refl
abbrev aK:=@Bool.false_ne_true
abbrev aL:=@List.all_eq_true
abbrev aM:=@List.mem_cons
abbrev aN:=@PySem.Heap.get?_push_size
abbrev aO:=@List.mem_of_getElem?
abbrev aP:=@of_decide_eq_true
abbrev aQ:=@List.mem_map
abbrev aR:=@PySem.PassesOwn.never
abbrev aS:=@PySem.wpAny_holding
abbrev aT:=@Nat.le_trans
abbrev aU:=@List.mem_cons_of_mem
abbrev aV:=@List.mem_append_right
abbrev aW:=@Nat.lt_of_le_of_lt
abbrev aX:=@List.mem_cons_self
abbrev aY:=@List.map_congr_left
abbrev aZ:=@PySem.Heap.SameBut.update
abbrev aa:=@Nat.pow_le_pow_right
abbrev ae:=@PySem.wpAny_call_entry
abbrev af:=@PySem.wpAny_seqItems
abbrev ag:=@PySem.wpAny_field
abbrev ah:=@Option.some.inj
abbrev ai:=@List.mem_iff_getElem?
abbrev aj:=@Nat.ne_of_gt
abbrev ak:=@PySem.wpAny_callSpecial?_slot
abbrev ao:=@PySem.wpAny_mono
abbrev aq:=@Nat.zero_le
abbrev ar:=@PySem.F.plainAttrs_list
abbrev au:=@PySem.wpAny_setField_rec
abbrev av:=@PyProof.Rows.callWith_type1
abbrev ax:=@Nat.not_lt_zero
abbrev ay:=@List.mem_map_of_mem
abbrev az:=@Nat.mul_le_mul_left
abbrev bA:=@List.mem_append
abbrev bC:=@PySem.wpAny_newObj_type
abbrev bD:=@PySem.boot_len
abbrev bE:=@Nat.lt_succ_of_lt
abbrev bF:=@decide_eq_false
abbrev bG:=@Nat.le_of_lt
abbrev bH:=@PySem.wpAny_rule
abbrev bI:=@PySem.F.slot_zip_next
abbrev bJ:=@congrArg
abbrev bK:=@List.eq_nil_of_length_eq_zero
abbrev bL:=@PySem.wpAny_setState_of
abbrev bM:=@PySem.F.slot_list_append
abbrev bN:=@PySem.F.type_list_append
abbrev bO:=@PySem.W.kia_one
abbrev bQ:=@List.mem_append_left
abbrev bR:=@Nat.lt_succ_self
abbrev bS:=@of_decide_eq_false
abbrev bT:=@List.idxOf_lt_length_iff
abbrev bU:=@PySem.wpAny_onRaise
abbrev bV:=@List.mem_range
abbrev bW:=@List.mem_of_mem_take
abbrev bX:=@Bool.eq_false_iff
abbrev bY:=@Nat.lt_trans
abbrev bZ:=@List.pairwise_cons
abbrev ba:=@PyProof.Rows.KeyOrd.kle_refl
abbrev bc:=@List.length_map
abbrev bf:=@PyProof.Rows.boot_tuple
abbrev bg:=@decide_eq_true
abbrev bh:=@Nat.mul_le_mul
abbrev bj:=@List.find?_eq_none
abbrev bo:=@PyProof.Rows.boot_sum
abbrev bp:=@PySem.W.mg_of
set_option maxHeartbeats 0
abbrev yM:=List PD
abbrev yN:=List VL
abbrev yO:=VL->SD->Prop
abbrev yP:=PySem.Str->Option VL
abbrev yQ:=Option PD
abbrev yS:=Array Nat
abbrev yT:=List Int
abbrev yU:=List PySem.Str
abbrev yV:=List PySem.Expr
abbrev yY:=Option Int
abbrev yZ:=List Nat
abbrev ya:=List Rat
abbrev yd:=List AD
abbrev ye:=List PySem.Stmt
abbrev yf:=List PySem.Env
abbrev yg:=List (Option Nat)
set_option hygiene false
local macro_rules
|`(AC)=>`(by lia)
|`(AS)=>`(model prog w)
|`(AT)=>`(by decide)
|`(As)=>`(Or.inl rfl)
|`(At)=>`(by simp)
|`(BY)=>`({ s with heap:=((s.heap.update a (Obj.mapSeq fun _ => #[])).push (seqObj "tuple" us.toArray 0)).push (seqObj "list" #[] 0) })
|`(By)=>`(Inv X pins σ H s)
|`(CU)=>`(fC (.int 1))
|`(Ch)=>`((by have:=g.units;exact this))
|`(Ci)=>`(model X.prog X.w)
|`(Cl)=>`(AE (pv 0))
|`(Cq)=>`(BB X scope cl N C s₀ H₀ fp)
|`(DH)=>`(List (AD×Obj))
|`(Da)=>`(fun _ _=>rfl)
|`(Db)=>`(FuncData)
|`(Do)=>`(AB (nm 0) AG)
|`(EK)=>`(.ref s.heap.objs.size)
|`(EQ)=>`(.ListComp elt [⟨.Name x px,iter,ifs,0⟩] scope pos)
|`(EV)=>`(kH w.params)
|`(Ev)=>`(seqObj "list" #[] 0)
|`(FB)=>`(["thing"])
|`(FS)=>`(Program)
|`(Fa)=>`(Aq (AA AJ (AA AJ AF)))
|`(Fk)=>`(s.heap.objs.size+1)
|`(Fr)=>`({s with heap:=h',toks:=tk})
|`(GE)=>`(∀(D C:AD) (s':SD) (H':Hp) m,s'.heap.Ns C m->Q (.ref D) H'->(∀h',Heap.SameBut C s'.heap h'->Inv X pins σ H' { s' with heap:=h'})->C≠D->(∀b o,s2.heap.get? b=some o->b≠C)->H' C=none->s2.heap.objs.size<=C->RR (.ref D) C (.ok .next) s')
|`(GM)=>`(.head _)
|`(Gf)=>`(.type "tuple")
|`(Go)=>`(AE (pv 1))
|`(HV)=>`(x==("__debug__" : Str))
|`(HY)=>`(.ref a)
|`(IF)=>`(seqObj "list" us.toArray 0)
|`(II)=>`(Rw G0 H0 G H σ δ ts)
|`(IJ)=>`((false,eval e X.env))
|`(IN)=>`(((SetTable.insertAt ev (t.put j).2 (BX x,Value.ref xa))[·]?))
|`(IO)=>`(World)
|`(IP)=>`(by kernel_rfl)
|`(IR)=>`(["_law_one","_law_other"])
|`(IS)=>`(fun cdv A outer s H vs Q E hr h=>?_)
|`(Id)=>`(.Call (.Name x p) (e::es) [] pos)
local macro_rules
|`(Ih)=>`(X.A.units+64<cLine)
|`(Iv)=>`(["weighing"])
|`(Ix)=>`(.lst ys)
|`(JU)=>`(["one","other"])
|`(Ja)=>`(["_law_tree"])
|`(Jh)=>`(List V)
|`(KB)=>`(IsPair s.heap TI (.ref i1) (.ref i2))
|`(KF)=>`(AE (pv 2))
|`(KK)=>`(fun z=>hc (by simp[z]))
|`(KM)=>`(fC (.int 0))
|`(KP)=>`(by rw[show A.in1.units=A.units+1 from rfl];lia)
|`(KQ)=>`(.bool true)
|`(KT)=>`(.lst xs)
|`(Ki)=>`(Around)
|`(Kj)=>`(fun vs H Q E h=>?_)
|`(Ku)=>`(by rw[sizeLine_eq];decide)
|`(Kv)=>`(nm 1)
|`(K0)=>`(["tree"])
|`(K9)=>`(B8 P w)
|`(LE)=>`(.tup xs)
|`(LT)=>`(Option Tr)
|`(LY)=>`(List VL)
|`(Lu)=>`(envOfC qual scope s.heap.objs.size f cd)
|`(Lx)=>`(by decide +kernel)
|`(MN)=>`((false,eval b X.env))
|`(MV)=>`(["_law_weighing","_law_trees_here","_law_tree"])
|`(MX)=>`(∀b∈ch,(b∈X.ex\/X.s₀.heap.objs.size<=b)/\b≠X.env.locals/\(∀x c,X.env.cells.lookup x=some c->c≠b)/\∀p∈X.pn++pins,p.1≠b)
|`(Mc)=>`(bH (wpAny_updateDictKeys (hz:=by rw[RV Y];exact hz) (s:={s with toks:=s.toks+DJ k}) g hd (fin _ ⟨⟨_,_,ep+1,Heap.get?_update_self _ g (Obj.isFreed_of_dict (Obj.data_mapDictKeys hd _)),hc.mapDictKeys _,Obj.data_mapDictKeys hd _,?_⟩,fun y T=>?_,?_⟩ (aZ ..))))
|`(Mh)=>`(Obj.mapSeq (· ++ us.toArray))
|`(Mt)=>`(by rw[Du])
|`(M0)=>`({s with heap:=h'})
|`(M2)=>`(i+1)
|`(NE)=>`(fun q=>decide (q.1=k))
|`(NZ)=>`(((rest t).map fun c:OC=>FN (Dd b c.1) (c.2.map (Aw a))).map Ji)
|`(Nd)=>`(∀b o,h.get? b=some o->o.cls=.type "tuple" -> h'.get? b=some o)
|`(Nh)=>`((·.1))
|`(Nk)=>`(Builtin.SmallTypes.ownedTupleIsFree (.ref z)>>=_)
|`(Nm)=>`(starEach es X.env)
|`(No)=>`(bH (Wb (wpAny_updateDict (s:={s with toks:=s.toks+DJ k}) g hd (wpAny_point (fin _ ⟨⟨_,_,ep,Heap.get?_update_self _ g (Obj.isFreed_of_dict (Obj.data_mapDict hd _)),hc.mapDict _,Obj.data_mapDict hd _,?_⟩,fun y T=>?_,?_⟩ (aZ ..))))))
|`(Nr)=>`((false,eval a X.env))
local macro_rules
|`(OF)=>`((forIn scope.names [] (fun(x:Str×NameKind) (r:List (Str×AD))=>do if(x.2==NameKind.free)=true then do let a <-cellOf X.env x.1;pure (ForInStep.yield ((x.1,a)::r)) else pure (ForInStep.yield r)):Sem (List (Str×AD)))>>=fun cs=>pure cs)
|`(ON)=>`(.ref z)
|`(OR)=>`(Builtin.SmallTypes.nextOf (.ref i2)>>=_)
|`(Of)=>`(s.heap.objs.size+2)
|`(On)=>`(s.heap.objs.size+3)
|`(Op)=>`((e::es))
|`(Os)=>`(I.ok.hd hc)
|`(Ow)=>`(A2 n (xW t) pX)
|`(Oz)=>`(aA ?_)
|`(O7)=>`(Dv->Option PD)
|`(PF)=>`(.type "ValueError")
|`(PH)=>`(ha pos pins s σ H _ I h)
|`(PP)=>`(BB X scope cl N Hq.objs.size s2 Z fp)
|`(Pg)=>`(["_law_top","_law_bottom"])
|`(Pi)=>`(Builtin.«zip.__next__» ⟨[.ref z],[]⟩)
|`(QD)=>`((none::((AH n).take i).map some))
|`(QF)=>`(List (Option Tr))
|`(Qu)=>`(AE (pv 3))
|`(Qy)=>`(AB (nm 2) AG)
|`(Q4)=>`(.lst [])
|`(RA)=>`((carry fr σ).set ix (some x))
|`(RC)=>`(Option VL->SD->Prop)
|`(RJ)=>`(k+1)
|`(RN)=>`(.Name x np)
|`(RS)=>`(List (PD×V))
|`(RW)=>`(aJ _)
|`(Re)=>`(Builtin.SmallTypes.nextOf (.ref i1)>>=_)
|`(Rs)=>`(Array (Int×VL))
|`(SB)=>`(["_law_number"])
|`(SC)=>`(ns.map V.int)
|`(SL)=>`(Dd b c.1)
|`(ST)=>`(IsZip s.heap z TI TO .none)
|`(SX)=>`(SetTable.insertAt ev (t.put j).2 (BX x,.ref xa))
|`(SY)=>`(.ref l)
|`(SZ)=>`(.inl rfl)
|`(Sc)=>`(B9 items.size items.size hi-B9 items.size 0 lo)
|`(Sv)=>`(Draws prog w A.in1 i1 f1 n1 P1 S1)
|`(Sz)=>`(Draws prog w A.in1 i2 f2 n2 P2 S2)
|`(TD)=>`(∀x∈xs,BJ x.1=BJ k->x.1=k)
|`(TM)=>`(PD->Dv->Option Dv)
local macro_rules
|`(TQ)=>`(Dv->Option (List PD))
|`(TW)=>`(fC (.bool false))
|`(Tc)=>`(.ref 24)
|`(Ti)=>`(.builtin "ValueError.__new__")
|`(Tk)=>`(["cut","ahead","behind"])
|`(Tl)=>`(["_law_script","_law_k"])
|`(Tm)=>`(["_law_script","_law_at","_law_most"])
|`(To)=>`(A4 _)
|`(Tu)=>`(Nat->Rat)
|`(Ty)=>`(.type "BaseException")
|`(T0)=>`(EP X pins σ Q)
|`(UF)=>`(List KR)
|`(UV)=>`(Fw rows.length)
|`(Uf)=>`(.int (n:Nat))
|`(U9)=>`(fC (.int 2))
|`(WF)=>`(.tuple [.int ((t.AI:Int)-1),tD t])
|`(WP)=>`(s.heap.objs.size+4)
|`(W1)=>`(fun z=>nomatch z)
|`(XN)=>`(A.units+t.deep<cLine)
|`(XV)=>`(Apart z TI TO i1 i2 f1 f2)
|`(ZB)=>`(VL->SD->Prop)
|`(al)=>`(((boot_heap w.params).isNs mainGlobals&&(#[]:Array GenState).size==0,(boot_heap w.params).objs.size,(boot_heap w.params).nsMap mainGlobals "__annotations__"))
|`(am)=>`(ys++[y])
|`(bi)=>`(Bool->SD->Prop)
|`(bn)=>`(BQ b1 T)
|`(bv)=>`(by simpa using hi)
|`(ca)=>`(fun _ _ _ _ _=>GO)
|`(ce)=>`(fun _ _ _ _ _=>Gy)
|`(cr)=>`((∀c o,c≠z->c≠TO->c≠i1->c≠i2->s.heap.get? c=some o->h'.get? c=some o))
|`(dO)=>`(X.calm=true)
|`(db)=>`(sV "stepgrove.errors" 187)
|`(dl)=>`(newFunctionEnv scope X.env.globals cl [] X.env.qual none .none (some X.env))
|`(eG)=>`(fun a b=>EZ a (FK rows b))
|`(fy)=>`(PD->PD->Option PD)
|`(f8)=>`(["most"])
|`(ge)=>`(Au n)
|`(gv)=>`(HT.B9 xs.length xs.length hi-HT.B9 xs.length 0 lo)
|`(iF)=>`({g with heap:=g.heap.push { cls:=.type "slice",data:=.fields #[U,R,.none]} })
|`(iN)=>`(.type "list")
|`(iS)=>`(HM fun i j=>decide (i<j))
local macro_rules
|`(ii)=>`(by simp[DZ])
|`(im)=>`(((carry fr σ).set ix (some T)).set iy (some R))
|`(io)=>`(fun b o _ _ hc q _=>⟨o.slots,keep b o hc q⟩)
|`(jp)=>`(ha pins s σ H _ I h)
|`(kS)=>`(L2.BS (Tr.of (AH n)))
|`(ku)=>`(A2 n (yW t) pB)
|`(lX)=>`(List α)
|`(lY)=>`(PySem.W.fnOf x qual (Ho st) (Et st) (AQ st) .none kV doc pm an cdv ct)
|`(lc)=>`(ag hz rfl (x:=.ref TI) rfl (Wb (af hI rfl ?_)))
|`(lf)=>`(["_law_script","_law_table_here","_law_most","_law_weighing","_law_mirrored","_law_both","_law_order","_law_odd","_law_trees_here","_law_one"])
|`(li)=>`(match NJ [a,b,c,.d (tD t),.d (AX w),.d (AX v)]with|some (.nx g)=>_|some (.ct g)=>_|some (.bk g)=>_|some (.rt x)=>_|some (.rn x)=>_|none=>_)
|`(lm)=>`(.builtin "sorted")
|`(ln)=>`(.builtin "object.__class__")
|`(lp)=>`(fun c=>?_)
|`(lv)=>`((B7 fr δ).set i (.d (a z)))
|`(l5)=>`(HE N X.N scope X.env.scope fr 0=true)
|`(me)=>`(["weighing","part"])
|`(mo)=>`(AM H H')
|`(ms)=>`(Draws prog w A i1 f1 n1 P1 S1)
|`(mu)=>`(Draws prog w A i2 f2 n2 P2 S2)
|`(nL)=>`(((ys.length:Nat):Int))
|`(na)=>`(.type "bool")
|`(oF)=>`(A.handled=none)
|`(oN)=>`(List Rat)
|`(oR)=>`(!w.params.followText "set-order")
|`(pp)=>`(.int i)
|`(ra)=>`(.ref D)
|`(rc)=>`(AE (pv 4))
|`(re)=>`(Array VL)
|`(rk)=>`(["top","bottom"])
|`(sK)=>`(nm 3)
|`(ss)=>`(["trees","one","other"])
|`(sw)=>`(List PD)
|`(s0)=>`(fun b o u q=>by rw[AL (Aa q hTn)];exact q)
|`(tO)=>`(.Name x pos)
|`(td)=>`(by simp;lia)
|`(ul)=>`(.type "int")
|`(ut)=>`(CQ a (FJ n))
|`(u8)=>`(.type "dict")
|`(v0)=>`(∀x∈scope.names,x.2=NameKind.free->∃c,cl.lookup x.1=some c)
local macro_rules
|`(v6)=>`(List.range us.length)
|`(wE)=>`(fun b ys q=>by rw[AL (Aa q hTn)];exact q)
|`(wP)=>`(HM fun i j=>decide (j<i))
|`(wS)=>`(AK X.prog X.w X.K X.mg X.base (B8 X.prog X.w) k fA fd ps (Ds m))
|`(wT)=>`(starEach [] X.env)
|`(wf)=>`(VL->VL->Sem VL)
|`(wh)=>`(Fc s.heap TI (.ref i1) (.ref i2) (.ref i3))
|`(wl)=>`((fun rest r s'=>r.1=none/\s'=s/\∀v∈rest,Good s.heap n v))
|`(wn)=>`(Nat->Heap->Prop)
|`(wp)=>`(S1 k s.heap)
|`(wv)=>`(S2 k s.heap)
|`(ww)=>`(fun c o g e=>Z c o (aG (aI g hn.1)) (aG (aI g hn.2.2.1)) (aG (aI g hn.2.2.2.1)) (aG (aI g hn.2.2.2.2)) (kp c o g e))
|`(xL)=>`((c.2.take i).map (Aw a))
|`(xT)=>`(.ref p)
|`(xz)=>`(.type "object")
|`(x0)=>`(by simpa using e)
|`(yI)=>`(∀b u,h.get? b=some u->h'.get? b=some u)
|`(yR)=>`(.ref it)
|`(yX)=>`(Ak a)
|`(yh)=>`(fun c r=>by rw[AL (Aa r hTn)];exact r)
|`(yi)=>`(by rw[sizeLine_eq];lia)
|`(yj)=>`(QS (.ref h.objs.size) (.ref (h.push (BQ b1 g)).objs.size) (.ref ((h.push (BQ b1 g)).push (BQ b2 R)).objs.size))
|`(yk)=>`(["table","most"])
|`(yl)=>`(["part","power"])
|`(ym)=>`(V->Option Int->Option Int->Hp->VK->Prop)
|`(yn)=>`(Tr.lt t u)
|`(yo)=>`(by show X.A.in1.units+8<cLine;rw[Around.in1_units];lia)
|`(yp)=>`((by have:=T.units;exact this))
|`(yq)=>`({D with nx:=N,ct:=N,bk:=D.nx})
|`(yr)=>`(∀y∈scope.names,y.2=.free->X.env.scope.names.lookup y.1=some .cell\/X.env.scope.names.lookup y.1=some .free)
|`(yt)=>`(s.heap.IsTuple b its'.toArray)
|`(yu)=>`(fun b o hc q=>⟨o,keep b o hc q⟩)
|`(yw)=>`(.Dict [some (.Constant .none j1 p1)] [.Tuple [.Constant (.int a) j2 p2,.Constant (.int b) j3 p3] cx Z] dp)
|`(yx)=>`(binaryOp .Add)
|`(yy)=>`(DZ CX P w K mg base N qual scope f cdv A outer s H E)
|`(yz)=>`(EO false)
|`(y0)=>`(by show 0<=sizeLine;decide)
|`(y6)=>`(Ai Ib (nm 0) (fC (.int 5)))
|`(y7)=>`(Loc X.env.scope x)
|`(y8)=>`(List Tr)
local macro_rules
|`(y9)=>`(["some","bottom"])
|`(zA)=>`(["rows","tree","known"])
|`(zC)=>`(.type "Exception")
|`(zD)=>`(∀x c,cl.lookup x=some c->X.env.cells.lookup x=some c)
|`(zE)=>`(mg "len" = none)
|`(zF)=>`((·.2))
|`(zG)=>`(List Int)
|`(zH)=>`(Or.inr rfl)
|`(zJ)=>`(Wb (bU ?_))
|`(zK)=>`(by show(2:Nat)<=Dz;decide)
|`(zL)=>`({s with heap:=s.heap.push { cls:=.type "range",data:=.fields #[.int lo t,.int hi u,.int 1 v]},toks:=tk})
|`(zM)=>`(ag hz rfl (x:=.bool false) rfl ?_)
|`(zN)=>`(fun b o _ _ hc q _=>keep b o hc q)
|`(zO)=>`(mg "isinstance" = none)
|`(zP)=>`(A2 n (xW t) pM)
|`(zQ)=>`(aG (aI (aF e) (I.ok.Zq x c Z U)))
|`(zR)=>`(seqObj "list" g.toList.toArray 0)
|`(zS)=>`(fun cl C s₀ H₀ fp=>(he cl C s₀ H₀ fp).pe)
|`(zT)=>`(["base","power"])
|`(zU)=>`(C9 (c 0 false (by simp[h0])) rfl)
|`(zV)=>`((u.AI:Int)-1)
|`(zW)=>`(F.args_zip_next_1 _)
|`(zY)=>`({s with heap:=h',toks:=t'})
|`(zZ)=>`(Gx w o ev ep t)
|`(za)=>`({s with toks:=s.toks+DJ k})
|`(zb)=>`(DE X e f)
|`(zc)=>`(fun b _ o hc _ q=>keep b o hc q)
|`(zd)=>`(YB (s:={s with toks:=s.toks+DJ k}) hu hk g hd Y hm.ks hm.nd hap (fun U=>?_) fun j x hj hx=>?_)
|`(ze)=>`((envOfC qual scope s.heap.objs.size f cd::outer))
|`(zf)=>`(wpAny_isInstance (T := "StopIteration") (b:=true) ⟨o,g,Z⟩ isSubtype_stop (aA (q _ _ kp)))
|`(zg)=>`(∀h',FC h' d (EA xs k kv v)->Heap.SameBut d s.heap h'->Q () {s with heap:=h',toks:=s.toks+DJ k})
|`(zi)=>`(.ref 61)
|`(zj)=>`(.ref 73)
|`(zk)=>`(.ref 85)
|`(zm)=>`(.ref 97)
|`(zn)=>`(boot_heap w.params)
|`(zo)=>`(Key key p (m-1))
|`(zp)=>`(ix.map fun i=>t.bs.getD i .nil)
|`(zq)=>`(!t.plain&&decide (ev.size > 1))
|`(zr)=>`(δ.set i (.d y))
local macro_rules
|`(zt)=>`(PySem.Paired (PR G) kvs r)
|`(zu)=>`(Gd a b)
|`(zv)=>`(X.N.Nodup)
|`(zw)=>`(forIn us b fun x r=>do let h <-pyHash x;pure PUnit.unit;pure (ForInStep.yield (r.push h)))
|`(zx)=>`(["_law_script"])
|`(z0)=>`(aF e)
|`(z9)=>`(Array (Option VL))
|`(zAA)=>`(.builtin id)
|`(zAB)=>`(e _ _ ha)
|`(zAC)=>`(List KD)
|`(zAD)=>`(.BoolOp .And (a::b::rest) pos)
|`(zAE)=>`(ForInStep.done (some true,()))
|`(zAF)=>`(([e]:yV).length+([]:List Keyword).length+(if([]:List Keyword).isEmpty then 0 else 1)<30)
|`(zAG)=>`(String)
|`(zAH)=>`({g with heap:=g.heap.push { cls:=.type "slice",data:=.fields #[.none,.none,.int (-1) R]} })
|`(zAI)=>`((fun fin s'=>∃v,fin=.done (.ret v)/\Q v s'))
|`(zAJ)=>`(.lst (List.replicate rows.length (V.int 1)))
|`(zAK)=>`(.type "type")
|`(zAL)=>`(fun m hm=>?_)
|`(zAM)=>`(.ref C)
|`(zAN)=>`(some (V.ref D))
|`(zAO)=>`((∀c o,c≠z->c≠TO->c≠i1->c≠i2->c≠i3->s.heap.get? c=some o->h'.get? c=some o))
|`(zAP)=>`(AN (pv 1) Af)
|`(zAQ)=>`(.lst ((FK rows t).map V.int))
|`(zAR)=>`(Str.ofString n)
|`(zAS)=>`(by simp only[PyData.canLay0,Bool.and_eq_true]at c;first|exact c|exact c.2|exact c.1)
|`(zAT)=>`(∀vs H Q E,sp vs H Q E->vs.length=ps.length)
|`(zAU)=>`(Vs s.heap u its')
|`(zAV)=>`({ s with heap:=sortedHeap s.heap a us (ix.map fun i => us.getD i Value.none).toArray })
|`(zAW)=>`(["row","shares"])
|`(zAX)=>`(ws.length=CT n)
|`(zAY)=>`(t∈AH 5)
|`(zAZ)=>`(model P w)
|`(zAa)=>`(aA ⟨_,rfl,wpAny_pure h⟩)
|`(zAb)=>`(ix.map fun i=>ys.getD i .BN)
|`(zAc)=>`(fun c w hc r=>keep c w ?_ r)
|`(zAd)=>`(by rw[Around.in1_units];lia)
|`(zAe)=>`(AE (pv 5))
|`(zAf)=>`(he pins s σ H _ I h)
|`(zAg)=>`(by simpa using R)
local macro_rules
|`(zAh)=>`(by simpa using g)
|`(zAi)=>`(by simpa using U)
|`(zAj)=>`(B7 fr δ)
|`(zAk)=>`(QS .none .none .none)
|`(zAl)=>`(fun ho ha=>Er (IU ar PySem.F.slot_list_extend PySem.F.type_list_extend PZ ho ha))
|`(zAm)=>`(Scope)
|`(zAn)=>`(.ListComp elt [⟨.Tuple [.Name x px,.Name y py] tk tp,iter,ifs,0⟩] scope pos)
|`(zAo)=>`(["bottoms"])
|`(zAp)=>`(.BoolOp .And (b::rest) pos)
|`(zAq)=>`(VL->Tr->Prop)
|`(zAr)=>`(some t)
|`(zAs)=>`(.inl (.nx δ))
|`(zAt)=>`(["boughs"])
|`(zAu)=>`(mg "sorted" = none)
|`(zAv)=>`(∀t∈AH n,Ed a b t=0)
|`(zAw)=>`(BQ b2 R)
|`(zAx)=>`((∀b∈fp,H' b=none))
|`(zAy)=>`(s.heap.IsTuple a its.toArray)
|`(zAz)=>`(.Call (.Name "enumerate" p) [a] [] pos)
|`(zBA)=>`(P5 z TI TO i1 i2 i3 f1 f2 f3)
|`(zBB)=>`(.lst (xs++[.ref A]))
|`(zBC)=>`(CQ b (FJ n++[none]))
|`(zBD)=>`(tD t)
|`(zBE)=>`(fun f vs=>PySem.call f vs)
|`(zBF)=>`(Nat.lt_irrefl _)
|`(zBG)=>`(AQ st)
|`(zBH)=>`(listUpdate_at ho rfl ?_ (by rw [List.size_toArray,sizeLine_eq]; lia) (aq _))
|`(zBI)=>`(fun hb=>(hf _ hb).2.1 rfl)
|`(zBJ)=>`(HM fun i j=>decide (j<=i))
|`(zBK)=>`(A1 Fx)
|`(zBL)=>`(BM Hm (pv 3) Ar)
|`(zBM)=>`(b.length=CT n)
|`(zBN)=>`(by simp only[List.size_toArray]<;>lia)
|`(zBO)=>`(Nat->List V->Hp->Prop)
|`(zBP)=>`(N5 s.heap z TI TO T b)
|`(zBQ)=>`(Str->Option Value)
|`(zBR)=>`(X.mg "zip" = none)
|`(zBS)=>`(["table","trees"])
|`(zBT)=>`(some v)
|`(zBU)=>`(.ref b)
local macro_rules
|`(zBV)=>`((BX x,x))
|`(zBW)=>`((U.2 _ e1).trans y)
|`(zBX)=>`(FM.gi c b)
|`(zBY)=>`(AN (pv 1) (AN (pv 2) Af))
|`(zBZ)=>`(.int (k:Nat))
|`(zBa)=>`(.tup [V.ref p2,V.ref p4])
|`(zBb)=>`(((Dd b c.1).den:Int))
|`(zBc)=>`(Builtin.«list.sort» ⟨[.ref a],[(Str.ofString "reverse",.bool b)]⟩)
|`(zBd)=>`(jx ha U I h fun v u s2 x y Z Y R g q=>T pins s2 σ Z x y v u Q Y R g q)
|`(zBe)=>`(.Name x px)
|`(zBf)=>`(Passes (B8 X.prog X.w) X E)
|`(zBg)=>`(s.heap.IsTuple a g.toArray)
|`(zBh)=>`(D1.frame _ _ _ v1 fun c hc o e=>up c o (fun y=>d1 (y ▸ hc)) (aE _ e))
|`(zBi)=>`(D2.frame _ _ _ v2 fun c hc o e=>up c o (fun y=>d4 (y ▸ hc)) (aE _ e))
|`(zBj)=>`(t.probeStart h)
|`(zBk)=>`(HJ s.heap k kv)
|`(zBl)=>`(EO true)
|`(zBm)=>`(Ai P0 (fC (.int 10)) (fC (.int 18)))
|`(zBn)=>`(["_law_most","_law_found","_law_row","_law_many","_law_wider","_law_tree"])
|`(zBo)=>`(.Compare a [op] [b] pos)
|`(zBp)=>`((envOfC qual scope s.heap.objs.size f cd::outer).filterMap (·.frame))
|`(zBq)=>`(Value.ref t==Value.none)
|`(zBr)=>`(rawInt s.heap.objs.size)
|`(zBs)=>`(.bool (Tr.lt u t))
|`(zBt)=>`(ES×SetTable)
|`(zBu)=>`((∀c o,c≠z->c≠i1->c≠i2->s.heap.get? c=some o->h'.get? c=some o))
|`(zBv)=>`(.Call (.Name "dict" p) [.Call (.Name "zip" p2) [a,b] [] pos2] [] pos)
|`(zBw)=>`(nm 4)
|`(zBx)=>`(fun i=>x i*p^Il i)
|`(zBy)=>`(.ref f)
|`(zBz)=>`(Value->Shared->Prop)
|`(zCA)=>`(.ref s2.heap.objs.size)
|`(zCB)=>`(seqEpoch_at ho6 rfl ?_)
|`(zCC)=>`(.ref I)
|`(zCD)=>`(es.toList=xs.map EW)
|`(zCE)=>`(ds.length=ps.length)
|`(zCF)=>`((∃a R,y=Value.ref a/\s.heap.IsTuple a R.toArray/\TH.Vs s.heap t R))
|`(zCG)=>`(δ.set i (.d (Bg kvs)))
|`(zCH)=>`(if b = true then (do let _ <- rule "list.sort.reverse"; T) else T)
|`(zCI)=>`(fun b o q=>?_)
local macro_rules
|`(zCJ)=>`(Ak ws)
|`(zCK)=>`(behindInMarks op b=false)
|`(zCL)=>`(.type "NoneType")
|`(zCM)=>`((∀g,d≠.dict g))
|`(zCN)=>`(.ref g.objs.size)
|`(zCO)=>`(SetTable)
|`(zCP)=>`(by simpa using h)
|`(zCQ)=>`(by rw[isSubtype_type];kernel_rfl)
|`(zCR)=>`(Cf (KS (AN (BM Hb (pv 0) (pv 2)) (AN (BM Hb (pv 1) (pv 2)) Af))))
|`(zCS)=>`(Ce 1)
|`(zCT)=>`(["_law_most"])
|`(zCU)=>`(fun z=>g (by simp[z]))
|`(zCV)=>`(.tup ys)
|`(zCW)=>`(Fj scope N x ix)
|`(zCX)=>`(BW (hi pins s σ H _ I hw) fun v s1 h1=>BW h1 fun itv s2 h2=>?_)
|`(zCY)=>`(wpAny_newTuple ?_ (by show us.length<=_; rw [sizeLine_eq]; lia))
|`(zCZ)=>`(mg "zip" = none)
|`(zCa)=>`(Dy (nm 0))
|`(zCb)=>`(ws.map AX)
|`(zCc)=>`(ks.map fun k=>(k,g k))
|`(zCd)=>`(HT.B9 xs.length 0 lo=0/\HT.B9 xs.length xs.length hi=xs.length)
|`(zCe)=>`(fr.length=N.length)
|`(zCf)=>`({s1 with heap:=h'})
|`(zCg)=>`(HO.tup [V.int (t.fdiv (FM.gs t b)),V.int (b.fdiv (FM.gs t b))])
|`(zCh)=>`(C9 (c 1 false (by simp[g])) rfl)
|`(zCi)=>`({s with toks:=s.toks+1})
|`(zCj)=>`(V->List V->Hp->VK->Prop)
|`(zCk)=>`(.ListComp elt [⟨gN x y px py tk tp,iter,ifs,0⟩] scope pos)
|`(zCl)=>`(["trees"])
|`(zCm)=>`(.seq #[] 0)
|`(zCn)=>`(start N vs)
|`(zCo)=>`(PySem.W.fnOf name qual params g scope dV kV doc pm an cdv ct)
|`(zCp)=>`(HT.B9 xs.length 0 lo)
|`(zCq)=>`(by rw[List.size_toArray]<;>lia)
|`(zCr)=>`(ax _)
|`(zCs)=>`(fun b hb=>?_)
|`(zCt)=>`(seqObj "list" (ix.map fun i=>us.getD i Value.none).toArray Z)
|`(zCu)=>`(.type (UU d))
|`(zCv)=>`(.int (i*j))
|`(zCw)=>`({s with heap:=s.heap.push { cls:=.type "dict",data:=.dict #[]} })
local macro_rules
|`(zCx)=>`(.lst (xs++[V.ref U]))
|`(zCy)=>`(C9 (MW rfl (Cu (x:=.int 2) (y:=.int 2) rfl rfl (S5 2))) rfl)
|`(zCz)=>`(Zz (x:=.list ((Dc t).map MY)) (Aj (xs:=[tD t]) rfl T.a) rfl)
|`(zDA)=>`(OsState)
|`(zDB)=>`(Unit->SD->Prop)
|`(zDC)=>`(Bool->Hp->Prop)
|`(zDD)=>`(Gl X x)
|`(zDE)=>`(It->Hp->Prop)
|`(zDF)=>`(List (Str×AD))
|`(zDG)=>`(Obj.mapSeq (· ++ vs.toArray))
|`(zDH)=>`(List (Int×VL))
|`(zDI)=>`(List (Int×Tr))
|`(zDJ)=>`(FC s.heap d xs)
|`(zDK)=>`(DE X a f)
|`(zDL)=>`(aG (show a<l from aI (bR a) (aT (Nat.le_max_right _ _) g)))
|`(zDM)=>`(mg "tuple" = none)
|`(zDN)=>`(mg "range" = none)
|`(zDO)=>`(.UnaryOp .Not a pos)
|`(zDP)=>`(((B9 n 0 lo:Nat):Int))
|`(zDQ)=>`(["tree","cuts","bough","wider","left","parts","trunk","more"])
|`(zDR)=>`(AB (fC (.int 3)) AG)
|`(zDS)=>`(do let v <- whole; standAt e.pos; holding [v] (truthy v))
|`(zDT)=>`(PySem.F.args_tuple_add_2 _ _)
|`(zDU)=>`(((B9 items.size 0 lo:Nat):Int))
|`(zDV)=>`(binaryOp .Mult)
|`(zDW)=>`(wpAny_runValue (codeAny_builtin entry_proto_collect' ?_))
|`(zDX)=>`(BQ b2 Y)
|`(zDY)=>`((R2.lift h3 h4 h5 h6).put h7)
|`(zDZ)=>`(Bp t.rs)
|`(zDa)=>`((by have:=hr.units;exact this))
|`(zDb)=>`(fC .none)
|`(zDc)=>`(CQ b (none::(AH n).map some))
|`(zDd)=>`(Key key p i)
|`(zDe)=>`(Key key p m)
|`(zDf)=>`(Key key p k)
|`(zDg)=>`(by rw[typeLookup_type,builtinLookup_eq_fast];kernel_rfl)
|`(zDh)=>`(T.ins _ _ U)
|`(zDi)=>`(Tr.of (if rev then Tr.Cn t.bs else(Tr.Cn t.bs).reverse))
|`(zDj)=>`(EM AG)
|`(zDk)=>`(behindTheImports p)
local macro_rules
|`(zDl)=>`(importedModules p.main.body)
|`(zDm)=>`(.ref d)
|`(zDn)=>`(List V->Hp->Prop)
|`(zDo)=>`(Option AD)
|`(zDp)=>`(fun b ob q=>aE _ q)
|`(zDq)=>`(QW wi fr ix tif te)
|`(zDr)=>`(.done (.ret .none))
|`(zDs)=>`(.Tuple elts x1 pos)
|`(zDt)=>`(starEach [e] X.env)
|`(zDu)=>`(rawInt g.objs.size)
|`(zDv)=>`(Hj led)
|`(zDw)=>`(((x,v)::ts))
|`(zDx)=>`(D2.frame _ _ _ t2 (Am d4 U))
|`(zDy)=>`((false,eval c X.env))
|`(zDz)=>`(ks.zip (xs.zip ys))
|`(zEA)=>`(List.getElem_mem _)
|`(zEB)=>`(by rw [size_push',Heap.size_update]; exact aG (bE ha))
|`(zEC)=>`({s with heap:=h'',gens:=s.gens,drawn:=s.drawn,toks:=tk+1})
|`(zED)=>`(fs δ=some xs)
|`(zEE)=>`(["_law_weighing","_law_trees_here","_law_tree","_law_at"])
|`(zEF)=>`(a.length=CT n)
|`(zEG)=>`(List V->Hp->VK->Prop)
|`(zEH)=>`(Str->Option NameKind)
|`(zEI)=>`(List (Str×NameKind))
|`(zEJ)=>`(fun r T=>⟨T.1,by lia,by lia,T.2.2.2.1,T.2.2.2.2⟩)
|`(zEK)=>`(seqObj "list" us.toArray n)
|`(zEL)=>`(fun x y => if b = true then O.kle y x else O.kle x y)
|`(zEM)=>`(IsPair s.heap TO a b)
|`(zEN)=>`(Memo Dm rows W H d r)
|`(zEO)=>`(fun q=>decide (q.1=some t))
|`(zEP)=>`(by show 1<=sizeLine;decide)
|`(zEQ)=>`(out b (T b o e) R)
|`(zER)=>`(us.length - 1 - i)
|`(zES)=>`(s.heap.IsList l us.toArray\/s.heap.IsTuple l us.toArray)
|`(zET)=>`({s with heap:=h'',gens:=s.gens,drawn:=s.drawn,toks:=tk})
|`(zEU)=>`((false,eval (.Call (.Name "zip" Y) [a,b] [] g) X.env))
|`(zEV)=>`(["_law_script","_law_k","_law_cell_here","_law_number"])
|`(zEW)=>`(fun b o hb e=>eb b o hb e)
|`(zEX)=>`(assign (.Name y py) X.env)
|`(zEY)=>`({s with heap:=h',gens:=s.gens,drawn:=s.drawn,toks:=tk})
local macro_rules
|`(zEZ)=>`(ForInStep.yield (none,()))
|`(zEa)=>`(A.units+8<cLine)
|`(zEb)=>`(Dv->Option Bool)
|`(zEc)=>`((∀c o,c<n->s.heap.get? c=some o->h'.get? c=some o))
|`(zEd)=>`(mg "sum" = none)
|`(zEe)=>`(List (List Int))
|`(zEf)=>`((t.2:Rat)*D6 x t.1+Bt x p)
|`(zEg)=>`(List.length_filter_le _ _)
|`(zEh)=>`(X.mg "range" = none)
|`(zEi)=>`(.ListComp elt [⟨target,iter,ifs,0⟩] scope pos)
|`(zEj)=>`(us.length=ks.length)
|`(zEk)=>`(A.in1.units+8<cLine)
|`(zEl)=>`(D1.item k _ _ _ he1 Z fun x g2 tk2 p1 u1 g=>aA ?_)
|`(zEm)=>`(["weighing","trees","ahead","behind","tree","others"])
|`(zEn)=>`(I.base.BF b xs q)
|`(zEo)=>`(by simpa using T)
|`(zEp)=>`(compareOp op)
|`(zEq)=>`(if v<0 then max (v+(n:Int)) 0 else min v (n:Int))
|`(zEr)=>`(by size_fits)
|`(zEs)=>`(BL.of (K:=X.K) U)
|`(zEt)=>`(.Tuple elts x1 g)
|`(zEu)=>`(.Name "sorted" p)
|`(zEv)=>`(fun x y=>if b=true then O.kle y x else O.kle x y)
|`(zEw)=>`(((carry fr σ).set ix (some v1)).set iy (some Z))
|`(zEx)=>`(wpAny_specialOf g F.slot_NoneType_hash.lookup ?_)
|`(zEy)=>`(.inr ⟨_,rfl⟩)
|`(zEz)=>`((T.2 _ c5.symm).trans ((g.2 _ c8.symm).trans z1))
|`(zFA)=>`(ag hz.1 rfl (x:=.ref TI) rfl (Wb (af hI rfl ?_)))
|`(zFB)=>`(.tup [.int p.1,.int p.2])
|`(zFC)=>`(List.length_replicate ..)
|`(zFD)=>`(upd H p (.lst [V.int 1]))
|`(zFE)=>`(IQ (by exact AF))
|`(zFF)=>`(["weighing","part","trees"])
|`(zFG)=>`(AB (nm 8) (AB (nm 7) AG))
|`(zFH)=>`(if v<0 then(v+(n:Int)).toNat else min v.toNat n)
|`(zFI)=>`(.ok (.ret (.bool (decide (items.size<T.size)))))
|`(zFJ)=>`(.Tuple [.Name x px,.Name y py,.Name z Z] k1 pos)
|`(zFK)=>`(f (.int i t) (.int j u))
|`(zFL)=>`(Str->Option VL)
|`(zFM)=>`(.ListComp elt [⟨tgE,iter,ifs,0⟩] scope pos)
local macro_rules
|`(zFN)=>`(Vs s.heap t us)
|`(zFO)=>`(((carry fr σ).set ix (some T)).set Y (some R))
|`(zFP)=>`(k=n1\/(k<n1/\k=n2))
|`(zFQ)=>`(by simp[carriedByValue])
|`(zFR)=>`(Fn X.K X.mg x st' ps fA fd)
|`(zFS)=>`(Fc s.heap TO a b c)
|`(zFT)=>`((∀c o,c<n->h0.get? c=some o->h'.get? c=some o))
|`(zFU)=>`(((B7 fr δ).set i (.d (a z))).set j (.d (b z)))
|`(zFV)=>`((fun i v=>∃z,(HZ w S ep ev)[i]? = some (z,v)))
|`(zFW)=>`(fun _ _ ⟨v,H',g,r,q⟩=>⟨v,H',g.Gu,r,q⟩)
|`(zFX)=>`(["one","other","reach","trees","ahead","behind"])
|`(zFY)=>`(∀b u,b≠e->h.get? b=some u->h'.get? b=some u)
|`(zFZ)=>`(AA Cl AF)
|`(zFa)=>`(∀cl C s₀ H₀ fp,Ox Cq ifs tif)
|`(zFb)=>`(Az (i:=2) sc.nd rfl As)
|`(zFc)=>`(∀cl C s₀ H₀ fp,PE Cq elt te)
|`(zFd)=>`(ZT.EY (prog:=X.prog) (w:=X.w) (A:=X.A.in1) Os b1 i1 a1 us (e1 i1 At))
|`(zFe)=>`(ZT.EY (prog:=X.prog) (w:=X.w) (A:=X.A.in1) Os b2 i2 a2 vs (e2 i2 At))
|`(zFf)=>`(Bu Cl AJ Da)
|`(zFg)=>`(Bi I q At)
|`(zFh)=>`(AB Kv AG)
|`(zFi)=>`(notedBy AS A env fun e s'=>R (.error e) s')
|`(zFj)=>`(∀(δ:Dv) (xs:yM),fs δ=some xs->∀(G0 H0 G H:Hp) (σ:St) (ts:RS) (R:zDE),Rw G0 H0 G H σ δ ts->(∀J G' H',Rw G0 H0 G' H' σ δ ts->MM J xs G'->R J H')->wi σ H R)
|`(zFk)=>`(seqObj "tuple" us.toArray 0)
|`(zFl)=>`(∀D ys G' H',Rw G0 H0 G' H' σ δ ts->H' D=some Ix->G' D=none->H0 D=none->(∀(j:Nat) (us:Oc),δ[j]? = some (L.own us)->σ[j]?≠some zAN)->Ao G' zs ys->Q ra H')
|`(zFm)=>`(fun r s'=>r=.ok (.ret KQ)/\OldK g.heap s'.heap/\s'.os=g.os/\AllBare s'.gens)
|`(zFn)=>`(nm 0)
|`(zFo)=>`(MO (IH rfl (B5 (Az (i:=6) sc.nd rfl As) (B5 (Az (i:=7) sc.nd rfl As) G9))))
|`(zFp)=>`(HP [".0","part","bottom"] 1 [none,none,some 1] (FQ (pv 0)) ca (fun _ _ _ _ _=>(BM F7 (FT J0 (pv 1) Ar Da) (BM Hb (pv 2) (FT J0 (pv 1) Ar Da)))))
|`(zFq)=>`(AU A9 (AB Kv (AB (nm 2) (AB sK AG))))
|`(zFr)=>`(AB (BA (AB CU (AB U9 AG))) AG)
|`(zFs)=>`(AK P w K mg base K9 k B1 Bk f8 (Ds Ac))
|`(zFt)=>`(Obj.mapSeq fun _ => #[])
|`(zFu)=>`(AB CU AG)
|`(zFv)=>`({s with heap:=(s.heap.push Ev).update s.heap.objs.size zDG})
|`(zFw)=>`(Fn K mg "trees_to" Fb f8 B1 Bk)
|`(zFx)=>`(AA Go AF)
|`(zFy)=>`(AA KF AF)
|`(zFz)=>`(c.2.map (Aw a))
|`(zGA)=>`(AK P w K mg base K9 k Bn Bd Iv (Ds AZ))
local macro_rules
|`(zGB)=>`(Fn K mg "weighing_reach" D8 Iv Bn Bd)
|`(zGC)=>`(∀i x σ H,xs[i]? = some x->Pv i σ H->g x σ H fun R Y=>Z {D with nx:=Pv M2,ct:=Pv M2,bk:=D.nx} R Y)
|`(zGD)=>`(Wb (ag hz rfl (x:=.none) rfl Oz))
|`(zGE)=>`(nm 2)
|`(zGF)=>`(∀cl C s₀ H₀ fp,ZG Cq ifs tif)
|`(zGG)=>`(AA Fa AF)
|`(zGH)=>`(pv 1)
|`(zGI)=>`(B3 (KA Ch) (A3 GA Cl AJ) AJ To)
|`(zGJ)=>`(∀cl C s₀ H₀ fp,DE Cq elt f)
|`(zGK)=>`(FT IM (pv 0) Ar Da)
|`(zGL)=>`(.lst (ys.set j SY))
|`(zGM)=>`(Az (i:=4) sc.nd rfl As)
|`(zGN)=>`(Az (i:=5) sc.nd rfl As)
|`(zGO)=>`(Looks.here (show Looks M s.heap (typeOf HY) o.cls from(Looks.ld U).andThen .now) ?_)
|`(zGP)=>`(.tail _ GM)
|`(zGQ)=>`((BX x,Value.ref xa))
|`(zGR)=>`((∀T H',N T H'->∃m',m'<m/\W M2 m' T H'))
|`(zGS)=>`(Gn I hg hm boot_enumerate (av (BW PH fun us s1 ⟨vs,H1,U,r1,q1⟩=>?_) hs rfl))
|`(zGT)=>`(wpAny_letGo Oz)
|`(zGU)=>`(BI (A0 (x:=.int (p.den:Int)) (y:=.int (q.den:Int)) rfl rfl (Xv R.d g.d AT)) rfl)
|`(zGV)=>`(List PD)
|`(zGW)=>`(Draws.list (prog:=X.prog) (w:=X.w) (A:=X.A.in1) Os it a hai its.toArray)
|`(zGX)=>`(BW PH fun us s1 ⟨vs,H1,I1,U,q1⟩=>hc pins s1 σ H1 vs us Q I1 U q1)
|`(zGY)=>`(EM Do)
|`(zGZ)=>`(ZT.EY (prog:=X.prog) (w:=X.w) (A:=X.A.in1) Os b3 i3 a3 ws (e3 i3 At))
|`(zGa)=>`(.lst am)
|`(zGb)=>`(Fn K mg "greatest_divisor" DP JU g gd)
|`(zGc)=>`(field ON 2>>=_)
|`(zGd)=>`(field ON 3>>=_)
|`(zGe)=>`({s with heap:=((s.heap.push Ev).update s.heap.objs.size Mh).push IF})
|`(zGf)=>`(aI z0 I.ok.above)
|`(zGg)=>`(.ref Fk)
|`(zGh)=>`(ET.draws (prog:=X.prog) (w:=X.w) (A:=X.A.in1) Os it a its hai)
|`(zGi)=>`(pv 2)
|`(zGj)=>`(.Call zEu [e] [⟨some "reverse",.Constant KQ j R,kp⟩] pos)
|`(zGk)=>`(AA (Ab U g R rfl (AA (A3 Cg Cl (Aq (AA (Aq AF) AF))) AF)) AF)
|`(zGl)=>`(∀(i:Nat) (xs:Oc),δ[i]? = some (L.own xs)->σ[i]?≠some zAN)
|`(zGm)=>`(dN d (Fu r zAr v SY))
|`(zGn)=>`(DW.dt (JF (B3 WI Cl AJ To) (GI (B3 Sa Cl (Rx rfl GB) To))))
|`(zGo)=>`((AH n).find? (Hx Ow))
local macro_rules
|`(zGp)=>`(pyNext ON)
|`(zGq)=>`(AK P w K mg base Ag 1 g gd JU WU)
|`(zGr)=>`(.seq #[Tc] 0)
|`(zGs)=>`(.Expr (.Call (.Attribute RN "append" ap) [e] [] cp) pos)
|`(zGt)=>`(.Expr (.Call (.Attribute RN "extend" ap) [e] [] cp) pos)
|`(zGu)=>`(fun δ=>((AU ID Do) δ).bind (eg [0,1,2,4,8,17,37,85]))
|`(zGv)=>`((∃m,W 0 m [] (upd H1 D Q4)))
|`(zGw)=>`(order.filterMap IN)
|`(zGx)=>`(Ai DB (Cm (AB CU (AB (Pn CU) AG))) (Ai Ib (nm 6) U9))
|`(zGy)=>`(DZ K9 P w K mg base N qual scope f cd A outer s H E)
|`(zGz)=>`(((SetTable.insertAt st.1 (st.2.put slot).2 zBV)[·]?))
|`(zHA)=>`(Bu Go AJ Da)
|`(zHB)=>`(fun b o _ _ hc q _=>⟨o.slots,keep b o KK KK q⟩)
|`(zHC)=>`(AU ID Do)
|`(zHD)=>`(ForInStep.yield r)
|`(zHE)=>`(Obj.putSet SX (t.put j).1)
|`(zHF)=>`(pv 3)
|`(zHG)=>`(PassesOwn Ci X.A X.env X.xe)
|`(zHH)=>`(Builtin.SmallTypes.ownedTupleHandOut ON zCN>>=_)
|`(zHI)=>`((by have:=(Dd b c.1).den_nz;show(1:Int)<=zBb;lia))
|`(zHJ)=>`(Ai DB zFn KM)
|`(zHK)=>`(Ai DB zFn CU)
|`(zHL)=>`(AB (BA (AB (Pn CU) zFu)) AG)
|`(zHM)=>`(A1 (Aq (AA (Bc (AA (Bc AF) (AA (Bc zGG) AF))) (AA (Bc (AA Fa zGG)) AF))))
|`(zHN)=>`(AB CU (AB (AU m zFh) AG))
|`(zHO)=>`(BE (i:=1) sc.nd rfl As (BM F7 (BM Hb zGH (DY BD B2 hr rfl zBY)) zGi))
|`(zHP)=>`(by exact zFZ)
|`(zHQ)=>`(AU mT (AB zGE (AB (AU (CP YC) (AB sK (AB (AU (AW 9) zFh) AG))) AG)))
|`(zHR)=>`(BA (AB KM zFu))
|`(zHS)=>`(AB (BA (AB CU zFu)) AG)
|`(zHT)=>`(fun _ _ _ _ _=>(FT J0 zGH Ar Da))
|`(zHU)=>`(DC HN rfl B6 bD zFZ)
|`(zHV)=>`(MO (IH rfl (B5 (Az (i:=1) sc.nd rfl As) (B5 zFb G9))))
|`(zHW)=>`(pv 0)
|`(zHX)=>`(AA zFf AF)
|`(zHY)=>`(Fp Bh Bq g HI (Jz (Fp BK BR g HI (IQ zHP)) zFE))
namespace Opn
open PySem PySem.W PyProof.Rows PySem.Calls
noncomputable def q0:Pos:=⟨0,0,0,0⟩
noncomputable def va:Obj:={ cls:=.type "tuple",data:=.seq #[]}
noncomputable def vT:Obj:={ cls:=.none,data:=.fields #[]}
noncomputable def vq:Obj:={ cls:=.type "code",data:=.fields #[.str (Str.ofString "<module>") 182,.str (Str.ofString "<module>") 183,.str (Str.ofString "/claim/cut.py") 184,.int 1 0,.int 0 0,.int 0 0,.int 0 0,.int 0 0,.ref 11,.bool false,.int 181 0,.ref 12,.none,.none,.none,.none,.int 185 0,.int 1 0,.str (Str.ofString "/claim/cut.py") 186]}
noncomputable def vX:Obj:={ cls:=.type "frame",slots:=#[some (.ref 13),some (.ref 3),some (.ref 3),none,some (.str (Str.ofString "__main__") 164),none,some (.ref 0)]}
noncomputable def uT(P:Params):List Obj:=(boot_heap P).objs.toList++[va,vT,vq,vX]
noncomputable def nN(P:Params)(o:Params->Obj)(l r:BT):BT:=.node (o P) l r
noncomputable def lN(P:Params)(o:Params->Obj):BT:=.node (o P) .nil .nil
noncomputable def tq(P:Params):BT :=
 nN P boot_o_0 (nN P boot_o_1 (nN P boot_o_3 (lN P boot_o_7) (.node va .nil .nil)) (nN P boot_o_5 (lN P boot_o_9) (.node vq .nil .nil)))
  (nN P boot_o_2 (nN P boot_o_4 (lN P boot_o_8) (.node vT .nil .nil)) (nN P boot_o_6 (lN P boot_o_10) (.node vX .nil .nil)))
noncomputable def kR:Life:=Life.mk [] [] [] 0 [] [] false #[] [] 0 false false false 0 [2000,10,10] false 0 true [] [] 0 false
noncomputable def sA(w:IO)(os:zDA):SD:=⟨⟨⟨uT w.params⟩,kR⟩,#[],boot_drawn,187,os⟩
noncomputable def sB(w:IO)(os:zDA):SharedT:=⟨tq w.params,15,kR,#[],boot_drawn,187,os⟩
noncomputable def R8(p:FS):Env:={ scope:=p.main.scope,locals:=mainNs,globals:=mainNs,cells:=[],code:=.ref 13,frame:=some 14}
noncomputable def cB(p:FS):Code:=.body zDk (R8 p)
noncomputable abbrev Ko:Option VL:=some (.ref 6)
noncomputable abbrev bB:List Frame:=[topFrame q0]
noncomputable def eA(p:FS)(M:Nat)(w:IO)(os:zDA):Option (Flow×SharedT×Code×Pos) :=
 PySem.W.Fast.tw10110043849684766642 PySem.W.Fast.tw14364793385576792824 p w 11 Ko 1 M (sB w os) (piecesOf zDk (R8 p) (cB p) q0 bB)
noncomputable def dS(p:FS)(M:Nat)(w:IO)(os:zDA):SharedT:=match eA p M w os with|some (_,s,_)=>s|none=>sB w os
def nX{p:FS}{M:Nat}{w:IO}{os:zDA}{r:Option (Flow×SharedT×Code×Pos)}(h:eA p M w os=r):segRunT treeTable p w 11 Ko 1 M (sB w os) (piecesOf zDk (R8 p) (cB p) q0 bB)=r:=by
 have e:segRunT treeTable=PySem.W.Fast.tw10110043849684766642 PySem.W.Fast.tw14364793385576792824:=congr PySem.W.Fast.te10110043849684766642 PySem.W.Fast.te14364793385576792824;rw[e];exact h
def sT{p:FS}{M T:Nat}{g:Pos}{w:IO}{os:zDA} (pre:topGo treeTable p w 11 Ko 12 ⟨boot_heap w.params,#[],boot_drawn,boot_toks,os⟩ (topStub p)=some (sA w os,⟨denote treeTable (cB p),cB p,q0,bB⟩)) (R:segRun treeTable p w 11 Ko 1 1 (sA w os) (blockOf zDk (R8 p) (cB p) q0 bB)=some (.next,(sB w os).abs,cB p,q0)) (seg:eA p M w os=some (.next,dS p M w os,cB p,g)) (fin:∀s,topRun treeTable p w 11 Ko 2 s (restOf [] (R8 p) (cB p) g bB)=some s)(U:T=12+(1+(M+2))):topRun treeTable p w 11 Ko T ⟨boot_heap w.params,#[],boot_drawn,boot_toks,os⟩ (topStub p)=some (dS p M w os).abs:=by
 subst U;refine go_top pre (piece_block R ?_);have h:=piece_app (rest:=[]) (segRun_of (nX seg)) (fin _);rw[List.append_nil]at h;exact h
def mi{p q:FS}{loose:yU}{Xt:SD->Bool}{α:Type}{Yf:SD->α}{Ya:World->α}{N M:Nat}{S:World->OsState->SD} (g:∀w:World,(fencedOpening treeTable p w N).map (fun s=>(s.heap,s.gens,s.drawn,s.toks))=some (boot_heap w.params,#[],boot_drawn,boot_toks)) (size:∀w:World,al=(true,11,Ko)) (run:∀w os,topRun treeTable p w 11 Ko M ⟨boot_heap w.params,#[],boot_drawn,boot_toks,os⟩ (topStub p)=some (S w os))(le:Nat.ble M N=true) (ok:∀w os,(staticsOk zDl zn (S w os).heap&&namesBound p (S w os).heap&&gensDone (S w os)&&laidKept zn (S w os).heap)=true) (seen:∀w os,openSeen q loose zDl Xt true (S w os)=openGood q loose) (Z:∀w os,Yf (S w os)=Ya w):LeftO p q loose Xt Yf Ya N:=fun w=>by
 obtain⟨⟨h,gs,d,k,os⟩,e,e'⟩:=aC.mp (g w);obtain⟨rfl,rfl,rfl,rfl⟩:h=boot_heap w.params/\gs=#[]/\d=boot_drawn/\k=boot_toks:=by simpa using e'
 obtain⟨U,T,R⟩:_/\_/\_:=by simpa only[Prod.mk.injEq]using size w
 have Y:=ok w os;have r:=topRun_mono (N-M) _ _ _ _ (run w os);rw[show M+(N-M)=N by have:=Nat.le_of_ble_eq_true le;lia]at r;have t:topFrom treeTable p w N ⟨boot_heap w.params,#[],boot_drawn,boot_toks,os⟩=some (S w os):=by
  unfold topFrom;dsimp only;rw[U,T,R,r];show(match staticsOk zDl zn (S w os).heap&&namesBound p (S w os).heap&&gensDone (S w os)&&laidKept zn (S w os).heap with|true=>_|false=>_)=_;rw[Y]
 unfold openEnds;rw[e];show(topFrom treeTable p w N _).map _=_;rw[t];exact bJ some (Prod.ext (seen w os) (Z w os))
def vL(w:IO):al=(true,11,Ko):=by kernel_rfl
end Opn
namespace Q95
open PySem
def top(i:Nat):Stmt:=PySem.Challenge.pw_stepgrove_k95_whole_mirrored_rules.main.body.getD i (.Pass ⟨0,0,0,0⟩)
end Q95
namespace L2
open PySem
def Ho(s:Stmt):Arguments:=match s with
 |.FunctionDef _ a _ _ _ _ _ _ _ _=>a
 |_=>{ posonlyargs:=[],args:=[],vararg:=none,kwonlyargs:=[],kw_defaults:=[],kwarg:=none,defaults:=[]}
def Et(s:Stmt):ye:=match s with
 |.FunctionDef _ _ b _ _ _ _ _ _ _=>b
 |_=>[]
def AQ(s:Stmt):Scope:=match s with
 |.FunctionDef _ _ _ _ _ _ sc _ _ _=>sc
 |_=>{ kind:=.function,names:=[],isGenerator:=false,isCoroutine:=false}
end L2
namespace Q95
open PySem L2
section
open PySem.W PyProof.Rows PySem.Calls
abbrev Gv:Program:=PySem.Challenge.pw_stepgrove_k95_whole_mirrored_rules
abbrev Bw:OpenLaw:=PySem.Challenge.rw_stepgrove_k95_whole_mirrored_rules
noncomputable abbrev dE(P:Params)(x:zAG)(t:Nat)(v:VL):DictEntry:=⟨PyData.keyHash P (Str.ofString x),.str (Str.ofString x) t,v⟩
noncomputable abbrev sV(x:zAG)(t:Nat):VL:=.str (Str.ofString x) t
noncomputable abbrev fO(n:zAG)(i:Nat)(m:zAG)(t c:Nat):Obj:=⟨.type "function",none,.func (fnOf n n (Ho (top i)) (Et (top i)) (AQ (top i)) .none .none .none (.str (Str.ofString m) t) none (.ref c) .none),#[]⟩
noncomputable abbrev cO(n:zAG)(t l a k r:Nat)(b:Bool)(Y:Nat)(U T R v4:VL)(g:Nat):Obj:=⟨.type "code",none,.fields #[sV n t,sV n (t+1),sV "/claim/cut.py" (t+2),.int l 0,.int a 0,.int 0 0,.int 0 0,.int k 0,.ref r,.bool b,.int 181 0,.ref Y,U,T,R,v4,.int g 0,.int l 0,sV "/claim/cut.py" (g+1)],#[]⟩
noncomputable def kH:Params->Frag:=fun P=>
 (nat_lit 2,⟨.none,none,(.dict #[] 0),#[]⟩) ::
 (nat_lit 3,⟨u8,none,(.dict #[dE P "__name__" 165 (sV "law_stepgrove_k95_whole_mirrored_rules" 644),dE P "__doc__" 166 .none,dE P "__package__" 167 .none,dE P "__loader__" 168 (.builtin "__main__.__loader__#opaque"),dE P "__spec__" 169 .none,dE P "__annotations__" 170 (.ref 6),dE P "__builtins__" 171 (.ref 4),dE P "__file__" 173 (sV "/claim/cut.py" 172),dE P "__cached__" 174 .none,dE P "GroveError" 206 Tc,dE P "NoBottom" 222 (.ref 37),dE P "NoTree" 238 (.ref 49),dE P "NoTable" 254 zi,dE P "NoWeighing" 270 zj,dE P "NotAlike" 286 zk,dE P "TooMany" 302 zm,dE P "MOST_KNOTS" 306 (.int 7 305),dE P "is_tree" 315 (.ref 106),dE P "trees_of" 326 (.ref 113),dE P "trees_to" 335 (.ref 120),dE P "refuse_no_tree" 342 (.ref 127),dE P "in_falling_order" 349 (.ref 134),dE P "knots_within" 355 (.ref 139),dE P "density_within" 364 (.ref 146),dE P "trees_one_larger" 375 (.ref 153),dE P "tree_cuts" 384 (.ref 160),dE P "cuts_within" 390 (.ref 165),dE P "fraction_of" 401 (.ref 172),dE P "frac_times" 409 (.ref 179),dE P "is_fraction" 416 (.ref 186),dE P "are_fractions" 424 (.ref 193),dE P "is_whole" 431 (.ref 200),dE P "greatest_divisor" 442 (.ref 207),dE P "common_bottom" 451 (.ref 214),dE P "frac_total" 457 (.ref 219),dE P "power_of" 468 (.ref 226),dE P "MOST_ROWS" 472 (.int 40 471),dE P "is_table" 479 (.ref 233),dE P "refuse_no_table" 486 (.ref 240),dE P "are_rows" 495 (.ref 247),dE P "tops_over" 503 (.ref 252),dE P "table_bottom" 509 (.ref 257),dE P "WEIGHING_LENGTHS" 520 (.ref 258),dE P "table_weighing" 528 (.ref 265),dE P "true_weighing" 535 (.ref 272),dE P "weighing_reach" 542 (.ref 279),dE P "refuse_no_weighing" 549 (.ref 286),dE P "true_weights" 555 (.ref 291),dE P "weights_under" 561 (.ref 296),dE P "readings" 567 (.ref 301),dE P "read_by" 573 (.ref 306),dE P "weighing_composed" 581 (.ref 311),dE P "weighing_undone" 587 (.ref 316),dE P "weighing_turned" 593 (.ref 321),dE P "weighing_mirrored" 600 (.ref 328),dE P "cut_share" 612 (.ref 335),dE P "frac_power" 620 (.ref 342),dE P "weighing_order" 631 (.ref 349),dE P "first_unlike" 643 (.ref 356),dE P "_law_cell" 655 (.ref 363),dE P "_law_frac" 665 (.ref 370),dE P "_law_add" 673 (.ref 377),dE P "_law_mul" 681 (.ref 384),dE P "_law_kept" 687 (.ref 389),dE P "_law_longer" 693 (.ref 394),dE P "_law_trees" 705 (.ref 401),dE P "_law_knots" 711 (.ref 406),dE P "_law_density" 720 (.ref 413),dE P "_law_entry" 727 (.ref 420),dE P "_law_named" 734 (.ref 427),dE P "_law_table" 751 (.ref 434),dE P "_law_copied" 757 (.ref 439),dE P "_law_off" 767 (.ref 446),dE P "law" 783 (.ref 453)] 74),#[]⟩) ::
 (nat_lit 15,⟨Gf,none,(.seq #[PF] 0),#[]⟩) ::
 (nat_lit 22,⟨Gf,none,zCm,#[]⟩) ::
 (nat_lit 23,⟨u8,none,(.dict #[dE P "__module__" 196 db,dE P "__firstlineno__" 200 (.int 2 199),dE P "__static_attributes__" 201 (.ref 22),dE P "__weakref__" 203 (.ref 25),dE P "__doc__" 204 .none] 3),#[]⟩) ::
 (nat_lit 24,⟨zAK,none,(.cls ⟨Str.ofString "GroveError",[PF],[Tc,PF,zC,Ty,xz],23,Str.ofString "GroveError",true,[],[(.ref 37),(.ref 49),zi,zj,zk,zm],false,none,false⟩),#[some (.ref 15),none,some (sV "GroveError" 189),some (sV "GroveError" 197),some Ti,some KQ]⟩) ::
 (nat_lit 25,⟨(.type "getset_descriptor"),none,(.fields #[(sV "__weakref__" 202),Tc,(.builtin "ExceptionGroup.__weakref__"),.none]),#[]⟩) ::
 (nat_lit 28,⟨Gf,none,zGr,#[]⟩) ::
 (nat_lit 35,⟨Gf,none,zCm,#[]⟩) ::
 (nat_lit 36,⟨u8,none,(.dict #[dE P "__module__" 214 db,dE P "__firstlineno__" 218 (.int 4 217),dE P "__static_attributes__" 219 (.ref 35),dE P "__doc__" 220 .none] 2),#[]⟩) ::
 (nat_lit 37,⟨zAK,none,(.cls ⟨Str.ofString "NoBottom",[Tc],[(.ref 37),Tc,PF,zC,Ty,xz],36,Str.ofString "NoBottom",true,[],[],false,none,false⟩),#[some (.ref 28),none,some (sV "NoBottom" 207),some (sV "NoBottom" 215),some Ti,some KQ]⟩) ::
 (nat_lit 40,⟨Gf,none,zGr,#[]⟩) ::
 (nat_lit 47,⟨Gf,none,zCm,#[]⟩) ::
 (nat_lit 48,⟨u8,none,(.dict #[dE P "__module__" 230 db,dE P "__firstlineno__" 234 (.int 6 233),dE P "__static_attributes__" 235 (.ref 47),dE P "__doc__" 236 .none] 2),#[]⟩) ::
 (nat_lit 49,⟨zAK,none,(.cls ⟨Str.ofString "NoTree",[Tc],[(.ref 49),Tc,PF,zC,Ty,xz],48,Str.ofString "NoTree",true,[],[],false,none,false⟩),#[some (.ref 40),none,some (sV "NoTree" 223),some (sV "NoTree" 231),some Ti,some KQ]⟩) ::
 (nat_lit 52,⟨Gf,none,zGr,#[]⟩) ::
 (nat_lit 59,⟨Gf,none,zCm,#[]⟩) ::
 (nat_lit 60,⟨u8,none,(.dict #[dE P "__module__" 246 db,dE P "__firstlineno__" 250 (.int 8 249),dE P "__static_attributes__" 251 (.ref 59),dE P "__doc__" 252 .none] 2),#[]⟩) ::
 (nat_lit 61,⟨zAK,none,(.cls ⟨Str.ofString "NoTable",[Tc],[zi,Tc,PF,zC,Ty,xz],60,Str.ofString "NoTable",true,[],[],false,none,false⟩),#[some (.ref 52),none,some (sV "NoTable" 239),some (sV "NoTable" 247),some Ti,some KQ]⟩) ::
 (nat_lit 64,⟨Gf,none,zGr,#[]⟩) ::
 (nat_lit 71,⟨Gf,none,zCm,#[]⟩) ::
 (nat_lit 72,⟨u8,none,(.dict #[dE P "__module__" 262 db,dE P "__firstlineno__" 266 (.int 10 265),dE P "__static_attributes__" 267 (.ref 71),dE P "__doc__" 268 .none] 2),#[]⟩) ::
 (nat_lit 73,⟨zAK,none,(.cls ⟨Str.ofString "NoWeighing",[Tc],[zj,Tc,PF,zC,Ty,xz],72,Str.ofString "NoWeighing",true,[],[],false,none,false⟩),#[some (.ref 64),none,some (sV "NoWeighing" 255),some (sV "NoWeighing" 263),some Ti,some KQ]⟩) ::
 (nat_lit 76,⟨Gf,none,zGr,#[]⟩) ::
 (nat_lit 83,⟨Gf,none,zCm,#[]⟩) ::
 (nat_lit 84,⟨u8,none,(.dict #[dE P "__module__" 278 db,dE P "__firstlineno__" 282 (.int 12 281),dE P "__static_attributes__" 283 (.ref 83),dE P "__doc__" 284 .none] 2),#[]⟩) ::
 (nat_lit 85,⟨zAK,none,(.cls ⟨Str.ofString "NotAlike",[Tc],[zk,Tc,PF,zC,Ty,xz],84,Str.ofString "NotAlike",true,[],[],false,none,false⟩),#[some (.ref 76),none,some (sV "NotAlike" 271),some (sV "NotAlike" 279),some Ti,some KQ]⟩) ::
 (nat_lit 88,⟨Gf,none,zGr,#[]⟩) ::
 (nat_lit 95,⟨Gf,none,zCm,#[]⟩) ::
 (nat_lit 96,⟨u8,none,(.dict #[dE P "__module__" 294 db,dE P "__firstlineno__" 298 (.int 14 297),dE P "__static_attributes__" 299 (.ref 95),dE P "__doc__" 300 .none] 2),#[]⟩) ::
 (nat_lit 97,⟨zAK,none,(.cls ⟨Str.ofString "TooMany",[Tc],[zm,Tc,PF,zC,Ty,xz],96,Str.ofString "TooMany",true,[],[],false,none,false⟩),#[some (.ref 88),none,some (sV "TooMany" 287),some (sV "TooMany" 295),some Ti,some KQ]⟩) ::
 (nat_lit 105,cO "is_tree" 307 18 1 3 100 true 101 .none (.ref 102) (.ref 103) (.ref 104) 313) ::
 (nat_lit 106,fO "is_tree" 10 "stepgrove.trees" 303 105) ::
 (nat_lit 112,cO "trees_of" 316 27 1 3 107 true 108 .none (.ref 109) (.ref 110) (.ref 111) 324) ::
 (nat_lit 113,fO "trees_of" 11 "stepgrove.trees" 303 112) ::
 (nat_lit 119,cO "trees_to" 327 37 1 3 114 true 115 .none (.ref 116) (.ref 117) (.ref 118) 333) ::
 (nat_lit 120,fO "trees_to" 12 "stepgrove.trees" 303 119) ::
 (nat_lit 126,cO "refuse_no_tree" 336 44 1 3 121 true 122 .none (.ref 123) (.ref 124) (.ref 125) 340) ::
 (nat_lit 127,fO "refuse_no_tree" 13 "stepgrove.trees" 303 126) ::
 (nat_lit 133,cO "in_falling_order" 343 47 1 3 128 true 129 .none (.ref 130) (.ref 131) (.ref 132) 347) ::
 (nat_lit 134,fO "in_falling_order" 14 "stepgrove.trees" 303 133) ::
 (nat_lit 138,cO "knots_within" 350 49 1 3 135 true 136 .none .none .none (.ref 137) 353) ::
 (nat_lit 139,fO "knots_within" 15 "stepgrove.trees" 303 138) ::
 (nat_lit 145,cO "density_within" 356 51 1 3 140 true 141 .none (.ref 142) (.ref 143) (.ref 144) 362) ::
 (nat_lit 146,fO "density_within" 16 "stepgrove.trees" 303 145) ::
 (nat_lit 152,cO "trees_one_larger" 365 56 1 3 147 true 148 .none (.ref 149) (.ref 150) (.ref 151) 373) ::
 (nat_lit 153,fO "trees_one_larger" 17 "stepgrove.trees" 303 152) ::
 (nat_lit 159,cO "tree_cuts" 378 63 1 3 154 true 155 .none (.ref 156) (.ref 157) (.ref 158) 382) ::
 (nat_lit 160,fO "tree_cuts" 19 "stepgrove.cuts" 376 159) ::
 (nat_lit 164,cO "cuts_within" 385 66 1 3 161 true 162 .none .none .none (.ref 163) 388) ::
 (nat_lit 165,fO "cuts_within" 20 "stepgrove.cuts" 376 164) ::
 (nat_lit 171,cO "fraction_of" 393 77 2 3 166 true 167 .none (.ref 168) (.ref 169) (.ref 170) 399) ::
 (nat_lit 172,fO "fraction_of" 22 "stepgrove.fracs" 391 171) ::
 (nat_lit 178,cO "frac_times" 402 84 2 3 173 true 174 .none (.ref 175) (.ref 176) (.ref 177) 407) ::
 (nat_lit 179,fO "frac_times" 23 "stepgrove.fracs" 391 178) ::
 (nat_lit 185,cO "is_fraction" 410 86 1 3 180 true 181 .none (.ref 182) (.ref 183) (.ref 184) 414) ::
 (nat_lit 186,fO "is_fraction" 24 "stepgrove.fracs" 391 185) ::
 (nat_lit 192,cO "are_fractions" 417 92 1 3 187 true 188 .none (.ref 189) (.ref 190) (.ref 191) 422) ::
 (nat_lit 193,fO "are_fractions" 25 "stepgrove.fracs" 391 192) ::
 (nat_lit 199,cO "is_whole" 425 99 1 3 194 true 195 .none (.ref 196) (.ref 197) (.ref 198) 429) ::
 (nat_lit 200,fO "is_whole" 26 "stepgrove.fracs" 391 199) ::
 (nat_lit 206,cO "greatest_divisor" 432 101 2 3 201 true 202 .none (.ref 203) (.ref 204) (.ref 205) 440) ::
 (nat_lit 207,fO "greatest_divisor" 27 "stepgrove.fracs" 391 206) ::
 (nat_lit 213,cO "common_bottom" 443 109 1 3 208 true 209 .none (.ref 210) (.ref 211) (.ref 212) 449) ::
 (nat_lit 214,fO "common_bottom" 28 "stepgrove.fracs" 391 213) ::
 (nat_lit 218,cO "frac_total" 452 114 1 3 215 true 216 .none .none .none (.ref 217) 455) ::
 (nat_lit 219,fO "frac_total" 29 "stepgrove.fracs" 391 218) ::
 (nat_lit 225,cO "power_of" 458 117 2 3 220 true 221 .none (.ref 222) (.ref 223) (.ref 224) 466) ::
 (nat_lit 226,fO "power_of" 30 "stepgrove.fracs" 391 225) ::
 (nat_lit 232,cO "is_table" 473 130 1 3 227 true 228 .none (.ref 229) (.ref 230) (.ref 231) 477) ::
 (nat_lit 233,fO "is_table" 33 "stepgrove.tables" 469 232) ::
 (nat_lit 239,cO "refuse_no_table" 480 134 1 3 234 true 235 .none (.ref 236) (.ref 237) (.ref 238) 484) ::
 (nat_lit 240,fO "refuse_no_table" 34 "stepgrove.tables" 469 239) ::
 (nat_lit 246,cO "are_rows" 487 137 1 3 241 true 242 .none (.ref 243) (.ref 244) (.ref 245) 493) ::
 (nat_lit 247,fO "are_rows" 35 "stepgrove.tables" 469 246) ::
 (nat_lit 251,cO "tops_over" 498 145 2 3 248 true 249 .none .none .none (.ref 250) 501) ::
 (nat_lit 252,fO "tops_over" 37 "stepgrove.wholes" 496 251) ::
 (nat_lit 256,cO "table_bottom" 504 147 1 3 253 true 254 .none .none .none (.ref 255) 507) ::
 (nat_lit 257,fO "table_bottom" 38 "stepgrove.wholes" 496 256) ::
 (nat_lit 258,⟨Gf,none,(.seq #[(.int 0 512),(.int 1 513),(.int 2 514),(.int 4 515),(.int 8 516),(.int 17 517),(.int 37 518),(.int 85 519)] 0),#[]⟩) ::
 (nat_lit 264,cO "table_weighing" 521 154 2 3 259 true 260 .none (.ref 261) (.ref 262) (.ref 263) 526) ::
 (nat_lit 265,fO "table_weighing" 41 "stepgrove.weights" 510 264) ::
 (nat_lit 271,cO "true_weighing" 529 157 1 3 266 true 267 .none (.ref 268) (.ref 269) (.ref 270) 533) ::
 (nat_lit 272,fO "true_weighing" 42 "stepgrove.weights" 510 271) ::
 (nat_lit 278,cO "weighing_reach" 536 159 1 3 273 true 274 .none (.ref 275) (.ref 276) (.ref 277) 540) ::
 (nat_lit 279,fO "weighing_reach" 43 "stepgrove.weights" 510 278) ::
 (nat_lit 285,cO "refuse_no_weighing" 543 162 1 3 280 true 281 .none (.ref 282) (.ref 283) (.ref 284) 547) ::
 (nat_lit 286,fO "refuse_no_weighing" 44 "stepgrove.weights" 510 285) ::
 (nat_lit 290,cO "true_weights" 550 165 1 3 287 true 288 .none .none .none (.ref 289) 553) ::
 (nat_lit 291,fO "true_weights" 45 "stepgrove.weights" 510 290) ::
 (nat_lit 295,cO "weights_under" 556 167 2 3 292 true 293 .none .none .none (.ref 294) 559) ::
 (nat_lit 296,fO "weights_under" 46 "stepgrove.weights" 510 295) ::
 (nat_lit 300,cO "readings" 562 175 3 3 297 true 298 .none .none .none (.ref 299) 565) ::
 (nat_lit 301,fO "readings" 47 "stepgrove.weights" 510 300) ::
 (nat_lit 305,cO "read_by" 568 182 2 3 302 true 303 .none .none .none (.ref 304) 571) ::
 (nat_lit 306,fO "read_by" 48 "stepgrove.weights" 510 305) ::
 (nat_lit 310,cO "weighing_composed" 576 185 2 3 307 true 308 .none .none .none (.ref 309) 579) ::
 (nat_lit 311,fO "weighing_composed" 50 "stepgrove.weighings" 574 310) ::
 (nat_lit 315,cO "weighing_undone" 582 194 1 3 312 true 313 .none .none .none (.ref 314) 585) ::
 (nat_lit 316,fO "weighing_undone" 51 "stepgrove.weighings" 574 315) ::
 (nat_lit 320,cO "weighing_turned" 588 202 2 3 317 true 318 .none .none .none (.ref 319) 591) ::
 (nat_lit 321,fO "weighing_turned" 52 "stepgrove.weighings" 574 320) ::
 (nat_lit 327,cO "weighing_mirrored" 594 205 1 3 322 true 323 .none (.ref 324) (.ref 325) (.ref 326) 598) ::
 (nat_lit 328,fO "weighing_mirrored" 53 "stepgrove.weighings" 574 327) ::
 (nat_lit 334,cO "cut_share" 601 207 3 3 329 true 330 .none (.ref 331) (.ref 332) (.ref 333) 610) ::
 (nat_lit 335,fO "cut_share" 54 "stepgrove.weighings" 574 334) ::
 (nat_lit 341,cO "frac_power" 613 214 2 3 336 true 337 .none (.ref 338) (.ref 339) (.ref 340) 618) ::
 (nat_lit 342,fO "frac_power" 55 "stepgrove.weighings" 574 341) ::
 (nat_lit 348,cO "weighing_order" 623 217 1 3 343 true 344 .none (.ref 345) (.ref 346) (.ref 347) 629) ::
 (nat_lit 349,fO "weighing_order" 57 "stepgrove.orders" 621 348) ::
 (nat_lit 355,cO "first_unlike" 632 223 3 3 350 true 351 .none (.ref 352) (.ref 353) (.ref 354) 641) ::
 (nat_lit 356,fO "first_unlike" 58 "stepgrove.orders" 621 355) ::
 (nat_lit 362,cO "_law_cell" 646 229 2 3 357 true 358 .none (.ref 359) (.ref 360) (.ref 361) 653) ::
 (nat_lit 363,fO "_law_cell" 60 "law_stepgrove_k95_whole_mirrored_rules" 644 362) ::
 (nat_lit 369,cO "_law_frac" 656 238 2 3 364 true 365 .none (.ref 366) (.ref 367) (.ref 368) 663) ::
 (nat_lit 370,fO "_law_frac" 61 "law_stepgrove_k95_whole_mirrored_rules" 644 369) ::
 (nat_lit 376,cO "_law_add" 666 246 2 3 371 true 372 .none (.ref 373) (.ref 374) (.ref 375) 671) ::
 (nat_lit 377,fO "_law_add" 62 "law_stepgrove_k95_whole_mirrored_rules" 644 376) ::
 (nat_lit 383,cO "_law_mul" 674 248 2 3 378 true 379 .none (.ref 380) (.ref 381) (.ref 382) 679) ::
 (nat_lit 384,fO "_law_mul" 63 "law_stepgrove_k95_whole_mirrored_rules" 644 383) ::
 (nat_lit 388,cO "_law_kept" 682 250 1 3 385 true 386 .none .none .none (.ref 387) 685) ::
 (nat_lit 389,fO "_law_kept" 64 "law_stepgrove_k95_whole_mirrored_rules" 644 388) ::
 (nat_lit 393,cO "_law_longer" 688 252 1 3 390 true 391 .none .none .none (.ref 392) 691) ::
 (nat_lit 394,fO "_law_longer" 65 "law_stepgrove_k95_whole_mirrored_rules" 644 393) ::
 (nat_lit 400,cO "_law_trees" 694 257 1 3 395 true 396 .none (.ref 397) (.ref 398) (.ref 399) 703) ::
 (nat_lit 401,fO "_law_trees" 66 "law_stepgrove_k95_whole_mirrored_rules" 644 400) ::
 (nat_lit 405,cO "_law_knots" 706 267 1 3 402 true 403 .none .none .none (.ref 404) 709) ::
 (nat_lit 406,fO "_law_knots" 67 "law_stepgrove_k95_whole_mirrored_rules" 644 405) ::
 (nat_lit 412,cO "_law_density" 712 269 1 3 407 true 408 .none (.ref 409) (.ref 410) (.ref 411) 718) ::
 (nat_lit 413,fO "_law_density" 68 "law_stepgrove_k95_whole_mirrored_rules" 644 412) ::
 (nat_lit 419,cO "_law_entry" 721 274 1 3 414 true 415 .none (.ref 416) (.ref 417) (.ref 418) 725) ::
 (nat_lit 420,fO "_law_entry" 69 "law_stepgrove_k95_whole_mirrored_rules" 644 419) ::
 (nat_lit 426,cO "_law_named" 728 276 1 3 421 true 422 .none (.ref 423) (.ref 424) (.ref 425) 732) ::
 (nat_lit 427,fO "_law_named" 70 "law_stepgrove_k95_whole_mirrored_rules" 644 426) ::
 (nat_lit 433,cO "_law_table" 735 286 3 3 428 true 429 .none (.ref 430) (.ref 431) (.ref 432) 749) ::
 (nat_lit 434,fO "_law_table" 71 "law_stepgrove_k95_whole_mirrored_rules" 644 433) ::
 (nat_lit 445,cO "_law_off" 758 311 3 3 440 true 441 .none (.ref 442) (.ref 443) (.ref 444) 765) ::
 (nat_lit 446,fO "_law_off" 73 "law_stepgrove_k95_whole_mirrored_rules" 644 445) ::
 (nat_lit 452,cO "law" 768 314 1 3 447 true 448 .none (.ref 449) (.ref 450) (.ref 451) 781) ::
 (nat_lit 453,fO "law" 74 "law_stepgrove_k95_whole_mirrored_rules" 644 452)::[]
abbrev qX:Program:=view Gv [1,2,3,4,5,6,7,9,10,11,12,13,14,15,16,17,19,20,22,23,24,25,26,27,28,29,30,32,33,34,35,37,38,40,41,42,43,44,45,46,47,48,50,51,52,53,54,55,57,58,60,61,62,63,64,65,66,67,68,69,70,71,72,73,74]
noncomputable abbrev hX:Hook:=kHook kH [nat_lit 2,nat_lit 3,nat_lit 15,nat_lit 22,nat_lit 23,nat_lit 24,nat_lit 25,nat_lit 28,nat_lit 35,nat_lit 36,nat_lit 37,nat_lit 40,nat_lit 47,nat_lit 48,nat_lit 49,nat_lit 52,nat_lit 59,nat_lit 60,nat_lit 61,nat_lit 64,nat_lit 71,nat_lit 72,nat_lit 73,nat_lit 76,nat_lit 83,nat_lit 84,nat_lit 85,nat_lit 88,nat_lit 95,nat_lit 96,nat_lit 97,nat_lit 105,nat_lit 106,nat_lit 112,nat_lit 113,nat_lit 119,nat_lit 120,nat_lit 126,nat_lit 127,nat_lit 133,nat_lit 134,nat_lit 138,nat_lit 139,nat_lit 145,nat_lit 146,nat_lit 152,nat_lit 153,nat_lit 159,nat_lit 160,nat_lit 164,nat_lit 165,nat_lit 171,nat_lit 172,nat_lit 178,nat_lit 179,nat_lit 185,nat_lit 186,nat_lit 192,nat_lit 193,nat_lit 199,nat_lit 200,nat_lit 206,nat_lit 207,nat_lit 213,nat_lit 214,nat_lit 218,nat_lit 219,nat_lit 225,nat_lit 226,nat_lit 232,nat_lit 233,nat_lit 239,nat_lit 240,nat_lit 246,nat_lit 247,nat_lit 251,nat_lit 252,nat_lit 256,nat_lit 257,nat_lit 258,nat_lit 264,nat_lit 265,nat_lit 271,nat_lit 272,nat_lit 278,nat_lit 279,nat_lit 285,nat_lit 286,nat_lit 290,nat_lit 291,nat_lit 295,nat_lit 296,nat_lit 300,nat_lit 301,nat_lit 305,nat_lit 306,nat_lit 310,nat_lit 311,nat_lit 315,nat_lit 316,nat_lit 320,nat_lit 321,nat_lit 327,nat_lit 328,nat_lit 334,nat_lit 335,nat_lit 341,nat_lit 342,nat_lit 348,nat_lit 349,nat_lit 355,nat_lit 356,nat_lit 362,nat_lit 363,nat_lit 369,nat_lit 370,nat_lit 376,nat_lit 377,nat_lit 383,nat_lit 384,nat_lit 388,nat_lit 389,nat_lit 393,nat_lit 394,nat_lit 400,nat_lit 401,nat_lit 405,nat_lit 406,nat_lit 412,nat_lit 413,nat_lit 419,nat_lit 420,nat_lit 426,nat_lit 427,nat_lit 433,nat_lit 434,nat_lit 445,nat_lit 446,nat_lit 452,nat_lit 453] (fun _=>by kernel_rfl)
noncomputable def dX:DefRec:=⟨Str.ofString "law",Ho (top 74),Et (top 74),AQ (top 74),⟨314,0,332,113⟩⟩
def uY:Bw.wellSaid=true:=(congrFun PySem.W.Fast.te9446332074065402090 _).trans IP
def we(w:IO)(os:zDA):topGo treeTable Gv w 11 Opn.Ko 12 ⟨boot_heap w.params,#[],boot_drawn,boot_toks,os⟩ (topStub Gv)=some (Opn.sA w os,⟨denote treeTable (Opn.cB Gv),Opn.cB Gv,Opn.q0,Opn.bB⟩):=by kernel_rfl
def xJ(w:IO)(os:zDA):segRun treeTable Gv w 11 Opn.Ko 1 1 (Opn.sA w os) (blockOf (behindTheImports Gv) (Opn.R8 Gv) (Opn.cB Gv) Opn.q0 Opn.bB)=some (.next,(Opn.sB w os).abs,Opn.cB Gv,Opn.q0):=by kernel_rfl
def wk(w:IO)(s:SD):topRun treeTable Gv w 11 Opn.Ko 2 s (restOf [] (Opn.R8 Gv) (Opn.cB Gv) ⟨314,0,332,113⟩ Opn.bB)=some s:=by kernel_rfl
def xX(w:IO)(os:zDA):Opn.eA Gv 3219 w os=some (.next,Opn.dS Gv 3219 w os,Opn.cB Gv,⟨314,0,332,113⟩):=by kernel_rfl
noncomputable abbrev sX(w:IO)(os:zDA):SD:=(Opn.dS Gv 3219 w os).abs
def wO(w:IO)(os:zDA):(staticsOk (importedModules Gv.main.body) zn (sX w os).heap&&namesBound Gv (sX w os).heap&&gensDone (sX w os)&&laidKept zn (sX w os).heap)=true:=by kernel_rfl
def vC(w:IO)(os:zDA):hX.obs (sX w os)=hX.val w:=by kernel_rfl
noncomputable abbrev qw:SD->Bool:=fun s=>xlAt qX [] s&&recOk (RowW.records Bw.row.toRowW) s
def tf(w:IO)(os:zDA):openSeen qX [] (importedModules Gv.main.body) qw true (sX w os)=openGood qX []:=by kernel_rfl
def vK(w:IO):(fencedOpening treeTable Gv w 6562).map (fun s=>(s.heap,s.gens,s.drawn,s.toks))=some (boot_heap w.params,#[],boot_drawn,boot_toks):=boot_open (p:=Gv) (N:=6562) IP IP (fun _=>by kernel_rfl) w
def uQ:LeftO Gv qX [] qw hX.obs hX.val 6562:=Opn.mi (M:=3234) (S:=sX) vK Opn.vL (fun w os=>Opn.sT (we w os) (xJ w os) (xX w os) (wk w) IP) IP wO tf vC
def xR:defOf qX Bw.row.name=some (dX,[]):=by kernel_rfl
def wJ:Gv.theDef Bw.row.name=some (dX.params,dX.body,dX.scope):=by kernel_rfl
def xk:kwWritten? dX.params.kwonlyargs dX.params.kw_defaults=some []:=by kernel_rfl
def xP:(chainsOk qX&&opensWell Bw.row.prog&&(frees Bw.row.toRowW&&Bw.row.within.isEmpty))=true:=by kernel_rfl
def u5:Gv.bare:=⟨rfl,rfl,rfl,rfl,rfl,by decide +kernel⟩
def openX(U:Bw.row.toRowW.promised)(Y:WalkO qX [] (XL qX []) hX.says Bw.row.toRowW dX [] zBE):Bw.Holds :=
 holds_law uY fun g=>holds_open (r:=Bw.row) (q:=qX) (loose:=[]) (Xt:=qw) (XP:=XL qX []) (Yf:=hX.obs) (Ya:=hX.val) (YP:=hX.says) (d:=dX) (kwd:=[]) (N:=6562) uQ hX.of hX.keeps (fun s e=>xl_of s (Bool.and_eq_true_iff.mp e).1) XL.keeps xR wJ xk (fun s e=>recFacts_of (Bool.and_eq_true_iff.mp e).2) rfl g xP u5 U Y
end
end Q95
namespace L2
open PySem PySem.Spec PyProof.Rows
abbrev Key:=Sum Int Str
def lE:Key->VL->Bool
 |.inl k,v=>Value.isInt k v
 |.inr x,v=>Value.isStrOf x v
def wI(w:IO):Key->Int
 |.inl k=>hashInt k
 |.inr x=>hashStr w x
def EC:∀ {k:Key} {v:VL},lE k v=true->(∃i t,k=Sum.inl i/\v=Value.int i t)\/(∃x t,k=Sum.inr x/\v=Value.str x t)
 |.inl i,v,h=>by
  obtain⟨t,e⟩:=Value.isInt_shape (k:=i) (v:=v) h;exact .inl ⟨i,t,rfl,e⟩
 |.inr x,v,h=>by
  obtain⟨t,e⟩:=Value.isStrOf_shape (x:=x) (v:=v) h;exact .inr ⟨x,t,rfl,e⟩
def rz(a b:Int):decide ((Sum.inl a:Key)=Sum.inl b)=(a==b):=by
 by_cases e:a=b
 .subst e;simp
 .have h:¬(Sum.inl a:Key)=Sum.inl b:=fun q=>e (Sum.inl.inj q);rw[decide_eq_false h];exact(beq_eq_false_iff_ne.mpr e).symm
def oe(a b:Str):decide ((Sum.inr a:Key)=Sum.inr b)=decide (a=b):=by
 by_cases e:a=b
 .subst e;simp
 .have h:¬(Sum.inr a:Key)=Sum.inr b:=fun q=>e (Sum.inr.inj q);rw[decide_eq_false h,decide_eq_false e]
def rN(a:Int)(b:Str):decide ((Sum.inl a:Key)=Sum.inr b)=false:=bF (fun q=>nomatch q)
def qL(a:Str)(b:Int):decide ((Sum.inr a:Key)=Sum.inl b)=false:=bF (fun q=>nomatch q)
def ZK(prog:FS)(w:IO):PySem.KeyKind prog w Key where
 is:=lE
 hash:=wI w
 inj:=fun v a b ha hb=>by
  rcases EC ha with ⟨i,t,rfl,rfl⟩|⟨x,t,rfl,rfl⟩
  .rcases EC hb with ⟨j,u,rfl,e⟩|⟨y,u,rfl,e⟩
   .injection e with e1 _;rw[e1]
   .exact nomatch e
  .rcases EC hb with ⟨j,u,rfl,e⟩|⟨y,u,rfl,e⟩
   .exact nomatch e
   .injection e with e1 _;rw[e1]
 byValue:=fun k v h=>by
  rcases EC h with ⟨i,t,rfl,rfl⟩|⟨x,t,rfl,rfl⟩<;>rfl
 pyHash:=fun hv h=>by
  rcases EC hv with ⟨i,t,rfl,rfl⟩|⟨x,t,rfl,rfl⟩
  .exact wpAny_pyHash_int h
  .exact wpAny_pyHash_str h
 eqBool:=fun hu hv h=>by
  rcases EC hu with ⟨i,t,rfl,rfl⟩|⟨x,t,rfl,rfl⟩
  .rcases EC hv with ⟨j,u,rfl,rfl⟩|⟨y,u,rfl,rfl⟩
   .rw[rz]at h;exact wpAny_eqBool_int h
   .rw[rN]at h;exact SeqAt.EqAt.int_str i t y u _ _ _ _ h
  .rcases EC hv with ⟨j,u,rfl,rfl⟩|⟨y,u,rfl,rfl⟩
   .rw[qL]at h;exact SeqAt.EqAt.str_int x t j u _ _ _ _ h
   .rw[oe]at h;exact wpAny_eqBool_str h
 «strs»:=fun k x t v h=>by
  rcases EC h with ⟨i,u,rfl,e⟩|⟨y,u,rfl,e⟩
  .exact nomatch e
  .injection e with e1 _
   subst e1;cases v<;>rfl
inductive V where
 |BN|bl (b:Bool)|int (i:Int)|str (x:Str)|Pa (b:Array UInt8)|a9 (b:UInt64)|ref (a:Addr)|ty (n:zAG)
 deriving DecidableEq
abbrev yb:=List V
def RelV:V->VL->Prop
 |.BN,u=>u=Value.none
 |.bl b,u=>u=Value.bool b
 |.int i,u=>∃t,u=Value.int i t
 |.str x,u=>∃t,u=Value.str x t
 |.Pa b,u=>∃t,u=Value.bytes b t
 |.a9 b,u=>∃t,u=Value.float b t
 |.ref a,u=>u=Value.ref a
 |.ty n,u=>u=Value.type n
abbrev Vals:List V->List VL->Prop:=Paired RelV
def Vals.length{xs:yb}{us:yN}(r:Vals xs us):xs.length=us.length:=Paired.length r
def Vals.get:∀ {xs:Jh} {us:LY} {i:Nat} {x:V},Vals xs us->xs[i]? = some x->∃u,us[i]? = some u/\RelV x u
 |_,_,_,_,.nil,e=>by simp at e
 |_,_,0,_,.cons r _,e=>by simp at e;subst e;exact⟨_,rfl,r⟩
 |_,_,i+1,x,.cons _ t,e=>by
  obtain⟨u,R,g⟩:=Vals.get (i:=i) (x:=x) t x0;exact⟨u,by simpa using R,g⟩
def Vals.set{x:V}{u:VL}(r:RelV x u):∀ {xs:Jh} {us:LY} (i:Nat),Vals xs us->Vals (xs.set i x) (us.set i u)
 |_,_,_,.nil=>.nil
 |_,_,0,.cons _ t=>.cons r t
 |_,_,i+1,.cons q t=>.cons q (Vals.set r i t)
def Vals.append:∀ {xs ys:Jh} {us ws:LY},Vals xs us->Vals ys ws->Vals (xs++ys) (us++ws)
 |_,_,_,_,.nil,s=>s
 |_,_,_,_,.cons r t,s=>.cons r (Vals.append t s)
def Vals.take:∀ {xs:Jh} {us:LY} (n:Nat),Vals xs us->Vals (xs.take n) (us.take n)
 |_,_,0,_=>.nil
 |_,_,_+1,.nil=>.nil
 |_,_,n+1,.cons r t=>.cons r (Vals.take n t)
def Vals.drop:∀ {xs:Jh} {us:LY} (n:Nat),Vals xs us->Vals (xs.drop n) (us.drop n)
 |_,_,0,r=>r
 |_,_,_+1,.nil=>.nil
 |_,_,n+1,.cons _ t=>Vals.drop n t
def ic:Option V->Option VL->Prop
 |some v,some u=>RelV v u
 |none,none=>True
 |_,_=>False
def KV{κ:Type}:List (κ×V)->List (κ×VL)->Prop:=Paired fun(p:κ×V) (q:κ×VL)=>p.1=q.1/\RelV p.2 q.2
def kV:Key->V
 |.inl i=>.int i
 |.inr x=>.str x
inductive HO where
 |lst (xs:Jh)
 |tup (xs:Jh)
 |dK (kvs:List (Key×V))|dT (kvs:List (List Key×V))
 |set (S:Int->Bool) (n:Nat)
 |ins (C dx:Addr) (fs:List (Str×V))
 |own (x:Addr)
 |xd (fs:List (Str×V))
 |met (f x:Addr)
 |pS (lo hi:Int)
 |GD (o:Obj) (u:HO)
 |TF (ps:Array Value)
 |ext (φ:Heap->Prop)
abbrev Hp:=AD->Option HO
def upd(H:Hp)(a:AD)(o:HO):Hp:=fun b=>if b=a then some o else H b
def AO{H:Hp}{a:AD}{o:HO}:upd H a o a=some o:=by unfold upd;rw[if_pos rfl]
def AL{H:Hp}{a b:AD}{o:HO}(h:b≠a):upd H a o b=H b:=by unfold upd;rw[if_neg h]
def dW{H:Hp}{a b:AD}{o u:HO}(h:H a=some o)(h':H b=some u)(d:o≠u):a≠b:=by
 intro e;subst e;rw[h]at h';exact d (ah h')
def Aa{H:Hp}{a b:AD}{o:HO}(h:H a=some o)(h':H b=none):a≠b:=by
 intro e;subst e;rw[h]at h';cases h'
section
variable(P:FS)(w:IO)
def EE(H:Hp)(h:Heap)(a:AD):HO->Prop
 |.lst xs=>xs.length<=sizeLine/\∃(g:LY) (n:Nat),Vals xs g/\h.get? a=some { cls:=.type "list",data:=.seq g.toArray n}
 |.tup xs=>xs.length<=sizeLine/\∃g:List VL,Vals xs g/\IsTup h a g.toArray
 |.dK kvs=>kvs.length<=sizeLine/\(a==sysModules)=false/\∃vs,KV kvs vs/\h.DictOf (ZK P w) a vs
 |.dT kvs=>kvs.length<=sizeLine/\(a==sysModules)=false/\∃xs:List (List Key×AD×VL),
   Paired (fun(p:List Key×V) (q:List Key×AD×VL)=>p.1=q.1/\H q.2.1=some (.tup (p.1.map kV))/\RelV p.2 q.2.2) kvs xs /\
   ∃o es ep,h.get? a=some o/\o.ExactDict/\o.data=.dict es ep/\es.toList=xs.map (entryOfKey (tupleKind (ZK P w)))/\(xs.map Nh).Nodup
 |.set S n=>h.SetOf (intKind P w) a S n
 |.ins C dx fs=>H dx=some (.own a)/\fs.length<=1000/\dx≠a/\h.get? a=some (PySem.W.instObj C dx) /\
   ∃mA,h.Ns1 dx mA/\(∀f,ic (fs.lookup f) (mA f))/\PySem.Within mA (fs.map Nh)
 |.own _=>∃o,h.get? a=some o
 |.xd fs=>∃mA,h.Ns1 a mA/\∀f,ic (fs.lookup f) (mA f)
 |.pS lo hi=>∃t u v,h.get? a=some { cls:=.type "range",data:=.fields #[.int lo t,.int hi u,.int 1 v]}
 |.GD o u=>h.get? a=some o/\EE H h a u
 |.TF ps=>h.get? a=some { cls:=.none,data:=.fields ps}
 |.met f x=>h.get? a=some (PySem.W.methodObj zBy (.ref x))
 |.ext φ=>φ h/\(∃o,h.get? a=some o)/\∀T R:Heap,φ T->(∀o,T.get? a=some o->R.get? a=some o)->φ R
def F8(H:Hp)(h:Heap):Prop:=∀a o,H a=some o->EE P w H h a o
end
section
variable{P:FS}{w:IO}{H H':Hp}{h h':Heap}{a:AD}{o:HO}
def EE.lt(x:EE P w H h a o):a<h.objs.size:=by
 cases o with
 |lst xs=>obtain⟨_,_,_,_,e⟩:=x;exact aF e
 |tup xs=>obtain⟨_,_,_,p⟩:=x;exact p.lt
 |dK kvs=>obtain⟨_,_,_,_,o,_,_,e,_⟩:=x;exact aF e
 |dT kvs=>obtain⟨_,_,_,_,o,_,_,e,_⟩:=x;exact aF e
 |set S n=>obtain⟨o,_,_,_,e,_⟩:=x;exact aF e
 |ins C dx fs=>obtain⟨_,_,_,e,_⟩:=x;exact aF e
 |own y=>obtain⟨_,e⟩:=x;exact aF e
 |xd fs=>obtain⟨_,⟨_,_,_,e,_⟩,_⟩:=x;exact aF e
 |pS lo hi=>obtain⟨_,_,_,e⟩:=x;exact aF e
 |GD ob u=>obtain⟨e,_⟩:=x;exact aF e
 |TF ps=>exact aF (show h.get? a=some _ from x)
 |met f y=>exact aF (show h.get? a=some _ from x)
 |ext φ=>obtain⟨_,⟨_,e⟩,_⟩:=x;exact aF e
def Paired.rZ{α g:Type}{F G:α->g->Prop}:∀ {l₁:lX} {l₂:List g},Paired F l₁ l₂->(∀a b,F a b->G a b)->Paired G l₁ l₂
 |_,_,.nil,_=>.nil
 |_,_,.cons r t,f=>.cons (f _ _ r) (Paired.rZ t f)
def EE.Jy(x:EE P w H h a o)(k:∀b u,(b=a\/H b=some (.own a))->h.get? b=some u->h'.get? b=some u) (U:∀b,H b=some (.own a)->H' b=some (.own a))(T:∀b xs,H b=some LE->H' b=some LE):EE P w H' h' a o:=by
 induction o with
 |lst xs=>obtain⟨z,g,n,r,e⟩:=x;exact⟨z,g,n,r,k _ _ SZ e⟩
 |tup xs=>obtain⟨z,g,r,ob,e,c⟩:=x;exact⟨z,g,r,ob,k _ _ SZ e,c⟩
 |dK kvs=>obtain⟨z,y,vs,r,ob,es,ep,e,c⟩:=x;exact⟨z,y,vs,r,ob,es,ep,k _ _ SZ e,c⟩
 |dT kvs=>
  obtain⟨z,y,xs,r,ob,es,ep,e,c⟩:=x;exact⟨z,y,xs,Paired.rZ r fun p q z=>⟨z.1,T _ _ z.2.1,z.2.2⟩,ob,es,ep,k _ _ SZ e,c⟩
 |set S n=>obtain⟨ob,es,ep,t,e,c⟩:=x;exact⟨ob,es,ep,t,k _ _ SZ e,c⟩
 |ins C dx fs=>
  obtain⟨d,z,ne,e,mA,⟨od,es,ep,Y,c⟩,r⟩:=x;exact⟨U _ d,z,ne,k _ _ SZ e,mA,⟨od,es,ep,k _ _ (.inr d) Y,c⟩,r⟩
 |own y=>obtain⟨ob,e⟩:=x;exact⟨ob,k _ _ SZ e⟩
 |xd fs=>obtain⟨mA,⟨od,es,ep,e,c⟩,r⟩:=x;exact⟨mA,⟨od,es,ep,k _ _ SZ e,c⟩,r⟩
 |pS lo hi=>obtain⟨t,u,v,e⟩:=x;exact⟨t,u,v,k _ _ SZ e⟩
 |GD ob u R=>obtain⟨e,q⟩:=x;exact⟨k _ _ SZ e,R q⟩
 |TF ps=>
  have e:h.get? a=some { cls:=.none,data:=.fields ps}:=x;show h'.get? a=some { cls:=.none,data:=.fields ps};exact k a _ SZ e
 |met f y=>
  have e:h.get? a=some (PySem.W.methodObj zBy (.ref y)):=x;show h'.get? a=some (PySem.W.methodObj zBy (.ref y));exact k a _ SZ e
 |ext φ=>obtain⟨p,⟨o,e⟩,st⟩:=x;exact⟨st _ _ p fun o q=>k _ _ SZ q,⟨o,k _ _ SZ e⟩,st⟩
def F8.lt(x:F8 P w H h)(e:H a=some o):a<h.objs.size:=(x a o e).lt
def F8.fresh(x:F8 P w H h)(e:h.objs.size<=a):H a=none:=by
 cases q:H a with
 |none=>rfl
 |some u=>exact absurd (aI (x.lt q) e) zBF
def F8.kept(x:F8 P w H h)(k:yI):F8 P w H h':=fun a o e=>
 (x a o e).Jy (fun b u _ q=>k b u q) (fun _ q=>q) fun _ _ q=>q
def F8.laid(x:F8 P w H h)(k:yI)(R:h.objs.size<=a)(new:EE P w (upd H a o) h' a o):F8 P w (upd H a o) h':=fun b u e=>by
 have hn:=x.fresh R;by_cases g:b=a
 .subst g;rw[AO]at e;cases e;exact new
 .rw[AL g]at e;exact(x b u e).Jy (fun c v _ q=>k c v q) (fun c q=>by rw[AL (Aa q hn)];exact q) fun c xs q=>by rw[AL (Aa q hn)];exact q
end
def Rd(H:Hp)(a:AD)(u:HO):Prop:=H a=some u\/∃o,H a=some (.GD o u)
def Rd.ok{P:FS}{w:IO}{H:Hp}{h:Heap}{a:AD}{u:HO}(r:Rd H a u)(x:F8 P w H h):EE P w H h a u:=by
 rcases r with r|⟨o,r⟩
 .exact x a u r
 .obtain⟨_,q⟩:=x a _ r;exact q
def kW:Option HO->Prop
 |some (.lst _)=>True
 |some (.dK _)=>True
 |some (.dT _)=>True
 |some (.set _ _)=>True
 |some (.ins _ _ _)=>True
 |some (.ext _)=>True
 |_=>False
section
variable{P:FS}{w:IO}{H:Hp}{h h':Heap}{x e:AD}{o':HO}
def F8.write(ok:F8 P w H h)(T:kW (H x))(he:e=x\/H e=some (.own x))(k:zFY)(Z:∃u,h'.get? e=some u) (new:EE P w (upd H x o') h' x o'):F8 P w (upd H x o') h':=fun b u q=>by
 have R:∀c y,H c=some (.own y)->c≠x:=fun c y r z=>by subst z;rw[r]at T;exact T
 have Wy:∀c xs,H c=some LE->c≠x:=fun c xs r z=>by subst z;rw[r]at T;exact T
 by_cases Y:b=x
 .subst Y;rw[AO]at q;cases q;exact new
 .rw[AL Y]at q;by_cases g:b=e
  .have q':H b=some (.own x):=by
    rcases he with z|z
    .exact absurd (g.trans z) Y
    .rw[g];exact z
   rw[q]at q';cases q';obtain⟨v,hv⟩:=Z;exact⟨v,by rw[g];exact hv⟩
  .refine(ok b u q).Jy (fun c v U r=>k c v ?_ r) (fun c r=>by rw[AL (R c b r)];exact r) fun c xs r=>by rw[AL (Wy c xs r)];exact r
   rcases U with rfl|U
   .exact g
   .rintro rfl;rcases he with z|z
    .exact R c b U z
    .rw[U]at z;cases z;exact Y rfl
end
structure Un(fs ex:List Addr)(H H':Hp)(h h':Heap):Prop where
 keep:∀b o,h.get? b=some o->H b=none->b ∉ fs->b ∉ ex->h'.get? b=some o
 slot:∀b o,h.get? b=some o->H b=none->b∈fs->b ∉ ex->∃sl,h'.get? b=some {o with slots:=sl}
 free:∀b o,h.get? b=some o->H b=none->b ∉ ex->H' b=none
 there:∀b o,h.get? b=some o->b ∉ ex->∃o',h'.get? b=some o'
 BF:∀b xs,H b=some LE->H' b=some LE
 Ie:∀b o u,H b=some (.GD o u)->H' b=some (.GD o u)
 Jl:∀b ps,H b=some (.TF ps)->∃more,H' b=some (.TF (ps++more))
 Jr:∀b xs o,H b=some LE->h.get? b=some o->b ∉ ex->h'.get? b=some o
section
variable{fs ex:yd}{H H1:Hp}{h h1 h':Heap}{a x e:AD}{o:HO}
def Un.any(u:Un fs ex H H1 h h1){b:AD}{ob:Obj}(q:h.get? b=some ob)(n:H b=none)(g:b ∉ ex):∃sl,h1.get? b=some {ob with slots:=sl}:=by
 by_cases R:b∈fs
 .exact u.slot b ob q n R g
 .exact⟨ob.slots,u.keep b ob q n R g⟩
def Un.kept(k:yI):Un fs ex H H h h' :=
 ⟨fun b ob q _ _ _=>k b ob q,fun b ob q _ _ _=>⟨ob.slots,k b ob q⟩,fun _ _ _ n _=>n,fun b ob q _=>⟨ob,k b ob q⟩,fun _ _ q=>q,fun _ _ _ q=>q,fun _ ps q=>⟨#[],by rw[q];simp⟩,fun _ _ ob _ e _=>k _ ob e⟩
def Un.refl:Un fs ex H H h h:=Un.kept fun _ _ q=>q
def Un.laid(k:yI)(hp:h.objs.size<=a)(hn:H a=none):Un fs ex H (upd H a o) h h' where
 keep:=fun b u q _ _ _=>k b u q
 slot:=fun b u q _ _ _=>⟨u.slots,k b u q⟩
 free:=fun b u q n _=>by rw[AL (aG (aI (aF q) hp))];exact n
 there:=fun b u q _=>⟨u,k b u q⟩
 BF:=fun b xs q=>by rw[AL (Aa q hn)];exact q
 Ie:=fun b u xs q=>by rw[AL (Aa q hn)];exact q
 Jl:=fun b ps q=>⟨#[],by rw[AL (Aa q hn),q];simp⟩
 Jr:=fun b _ u _ e _=>k b u e
def Un.write(R:kW (H x))(Y:e=x\/H e=some (.own x))(k:zFY)(T:∃u,h'.get? e=some u):Un fs ex H (upd H x o) h h':=by
 have U:∀b,H b=none->b≠x:=fun b n z=>by subst z;rw[n]at R;exact R
 have Z:∀b,H b=none->b≠e:=fun b n z=>by
  subst z;rcases Y with r|r
  .exact U b n r
  .rw[n]at r;cases r
 have hm:∀b u,H b=some u->¬kW (some u)->b≠x:=fun b u q nm z=>by subst z;rw[q]at R;exact nm R
 refine⟨fun b u q n _ _=>k b u (Z b n) q,fun b u q n _ _=>⟨u.slots,k b u (Z b n) q⟩,fun b u q n _=>by rw[AL (U b n)];exact n,fun b u q _=>?_,
  fun b xs q=>by rw[AL (hm b _ q fun z=>z)];exact q,fun b u xs q=>by rw[AL (hm b _ q fun z=>z)];exact q,fun b ps q=>⟨#[],by rw[AL (hm b _ q fun z=>z),q];simp⟩,fun b xs u q e _=>k b u (fun z=>by
   rcases Y with r|r
   .exact hm b _ q (fun z=>z) (z.trans r)
   .rw[<-z,q]at r;cases r) e⟩
 by_cases g:b=e
 .subst g;exact T
 .exact⟨u,k b u g q⟩
end
def GX(h:Heap)(H:Hp):yd:=(List.range h.objs.size).filter fun a=>(H a).isSome
def N2(h:Heap)(H:Hp):Heap:=PySem.W.hideAll h (GX h H)
def eo(h:Heap)(H:Hp):(N2 h H).objs.size=h.objs.size:=PySem.W.hideAll_size _ _
def i4{h:Heap}{H:Hp}{b:AD}{o:Obj}(e:h.get? b=some o)(n:H b=none):(N2 h H).get? b=some o :=
 PySem.W.hideAll_get _ e fun hm=>by
  have q:(H b).isSome=true:=(List.mem_filter.mp hm).2;rw[n]at q;simp at q
def nK{h:Heap}{H:Hp}{b:AD}{o:Obj}(e:(N2 h H).get? b=some o):h.get? b=some o/\H b=none:=by
 have g:h.get? b=some o:=PySem.W.of_hideAll (GX h H) e;refine⟨g,?_⟩;cases q:H b with
 |none=>rfl
 |some x=>
  have hm:b∈GX h H:=List.mem_filter.mpr ⟨bV.mpr (aF g),by simp[q]⟩;have z:(N2 h H).get? b=none:=PySem.W.hideAll_none (GX h H) hm;rw[z]at e;cases e
structure Mod(K:Fg)(mg:zBQ)(base:Heap):Prop where
 Tj:K.In base
 glob:base.Ns mainGlobals mg
 blt:∃mb,base.Ns builtinsNs mb/\∀x:Str,x ≠ "__name__" -> mb x=bootBuiltins x
 nolimit:base.NoLimit
def xx(d:Nat):List yb:=[[],[.ref (d+1)],[.int 1,.int 1],[.ref (d+3)],[.ref (d+2),.ref (d+4)],[],[.int 1,.int 2],[.ref (d+7)],[.ref (d+6),.ref (d+8)],[.int 0,.int 1],[.int 1,.int 1],[.ref (d+10),.ref (d+11)],[.ref (d+9),.ref (d+12)],[],[.int 1,.int 1],[.ref (d+15)],[.ref (d+14),.ref (d+16)],[.int 1,.int 2],[.int 1,.int 2],[.ref (d+18),.ref (d+19)],[.ref (d+17),.ref (d+20)],[],[.int 1,.int 3],[.ref (d+23)],[.int 0,.int 1],[.int 2,.int 3],[.ref (d+25),.ref (d+26)],[.ref (d+22),.ref (d+24),.ref (d+27)],[.int 1,.int 4],[.int 0,.int 1],[.int 3,.int 4],[.ref (d+29),.ref (d+30),.ref (d+31)],[.ref (d+28),.ref (d+32)],[],[.int 1,.int 2],[.ref (d+35)],[.int 0,.int 1],[.int 1,.int 2],[.ref (d+37),.ref (d+38)],[.int 0,.int 1],[.int 0,.int 1],[.int 1,.int 1],[.ref (d+40),.ref (d+41),.ref (d+42)],[.ref (d+34),.ref (d+36),.ref (d+39),.ref (d+43)],[.int 1,.int 6],[.int 1,.int 3],[.int 1,.int 3],[.int 1,.int 6],[.ref (d+45),.ref (d+46),.ref (d+47),.ref (d+48)],[.ref (d+44),.ref (d+49)]]
def xy(d:Nat):List (Key×V):=[(.inr "plain",.ref (d+5)),(.inr "middle",.ref (d+13)),(.inr "heel",.ref (d+21)),(.inr "third",.ref (d+33)),(.inr "fourth",.ref (d+50))]
def KTb(mg:yP)(H:Hp):Prop:=∀d:AD,mg "NAMED_TABLES" = some zDm->(∃o,H d=some (.GD o (.dK (xy d))))/\∀j xs,(xx d)[j]? = some xs->H (d+1+j)=some LE
def KTb.un{mg:yP}{fs ex:yd}{H H':Hp}{h h':Heap}(k:KTb mg H)(u:Un fs ex H H' h h'):KTb mg H':=fun d e=>by
 obtain⟨⟨o,R⟩,g⟩:=k d e;exact⟨⟨o,u.Ie _ _ _ R⟩,fun j xs q=>u.BF _ _ (g j xs q)⟩
structure Cx where
 prog:Program
 w:World
 K:Fg
 mg:Str->Option Value
 base:Heap
 A:Around
 N:List Str
 s₀:Shared
 H₀:Hp
 env:Env
 outer:List Env
 stack:List Env
 ex:List Addr
 fn:Str->Bool
 calm:Bool
 pn:List (Addr×Obj)
 xe:Value->Shared->Prop
def Hu(l:yf):yd:=l.filterMap (·.frame)
abbrev Cx.fs(X:Cx):List AD:=Hu X.outer
def pZ(sc:zAm)(x:Str):Prop:=sc.names.lookup x=some .local\/sc.names.lookup x=some .cell\/sc.names.lookup x=some .free
def Loc(sc:zAm)(x:Str):Prop:=sc.names.lookup x=some .local\/sc.names.lookup x=some .cell
def Look(env:Env)(h:Heap)(m:yP)(x:Str)(u:VL):Prop :=
 (env.kindOf x=some .local/\m x=some u)\/((env.kindOf x=some .cell\/env.kindOf x=some .free)/\∃c,env.cells.lookup x=some c/\h.IsCell c (some u))
structure Cx.Ok(X:Cx):Prop where
 mod:Mod X.K X.mg X.base
 kind:X.env.scope.kind=.function
 glob:X.env.globals=mainGlobals
 blt:X.env.builtins=builtinsNs
 above:X.s₀.heap.objs.size<=X.env.locals
 inj:∀x y c,X.env.cells.lookup x=some c->X.env.cells.lookup y=some c->x=y
 has:∀x,(X.env.kindOf x=some .cell\/X.env.kindOf x=some .free)->∃c,X.env.cells.lookup x=some c
 Zq:∀x c,X.fn x=true->X.env.cells.lookup x=some c->X.s₀.heap.objs.size<=c
 hd:X.calm=true->X.A.handled=none
 frames:X.A.frames=some X.stack
 lF:X.stack=X.outer\/(X.stack=X.env::X.outer/\X.env.frame=some X.env.locals)
 vd:∀b∈X.ex,b≠X.env.locals/\∀x c,X.env.cells.lookup x=some c->c≠b
 bs:∀b o,X.base.get? b=some o->X.s₀.heap.get? b=some o/\X.H₀ b=none
 VZ:X.base.objs.size<=X.s₀.heap.objs.size
 XO:∀b o,X.base.get? b=some o->b ∉ X.ex
 XB:∀b∈X.ex,b ∉ X.fs
 Jn:X.s₀.heap.FunFrames X.base X.outer
 Vm:∀b∈X.fs,X.H₀ b=none
 kt:KTb X.mg X.H₀
structure Inv(X:Cx)(pins:List (Addr×Obj))(σ:List (Option V))(H:Hp)(s:Shared):Prop where
 ok:X.Ok
 os:s.os=X.s₀.os
 bare:AllBare s.gens
 base:Un X.fs X.ex X.H₀ H X.s₀.heap s.heap
 loc:∃m,s.heap.Ns X.env.locals m/\∀(i:Nat) (x:Str) (v:V),X.N[i]? = some x->σ[i]? = some zBT->pZ X.env.scope x->∃u,RelV v u/\Look X.env s.heap m x u
 cell:∀x c,X.env.cells.lookup x=some c->∃v,s.heap.IsCell c v
 free:H X.env.locals=none
 KL:∀x c,X.env.cells.lookup x=some c->H c=none
 pin:∀p∈X.pn++pins,s.heap.get? p.1=some p.2/\H p.1=none/\p.1≠X.env.locals/\p.1 ∉ X.fs/\∀v,p.2.data≠.cell v
 A5:F8 X.prog X.w H s.heap
 len:σ.length=X.N.length
def Inv.kt{X:Cx}{pins:DH}{σ:List (Option V)}{H:Hp}{s:SD}(I:By):KTb X.mg H:=I.ok.kt.un I.base
section
variable{X:Cx}{pins:DH}{σ:List (Option V)}{H H':Hp}{s:SD}{h':Heap}
def Cx.Ok.xV(ok:X.Ok){b:AD}{o:Obj}(e:X.base.get? b=some o):b ∉ X.fs:=fun g=>by
 have:=(ok.Jn.mem g).1;rw[e]at this;cases this
def Inv.bs(I:By):∀b o,X.base.get? b=some o->s.heap.get? b=some o/\H b=none:=fun b o e=>
 ⟨I.base.keep b o (I.ok.bs b o e).1 (I.ok.bs b o e).2 (I.ok.xV e) (I.ok.XO b o e),I.base.free b o (I.ok.bs b o e).1 (I.ok.bs b o e).2 (I.ok.XO b o e)⟩
def Inv.bk(I:By):∀b o,X.base.get? b=some o->s.heap.get? b=some o:=fun b o e=>(I.bs b o e).1
def Inv.mod(I:By):Mod X.K X.mg X.base:=I.ok.mod
def Inv.Kd(I:By):X.K.In s.heap:=I.ok.mod.Tj.keeps I.bk
def Inv.lt(I:By):X.env.locals<s.heap.objs.size:=let⟨_,hn,_⟩:=I.loc;hn.lt
def Inv.sz(I:By):X.s₀.heap.objs.size<=s.heap.objs.size:=aT I.ok.above (bG I.lt)
def Inv.wY(I:By){a:AD}(h:s.heap.objs.size<=a):a ∉ X.fs:=fun R=>by
 obtain⟨_,o,g,_⟩:=I.ok.Jn.mem R;exact absurd (aI (aF g) (aT I.sz h)) zBF
def Inv.WX(I:By):∀x c,X.env.cells.lookup x=some c->c≠X.env.locals:=fun x c e z=>by
 obtain⟨v,o,T,hd⟩:=I.cell x c e;obtain⟨m,⟨o',es,ep,g,R,_⟩,_⟩:=I.loc;rw[z,g]at T;cases T;rw[R]at hd;cases hd
def Inv.Jn(I:By):s.heap.FunFrames X.base X.outer:=by
 have all:∀(l:List Env),(∀b∈Hu l,b∈X.fs)->X.s₀.heap.FunFrames X.base l->s.heap.FunFrames X.base l:=by
  intro l
  induction l with
  |nil=>intro _ _;trivial
  |cons env r Y=>
   intro U hl;obtain⟨hk,⟨L,o,g,hn,ho,hd⟩,Z⟩:=hl;have T:L∈X.fs:=U L (by unfold Hu;rw[List.filterMap_cons,g];exact aX);obtain⟨sl,e⟩:=I.base.slot L o ho (I.ok.Vm L T) T fun z=>I.ok.XB L z T;exact⟨hk,⟨L,_,g,hn,e,hd⟩,Y (fun b R=>U b (by unfold Hu;rw[List.filterMap_cons,g];exact aU _ R)) Z⟩
 exact all X.outer (fun _ R=>R) I.ok.Jn
def Inv.stack(I:By):s.heap.FunFrames X.base X.stack:=by
 rcases I.ok.lF with e|⟨e,g⟩
 .rw[e];exact I.Jn
 .rw[e];obtain⟨m,hn,_⟩:=I.loc;refine .cons (by rw[I.ok.kind];decide) g hn ?_ I.Jn;exact Heap.get?_none_of_le (aT I.ok.VZ I.ok.above)
def Inv.P8(I:By):∀b∈Hu X.stack,b∈X.env.locals::X.fs:=fun b g=>by
 rcases I.ok.lF with e|⟨e,R⟩
 .rw[e]at g;exact aU _ g
 .rw[e]at g;unfold Hu at g;rw[List.filterMap_cons,R]at g;exact g
def Inv.UL(I:By):∀b∈Hu X.stack,H b=none:=fun b g=>by
 rcases aM.mp (I.P8 b g) with e|g
 .rw[e];exact I.free
 .obtain⟨_,o,R,_⟩:=I.ok.Jn.mem g;exact I.base.free b o R (I.ok.Vm b g) fun z=>I.ok.XB b z g
def Inv.step{g':Array GenState}{t':Nat}{d':Drawn}{ch:yd}(I:By) (U:MX) (keep:∀b o,b≠X.env.locals->b ∉ X.fs->b ∉ ch->s.heap.get? b=some o->H b=none->h'.get? b=some o) (slot:∀b o,b≠X.env.locals->b∈X.fs->b ∉ ch->s.heap.get? b=some o->H b=none->∃sl,h'.get? b=some {o with slots:=sl})(free:∀b o,b ∉ ch->s.heap.get? b=some o->H b=none->H' b=none) (there:∀b o,b ∉ ch->s.heap.get? b=some o->∃o',h'.get? b=some o') (BF:∀b xs,H b=some LE->H' b=some LE)(Ie:∀b o u,H b=some (.GD o u)->H' b=some (.GD o u))(Jl:∀b ps,H b=some (.TF ps)->∃more,H' b=some (.TF (ps++more))) (Jr:∀b xs o,b ∉ ch->H b=some LE->s.heap.get? b=some o->h'.get? b=some o) (ns:∀m,s.heap.Ns X.env.locals m->h'.Ns X.env.locals m)(A5:F8 X.prog X.w H' h')(hg:AllBare g'):Inv X pins σ H' {s with heap:=h',gens:=g',drawn:=d',toks:=t'}:=by
 have neL:∀b o,X.s₀.heap.get? b=some o->b≠X.env.locals:=fun b o e=>aG zGf;have R:∀b o,X.s₀.heap.get? b=some o->b ∉ X.ex->b ∉ ch:=fun b o e g Z=>by
  rcases(U b Z).1 with z|z
  .exact g z
  .exact absurd (aI z0 z) zBF
 have cellK:∀x c,X.env.cells.lookup x=some c->∀v,s.heap.IsCell c v->h'.IsCell c v:=fun x c e v ⟨o,ho,hd⟩=>by
  have T:c ∉ ch:=fun z=>(U c z).2.2.1 x c e rfl;by_cases hc:c∈X.fs
  .obtain⟨sl,q⟩:=slot c o (I.WX x c e) hc T ho (I.KL x c e);exact⟨_,q,hd⟩
  .exact⟨o,keep c o (I.WX x c e) hc T ho (I.KL x c e),hd⟩
 refine⟨I.ok,I.os,hg,⟨fun b o e n Z g=>?_,fun b o e n Z g=>?_,fun b o e n g=>?_,fun b o e g=>?_,fun b xs e=>BF b xs (I.base.BF b xs e),fun b o xs e=>Ie b o xs (I.base.Ie b o xs e),fun b ps e=>?_,fun b xs o q e g=>Jr b xs o (R b o e g) zEn (I.base.Jr b xs o q e g)⟩,?_,fun x c e=>?_,?_,fun x c e=>?_,fun p hp=>?_,A5,I.len⟩
 .exact keep b o (neL b o e) Z (R b o e g) (I.base.keep b o e n Z g) (I.base.free b o e n g)
 .obtain⟨sl,Y⟩:=I.base.slot b o e n Z g;obtain⟨sl',e2⟩:=slot b _ (neL b o e) Z (R b o e g) Y (I.base.free b o e n g);exact⟨sl',e2⟩
 .obtain⟨o',Y⟩:=I.base.there b o e g;exact free b o' (R b o e g) Y (I.base.free b o e n g)
 .obtain⟨o',Y⟩:=I.base.there b o e g;exact there b o' (R b o e g) Y
 .obtain⟨m1,Y⟩:=I.base.Jl b ps e;obtain⟨m2,e2⟩:=Jl b _ Y;exact⟨m1++m2,by rw[e2,Array.append_assoc]⟩
 .obtain⟨m,hn,hl⟩:=I.loc;refine⟨m,ns m hn,fun i x v Y e2 e3=>?_⟩;obtain⟨u,r,l⟩:=hl i x v Y e2 e3;refine⟨u,r,?_⟩;rcases l with l|⟨k,c,e,z⟩
  .exact .inl l
  .exact .inr ⟨k,c,e,cellK x c e _ z⟩
 .obtain⟨v,z⟩:=I.cell x c e;exact⟨v,cellK x c e v z⟩
 .obtain⟨m,⟨o,_,_,ho,_⟩,_⟩:=I.loc;exact free _ o (fun z=>(U _ z).2.1 rfl) ho I.free
 .obtain⟨v,o,ho,hd⟩:=I.cell x c e;exact free c o (fun z=>(U c z).2.2.1 x c e rfl) ho (I.KL x c e)
 .obtain⟨e,n,ne,nf,d⟩:=I.pin p hp;have T:p.1 ∉ ch:=fun z=>(U p.1 z).2.2.2 p hp rfl;exact⟨keep p.1 p.2 ne nf T e n,free p.1 p.2 T e n,ne,nf,d⟩
def Inv.un{t':Nat}(I:By)(u:Un X.fs [] H H' s.heap h')(A5:F8 X.prog X.w H' h'):Inv X pins σ H' zY:=by
 obtain⟨m,⟨o,es,ep,Y,r⟩,_⟩:=id I.loc;obtain⟨sl,hL⟩:=u.any Y I.free At;exact I.step (g':=s.gens) (d':=s.drawn) (ch:=[]) (fun _ z=>nomatch z) (fun b o _ R _ e n=>u.keep b o e n R At) (fun b o _ R _ e n=>u.slot b o e n R At) (fun b o _ e n=>u.free b o e n At) (fun b o _ e=>u.there b o e At) u.BF u.Ie u.Jl (fun b xs o _ q e=>u.Jr b xs o q e At) (fun m' hm=>by
  obtain⟨o',T,U,g,Z⟩:=hm;rw[Y]at g;cases g;exact⟨_,T,U,hL,Z⟩) A5 I.bare
def Inv.call{g':Array GenState}{t':Nat}{d':Drawn}{ch:yd}(I:By)(u:Un (Hu X.stack) ch H H' s.heap h')(A5:F8 X.prog X.w H' h')(hg:AllBare g') (T:MX):Inv X pins σ H' {s with heap:=h',gens:=g',drawn:=d',toks:=t'}:=by
 obtain⟨m,⟨o,es,ep,ho,r⟩,_⟩:=id I.loc;obtain⟨sl,U⟩:=u.any ho I.free fun z=>(T _ z).2.1 rfl;exact I.step (ch:=ch) T (fun b o U hb g e n=>u.keep b o e n (fun z=>(aM.mp (I.P8 b z)).elim U hb) g) (fun b o _ _ g e n=>u.any e n g) (fun b o g e n=>u.free b o e n g) (fun b o g e=>u.there b o e g) u.BF u.Ie u.Jl (fun b xs o g q e=>u.Jr b xs o q e g) (fun m' hm=>by
  obtain⟨o',Y,Z,R,r'⟩:=hm;rw[ho]at R;cases R;exact⟨_,Y,Z,U,r'⟩) A5 hg
def Inv.turned{t':Nat}{it:AD}(I:By)(k:∀b o,b≠it->s.heap.get? b=some o->h'.get? b=some o)(hn:H it=none)(T:it≠X.env.locals) (h1:it∈X.ex\/X.s₀.heap.objs.size<=it)(h2:∀x c,X.env.cells.lookup x=some c->c≠it)(Z:∀p∈X.pn++pins,p.1≠it):Inv X pins σ H zY:=by
 have R:∀b u,H b=some u->b≠it:=fun b u e z=>by rw[z,hn]at e;cases e
 refine I.step (g':=s.gens) (d':=s.drawn) (ch:=[it]) (fun b Y=>?_) (fun b o _ _ g e _=>k b o zCU e) (fun b o _ _ g e _=>⟨o.slots,k b o zCU e⟩) (fun _ _ _ _ n=>n)
  (fun b o g e=>⟨o,k b o zCU e⟩) (fun _ _ e=>e) (fun _ _ _ e=>e) (fun b ps e=>⟨#[],by rw[e];simp⟩) (fun b xs o g _ e=>k b o zCU e) zAL (fun b u e=>?_) I.bare
 .have e:b=it:=by simpa using Y
  subst e;exact⟨h1,T,h2,Z⟩
 .obtain⟨o,es,ep,U,r⟩:=hm;exact⟨o,es,ep,k _ o (Ne.symm T) U,r⟩
 .refine(I.A5 b u e).Jy (fun c v g q=>k c v ?_ q) (fun _ q=>q) fun _ _ q=>q;rcases g with z|z
  .rw[z];exact R b u e
  .exact R c _ z
def Inv.tok(I:By)(t:Nat):Inv X pins σ H {s with toks:=t}:=I.un (h':=s.heap) (t':=t) Un.refl I.A5
def Inv.kept{t':Nat}(I:By)(k:∀b u,s.heap.get? b=some u->h'.get? b=some u):Inv X pins σ H zY:=I.un (Un.kept k) (I.A5.kept k)
def Inv.laid{a:AD}{o:HO}{t':Nat}(I:By)(k:∀b u,s.heap.get? b=some u->h'.get? b=some u)(g:s.heap.objs.size<=a)(new:EE X.prog X.w (upd H a o) h' a o):Inv X pins σ (upd H a o) zY:=I.un (Un.laid k g (I.A5.fresh g)) (I.A5.laid k g new)
def Inv.write{x e:AD}{o:HO}{t':Nat}(I:By)(R:kW (H x))(T:e=x\/H e=some (.own x))(k:∀b u,b≠e->s.heap.get? b=some u->h'.get? b=some u)(g:∃u,h'.get? e=some u) (new:EE X.prog X.w (upd H x o) h' x o):Inv X pins σ (upd H x o) zY:=I.un (Un.write R T k g) (I.A5.write R T k g new)
def Inv.Y7{g:DH}(I:By)(h:∀p∈g,s.heap.get? p.1=some p.2/\H p.1=none/\p.1≠X.env.locals/\p.1 ∉ X.fs/\∀v,p.2.data≠.cell v):Inv X g σ H s :=
 ⟨I.ok,I.os,I.bare,I.base,I.loc,I.cell,I.free,I.KL,fun p R=>(bA.mp R).elim (fun z=>I.pin p (bQ _ z)) (h p),I.A5,I.len⟩
def Wj{N:yU}(g:N.Nodup){i j:Nat}{x:Str}(a:N[i]? = some x)(b:N[j]? = some x):i=j:=by
 obtain⟨Y,T⟩:=aD.mp a;obtain⟨U,R⟩:=aD.mp b;exact(List.getElem_inj g).mp (T.trans R.symm)
def Va{M:Model}{A:Ki}{E:yO}{i:Nat}{x:Str}{v:V}{u:VL}{Q:zDB}(I:By)(hN:zv)(hi:X.N[i]? = some x)(R:y7)(r:RelV v u) (h:∀s',Inv X pins (σ.set i zBT) H s'->(∃a,Heap.SameBut a s.heap s'.heap/\(a=X.env.locals\/X.env.cells.lookup x=some a))->Q () s')(hf:X.fn x=true\/X.env.scope.names.lookup x=some .local:=by first|exact .inl rfl|exact .inr rfl|assumption):wpAny M A (storeName X.env x u) Q E s:=by
 obtain⟨m,hn,hl⟩:=id I.loc;have hcls:(X.env.scope.kind==.class||(X.env.scope.kind==.module&&X.env.locals != X.env.globals))=false:=by rw[I.ok.kind];rfl
 have hiσ:i<σ.length:=by rw[I.len];exact(aD.mp hi).1
 have WX:=I.WX;have tracked:∀ {a:AD} {h':Heap},(∃o,s.heap.get? a=some o/\H a=none)->Heap.SameBut a s.heap h'->F8 X.prog X.w H h':=fun {a h'} ha g b ob e=>by
  obtain⟨_,_,Y⟩:=ha;refine(I.A5 b ob e).Jy (fun c w' U q=>(g.2 c ?_).trans q) (fun _ q=>q) fun _ _ q=>q;rintro rfl;rcases U with rfl|U
  .rw[Y]at e;cases e
  .rw[Y]at U;cases U
 rcases R with hk|hk
 .refine wpAny_storeName_local hk hn (fun h' hn' g=>?_) hcls;obtain⟨oL,_,_,hoL,_⟩:=id hn;refine h _ ⟨I.ok,I.os,I.bare,⟨fun b o e n hb R=>?_,fun b o e n hb R=>?_,I.base.free,fun b o e R=>?_,I.base.BF,I.base.Ie,I.base.Jl,fun b xs o q e R=>(g.2 b (aG zGf)).trans (I.base.Jr b xs o q e R)⟩,⟨_,hn',fun j y v' T e2 e3=>?_⟩,fun y c e=>?_,I.free,I.KL,fun p hp=>?_,tracked ⟨oL,hoL,I.free⟩ g,by simpa using I.len⟩ ⟨_,g,.inl rfl⟩
  .exact(g.2 b (aG zGf)).trans (I.base.keep b o e n hb R)
  .obtain⟨sl,T⟩:=I.base.slot b o e n hb R;exact⟨sl,(g.2 b (aG zGf)).trans T⟩
  .obtain⟨o',T⟩:=I.base.there b o e R;exact⟨o',(g.2 b (aG zGf)).trans T⟩
  .by_cases hj:j=i
   .subst hj;rw[hi]at T;cases T;rw[List.getElem?_set_self hiσ]at e2;cases e2;exact⟨u,r,.inl ⟨hk,by simp⟩⟩
   .rw[List.getElem?_set_ne (Ne.symm hj)]at e2;obtain⟨u',r',q⟩:=hl j y v' T e2 e3;refine⟨u',r',?_⟩;rcases q with ⟨k,e⟩|⟨k,c,e,z⟩
    .refine .inl ⟨k,?_⟩;have:y≠x:=fun e=>hj (Wj hN T (e ▸ hi));simp[this,e]
    .exact .inr ⟨k,c,e,z.sameBut g (WX y c e)⟩
  .obtain⟨w',z⟩:=I.cell y c e;exact⟨w',z.sameBut g (WX y c e)⟩
  .obtain⟨e,n,ne,nf,d⟩:=I.pin p hp;exact⟨(g.2 p.1 ne).trans e,n,ne,nf,d⟩
 .have Z:X.fn x=true:=by
   rcases hf with z|z
   .exact z
   .rw[z]at hk;cases hk
  obtain⟨c,U⟩:=I.ok.has x (.inl hk);obtain⟨w',z⟩:=I.cell x c U;refine wpAny_storeName_cell I.ok.kind hk U z (fun h' hc' g=>?_);obtain⟨oc,hoc,hocd⟩:=id z;refine h M0 ⟨I.ok,I.os,I.bare,⟨fun b o e n hb R=>?_,fun b o e n hb R=>?_,I.base.free,fun b o e R=>?_,I.base.BF,I.base.Ie,I.base.Jl,fun b xs o q e R=>(g.2 b zQ).trans (I.base.Jr b xs o q e R)⟩,⟨m,hn.sameBut g (Ne.symm (WX x c U)),fun j y v' T e2 e3=>?_⟩,fun y c' e=>?_,I.free,I.KL,fun p hp=>?_,tracked ⟨oc,hoc,I.KL x c U⟩ g,by simpa using I.len⟩ ⟨c,g,.inr U⟩
  .exact(g.2 b zQ).trans (I.base.keep b o e n hb R)
  .obtain⟨sl,T⟩:=I.base.slot b o e n hb R;exact⟨sl,(g.2 b zQ).trans T⟩
  .obtain⟨o',T⟩:=I.base.there b o e R;exact⟨o',(g.2 b zQ).trans T⟩
  .by_cases hj:j=i
   .subst hj;rw[hi]at T;cases T;rw[List.getElem?_set_self hiσ]at e2;cases e2;exact⟨u,r,.inr ⟨.inl hk,c,U,hc'⟩⟩
   .rw[List.getElem?_set_ne (Ne.symm hj)]at e2;obtain⟨u',r',q⟩:=hl j y v' T e2 e3;refine⟨u',r',?_⟩;rcases q with q|⟨k,c',e,z'⟩
    .exact .inl q
    .refine .inr ⟨k,c',e,z'.sameBut g ?_⟩;rintro rfl;exact hj (Wj hN T (I.ok.inj _ _ _ e U ▸ hi))
  .by_cases hcc:c'=c
   .subst hcc;exact⟨_,hc'⟩
   .obtain⟨w2,z2⟩:=I.cell y c' e;exact⟨w2,z2.sameBut g hcc⟩
  .obtain⟨e,n,ne,nf,d⟩:=I.pin p hp;refine⟨(g.2 p.1 ?_).trans e,n,ne,nf,d⟩;intro q;rw[q,hoc]at e;have q':oc=p.2:=ah e;exact d w' (by rw[<-q'];exact hocd)
def Oj{M:Model}{A:Ki}{E:yO}{i:Nat}{x:Str}{v:V}{u:VL}{Q:zDB}(I:By)(T:zv)(hi:X.N[i]? = some x)(g:y7)(r:RelV v u) (h:∀s',Inv X pins (σ.set i zBT) H s'->Q () s')(R:X.fn x=true\/X.env.scope.names.lookup x=some .local:=by first|exact .inl rfl|exact .inr rfl|assumption):wpAny M A (storeName X.env x u) Q E s :=
 Va I T hi g r (fun s' U _=>h s' U) R
def Inv.vH{s':SD}{ch:yd}(I:By)(Y:s'.os=s.os)(u:Un (Hu X.stack) ch H H' s.heap s'.heap)(A5:F8 X.prog X.w H' s'.heap)(Z:AllBare s'.gens) (g:MX):Inv X pins σ H' s':=by
 obtain⟨h',T,U,R,o'⟩:=s';have e:o'=s.os:=Y;subst e;exact I.call (g':=T) (t':=R) (d':=U) u A5 Z g
end
abbrev XK:=VL->Option AD->Hp->Prop
abbrev St:=List (Option V)
abbrev VK:=V->Hp->Prop
abbrev TE:=St->Hp->VK->Prop
abbrev TT:=St->Hp->(Bool->Hp->Prop)->Prop
abbrev TA:=St->Hp->(List V->Hp->Prop)->Prop
structure Ends where
 nx:St->Hp->Prop
 rt:VK
 bk:St->Hp->Prop:=fun _ _=>False
 ct:St->Hp->Prop:=fun _ _=>False
abbrev TS:=Ends->St->Hp->Prop
def EP(X:Cx)(pins:DH)(σ:St)(Q:VK)(u:VL)(s':SD):Prop:=∃v H',Inv X pins σ H' s'/\RelV v u/\Q v H'
def TP(X:Cx)(pins:DH)(σ:St)(Q:zDC)(b:Bool)(s':SD):Prop:=∃H',Inv X pins σ H' s'/\Q b H'
def AP(X:Cx)(pins:DH)(σ:St)(Q:zDn)(us:yN)(s':SD):Prop:=∃vs H',Inv X pins σ H' s'/\Vals vs us/\Q vs H'
def SP(X:Cx)(pins:DH)(D:Ends)(f:Flow)(s':SD):Prop :=
 match f with
 |.next=>∃g H',Inv X pins g H' s'/\D.nx g H'
 |.brk=>∃g H',Inv X pins g H' s'/\D.bk g H'
 |.cont=>∃g H',Inv X pins g H' s'/\D.ct g H'
 |.ret u=>∃v g H',Inv X pins g H' s'/\RelV v u/\D.rt v H'
def PE(X:Cx)(e:Expr)(t:TE):Prop :=
 ∀(pins:DH) (s:SD) (σ:St) (H:Hp) (Q:VK),Inv X pins σ H s->t σ H Q->wpAny Ci X.A (eval e X.env) T0 X.xe s
def PT(X:Cx)(e:Expr)(t:TT):Prop :=
 ∀(pins:DH) (s:SD) (σ:St) (H:Hp) (Q:zDC),Inv X pins σ H s->t σ H Q->wpAny Ci X.A (isTrue e X.env (eval e X.env)) (TP X pins σ Q) X.xe s
def PW(X:Cx)(e:Expr)(t:TT):Prop :=
 ∀(g:Sem VL) (pins:DH) (s:SD) (σ:St) (H:Hp) (Q:zDC),Inv X pins σ H s->t σ H Q->wpAny Ci X.A (isTrue e X.env g) (TP X pins σ Q) X.xe s
def PW.pt{X:Cx}{e:Expr}{t:TT}(h:PW X e t):PT X e t:=h _
def PA(X:Cx)(es:yV)(t:TA):Prop :=
 ∀(pos:Pos) (pins:DH) (s:SD) (σ:St) (H:Hp) (Q:zDn),Inv X pins σ H s->t σ H Q->wpAny Ci X.A (spliced (backTo pos Nm)) (AP X pins σ Q) X.xe s
def PS(X:Cx)(st:Stmt)(t:TS):Prop :=
 ∀(pins:DH) (s:SD) (σ:St) (H:Hp) (D:Ends),Inv X pins σ H s->t D σ H->wpAny Ci X.A (exec st X.env) (SP X pins D) X.xe s
def JZ(X:Cx)(st:ye)(t:TS):Prop :=
 ∀(pins:DH) (s:SD) (σ:St) (H:Hp) (D:Ends),Inv X pins σ H s->t D σ H->wpAny Ci X.A (execs st X.env) (SP X pins D) X.xe s
def BW{α:Type}{t:Sem α}{Q g:α->SD->Prop}{M:Model}{A:Ki}{E:yO}{s:SD}(h:wpAny M A t Q E s)(R:∀a s,Q a s->g a s):wpAny M A t g E s:=ao h R fun _ _ x=>x
section
variable{X:Cx}
def QP(i:Nat):TE:=fun σ H Q=>∃v,σ[i]? = some zBT/\Q v H
def tC(v:V):TE:=fun _ H Q=>Q v H
def qf{i:Nat}{x:Str}{pos:Pos}(hN:X.N[i]? = some x)(Y:pZ X.env.scope x)(hd:HV=false:=by decide)(T:(x==("__classdict__" : Str))=false:=by decide):PE X tO (QP i):=by
 intro pins s σ H Q I h;obtain⟨v,e,h⟩:=h;obtain⟨m,hn,Z⟩:=I.loc;obtain⟨u,r,l⟩:=Z i x v hN e Y;have fin:EP X pins σ Q u s:=⟨v,H,I,r,h⟩;rcases l with ⟨R,hm⟩|⟨R,c,U,g⟩
 .exact wpAny_Name (wpAny_loadName_local I.ok.kind R hn hm fin) hd
 .rcases R with R|R
  .exact wpAny_Name (wpAny_loadName_cell I.ok.kind R U g fin) hd
  .exact wpAny_Name (wpAny_loadName_free I.ok.kind R U g fin T) hd
def Ar{i j pos}:PE X (.Constant pp j pos) (tC pp):=fun _ _ _ H _ I h=>wpAny_Constant_int ⟨.int i,H,I.tok _,⟨_,rfl⟩,h⟩
def uv{b j pos}:PE X (.Constant (.bool b) j pos) (tC (.bl b)):=fun _ _ _ H _ I h=>Constant_bool ⟨.bl b,H,I,rfl,h⟩
def p6{j pos}:PE X (.Constant .none j pos) (tC .BN):=fun _ _ _ H _ I h=>Constant_none ⟨.BN,H,I,rfl,h⟩
def oK{x j pos}:PE X (.Constant (.str x) j pos) (tC (.str x)):=fun _ _ _ H _ I h=>Calls.Constant_str ⟨.str x,H,I.tok _,⟨_,rfl⟩,h⟩
def Gl(X:Cx)(x:Str):Prop:=X.env.kindOf x=some .globalImplicit
def Uv{E:yO}{pins:DH}{s:SD}{σ:St}{H:Hp}{x:Str}{u:VL}{pos:Pos}{Q:yO}(I:By)(g:zDD)(hm:X.mg x=some u)(h:Q u s) (hd:HV=false:=by decide):wpAny Ci X.A (eval tO X.env) Q E s :=
 Calls.Name_function_global I.ok.kind g (Calls.loadGlobal_global (by rw[I.ok.glob];exact I.mod.glob.keeps I.bk) hm h) hd
def Gn{E:yO}{pins:DH}{s:SD}{σ:St}{H:Hp}{x:Str}{u:VL}{pos:Pos}{Q:yO}(I:By)(R:zDD)(hm:X.mg x=none)(g:bootBuiltins x=some u)(h:Q u s) (hn:x ≠ "__name__":=by decide)(hd:HV=false:=by decide):wpAny Ci X.A (eval tO X.env) Q E s:=by
 obtain⟨mb,U,T⟩:=I.mod.blt;exact Calls.Name_function_global I.ok.kind R (Calls.loadGlobal_builtin (by rw[I.ok.glob];exact I.mod.glob.keeps I.bk) hm (by rw[I.ok.blt];exact U.keeps I.bk) ((T x hn).trans g) h) hd
def UW{x:Str}{v:V}{u:VL}{pos:Pos}(g:zDD)(hm:X.mg x=some u)(r:RelV v u)(hd:HV=false:=by decide):PE X tO (tC v) :=
 fun _ _ _ H _ I h=>Uv I g hm ⟨v,H,I,r,h⟩ hd
def l7{x:Str}{v:V}{u:VL}{pos:Pos}(R:zDD)(hm:X.mg x=none)(g:bootBuiltins x=some u)(r:RelV v u)(hn:x ≠ "__name__":=by decide)(hd:HV=false:=by decide):PE X tO (tC v) :=
 fun _ _ _ H _ I h=>Gn I R hm g ⟨v,H,I,r,h⟩ hn hd
variable{a b:Expr}{ta tb:TE}{pos:Pos}
def tB(t:TE):TT:=fun σ H Q=>t σ H fun x g=>∃c,x=.bl c/\Q c g
def rQ{e : Expr}{t : TE}(h : PE X e t)(he : ∀ whole,isTrue e X.env whole = zDS:=by intro _; rfl):PT X e (tB t):=by
  intro pins s σ H Q I hw
  refine isTrue_plain (BW (h pins s σ H _ I hw) fun v s1 ⟨x,H1,I1,r1,q1⟩ => ?_) (he _)
  obtain ⟨d,rfl,q⟩:=q1
  cases r1
  exact wpAny_truthy_bool ⟨H1,I1,q⟩
variable{tA tB':TT}{rest:yV}
def v5(t u:TT):TT:=fun σ H Q=>t σ H fun c g=>if c=true then u σ g Q else Q false g
def xw(t u:TT):TT:=fun σ H Q=>t σ H fun c g=>if c=true then Q true g else u σ g Q
def xb(t:TT):TT:=fun σ H Q=>t σ H fun c g=>Q (!c) g
def mF(ha:PT X a tA):PW X (.BoolOp .And [a] pos) tA:=by
 intro g pins s σ H Q I h;refine isTrue_and (BW (ha pins s σ H Q I h) fun c s1 e=>?_);cases c with
 |true=>exact isTrue_and_nil e
 |false=>exact e
def qi(ha:PT X a tA):PW X (.BoolOp .Or [a] pos) tA:=by
 intro g pins s σ H Q I h;refine isTrue_or (BW (ha pins s σ H Q I h) fun c s1 e=>?_);cases c with
 |false=>exact isTrue_or_nil e
 |true=>exact e
def se(ha:PT X a tA)(U:PW X zAp tB'):PW X zAD (v5 tA tB'):=by
 intro T pins s σ H Q I h;refine isTrue_and (BW jp fun c s1 ⟨R,g,q1⟩=>?_);cases c with
 |true=>exact U T pins s1 σ R Q g q1
 |false=>exact⟨R,g,q1⟩
def uN(ha:PT X a tA)(U:PW X (.BoolOp .Or (b::rest) pos) tB'):PW X (.BoolOp .Or (a::b::rest) pos) (xw tA tB'):=by
 intro T pins s σ H Q I h;refine isTrue_or (BW jp fun c s1 ⟨R,g,q1⟩=>?_);cases c with
 |true=>exact⟨R,g,q1⟩
 |false=>exact U T pins s1 σ R Q g q1
def rV(ha:PT X a tA):PT X zDO (xb tA):=by
 intro pins s σ H Q I h;exact isTrue_not (ha pins s σ H (fun c g=>Q (!c) g) I h)
def vI(ta tb:TE):TE:=fun σ H Q=>ta σ H fun x g=>∃c,x=.bl c/\if c=true then tb σ g Q else Q (.bl false) g
def ue(ta:TE):TE:=fun σ H Q=>ta σ H fun x g=>∃c,x=.bl c/\Q (.bl (!c)) g
def og{op}{t:TE}(h:PE X a t):PE X (.BoolOp op [a] pos) t:=fun pins s σ H Q I g=>BoolOp_one (h pins s σ H Q I g)
def qO(ha:PE X a ta)(U:PE X zAp tb):PE X zAD (vI ta tb):=by
 intro pins s σ H Q I h;refine BoolOp_and (BW jp fun v s1 ⟨x,R,g,T,q1⟩=>?_);obtain⟨c,rfl,q1⟩:=q1;cases T;refine wpAny_truthy_bool ?_;cases c with
 |true=>exact U pins s1 σ R Q g q1
 |false=>exact⟨.bl false,R,g,rfl,q1⟩
def pj(ha:PE X a ta):PE X zDO (ue ta):=by
 intro pins s σ H Q I h;refine UnaryOp_ (BW jp fun v s1 ⟨x,T,R,g,q1⟩=>?_);obtain⟨c,rfl,q1⟩:=q1;cases g;exact not_of (wpAny_truthy_bool ⟨.bl (!c),T,R,rfl,q1⟩)
end
def Ax(K:Fg)(H:Hp)(a:AD)(xs:yb):Prop :=
 Rd H a KT \/
  ∃(o:Obj) (g:re) (n:Nat),K.lookup a=some o/\o.cls=.type "list" /\ o.dict=none/\o.data=.seq g n/\g.size<=sizeLine/\Vals xs g.toList
def BL(K:Fg)(H:Hp)(a:AD)(xs:yb):Prop :=
 Rd H a LE \/
  ∃(o:Obj) (g:re) (n:Nat),K.lookup a=some o/\o.cls=.type "tuple" /\ o.data=.seq g n/\g.size<=sizeLine/\Vals xs g.toList
def XC:VL->Option V
 |.none=>some .BN
 |.bool b=>some (.bl b)
 |.int i _=>some pp
 |.str x _=>some (.str x)
 |.bytes b _=>some (.Pa b)
 |.float b _=>some (.a9 b)
 |.ref a=>some HY
 |.type n=>some (.ty n)
 |_=>none
def RelV.abs{x:V}{u:VL}(r:RelV x u):XC u=some x:=by
 cases x with
 |BN=>cases r;rfl
 |bl _=>cases r;rfl
 |int _=>obtain⟨t,rfl⟩:=r;rfl
 |str _=>obtain⟨t,rfl⟩:=r;rfl
 |Pa _=>obtain⟨t,rfl⟩:=r;rfl
 |a9 _=>obtain⟨t,rfl⟩:=r;rfl
 |ref _=>cases r;rfl
 |ty _=>cases r;rfl
def RelV.inj{x y:V}{u:VL}(r:RelV x u)(q:RelV y u):x=y:=ah (r.abs.symm.trans q.abs)
def Vals.inj:∀ {xs ys:Jh} {us:LY},Vals xs us->Vals ys us->xs=ys
 |_,_,_,.nil,.nil=>rfl
 |_,_,_,.cons r t,.cons R g=>by rw[r.inj R,Vals.inj t g]
section
variable{X:Cx}{pins:DH}{σ:St}{H:Hp}{s:SD}{a:AD}{xs ys:yb}
def Ax.of{K:Fg}(h:H a=some KT):Ax K H a xs:=.inl (.inl h)
def BL.of{K:Fg}(h:H a=some LE):BL K H a xs:=.inl (.inl h)
def Inv.list(I:By)(h:Ax X.K H a xs):∃g:yN,Vals xs g/\PlainL s.heap a g.toArray/\xs.length<=sizeLine:=by
 rcases h with h|⟨o,g,n,T,U,hd,R,Y,r⟩
 .obtain⟨z,g,n,r,e⟩:=h.ok I.A5;exact⟨g,r,⟨_,n,e,rfl,rfl,rfl⟩,z⟩
 .refine⟨g.toList,r,⟨o,n,I.Kd a o T,U,hd,by simpa using R⟩,?_⟩;have e:=r.length;simp only[Array.length_toList]at e
  lia
def Inv.tuple(I:By)(h:BL X.K H a xs):∃g:yN,Vals xs g/\IsTup s.heap a g.toArray/\xs.length<=sizeLine:=by
 rcases h with h|⟨o,g,n,T,U,R,Y,r⟩
 .obtain⟨z,g,r,p⟩:=h.ok I.A5;exact⟨g,r,p,z⟩
 .refine⟨g.toList,r,⟨o,I.Kd a o T,U,n,by simpa using R⟩,?_⟩;have e:=r.length;simp only[Array.length_toList]at e
  lia
def Inv.YE(I:By)(h:Ax X.K H a xs)(h':Ax X.K H a ys):xs=ys:=by
 obtain⟨R,r,⟨o,n,e,_,_,d⟩,_⟩:=I.list h;obtain⟨g,Y,⟨o',n',T,_,_,U⟩,_⟩:=I.list h';rw[e]at T;cases T;rw[d]at U
 injection U with Z _
 have:R=g:=by simpa using bJ Array.toList Z
 subst this;exact r.inj Y
def Inv.Vb(I:By)(h:BL X.K H a xs)(h':BL X.K H a ys):xs=ys:=by
 obtain⟨R,r,⟨o,e,_,n,d⟩,_⟩:=I.tuple h;obtain⟨g,Y,⟨o',T,_,n',U⟩,_⟩:=I.tuple h';rw[e]at T;cases T;rw[d]at U
 injection U with Z _
 have:R=g:=by simpa using bJ Array.toList Z
 subst this;exact r.inj Y
end
abbrev Cx.JJ(X:Cx)(E:ZB):Cx:={X with xe:=E}
abbrev Cx.K1(X:Cx):Cx:=X.JJ fun _ _=>False
def Cx.Ok.JJ{X:Cx}(ok:X.Ok)(E:yO):(X.JJ E).Ok :=
 ⟨ok.mod,ok.kind,ok.glob,ok.blt,ok.above,ok.inj,ok.has,ok.Zq,ok.hd,ok.frames,ok.lF,ok.vd,ok.bs,ok.VZ,ok.XO,ok.XB,ok.Jn,ok.Vm,ok.kt⟩
def Cx.Ok.Gu{X:Cx}{E:yO}(ok:(X.JJ E).Ok):X.Ok :=
 ⟨ok.mod,ok.kind,ok.glob,ok.blt,ok.above,ok.inj,ok.has,ok.Zq,ok.hd,ok.frames,ok.lF,ok.vd,ok.bs,ok.VZ,ok.XO,ok.XB,ok.Jn,ok.Vm,ok.kt⟩
section
variable{X:Cx}{pins:DH}{σ:St}{H:Hp}{s:SD}{E:yO}
def Inv.JJ(I:By)(E:yO):Inv (X.JJ E) pins σ H s:=⟨I.ok.JJ E,I.os,I.bare,I.base,I.loc,I.cell,I.free,I.KL,I.pin,I.A5,I.len⟩
def Inv.Gu(I:Inv (X.JJ E) pins σ H s):Inv X pins σ H s:=⟨I.ok.Gu,I.os,I.bare,I.base,I.loc,I.cell,I.free,I.KL,I.pin,I.A5,I.len⟩
def SP.Gu{D:Ends}{f:Flow}{s':SD}(h:SP (X.JJ E) pins D f s'):SP X pins D f s':=by
 cases f with
 |next=>obtain⟨g,H',I,q⟩:=h;exact⟨g,H',I.Gu,q⟩
 |brk=>obtain⟨g,H',I,q⟩:=h;exact⟨g,H',I.Gu,q⟩
 |cont=>obtain⟨g,H',I,q⟩:=h;exact⟨g,H',I.Gu,q⟩
 |ret u=>obtain⟨v,g,H',I,r,q⟩:=h;exact⟨v,g,H',I.Gu,r,q⟩
def JZ.K1{st:ye}{t:TS}(h:JZ X.K1 st t):JZ X st t:=fun pins s σ H D I g=>
 ao (h pins s σ H D (I.JJ _) g) (fun _ _ q=>q.Gu) fun _ _ z=>False.elim z
end
section
variable{X:Cx}{st:Stmt}{rest:ye}{t u:TS}{e:Expr}{te:TE}{pos:Pos}
def uC:TS:=fun D σ H=>D.nx σ H
def qJ(t u:TS):TS:=fun D σ H=>t {D with nx:=u D} σ H
def GQ:JZ X [] uC:=fun _ _ σ H _ I h=>wpAny_execs_nil ⟨σ,H,I,h⟩
def Ae(T:PS X st t)(R:JZ X rest u):JZ X (st::rest) (qJ t u):=by
 intro pins s σ H D I h;refine wpAny_execs_cons (BW (T pins s σ H {D with nx:=u D} I h) fun f s1 q=>?_);cases f with
 |next=>
  obtain⟨g,H',U,q⟩:=q;exact R pins s1 g H' D U q
 |ret v=>exact q
 |brk=>exact q
 |cont=>exact q
def A7(g:PS X st t):JZ X [st] t:=by
 intro pins s σ H D I h;refine wpAny_execs_cons (BW (g pins s σ H D I h) fun f s1 q=>?_);cases f with
 |next=>exact wpAny_execs_nil q
 |ret v=>exact q
 |brk=>exact q
 |cont=>exact q
def vO:TS:=fun D σ H=>D.ct σ H
def Yp:PS X (.Continue pos) vO:=fun _ _ σ H _ I h=>wpAny_Continue ⟨σ,H,I,h⟩
def Inv.quiet{pins:DH}{σ:St}{H:Hp}{s:SD}(I:By):interactive X.env=false:=by simp[interactive,I.ok.kind]
def WA(te:TE):TS:=fun D σ H=>te σ H fun _ g=>D.nx σ g
def Er(R:PE X e te)(g:swapsWith e none pos.line X.env=pure false:=by rfl):PS X (.Expr e pos) (WA te):=by
 intro pins s σ H D I h;exact wpAny_Expr_any (BW (R pins s σ H _ I h) fun v s1 ⟨x,U,T,Y,q1⟩=>⟨σ,U,T,q1⟩) I.quiet g
def wK(te:TE):TS:=fun D σ H=>te σ H D.rt
def Cf(R:PE X e te):PS X (.Return (some e) pos) (wK te):=by
 intro pins s σ H D I h;exact wpAny_Return_some (BW (R pins s σ H _ I h) fun v s1 ⟨x,U,T,g,q1⟩=>⟨x,σ,U,T,g,q1⟩)
def wx(c:TT)(t u:TS):TS:=fun D σ H=>c σ H fun b g=>if b=true then t D σ g else u D σ g
def JC{c:Expr}{a b:ye}{g:TT}(U:PT X c g)(ha:JZ X a t)(Y:JZ X b u):PS X (.If c a b pos) (wx g t u):=by
 intro pins s σ H D I h;refine wpAny_If (BW (U pins s σ H _ I h) fun d s1 ⟨T,R,q1⟩=>?_);cases d with
 |true=>exact ha pins s1 σ T D R q1
 |false=>exact Y pins s1 σ T D R q1
def oZ:TS:=fun _ _ _=>False
def Yc:PS X st oZ:=fun _ _ _ _ _ _ h=>h.elim
end
abbrev TG:=V->St->Hp->(St->Hp->Prop)->Prop
abbrev Xe:=List V->St->Hp->(St->Hp->Prop)->Prop
def PG(X:Cx)(target:Expr)(t:TG):Prop :=
 ∀(pins:DH) (s:SD) (σ:St) (H:Hp) (v:V) (u:VL) (Q:St->Hp->Prop),Inv X pins σ H s->RelV v u->t v σ H Q ->
  wpAny Ci X.A (assign target X.env u) (fun _ s'=>∃g H',Inv X pins g H' s'/\Q g H') X.xe s
def lH(X:Cx)(ts:yV)(t:Xe):Prop :=
 ∀(pins:DH) (s:SD) (σ:St) (H:Hp) (vs:Jh) (us:LY) (Q:St->Hp->Prop),Inv X pins σ H s->Vals vs us->t vs σ H Q ->
  wpAny Ci X.A (assignInOrder ((assignEach ts X.env).map zF) us) (fun _ s'=>∃g H',Inv X pins g H' s'/\Q g H') X.xe s
abbrev cR:=V->V->V->Hp->(Hp->Prop)->Prop
def il(X:Cx)(t:cR):Prop :=
 ∀(pins:DH) (s:SD) (σ:St) (H:Hp) (o i v:V) (g R u:VL) (Q:Hp->Prop),Inv X pins σ H s->RelV o g->RelV i R->RelV v u->t o i v H Q ->
  wpAny Ci X.A (setItem g R u) (fun _ s'=>∃H',Inv X pins σ H' s'/\Q H') X.xe s
section
variable{X:Cx}{pos:Pos}
def F0(i:Nat):TG:=fun v σ H Q=>Q (σ.set i zBT) H
def Az{i:Nat}{x:Str}(T:zv)(hi:X.N[i]? = some x)(g:y7)(R:X.fn x=true\/X.env.scope.names.lookup x=some .local:=by first|exact .inl rfl|exact .inr rfl|assumption):PG X tO (F0 i):=by
 intro pins s σ H v u Q I r h;exact wpAny_assign_Name (Oj I T hi g r (fun s' U=>⟨_,H,U,h⟩) R)
def cV:Xe:=fun vs σ H Q=>vs=[]/\Q σ H
def Mf(t:TG)(u:Xe):Xe:=fun vs σ H Q=>∃v r,vs=v::r/\t v σ H fun g H'=>u r g H' Q
def G9:lH X [] cV:=by
 intro pins s σ H vs us Q I r h;obtain⟨e,h⟩:=h;subst e;cases r;exact assignInOrder_nil ⟨σ,H,I,h⟩
def B5{e:Expr}{es:yV}{t:TG}{u:Xe}(Y:PG X e t)(U:lH X es u) (T:(assignEach Op X.env).map zF=assign e X.env::(assignEach es X.env).map zF:=by rfl):lH X Op (Mf t u):=by
 intro pins s σ H vs us Q I r h;obtain⟨v,vr,Z,h⟩:=h;subst Z;cases r with
 |cons r R=>
  rw[T];refine assignInOrder_cons (BW (Y pins s σ H _ _ _ I r h) fun _ s1 ⟨g,H1,I1,q1⟩=>?_);exact U pins s1 g H1 _ _ Q I1 R q1
def cU(K:Fg)(n:Nat)(t:Xe):TG:=fun v σ H Q=>∃a xs,v=.ref a/\BL K H a xs/\xs.length=n/\t xs σ H Q
def IH{es:yV}{k:Nat}{t:Xe}{n:Nat}(hc:dO)(h:lH X es t) (hn:(assignEach es X.env).length=n:=by rfl)(R:(assignEach es X.env).findIdx? Nh=none:=by rfl):PG X (.Tuple es k pos) (cU X.K n t):=by
 intro pins s σ H v u Q I r g;obtain⟨a,xs,e1,hq,hl,g⟩:=g;subst e1;cases r;obtain⟨U,T,Z,hz⟩:=I.tuple hq;refine assign_Tuple_tuple Os Z (by simp[hn,<-hl,T.length]) R fun h' Y=>?_;have I1:Inv X pins σ H M0:=I.kept (t':=s.toks) fun b o e=>Y b o (aG (aF e)) e;exact h pins _ σ H xs _ Q I1 zEo g
def qd(g R:TE)(t:cR):TG:=fun v σ H Q=>g σ H fun o Y=>R σ Y fun i U=>t o i v U fun T=>Q σ T
def Sl{o i:Expr}{to ti:TE}{t:cR}(ho:PE X o to)(hi:PE X i ti)(hs:il X t)
 (ha:∀v,assign (.Subscript o i pos) X.env v=(do
      let ov <-holding [v] (eval o X.env)
      let iv <-holding [v,ov] (eval i X.env)
      standAt pos
      holding [v,ov,iv] (setItem ov iv v)
      release [v,ov,iv] []):=by intro _;rfl):PG X (.Subscript o i pos) (qd to ti t):=by
  intro pins s σ H v u Q I r h
  rw[ha]
  refine Wb (aS (BW (ho pins s σ H _ I h) fun ov s1 ⟨x,H1,I1,r1,q1⟩=>?_))
  refine Wb (aS (BW (hi pins s1 σ H1 _ I1 q1) fun iv s2 ⟨y,H2,I2,r2,q2⟩=>?_))
  refine Wb (wpAny_standAt (Wb (aS (BW (hs pins s2 σ H2 x y v ov iv u _ I2 r1 r2 r q2) fun _ s3 ⟨H3,I3,q3⟩=>?_))))
  exact wpAny_release ⟨σ,H3,I3,q3⟩
def XT(R:TE)(g:TG):TS:=fun D σ H=>R σ H fun x T=>g x σ T D.nx
def Nf{tg e:Expr}{R:TE}{g:TG}(he:PE X e R)(Z:PG X tg g)(Y:swapsWithSole [tg] e pos.line X.env=pure false:=by rfl)(U:swappedStores [tg] e X.env=pure none:=by rfl) (h1:(assignEach [tg] X.env).map zF=[assign tg X.env]:=by rfl):PS X (.Assign [tg] e pos) (XT R g):=by
 intro pins s σ H D I h;refine wpAny_Assign_stores (BW zAf fun v s1 ⟨x,H1,I1,T,q1⟩=>?_) Y U;rw[h1];exact BW (Z pins s1 σ H1 x v _ I1 T q1) fun _ s2 q=>q
def BE{i:Nat}{x:Str}{e:Expr}{R:TE}{g:Pos}(hN:zv)(hi:X.N[i]? = some x)(U:y7)(he:PE X e R)(Y:swapsWith e (some (.Name x g)) pos.line X.env=pure false:=by rfl)(Z:X.fn x=true\/X.env.scope.names.lookup x=some .local:=by first|exact .inl rfl|exact .inr rfl|assumption):PS X (.Assign [.Name x g] e pos) (XT R (F0 i)):=by
 intro pins s σ H D I h;refine wpAny_Assign_Name (BW zAf fun v s1 ⟨y,H1,I1,T,q1⟩=>?_) Y;exact Oj I1 hN hi U T (fun s2 I2=>⟨_,H1,I2,q1⟩) Z
def vx(i j:Nat)(g:TA):TS:=fun D σ H=>g σ H fun vs R=>∃v w,vs=[v,w]/\D.nx ((σ.set i zBT).set j (some w)) R
def o9{i j:Nat}{x y:Str}{a b:Expr}{ta:TA}{px Z pt:Pos}{kt k2 R}(hc:dO)(hN:zv)(hi:X.N[i]? = some x)(hj:X.N[j]? = some y)(hij:i≠j) (hx:X.env.scope.names.lookup x=some .local)(hy:X.env.scope.names.lookup y=some .local)(ha:PA X [a,b] ta) (hw:swappedStores [.Tuple [.Name x px,.Name y Z] kt pt] (.Tuple [a,b] k2 R) X.env=pure (some [x,y])) (hs:swapsWithSole [.Tuple [.Name x px,.Name y Z] kt pt] (.Tuple [a,b] k2 R) pos.line X.env=pure false:=by rfl):PS X (.Assign [.Tuple [.Name x px,.Name y Z] kt pt] (.Tuple [a,b] k2 R) pos) (vx i j ta):=by
 intro pins s σ H D I h;rw[exec_Assign_arm];refine Wb (wpAny_standAt ?_);rw[hs];refine Wb Oz;rw[if_neg AT];refine Wb (Tuple_ (BW (ha _ pins s σ H _ I h) fun us s1 ⟨vs,H1,I1,r1,q1⟩=>?_));obtain⟨v,w,e1,q1⟩:=q1;subst e1;obtain⟨U,T,rfl,rv,Y⟩:∃U T,us=[U,T]/\RelV v U/\RelV w T:=by
  cases r1 with
  |cons p q=>
   cases q with
   |cons p' q'=>
    cases q';exact⟨_,_,rfl,p,p'⟩
 refine bC ?_ (by show 2<=sizeLine;decide);have I2:Inv X pins σ H1 {s1 with heap:=s1.heap.push { cls:=.type "tuple",data:=.seq [U,T].toArray} }:=I1.kept (t':=s1.toks) fun b o e=>aE _ e;rw[hw];refine Wb Oz;show wpAny Ci X.A (do rule "assign.swapped-stores"; let g <-unpackItems (.ref s1.heap.objs.size) 2 none;assignInOrder [fun v=>bindName X.env y v,fun v=>bindName X.env x v] g.reverse;pure Flow.next) _ _ _;refine Wb (bH (Wb (unpackItems_tuple (items:=#[U,T]) Os (IsTup.new s1.heap _) fun h' hx'=>?_)));have I3:=I2.kept (h':=h') (t':=s1.toks) fun b o e=>hx' b o (aG z0) e;show wpAny _ _ (assignInOrder [fun v=>bindName X.env y v,fun v=>bindName X.env x v] [T,U]>>=fun _=>pure Flow.next) _ _ _;refine Wb (assignInOrder_cons (wpAny_bindName (Oj I3 hN hj (.inl hy) Y (fun s2 I4=>?_) (.inr hy))));refine assignInOrder_cons (wpAny_bindName (Oj I4 hN hi (.inl hx) rv (fun s3 I5=>assignInOrder_nil Oz) (.inr hx)));rw[List.set_comm _ _ (Ne.symm hij)]at I5;exact⟨_,H1,I5,q1⟩
end
section
variable{X:Cx}{pos:Pos}
def fj(c:TT)(U:TS):TS:=fun D σ H=>∃W:Nat->St->Hp->Prop,(∃m,W m σ H)/\∀m σ H,W m σ H ->
 c σ H fun b T=>if b=true then ∃N:St->Hp->Prop,(∀g H',N g H'->∃R,R<m/\W R g H')/\U yq σ T else D.nx σ T
def SE{c:Expr}{T:ye}{tc:TT}{tb:TS}(hp:zHG)(hc:PT X c tc)(hb:JZ X T tb):PS X (.While c T [] pos) (fj tc tb):=by
 intro pins s σ H D I h;obtain⟨W,⟨m0,w0⟩,turn⟩:=h;refine wpAny_While (codeAny_whileLoop (fun n s'=>∃U H',Inv X pins U H' s'/\W n U H') ?_ m0 ⟨σ,H,I,w0⟩);rintro n s1 ⟨R,H1,I1,w1⟩;refine wpAny_passesOwn hp (BW (hc pins s1 R H1 _ I1 (turn n R H1 w1)) fun b s2 ⟨H2,I2,q2⟩=>?_);cases b with
 |true=>
  obtain⟨N,hN,q2⟩:=q2;rw[if_pos rfl];refine wpAny_passesOwn hp (BW (hb pins s2 R H2 _ I2 q2) fun f s3 Z=>?_);cases f with
  |next=>
   obtain⟨g,Y,I3,n3⟩:=Z;obtain⟨m',hm,w3⟩:=hN g Y n3;exact⟨m',hm,g,Y,I3,w3⟩
  |cont=>
   obtain⟨g,Y,I3,n3⟩:=Z;obtain⟨m',hm,w3⟩:=hN g Y n3;exact⟨m',hm,g,Y,I3,w3⟩
  |brk=>exact Z
  |ret v=>exact Z
 |false=>
  rw[if_neg aK];exact wpAny_execs_nil ⟨R,H2,I2,q2⟩
end
structure It where
 go:Nat->Hp->Prop
 GW:Nat->Hp->V->Hp->Prop
 stop:Nat->Hp->Prop
def M9(X:Cx)(pins:DH)(H:Hp)(b:AD):Prop :=
 H b=none/\b≠X.env.locals/\b ∉ X.fs/\(b∈X.ex\/X.s₀.heap.objs.size<=b)/\(∀x c,X.env.cells.lookup x=some c->c≠b)/\∀p∈X.pn++pins,p.1≠b
def Inv.Rp{X:Cx}{pins:DH}{σ:St}{H H':Hp}{s:SD}{b:AD}(I:By)(g:s.heap.objs.size<=b)(hn:H' b=none):M9 X pins H' b:=by
 refine⟨hn,Nat.ne_of_gt (aI I.lt g),I.wY g,.inr (aT I.sz g),fun x c e z=>?_,fun p R z=>?_⟩
 .obtain⟨v,q⟩:=I.cell x c e;exact absurd (aI q.lt (by rw[z];exact g)) zBF
 .exact absurd (aI (aF (I.pin p R).1) (by rw[z];exact g)) zBF
structure Turn(P:FS)(w:IO)(K:Fg)(tg:Expr)(J:It)(fp:List Addr)(it:Addr)(tn:wn):Prop where
 mem:it∈fp
 obj:∀i h,tn i h->∀b∈fp,∃o,h.get? b=some o/\∀v,o.data≠.cell v
 keep:∀i h h',tn i h->(∀b∈fp,∀o,h.get? b=some o->h'.get? b=some o)->tn i h'
 item:∀(X:Cx),X.prog=P->X.w=w->X.K=K->X.calm=true->∀(i:Nat) (pins:List (Addr×Obj)) (s:Shared) (σ:St) (H:Hp) (E:zBz),Inv X pins σ H s->(∀b∈fp,M9 X pins H b)->tn i s.heap->J.go i H ->
  wpAny zAZ X.A (pyNext yR) (fun r s1=>∃u,r=some u /\
   wpAny zAZ X.A (letOwnedTupleGo tg yR u) (fun _ s2=>∃x H',Inv X pins σ H' s2/\RelV x u/\J.GW i H x H'/\tn M2 s2.heap/\∀b∈fp,H' b=none) E s1) E s
 done:∀(X:Cx),X.prog=P->X.w=w->X.K=K->X.calm=true->∀(i:Nat) (pins:List (Addr×Obj)) (s:Shared) (σ:St) (H:Hp) (E:zBz),Inv X pins σ H s->(∀b∈fp,M9 X pins H b)->tn i s.heap->J.stop i H ->
  wpAny zAZ X.A (pyNext yR) (fun r s1=>r=none/\Inv X pins σ H s1) E s
 self:∀(A:Ki) (i:Nat) (s:Shared) (Q:zBz) (E:zBz),tn i s.heap->Q yR s->wpAny zAZ A (pyIter yR) Q E s
abbrev TI:=St->Hp->(It->Hp->Prop)->Prop
def vS(X:Cx)(pins:DH)(σ:St)(tg:Expr)(R:zDE)(g:VL)(s2:SD):Prop :=
 ∃(it:AD) (fp:List AD) (tn:wn) (J:It) (H':Hp),g=.ref it/\Inv X pins σ H' s2/\Turn X.prog X.w X.K tg J fp it tn/\tn 0 s2.heap/\(∀b∈fp,M9 X pins H' b)/\R J H'
def PI(X:Cx)(tg iter:Expr)(g:TI):Prop :=
 ∀(pins:DH) (s:SD) (σ:St) (H:Hp) (R:zDE),Inv X pins σ H s->g σ H R ->
  wpAny Ci X.A (eval iter X.env) (fun v s1=>wpAny Ci X.A (pyIter v) (vS X pins σ tg R) X.xe s1) X.xe s
def dI{M:Model}{A:Ki}{E:yO}{s:SD}{tg:Expr}{it:AD}{u:VL}{o:Obj}{n:zAG}{vs:re}{Q:zDB}(R:s.heap.get? it=some o)(T:o.cls=.type n)(hd:o.data=.fields vs) (hn:["enumerate","zip","dict_itemiterator","dict_reverseitemiterator","odict_iterator","itertools.zip_longest","itertools.pairwise"].contains n=false)(g:Q () s):wpAny M A (letOwnedTupleGo tg yR u) Q E s:=by
 unfold letOwnedTupleGo;cases tg<;>first
  |exact aA g
  |(cases u<;>first
    |exact aA g
    |(refine Wb (wpAny_load R ?_)
      rw[T,hd];show wpAny M A (if(["enumerate","zip","dict_itemiterator","dict_reverseitemiterator","odict_iterator","itertools.zip_longest","itertools.pairwise"].contains n&&vs[0]? == some (rawInt _))=true then _ else _) Q E s;rw[if_neg (by intro h;rw[hn,Bool.false_and]at h;cases h)];exact aA g))
def Zy(K:Fg)(a:AD):It :=
 ⟨fun i H=>∃xs x,Ax K H a xs/\xs[i]? = some x,fun i H x H'=>H'=H/\∀xs,Ax K H a xs->xs[i]? = some x,fun i H=>∃xs,Ax K H a xs/\xs.length<=i⟩
def Zg(K:Fg)(a:AD):It :=
 ⟨fun i H=>∃xs x,BL K H a xs/\xs[i]? = some x,fun i H x H'=>H'=H/\∀xs,BL K H a xs->xs[i]? = some x,fun i H=>∃xs,BL K H a xs/\xs.length<=i⟩
def U4(lo:Int)(n:Nat):It:=⟨fun i _=>i<n,fun i H x H'=>H'=H/\x=.int (lo+i),fun i _=>n<=i⟩
def eX{P:FS}{w:IO}{K:Fg}{tg:Expr}(a it:AD):Turn P w K tg (Zy K a) [it] it (fun i h=>h.IsListIter it a i) where
 mem:=by simp
 obj:=fun i h st b hb=>by
  have e:b=it:=by simpa using hb
  subst e;obtain⟨o,e,c,d⟩:=st;exact⟨o,e,fun v z=>by rw[d]at z;cases z⟩
 keep:=fun i h h' st k=>st.at fun o e=>k it At o e
 item:=by
  intro X hP hw hK hc i pins s σ H E I hf st hg;subst hP hw hK;obtain⟨xs,x,hq,hx⟩:=hg;obtain⟨its,rv,p,hz⟩:=I.list hq;obtain⟨u,hu,ru⟩:=rv.get hx;obtain⟨f0,f1,f2,f3,f4,f5⟩:=hf it At;refine wpAny_pyNext_list_item st p.isList (x:=u) (by simpa using hu) fun h' st' sb=>?_;have I1:Inv X pins σ H M0:=I.turned (t':=s.toks) (fun b o hb e=>(sb.2 b hb).trans e) f0 f1 f3 f4 f5;obtain⟨o,e,c,d⟩:=id st';exact⟨u,rfl,dI (s:={s with heap:=h'}) e c d AT ⟨x,H,I1,ru,⟨rfl,fun ys hy=>by rw[I.YE hy hq];exact hx⟩,st',fun b hb=>(hf b hb).1⟩⟩
 done:=by
  intro X hP hw hK hc i pins s σ H E I hf st hg;subst hP hw hK;obtain⟨xs,hq,hx⟩:=hg;obtain⟨its,rv,p,hz⟩:=I.list hq;obtain⟨f0,f1,f2,f3,f4,f5⟩:=hf it At;have hl:=rv.length;exact wpAny_pyNext_list_end Os st p.isList td fun h' eb=>⟨rfl,I.turned (t':=s.toks) zEW f0 f1 f3 f4 f5⟩
 self:=fun _ _ _ _ _ st h=>wpAny_pyIter_listiter st h
def cn{P:FS}{w:IO}{K:Fg}{tg:Expr}(a it:AD):Turn P w K tg (Zg K a) [it] it (fun i h=>h.IsTupleIter it a i) where
 mem:=by simp
 obj:=fun i h st b hb=>by
  have e:b=it:=by simpa using hb
  subst e;obtain⟨o,e,c,d⟩:=st;exact⟨o,e,fun v z=>by rw[d]at z;cases z⟩
 keep:=fun i h h' st k=>st.at fun o e=>k it At o e
 item:=by
  intro X hP hw hK hc i pins s σ H E I hf st hg;subst hP hw hK;obtain⟨xs,x,hq,hx⟩:=hg;obtain⟨its,rv,p,hz⟩:=I.tuple hq;obtain⟨u,hu,ru⟩:=rv.get hx;obtain⟨f0,f1,f2,f3,f4,f5⟩:=hf it At;refine wpAny_pyNext_tuple_item st (show s.heap.IsTuple a its.toArray from p) (x:=u) (by simpa using hu) fun h' st' sb=>?_;have I1:Inv X pins σ H M0:=I.turned (t':=s.toks) (fun b o hb e=>(sb.2 b hb).trans e) f0 f1 f3 f4 f5;obtain⟨o,e,c,d⟩:=id st';exact⟨u,rfl,dI (s:={s with heap:=h'}) e c d AT ⟨x,H,I1,ru,⟨rfl,fun ys hy=>by rw[I.Vb hy hq];exact hx⟩,st',fun b hb=>(hf b hb).1⟩⟩
 done:=by
  intro X hP hw hK hc i pins s σ H E I hf st hg;subst hP hw hK;obtain⟨xs,hq,hx⟩:=hg;obtain⟨its,rv,p,hz⟩:=I.tuple hq;obtain⟨f0,f1,f2,f3,f4,f5⟩:=hf it At;have hl:=rv.length;exact wpAny_pyNext_tuple_end Os st (show s.heap.IsTuple a its.toArray from p) td fun h' eb=>⟨rfl,I.turned (t':=s.toks) zEW f0 f1 f3 f4 f5⟩
 self:=fun _ _ _ _ _ st h=>wpAny_pyIter_tupleiter st h
def cq{P:FS}{w:IO}{K:Fg}{tg:Expr}(it:AD)(lo:Int)(n:Nat):Turn P w K tg (U4 lo n) [it] it (fun i h=>IsRangeIter h it (lo+(i:Nat)*1) ((n:Int)-(i:Nat)) 1) where
 mem:=by simp
 obj:=fun i h st b hb=>by
  have e:b=it:=by simpa using hb
  subst e;exact⟨_,st,fun v z=>by
   have z':Data.fields _=Data.cell v:=z;cases z'⟩
 keep:=fun i h h' st k=>k it At _ st
 item:=by
  intro X hP hw hK hc i pins s σ H E I hf st hg;subst hP hw hK;obtain⟨f0,f1,f2,f3,f4,f5⟩:=hf it At;have W:=Walks.range (prog:=X.prog) (w:=X.w) Os it lo 1 n;refine W.item i s _ _ hg st fun v h' tk hv st' kk=>?_;obtain⟨t,rfl⟩:=hv;have I1:Inv X pins σ H Fr:=I.turned (fun b o hb e=>kk b o (by simpa using hb) e) f0 f1 f3 f4 f5;refine⟨_,rfl,dI (s:={s with heap:=h',toks:=tk}) (n := "range_iterator") st' rfl rfl AT ⟨.int (lo+i),H,I1,⟨t,?_⟩,⟨rfl,rfl⟩,st',fun b hb=>(hf b hb).1⟩⟩;rw[Int.mul_one]
 done:=by
  intro X hP hw hK hc i pins s σ H E I hf st hg;subst hP hw hK;obtain⟨f0,f1,f2,f3,f4,f5⟩:=hf it At;exact wpAny_pyNext_range_end Os st (by have:n<=i:=hg;lia) fun h' eb=>⟨rfl,I.turned (t':=s.toks) zEW f0 f1 f3 f4 f5⟩
 self:=fun _ _ _ _ _ st h=>wpAny_pyIter_rangeiter st h
section
variable{X:Cx}{tg:Expr}
def uW(K:Fg)(T:TE):TI:=fun σ H R=>T σ H fun x g=>∃a,x=.ref a/\(∃xs,Ax K g a xs)/\R (Zy K a) g
def v7(K:Fg)(T:TE):TI:=fun σ H R=>T σ H fun x g=>∃a,x=.ref a/\(∃xs,BL K g a xs)/\R (Zg K a) g
def FQ{l:Expr}{T:TE}(hl:PE X l T):PI X tg l (uW X.K T):=by
 intro pins s σ H R I h;refine BW (hl pins s σ H _ I h) fun v s1 ⟨x,H1,g,U,q1⟩=>?_;obtain⟨a,e,⟨xs,Z⟩,q⟩:=q1;subst e;cases U;obtain⟨Y,rv,p,hz⟩:=g.list Z;refine wpAny_pyIter_list p.isList ?_;refine⟨s1.heap.objs.size,[s1.heap.objs.size],_,_,H1,rfl,g.kept (t':=s1.toks) fun b o e=>aE _ e,eX a _,⟨_,Heap.get?_push_size _ rfl,rfl,rfl⟩,fun b hb=>?_,q⟩;have e:b=s1.heap.objs.size:=by simpa using hb
 subst e;exact g.Rp RW (g.A5.fresh RW)
def X0{l:Expr}{U:TE}(hl:PE X l U):PI X tg l (v7 X.K U):=by
 intro pins s σ H R I h;refine BW (hl pins s σ H _ I h) fun v s1 ⟨x,H1,g,Y,q1⟩=>?_;obtain⟨a,e,⟨xs,Z⟩,q⟩:=q1;subst e;cases Y;obtain⟨T,rv,p,hz⟩:=g.tuple Z;refine wpAny_pyIter_tuple (show s1.heap.IsTuple a T.toArray from p) ?_;refine⟨s1.heap.objs.size,[s1.heap.objs.size],_,_,H1,rfl,g.kept (t':=s1.toks) fun b o e=>aE _ e,cn a _,⟨_,Heap.get?_push_size _ rfl,rfl,rfl⟩,fun b hb=>?_,q⟩;have e:b=s1.heap.objs.size:=by simpa using hb
 subst e;exact g.Rp RW (g.A5.fresh RW)
def YT{pins:DH}{σ:St}{H:Hp}{s:SD}{R:zDE}{E:yO}{lo hi:Int}{t u v:Tok}{tk:Nat}(I:By)(h1:-(2^62)<=lo)(Z:lo<2^62)(Y:-(2^62)<=hi)(U:hi<2^62) (q:R (U4 lo (hi-lo).toNat) H):wpAny Ci X.A (pyIter EK) (vS X pins σ tg R) E zL:=by
 refine wpAny_pyIter_range (IsRange.new ..) (small_one h1 Z Y U) ?_;have g:Inv X pins σ H zL:=I.kept fun b o e=>aE _ e;refine⟨(s.heap.push { cls:=.type "range",data:=.fields #[.int lo t,.int hi u,.int 1 v]}).objs.size,[(s.heap.push { cls:=.type "range",data:=.fields #[.int lo t,.int hi u,.int 1 v]}).objs.size],_,_,H,rfl,
  g.kept (t':=tk) fun b o e=>aE _ e,cq _ lo (hi-lo).toNat,?_,fun b T=>?_,q⟩
 .have e1:lo+((0:Nat):Int)*1=lo:=by simp
  have e2:(((hi-lo).toNat:Nat):Int)-((0:Nat):Int)=Builtin.Range.rangeSize lo hi 1:=by rw[rangeSize_one];split<;>lia
  show IsRangeIter _ _ (lo+((0:Nat):Int)*1) ((((hi-lo).toNat:Nat):Int)-((0:Nat):Int)) 1;rw[e1,e2];exact aN _ rfl
 .have e:b=(s.heap.push { cls:=.type "range",data:=.fields #[.int lo t,.int hi u,.int 1 v]}).objs.size:=by simpa using T
  subst e;exact g.Rp RW (g.A5.fresh RW)
def uB(g:TA):TI:=fun σ H R=>g σ H fun vs T=>∃j:Int,vs=[.int j]/\-(2^62)<=j/\j<2^62/\R (U4 0 j.toNat) T
def ux(g:TA):TI:=fun σ H R=>g σ H fun vs T=>∃i j:Int,vs=[.int i,.int j]/\(-(2^62)<=i/\i<2^62/\-(2^62)<=j/\j<2^62)/\R (U4 i (j-i).toNat) T
def QO{a:Expr}{g:TA}{p pos:Pos}(hg:Gl X "range")(hm:zEh)(ha:PA X [a] g)(Z:starEach [a] X.env=[Nr]:=by rfl):PI X tg (.Call (.Name "range" p) [a] [] pos) (uB g):=by
 intro pins s σ H R I h;refine Call_ (Gn I hg hm boot_range (av (BW PH fun us s1 ⟨vs,H1,I1,U,q1⟩=>?_) Z rfl));obtain⟨j,e,q1,Y,q⟩:=q1;subst e;cases U with
 |cons r T=>
  cases T;obtain⟨t,rfl⟩:=r;exact call_range_1 (YT I1 AC AC q1 Y (by simpa using q))
def gT{a b:Expr}{U:TA}{p pos:Pos}(hg:Gl X "range")(hm:zEh)(ha:PA X [a,b] U)(hs:starEach [a,b] X.env=[Nr,MN]:=by rfl)(g:starEach [b] X.env=[MN]:=by rfl):PI X tg (.Call (.Name "range" p) [a,b] [] pos) (ux U):=by
 intro pins s σ H R I h;refine Call_ (Gn I hg hm boot_range (av (BW PH fun us s1 ⟨vs,H1,I1,Y,q1⟩=>?_) (by rw[hs,g]) (by rw[g];rfl)));obtain⟨i,j,e,⟨q1,q2,q3,q4⟩,q⟩:=q1;subst e;cases Y with
 |cons r T=>
  cases T with
  |cons Z T=>
   cases T;obtain⟨t,rfl⟩:=r;obtain⟨t',rfl⟩:=Z;exact call_range_2 (YT I1 q1 q2 q3 q4 q)
def wD(Y:TI)(g:TG)(Z:TS):TS:=fun D σ H=>Y σ H fun J H1=>∃W:Nat->Nat->St->Hp->Prop,(∃m,W 0 m σ H1)/\∀i m σ H,W i m σ H ->
 (J.stop i H/\D.nx σ H)\/(J.go i H/\∃N:St->Hp->Prop,(∀R H',N R H'->∃U,U<m/\W M2 U R H')/\∀x H',J.GW i H x H'->g x σ H' fun T H2=>Z yq T H2)
def Pr(fp:yd)(h:Heap):List (AD×Obj):=fp.filterMap fun b=>(h.get? b).map fun o=>(b,o)
def LL{fp:yd}{h:Heap}{b:AD}{o:Obj}(g:b∈fp)(e:h.get? b=some o):(b,o)∈Pr fp h:=List.mem_filterMap.mpr ⟨b,g,by rw[e];rfl⟩
def eh{fp:yd}{h:Heap}{p:AD×Obj}(g:p∈Pr fp h):p.1∈fp/\h.get? p.1=some p.2:=by
 obtain⟨b,R,e⟩:=List.mem_filterMap.mp g;cases q:h.get? b with
 |none=>rw[q]at e;cases e
 |some o=>
  rw[q]at e;have T:(b,o)=p:=ah e;subst T;exact⟨R,q⟩
def Inv.pinned{pins:DH}{σ:St}{H:Hp}{s:SD}{fp:yd}(I:By)(Y:∀b∈fp,M9 X pins H b)(U:∀b∈fp,∃o,s.heap.get? b=some o/\∀v,o.data≠.cell v):Inv X (pins++Pr fp s.heap) σ H s :=
 I.Y7 fun p T=>(bA.mp T).elim (fun z=>I.pin p (aV _ z)) fun z=>by
  obtain⟨g,e⟩:=eh z;obtain⟨Z,f1,f2,_⟩:=Y p.1 g;obtain⟨o,R,d⟩:=U p.1 g;rw[e]at R;cases R;exact⟨e,Z,f1,f2,d⟩
def Inv.OQ{pins g:DH}{σ:St}{H:Hp}{s:SD}(I:Inv X (pins++g) σ H s):Inv X pins σ H s:=I.Y7 fun p R=>I.pin p (aV _ (bQ _ R))
def KZ{iter:Expr}{body:ye}{wi:TI}{g:TG}{tb:TS}{pos:Pos}(hp:zHG)(hc:dO)(hi:PI X tg iter wi)(hg:PG X tg g)(hb:JZ X body tb) (hs:∀x,foldedSetIterable iter X.env x=pure x:=by intro _;rfl):PS X (.For tg iter body [] pos) (wD wi g tb):=by
 intro pins s σ H D I h;refine wpAny_For (BW (hi pins s σ H _ I h) fun v s1 h1=>BW h1 fun itv s2 h2=>?_) hs;obtain⟨it,fp,tn,J,H2,e,I2,T,st2,f2,W,⟨m0,w0⟩,turn⟩:=h2;subst e;have Z:∀ {H':Hp},zAx->∀b∈fp,M9 X pins H' b:=fun hn b hb=>⟨hn b hb,(f2 b hb).2⟩;refine codeAny_forLoop_any (fun n s'=>∃i Y H',Inv X pins Y H' s'/\tn i s'.heap/\zAx/\W i n Y H') ?_ m0 ⟨0,σ,H2,I2,st2,fun b hb=>(f2 b hb).1,w0⟩;rintro n s3 ⟨i,U,H3,I3,st3,fr3,w3⟩;rcases turn i n U H3 w3 with ⟨stop,qn⟩|⟨go,N,hN,step⟩
 .refine wpAny_passesOwn hp (BW (T.done X rfl rfl rfl hc i pins s3 U H3 X.xe I3 (Z fr3) st3 stop) fun r s4 ⟨hr,I4⟩=>?_);subst hr;exact wpAny_execs_nil ⟨U,H3,I4,qn⟩
 .refine wpAny_passesOwn hp (BW (T.item X rfl rfl rfl hc i pins s3 U H3 X.xe I3 (Z fr3) st3 go) fun r s4 ⟨u,hr,h4⟩=>?_);subst hr;refine wpAny_passesOwn hp (BW h4 fun _ s5 ⟨x,H5,I5,r5,y5,st5,fr5⟩=>?_);have I5':=I5.pinned (Z fr5) (T.obj _ _ st5);refine wpAny_passesOwn hp (BW (hg _ s5 U H5 x u _ I5' r5 (step x H5 y5)) fun _ s6 ⟨σ6,H6,I6,q6⟩=>?_);refine wpAny_passesOwn hp (BW (hb _ s6 σ6 H6 _ I6 q6) fun f s7 q7=>?_);have again:∀ {R:St} {H7:Hp},Inv X (pins++Pr fp s5.heap) R H7 s7->N R H7->∃m,m<n/\∃i Y H',Inv X pins Y H' s7/\tn i s7.heap/\zAx/\W i m Y H':=fun {R H7} I7 n7=>by
   obtain⟨m',hm,w7⟩:=hN R H7 n7;refine⟨m',hm,i+1,R,H7,I7.OQ,T.keep _ _ _ st5 fun b hb o e=>(I7.pin (b,o) (aV _ (aV _ (LL hb e)))).1,fun b hb=>?_,w7⟩;obtain⟨o,e,d⟩:=T.obj _ _ st5 b hb;exact(I7.pin (b,o) (aV _ (aV _ (LL hb e)))).2.1
  cases f with
  |next=>obtain⟨R,H7,I7,n7⟩:=q7;exact again I7 n7
  |cont=>obtain⟨R,H7,I7,n7⟩:=q7;exact again I7 n7
  |brk=>obtain⟨R,H7,I7,q7⟩:=q7;exact⟨R,H7,I7.OQ,q7⟩
  |ret v=>obtain⟨x7,R,H7,I7,r7,q7⟩:=q7;exact⟨x7,R,H7,I7.OQ,r7,q7⟩
end
def Ov{K:Fg}{a:AD}{xs:yb}{g:TG}{Z:TS}{D:Ends}{σ:St}{H:Hp}(Pv:Nat->St->Hp->Prop)(h0:Pv 0 σ H)(hl:∀i σ H,i<=xs.length->Pv i σ H->Ax K H a xs) (hs:zGC)(hd:∀σ H,Pv xs.length σ H->D.nx σ H):∃W:Nat->Nat->St->Hp->Prop,(∃m,W 0 m σ H)/\∀i m σ H,W i m σ H ->((Zy K a).stop i H/\D.nx σ H)\/((Zy K a).go i H/\∃N:St->Hp->Prop,zGR/\∀x H',(Zy K a).GW i H x H'->g x σ H' fun R Y=>Z yq R Y):=by
 refine⟨fun i m σ H=>m=xs.length-i/\i<=xs.length/\Pv i σ H,⟨xs.length,by simp,Nat.zero_le _,h0⟩,?_⟩;rintro i m σ H ⟨rfl,hi,p⟩;have q:=hl i σ H hi p;by_cases U:i<xs.length
 .refine .inr ⟨⟨xs,xs[i],q,by simp[U]⟩,Pv M2,fun T H' p'=>⟨xs.length-M2,by lia,rfl,U,p'⟩,fun x H' y=>?_⟩;obtain⟨e,y⟩:=y;subst e;exact hs i x σ _ (y xs q) p
 .have e:i=xs.length:=by lia
  subst e;exact .inl ⟨⟨xs,q,Nat.le_refl _⟩,hd σ H p⟩
def nI{K:Fg}{a:AD}{xs:yb}{g:TG}{Z:TS}{D:Ends}{σ:St}{H:Hp}(Pv:Nat->St->Hp->Prop)(h0:Pv 0 σ H)(hl:∀i σ H,i<=xs.length->Pv i σ H->BL K H a xs) (hs:zGC)(hd:∀σ H,Pv xs.length σ H->D.nx σ H):∃W:Nat->Nat->St->Hp->Prop,(∃m,W 0 m σ H)/\∀i m σ H,W i m σ H ->((Zg K a).stop i H/\D.nx σ H)\/((Zg K a).go i H/\∃N:St->Hp->Prop,zGR/\∀x H',(Zg K a).GW i H x H'->g x σ H' fun R Y=>Z yq R Y):=by
 refine⟨fun i m σ H=>m=xs.length-i/\i<=xs.length/\Pv i σ H,⟨xs.length,by simp,Nat.zero_le _,h0⟩,?_⟩;rintro i m σ H ⟨rfl,hi,p⟩;have q:=hl i σ H hi p;by_cases U:i<xs.length
 .refine .inr ⟨⟨xs,xs[i],q,by simp[U]⟩,Pv M2,fun T H' p'=>⟨xs.length-M2,by lia,rfl,U,p'⟩,fun x H' y=>?_⟩;obtain⟨e,y⟩:=y;subst e;exact hs i x σ _ (y xs q) p
 .have e:i=xs.length:=by lia
  subst e;exact .inl ⟨⟨xs,q,Nat.le_refl _⟩,hd σ H p⟩
def Vo{lo:Int}{n:Nat}{g:TG}{Z:TS}{D:Ends}{σ:St}{H:Hp}(Pv:Nat->St->Hp->Prop)(h0:Pv 0 σ H) (hs:∀i σ H,i<n->Pv i σ H->g (.int (lo+i)) σ H fun R Y=>Z {D with nx:=Pv M2,ct:=Pv M2,bk:=D.nx} R Y)(hd:∀σ H,Pv n σ H->D.nx σ H):∃W:Nat->Nat->St->Hp->Prop,(∃m,W 0 m σ H)/\∀i m σ H,W i m σ H ->((U4 lo n).stop i H/\D.nx σ H)\/((U4 lo n).go i H/\∃N:St->Hp->Prop,zGR/\∀x H',(U4 lo n).GW i H x H'->g x σ H' fun R Y=>Z yq R Y):=by
 refine⟨fun i m σ H=>m=n-i/\i<=n/\Pv i σ H,⟨n,by simp,Nat.zero_le _,h0⟩,?_⟩;rintro i m σ H ⟨rfl,hi,p⟩;by_cases U:i<n
 .refine .inr ⟨U,Pv M2,fun T H' p'=>⟨n-M2,by lia,rfl,U,p'⟩,fun x H' y=>?_⟩;obtain⟨e,y⟩:=y;subst e y;exact hs i σ _ U p
 .have e:i=n:=by lia
  subst e;exact .inl ⟨aJ _,hd σ H p⟩
def SU{c:TT}{U:TS}{D:Ends}{σ:St}{H:Hp}(Pv:St->Hp->Prop)(T:St->Hp->Nat)(h0:Pv σ H) (hs:∀σ H,Pv σ H->c σ H fun b R=>if b=true then U {D with nx:=fun g H'=>Pv g H'/\T g H'<T σ H,ct:=fun g H'=>Pv g H'/\T g H'<T σ H,bk:=D.nx} σ R else D.nx σ R) (mono:∀σ H Q Y,(∀b R,Q b R->Y b R)->c σ H Q->c σ H Y):fj c U D σ H:=by
 refine⟨fun m σ H=>m=T σ H/\Pv σ H,⟨_,rfl,h0⟩,?_⟩;rintro m σ H ⟨rfl,p⟩;refine mono σ H _ _ (fun b R q=>?_) (hs σ H p);cases b with
 |true=>exact⟨_,fun g H' ⟨Z,l⟩=>⟨_,l,rfl,Z⟩,q⟩
 |false=>exact q
abbrev R2:=V->V->Hp->VK->Prop
def De(X:Cx)(f:wf)(r:R2):Prop :=
 ∀(pins:DH) (s:SD) (σ:St) (H:Hp) (x y:V) (v u:VL) (Q:VK),Inv X pins σ H s->RelV x v->RelV y u->r x y H Q ->
  wpAny Ci X.A (f v u) T0 X.xe s
def p9(X:Cx)(f:VL->Sem VL)(r:V->Hp->VK->Prop):Prop :=
 ∀(pins:DH) (s:SD) (σ:St) (H:Hp) (x:V) (v:VL) (Q:VK),Inv X pins σ H s->RelV x v->r x H Q ->
  wpAny Ci X.A (f v) T0 X.xe s
def FW(X:Cx)(f:VL)(r:zEG):Prop :=
 ∀(pins:DH) (s:SD) (σ:St) (H:Hp) (xs:Jh) (us:LY) (Q:VK),Inv X pins σ H s->Vals xs us->r xs H Q ->
  wpAny Ci X.A (call f us) T0 X.xe s
def fG(r:R2)(R g:TE):TE:=fun σ H Q=>R σ H fun x U=>g σ U fun y T=>r x y T Q
def yG(r:V->Hp->VK->Prop)(g:TE):TE:=fun σ H Q=>g σ H fun x R=>r x R Q
def rI(C:Int->Int->Prop)(g:Int->Int->V):R2:=fun x y H Q=>∃i j,x=.int i/\y=.int j/\C i j/\Q (g i j) H
def U6(g:Int->Int->V):R2:=fun x y H Q=>∃i j,x=.int i/\y=.int j/\Q (g i j) H
def rU(g:Int->V):V->Hp->VK->Prop:=fun x H Q=>∃i,x=.int i/\Q (g i) H
section
variable{X:Cx}{a b:Expr}{ta tb:TE}{pos:Pos}
def jx(ha:PE X a ta)(hb:PE X b tb){pins:DH}{s:SD}{σ:St}{H:Hp}{R:V->V->Hp->Prop}(I:By) (h:ta σ H fun x Y=>tb σ Y fun y g=>R x y g){Q:yO}{f:wf} (hf:∀v u s2 x y g,Inv X pins σ g s2->RelV x v->RelV y u->R x y g->wpAny Ci X.A (f v u) Q X.xe s2):wpAny Ci X.A (eval a X.env) (fun v U=>wpAny Ci X.A (eval b X.env) (fun u T=>wpAny Ci X.A (f v u) Q X.xe T) X.xe U) X.xe s:=by
 refine BW jp fun v s1 ⟨x,Y,I1,r1,q1⟩=>?_;refine BW (hb pins s1 σ Y _ I1 q1) fun u s2 ⟨y,g,I2,Z,q2⟩=>?_;exact hf v u s2 x y g I2 r1 Z q2
def BM{op:Operator}{r:R2}(T:De X (binaryOp op) r)(ha:PE X a ta)(U:PE X b tb):PE X (.BinOp a op b pos) (fG r ta tb):=by
 intro pins s σ H Q I h;exact wpAny_BinOp zBd
def cj{op:UnaryOp}{r:V->Hp->VK->Prop}(R:p9 X (unaryOp op) r)(ha:PE X a ta):PE X (.UnaryOp op a pos) (yG r ta):=by
 intro pins s σ H Q I h;exact UnaryOp_ (BW jp fun v s1 ⟨x,U,T,g,q1⟩=>R pins s1 σ U x v Q T g q1)
def ZP{f:wf}{C:Int->Int->Prop}{g:Int->Int->Int} (rule:∀(i j:Int) (t u:Tok) (s:SD) (Q:yO) (E:yO),C i j->Q (.int (g i j) s.toks) zCi->wpAny Ci X.A zFK Q E s):De X f (rI C fun i j=>.int (g i j)):=by
 intro pins s σ H x y v u Q I U T h;obtain⟨i,j,rfl,rfl,Y,q⟩:=h;obtain⟨t,rfl⟩:=U;obtain⟨R,rfl⟩:=T;exact rule i j t R s _ _ Y ⟨.int (g i j),H,I.tok _,⟨_,rfl⟩,q⟩
def oz{f:wf}{g:Int->Int->Int} (rule:∀(i j:Int) (t u:Tok) (s:SD) (Q:yO) (E:yO),Q (.int (g i j) s.toks) zCi->wpAny Ci X.A zFK Q E s):De X f (U6 fun i j=>.int (g i j)):=by
 intro pins s σ H x y v u Q I U T h;obtain⟨i,j,rfl,rfl,q⟩:=h;obtain⟨t,rfl⟩:=U;obtain⟨R,rfl⟩:=T;exact rule i j t R s _ _ ⟨.int (g i j),H,I.tok _,⟨_,rfl⟩,q⟩
def jN{f:wf}{g:Int->Int->Bool} (rule:∀(i j:Int) (t u:Tok) (s:SD) (Q:yO) (E:yO),Q (.bool (g i j)) s->wpAny Ci X.A zFK Q E s):De X f (U6 fun i j=>.bl (g i j)):=by
 intro pins s σ H x y v u Q I U T h;obtain⟨i,j,rfl,rfl,q⟩:=h;obtain⟨t,rfl⟩:=U;obtain⟨R,rfl⟩:=T;exact rule i j t R s _ _ ⟨.bl (g i j),H,I,rfl,q⟩
def wj(i j:Int):Prop:=0<j/\j<1073741824
def wt(i j:Int):Prop:=0<=j/\j<=1000000/\i.natAbs<2^64
def Xz(i j:Int):Prop:=(-(2^64)<i/\i<2^64)\/(-(2^64)<j/\j<2^64)
def Xz.ok{i j:Int}(h:Xz i j):IntMulOk i j:=by
 rcases h with ⟨R,g⟩|⟨R,g⟩
 .exact .of_left (intBits_le_64 R g)
 .exact .of_right (intBits_le_64 R g)
def QM:De X yx (U6 fun i j=>.int (i+j)):=oz fun _ _ _ _ _ _ _ q=>add_int q
def WR:De X (binaryOp .Sub) (U6 fun i j=>.int (i-j)):=oz fun _ _ _ _ _ _ _ q=>sub_int q
def Hm:De X (binaryOp .FloorDiv) (rI wj fun i j=>.int (i / j)):=ZP fun i j _ _ _ _ _ g q=>by
 have T:(0:Int)<j:=g.1;have R:j<1073741824:=g.2;exact floordiv_int AC (by rw[Int.fdiv_eq_ediv_of_nonneg i AC];exact q) (.inl (PyProof.noPylong_small AC))
def Pl:De X (binaryOp .Mod) (rI (fun _ j=>0<j) fun i j=>.int (i % j)):=ZP fun i j _ _ _ _ _ g q=>by
 have R:(0:Int)<j:=g;exact mod_int' AC (by rw[Int.fmod_eq_emod_of_nonneg i AC];exact q)
def NU:De X (binaryOp .Mod) (rI (fun _ j=>j≠0) fun i j=>.int (i.fmod j)):=ZP fun _ _ _ _ _ _ _ g q=>mod_int' g q
def sf:De X (binaryOp .Pow) (rI wt fun i j=>.int (i^j.toNat)):=ZP fun _ _ _ _ _ _ _ g q=>pow_int_small g.1 g.2.1 g.2.2 q
def yH{f:VL->Sem VL}{g:Int->Int} (rule:∀(i:Int) (t:Tok) (s:SD) (Q:yO) (E:yO),Q (.int (g i) s.toks) zCi->wpAny Ci X.A (f (.int i t)) Q E s):p9 X f (rU fun i=>.int (g i)):=by
 intro pins s σ H x v Q I R h;obtain⟨i,rfl,q⟩:=h;obtain⟨t,rfl⟩:=R;exact rule i t s _ _ ⟨.int (g i),H,I.tok _,⟨_,rfl⟩,q⟩
def YM:p9 X (unaryOp .USub) (rU fun i=>.int (-i)):=yH fun _ _ _ _ _ q=>neg_int q
end
def oa:V->V->Bool
 |.BN,.BN=>true|.BN,.int _=>true|.int _,.BN=>true|.BN,.bl _=>true|.bl _,.BN=>true|.BN,.str _=>true|.str _,.BN=>true
 |.int _,.int _=>true|.bl _,.bl _=>true|.str _,.str _=>true|.Pa _,.Pa _=>true
 |.int _,.str _=>true|.str _,.int _=>true|.bl _,.str _=>true|.str _,.bl _=>true
 |_,_=>false
def xp:R2:=fun x y H Q=>oa x y=true/\Q (.bl (decide (x=y))) H
def x8:R2:=fun x y H Q=>oa x y=true/\Q (.bl (!decide (x=y))) H
def bz{i j:Int}:decide (V.int i=V.int j)=(i==j):=by
 rw[Bool.eq_iff_iff];simp
def ej{i j:Bool}:decide (V.bl i=V.bl j)=(i==j):=by
 rw[Bool.eq_iff_iff];simp
def ZR{i j:Str}:decide (V.str i=V.str j)=(i==j):=by
 rw[Bool.eq_iff_iff];simp
def Zi{i j:Array UInt8}:decide (V.Pa i=V.Pa j)=(i.toList==j.toList):=by
 rw[Bool.eq_iff_iff];cases i;cases j;simp
section
variable{X:Cx}{a b c:Expr}{ta tb:TE}{pos:Pos}
def Bi{pins:DH}{σ:St}{H:Hp}{s:SD}{Q:VK}{k g:Bool}(I:By)(q:Q (.bl k) H)(e:k=g):EP X pins σ Q (.bool g) s:=by
 subst e;exact⟨.bl k,H,I,rfl,q⟩
def WN:De X (compareOp .Eq) xp:=by
 intro pins s σ H x y v u Q I U g h;obtain⟨T,q⟩:=h;cases x with
 |BN=>
  cases U;cases y with
  |BN=>cases g;exact PySem.EqNone.eq_none_none zFg
  |bl j=>cases g;exact PySem.EqNone.eq_none_bool zFg
  |int j=>obtain⟨R,rfl⟩:=g;exact PySem.EqNone.eq_none_int zFg
  |str j=>obtain⟨R,rfl⟩:=g;exact PySem.EqNone.eq_none_str zFg
  |_=>exact absurd (show false=true from T) aK
 |bl i=>
  cases U;cases y with
  |BN=>cases g;exact PySem.EqNone.eq_bool_none zFg
  |bl j=>cases g;exact eq_bool (Bi I q ej)
  |str j=>obtain⟨R,rfl⟩:=g;exact PySem.EqMixed.eq_bool_str zFg
  |_=>exact absurd (show false=true from T) aK
 |int i=>
  obtain⟨t,rfl⟩:=U;cases y with
  |BN=>cases g;exact PySem.EqNone.eq_int_none zFg
  |int j=>obtain⟨R,rfl⟩:=g;exact eq_int (Bi I q bz)
  |str j=>obtain⟨R,rfl⟩:=g;exact PySem.EqMixed.eq_int_str zFg
  |_=>exact absurd (show false=true from T) aK
 |str i=>
  obtain⟨t,rfl⟩:=U;cases y with
  |BN=>cases g;exact PySem.EqNone.eq_str_none zFg
  |bl j=>cases g;exact PySem.EqMixed.eq_str_bool zFg
  |int j=>obtain⟨R,rfl⟩:=g;exact PySem.EqMixed.eq_str_int zFg
  |str j=>obtain⟨R,rfl⟩:=g;exact eq_str (Bi I q ZR)
  |_=>exact absurd (show false=true from T) aK
 |Pa i=>
  obtain⟨t,rfl⟩:=U;cases y with
  |Pa j=>obtain⟨R,rfl⟩:=g;exact PySem.W.eq_bytes (Bi I q Zi)
  |_=>exact absurd (show false=true from T) aK
 |_=>cases y<;>exact absurd (show false=true from T) aK
def uy:De X (compareOp .NotEq) x8:=by
 intro pins s σ H x y v u Q I U g h;obtain⟨T,q⟩:=h;cases x with
 |BN=>
  cases U;cases y with
  |BN=>cases g;exact PySem.EqNone.ne_none_none zFg
  |bl j=>cases g;exact PySem.EqNone.ne_none_bool zFg
  |int j=>obtain⟨R,rfl⟩:=g;exact PySem.EqNone.ne_none_int zFg
  |str j=>obtain⟨R,rfl⟩:=g;exact PySem.EqNone.ne_none_str zFg
  |_=>exact absurd (show false=true from T) aK
 |bl i=>
  cases U;cases y with
  |BN=>cases g;exact PySem.EqNone.ne_bool_none zFg
  |bl j=>cases g;exact ne_bool (Bi I q (bJ not ej))
  |str j=>obtain⟨R,rfl⟩:=g;exact PySem.EqMixed.ne_bool_str zFg
  |_=>exact absurd (show false=true from T) aK
 |int i=>
  obtain⟨t,rfl⟩:=U;cases y with
  |BN=>cases g;exact PySem.EqNone.ne_int_none zFg
  |int j=>obtain⟨R,rfl⟩:=g;exact ne_int (Bi I q (bJ not bz))
  |str j=>obtain⟨R,rfl⟩:=g;exact PySem.EqMixed.ne_int_str zFg
  |_=>exact absurd (show false=true from T) aK
 |str i=>
  obtain⟨t,rfl⟩:=U;cases y with
  |BN=>cases g;exact PySem.EqNone.ne_str_none zFg
  |bl j=>cases g;exact PySem.EqMixed.ne_str_bool zFg
  |int j=>obtain⟨R,rfl⟩:=g;exact PySem.EqMixed.ne_str_int zFg
  |str j=>obtain⟨R,rfl⟩:=g;exact ne_str (Bi I q (bJ not ZR))
  |_=>exact absurd (show false=true from T) aK
 |Pa i=>
  obtain⟨t,rfl⟩:=U;cases y with
  |Pa j=>obtain⟨R,rfl⟩:=g;exact PySem.W.ne_bytes (Bi I q (bJ not Zi))
  |_=>exact absurd (show false=true from T) aK
 |_=>cases y<;>exact absurd (show false=true from T) aK
def eC:De X (compareOp .Lt) (U6 fun i j=>.bl (decide (i<j))):=jN fun _ _ _ _ _ _ _ q=>lt_int q
def Tn:De X (compareOp .Gt) (U6 fun i j=>.bl (decide (j<i))):=jN fun _ _ _ _ _ _ _ q=>gt_int q
def u7:De X (compareOp .GtE) (U6 fun i j=>.bl (decide (j<=i))):=jN fun _ _ _ _ _ _ _ q=>ge_int q
def pD:De X (compareOp .Is) (fun x y H Q=>y=.BN/\Q (.bl (decide (x=.BN))) H):=by
 intro pins s σ H x y v u Q I g R h;obtain⟨rfl,q⟩:=h;cases R;refine is_none_gen (Bi I q ?_);cases x<;>first
  |(cases g;rfl)
  |(obtain⟨t,rfl⟩:=g;rfl)
def mI:De X (compareOp .IsNot) (fun x y H Q=>y=.BN/\Q (.bl (!decide (x=.BN))) H):=by
 intro pins s σ H x y v u Q I g R h;obtain⟨rfl,q⟩:=h;cases R;refine isnot_none_gen (Bi I q ?_);cases x<;>first
  |(cases g;rfl)
  |(obtain⟨t,rfl⟩:=g;rfl)
def De.or{f:wf}{r T:R2}(h:De X f r)(h':De X f T):De X f (fun x y H Q=>r x y H Q\/T x y H Q):=by
 intro pins s σ H x y v u Q I R g q;rcases q with q|q
 .exact h pins s σ H x y v u Q I R g q
 .exact h' pins s σ H x y v u Q I R g q
def A4(b:Expr){op:CmpOp}(h:op≠.In:=by decide)(g:op≠.NotIn:=by decide):behindInMarks op b=false:=by
 have T:(op==CmpOp.In)=false:=by cases op<;>first|rfl|exact absurd rfl h
 have R:(op==CmpOp.NotIn)=false:=by cases op<;>first|rfl|exact absurd rfl g
 cases b<;>simp[behindInMarks,T,R]
def mE{op:CmpOp}{r:R2}(T:De X zEp r)(ha:PE X a ta)(U:PE X b tb)(hm:zCK):PE X zBo (fG r ta tb):=by
 intro pins s σ H Q I h;exact wpAny_Compare1 zBd hm
def uo(t:TE):TT:=fun σ H Q=>t σ H fun x H'=>∃k,x=.bl k/\Q k H'
def ER{op:CmpOp}{r:R2}(Z:De X zEp r)(ha:PE X a ta)(hb:PE X b tb)(hm:zCK):PT X zBo (uo (fG r ta tb)):=by
 intro pins s σ H Q I h;refine wpAny_isTrue_Compare1 (BW jp fun v s1 ⟨x,H1,I1,T,q1⟩=>BW (hb pins s1 σ H1 _ I1 q1) fun u s2 ⟨y,H2,I2,R,Y⟩=>
  BW (Z pins s2 σ H2 x y v u _ I2 T R Y) fun c s3 ⟨z,H3,I3,g,k,e,U⟩=>?_) hm
 subst e;cases g;exact wpAny_truthy_bool ⟨H3,I3,U⟩
def NM:(sizeLine:Nat)<2^63:=by rw[sizeLine_eq];decide
def df:De X yx (fun x y H Q=>∃i j,x=.str i/\y=.str j/\i.length+j.length<=sizeLine/\Q (.str (i++j)) H):=by
 intro pins s σ H x y v u Q I T R h;obtain⟨i,j,rfl,rfl,U,q⟩:=h;obtain⟨t,rfl⟩:=T;obtain⟨g,rfl⟩:=R;exact add_str (fun g tk=>⟨.str (i++j),H,I.tok _,⟨_,rfl⟩,q⟩) U
def vals1{x:V}{us:yN}(r:Vals [x] us):∃u,us=[u]/\RelV x u:=by
 cases r with
 |cons R g=>cases g;exact⟨_,rfl,R⟩
def OM:FW X (.builtin "abs") (fun xs H Q=>∃i,xs=[.int i]/\Q (.int (if i<0 then -i else i)) H):=by
 intro pins s σ H xs us Q I r h;obtain⟨i,rfl,q⟩:=h;obtain⟨u,rfl,t,rfl⟩:=vals1 r;exact call_abs_int fun u tk=>⟨.int (if i<0 then -i else i),H,I.tok _,⟨_,rfl⟩,q⟩
end
structure jb(h:Heap)(x dx C:Addr)(mA:zBQ):Prop where
 obj:h.get? x=some (PySem.W.instObj C dx)
 ns:h.Ns1 dx mA
 ne:dx≠x
def ef{h:Heap}{dx:AD}{mA:yP}(n:h.Ns1 dx mA):∃od,h.get? dx=some od/\∀name,PySem.W.lookIn name od=some (mA name):=by
 obtain⟨o,es,ep,T,hd,U,_,hm⟩:=n;refine⟨o,T,fun name=>?_⟩;have e:=hm name;unfold nsFind findBy at e;rw[<-Array.find?_toList]at e;unfold PySem.W.lookIn;rw[hd];dsimp only;split
 .rename_i y q;rw[q]at e;exact bJ some e
 .rename_i q;rw[q]at e;have a:es.toList.any (·.refKey)=false:=by
   rw[List.any_eq_false];intro y R;obtain⟨z,t,g⟩:=U y (Array.mem_toList_iff.mp R);simp[DictEntry.refKey,g]
  have Y:¬es.toList.any (·.refKey)=true:=by rw[a];exact aK
  rw[if_neg Y];exact bJ some e
def jb.look{h:Heap}{x dx C:AD}{mA:yP}(I:jb h x dx C mA):∃od,PySem.W.InstAt h x (PySem.W.instObj C dx) C (some od)/\∀name,PySem.W.lookIn name od=some (mA name) :=
 let⟨od,g,R⟩:=ef I.ns
 ⟨od,⟨I.obj,rfl,rfl,g⟩,R⟩
section
variable{P:FS}{w:IO}{H:Hp}{h:Heap}{a C dx:AD}{fs:List (Str×V)}
def mZ(A5:F8 P w H h)(e:H a=some (.ins C dx fs)):∃mA,jb h a dx C mA/\(∀f,ic (fs.lookup f) (mA f))/\PySem.Within mA (fs.map Nh)/\fs.length<=1000/\H dx=some (.own a):=by
 obtain⟨d,z,ne,ob,mA,n,r,q⟩:=(show EE P w H h a (.ins C dx fs) from A5 a _ e);exact⟨mA,⟨ob,n,ne⟩,r,q,z,d⟩
end
structure tF(K:Fg)(C:Addr):Prop where
 pg:PySem.W.plainGet K C Str.empty=true
 hd:PySem.W.hasDictIn K C=true
 po:PySem.W.plainOver K C=true
 sa:PySem.W.findIn K zAM "__setattr__" = some (some (.builtin "object.__setattr__"))
def tF.get{K:Fg}{C:AD}(c:tF K C)(f:Str):PySem.W.plainGet K C f=true:=c.pg
section
variable{X:Cx}{pins:DH}{σ:St}{H:Hp}{s:SD}{A:Ki}{E:yO}{Q:yO}{c:VL}{b:Bool}
inductive JB(K:Fg)(H:Hp):V->Value->Prop where
 |BN:JB K H .BN zCL
 |bl (x:Bool):JB K H (.bl x) na
 |int (i:Int):JB K H pp ul
 |str (x:Str):JB K H (.str x) (.type "str")
 |a9 (x:UInt64):JB K H (.a9 x) (.type "float")
 |lst {a:Addr} {xs:Jh} (e:H a=some KT):JB K H HY iN
 |GD {a:Addr} {o:Obj} {xs:Jh} (e:H a=some (.GD o KT)):JB K H HY iN
 |tup {a:Addr} {xs:Jh} (e:H a=some LE):JB K H HY Gf
 |dK {a:Addr} {kvs:List (Key×V)} (e:H a=some (.dK kvs)):JB K H HY u8
 |dT {a:Addr} {kvs:List (List Key×V)} (e:H a=some (.dT kvs)):JB K H HY u8
 |ins {a C dx:Addr} {fs:List (Str×V)} (e:H a=some (.ins C dx fs)) (cl:tF K C) (ha:PySem.W.findIn K zAM "__class__" = some (some ln))
   (hn:PySem.W.specialIn K ln "__get__" = some (some (.builtin "getset_descriptor.__get__"))) (htk:PySem.W.takesIn K ln=some true)
   (hm:PySem.W.mroIn K C xz=some true):JB K H HY zAM
def iE{x:V}{u t:VL}(I:By)(g:RelV x u)(ty:JB X.K H x t)(e:PySem.W.kitOne X.K t c=some b)(h:∀tk,Q (.bool b) {s with toks:=tk}):wpAny Ci A (call (.builtin "isinstance") [u,c]) Q E s:=by
 cases ty with
 |BN=>cases (show u=Value.none from g);exact bO PySem.W.kitx_none I.Kd True.intro e W1 h
 |bl y=>cases (show u=Value.bool y from g);exact bO PySem.W.kitx_bool I.Kd True.intro e W1 h
 |int i=>obtain⟨t,q⟩:=(show ∃t,u=Value.int i t from g);cases q;exact bO PySem.W.kitx_int I.Kd True.intro e W1 h
 |str y=>obtain⟨t,q⟩:=(show ∃t,u=Value.str y t from g);cases q;exact bO PySem.W.kitx_str I.Kd True.intro e W1 h
 |a9 y=>obtain⟨t,q⟩:=(show ∃t,u=Value.float y t from g);cases q;exact bO PySem.W.kitx_float I.Kd True.intro e W1 h
 | @lst a xs ea=>
  cases (show u=Value.ref a from g);obtain⟨_,_,n,_,R⟩:=(show EE X.prog X.w H s.heap a KT from I.A5 a _ ea);exact bO PySem.W.kitx_list I.Kd ⟨_,R,rfl⟩ e W1 h
 | @GD a ob xs ea=>
  cases (show u=Value.ref a from g);obtain⟨_,_,_,n,_,R⟩:=(show EE X.prog X.w H s.heap a (.GD ob KT) from I.A5 a _ ea);exact bO PySem.W.kitx_list I.Kd ⟨_,R,rfl⟩ e W1 h
 | @tup a xs ea=>
  cases (show u=Value.ref a from g);obtain⟨_,_,_,p⟩:=(show EE X.prog X.w H s.heap a LE from I.A5 a _ ea);obtain⟨o,R,T,_⟩:=p;exact bO PySem.W.kitx_tuple I.Kd ⟨o,R,T⟩ e W1 h
 | @dK a kvs ea=>
  cases (show u=Value.ref a from g);obtain⟨_,_,vs,_,p⟩:=(show EE X.prog X.w H s.heap a (.dK kvs) from I.A5 a _ ea);obtain⟨o,es,ep,R,T,_⟩:=p;exact bO PySem.W.kitx_dict I.Kd ⟨o,R,T.1⟩ e W1 h
 | @dT a kvs ea=>
  cases (show u=Value.ref a from g);obtain⟨_,_,xs,_,o,es,ep,R,T,_⟩:=(show EE X.prog X.w H s.heap a (.dT kvs) from I.A5 a _ ea);exact bO PySem.W.kitx_dict I.Kd ⟨o,R,T.1⟩ e W1 h
 | @ins a C dx fs ea cl ha hn htk hm=>
  cases (show u=Value.ref a from g);obtain⟨mA,O,_⟩:=mZ I.A5 ea;obtain⟨od,J,_⟩:=O.look;exact bO (PySem.W.kitx_own (cl.get _) cl.hd ha hn htk hm) I.Kd J e W1 h
end
structure EH(k:Nat)(A:Ki):Prop where
 hd:A.handled=none
 dp:A.depth+3*k+5<recursionLimit
 un:A.units+16*k+200<cLine
def EH.mono{j k:Nat}{A:Ki}(r:EH k A)(h:j<=k:=by decide):EH j A:=⟨r.hd,by have:=r.dp;lia,by have:=r.un;lia⟩
def EH.deeper{k:Nat}{A:Ki}(r:EH RJ A)(env:Env):EH k (A.deeper env) :=
 ⟨r.hd,by have:=r.dp;show A.depth+1+3*k+5<_;lia,by have:=r.un;show A.units+3+16*k+200<_;lia⟩
def EH.depth{k:Nat}{A:Ki}(r:EH k A):A.depth<recursionLimit:=by have:=r.dp;lia
def EH.units{k:Nat}{A:Ki}(r:EH k A):A.units+64<cLine:=by have:=r.un;lia
def wQ:TA:=fun _ H Q=>Q [] H
def ua(R:TE)(g:TA):TA:=fun σ H Q=>R σ H fun x U=>g σ U fun xs T=>Q (x::xs) T
section
variable{X:Cx}{e:Expr}{es:yV}{te:TE}{t:TA}{pos:Pos}
def Af:PA X [] wQ:=fun _ _ _ _ H Q I h=>Calls.spliced_nil ⟨[],H,I,.nil,h⟩
def AN(ha:PE X e te)(Y:PA X es t)(U:starEach Op X.env=IJ::starEach es X.env:=by rfl):PA X Op (ua te t):=by
 intro pos pins s σ H Q I h;rw[U];show wpAny _ _ (spliced (IJ::backTo pos Nm)) _ _ s;refine Calls.spliced_cons (BW jp fun u s1 ⟨x,H1,I1,R,q1⟩=>?_);exact BW (Y pos pins s1 σ H1 _ I1 q1) fun us s2 ⟨xs,H2,Z,g,T⟩=>⟨x::xs,H2,Z,.cons R g,T⟩
def vz(t:TA):TE:=fun σ H Q=>t σ H fun xs g=>xs.length<=sizeLine/\∀p,g p=none->Q xT (upd g p LE)
def wM(t:TA):TE:=fun σ H Q=>t σ H fun xs g=>xs.length<=sizeLine/\∀p,g p=none->Q xT (upd g p KT)
def KS{T}(h:PA X es t):PE X (.Tuple es T pos) (vz t):=by
 intro pins s σ H Q I U;refine wpAny_Tuple_spliced (BW (h pos pins s σ H _ I U) fun us s1 ⟨xs,R,g,r,z,q⟩=>⟨by rw[<-r.length];exact z,?_⟩);have Y:R s1.heap.objs.size=none:=g.A5.fresh RW;refine⟨.ref s1.heap.objs.size,upd R s1.heap.objs.size LE,g.laid (t':=s1.toks) (fun b u e=>aE _ e) RW ?_,rfl,q _ Y⟩;exact⟨z,us,r,⟨_,Heap.get?_push_size _ rfl,rfl,_,rfl⟩⟩
def HQ(h:PA X es t):PE X (.List es pos) (wM t):=by
 intro pins s σ H Q I T;refine wpAny_List_spliced (BW (h pos pins s σ H _ I T) fun us s1 ⟨xs,R,g,r,z,q⟩=>⟨by rw[<-r.length];exact z,?_⟩);have U:R s1.heap.objs.size=none:=g.A5.fresh RW;refine⟨.ref s1.heap.objs.size,upd R s1.heap.objs.size KT,g.laid (t':=s1.toks) (fun b u e=>aE _ e) RW ?_,rfl,q _ U⟩;exact⟨z,us,0,r,Heap.get?_push_size _ rfl⟩
end
abbrev Sp:=List V->Hp->VK->XK->Prop
abbrev Iy:=List Env->Hp->SD->XK->VL->SD->Prop
structure dm(P:FS)(w:IO)(K:Fg)(mg:zBQ)(base:Heap)(A:Ki)(outer:List Env)(s:Shared)(H:Hp):Prop where
 frames:A.frames=some outer
 mod:Mod K mg base
 bs:∀b o,base.get? b=some o->s.heap.get? b=some o/\H b=none
 VZ:base.objs.size<=s.heap.objs.size
 Jn:s.heap.FunFrames base outer
 Vm:∀b∈Hu outer,H b=none
 A5:F8 P w H s.heap
 bare:AllBare s.gens
 kt:KTb mg H
def CE(outer:yf)(P:FS)(w:IO)(H:Hp)(s:SD)(Q:VK)(u:VL)(s':SD):Prop :=
 ∃v H',s'.os=s.os/\AllBare s'.gens/\Un (Hu outer) [] H H' s.heap s'.heap/\F8 P w H' s'.heap/\RelV v u/\Q v H'
def CR(CX:Iy)(outer:yf)(P:FS)(w:IO)(H:Hp)(s:SD)(Q:VK)(E:XK)(r:Result)(s':SD):Prop :=
 match r with
 |.ok (.ret u)=>CE outer P w H s Q u s'
 |.ok _=>False
 |.error e=>CX outer H s E e s'
structure AK(P:FS)(w:IO)(K:Fg)(mg:zBQ)(base:Heap)(CX:Iy)(k:Nat)(f:Addr)(fd:Db)(ps:List Str)(sp:Sp):Prop where
 len:∀vs H Q E,sp vs H Q E->vs.length=ps.length
 run:∀(A:Ki) (outer:List Env) (s:Shared) (H:Hp) (args:Args) (us:List Value) (vs:Jh) (Q:VK) (E:XK),EH k A->dm P w K mg base A outer s H->BindsTo s fd args (ps.zip us)->Vals vs us->sp vs H Q E ->
  codeAny zAZ A (.call zBy args) (CR CX outer P w H s Q E) s
def AK.mono{P:FS}{w:IO}{K:Fg}{mg:yP}{base:Heap}{CX:Iy}{j k:Nat}{f:AD}{fd:Db}{ps:yU}{sp:Sp}(F:AK P w K mg base CX j f fd ps sp)(h:j<=k:=by decide):AK P w K mg base CX k f fd ps sp:=⟨F.len,fun A outer s H args us vs Q E g=>F.run A outer s H args us vs Q E (g.mono h)⟩
def AK.imp{P:FS}{w:IO}{K:Fg}{mg:yP}{base:Heap}{CX:Iy}{k:Nat}{f:AD}{fd:Db}{ps:yU}{sp g:Sp}(F:AK P w K mg base CX k f fd ps sp) (h:∀vs H Q E,g vs H Q E->sp vs H Q E):AK P w K mg base CX k f fd ps g :=
 ⟨fun vs H Q E q=>F.len vs H Q E (h _ _ _ _ q),fun A outer s H args us vs Q E U Y Z R T=>F.run A outer s H args us vs Q E U Y Z R (h _ _ _ _ T)⟩
section
variable{X:Cx}{pins:DH}{σ:St}{H:Hp}{s s':SD}
def Inv.xc(I:By):dm X.prog X.w X.K X.mg X.base X.A X.stack s H :=
 ⟨I.ok.frames,I.ok.mod,I.bs,Nat.le_trans I.ok.VZ I.sz,I.stack,I.UL,I.A5,I.bare,I.kt⟩
def Inv.after{Q:VK}{u:VL}(I:By)(h:CE X.stack X.prog X.w H s Q u s'):EP X pins σ Q u s':=by
 obtain⟨v,H',os,bare,un,A5,r,q⟩:=h;obtain⟨T,g,d,t,R⟩:=s';obtain rfl:R=s.os:=os;exact⟨v,H',I.call (h':=T) (g':=g) (d':=d) (t':=t) (ch:=[]) un A5 bare (fun b z=>absurd z At),r,q⟩
end
def d8(sp:Sp)(g:yb)(E:XK)(t:TA):TE:=fun σ H Q=>t σ H fun vs R=>sp (vs++g) R Q E
def Binds(K:Fg)(fd:Db)(ps:yU)(ds:yN):Prop :=
 ∀(s:SD) (us:LY),K.In s.heap->(us++ds).length=ps.length->BindsTo s fd ⟨us,[]⟩ (ps.zip (us++ds))
def Binds.all{K:Fg}{fd:Db}{ps:yU}(h:∀us:yN,us.length=ps.length->bindArgs fd ⟨us,[]⟩=pure (ps.zip us)):Binds K fd ps []:=fun s us _ g=>by
 rw[List.append_nil]at g ⊢;exact .of_eq (h us g)
def Passes(CX:Iy)(X:Cx)(E:XK):Prop:=∀(pins:DH) (σ:St) (H:Hp) (s:SD) (e:VL) (s':SD),Inv X pins σ H s->CX X.stack H s E e s'->X.xe e s'
section
variable{X:Cx}{CX:Iy}{k:Nat}{f:AD}{fd:Db}{ps:yU}{sp:Sp}{dvs:yb}{ds:yN}{E:XK}{x:Str}{p pos:Pos}{e:Expr}{es:yV}{t:TA}
def sF{pins:DH}{σ:St}{H:Hp}{s:SD}{Q:VK}{us:yN}{vs:yb}(F:AK X.prog X.w X.K X.mg X.base CX k f fd ps sp)(U:EH k X.A)(Z:Binds X.K fd ps ds)(hd:Vals dvs ds)(T:Passes CX X E) (I:By)(r:Vals vs us)(h:sp (vs++dvs) H Q E):wpAny Ci X.A (call zBy us) T0 X.xe s:=by
 have R:Vals (vs++dvs) (us++ds):=r.append hd;have Y:(us++ds).length=ps.length:=by rw[<-R.length];exact F.len _ _ _ _ h
 refine wpAny_call (codeAny_mono (F.run X.A X.stack s H ⟨us,[]⟩ (us++ds) (vs++dvs) Q E U I.xc (Z s us I.Kd Y) R h) fun r s' g=>?_);cases r with
 |error e=>exact T pins σ H s e s' I g
 |ok fl=>
  cases fl with
  |ret u=>exact I.after g
  |next=>exact False.elim g
  |brk=>exact False.elim g
  |cont=>exact False.elim g
def bx(F:AK X.prog X.w X.K X.mg X.base CX k f fd ps sp)(Y:EH k X.A)(hg:zDD)(hm:X.mg x=some zBy)(Z:PySem.W.keepIn X.K zBy=true)(hb:Binds X.K fd ps ds)(hd:Vals dvs ds)(U:Passes CX X E) (ha:PA X Op t)(R:HV=false:=by decide)(he:starEach Op X.env=IJ::starEach es X.env:=by rfl)(g:(backTo pos Nm).any Nh=false:=by rfl):PE X Id (d8 sp dvs E t):=by
 intro pins s σ H Q I h;refine wpAny_Call_Name_kw (Uv I hg hm ?_ R);refine PySem.W.callWith_K (h₀:=X.base) I.ok.mod.Tj Z (BW PH fun us s1 ⟨vs,H1,T,r,q⟩=>⟨T.Kd,?_⟩) he g;exact sF F Y hb hd U T r q
end
structure Ad(N P:List Str)(sc:zAm):Prop where
 kind:sc.kind=.function
 co:sc.isCoroutine=false
 gen:sc.isGenerator=false
 nd:N.Nodup
 pre:N.take P.length=P
 par:∀x∈P,sc.names.lookup x=some .local\/sc.names.lookup x=some .cell
 rG:∀y∈sc.names,y.2≠.free
def CG{N P:yU}{sc:zAm}(a:sc.kind=.function:=by rfl)(b:sc.isCoroutine=false:=by rfl)(c:sc.isGenerator=false:=by rfl)(d:N.Nodup:=by decide +kernel)(e:N.take P.length=P:=by rfl)(f:∀x ∈ P, sc.names.lookup x=some .local \/ sc.names.lookup x=some .cell:=by decide +kernel)(g:∀y ∈ sc.names, y.2 ≠ .free:=by decide +kernel):Ad N P sc:=⟨a, b, c, d, e, f, g⟩
def VM{kindOf:zEH}{x:Str}:∀ {binds:List (Str×VL)} {m:zFL},(∀v,(x,v) ∉ binds)->bindL kindOf binds m x=m x
 |[],_,_=>rfl
 |(n,v)::r,m,h=>by
  unfold bindL;rw[VM fun w g=>h w (aU _ g)];split
  .have:x≠n:=by rintro rfl;exact h v aX
   simp[this]
  .rfl
def VS{kindOf:zEH}{x:Str}:∀ {binds:List (Str×VL)} {m:zFL},(∀v,(x,v) ∉ binds)->bindC kindOf binds m x=m x
 |[],_,_=>rfl
 |(n,v)::r,m,h=>by
  unfold bindC;rw[VS fun w g=>h w (aU _ g)];split
  .rfl
  .have:x≠n:=by rintro rfl;exact h v aX
   simp[this]
def Vj{kindOf:zEH}{x:Str}{v:VL}:∀ {P:List Str} {vs:LY} {i:Nat} {m:zFL},P.Nodup->P[i]? = some x->vs[i]? = some v->kindOf x=some .local ->
  bindL kindOf (P.zip vs) m x=some v
 |[],_,_,_,_,h,_,_=>by simp at h
 |_::_,[],_,_,_,_,h,_=>by simp at h
 |p::P,w::vs,0,m,nd,R,g,T=>by
  simp at R g;subst R;subst g;show bindL kindOf ((p,w)::P.zip vs) m p=_;unfold bindL;rw[VM fun v U=>(List.nodup_cons.mp nd).1 (List.of_mem_zip U).1,if_pos T];simp
 |p::P,w::vs,i+1,m,nd,R,g,T=>by
  show bindL kindOf ((p,w)::P.zip vs) m x=_;unfold bindL;exact Vj (i:=i) (List.nodup_cons.mp nd).2 zAg zAh T
def VU{kindOf:zEH}{x:Str}{v:VL}:∀ {P:List Str} {vs:LY} {i:Nat} {m:zFL},P.Nodup->P[i]? = some x->vs[i]? = some v->kindOf x≠some .local ->
  bindC kindOf (P.zip vs) m x=some v
 |[],_,_,_,_,h,_,_=>by simp at h
 |_::_,[],_,_,_,_,h,_=>by simp at h
 |p::P,w::vs,0,m,nd,R,g,T=>by
  simp at R g;subst R;subst g;show bindC kindOf ((p,w)::P.zip vs) m p=_;unfold bindC;rw[VS fun v U=>(List.nodup_cons.mp nd).1 (List.of_mem_zip U).1,if_neg T];simp
 |p::P,w::vs,i+1,m,nd,R,g,T=>by
  show bindC kindOf ((p,w)::P.zip vs) m x=_;unfold bindC;exact VU (i:=i) (List.nodup_cons.mp nd).2 zAg zAh T
def start(N:yU)(vs:yb):St:=vs.map some++List.replicate (N.length-vs.length) none
def DZ(CX:Iy)(P:FS)(w:IO)(K:Fg)(mg:yP)(base:Heap)(N:yU)(qual:Str)(scope:zAm)(f:AD)(cd:VL)(A:Ki)(outer:yf)(s:SD)(H:Hp)(E:XK):Cx where
 prog:=P
 w:=w
 K:=K
 mg:=mg
 base:=base
 A:=A.deeper Lu
 N:=N
 s₀:=s
 H₀:=H
 env:=envOfC qual scope s.heap.objs.size f cd
 outer:=outer
 stack:=envOfC qual scope s.heap.objs.size f cd::outer
 ex:=[]
 calm:=true
 fn:=fun _=>true
 pn:=[]
 xe:=fun e s'=>wpAny zAZ (A.deeper Lu) (leaving Lu e) (fun _ s''=>CX outer H s E e s'') (fun e' s''=>CX outer H s E e' s'') s'
def YW{sc:zAm}{n:Nat}{x:Str}(h:sc.names.lookup x=some .cell):∃c,(cellsFrom n sc.names []).lookup x=some c:=by
 have q:=PySem.W.cellsFrom_some sc.names n [] (.inl h);exact Option.isSome_iff_exists.mp q
def eI{CX:Iy}{P:FS}{w:IO}{K:Fg}{mg:yP}{base:Heap}{N ps:yU}{qual:Str}{scope:zAm}{f:AD}{cd:VL}{A:Ki}{outer:yf}{s s1:SD}{H:Hp}{E:XK}{us:yN}{vs:yb} (S:Ad N ps scope)(hd:oF)(R:dm P w K mg base A outer s H)(hl:vs.length=ps.length)(r:Vals vs us) (x:InCallC s s.heap.objs.size (bindL (envOfC qual scope s.heap.objs.size f cd).kindOf (ps.zip us) fun _=>none) (cellsFrom Fk scope.names []) (bindC (envOfC qual scope s.heap.objs.size f cd).kindOf (ps.zip us) fun _=>none) s1):Inv (DZ CX P w K mg base N qual scope f cd A outer s H E) [] zCn H s1:=by
 have hpl:ps.length<=N.length:=by have:=bJ List.length S.pre;rw[List.length_take]at this;lia
 obtain⟨h1,tk,rfl,hk⟩:=x.done;have T:∀b:AD,b ∉ (DZ CX P w K mg base N qual scope f cd A outer s H E).ex:=fun b z=>absurd (show b∈([]:List AD) from z) At;refine⟨⟨R.mod,S.kind,rfl,rfl,Nat.le_refl _,fun y z c h1 g=>?_,fun y U=>?_,fun y c _ h=>?_,fun _=>hd,Around.frames_deeper R.frames,.inr ⟨rfl,rfl⟩,fun b z=>absurd z (T b),R.bs,R.VZ,fun b _ _=>T b,fun b z=>absurd z (T b),R.Jn,R.Vm,R.kt⟩,
  rfl,R.bare,Un.kept hk,⟨_,x.toInCall.ns,fun i y v h1 g h3=>?_⟩,fun y c h=>⟨_,x.cell y c h⟩,R.A5.fresh RW,fun y c h=>?_,fun p Z=>absurd (show p∈([]:List (AD×Obj)) from Z) At,R.A5.kept hk,?_⟩
 .exact name_of_addr x.apart (PySem.mem_of_lookup h1) (PySem.mem_of_lookup g)
 .have U:scope.names.lookup y=some .cell\/scope.names.lookup y=some .free:=U;rcases U with U|U
  .exact YW U
  .exact absurd rfl (S.rG _ (PySem.mem_of_lookup U))
 .exact bG (x.above y c (PySem.mem_of_lookup h))
 .have hi:i<vs.length:=by
   unfold start at g;by_cases hi:i<vs.length
   .exact hi
   .rw[List.getElem?_append_right bv]at g;rw[List.getElem?_replicate]at g;split at g<;>cases g
  have ha:vs[i]? = some v:=by
   unfold start at g;rw[List.getElem?_append_left bv,List.getElem?_map]at g;cases e:vs[i]? with
   |none=>rw[e]at g;cases g
   |some a=>rw[e]at g;cases g;rfl
  obtain⟨u,hu,rv⟩:=r.get ha;have Z:ps[i]? = some y:=by
   rw[<-S.pre,List.getElem?_take_of_lt AC];exact h1
  have Y:ps.Nodup:=by rw[<-S.pre];exact S.nd.sublist (List.take_sublist _ _)
  refine⟨u,rv,?_⟩;rcases S.par y (aO Z) with k|k
  .exact .inl ⟨k,Vj Y Z hu k⟩
  .obtain⟨c,e⟩:=YW (n:=s.heap.objs.size+1) k;refine .inr ⟨.inl k,c,e,?_⟩;have q:=x.cell y c e;rw[VU Y Z hu (by show scope.names.lookup y≠_;rw[k];decide)]at q;exact q
 .exact R.A5.fresh (bG (x.above y c (PySem.mem_of_lookup h)))
 .unfold start;show _=N.length;rw[List.length_append,List.length_map,List.length_replicate]
  lia
def lB{CX:Iy}{P:FS}{w:IO}{K:Fg}{mg:yP}{base:Heap}{k:Nat}{f:AD}{name qual:Str}{params:Arguments}{g:ye}{scope:zAm}{dV kV doc pm cdv ct oc:VL}{an od:zDo} {osl:z9}{N ps:yU}{sp:Sp}(lk:K.lookup f=some ⟨oc,od,.func zCo,osl⟩)(hcd:PySem.W.codeIn K cdv qual=true)(S:Ad N ps scope) (len:zAT) (U:∀(A:Ki) (outer:yf) (s:SD) (H:Hp) (vs:yb) (Q:VK) (E:XK),EH k (A.deeper (envOfC qual scope s.heap.objs.size f cdv))->sp vs H Q E ->∃t,JZ yy g t/\t { nx:=fun _ H'=>Q .BN H',rt:=Q} zCn H):AK P w K mg base CX RJ f zCo ps sp:=by
 refine⟨len,fun A outer s H args us vs Q E hr e0 hb r Z=>?_⟩;have hl:=len _ _ _ _ Z;have KX:K.In s.heap:=e0.mod.Tj.keeps fun b o e=>(e0.bs b o e).1;have lim:s.heap.NoLimit:=e0.mod.nolimit.keeps fun b o e=>(e0.bs b o e).1;have T:∀y∈ps.zip us,scope.names.lookup y.1=some .local\/(scope.names.lookup y.1=some .cell/\((cellsFrom Fk scope.names []).lookup y.1).isSome=true):=fun⟨n,v⟩ hy=>by
  rcases S.par n (List.of_mem_zip hy).1 with q|q
  .exact .inl q
  .exact .inr ⟨q,PySem.W.cellsFrom_some _ _ _ (.inl q)⟩
 refine codeAny_call_function hr.depth (KX _ _ lk) rfl S.co S.gen rfl (PySem.W.codeRec_of KX hcd) (hb _ _ _ _ ?_);refine wpAny_newFunctionEnv_cells S.kind T fun env he s1 x=>?_;subst he;refine⟨lim.keeps x.toInCall.keep,codeAny_func ?_⟩;obtain⟨t,ht,hq⟩:=U A outer s H vs Q E (hr.deeper _) Z;have I:Inv yy [] zCn H s1:=eI S hr.hd e0 hl r x;refine ao (ht [] s1 zCn H _ I hq) (fun fl s' Y=>?_) fun e s' Y=>Y;have fin:∀ {R:St} {H':Hp} {v:V} {u:VL},Inv yy [] R H' s'->RelV v u->Q v H'->CE outer P w H s Q u s' :=
  fun {R H' v u} J rv q=>⟨v,H',J.os,J.bare,J.base,J.A5,rv,q⟩
 cases fl with
 |ret u=>
  obtain⟨v,R,H',J,rv,q⟩:=Y;exact fin J rv q
 |next=>
  obtain⟨R,H',J,q⟩:=Y;exact fin (v:=V.BN) (u:=Value.none) J rfl q
 |brk=>
  obtain⟨_,_,_,q⟩:=Y;exact False.elim q
 |cont=>
  obtain⟨_,_,_,q⟩:=Y;exact False.elim q
section
variable{X:Cx}{x:Str}{p pos:Pos}{e:Expr}{es:yV}{t:TA}{id T:zAG}{r:zEG}
def vV(r:zEG)(t:TA):TE:=fun σ H Q=>t σ H fun vs g=>r vs g Q
def D7(hc:FW X zAA r)(Z:zDD)(hm:X.mg x=none)(Y:bootBuiltins x=some zAA)(ha:PA X Op t)(hn:x ≠ "__name__":=by decide)(R:HV=false:=by decide) (he:starEach Op X.env=IJ::starEach es X.env:=by rfl)(g:(backTo pos Nm).any Nh=false:=by rfl):PE X Id (vV r t):=by
 intro pins s σ H Q I h;refine wpAny_Call_Name_kw (Gn I Z hm Y ?_ hn R);exact PyProof.Rows.callWith_builtin1 zGX he g
def VV(hc:FW X (.type T) r)(Z:zDD)(hm:X.mg x=none)(Y:bootBuiltins x=some (.type T))(ha:PA X Op t)(hn:x ≠ "__name__":=by decide)(R:HV=false:=by decide) (he:starEach Op X.env=IJ::starEach es X.env:=by rfl)(g:(backTo pos Nm).any Nh=false:=by rfl):PE X Id (vV r t):=by
 intro pins s σ H Q I h;refine wpAny_Call_Name_kw (Gn I Z hm Y ?_ hn R);exact av zGX he g
end
end L2
namespace HT
open PySem PyProof.Rows
section
variable{prog:FS}{w:IO}{A:Ki}{E:yO}{s:SD}
def nW{t b:AD}{vs ws:yN}{Q:yO}(ht:IsTup s.heap t vs.toArray)(hb:IsTup s.heap b ws.toArray)(hv:vs≠[]) (h1:ws=[]->Q (.ref t) s)(h2:ws≠[]->Q EK {s with heap:=s.heap.push { cls:=.type "tuple",data:=.seq (vs++ws).toArray} }) (hsz:vs.length+ws.length<=sizeLine):wpAny AS A (binaryOp .Add (.ref t) zBU) Q E s:=by
 obtain⟨⟨cls,dd,data,sl⟩,ho,hc,n,hd⟩:=id ht;obtain⟨⟨cls2,Y,data2,R⟩,g,U,n2,T⟩:=id hb;simp only at hc hd U T;subst hc hd U T;have e:vs.toArray++ws.toArray=(vs++ws).toArray:=by simp
 by_cases Z:ws=[]
 .exact concat_meets ⟨_,ho,rfl⟩ ⟨_,g,rfl⟩ noFill_tuple_add seq_tuple_add PySem.F.slot_tuple_add PySem.F.entry_tuple_add zDT
   (tuple_addW1 t b vs.toArray ws.toArray n n2 dd Y sl R (by simpa using hv) (by simp[Z])) ⟨ho,g,h1 Z⟩
 .refine concat_meets ⟨_,ho,rfl⟩ ⟨_,g,rfl⟩ noFill_tuple_add seq_tuple_add PySem.F.slot_tuple_add PySem.F.entry_tuple_add zDT
   (tuple_addW2 t b vs.toArray ws.toArray n n2 dd Y sl R (by simpa using hv) (by simpa using Z) (by rw[List.size_toArray,List.size_toArray];exact hsz)) ⟨ho,g,?_⟩
  rw[e];exact h2 Z
def B9(n d:Nat):Option Int->Nat
 |none=>d
 |some v=>if v<0 then(v+(n:Int)).toNat else min v.toNat n
def rh(n d:Nat)(hd:d<=n)(o:yY):B9 n d o<=n:=by
 cases o with
 |none=>exact hd
 |some v=>
  show zFH<=n;by_cases g:v<0
  .rw[if_pos g];lia
  .rw[if_neg g];exact Nat.min_le_right _ _
def Z1(v:Int)(n d:Nat):zEq=((B9 n d zBT:Nat):Int):=by
 show zEq=((zFH:Nat):Int);by_cases g:v<0
 .simp only[if_pos g];lia
 .simp only[if_neg g];lia
def dk(lo hi:yY)(n:Nat):Builtin.Slice.sliceAdjust lo hi 1 (n:Int)=(zDP,((B9 n n hi:Nat):Int)):=by
 have g:¬((1:Int)<0):=by lia
 unfold Builtin.Slice.sliceAdjust;simp only[g,if_false];refine Prod.ext ?_ ?_
 .cases lo with
  |none=>rfl
  |some v=>exact Z1 v n 0
 .cases hi with
  |none=>rfl
  |some v=>exact Z1 v n n
def dA(i j:Nat):Builtin.Slice.slicePlaces (i:Int) (j:Int) 1=j-i:=by
 unfold Builtin.Slice.slicePlaces;have g:(1:Int) > 0:=by lia
 simp only[g,if_true,Int.ediv_one];split<;>lia
def Te{v:VL}{o:yY}{Q:Option Int->SD->Prop}(p:IsPart v o)(h:Q o s):wpAny AS A (Builtin.Slice.slicePartIndex v) Q E s:=by
 cases p with
 |none=>exact slicePart_none h
 |int i t=>exact slicePart_int h
def SR{sl:AD}{U T:VL}{lo hi:yY}{n:Nat}{Q:Int×Int×Nat->SD->Prop}(hs:s.heap.IsSliceOf sl U T .none)(Z:IsPart U lo)(Y:IsPart T hi) (h:Q (zDP,1,B9 n n hi-B9 n 0 lo) s):wpAny AS A (Builtin.Slice.sliceApplied (.ref sl) (pure (n:Int))) Q E s:=by
 obtain⟨os,g,hcs,R⟩:=id hs;unfold Builtin.Slice.sliceApplied Builtin.Slice.sliceFields;refine Wb (Wb (ag g R (x:=U) rfl (Wb (ag g R (x:=T) rfl (Wb (ag g R (x:=.none) rfl Oz))))));refine Wb (slicePart_none ?_);show wpAny _ _ (if((1:Int)==0)=true then _ else _) _ _ s;rw[if_neg AT];refine Wb (Te Z (Wb (Te Y (Wb Oz))));show wpAny _ _ (match Builtin.Slice.sliceAdjust lo hi 1 (n:Int) with|(lo,hi)=>pure (lo,(1:Int),Builtin.Slice.slicePlaces lo hi 1)) _ _ s;rw[dk lo hi n];show wpAny _ _ (pure (zDP,(1:Int),Builtin.Slice.slicePlaces zDP ((B9 n n hi:Nat):Int) 1)) _ _ s;rw[dA];exact aA h
def ji(xs:re)(i k:Nat):((List.range k).filterMap fun(m:Nat)=>xs[((i:Int)+(m:Int)*1).toNat]?).toArray=((xs.toList.drop i).take k).toArray:=by
 have e:(fun(m:Nat)=>xs[((i:Int)+(m:Int)*1).toNat]?)=fun m=>xs[i+m]? := by
  funext m
  have:((i:Int)+(m:Int)*1).toNat=i+m:=by lia
  rw[this]
 rw[e];have:=pick_run xs i k;rw[List.filterMap_map]at this;have g:((fun x=>xs[x]?) ∘ fun x=>i+x)=fun m=>xs[i+m]?:=rfl;rw[g]at this;rw[this]
def Qm{t sl:AD}{items:re}{vl vu:VL}{lo hi:yY}{Q:yO}(R:IsTup s.heap t items)(hs:s.heap.IsSliceOf sl vl vu .none)(pl:IsPart vl lo)(pu:IsPart vu hi) (hw:¬(B9 items.size 0 lo=0/\B9 items.size items.size hi=items.size)) (h:Q EK {s with heap:=s.heap.push { cls:=.type "tuple",data:=.seq ((items.toList.drop (B9 items.size 0 lo)).take Sc).toArray} }) (hsz:items.size<=sizeLine):wpAny AS A (getItem (.ref t) (.ref sl)) Q E s:=by
 have g:sizeOk (.seq ((items.toList.drop (B9 items.size 0 lo)).take Sc).toArray):=by
  show((items.toList.drop (B9 items.size 0 lo)).take Sc).toArray.size<=sizeLine;rw[List.size_toArray,List.length_take,List.length_drop,Array.length_toList]
  lia
 have hj:B9 items.size items.size hi<=items.size:=rh _ _ RW hi;obtain⟨os,T,Y,hds⟩:=id hs;have Z:s.TypeIs (.ref sl) "slice" := ⟨os,T,Y⟩;unfold getItem
 try with_reducible refine aS ?_
 first|refine Wb Oz|skip
 refine Wb (wpAny_sequenceKey R.typeIs AT ?_);refine Wb (ak (name:=Str.ofString "__getitem__") R.typeIs PyProof.Rows.slot_tuple_getitem
  (ae PyProof.Rows.slot_tuple_getitem R.typeIs entry_tuple_getitem ?_ (args_tuple_getitem _ _)))
 show wpAny _ _ (Builtin.Tuple.tupleItemsOf (.ref t)>>=_) _ _ s;refine Wb (tupleItemsOf_ R ?_);refine Wb (wpAny_typeOf Z ?_);rw[if_pos AT];refine Wb (SR hs pl pu ?_);have U:¬((zDU==0&&(1:Int)==1&&Sc==items.size)=true):=by
  intro q;rw[Bool.and_eq_true,Bool.and_eq_true]at q;have q1:zDU=0:=eq_of_beq q.1.1;have q2:B9 items.size items.size hi-B9 items.size 0 lo=items.size:=eq_of_beq q.2;exact hw ⟨by lia,by lia⟩
 show wpAny _ _ (if(zDU==0&&(1:Int)==1&&Sc==items.size)=true then _ else _) _ _ s;rw[if_neg U,ji]
 first
  |exact Wb (m:=Builtin.Tuple.tupleExact _) (bC zAa g)
  |exact Wb (m:=Builtin.Tuple.tupleExact _) (bC (Wb (aA zAa)) g)
  |exact Wb (Wb (m:=Builtin.Tuple.tupleExact _) (bC (aA zAa) g))
  |exact Wb (Wb (m:=Builtin.Tuple.tupleExact _) (bC zAa g))
end
end HT
namespace L2
open PySem PySem.Spec PyProof.Rows
abbrev TO:=St->Hp->(Option Int->Hp->Prop)->Prop
def PO(X:Cx)(e:Option Expr)(t:TO):Prop :=
 ∀(pins:DH) (s:SD) (σ:St) (H:Hp) (Q:Option Int->Hp->Prop),Inv X pins σ H s->t σ H Q ->
  wpAny Ci X.A (evalPart e X.env) (fun u s'=>∃o H',Inv X pins σ H' s'/\IsPart u o/\Q o H') X.xe s
def lW:TO:=fun _ H Q=>Q none H
def vB(t:TE):TO:=fun σ H Q=>t σ H fun x g=>∃i,x=.int i/\Q (some i) g
def intsAre_of{ns:yT}:∀ {us:yN},Vals SC us->IntsAre us ns:=by
 induction ns with
 |nil=>intro us r;rw[List.map_nil]at r;cases r;exact .nil
 |cons n ns T=>
  intro us r;rw[List.map_cons]at r;cases r with
  |cons R g=>
   obtain⟨t,e⟩:=R;subst e;exact .cons n t (T g)
section
variable{X:Cx}{e:Expr}{te:TE}{lo hi:Option Expr}{tl th:TO}{pos p2:Pos}
def nq:PO X none lW:=by
 intro pins s σ H Q I h;rw[evalPart_none];exact aA ⟨none,H,I,.none,h⟩
def mm(h:PE X e te):PO X (some e) (vB te):=by
 intro pins s σ H Q I R;rw[evalPart_some];refine BW (h pins s σ H _ I R) fun u s1 ⟨x,U,T,g,q1⟩=>?_;obtain⟨i,rfl,q⟩:=q1;obtain⟨t,rfl⟩:=g;exact⟨some i,U,T,.int i t,q⟩
def YY(X:Cx)(r:ym):Prop :=
 ∀(pins:DH) (s:SD) (σ:St) (H:Hp) (x:V) (v R g:VL) (lo hi:Option Int) (sl:AD) (Q:VK),Inv X pins σ H s->RelV x v->s.heap.IsSliceOf sl R g .none->IsPart R lo->IsPart g hi->r x lo hi H Q ->
  ∃T id,typeLookup (.type T) "__getitem__" = pure (some zAA)/\s.TypeIs v T/\wpAny Ci X.A (getItem v (.ref sl)) T0 X.xe s
def YY.or{r U:ym}(h:YY X r)(h':YY X U):YY X (fun x lo hi H Q=>r x lo hi H Q\/U x lo hi H Q):=by
 intro pins s σ H x v R g lo hi sl Q I T hs Z Y q;rcases q with q|q
 .exact h pins s σ H x v R g lo hi sl Q I T hs Z Y q
 .exact h' pins s σ H x v R g lo hi sl Q I T hs Z Y q
def yD(r:ym)(te:TE)(tl th:TO):TE:=fun σ H Q=>te σ H fun x T=>tl σ T fun l R=>th σ R fun u g=>r x l u g Q
def ir{r:ym}(hr:YY X r)(he:PE X e te)(hl:PO X lo tl)(hu:PO X hi th):PE X (.Subscript e (.Slice lo hi none p2) pos) (yD r te tl th):=by
 intro pins s σ H Q I h;refine Subscript_ (BW zAf fun v s1 ⟨x,H1,I1,Z,q1⟩=>?_);refine wpAny_Slice (BW (hl pins s1 σ H1 _ I1 q1) fun U s2 ⟨l,H2,I2,pl,q2⟩=>BW (hu pins s2 σ H2 _ I2 q2) fun R g ⟨u,Y,I3,pu,q3⟩=>?_);rw[evalPart_none];refine aA ?_;have I4:Inv X pins σ Y iF:=I3.kept (t':=g.toks) fun b ob q=>aE _ q;obtain⟨T,id,hT,ht,hg⟩:=hr pins iF σ Y x v U R l u g.heap.objs.size Q I4 Z (Heap.IsSliceOf.new ..) pl pu q3;show wpAny Ci X.A (subscriptTail e (.Slice lo hi none p2) v (.ref g.heap.objs.size)) T0 X.xe iF;exact tail_any (ops:=[.ref g.heap.objs.size,v]) ht hT hg (by with_unfolding_all rfl)
def QT(xs:yb)(lo hi:yY):yb:=(xs.drop zCp).take gv
def Q2(xs:yb)(lo hi:yY):(QT xs lo hi).length<=xs.length:=by
 unfold QT;rw[List.length_take,List.length_drop]
 lia
def wC(K:Fg):V->Option Int->Option Int->Hp->VK->Prop:=fun x lo hi H Q=>∃a xs,x=.ref a/\BL K H a xs /\
 ¬zCd/\∀p,H p=none->Q xT (upd H p (.tup (QT xs lo hi)))
def rq:YY X (wC X.K):=by
 intro pins s σ H x v vl vu lo hi sl Q I Y hs pl Z h;obtain⟨a,xs,rfl,hx,hw,q⟩:=h;cases Y;obtain⟨R,r,U,T⟩:=I.tuple hx;have g:R.toArray.size=xs.length:=by rw[List.size_toArray];exact r.length.symm
 refine⟨"tuple",_,PyProof.Rows.slot_tuple_getitem.lookup,U.typeIs,?_⟩;refine HT.Qm U hs pl Z (by rw[g];exact hw) ?_ (by rw[g];exact T);rw[g];refine⟨.ref s.heap.objs.size,_,I.laid (t':=s.toks) (o:=.tup (QT xs lo hi)) zDp RW ?_,rfl,q _ (I.A5.fresh RW)⟩;exact⟨aT (Q2 xs lo hi) T,_,(r.drop zCp).take gv,IsTup.new _ _⟩
def Vals.Zw{xs:yb}{us:yN}(r:Vals xs us):us=[] ↔ xs=[]:=by
 cases r with
 |nil=>simp
 |cons _ _=>simp
end
def RD(n:Nat)(i:Int):Option Nat:=if 0<=i then(if i<n then some i.toNat else none) else if -(n:Int)<=i then some (i+n).toNat else none
def Ht{α:Type}(xs:lX)(i:Int):Option α:=(RD xs.length i).bind fun j=>xs[j]?
def Zh{n:Nat}{i:Int}{j:Nat}(h:RD n i=some j):seqIndex? i n=some j/\j<n/\-(n:Int)<=i/\i<n:=by
 unfold RD at h;by_cases h0:0<=i
 .rw[if_pos h0]at h;by_cases g:i<n
  .rw[if_pos g]at h;have e:i.toNat=j:=ah h;exact⟨by rw[seqIndex_of h0 g,e],by lia,by lia,g⟩
  .rw[if_neg g]at h;cases h
 .rw[if_neg h0]at h;by_cases g:-(n:Int)<=i
  .rw[if_pos g]at h;have e:(i+n).toNat=j:=ah h;exact⟨by rw[seqIndex_neg AC g,e],by lia,g,by lia⟩
  .rw[if_neg g]at h;cases h
def UI{α:Type}{xs:lX}{i:Int}{v:α}(h:Ht xs i=some v):∃j,seqIndex? i xs.length=some j/\xs[j]? = some v/\j<xs.length/\-(xs.length:Int)<=i/\i<xs.length:=by
 unfold Ht at h;cases e:RD xs.length i with
 |none=>rw[e]at h;cases h
 |some j=>
  rw[e]at h;obtain⟨U,T,R,g⟩:=Zh e;exact⟨j,U,h,T,R,g⟩
def Ze{α:Type}{xs:lX}{j:Nat}{v:α}(h:xs[j]? = some v):Ht xs (j:Int)=some v:=by
 have g:j<xs.length:=(aD.mp h).1;have e:RD xs.length (j:Int)=some j:=by
  unfold RD;rw[if_pos AC,if_pos AC];simp
 unfold Ht;rw[e];exact h
def i9{α:Type}(xs:lX)(v:α):Ht (xs++[v]) (-1)=some v:=by
 have g:(xs++[v]).length=xs.length+1:=by simp
 have e:RD (xs++[v]).length (-1)=some xs.length:=by
  unfold RD;rw[g,if_neg AT,if_pos AC]
  congr 1
  lia
 unfold Ht;rw[e];show(xs++[v])[xs.length]? = some v;simp
def Zl(b:Expr):Prop:=∀o i,subscripted b false o i=operate [o,i] (getItem o i)
def RI(X:Cx)(r:R2):Prop :=
 ∀(value slice:Expr) (pins:DH) (s:SD) (σ:St) (H:Hp) (x y:V) (v u:VL) (Q:VK),Inv X pins σ H s->RelV x v->RelV y u->r x y H Q ->
  subscripted slice false v u=operate [v,u] (getItem v u)->wpAny Ci X.A (subscriptTail value slice v u) T0 X.xe s
def qv(X:Cx)(id:zAG)(r:zCj):Prop :=
 ∀(pins:DH) (s:SD) (σ:St) (H:Hp) (x:V) (xs:Jh) (v:VL) (us:LY) (Q:VK),Inv X pins σ H s->RelV x v->Vals xs us->r x xs H Q ->
  wpAny Ci X.A (call zAA (v::us)) T0 X.xe s
section
variable{X:Cx}{a b:Expr}{ta tb:TE}{pos:Pos}
def RI.or{r T:R2}(h:RI X r)(h':RI X T):RI X (fun x y H Q=>r x y H Q\/T x y H Q):=by
 intro value slice pins s σ H x y v u Q I R g q U;rcases q with q|q
 .exact h value slice pins s σ H x y v u Q I R g q U
 .exact h' value slice pins s σ H x y v u Q I R g q U
def FT{r:R2}(U:RI X r)(ha:PE X a ta)(Y:PE X b tb)(T:Zl b):PE X (.Subscript a b pos) (fG r ta tb):=by
 intro pins s σ H Q I h;exact Subscript_ (jx ha Y I h fun v u s2 x y H2 Z R g q=>U a b pins s2 σ H2 x y v u Q Z R g q (T _ _))
def oV(K:Fg):R2:=fun x y H Q=>∃p xs i v,x=.ref p/\y=.int i/\Ax K H p xs/\Ht xs i=some v/\Q v H
def jK(K:Fg):R2:=fun x y H Q=>∃p xs i v,x=.ref p/\y=.int i/\BL K H p xs/\Ht xs i=some v/\Q v H
def sm:R2:=fun x y H Q=>∃z i c,x=.str z/\y=.int i/\z.length<=sizeLine/\Ht z.cps.toList i=some c/\Q (.str ⟨#[c]⟩) H
def ZZ:RI X (oV X.K):=by
 intro value slice pins s σ H x y v u Q I rx ry h Z;obtain⟨p,xs,i,z,rfl,rfl,hq,he,q⟩:=h;cases rx;obtain⟨t,rfl⟩:=ry;obtain⟨U,r,T,hz⟩:=I.list hq;obtain⟨j,g,h2,h3,h4,h5⟩:=UI he;obtain⟨w,ew,R⟩:=r.get h2;have hl:=r.length;have hn:=NM;have fin:EP X pins σ Q w s:=⟨z,H,I,R,q⟩;by_cases h0:0<=i
 .have Y:i.toNat=j:=by
   rw[seqIndex_of h0 h5]at g;exact ah g
  exact item_listR T.isList h0 AC (by rw[Y];simpa using ew) fin Z
 .have Y:(i+(U.toArray.size:Int)).toNat=j:=by
   rw[seqIndex_neg AC h4]at g;rw[List.size_toArray,<-hl];exact ah g
  exact subscriptTail_builtinR (x:=w) T.isList.typeIs slot_list_getitem.lookup
   (wpAny_getItem_list_neg (Q:=fun r s'=>r=w/\EP X pins σ Q r s') T.isList AC zCq AC (by rw[Y];simpa using ew) ⟨rfl,fin⟩) Z
def IM:RI X (jK X.K):=by
 intro value slice pins s σ H x y v u Q I U T h Z;obtain⟨p,xs,i,z,rfl,rfl,hq,he,q⟩:=h;cases U;obtain⟨t,rfl⟩:=T;obtain⟨Y,r,R,hz⟩:=I.tuple hq;obtain⟨j,h1,h2,h3,h4,h5⟩:=UI he;obtain⟨w,ew,g⟩:=r.get h2;have hl:=r.length;have hn:=NM;have fin:EP X pins σ Q w s:=⟨z,H,I,g,q⟩;exact subscriptTail_builtinR (x:=w) R.typeIs slot_tuple_getitem.lookup
  (getItem_tuple (j:=j) (Q:=fun r s'=>r=w/\EP X pins σ Q r s') R AC AC (by rw[List.size_toArray,<-hl];exact h1) (by simpa using ew) ⟨rfl,fin⟩) Z
def sU:RI X sm:=by
 intro value slice pins s σ H x y v u Q I T R h U;obtain⟨z,i,c,rfl,rfl,hz,Z,q⟩:=h;obtain⟨t,rfl⟩:=T;obtain⟨t',rfl⟩:=R;obtain⟨j,g,h2,h3,h4,h5⟩:=UI Z;have Y:z.cps.toList.length=z.length:=by simp[Str.length]
 rw[Y]at g h4 h5;have hn:=NM;exact tail_any (typeIs_str s z t) slot_str_getitem.lookup (getItem_str (c:=c) (by
  have e1:decide (i < -(2^63:Int))=false:=bF AC;have e2:decide (i >= 2^63)=false:=bF AC;rw[e1,e2,Bool.or_false]) (by rw[g];simpa using h2) ⟨.str ⟨#[c]⟩,H,I.tok _,⟨_,rfl⟩,q⟩) U
def xn(K:Fg):R2:=fun x y H Q=>oV K x y H Q\/jK K x y H Q\/sm x y H Q
def oI:RI X (xn X.K):=ZZ.or (IM.or sU)
def dr(g:yN)(n j:Nat)(u:VL):Obj.mapSeq (·.setIfInBounds j u) { cls:=.type "list",data:=.seq g.toArray n}={ cls:=.type "list",data:=.seq (g.set j u).toArray n}:=by
 simp[Obj.mapSeq]
def Inv.lst{pins:DH}{σ:St}{H:Hp}{s:SD}{p:AD}{xs:yb}(I:By)(h:H p=some KT):∃(g:yN) (n:Nat),Vals xs g/\s.heap.get? p=some { cls:=.type "list",data:=.seq g.toArray n}/\xs.length<=sizeLine:=by
 obtain⟨z,g,n,r,e⟩:=I.A5 p _ h;exact⟨g,n,r,e,z⟩
def Inv.oU{pins:DH}{σ:St}{H:Hp}{s:SD}{p:AD}{xs ys:yb}{g its':yN}{n R:Nat}{f:Obj->Obj}(I:By)(h:H p=some KT) (U:s.heap.get? p=some { cls:=.type "list",data:=.seq g.toArray n})(T:f { cls:=.type "list",data:=.seq g.toArray n}={ cls:=.type "list",data:=.seq its'.toArray R})(r:Vals ys its')(hz:ys.length<=sizeLine)(t:Nat):Inv X pins σ (upd H p Ix) {s with heap:=s.heap.update p f,toks:=t}:=by
 have e:(s.heap.update p f).get? p=some { cls:=.type "list",data:=.seq its'.toArray R}:=by
  rw[Heap.get?_update_self f U (by rw[T]<;>rfl),T]
 refine I.write (x:=p) (e:=p) (by rw[h];trivial) SZ (fun b u Y q=>(Heap.get?_update_other _ _ (Ne.symm Y)).trans q) ⟨_,e⟩ ?_;exact⟨hz,its',R,r,e⟩
def uI:V->V->V->Hp->(Hp->Prop)->Prop:=fun o i v H Q=>∃p xs k j,o=.ref p/\i=.int k/\H p=some KT/\RD xs.length k=some j/\Q (upd H p (.lst (xs.set j v)))
def set_list:il X uI:=by
 intro pins s σ H o i v ov iv u Q I ro ri rv h;obtain⟨p,xs,k,j,rfl,rfl,Z,hj,q⟩:=h;cases ro;obtain⟨t,rfl⟩:=ri;obtain⟨g,n,r,T,hz⟩:=I.lst Z;obtain⟨R,h2,h3,h4⟩:=Zh hj;have U:=r.length;have hn:=NM;have I':Inv X pins σ (upd H p (.lst (xs.set j v))) {s with heap:=s.heap.update p (Obj.mapSeq (·.setIfInBounds j u))} :=
  I.oU Z T (dr g n j u) (r.set rv j) (by rw[List.length_set];exact hz) s.toks
 by_cases h0:0<=k
 .have Y:k.toNat=j:=by
   rw[seqIndex_of h0 h4]at R;exact ah R
  exact PySem.W.ki_setAt T h0 AC (by rw[List.size_toArray,<-U];exact h4) (by rw[Y];exact⟨_,I',q⟩)
 .have Y:(k+(g.toArray.size:Int)).toNat=j:=by
   rw[seqIndex_neg AC h3]at R;rw[List.size_toArray,<-U];exact ah R
  exact PySem.W.ki_setBack T AC (by rw[List.size_toArray,<-U];exact h3) AC (by rw[Y];exact⟨_,I',q⟩)
def XY(lo hi:yY)(n:Nat):(sliceBounds lo hi none n).1=((HT.B9 n 0 lo:Nat):Int)/\(sliceBounds lo hi none n).2.1=((HT.B9 n n hi:Nat):Int)/\(sliceBounds lo hi none n).2.2=1:=by
 refine⟨?_,?_,rfl⟩
 .cases lo with
  |none=>simp[sliceBounds,HT.B9]
  |some i=>
   simp only[sliceBounds,HT.B9,Option.getD_none,show(1:Int) > 0 by decide,if_true];by_cases h:i<0
   .simp only[h,if_true]<;>lia
   .simp only[h,if_false]<;>lia
 .cases hi with
  |none=>simp[sliceBounds,HT.B9]
  |some i=>
   simp only[sliceBounds,HT.B9,Option.getD_none,show(1:Int) > 0 by decide,if_true];by_cases h:i<0
   .simp only[h,if_true]<;>lia
   .simp only[h,if_false]<;>lia
def V5(g:yN)(lo hi:yY):slicePick g.toArray lo hi none=((g.drop (HT.B9 g.length 0 lo)).take (HT.B9 g.length g.length hi-HT.B9 g.length 0 lo)).toArray:=by
 obtain⟨U,T,R⟩:=XY lo hi g.toArray.size;unfold slicePick;rw[U,T,R];simp only[sliceRange_one,pick_run,List.size_toArray]<;>rfl
def xU(K:Fg):V->Option Int->Option Int->Hp->VK->Prop:=fun x lo hi H Q=>∃a xs,x=.ref a/\Ax K H a xs/\∀p,H p=none->Q xT (upd H p (.lst (QT xs lo hi)))
def l9:YY X (xU X.K):=by
 intro pins s σ H x v vl vu lo hi sl Q I T hs Y U h;obtain⟨a,xs,rfl,hx,q⟩:=h;cases T;obtain⟨Z,r,R,hz⟩:=I.list hx;have g:=r.length;refine⟨"list",_,slot_list_getitem.lookup,R.isList.typeIs,?_⟩;refine wpAny_getItem_list_slice R.isList hs Y U .none At ?_ zCq;rw[V5,<-g];refine⟨.ref s.heap.objs.size,_,I.laid (t':=s.toks) (o:=.lst (QT xs lo hi)) zDp RW ?_,rfl,q _ (I.A5.fresh RW)⟩;exact⟨aT (Q2 xs lo hi) hz,_,0,(r.drop zCp).take gv,Heap.get?_push_size _ rfl⟩
def LD:V->Bool
 |.BN=>true
 |.bl _=>true
 |.int _=>true
 |.str _=>true
 |_=>false
def VJ:V->V->Bool
 |.BN,.BN=>true
 |.bl a,.bl b=>a==b
 |.bl a,.int b=>(if a then 1 else 0)==b
 |.int a,.bl b=>a==(if b then 1 else 0)
 |.int a,.int b=>a==b
 |.str a,.str b=>a==b
 |_,_=>false
def pI{A:Ki}{s:SD}{y x:V}{u v:VL}(T:RelV y u)(g:RelV x v)(Y:LD y=true)(U:LD x=true):SeqAt.EqAt A s u v (VJ y x):=by
 cases y with
 |BN=>
  cases T;cases x with
  |BN=>cases g;exact SeqAt.EqAt.same _
  |bl b=>cases g;exact SeqAt.EqAt.none_bool b
  |int b=>obtain⟨t,rfl⟩:=g;exact SeqAt.EqAt.none_int b t
  |str b=>obtain⟨t,rfl⟩:=g;exact SeqAt.EqAt.none_str b t
  |_=>exact absurd (show false=true from U) aK
 |bl a=>
  cases T;cases x with
  |BN=>cases g;exact SeqAt.EqAt.bool_none a
  |bl b=>cases g;exact SeqAt.EqAt.bool_bool a b
  |int b=>obtain⟨t,rfl⟩:=g;exact SeqAt.EqAt.bool_int a b t
  |str b=>obtain⟨t,rfl⟩:=g;exact SeqAt.EqAt.bool_str a b t
  |_=>exact absurd (show false=true from U) aK
 |int a=>
  obtain⟨R,rfl⟩:=T;cases x with
  |BN=>cases g;exact SeqAt.EqAt.int_none a R
  |bl b=>cases g;exact SeqAt.EqAt.int_bool a R b
  |int b=>obtain⟨t,rfl⟩:=g;exact SeqAt.EqAt.int_int a R b t
  |str b=>obtain⟨t,rfl⟩:=g;exact SeqAt.EqAt.int_str a R b t
  |_=>exact absurd (show false=true from U) aK
 |str a=>
  obtain⟨R,rfl⟩:=T;cases x with
  |BN=>cases g;exact SeqAt.EqAt.str_none a R
  |bl b=>cases g;exact SeqAt.EqAt.str_bool a R b
  |int b=>obtain⟨t,rfl⟩:=g;exact SeqAt.EqAt.str_int a R b t
  |str b=>obtain⟨t,rfl⟩:=g;exact SeqAt.EqAt.str_str a R b t
  |_=>exact absurd (show false=true from U) aK
 |_=>exact absurd (show false=true from Y) aK
def Th(x:V)(u:VL):Bool:=match u with
 |.none=>VJ .BN x
 |.bool b=>VJ (.bl b) x
 |.int i _=>VJ pp x
 |.str z _=>VJ (.str z) x
 |_=>false
def fY{x y:V}{u:VL}(r:RelV y u)(f:LD y=true):Th x u=VJ y x:=by
 cases y with
 |BN=>cases r;rfl
 |bl b=>cases r;rfl
 |int i=>obtain⟨t,rfl⟩:=r;rfl
 |str z=>obtain⟨t,rfl⟩:=r;rfl
 |_=>exact absurd (show false=true from f) aK
def Uc{x:V}:∀ {xs:Jh} {us:LY},Vals xs us->xs.all LD=true->us.any (Th x)=xs.any fun y=>VJ y x
 |_,_,.nil,_=>rfl
 |y::xs,u::us,.cons r t,f=>by
  rw[List.all_cons,Bool.and_eq_true]at f;rw[List.any_cons,List.any_cons,fY r f.1,Uc t f.2]
def Rn{A:Ki}{s:SD}{x:V}{v:VL}(R:RelV x v)(T:LD x=true):∀ {xs:Jh} {us:LY},Vals xs us->xs.all LD=true->∀u∈us,SeqAt.EqAt A s u v (Th x u)
 |_,_,.nil,_=>fun u g=>by cases g
 |y::xs,u::us,.cons r t,f=>fun U g=>by
  rw[List.all_cons,Bool.and_eq_true]at f;rcases aM.mp g with rfl|g
  .rw[fY r f.1];exact pI r R f.1 T
  .exact Rn R T t f.2 U g
def kG(x:V)(xs:yb):Bool:=xs.any fun y=>VJ y x
def vQ(K:Fg)(neg:Bool):R2:=fun x y H Q=>∃p xs,y=.ref p/\(Ax K H p xs\/BL K H p xs)/\LD x=true/\xs.all LD=true/\Q (.bl (if neg then !kG x xs else kG x xs)) H
def Xa:De X (compareOp .NotIn) (vQ X.K true):=by
 intro pins s σ H x y v u Q I Y ry h;obtain⟨p,xs,rfl,R,Z,fs,q⟩:=h;cases ry;rcases R with R|R
 .obtain⟨g,r,T,hz⟩:=I.list R;refine SeqAt.notIn_listAt (Th x) T.isList (fun w U=>Rn Y Z r fs w zAi) ⟨.bl _,H,I,rfl,?_⟩;rw[show g.toArray.any (Th x)=g.any (Th x) by simp,Uc r fs];exact q
 .obtain⟨g,r,T,hz⟩:=I.tuple R;refine SeqAt.notIn_tupleAt (Th x) T (fun w U=>Rn Y Z r fs w zAi) ⟨.bl _,H,I,rfl,?_⟩;rw[show g.toArray.any (Th x)=g.any (Th x) by simp,Uc r fs];exact q
def JK:FW X (.builtin "len") (fun xs H Q=>∃p ys,xs=[.ref p]/\(Ax X.K H p ys\/BL X.K H p ys)/\Q (.int ys.length) H):=by
 intro pins s σ H xs us Q I r h;obtain⟨p,ys,rfl,R,q⟩:=h;obtain⟨u,rfl,Z⟩:=vals1 r;cases Z;have hn:=NM;rcases R with R|R
 .obtain⟨Y,T,U,hz⟩:=I.list R;have g:=T.length;exact Calls.call_len_list U.isList zBN ⟨.int ys.length,H,I.tok _,⟨s.toks+1,by rw[List.size_toArray,g]⟩,q⟩
 .obtain⟨Y,T,U,hz⟩:=I.tuple R;have g:=T.length;exact len_tuple U zBN ⟨.int ys.length,H,I.tok _,⟨s.toks+1,by rw[List.size_toArray,g]⟩,q⟩
def FW.or{f:VL}{r g:zEG}(h:FW X f r)(h':FW X f g):FW X f (fun xs H Q=>r xs H Q\/g xs H Q):=by
 intro pins s σ H xs us Q I rs q;rcases q with q|q
 .exact h pins s σ H xs us Q I rs q
 .exact h' pins s σ H xs us Q I rs q
def V4:FW X Gf (fun xs H Q=>∃p ys,xs=[.ref p]/\((Ax X.K H p ys/\∀l,H l=none->Q SY (upd H l zCV))\/(BL X.K H p ys/\Q xT H))):=by
 intro pins s σ H xs us Q I r h;obtain⟨p,ys,rfl,h⟩:=h;obtain⟨u,rfl,rx⟩:=vals1 r;cases rx;rcases h with ⟨U,q⟩|⟨U,q⟩
 .obtain⟨g,R,T,Y⟩:=I.list U;have Z:=R.length;refine call_tuple_list T.isList (fun h' kp=>?_) zBN;have I1:Inv X pins σ H M0:=I.kept (t':=s.toks) kp;have I2:Inv X pins σ (upd H h'.objs.size zCV) {s with heap:=h'.push { cls:=.type "tuple",data:=.seq g.toArray} } :=
   I1.laid (t':=s.toks) (fun b o e=>aE _ e) RW (show EE X.prog X.w _ _ _ zCV from⟨Y,g,R,IsTup.new _ _⟩)
  exact⟨.ref h'.objs.size,_,I2,rfl,q _ (I1.A5.fresh RW)⟩
 .obtain⟨g,R,T,Y⟩:=I.tuple U;exact call_tuple_same T ⟨.ref p,H,I,rfl,q⟩
def ve(K:Fg)(T:zAG)(x:V)(H:Hp):Prop:=match x with
 |.str _=>T = "str"
 |.int _=>T = "int"
 |.ref p=>(T = "list" /\ ∃xs,Ax K H p xs)\/(T = "tuple" /\ ∃o,K.lookup p=some o/\o.cls=.type "tuple" /\ o.dict=none) \/
   (T = "dict" /\((∃kvs,H p=some (.dK kvs))\/∃kvs,H p=some (.dT kvs)))\/(T = "set" /\ ∃S n,H p=some (.set S n))
 |_=>False
def sE{pins:DH}{σ:St}{H:Hp}{s:SD}{T:zAG}{x:V}{v:VL}(I:By)(r:RelV x v)(ty:ve X.K T x H):s.TypeIs v T/\∀a,v=.ref a->∃ob,s.heap.get? a=some ob/\ob.dict=none:=by
 cases x with
 |str z=>
  obtain⟨t,rfl⟩:=r;cases (show T = "str" from ty);exact⟨typeIs_str s z t,fun _ e=>nomatch e⟩
 |int i=>
  obtain⟨t,rfl⟩:=r;cases (show T = "int" from ty);exact⟨typeIs_int s i t,fun _ e=>nomatch e⟩
 |ref p=>
  cases r;rcases ty with ⟨rfl,xs,Z⟩|⟨rfl,o,g,hc,hd⟩|⟨rfl,g⟩|⟨rfl,S,n,g⟩
  .obtain⟨Y,_,U,_⟩:=I.list Z;refine⟨U.isList.typeIs,fun a e=>?_⟩;cases e;obtain⟨o,n,e,c,hd,_⟩:=U;exact⟨o,e,hd⟩
  .refine⟨⟨o,I.Kd p o g,hc⟩,fun a e=>?_⟩;cases e;exact⟨o,I.Kd _ o g,hd⟩
  .have z:∃o,s.heap.get? p=some o/\o.ExactDict:=by
    rcases g with ⟨kvs,g⟩|⟨kvs,g⟩
    .obtain⟨_,_,_,_,o,_,_,e,ex,_⟩:=I.A5 p _ g;exact⟨o,e,ex⟩
    .obtain⟨_,_,_,_,o,_,_,e,ex,_⟩:=I.A5 p _ g;exact⟨o,e,ex⟩
   obtain⟨o,e,ex⟩:=z;refine⟨⟨o,e,ex.1⟩,fun a R=>?_⟩;cases R;exact⟨o,e,ex.2.1⟩
  .obtain⟨o,_,_,_,e,ex,_⟩:=I.A5 p _ g;refine⟨⟨o,e,ex.1⟩,fun a R=>?_⟩;cases R;exact⟨o,e,ex.2.1⟩
 |_=>exact False.elim ty
def qA(K:Fg)(T:zAG)(r:zCj)(R:TE)(t:TA):TE:=fun σ H Q=>R σ H fun x g=>ve K T x g/\t σ g fun xs U=>r x xs U Q
variable{o e:Expr}{es:yV}{to:TE}{t:TA}{name:Str}{apos cpos:Pos}{T id:zAG}{r:zCj}
def IU(pa:PlainAttrs T)(slot:Slot T name id)(Z:typeOf zAA=pure (.type "method_descriptor"))(hm:qv X id r)(ho:PE X o to)(ha:PA X Op t) (U:attributeBase o name X.env (eval o X.env)=eval o X.env:=by rfl) (Y:((backTo cpos (starEach Op X.env)).all (fun x=>!x.1)&&(backToKw cpos (keywordEach [] X.env)).all (fun x=>x.1.isSome) && decide ((e::es).length+([]:List Keyword).length+(if([]:List Keyword).isEmpty then 0 else 1)<30))=true:=by rfl) (R:(apos.endLine==cpos.line)=true:=by rfl)(hs:starEach Op X.env=IJ::starEach es X.env:=by rfl)(g:(backTo cpos Nm).any Nh=false:=by rfl):PE X (.Call (.Attribute o name apos) Op [] cpos) (qA X.K T r to t):=by
 intro pins s σ H Q I h;refine wpAny_Call_method_late U Y R rfl (BW (ho pins s σ H _ I h) fun v s1 ⟨x,H1,I1,r1,ty,q1⟩=>?_);obtain⟨h1,h2⟩:=sE I1 r1 ty;refine⟨T,id,pa,slot,Z,h1,h2,?_⟩;have hA:=ha cpos pins s1 σ H1 _ I1 q1;rw[hs]at hA ⊢;refine Calls.callWith_builtin (by show(false||(backTo cpos Nm).any Nh)=false;rw[g]<;>rfl) (Calls.evalArgs_plain ?_);exact BW hA fun us s2 ⟨vs,H2,I2,r2,q2⟩=>hm pins s2 σ H2 x vs v us Q I2 r1 r2 q2
end
def vi(X:Cx)(id:zAG)(r:zCj):Prop :=
 ∀(pins:DH) (s:SD) (σ:St) (H:Hp) (x:V) (xs:Jh) (v:VL) (us:LY) (Q:VK),Inv X pins σ H s->RelV x v->Vals xs us->r x xs H Q ->
  wpAny Ci X.A (call zAA (v::us)) T0 X.xe s
def Vals.one:∀ {x:V} {us:LY},Vals [x] us->∃u,us=[u]/\RelV x u
 |_,_,.cons r .nil=>⟨_,rfl,r⟩
def Vals.two:∀ {x y:V} {us:LY},Vals [x,y] us->∃u v,us=[u,v]/\RelV x u/\RelV y v
 |_,_,_,.cons r (.cons q .nil)=>⟨_,_,rfl,r,q⟩
def Vals.reverse{xs:yb}{us:yN}(h:Vals xs us):Vals xs.reverse us.reverse:=by
 induction h with
 |nil=>exact .nil
 |cons r t g=>rw[List.reverse_cons,List.reverse_cons];exact Vals.append g (.cons r .nil)
def Vals.rep{xs:Jh}{us:LY}(h:Vals xs us):∀k:Nat,Vals (List.replicate k xs).flatten (List.replicate k us).flatten
 |0=>.nil
 |k+1=>by
  rw[List.replicate_succ,List.replicate_succ,List.flatten_cons,List.flatten_cons];exact Vals.append h (Vals.rep h k)
def foldl_rep(g:LY):∀(k:Nat) (R:LY),
  List.foldl (fun U T=>U++T) R.toArray (List.replicate k g.toArray)=(R++(List.replicate k g).flatten).toArray
 |0,R=>by simp
 |k+1,R=>by
  have e:R.toArray++g.toArray=(R++g).toArray:=by simp
  have Y:(R++g)++(List.replicate k g).flatten=R++(List.replicate RJ g).flatten:=by
   rw[List.replicate_succ,List.flatten_cons,List.append_assoc]
  rw[<-Y,<-foldl_rep g k (R++g),<-e,List.replicate_succ,List.foldl_cons]
section
variable{X:Cx}{pins:DH}{σ:St}{H:Hp}{s:SD}{l:AD}{xs ys:yb}
def Inv.pF{g its':yN}{n:Nat}{f:Array VL->Array VL}{t':Nat}(I:By)(Z:H l=some KT) (e:s.heap.get? l=some { cls:=.type "list",data:=.seq g.toArray n})(U:f g.toArray=its'.toArray)(R:Vals ys its')(hz:ys.length<=sizeLine):Inv X pins σ (upd H l Ix) {s with heap:=s.heap.update l (Obj.mapSeq f),toks:=t'}:=by
 have q:=PySem.IsL.update e f;rw[U]at q;refine I.write (x:=l) (e:=l) (by rw[Z];exact trivial) SZ (fun b' u Y T=>(Heap.get?_update_other s.heap (Obj.mapSeq f) (Ne.symm Y)).trans T) ⟨_,q⟩ ?_;exact⟨hz,its',_,R,q⟩
def Inv.rd{g:yN}{t':Nat}(I:By)(R:Vals ys g)(hz:ys.length<=sizeLine):Inv X pins σ (upd H s.heap.objs.size Ix) {s with heap:=s.heap.push { cls:=.type "list",data:=.seq g.toArray},toks:=t'} :=
 I.laid (fun _ _ q=>aE _ q) RW ⟨hz,g,0,R,Heap.get?_push_size _ rfl⟩
def Inv.fresh(I:By):H s.heap.objs.size=none:=I.A5.fresh RW
def Inv.Ul(I:By)(R:H l=some KT):xs.length<=sizeLine/\∃(g:yN) (n:Nat),Vals xs g/\xs.length=g.length/\s.heap.get? l=some { cls:=.type "list",data:=.seq g.toArray n}:=by
 obtain⟨z,g,n,r,e⟩:=I.A5 l _ R;exact⟨z,g,n,r,r.length,e⟩
def WV{n:Nat}(h:n<=sizeLine):Builtin.List.listTooLong n=false:=by
 unfold Builtin.List.listTooLong;exact bF AC
end
section
variable{X:Cx}
def Z8:V->List V->Hp->VK->Prop:=fun x vs H Q=>∃l xs y,x=.ref l/\vs=[y]/\H l=some KT/\xs.length<sizeLine/\Q .BN (upd H l (.lst (xs++[y])))
def GV:vi X "list.append" Z8:=by
 intro pins s σ H x vs v us Q I U Y h;obtain⟨l,xs,y,rfl,rfl,T,hz,q⟩:=h;cases U;obtain⟨u,rfl,Z⟩:=Y.one;obtain⟨z,g,n,r,hl,e⟩:=I.Ul T;refine call_meets F.slot_list_append ⟨_,e,rfl⟩ F.entry_list_append (F.args_list_append_2 _ _) (PySem.list_append l g.toArray n u (by rw[List.size_toArray];lia)) ⟨e,?_⟩;refine⟨.BN,_,I.pF (its':=g++[u]) T e At (r.append (.cons Z .nil)) ?_,rfl,q⟩;rw[List.length_append,List.length_singleton]
 lia
def Zd:V->List V->Hp->VK->Prop:=fun x vs H Q=>∃l b xs g,x=.ref l/\vs=[.ref b]/\H l=some KT/\H b=some (.lst g)/\xs.length+g.length<=sizeLine/\Q .BN (upd H l (.lst (xs++g)))
def PZ:vi X "list.extend" Zd:=by
 intro pins s σ H x vs v us Q I rx rv h;obtain⟨l,b,xs,zs,rfl,rfl,Z,hB,hz,q⟩:=h;cases rx;obtain⟨u,rfl,ru⟩:=rv.one;cases ru;obtain⟨z,R,n,r,hl,e⟩:=I.Ul Z;obtain⟨z2,g,n2,r2,hl2,e2⟩:=I.Ul hB;have U:R.toArray.size+g.toArray.size<=sizeLine:=by rw[List.size_toArray,List.size_toArray];lia
 have T:¬(!R.toArray.isEmpty&&Builtin.List.listTooLong (R.toArray.size+g.toArray.size))=true:=by
  rw[WV U,Bool.and_false];exact aK
 refine call_meets F.slot_list_extend ⟨_,e,rfl⟩ F.entry_list_extend (F.args_list_extend_2 _ _)
  (AutoSeq1.list_extend_list_list_0 l R.toArray n b g.toArray n2 T (by rw[List.size_toArray];lia) AC) ⟨e,e2,?_⟩
 refine⟨.BN,_,I.pF (its':=R++g) Z e At (r.append r2) ?_,rfl,q⟩;rw[List.length_append]
 lia
def wF:R2:=fun x y H Q=>∃l b xs g,x=.ref l/\y=.ref b/\H l=some KT/\H b=some (.lst g)/\xs.length+g.length<=sizeLine/\∀p,H p=none->Q xT (upd H p (.lst (xs++g)))
def gw:De X yx wF:=by
 intro pins s σ H x y v u Q I U T h;obtain⟨l,b,xs,zs,rfl,rfl,hH,hB,hz,q⟩:=h;cases U;cases T;obtain⟨z,R,n,r,hl,e⟩:=I.Ul hH;obtain⟨z2,g,n2,Y,Z,e2⟩:=I.Ul hB;refine PySem.P.add_list e e2 ?_ (by rw[List.size_toArray,List.size_toArray];lia);have ea:R.toArray++g.toArray=(R++g).toArray:=by simp
 rw[ea];exact⟨.ref _,_,I.rd (t':=s.toks) (r.append Y) (by rw[List.length_append];lia),rfl,q _ I.fresh⟩
def wd:R2:=fun x y H Q=>∃l k xs,x=.ref l/\y=.int k/\H l=some KT/\-(2^63)<=k/\k<2^63/\xs.length*k.toNat<=sizeLine /\
 ∀p,H p=none->Q xT (upd H p (.lst (List.replicate k.toNat xs).flatten))
def len_rep{α:Type}(xs:lX)(k:Nat):(List.replicate k xs).flatten.length=k*xs.length:=by
 induction k with
 |zero=>simp
 |succ k g=>rw[List.replicate_succ,List.flatten_cons,List.length_append,g,Nat.succ_mul,Nat.add_comm]
def gO:De X zDV wd:=by
 intro pins s σ H x y v u Q I rx ry h;obtain⟨l,k,xs,rfl,rfl,hH,h1,h2,hz,q⟩:=h;cases rx;obtain⟨t,rfl⟩:=ry;obtain⟨z,g,n,r,hl,e⟩:=I.Ul hH;have Z:g.toArray.size*k.toNat<=sizeLine:=by rw[List.size_toArray,<-hl];exact hz
 have hcap:¬g.toArray.size*k.toNat > (2^63-1) / 8:=by
  have:(sizeLine:Nat)<=(2^63-1) / 8:=by decide
  lia
 have hfit:¬(!Builtin.List.listFitsIndex k)=true:=by
  rw[fitsIndex_both h1 h2];exact aK
 have R:¬Builtin.List.listTooLong (g.toArray.size*k.toNat)=true:=by
  rw[WV Z];exact aK
 have Y:List.foldl (fun x1 x2=>x1++x2) #[] (List.replicate (if g.toArray.isEmpty=true then 0 else k.toNat) g.toArray)=(List.replicate k.toNat g).flatten.toArray:=by
  have f0:∀m:Nat,List.foldl (fun x1 x2=>x1++x2) #[] (List.replicate m g.toArray)=(List.replicate m g).flatten.toArray:=fun m=>by
   have:=foldl_rep g m [];rw[List.nil_append]at this;exact this
  rw[f0];cases g with
  |nil=>simp
  |cons a r'=>rw[if_neg At]
 refine wpAny_binaryOp_repeat_ref (T := "list") (U := "int") AT ⟨_,e,rfl⟩ (fun s'=>typeIs_int s' k t) noFill_list_mul F.fills_int_mul F.slot_int_rmul repeat_list F.slot_int_index.lookup
  (call_meets F.slot_int_rmul (typeIs_int s k t) F.entry_int_rmul (F.args_int_rmul_2 _ _) (int___rmul___int_list k t l g.toArray n)
   ⟨e,rfl,⟨_,e,rfl⟩,call_meets F.slot_list_mul ⟨_,e,rfl⟩ F.entry_list_mul (F.args_list_mul_2 _ _) (AutoListH.list___mul___list_int_3 l g.toArray n k t hfit hcap R) ⟨e,?_⟩⟩)
 rw[Y];exact⟨.ref _,_,I.rd (t':=s.toks) (r.rep k.toNat) (by rw[len_rep,Nat.mul_comm];exact hz),rfl,q _ I.fresh⟩
end
end L2
namespace Att
open PySem PySem.W PySem.Calls PyProof.Rows
def TZ{P:Params}{h:Heap}:∀(ns:yT) (vs:yN),WellAll P h vs (ns.map WData.int)->IntsAre vs ns:=by
 intro ns
 induction ns with
 |nil=>
  intro vs w;rw[List.map_nil]at w;cases w;exact .nil
 |cons n ns g=>
  intro vs w;rw[List.map_cons]at w;cases w with
  |cons a b=>
   cases a;exact .cons _ _ (g _ b)
def hU{l:OpenLaw}{n:Nat}(hn:l.most=some n){P:Params}{h:Heap}{args:List WData}{vals:yN} (g:l.row.toRowW.claim.pre args=true)(Z:WellAll P h vals args):∃a vs ns,vals=[Value.ref a]/\args=[WData.list (ns.map WData.int)]/\h.get? a=some { cls:=.type "list",data:=.seq vs.toArray}/\IntsAre vs ns/\ns.length<=n:=by
 have hsh:WShape.hasAll [] args [.list .int]=true:=(pre_splitW g).1;have hc:l.pre.holds [] { args:=args}=true:=(pre_splitW g).2;obtain⟨d,r,rfl,h1,h2⟩:=hasAllW_cons hsh;obtain rfl:=hasAllW_nil h2;obtain⟨xs,rfl,h3⟩:=hasW_list h1;obtain⟨ns,rfl⟩:=items_int h3;have R:ns.length<=n:=by
  unfold OpenLaw.pre at hc;have Y:(WTm.not (.lt (.lit (.int (n:Int))) (.len (.arg 0)))).holds [] { args:=[.list (ns.map .int)]}=true:=by
   have Y:=(holds_andW hc).1;rw[hn]at Y;exact Y
  have U:=condW_of Y (w_not (w_lt w_lit (w_len_list (w_arg rfl))));rw[List.length_map]at U;refine Nat.le_of_not_lt fun q=>?_;have q':(n:Int)<((ns.length:Nat):Int):=by lia
  first
   |(rw[decide_eq_true q']at U;exact absurd U AT)
   |(simp at U;lia)
 cases Z with
 |cons w1 w2=>
  cases w2;cases w1 with
  |list ho T=>exact⟨_,_,ns,rfl,rfl,ho,TZ ns _ T,R⟩
def eO(l:OpenLaw)(args:List WData):l.row.toRowW.claim.post args KQ args=true :=
 postW_of (r:=l.row.toRowW) (X:=(true==true))
  (show WShape.has [] KQ .bool=true by first|rfl|decide|simp[WShape.has,WShape.arms,WShape.armsAll])
  (show(WTm.eq .res (.lit KQ)).value [] { args:=args,res:=some KQ,after:=args}=some (.bool (true==true)) from w_eq_bool (w_res rfl) w_lit) rfl
def Ys{l:OpenLaw}{n:Nat}{q:FS}{loose:yU}{XP:(yP)->Heap->Prop}{YP:World->Heap->Prop}{d:DefRec} (hn:l.most=some n)(hdf:d.params.defaults=[]) (call:∀(w:IO) (s₀ g:SD) (mg mb:yP) (Z:AD) (o:Obj) (pm cd doc:VL) (a:AD) (vs:yN) (ns:yT),Ground q loose [] XP w s₀ mg mb g.heap->YP w g.heap ->g.heap.get? Z=some o->o.data=.func (docDef d.name d.params d.body d.scope pm cd doc)->g.heap.CodeRec cd d.name->mg d.name=some (.ref Z) ->g.heap.get? a=some { cls:=.type "list",data:=.seq vs.toArray}->IntsAre vs ns->ns.length<=n->g.gens=#[] ->codeAny (model l.prog w) callerA (.call (.ref Z) ⟨[.ref a],[]⟩) zFm g):WalkO q loose XP YP l.row.toRowW d [] zBE:=by
 intro w s₀ g mg mb G Y Z o pm cd doc dV kV ho hd hcd hD hmg hg args vals as R hlay hrd hwl hlo;obtain rfl:dV=.none:=Dflts.none hD hdf;obtain rfl:kV=.none:=Dflts.noKw hD;obtain⟨a,vs,ns,rfl,rfl,T,hints,U⟩:=hU hn R hwl;refine enter_call (codeAny_mono (call w s₀ g mg mb Z o pm cd doc a vs ns G Y ho (fd_plain hd) hcd hmg T hints U hg) fun r s' hq=>?_);obtain⟨rfl,h2,h3,h4⟩:=hq;exact⟨.inl ⟨.bool true,.bool true,[],rfl,fun _=>rfl,.bool true,eO l _,fun _=>⟨List.Pairwise.nil,fun _ hm=>(nomatch hm)⟩⟩,h2,h3,h4⟩
end Att
namespace L2
open PySem PySem.Spec PyProof.Rows
def VT:∀ {vs:LY} {ns:zG},IntsAre vs ns->Vals SC vs
 |_,_,.nil=>.nil
 |_,_,.cons n t h=>.cons ⟨t,rfl⟩ (VT h)
def ia(H:Hp):Prop:=∀b,H b=none\/∃o xs,H b=some (.GD o KT)
def iX{P:FS}{w:IO}{K:Fg}{mg mb:yP}{CX:Iy}{k:Nat}{fa a:AD}{fd:Db}{x:Str}{sp:Sp}{g:SD}{vs:yN}{ns:yT} (KX:K.In g.heap)(hns:g.heap.Ns mainGlobals mg)(R:g.heap.Ns builtinsNs mb)(hbb:∀x:Str,x ≠ "__name__" -> mb x=bootBuiltins x)(hlim:g.heap.NoLimit)(hg:g.gens=#[]) (ha:g.heap.get? a=some { cls:=.type "list",data:=.seq vs.toArray})(hi:IntsAre vs ns)(hl:ns.length<=sizeLine)(hr:EH k callerA)(hkt:∀H,KTb mg H) (F:∀base:Heap,K.In base->base.Ns mainGlobals mg->AK P w K mg base CX k fa fd [x] sp)(U:∀(s:SD) (u:VL),BindsTo s fd ⟨[u],[]⟩ [(x,u)]) (hsp:∀H:Hp,ia H->Ax K H a SC->sp [.ref a] H (fun v _=>v=.bl true) fun _ _ _=>False) (hCX:∀H e s',CX [] H g (fun _ _ _=>False) e s'->False):codeAny zAZ callerA (.call (.ref fa) ⟨[.ref a],[]⟩) zFm g:=by
 have rv:=VT hi;have Z:=hi.length;have core:∀H:Hp,ia H->Ax K H a SC->F8 P w H g.heap->(∀b,H b≠none->b=a)->(H a≠none->K.lookup a=none) ->
   codeAny zAZ callerA (.call (.ref fa) ⟨[.ref a],[]⟩) zFm g:=by
  intro H hO hS A5 hA hK;have base_of:∀ {b:AD} {o:Obj},g.heap.get? b=some o->H b=none->(N2 g.heap H).get? b=some o:=fun e n=>i4 e n;have noA:∀ {b:AD} {o:Obj} {es:Array DictEntry} {ep:Nat},g.heap.get? b=some o->o.data=.dict es ep->H b=none:=fun {b o es ep} e d=>by
   cases q:H b with
   |none=>rfl
   |some u=>
    have e':b=a:=hA b (by rw[q];simp);subst e';rw[ha]at e;cases e;have d':Data.seq vs.toArray _=Data.dict es ep:=d;cases d'
  have T:∀ {b:AD} {m:zFL},g.heap.Ns b m->(N2 g.heap H).Ns b m:=fun {b m} ⟨o,es,ep,e,d,r⟩=>⟨o,es,ep,base_of e (noA e d),d,r⟩;have hKb:K.In (N2 g.heap H):=fun b o e=>base_of (KX b o e) (by
   cases q:H b with
   |none=>rfl
   |some u=>
    have e':b=a:=hA b (by rw[q];simp);subst e';rw[hK (by rw[q];simp)]at e;cases e)
  have hM:Mod K mg (N2 g.heap H):=⟨hKb,T hns,⟨mb,T R,hbb⟩,let⟨mc,h1,h2⟩:=hlim;⟨mc,T h1,h2⟩⟩;have e0:dm P w K mg (N2 g.heap H) callerA [] g H:=⟨rfl,hM,fun b o e=>nK e,Nat.le_of_eq (eo _ _),trivial,fun b R=>absurd (show b∈([]:List AD) from R) At,A5,.of_eq hg,hkt H⟩;refine codeAny_mono ((F _ hKb (T hns)).run callerA [] g H ⟨[.ref a],[]⟩ [.ref a] [.ref a] _ _ hr e0 (U g HY) (.cons rfl .nil) (hsp H hO hS)) fun r s' h=>?_;cases r with
  |error e=>exact(hCX H e s' h).elim
  |ok fl=>
   cases fl with
   |next=>exact False.elim h
   |brk=>exact False.elim h
   |cont=>exact False.elim h
   |ret u=>
    obtain⟨v,H',os,bare,un,hok',r',q⟩:=h;have q':v=.bl true:=q;subst q';obtain rfl:u=Value.bool true:=r';refine⟨rfl,OldK.of_keep fun b o e=>?_,os,bare⟩;cases q:H b with
    |none=>exact un.keep b o e q (by intro z;exact absurd (show b∈([]:List AD) from z) At) At
    |some u=>
     rcases hO b with z|⟨ob,xs,z⟩
     .rw[q]at z;cases z
     .have z2:=un.Ie b ob _ z;obtain⟨e1,_⟩:=A5 b _ z;obtain⟨e2,_⟩:=hok' b _ z2;rw[e]at e1;cases e1;exact e2
 cases hk:K.lookup a with
 |some o=>
  have e:=KX a o hk;rw[ha]at e;cases e;refine core (fun _=>none) (fun _=>.inl rfl) (.inr ⟨_,vs.toArray,_,hk,rfl,rfl,rfl,by rw[List.size_toArray,Z];exact hl,by simpa using rv⟩) (fun b u z=>by have Y:(none:Option HO)=some u:=z;cases Y) (fun b z=>absurd rfl z) fun z=>absurd rfl z
 |none=>
  refine core (fun b=>if b=a then some (.GD { cls:=.type "list",data:=.seq vs.toArray} (.lst SC)) else none) (fun b=>?_) (.inl (.inr ⟨{ cls:=.type "list",data:=.seq vs.toArray},if_pos rfl⟩)) (fun b u z=>?_) (fun b z=>?_) fun _=>hk
  .by_cases R:b=a
   .exact .inr ⟨_,_,if_pos R⟩
   .exact .inl (if_neg R)
  .by_cases R:b=a
   .have Y:=(if_pos R).symm.trans z;cases Y;subst R;exact⟨ha,by rw[List.length_map];exact hl,vs,_,rv,ha⟩
   .have Y:=(if_neg R).symm.trans z;cases Y
  .by_cases R:b=a
   .exact R
   .exact absurd (if_neg R) z
def ng{l:PySem.W.OpenLaw}{n k:Nat}{q:FS}{loose:yU}{XP:(yP)->Heap->Prop}{YP:World->Heap->Prop}{d:DefRec}{K:Params->Fg}{CX:World->Iy}{sp:World->Sp}{x:Str} (hn:l.most=some n)(hn2:n<=sizeLine)(hdf:d.params.defaults=[])(hr:EH k callerA)(hkt:∀(w:IO) (mg:yP) (h:Heap),(K w.params).In h->h.Ns mainGlobals mg->∀H,KTb mg H) (hY:∀(w:IO) (h:Heap),YP w h->(K w.params).In h) (F:∀(w:IO) (mg:yP) (fa:AD) (h:Heap),(K w.params).In h->h.Ns mainGlobals mg->mg d.name=some (.ref fa) ->∃fd:FuncData,(∀(s:SD) (u:VL),BindsTo s fd ⟨[u],[]⟩ [(x,u)]) /\∀base:Heap,(K w.params).In base->base.Ns mainGlobals mg->AK l.prog w (K w.params) mg base (CX w) k fa fd [x] (sp w)) (hsp:∀(w:IO) (H:Hp) (a:AD) (ns:yT),ns.length<=n->ia H->Ax (K w.params) H a SC->sp w [.ref a] H (fun v _=>v=.bl true) fun _ _ _=>False) (hCX:∀(w:IO) (H:Hp) (s:SD) (e:VL) (s':SD),CX w [] H s (fun _ _ _=>False) e s'->False):PySem.W.WalkO q loose XP YP l.row.toRowW d [] zBE:=by
 refine Att.Ys hn hdf fun w s₀ U mg mb fa o pm cd doc a vs ns G Y ho hd hcd hmg Z hints R hg=>?_;have KX:=hY w _ Y;obtain⟨fd,hb,hF⟩:=F w mg fa _ KX G.T.g hmg;exact iX (hkt:=hkt w mg _ KX G.T.g) KX G.T.g G.T.b G.T.builtins G.T.nolimit hg Z hints (aT R hn2) hr hF hb (fun H hO hS=>hsp w H a ns R hO hS) fun H e s'=>hCX w H U e s'
abbrev Ag:Iy:=fun _ _ _ _ _ _=>False
abbrev E0:XK:=fun _ _ _=>False
def ub{X:Cx}:Passes Ag X E0:=fun _ _ _ _ _ _ _ h=>h.elim
structure Vd(K:Fg)(x qual:Str)(st:Stmt)(f:Addr)(fd:Db):Prop where
 ex:∃(oc:Value) (od:Option Addr) (kV doc pm:Value) (an:Option Addr) (cdv ct:Value) (osl:Array (Option Value)),
  fd=PySem.W.fnOf x qual (Ho st) (Et st) zBG .none kV doc pm an cdv ct/\K.lookup f=some ⟨oc,od,.func fd,osl⟩/\PySem.W.codeIn K cdv qual=true
 kp:PySem.W.keepIn K zBy=true
section
variable{P:FS}{w:IO}{K:Fg}{mg:yP}{base:Heap}
def Vd.ok{x qual:Str}{st:Stmt}{f:AD}{fd:Db}{N ps:yU}{k:Nat}{sp:Sp}(F:Vd K x qual st f fd)(S:Ad N ps zBG)(len:zAT) (g:∀(cdv:VL) (A:Ki) (outer:yf) (s:SD) (H:Hp) (vs:yb) (Q:VK) (E:XK),EH k (A.deeper (envOfC qual zBG s.heap.objs.size f cdv))->sp vs H Q E ->∃t,JZ (DZ Ag P w K mg base N qual zBG f cdv A outer s H E).K1 (Et st) t/\t { nx:=fun _ H'=>Q .BN H',rt:=Q} zCn H):AK P w K mg base Ag RJ f fd ps sp:=by
 obtain⟨oc,od,kV,doc,pm,an,cdv,ct,osl,rfl,lk,T⟩:=F.ex;refine lB lk T S len fun A outer s H vs Q E U R=>?_;obtain⟨t,h,q⟩:=g cdv A outer s H vs Q E U R;exact⟨t,h.K1,q⟩
def Vd.binds{x qual:Str}{st:Stmt}{f:AD}{fd:Db}{ps:yU}(F:Vd K x qual st f fd) (h:∀(kV doc pm:VL) (an:zDo) (cdv ct:VL) (us:yN),us.length=ps.length->bindArgs lY ⟨us,[]⟩=pure (ps.zip us)):Binds K fd ps []:=by
 obtain⟨oc,od,kV,doc,pm,an,cdv,ct,osl,rfl,lk,g⟩:=F.ex;exact .all (h kV doc pm an cdv ct)
def eQ{x qual:Str}{st:Stmt}{f:AD}{oc:VL}{od an:zDo}{osl:z9}{kV doc pm cdv ct:VL}(l:K.lookup f=some ⟨oc,od,.func lY,osl⟩) (c:PySem.W.codeIn K cdv qual=true)(k:PySem.W.keepIn K zBy=true):Vd K x qual st f lY:=⟨⟨oc,od,kV,doc,pm,an,cdv,ct,osl,rfl,l,c⟩,k⟩
end
def VO{n:Nat}(h:n<=1000):n<sizeLine:=aW h AT
section
variable{X:Cx}
def pv(i:Nat){x:Str}{pos:Pos}(T:X.N[i]? = some x:=by rfl)(R:pZ X.env.scope x:=by first|exact Or.inl rfl|exact Or.inr As|exact Or.inr zH)(hd:HV=false:=by decide) (g:(x==("__classdict__" : Str))=false:=by decide):PE X tO (QP i):=qf T R hd g
end
def wg{A B:Prop}(h:B):if false=true then A else B:=by
 rw[if_neg aK];exact h
def Lh{A B:Prop}(h:A):if true=true then A else B:=by
 rw[if_pos rfl];exact h
def Lk{c A B:Prop}[Decidable c](R:c->A)(g:¬c->B):if c then A else B:=by
 by_cases h:c
 .rw[if_pos h];exact R h
 .rw[if_neg h];exact g h
def AM(H H':Hp):Prop:=∀b o,H b=some o->H' b=some o
def AM.refl(H:Hp):AM H H:=fun _ _ h=>h
def AM.trans{H R g:Hp}(a:AM H R)(b:AM R g):AM H g:=fun c o h=>b c o (a c o h)
section
variable{X:Cx}
def Sn(i j:Int):Prop:=∃m:Nat,m<=1000000/\i.natAbs<2^m/\j.natAbs<2^m
def Sn.ok{i j:Int}(h:Sn i j):IntMulOk i j:=by
 obtain⟨m,hm,R,g⟩:=h;exact IntMulOk.of_le (intBits_le_iff.mpr R) (intBits_le_iff.mpr g) AC
def F7:De X zDV (rI (fun i j=>Xz i j\/Sn i j) fun i j=>.int (i*j)) :=
 ZP fun _ _ _ _ _ _ _ g q=>mul_int q (g.elim (fun z=>z.ok) fun z=>z.ok)
def vM(_i j:Int):Prop:=j≠0/\∃m:Nat,m<=9000/\j.natAbs<2^m
def Hb:De X (binaryOp .FloorDiv) (rI vM fun i j=>.int (i.fdiv j)):=ZP fun i j _ _ _ _ _ R q=>by
 obtain⟨h0,m,hm,T⟩:=R;refine floordiv_int h0 q (.inl (PyProof.noPylong_of_log2 ?_));have g:j.natAbs≠0:=by lia
 have:j.natAbs.log2<m:=(Nat.log2_lt g).mpr T
 lia
mutual
def Br(K:Fg)(H:Hp):PD->V->Prop
 |.none,v=>v=.BN
 |.bool b,v=>v=.bl b
 |.int i,v=>v=.int i
 |.str x,v=>v=.str x
 |.tuple g,v=>∃a xs,v=.ref a/\BL K H a xs/\Hf K H g xs
 |.list g,v=>∃a xs,v=.ref a/\Ax K H a xs/\Hf K H g xs
 |.dict _,_=>False
def Hf(K:Fg)(H:Hp):List PD->List V->Prop
 |[],xs=>xs=[]
 |d::g,xs=>∃x r,xs=x::r/\Br K H d x/\Hf K H g r
end
mutual
def Br.reads{pins:DH}{σ:St}{H:Hp}{s:SD}(I:By):∀ {d:PD} {v:V} {u:VL},Br X.K H d v->RelV v u->∃as,Reads s.heap u d as
 |.none,_,u,h,r=>by rw[Br]at h;subst h;cases r;exact⟨_,.none⟩
 |.bool b,_,u,h,r=>by rw[Br]at h;subst h;cases r;exact⟨_,.bool b⟩
 |.int i,_,u,h,r=>by rw[Br]at h;subst h;obtain⟨t,rfl⟩:=r;exact⟨_,.int i t⟩
 |.str x,_,u,h,r=>by rw[Br]at h;subst h;obtain⟨t,rfl⟩:=r;exact⟨_,.str x t⟩
 |.tuple ds,_,u,h,r=>by
  rw[Br]at h;obtain⟨a,xs,Z,Y,U⟩:=h;subst Z;cases r;obtain⟨T,g,⟨o,e,c,n,hd⟩,_⟩:=I.tuple Y;obtain⟨as,R⟩:=Hf.reads I U g;exact⟨_,.tuple e c hd zAg⟩
 |.list ds,_,u,h,r=>by
  rw[Br]at h;obtain⟨a,xs,Z,Y,U⟩:=h;subst Z;cases r;obtain⟨T,g,⟨o,n,e,c,_,hd⟩,_⟩:=I.list Y;obtain⟨as,R⟩:=Hf.reads I U g;exact⟨_,.list e c hd zAg⟩
 |.dict _,_,_,h,_=>by rw[Br]at h;exact h.elim
def Hf.reads{pins:DH}{σ:St}{H:Hp}{s:SD}(I:By):∀ {ds:sw} {xs:Jh} {us:LY},Hf X.K H ds xs->Vals xs us->∃as,ReadsAll s.heap us ds as
 |[],_,us,h,r=>by rw[Hf]at h;subst h;cases r;exact⟨_,.nil⟩
 |_::_,_,us,h,r=>by
  rw[Hf]at h;obtain⟨x,q,e1,Z,Y⟩:=h;subst e1;cases r with
  |cons U T=>
   obtain⟨as,R⟩:=Br.reads I Z U;obtain⟨bs,g⟩:=Hf.reads I Y T;exact⟨_,.cons R g⟩
end
def jM(K:Fg)(neg:Bool):R2:=fun x y H Q=>∃d e,Br K H d x/\Br K H e y/\SeqAt.shaped d=true/\SeqAt.shaped e=true/\Q (.bl (if neg then !PyData.eqv d e else PyData.eqv d e)) H
def qz(Y:Ih):De X (compareOp .Eq) (jM X.K false):=by
 intro pins s σ H x y v u Q I R g h;obtain⟨d,e,h1,Z,s1,s2,q⟩:=h;obtain⟨as,U⟩:=Br.reads I h1 R;obtain⟨bs,T⟩:=Br.reads I Z g;exact eq_dataH U T s1 s2 Y ⟨.bl _,H,I,rfl,q⟩
def sN(Y:Ih):De X (compareOp .NotEq) (jM X.K true):=by
 intro pins s σ H x y v u Q I R g h;obtain⟨d,e,h1,Z,s1,s2,q⟩:=h;obtain⟨as,U⟩:=Br.reads I h1 R;obtain⟨bs,T⟩:=Br.reads I Z g;exact ne_dataH U T s1 s2 Y ⟨.bl _,H,I,rfl,q⟩
end
def Ox(X:Cx)(g:yV)(t:TT):Prop :=
 ∀(pins:DH) (s:SD) (σ:St) (H:Hp) (Q:zDC),Inv X pins σ H s->t σ H Q ->
  wpAny Ci X.A (forIn g true fun c r=>if r=true then do let ok <-isTrue c X.env (eval c X.env);pure (ForInStep.yield ok) else pure zHD) (TP X pins σ Q) X.xe s
def JY:TT:=fun _ H Q=>Q true H
def GO{X:Cx}:Ox X [] JY:=fun _ _ σ H _ I h=>wpAny_tests_nil ⟨H,I,h⟩
def mC{X:Cx}{c:Expr}{t:TT}(h:PT X c t):Ox X [c] t:=by
 intro pins s σ H Q I g;simp only[List.forIn_cons,List.forIn_nil,if_true];refine Wb (Wb (BW (h pins s σ H Q I g) fun b s1 q=>?_));exact aA (aA q)
def HE(N R:List Str)(sc g:zAm):List (Option Nat)->Nat->Bool
 |[],_=>true
 |none::r,i=>HE N R sc g r M2
 |some j::r,i=>(match N[i]?,R[j]? with
   |some n,some m=>n==m&&sc.names.lookup n==some .free&&g.names.lookup n==some .cell
   |_,_=>false)&&HE N R sc g r M2
def SH{N U:List Str}{sc g:zAm}:∀ {fr:List (Option Nat)} {k:Nat},HE N U sc g fr k=true->∀ {i j:Nat},fr[i]? = some (some j) ->
  ∃n,N[k+i]? = some n/\U[j]? = some n/\sc.names.lookup n=some .free/\g.names.lookup n=some .cell
 |[],_,_,i,j,e=>by simp at e
 |none::r,k,h,0,j,e=>by simp at e
 |none::r,k,h,i+1,j,e=>by
  have q:=SH (fr:=r) (k:=k+1) h (i:=i) (j:=j) x0;have z:k+M2=k+1+i:=by lia
  rw[z];exact q
 |some T::r,k,h,0,j,e=>by
  have e':T=j:=by simpa using e
  subst e';rw[HE,Bool.and_eq_true]at h;have R:=h.1;split at R
  .rename_i n m hn hm;simp only[Bool.and_eq_true,beq_iff_eq]at R;obtain⟨⟨rfl,Z⟩,Y⟩:=R;exact⟨n,by simpa using hn,hm,Z,Y⟩
  .cases R
 |some T::r,k,h,i+1,j,e=>by
  rw[HE,Bool.and_eq_true]at h;have q:=SH (fr:=r) (k:=k+1) h.2 (i:=i) (j:=j) x0;have z:k+M2=k+1+i:=by lia
  rw[z];exact q
def carry(fr:yg)(σ:St):St:=fr.map fun o=>match o with
 |some j=>(σ[j]?).join
 |none=>none
def eF{fr:yg}{σ:St}{i:Nat}{v:V}(h:(carry fr σ)[i]? = some zBT):∃j,fr[i]? = some (some j)/\σ[j]? = some zBT:=by
 unfold carry at h;rw[List.getElem?_map]at h;cases e:fr[i]? with
 |none=>rw[e]at h;cases h
 |some o=>
  rw[e]at h;cases o with
  |none=>simp at h
  |some j=>
   refine⟨j,rfl,?_⟩;simp only[Option.map_some,Option.some.injEq]at h;cases q:σ[j]? with
   |none=>rw[q]at h;cases h
   |some w=>rw[q]at h;simp at h;rw[h]
def JM{env:Env}:∀(names:zEI) (cs:zDF),(∀x∈names,x.2=NameKind.free->∃c,env.cells.lookup x.1=some c)->(∀x c,cs.lookup x=some c->env.cells.lookup x=some c) ->
  ∃cl,(forIn names cs (fun(x:Str×NameKind) (r:List (Str×AD))=>do if(x.2==NameKind.free)=true then do let a <-cellOf env x.1;pure (ForInStep.yield ((x.1,a)::r)) else pure zHD):Sem (List (Str×AD)))=pure cl /\
   (∀x c,cl.lookup x=some c->env.cells.lookup x=some c)/\(∀x,(∃c,cs.lookup x=some c)->∃c,cl.lookup x=some c)/\∀x∈names,x.2=NameKind.free->∃c,cl.lookup x.1=some c
 |[],cs,_,Z=>⟨cs,rfl,Z,fun _ q=>q,fun _ z=>(by cases z)⟩
 |(n,k)::r,cs,h1,Z=>by
  rw[List.forIn_cons];by_cases U:(k==NameKind.free)=true
  .obtain⟨c,hc⟩:=h1 (n,k) aX zAi;have h2':∀x R,((n,c)::cs).lookup x=some R->env.cells.lookup x=some R:=fun x R e=>by
    rw[List.lookup_cons]at e;cases g:x==n with
    |true=>rw[g]at e;have:=beq_iff_eq.mp g;subst this;simp at e;rw[<-e];exact hc
    |false=>rw[g]at e;exact Z x R e
   obtain⟨cl,q1,q2,T,q4⟩:=JM r ((n,c)::cs) (fun x g=>h1 x (aU _ g)) h2';have hn:∃R,cl.lookup n=some R:=T n ⟨c,by rw[List.lookup_cons,beq_self_eq_true]⟩;refine⟨cl,?_,q2,fun x g=>?_,fun x g Y=>?_⟩
   .simp only[U,if_true];unfold cellOf;rw[hc];exact q1
   .refine T x ?_;rw[List.lookup_cons];cases hxn:x==n with
    |true=>exact⟨c,rfl⟩
    |false=>exact g
   .rcases aM.mp g with e|g
    .subst e;exact hn
    .exact q4 x g Y
  .obtain⟨cl,q1,q2,T,q4⟩:=JM r cs (fun x g=>h1 x (aU _ g)) Z;refine⟨cl,?_,q2,T,fun x g Y=>?_⟩
   .simp only[U];exact q1
   .rcases aM.mp g with e|g
    .subst e;exact absurd (by simpa using Y) U
    .exact q4 x g Y
def BB(X:Cx)(scope:zAm)(cl:zDF)(N:yU)(C:AD)(s₀:SD)(H₀:Hp)(fp:yd):Cx where
 prog:=X.prog
 w:=X.w
 K:=X.K
 mg:=X.mg
 base:=X.base
 A:=X.A
 N:=N
 s₀:=s₀
 H₀:=H₀
 env:=compEnvC scope cl C X.env
 outer:=X.stack
 stack:=X.stack
 ex:=fp
 fn:=fun _=>false
 calm:=X.calm
 pn:=[]
 xe:=fun _ _=>False
def QW(Z:TI)(fr:yg)(ix:Nat)(R:TT)(te:TE):TE:=fun σ H Q=>Z σ H fun J Y=>∀D,Y D=none->∃W:Nat->Nat->List V->Hp->Prop,(∃m,W 0 m [] (upd Y D Q4)) /\
 ∀i m ys H,W i m ys H->H D=some Ix/\((J.stop i H/\Q ra H)\/(J.go i H/\ys.length<sizeLine/\∀x H',J.GW i H x H' ->
  R RA H' fun b U=>if b=true then te RA U fun y T=>T D=some Ix/\∃g,g<m/\W M2 g am (upd T D zGa)
   else ∃g,g<m/\W M2 g ys U))
structure Fj(scope:zAm)(N:List Str)(x:Str)(ix:Nat):Prop where
 kind:scope.kind=.function
 cell:∀y∈scope.names,y.2≠.cell
 names:∀y∈scope.names,y.2=.local->scope.names.lookup y.1=some .local
 free:∀y∈scope.names,y.2=.free->scope.names.lookup y.1=some .free
 loc:scope.names.lookup x=some .local
 nd:N.Nodup
 at_:N[ix]? = some x
def lookup_mem{names:zEI}{n:Str}{k:NameKind}:names.lookup n=some k->(n,k)∈names:=by
 induction names with
 |nil=>intro h;cases h
 |cons y r g=>
  intro h;obtain⟨m,j⟩:=y;rw[List.lookup_cons]at h;cases e:n==m with
  |true=>rw[e]at h;have:=beq_iff_eq.mp e;subst this;simp at h;subst h;exact aX
  |false=>rw[e]at h;exact aU _ (g h)
def Xi{scope:zAm}{env:Env}(hc:∀y∈scope.names,y.2≠.cell){n:Str}(h:(relabel scope env).names.lookup n=some .cell\/(relabel scope env).names.lookup n=some .free):∃k,(n,k)∈scope.names/\k=NameKind.free:=by
 have key:∀R,(relabel scope env).names.lookup n=some R->(R=.cell\/R=.free)->∃k,(n,k)∈scope.names/\k=NameKind.free:=fun R h Z=>by
  have hm:=lookup_mem h;unfold relabel at hm;obtain⟨⟨m,k⟩,T,e⟩:=aQ.mp hm;dsimp only at e;by_cases g:(k==NameKind.free&&env.scope.kind==.function&&env.kindOf m==some .cell)=true
  .rw[if_pos g]at e
   injection e with U Y
   subst U;refine⟨k,T,?_⟩;simp only[Bool.and_eq_true,beq_iff_eq]at g;exact g.1.1
  .rw[if_neg g]at e
   injection e with U Y
   subst U Y;rcases Z with rfl|rfl
   .exact absurd rfl (hc _ T)
   .exact⟨_,T,rfl⟩
 rcases h with h|h
 .exact key _ h SZ
 .exact key _ h (.inr rfl)
section
variable{X:Cx}{elt iter:Expr}{x:Str}{px pos:Pos}{ifs:yV}{scope:zAm}{wi:TI}{fr:yg}{ix:Nat}{tif:TT}{te:TE}{N:yU}
def MU{prog:FS}{w:IO}{A:Ki}{R:Result->SD->Prop}{s:SD}{elt target iter:Expr}{ifs:yV}{scope:zAm}{pos:Pos}{it acc:VL}{env:Env}(I:Nat->SD->Prop)
 (turn:∀n s,I n s->wpAny AS A (pyNext it) (fun r g=>match r with
   |none=>R (.ok .next) g
   |some v=>wpAny AS A (letOwnedTupleGo target it v>>=fun _=>assign target env v) (fun _ Z=>
     wpAny AS A (forIn ifs true fun c r=>if r=true then do let ok <-isTrue c env (eval c env);pure (ForInStep.yield ok) else pure zHD) (fun ok T=>
      if ok=true then wpAny AS A (eval elt env) (fun x Y=>
       wpAny AS A (call (.builtin "list.append") [acc,x]) (fun _ U=>∃m,m<n/\I m U) zFi Y) zFi T
      else ∃m,m<n/\I m T) zFi Z) zFi g) zFi s)
 (n:Nat)(h:I n s) :
  codeAny AS A (.compLoop zEi 0 it acc env) R s:=by
 refine codeAny_loop rfl I (fun n s hI=>?_) n h;show wpAny _ A ((compTurn zEi 0 it acc env).onRaise (fun x=>do noteFrame x env;theTreesLotGoes x)) _ _ s;refine wpAny_noted ?_;rw[compTurn_list];refine Wb (wpAny_standAt (Wb (ao (turn n s hI) (fun r g h₁=>?_) fun _ _ h'=>h')));cases r with
 |none=>exact aA h₁
 |some v=>
  show wpAny AS A (letOwnedTupleGo target it v>>=fun _=>assign target env v>>=_) _ _ g;rw[<-bind_assoc];refine Wb (ao h₁ (fun _ Z h₂=>Wb (ao h₂ (fun ok T h₃=>?_) fun _ _ h'=>h')) fun _ _ h'=>h');cases ok with
  |false=>exact aA ⟨rfl,h₃⟩
  |true=>
   exact Wb (Wb (ao h₃ (fun x Y h₄=>Wb (ao h₄ (fun _ U h₅=>aA (aA ⟨rfl,h₅⟩)) fun _ _ h'=>h')) fun _ _ h'=>h'))
def RM{pins:DH}{σ:St}{Z:Hp}{s2:SD}{Q:VK}{it:AD}{fp:yd}{tn:wn}{J:It}{cl:zDF}{E:yO}{RR:VL->AD->Result->SD->Prop} (S:zCW)(hcalm:dO){tgE:Expr}{g:TG}(Rv:St->Prop)(r0:Rv (carry fr σ))(hpg:∀C,PG (BB X scope cl N C s2 Z fp) tgE g)(hfr:l5)(hlen:zCe) (hif:zFa)(he:zFc) (Y:Inv X pins σ Z s2)(T:Turn X.prog X.w X.K tgE J fp it tn)(st2:tn 0 s2.heap)(f2:∀b∈fp,M9 X pins Z b) (c1:zD)(c2:v0) (W:∀D,Z D=none->∃W:Nat->Nat->List V->Hp->Prop,(∃m,W 0 m [] (upd Z D Q4)) /\∀i m ys H,W i m ys H->H D=some Ix/\((J.stop i H/\Q ra H)\/(J.go i H/\ys.length<sizeLine/\∀x H',J.GW i H x H'->∀σ',Rv σ'->g x σ' H' fun σ6 H6=>Rv σ6 /\tif σ6 H6 fun b Z=>if b=true then te σ6 Z fun y H3=>H3 D=some Ix/\∃m',m'<m/\W M2 m' am (upd H3 D zGa) else ∃m',m'<m/\W M2 m' ys Z))) (fin:GE):wpAny Ci X.A (newList []) (fun acc s₃=>wpAny Ci X.A dl (fun cenv s₄ => codeAny Ci X.A (.compStart zFM 0 yR acc {cenv with scope:=relabel scope X.env}) (RR acc cenv.locals) s₄) E s₃) E s2:=by
 refine bC (wpAny_newFunctionEnv S.cell (by intro y hy;simp at hy) (fun h₁ hns₁ U=>?_) S.kind);dsimp only at hns₁ U ⊢;generalize hHp:s2.heap.push { cls:=.type "list",dict:=none,data:=.seq ([]:List VL).toArray}=Hq at hns₁ U ⊢;have hC:Hq.objs.size=s2.heap.objs.size+1:=by rw[<-hHp,Heap.size_push]
 have hDC:s2.heap.objs.size≠Hq.objs.size:=by rw[hC];exact aG (bR _)
 have below:∀b,b<s2.heap.objs.size->b≠Hq.objs.size/\b≠s2.heap.objs.size:=fun b R=>⟨by rw[hC];exact aG (bE R),Nat.ne_of_lt R⟩;have old:∀b o,s2.heap.get? b=some o->h₁.get? b=some o:=fun b o e=>U.extBut b o (below b z0).1 (aE _ (hHp ▸ aE _ e));have hacc:h₁.get? s2.heap.objs.size=some { cls:=.type "list",data:=.seq ([]:List VL).toArray}:=U.extBut _ _ hDC (aE _ (hHp ▸ aN _ rfl));have hD2:Z s2.heap.objs.size=none:=Y.A5.fresh RW;have hC2:Z Hq.objs.size=none:=Y.A5.fresh (by rw[hC];exact Nat.le_succ _);have fpo:∀b∈fp,b<s2.heap.objs.size:=fun b R=>by
  obtain⟨o,e,_⟩:=T.obj _ _ st2 b R;exact aF e
 obtain⟨W,⟨m0,w0⟩,turn⟩:=W s2.heap.objs.size hD2;have ok:(BB X scope cl N Hq.objs.size s2 Z fp).Ok:=by
  refine⟨Y.ok.mod,S.kind,Y.ok.glob,Y.ok.blt,by show s2.heap.objs.size<=Hq.objs.size;rw[hC];exact Nat.le_succ _,?_,?_,?_,fun _=>Y.ok.hd hcalm,Y.ok.frames,.inl rfl,?_,Y.bs,Nat.le_trans Y.ok.VZ Y.sz,?_,?_,Y.stack,Y.UL,Y.kt⟩
  .exact fun a b c h1 h2=>Y.ok.inj a b c (c1 _ _ h1) (c1 _ _ h2)
  .intro y hy;obtain⟨k,hm,rfl⟩:=Xi S.cell hy;exact c2 _ hm rfl
  .intro y c hf;cases hf
  .intro b R;refine⟨(below b (fpo b R)).1,fun y c e=>?_⟩;obtain⟨_,_,_,_,f5,_⟩:=f2 b R;exact f5 y c (c1 _ _ e)
  .intro b o e R;obtain⟨_,_,_,f4,_,_⟩:=f2 b R;rcases f4 with z|z
   .exact Y.ok.XO b o e z
   .exact absurd (aI z0 (aT Y.ok.VZ z)) zBF
  .intro b R hs;obtain⟨_,f1,f3,_⟩:=f2 b R;rcases aM.mp (Y.P8 b hs) with z|z
   .exact f1 z
   .exact f3 z
 have I4:Inv PP [] (carry fr σ) (upd Z s2.heap.objs.size Q4) {s2 with heap:=h₁,toks:=s2.toks+([]:List (Str×VL)).length}:=by
  refine⟨ok,rfl,Y.bare,Un.laid old RW hD2,⟨_,hns₁,fun i y v h1 h2 h3=>?_⟩,fun y c e=>?_,?_,fun y c e=>?_,fun p hp=>(by cases hp),Y.A5.laid old RW ⟨aq _,[],0,.nil,hacc⟩,?_⟩
  .obtain⟨j,e1,e2⟩:=eF h2;obtain⟨n,n1,n2,n3,n4⟩:=SH hfr e1;rw[Nat.zero_add]at n1;have:y=n:=by
    have h1':N[i]? = some y:=h1;rw[h1']at n1;exact ah n1
   subst this;obtain⟨m,hn,hl⟩:=Y.loc;obtain⟨u,ru,lk⟩:=hl j y v n2 e2 (.inr (.inl n4));refine⟨u,ru,?_⟩;obtain⟨c,hc⟩:=c2 _ (lookup_mem n3) rfl;rcases lk with ⟨k1,_⟩|⟨_,c',hc',hcell⟩
   .have k1':X.env.scope.names.lookup y=some .local:=k1;rw[n4]at k1';cases k1'
   .have:=c1 _ _ hc;rw[hc']at this;cases this;refine .inr ⟨?_,c,hc,hcell.keeps old⟩;rcases h3 with z|z|z
    .obtain⟨k,hm⟩:∃k,(y,k)∈scope.names/\k=NameKind.local:=by
      have hm:=lookup_mem z;have hm':(y,NameKind.local)∈(relabel scope X.env).names:=hm;unfold relabel at hm';obtain⟨⟨m',k⟩,hy,e⟩:=aQ.mp hm';dsimp only at e;by_cases hcond:(k==NameKind.free&&X.env.scope.kind==.function&&X.env.kindOf m'==some .cell)=true
      .rw[if_pos hcond]at e;injection e with _ e2';cases e2'
      .rw[if_neg hcond]at e;injection e with e1' e2';subst e1' e2';exact⟨_,hy,rfl⟩
     obtain⟨hm,rfl⟩:=hm;have:=S.names _ hm rfl;rw[n3]at this;cases this
    .exact .inl z
    .exact .inr z
  .obtain⟨v,z⟩:=Y.cell y c (c1 _ _ e);exact⟨v,z.keeps old⟩
  .show upd Z s2.heap.objs.size _ Hq.objs.size=none;rw[AL (Ne.symm hDC)];exact hC2
  .obtain⟨v,o,ho,_⟩:=Y.cell y c (c1 _ _ e);rw[AL (below c (aF ho)).2];exact Y.KL y c (c1 _ _ e)
  .show(carry fr σ).length=N.length;unfold carry;rw[List.length_map];exact hlen
 have fpX:∀(p:DH) (H':Hp),(∀q∈p,q.1∈fp->False)->(∀b∈fp,H' b=none)->∀b∈fp,M9 PP p H' b:=fun p H' hp hn b R=>by
  obtain⟨_,f1,f3,f4,f5,_⟩:=f2 b R;refine⟨hn b R,(below b (fpo b R)).1,fun hs=>ok.XB b R hs,.inl R,fun y c e=>f5 y c (c1 _ _ e),fun q hq e=>?_⟩;exact hp q hq (e ▸ R)
 have hxv:(relabel scope X.env).names.lookup x=some .local:=lookup_relabel_local S.loc;have loop:∀s₃:SD,s₃={s2 with heap:=h₁,toks:=s2.toks+([]:List (Str×VL)).length} ->
   codeAny Ci X.A (.compLoop zFM 0 yR zCA (compEnvC scope cl Hq.objs.size X.env)) (RR zCA Hq.objs.size) s₃:=by
  rintro s₃ rfl;refine MU (fun n s'=>∃i ys σ' H',Inv PP [] σ' H' s'/\Rv σ'/\tn i s'.heap/\zAx/\W i n ys H') ?_ m0
   ⟨0,[],carry fr σ,_,I4,r0,T.keep _ _ _ st2 fun b _ o e=>old b o e,fun b R=>by rw[AL (below b (fpo b R)).2];exact(f2 b R).1,w0⟩
  rintro n s3 ⟨i,ys,σ3,H3,I3,hσ,st3,fr3,w3⟩;obtain⟨hD3,way⟩:=turn i n ys H3 w3;rcases way with ⟨stop,qn⟩|⟨go,hsz,step⟩
  .refine ao (T.done PP rfl rfl rfl hcalm i [] s3 σ3 H3 (fun _ _=>False) I3 (fpX [] H3 (fun _ z=>by cases z) fr3) st3 stop) (fun r s4 ⟨hr,I5⟩=>?_) fun _ _ z=>z.elim;subst hr;obtain⟨m,hn,_⟩:=id I5.loc;refine fin _ _ s4 H3 m hn qn (fun h' hs'=>?_) (Ne.symm hDC) (fun b o e=>(below b z0).1) I5.free (by rw[hC];exact Nat.le_succ _);have nC:∀b u,H3 b=some u->b≠Hq.objs.size:=fun b u e z=>by
    have:=I5.free;rw[show(BB X scope cl N Hq.objs.size s2 Z fp).env.locals=Hq.objs.size from rfl,<-z,e]at this;cases this
   have keepU:Un (Hu X.stack) fp Z H3 s2.heap h':=by
    have u:=I5.base;refine⟨fun b o e n R hx=>?_,fun b o e n R hx=>?_,fun b o e n hx=>u.free b o e n hx,fun b o e hx=>?_,u.BF,u.Ie,u.Jl,fun b xs o q e hx=>(hs'.2 b (below b z0).1).trans (u.Jr b xs o q e hx)⟩
    .exact(hs'.2 b (below b z0).1).trans (u.keep b o e n R hx)
    .obtain⟨sl,e1⟩:=u.slot b o e n R hx;exact⟨sl,(hs'.2 b (below b z0).1).trans e1⟩
    .obtain⟨o',e1⟩:=u.there b o e hx;exact⟨o',(hs'.2 b (below b z0).1).trans e1⟩
   have hok':F8 X.prog X.w H3 h':=fun b u e=>(I5.A5 b u e).Jy (fun c v hc q=>(hs'.2 c (by
    rcases hc with rfl|hc
    .exact nC _ _ e
    .exact nC _ _ hc)).trans q) (fun _ q=>q) fun _ _ q=>q
   refine Y.vH (s':={s4 with heap:=h'}) (ch:=fp) I5.os keepU hok' I5.bare fun b R=>?_;obtain⟨_,f1,_,f4,f5,f6⟩:=f2 b R;exact⟨f4,f1,f5,f6⟩
  .refine ao (T.item PP rfl rfl rfl hcalm i [] s3 σ3 H3 (fun _ _=>False) I3 (fpX [] H3 (fun _ z=>by cases z) fr3) st3 go) (fun r s4 ⟨u,hr,h4⟩=>?_) fun _ _ z=>z.elim;subst hr;show wpAny Ci X.A (letOwnedTupleGo tgE yR u>>=fun _=>assign tgE (compEnvC scope cl Hq.objs.size X.env) u) _ _ s4;refine Wb (ao h4 (fun _ s5 ⟨xv,H5,I5,r5,y5,st5,fr5⟩=>?_) fun _ _ z=>z.elim);have I5':=I5.pinned (fpX [] H5 (fun _ z=>by cases z) fr5) (T.obj _ _ st5);refine ao (hpg _ _ s5 σ3 H5 xv u _ I5' r5 (step xv H5 y5 σ3 hσ)) (fun _ s6 ⟨σ6,H6,I6,rv6,step5⟩=>?_) fun _ _ z=>z.elim;refine ao (hif _ _ _ _ _ _ s6 _ H6 _ I6 step5) (fun b s7 ⟨H7,I7,q7⟩=>?_) fun _ _ z=>z.elim;have again:∀ {s8:SD} {H8:Hp} {k:Nat} {zs:Jh},Inv PP ([]++Pr fp s5.heap) σ6 H8 s8->W M2 k zs H8->k<n ->
     ∃m,m<n/\∃i ys σ' H',Inv PP [] σ' H' s8/\Rv σ'/\tn i s8.heap/\zAx/\W i m ys H':=fun {s8 H8 k zs} I8 w8 hk=>by
    refine⟨k,hk,i+1,zs,_,H8,I8.OQ,rv6,T.keep _ _ _ st5 fun b R o e=>(I8.pin (b,o) (aV _ (aV _ (LL R e)))).1,fun b R=>?_,w8⟩;obtain⟨o,e,d⟩:=T.obj _ _ st5 b R;exact(I8.pin (b,o) (aV _ (aV _ (LL R e)))).2.1
   cases b with
   |false=>
    rw[if_neg aK]at q7 ⊢;obtain⟨k,hk,w7⟩:=q7;exact again I7 w7 hk
   |true=>
    rw[if_pos rfl]at q7 ⊢;refine ao (he _ _ _ _ _ _ s7 _ H7 _ I7 q7) (fun yv s8 ⟨y,H8,I8,r8,hD8,k,hk,w8⟩=>?_) fun _ _ z=>z.elim;refine ao (GV (X:=BB X scope cl N Hq.objs.size s2 Z fp) _ s8 _ H8 zCA [y] zCA [yv] (fun _ H9=>H9=upd H8 s2.heap.objs.size zGa) I8 rfl (.cons r8 .nil) ⟨_,ys,y,rfl,rfl,hD8,hsz,rfl⟩) (fun _ s9 ⟨_,H9,I9,_,e9⟩=>?_) fun _ _ z=>z.elim;subst e9;exact again I9 w8 hk
 exact codeAny_compStart_list (loop _ rfl) (T.self X.A 0 _ _ _ (T.keep _ _ _ st2 fun b _ o e=>old b o e) (loop _ rfl))
def Sf{pins:DH}{σ:St}{R:Hp}{s2:SD}{Q:VK}{it:AD}{fp:yd}{tn:wn}{J:It}{cl:zDF}{E:yO}{RR:VL->AD->Result->SD->Prop} (S:zCW)(U:dO)(hfr:l5)(hlen:zCe) (hif:zFa)(he:zFc) (I2:Inv X pins σ R s2)(T:Turn X.prog X.w X.K zBe J fp it tn)(st2:tn 0 s2.heap)(f2:∀b∈fp,M9 X pins R b) (c1:zD)(c2:v0) (W:∀D,R D=none->∃W:Nat->Nat->List V->Hp->Prop,(∃m,W 0 m [] (upd R D Q4)) /\∀i m ys H,W i m ys H->H D=some Ix/\((J.stop i H/\Q ra H)\/(J.go i H/\ys.length<sizeLine/\∀x H',J.GW i H x H' ->tif RA H' fun b R=>if b=true then te RA R fun y H3=>H3 D=some Ix/\∃m',m'<m/\W M2 m' am (upd H3 D zGa) else ∃m',m'<m/\W M2 m' ys R))) (fin:GE):wpAny Ci X.A (newList []) (fun acc s₃=>wpAny Ci X.A dl (fun g Z => codeAny Ci X.A (.compStart EQ 0 yR acc {g with scope:=relabel scope X.env}) (RR acc g.locals) Z) E s₃) E s2:=by
 have hxv:(relabel scope X.env).names.lookup x=some .local:=lookup_relabel_local S.loc;refine RM S U (fun Y=>∀v,Y.set ix v=(carry fr σ).set ix v) (fun _=>rfl) (fun C=>Az (X:=BB X scope cl N C s2 R fp) S.nd S.at_ (.inl hxv) (.inr hxv)) hfr hlen hif he I2 T st2 f2 c1 c2 (fun D hD=>?_) fin;obtain⟨W,w0,st⟩:=W D hD;refine⟨W,w0,fun i m ys H w=>?_⟩;obtain⟨h1,h2|⟨h2,h3,h4⟩⟩:=st i m ys H w
 .exact⟨h1,.inl h2⟩
 .refine⟨h1,.inr ⟨h2,h3,fun x H' hy Y hr=>?_⟩⟩;have:=h4 x H' hy;rw[<-hr]at this;exact⟨fun v=>by rw[List.set_set,hr],this⟩
def mY(S:zCW)(Y:dO)(hfr:l5)(Z:zCe)(R:yr) (hi:PI X zBe iter wi)(hif:zFa)(he:zFc) (hs:∀x,foldedSetIterable iter X.env x=pure x:=by intro _;rfl):PE X EQ zDq:=by
 intro pins s σ H Q I hw;obtain⟨cl,U,c1,_,c2⟩:=JM (env:=X.env) scope.names [] (fun y hy hf=>I.ok.has y.1 (R y hy hf)) (fun y c z=>by cases z);have g:closureFor scope X.env=pure cl:=by
  have e:closureFor scope X.env=OF:=rfl;rw[e,U]
  rfl
 rw[eval_ListComp];refine wpAny_comprehension_free (use:=none) rfl hs g S.kind S.names zCX;obtain⟨it,fp,tn,J,H2,e,I2,T,st2,f2,W⟩:=h2;subst e;refine Sf (RR:=fun acc C=>compPost Ci X.A X.xe none T0 acc C) S Y hfr Z hif he I2 T st2 f2 c1 c2 W ?_;intro D C s' H' m hn q hI _ _ _ _;exact⟨m,hn,fun h' hs'=>⟨.ref D,H',hI h' hs',rfl,q⟩⟩
def dM{i : Nat}{y : Str}{py spos : Pos}(hN : zv)(hy : X.N[i]? = some y)(hly : X.env.scope.names.lookup y = some .local)(S : zCW)(hcalm : X.calm = true)(hfr : HE N X.N scope X.env.scope fr 0 = true)(hlen : fr.length = N.length) (hfree : ∀ y∈scope.names,y.2 = .free->X.env.scope.names.lookup y.1 = some .cell\/X.env.scope.names.lookup y.1 = some .free) (hi : PI X zBe iter wi)(hif : ∀ cl C s₀ H₀ fp,Ox Cq ifs tif)(he : ∀ cl C s₀ H₀ fp,PE Cq elt te) (hsw : swapsWith EQ (some (.Name y py)) spos.line X.env = pure true:=by rfl) (hs : ∀ x,foldedSetIterable iter X.env x = pure x:=by intro _; rfl):PS X (.Assign [.Name y py] EQ spos) (XT zDq (F0 i)):=by
  intro pins s σ H D I hw
  obtain ⟨cl,hclos,c1,_,c2⟩:=JM (env:=X.env) scope.names [] (fun y hy hf => I.ok.has y.1 (hfree y hy hf)) (fun y c z => by cases z)
  have hclos' : closureFor scope X.env = pure cl:=by
    have e : closureFor scope X.env = ((forIn scope.names [] (fun (x : Str×NameKind) (r : List (Str×AD)) => do if (x.2 == NameKind.free) = true then do let a <- cellOf X.env x.1; pure (ForInStep.yield ((x.1,a) :: r)) else pure zHD):Sem (List (Str×AD))) >>= fun cs => pure cs):=rfl
    rw [e,hclos]
    rfl
  rw [exec_Assign_Name_used _ _ _ _ hsw]
  refine Wb (wpAny_standAt (Wb ?_))
  show wpAny _ X.A (do let _ <- comprehension EQ scope X.env _ (newList []) false (eval iter X.env) (some zEX)) _ _ s
  refine Wb (ao (wpAny_comprehension_free (use:=some zEX) (Q:=fun _ s' => SP X pins D .next s') rfl hs hclos' S.kind S.names
    (BW (hi pins s σ H _ I hw) fun v s1 h1 => BW h1 fun itv s2 h2 => ?_)) (fun _ s' hq => aA (aA hq)) fun _ _ e => e)
  obtain ⟨it,fp,tn,J,H2,e,I2,T,st2,f2,W⟩:=h2
  subst e
  refine Sf (Q:=fun x H1 => F0 i x σ H1 D.nx) (RR:=fun acc C => compPost Ci X.A X.xe (some zEX) (fun _ s' => SP X pins D .next s') acc C) S hcalm hfr hlen hif he I2 T st2 f2 c1 c2 W ?_
  intro D' C s' H' m hn q hI hCD hold hfreeC hsz
  have I5 : Inv X pins σ H' s':=hI s'.heap (Heap.SameBut.refl ..)
  refine wpAny_assign_Name (Va I5 hN hy (.inl hly) (v:=.ref D') rfl (fun s'' I6 ⟨a,hsb,ha⟩ => ?_) (.inr hly))
  have hL : C≠X.env.locals:=fun z => by
    obtain ⟨_,⟨o,_,_,e,_⟩,_⟩:=I2.loc
    exact hold _ _ e z.symm
  have hcl : ∀ z c,X.env.cells.lookup z = some c->c≠C:=fun z c e => by
    obtain ⟨_,o,ho,_⟩:=I2.cell z c e
    exact hold _ _ ho
  have hCa : C≠a:=by
    rcases ha with z | z
    . rw [z]; exact hL
    . exact Ne.symm (hcl _ _ z)
  refine ⟨m,hn.sameBut hsb hCa,fun h' hs' => ⟨_,H',I6.turned (t':=s''.toks) (it:=C) (fun b o hb e => (hs'.2 b hb).trans e) hfreeC hL (.inr (aT I2.sz hsz)) hcl fun p hp => ?_,q⟩⟩
  obtain ⟨e,_⟩:=I2.pin p hp
  exact hold _ _ e
end
end L2
namespace FM
def gi(a b:Int):Int:=(Int.gcd a b:Int)
def YX(a b:Int):Int.gcd b (a.fmod b)=Int.gcd a b:=by
 have e:a.fmod b=a-b*a.fdiv b:=Int.fmod_def a b;rw[e,Int.gcd_comm a b];exact Int.gcd_sub_mul_left_right b a (a.fdiv b)
def VD(a b:Int)(g:b≠0):(a.fmod b).natAbs<b.natAbs:=by
 rcases Int.lt_or_gt_of_ne g with h|h
 .have U:-(a.fmod b)=(-a).fmod (-b):=by
   rw[Int.fmod_def,Int.fmod_def,Int.neg_fdiv_neg];have:-b*a.fdiv b=-(b*a.fdiv b):=Int.neg_mul _ _
   lia
  have T:=Int.fmod_nonneg_of_pos (-a) (show 0 < -b by lia);have R:=Int.fmod_lt_of_pos (-a) (show 0 < -b by lia)
  lia
 .have T:=Int.fmod_nonneg_of_pos a h;have R:=Int.fmod_lt_of_pos a h
  lia
def Ln{a b:Int}(g:b≠0):0<gi a b:=by
 have:0<Int.gcd a b:=Int.gcd_pos_of_ne_zero_right a g;unfold gi;lia
def cb{a b:Int}(R:b≠0):(gi a b).natAbs<=b.natAbs:=by
 have h:Int.gcd a b ∣ b.natAbs:=by
  have:=Int.gcd_dvd_right a b;exact Int.natAbs_dvd_natAbs.mpr this
 have g:0<b.natAbs:=by lia
 have:=Nat.le_of_dvd g h;unfold gi;lia
def gs(t b:Int):Int:=if b<0 then -gi t b else gi t b
def kf{t b:Int}(g:b≠0):gs t b≠0:=by
 have:=Ln (a:=t) g;unfold gs;split<;>lia
def kI{t b:Int}(g:b≠0):(gs t b).natAbs<=b.natAbs:=by
 have:=cb (a:=t) g;unfold gs;split<;>lia
def GZ{g x k:Int}(R:g≠0)(e:x=g*k):x.fdiv g=k:=by
 subst e;exact Int.mul_fdiv_cancel_left k R
def ND(a b:Int):gi a b ∣ a:=Int.gcd_dvd_left a b
def Ph(a b:Int):gi a b ∣ b:=Int.gcd_dvd_right a b
def Wa{t b:Int}(T:b≠0):t.fdiv (gs t b)=(Rat.divInt t b).num:=by
 have U:=Ln (a:=t) T;obtain⟨k,R⟩:=ND t b;rw[Rat.num_divInt,Int.gcd_comm b t];show t.fdiv (gs t b)=b.sign*t / gi t b;unfold gs;generalize gi t b=g at U R ⊢;rcases Int.lt_or_gt_of_ne T with h|h
 .rw[if_pos h,Int.sign_eq_neg_one_of_neg h,GZ (k:=-k) AC (by rw[R];simp[Int.mul_neg,Int.neg_mul])];have:-1*t=g*(-k):=by rw[R];simp[Int.mul_neg]
  rw[this,Int.mul_ediv_cancel_left _ AC]
 .rw[if_neg AC,Int.sign_eq_one_of_pos h,GZ (k:=k) AC R,Int.one_mul,R,Int.mul_ediv_cancel_left _ AC]
def X2{t b:Int}(T:b≠0):b.fdiv (gs t b)=((Rat.divInt t b).den:Int):=by
 have U:=Ln (a:=t) T;obtain⟨k,R⟩:=Ph t b;rw[Rat.den_divInt,if_neg T,Int.gcd_comm b t];have e:(((b.natAbs / Int.gcd t b:Nat)):Int)=(b.natAbs:Int) / gi t b:=by unfold gi;simp
 rw[e];unfold gs;generalize gi t b=g at U R ⊢;rcases Int.lt_or_gt_of_ne T with h|h
 .rw[if_pos h,GZ (k:=-k) AC (by rw[Int.neg_mul_neg];exact R)];have:(b.natAbs:Int)=g*(-k):=by rw[Int.mul_neg,<-R];lia
  rw[this,Int.mul_ediv_cancel_left _ AC]
 .rw[if_neg AC,GZ (k:=k) AC R];have:(b.natAbs:Int)=g*k:=by rw[<-R];lia
  rw[this,Int.mul_ediv_cancel_left _ AC]
def FV(a b:Int):(a.fdiv b).natAbs<=a.natAbs:=by
 cases a with
 |ofNat n=>
  cases n with
  |zero=>
   have e:Int.fdiv (.ofNat 0) b=0:=Int.zero_fdiv b;rw[e];exact aq _
  |succ k=>
   cases b with
   |ofNat j=>exact Nat.div_le_self RJ j
   |negSucc j=>exact Nat.succ_le_succ (Nat.div_le_self k (j+1))
 |negSucc k=>
  cases b with
  |ofNat j=>
   cases j with
   |zero=>exact aq _
   |succ j=>exact Nat.succ_le_succ (Nat.div_le_self k (j+1))
  |negSucc j=>exact Nat.div_le_self RJ (j+1)
def pJ{t b:Int}(g:b≠0):(Rat.divInt t b).num.natAbs<=t.natAbs:=by
 rw[<-Wa g];exact FV _ _
def fR{t b:Int}(g:b≠0):(Rat.divInt t b).den<=b.natAbs:=by
 have h:=FV b (gs t b);rw[X2 g]at h
 simpa using h
def Nu(p:Rat):(p.den:Int)≠0:=by
 have:=p.den_nz
 lia
def Dg(p:Rat):Rat.divInt p.num p.den=p:=Rat.num_divInt_den p
def qK(p q:Rat):Rat.divInt (p.num*q.den+q.num*p.den) (p.den*q.den)=p+q:=by
 rw[<-Rat.divInt_add_divInt _ _ (Nu p) (Nu q),Dg,Dg]
def mS(p q:Rat):Rat.divInt (p.num*q.den-q.num*p.den) (p.den*q.den)=p-q:=by
 rw[<-Rat.divInt_sub_divInt _ _ (Nu p) (Nu q),Dg,Dg]
def Rk(p q:Rat):Rat.divInt (p.num*q.num) (p.den*q.den)=p*q:=by
 rw[<-Rat.divInt_mul_divInt,Dg,Dg]
def NP(p q:Rat):(p.den:Int)*q.den≠0:=Int.mul_ne_zero (Nu p) (Nu q)
def mW{p q:Rat}(g:p.num=q.num)(R:(p.den:Int)=(q.den:Int)):p=q:=Rat.ext g AC
def IK{x y:Int}{m n:Nat}(R:x.natAbs<2^m)(g:y.natAbs<2^n):(x*y).natAbs<2^(m+n):=by
 rw[Int.natAbs_mul,Nat.pow_add];exact Nat.mul_lt_mul'' R g
def sP{x y:Int}{n:Nat}(R:x.natAbs<2^n)(g:y.natAbs<2^n):(x-y).natAbs<2^(n+1):=by
 rw[Nat.pow_succ];lia
def Np{x:Nat}{m n:Nat}(g:x<2^m)(h:m<=n):x<2^n:=aI g (aa AT h)
def Fits(p:Rat)(n:Nat):Prop:=p.num.natAbs<2^n/\p.den<2^n
def Fits.mono{p:Rat}{m n:Nat}(h:Fits p m)(l:m<=n:=by decide):Fits p n:=⟨Np h.1 l,Np h.2 l⟩
def Fits.d{p:Rat}{n:Nat}(h:Fits p n):((p.den:Int)).natAbs<2^n:=by simpa using h.2
def Fits.Sj{t b:Int}{n:Nat}(g:b≠0)(T:t.natAbs<2^n)(R:b.natAbs<2^n):Fits (Rat.divInt t b) n :=
 ⟨aW (pJ g) T,Nat.lt_of_le_of_lt (fR g) R⟩
def jg{p q:Rat}{m n:Nat}(h:Fits p m)(k:Fits q n):(p.num*q.den-q.num*p.den).natAbs<2^(m+n+1) :=
 sP (IK h.1 k.d) (by have:=IK k.1 h.d;rwa [Nat.add_comm n m]at this)
def dd{p q:Rat}{m n:Nat}(h:Fits p m)(k:Fits q n):((p.den:Int)*q.den).natAbs<2^(m+n):=IK h.d k.d
def nn{p q:Rat}{m n:Nat}(h:Fits p m)(k:Fits q n):(p.num*q.num).natAbs<2^(m+n):=IK h.1 k.1
def Fits.less{p q:Rat}{m n:Nat}(h:Fits p m)(k:Fits q n):Fits (p-q) (m+n+1):=by
 rw[<-mS];exact .Sj (NP p q) (jg h k) (Np (dd h k) AC)
def Fits.times{p q:Rat}{m n:Nat}(h:Fits p m)(k:Fits q n):Fits (p*q) (m+n):=by
 rw[<-Rk];exact .Sj (NP p q) (nn h k) (dd h k)
end FM
namespace FM
def ZD(a b:Int):Int.gcd (if a<0 then -a else a) (if b<0 then -b else b)=Int.gcd a b:=by
 split<;>split<;>simp[Int.gcd_neg,Int.neg_gcd]
def abs_nonneg(a:Int):0<=(if a<0 then -a else a):=by split<;>lia
def gQ{g a b:Int}(h:Int.gcd g 0=Int.gcd a b)(h0:0<=g):g=gi a b:=by
 unfold gi;rw[<-h,Int.gcd_zero_right]
 lia
def fmod_nonneg{g l:Int}(R:l≠0)(h:0<=l):0<=g.fmod l:=Int.fmod_nonneg_of_pos g AC
end FM
namespace L2
open PySem PySem.Spec PyProof.Rows
structure Fn(K:Fg)(mg:zBQ)(x:Str)(st:Stmt)(ps:List Str)(f:Addr)(fd:Db):Prop where
 F:Vd K x x st f fd
 b:Binds K fd ps []
 m:mg x=some zBy
section
variable{X:Cx}{k:Nat}{f:AD}{fd:Db}{ps:yU}{sp:Sp}{x:Str}{st:Stmt}{p pos:Pos}{e:Expr}{es:yV}{t:TA}
def DY(T:Fn X.K X.mg x st ps f fd)(G:AK X.prog X.w X.K X.mg X.base Ag k f fd ps sp)(U:EH k X.A)(Y:zDD)(ha:PA X Op t) (R:HV=false:=by decide)(Z:starEach Op X.env=IJ::starEach es X.env:=by rfl)(g:(backTo pos Nm).any Nh=false:=by rfl):PE X Id (d8 sp [] E0 t):=bx G U Y T.m T.F.kp T.b .nil ub ha R Z g
end
def RY{t u:TS}{D:Ends}{σ:St}{H:Hp}(P:St->Hp->Prop)(T:∀nx:St->Hp->Prop,(∀g H',P g H'->nx g H')->t {D with nx:=nx} σ H)(R:∀g H',P g H'->u D g H'):qJ t u D σ H:=T _ R
def Q6:2<=sizeLine:=by decide
def Ah{H:Hp}{p:AD}(h:H p=none)(o:HO):AM H (upd H p o):=fun b u q=>by rw[AL (Aa q h)];exact q
def SameBut(l:AD)(H H':Hp):Prop:=∀b o,b≠l->H b=some o->H' b=some o
def SameBut.of{l:AD}{H H':Hp}(h:mo):SameBut l H H':=fun b o _ q=>h b o q
def SameBut.upd{l:AD}{H:Hp}{o:HO}:SameBut l H (upd H l o):=fun b u n q=>by rw[AL n];exact q
def Kt(p:Rat):yb:=[.int p.num,.int (p.den:Int)]
def Rt(K:Fg)(H:Hp)(p:Rat)(v:V):Prop:=∃a,v=.ref a/\BL K H a (Kt p)
def Rt.of{K:Fg}{H:Hp}{p:Rat}{a:AD}(h:H a=some (.tup (Kt p))):Rt K H p HY:=⟨a,rfl,.of h⟩
def AX(p:Rat):PD:=.tuple [.int p.num,.int (p.den:Int)]
def QB{i j:Int}{m n:Nat}(R:i.natAbs<2^m)(g:j.natAbs<2^n)(h:m+n<=1000000):Xz i j\/Sn i j :=
 .inr ⟨m+n,h,FM.Np R (Nat.le_add_right _ _),FM.Np g (Nat.le_add_left _ _)⟩
structure wX(P:FS)(w:IO)(outer:List Env)(H:Hp)(s:Shared)(ea:Addr)(cls a0:Value)(H':Hp)(s':Shared)(B:Heap):Prop where
 os:s'.os=s.os
 bare:AllBare s'.gens
 yE:Heap.FlyingW B outer ea cls a0 s'.heap
 keep:∀b o,s.heap.get? b=some o->H b=none->b ∉ Hu outer->B.get? b=some o
 there:∀b o,s.heap.get? b=some o->b ∉ Hu outer->∃o',B.get? b=some o'
 slot:∀b o,s.heap.get? b=some o->b∈Hu outer->∃sl,s'.heap.get? b=some {o with slots:=sl}
 free:∀b o,s.heap.get? b=some o->H b=none->H' b=none
 BF:∀b xs,H b=some LE->H' b=some LE
 Ie:∀b o u,H b=some (.GD o u)->H' b=some (.GD o u)
 Jl:∀b ps,H b=some (.TF ps)->∃more,H' b=some (.TF (ps++more))
 Jr:∀b xs o,H b=some LE->s.heap.get? b=some o->B.get? b=some o
 A5:F8 P w H' B
 new:s.heap.get? ea=none
def B8(P:FS)(w:IO):Iy:=fun outer H s E e s'=>∃ea cls a0 H' B,e=.ref ea/\wX P w outer H s ea cls a0 H' s' B/\E cls none H'
def YJ{base h:Heap}{l:yf}(F:h.FunFrames base l){b:AD}(g:b∈Hu l):∃o,h.get? b=some o/\∀vs,o.data≠.fields vs:=(F.mem g).2
section
variable{P:FS}{w:IO}{K:Fg}{mg:yP}{base:Heap}{N:yU}{qual:Str}{scope:zAm}{f:AD}{cd:VL}{A:Ki}{outer:yf}{s:SD}{H:Hp}{E:XK}
def ml{pins:DH}{σ:St}{Z:Hp}{s1:SD}{h':Heap}{ea:AD}{cls:VL}{args:yN}(I:Inv zGy pins σ Z s1) (hx:Heap.MadeExcOf s1.heap h' ea cls args)(hE:E cls none Z):(DZ K9 P w K mg base N qual scope f cd A outer s H E).xe (.ref ea) zCf:=by
 show wpAny zAZ (A.deeper Lu) (leaving Lu (.ref ea)) _ _ _;have FF:=I.stack;have hfr:(A.deeper Lu).frames=some ze:=I.ok.frames;have hin:∀env∈ze,∀b,env.frame=some b->b∈(envOfC qual scope s.heap.objs.size f cd::outer).filterMap (·.frame):=fun env he b R=>List.mem_filterMap.mpr ⟨env,he,R⟩;have T:∀b o,s.heap.get? b=some o->b≠s.heap.objs.size:=fun b o e=>aG z0;have out:∀b,b≠s.heap.objs.size->b ∉ Hu outer->b ∉ (envOfC qual scope s.heap.objs.size f cd::outer).filterMap (·.frame):=fun b h1 h2 hm=>by
  rcases aM.mp (I.P8 b hm) with z|z
  .exact h1 z
  .exact h2 z
 have g:∀b u,Z b=some u->b ∉ (envOfC qual scope s.heap.objs.size f cd::outer).filterMap (·.frame):=fun b u e hm=>by
  have:=I.UL b hm;rw[e]at this;cases this
 refine wpAny_leaves_madeW (base:=PySem.W.hideAll s1.heap zBp) hfr rfl (fun b o q=>PySem.W.of_hideAll _ q) (PySem.W.funFrames_hide FF hin) hx fun h2 t fl _ _ up=>?_;have Y:F8 P w Z (PySem.W.hideAll s1.heap zBp):=fun b u e=>
  (I.A5 b u e).Jy (fun c v hc q=>PySem.W.hideAll_get _ q (by
   rcases hc with rfl|hc
   .exact g _ _ e
   .exact g _ _ hc)) (fun _ q=>q) fun _ _ q=>q
 refine⟨ea,cls,.ref t,Z,_,rfl,⟨I.os,I.bare,fl,fun b o e n R=>?_,fun b o e R=>?_,fun b o e R=>?_,fun b o e n=>I.base.free b o e n ii,I.base.BF,I.base.Ie,I.base.Jl,fun b xs o q e=>PySem.W.hideAll_get _ (I.base.Jr b xs o q e ii) (g b _ zEn),Y,?_⟩,hE⟩
 .exact PySem.W.hideAll_get _ (I.base.keep b o e n R ii) zEQ
 .obtain⟨o',U⟩:=I.base.there b o e ii;exact⟨o',PySem.W.hideAll_get _ U zEQ⟩
 .obtain⟨sl,U⟩:=I.base.slot b o e (I.ok.Vm b R) R ii;obtain⟨o',e2,hd⟩:=YJ I.Jn R;rw[U]at e2;cases e2;obtain⟨sl',e3⟩:=up b _ (hx.keeps _ _ U) hd;exact⟨sl',e3⟩
 .cases q:s.heap.get? ea with
  |none=>rfl
  |some o=>
   obtain⟨o',U⟩:=I.base.there ea o q ii;have:=hx.new;rw[U]at this;cases this
def uf{E':XK}(hE:∀c a H',E' c a H'->E c a H'):Passes K9 zGy E':=by
 intro pins σ H1 s1 e s2 I ⟨ea,cls,a0,H2,B,ee,F,hq⟩;subst ee;show wpAny zAZ (A.deeper Lu) (leaving Lu (.ref ea)) _ _ _;have T:∀b o,s.heap.get? b=some o->b≠s.heap.objs.size:=fun b o e=>aG z0;have out:∀b,b≠s.heap.objs.size->b ∉ Hu outer->b ∉ Hu (DZ K9 P w K mg base N qual scope f cd A outer s H E).stack:=fun b h1 h2 hm=>by
  rcases aM.mp (I.P8 b hm) with z|z
  .exact h1 z
  .exact h2 z
 refine wpAny_leaves_onW I.ok.frames rfl F.yE fun h3 fl up=>?_;refine⟨ea,cls,a0,H2,B,rfl,⟨F.os.trans I.os,F.bare,fl,fun b o e n R=>?_,fun b o e R=>?_,fun b o e R=>?_,fun b o e n=>?_,fun b xs q=>F.BF b xs zEn,fun b o u q=>F.Ie b o u (I.base.Ie b o u q),fun b ps q=>?_,fun b xs o q e=>F.Jr b xs o zEn (I.base.Jr b xs o q e ii),F.A5,?_⟩,hE _ _ _ hq⟩
 .exact F.keep b o (I.base.keep b o e n R ii) (I.base.free b o e n ii) zEQ
 .obtain⟨o',g⟩:=I.base.there b o e ii;exact F.there b o' g zEQ
 .obtain⟨sl,g⟩:=I.base.slot b o e (I.ok.Vm b R) R ii;have Y:b∈Hu (DZ K9 P w K mg base N qual scope f cd A outer s H E).stack:=by
   show b∈Hu ze;unfold Hu;rw[List.filterMap_cons];exact aU _ R
  obtain⟨sl2,Z⟩:=F.slot b _ g Y;obtain⟨o',e3,hd⟩:=YJ I.Jn R;rw[g]at e3;cases e3;obtain⟨U,e4⟩:=up b _ Z hd;exact⟨U,e4⟩
 .obtain⟨o',g⟩:=I.base.there b o e ii;exact F.free b o' g (I.base.free b o e n ii)
 .obtain⟨m1,g⟩:=I.base.Jl b ps q;obtain⟨m2,Z⟩:=F.Jl b _ g;exact⟨m1++m2,by rw[Z,Array.append_assoc]⟩
 .cases q:s.heap.get? ea with
  |none=>rfl
  |some o=>
   obtain⟨o',g⟩:=I.base.there ea o q ii;have:=F.new;rw[g]at this;cases this
def Vd.xi{x:Str}{st:Stmt}{fd:Db}{ps:yU}{k:Nat}{sp:Sp}(F:Vd K x x st f fd)(S:Ad N ps zBG)(len:zAT) (g:∀(cdv:VL) (A:Ki) (outer:yf) (s:SD) (H:Hp) (vs:yb) (Q:VK) (E:XK),EH k (A.deeper (envOfC x zBG s.heap.objs.size f cdv))->sp vs H Q E ->∃t,JZ (DZ K9 P w K mg base N x zBG f cdv A outer s H E) (Et st) t/\t { nx:=fun _ H'=>Q .BN H',rt:=Q} zCn H):AK P w K mg base K9 RJ f fd ps sp:=by
 obtain⟨oc,od,kV,doc,pm,an,cdv,ct,osl,rfl,lk,T⟩:=F.ex;exact lB lk T S len fun A outer s H vs Q E U R=>g cdv A outer s H vs Q E U R
def AK.xq{fd:Db}{ps:yU}{k:Nat}{sp:Sp}(F:AK P w K mg base Ag k f fd ps sp):AK P w K mg base K9 k f fd ps sp :=
 ⟨F.len,fun A outer s H args us vs Q E T U Y g R=>codeAny_mono (F.run A outer s H args us vs Q E T U Y g R) fun r s' h=>by
  cases r with
  |ok Z=>cases Z<;>exact h
  |error e=>exact False.elim h⟩
end
structure Exc(K:Fg)(mg:zBQ)(x:Str)(C:Addr):Prop where
 m:mg x=some zAM
 q:PySem.W.excIn K C [.type "ValueError",.type "Exception",.type "BaseException",.type "object"] "ValueError.__new__" = true
def mO{K:Fg}{h:Heap}{C:AD}{bB:yN}{R:zAG}(Tj:K.In h)(g:PySem.W.excIn K C bB R=true):∃T N nm Y bs hd sn sub ab col dd k0 k1 k2 k3 k5 mN,h.get? C=some (excClassObj nm Y C N bs T hd sn sub ab col dd k0 k1 k2 k3 k5 R)/\h.Ns N mN/\mN "__init__" = none/\OwnTail h bB T:=by
 unfold PySem.W.excIn at g;split at g
 .rename_i dd cd sl lk;split at g
  .rename_i C1 T k0 k1 k2 k3 n1 k5 e1 e2;simp only[Bool.and_eq_true,beq_iff_eq,Bool.not_eq_true']at g;obtain⟨⟨⟨⟨⟨y1,y2⟩,y3⟩,y4⟩,U⟩,Z⟩:=g;subst y1 y2;obtain⟨nm,bs,mro,N,Y,hd,sn,sub,ab,col,del⟩:=cd;dsimp only at e1 y3 U Z;subst e1 y3;have e3:sl=#[k0,k1,k2,k3,some (.builtin n1),k5]:=by
    cases sl with
    |mk l=>simp only at e2;rw[e2]
   subst e3;exact⟨T,N,nm,Y,bs,hd,sn,sub,ab,col,dd,k0,k1,k2,k3,k5,_,Tj _ _ lk,.of_isNs (PySem.W.isNs_of_in Tj U),PySem.W.nsMap_none_of_in Tj U Z,PySem.W.tail_of_in Tj y4⟩
  .cases g
 .cases g
section
variable{X:Cx}{x:Str}{C:AD}{np cpos pos:Pos}{e:Expr}{te:TE}{E:XK}
def Lets(X:Cx)(E:XK):Prop:=∀(pins:DH) (σ:St) (H:Hp) (s:SD) (h':Heap) (ea:AD) (cls:VL) (args:LY),Inv X pins σ H s->Heap.MadeExcOf s.heap h' ea cls args->E cls none H->X.xe (.ref ea) M0
def rJ(C:AD)(E:XK)(te:TE):TS:=fun _ σ H=>te σ H fun _ g=>E zAM none g
def iZ(T:Exc X.K X.mg x C)(hL:Lets X E)(R:dO)(hg:zDD)(he:PE X e te)(hd:HV=false:=by decide) (U:starEach [e] X.env=[IJ]:=by rfl):PS X (.Raise (some (.Call RN [e] [] cpos)) none pos) (rJ C E te):=by
 intro pins s σ H D I h;obtain⟨tl,N,nm,qn,bs,g,sn,sub,ab,col,dd,k0,k1,k2,k3,k5,mN,hC,hN,Z,TL⟩:=mO I.ok.mod.Tj T.q;refine wpAny_Raise_call_subT (C:=C) (nm:=nm) (q:=qn) (N:=N) (bs:=bs) (bm:=tl) (hdct:=g) (sn:=sn) (sub:=sub) (ab:=ab) (col:=col) (dd:=dd) (k0:=k0) (k1:=k1) (k2:=k2) (k3:=k3) (k5:=k5)
  PySem.F.excBase_ValueError (mN:=mN) (TL.hasType AT) (I.ok.hd R) (by rw[U];rfl) Z (Uv I hg T.m ⟨rfl,?_⟩ hd)
 rw[U];refine Calls.evalArgs_plain (Calls.spliced_cons (BW zAf fun u s1 ⟨v,H1,Y,r1,q1⟩=>Calls.spliced_nil ?_));exact⟨rfl,by show 1<=sizeLine;decide,Y.bk _ _ hC,hN.keeps Y.bk,TL.keeps Y.bk,fun h' ea hm=>hL pins σ H1 s1 h' ea _ _ Y hm q1⟩
end
def wz(ea:AD)(cls:VL):HO:=.ext fun h=>∃o vs,h.get? ea=some o/\o.cls=cls/\o.data=.fields vs
structure Qe(K:Fg)(C G:Addr)(b:Bool):Prop where
 cl:(PySem.W.clsIn K G).isSome=true
 ty:PySem.W.typeIn K (.ref G)=some zAK
 ex:PySem.W.subIn K (.ref G) Ty=some true
 sub:PySem.W.subIn K zAM (.ref G)=some b
open PySem PySem.Spec PyProof.Rows PySem.Builtin.ObjectAttr PySem.Builtin.Getset_descriptor
structure cH(K:Fg)(C:Addr):Prop where
 cl:(PySem.W.clsIn K C).isSome=true
 ga:PySem.W.findIn K zAM "__getattribute__" = some (some (.builtin "BaseException.__getattribute__"))
 gh:PySem.W.findIn K zAM "__getattr__" = some none
 at_:PySem.W.findIn K zAM "__class__" = some (some ln)
 gt:PySem.W.specialIn K ln "__get__" = some (some (.builtin "getset_descriptor.__get__"))
 tk:PySem.W.takesIn K ln=some true
 ob:PySem.W.mroIn K C xz=some true
 be:PySem.W.mroIn K C Ty=some true
def XI:V->VL
 |.ref C=>.ref C
 |.ty n=>.type n
 |_=>.none
def lu{c:V}{u:VL}(r:RelV c u)(h:XI c≠.none):u=XI c:=by
 cases c with
 |ref C=>exact r
 |ty n=>exact r
 |_=>exact absurd rfl h
section
variable{X:Cx}
def v9(K:Fg):List V->Hp->VK->Prop:=fun xs H Q=>∃x c t b,xs=[x,c]/\XI c≠.none/\JB K H x t/\PySem.W.kitOne K t (XI c)=some b/\Q (.bl b) H
def j0:FW X (.builtin "isinstance") (v9 X.K):=by
 intro pins s σ H xs us Q I r h;obtain⟨x,c,t,b,rfl,T,ty,e,q⟩:=h;obtain⟨u,v,rfl,R,g⟩:=r.two;rw[lu g T];exact iE I R ty e fun tk=>⟨.bl b,H,I.tok tk,rfl,q⟩
end
def sd(K:Fg):PySem.W.kitOne K Gf Gf=some true:=rfl
def tR(K:Fg):PySem.W.kitOne K ul ul=some true:=rfl
def si(K:Fg):PySem.W.kitOne K na na=some true:=rfl
def sG(K:Fg):PySem.W.kitOne K ul na=some false:=by kernel_rfl
def qF(K:Fg):PySem.W.kitOne K na ul=some true:=by kernel_rfl
def qx(K:Fg):PySem.W.kitOne K iN Gf=some false:=by kernel_rfl
def oq(K:Fg):PySem.W.kitOne K Gf iN=some false:=by kernel_rfl
def ql(K:Fg):PySem.W.kitOne K iN iN=some true:=rfl
def rp(K:Fg):PySem.W.kitOne K ul Gf=some false:=by kernel_rfl
def rg(K:Fg):PySem.W.kitOne K na Gf=some false:=by kernel_rfl
def rY(K:Fg):PySem.W.kitOne K zCL Gf=some false:=by kernel_rfl
def rE(K:Fg):PySem.W.kitOne K (.type "str") Gf=some false:=by kernel_rfl
def tI(K:Fg):PySem.W.kitOne K Gf ul=some false:=by kernel_rfl
def rH(K:Fg):PySem.W.kitOne K iN ul=some false:=by kernel_rfl
def rB(K:Fg):PySem.W.kitOne K zCL ul=some false:=by kernel_rfl
def pV(K:Fg):PySem.W.kitOne K (.type "str") ul=some false:=by kernel_rfl
def rX(K:Fg):PySem.W.kitOne K ul iN=some false:=by kernel_rfl
def sC(K:Fg):PySem.W.kitOne K na iN=some false:=by kernel_rfl
def qo(K:Fg):PySem.W.kitOne K zCL iN=some false:=by kernel_rfl
def sO(K:Fg):PySem.W.kitOne K (.type "str") iN=some false:=by kernel_rfl
def freeOk(g:zAm)(names:zEI):Bool:=names.all fun y=>y.2 != .free||g.names.lookup y.1==some .cell||g.names.lookup y.1==some .free
def QL{g:zAm}{names:zEI}(h:freeOk g names=true):∀y∈names,y.2=.free->g.names.lookup y.1=some .cell\/g.names.lookup y.1=some .free:=fun y R T=>by
 have q:=aL.mp h y R;rw[T]at q;simp only[bne_self_eq_false,Bool.false_or,Bool.or_eq_true,beq_iff_eq]at q;exact q
def C6(scope:zAm)(N:yU)(x:Str)(ix:Nat):Bool :=
 scope.kind==.function&&(scope.names.all fun y=>y.2 != .cell&&(y.2 != .local||scope.names.lookup y.1==some .local)&&(y.2 != .free||scope.names.lookup y.1==some .free))&&scope.names.lookup x==some .local&&decide N.Nodup&&N[ix]? == some x
def JN{scope:zAm}{N:yU}{x:Str}{ix:Nat}(h:C6 scope N x ix=true):Fj scope N x ix:=by
 unfold C6 at h;simp only[Bool.and_eq_true,beq_iff_eq,decide_eq_true_eq,List.all_eq_true,bne_iff_ne,Bool.or_eq_true]at h;obtain⟨⟨⟨⟨h1,T⟩,Z⟩,Y⟩,U⟩:=h;exact⟨h1,fun y g=>(T y g).1.1,fun y g R=>(T y g).1.2.resolve_left fun z=>z R,fun y g R=>(T y g).2.resolve_left fun z=>z R,Z,Y,U⟩
section
variable{X:Cx}{elt iter:Expr}{x:Str}{px pos:Pos}{ifs:yV}{scope:zAm}{wi:TI}{tif:TT}{te:TE}
def HP(N:yU)(ix:Nat)(fr:yg)(hi:PI X zBe iter wi)(g:zFa)(T:zFc) (h1:C6 scope N x ix=true:=by decide +kernel)(h2:X.calm=true:=by rfl)(Z:HE N X.N scope X.env.scope fr 0=true:=by rfl)(Y:fr.length=N.length:=by rfl)(U:freeOk X.env.scope scope.names=true:=by rfl) (R:∀x,foldedSetIterable iter X.env x=pure x:=by intro _;rfl):PE X EQ zDq :=
 mY (JN h1) h2 Z Y (QL U) hi g T R
def M5{i:Nat}{y:Str}{Y g:Pos}(N:yU)(ix:Nat)(fr:yg)(hN:zv)(Z:X.N[i]? = some y)(T:X.env.scope.names.lookup y=some .local) (hi:PI X zBe iter wi)(U:zFa)(he:zFc) (h1:C6 scope N x ix=true:=by decide +kernel)(h2:X.calm=true:=by rfl)(h3:HE N X.N scope X.env.scope fr 0=true:=by rfl)(h4:fr.length=N.length:=by rfl)(h5:freeOk X.env.scope scope.names=true:=by rfl) (R:swapsWith EQ (some (.Name y Y)) g.line X.env=pure true:=by rfl) (hs:∀x,foldedSetIterable iter X.env x=pure x:=by intro _;rfl):PS X (.Assign [.Name y Y] EQ g) (XT zDq (F0 i)) :=
 dM hN Z T (JN h1) h2 h3 h4 (QL h5) hi U he R hs
end
section
variable{X:Cx}{k:Nat}{f:AD}{fd:Db}{ps:yU}{sp:Sp}{x:Str}{st:Stmt}{p pos:Pos}{e:Expr}{es:yV}{t:TA}{E:XK}
def Wt(T:Fn X.K X.mg x st ps f fd)(G:AK X.prog X.w X.K X.mg X.base (B8 X.prog X.w) k f fd ps sp)(U:EH k X.A)(Y:zDD)(hP:zBf)(ha:PA X Op t) (R:HV=false:=by decide)(Z:starEach Op X.env=IJ::starEach es X.env:=by rfl)(g:(backTo pos Nm).any Nh=false:=by rfl):PE X Id (d8 sp [] E t):=bx G U Y T.m T.F.kp T.b .nil hP ha R Z g
end
end L2
inductive Tr where
 |nil
 |cons (b r:Tr)
 deriving DecidableEq
abbrev yc:=List Tr
namespace Tr
def bs:Tr->List Tr
 |.nil=>[]
 |.cons b r=>b::r.bs
def of:List Tr->Tr
 |[]=>.nil
 |b::r=>.cons b (of r)
def T7:∀t:Tr,of t.bs=t
 |.nil=>rfl
 |.cons b r=>by rw[bs,of,T7 r]
def Qf:∀l:List Tr,(of l).bs=l
 |[]=>rfl
 |b::r=>by rw[of,bs,Qf r]
def fT{t u:Tr}(h:t.bs=u.bs):t=u:=by rw[<-T7 t,h,T7]
def len:Tr->Nat
 |.nil=>0
 |.cons _ r=>r.len+1
def E8:∀t:Tr,t.bs.length=t.len
 |.nil=>rfl
 |.cons _ r=>by rw[bs,List.length_cons,E8 r,len]
def AI:Tr->Nat
 |.nil=>1
 |.cons b r=>b.AI+r.AI
def deep:Tr->Nat
 |.nil=>0
 |.cons b r=>max (b.deep+1) r.deep
def lt:Tr->Tr->Bool
 |.nil,.nil=>false
 |.nil,.cons _ _=>true
 |.cons _ _,.nil=>false
 |.cons b r,.cons c q=>if b=c then lt r q else lt b c
def lt_irrefl:∀t:Tr,lt t t=false
 |.nil=>rfl
 |.cons b r=>by rw[lt,if_pos rfl];exact lt_irrefl r
def lt_trans:∀a b c:Tr,lt a b=true->lt b c=true->lt a c=true
 |.nil,.nil,_,h,_=>by cases h
 |.nil,.cons _ _,.nil,_,h=>by cases h
 |.nil,.cons _ _,.cons _ _,_,_=>rfl
 |.cons _ _,.nil,_,h,_=>by cases h
 |.cons _ _,.cons _ _,.nil,_,h=>by cases h
 |.cons a r,.cons b s,.cons c t,R,g=>by
  rw[lt]at R g ⊢;by_cases Y:a=b
  .subst Y;rw[if_pos rfl]at R;by_cases T:a=c
   .subst T;rw[if_pos rfl]at g ⊢;exact lt_trans r s t R g
   .rw[if_neg T]at g ⊢;exact g
  .rw[if_neg Y]at R;by_cases T:b=c
   .subst T;rw[if_neg Y];exact R
   .rw[if_neg T]at g;have U:=lt_trans a b c R g;by_cases Z:a=c
    .subst Z;rw[lt_irrefl]at U;cases U
    .rw[if_neg Z];exact U
def Lw:∀a b:Tr,lt a b=false->lt b a=false->a=b
 |.nil,.nil,_,_=>rfl
 |.nil,.cons _ _,h,_=>by cases h
 |.cons _ _,.nil,_,h=>by cases h
 |.cons a r,.cons b s,R,g=>by
  rw[lt]at R g;by_cases e:a=b
  .subst e;rw[if_pos rfl]at R g;rw[Lw r s R g]
  .rw[if_neg e]at R;rw[if_neg (Ne.symm e)]at g;exact absurd (Lw a b R g) e
def Qv(a b c:Tr)(h:lt a c=true):lt a b=true\/lt b c=true:=by
 cases R:lt a b with
 |true=>exact .inl rfl
 |false=>
  right
  cases g:lt b a with
  |true=>exact lt_trans b a c g h
  |false=>rw[<-Lw a b R g];exact h
def lt_asymm{a b:Tr}(h:lt a b=true):lt b a=false:=by
 cases g:lt b a with
 |false=>rfl
 |true=>have:=lt_trans a b a h g;rw[lt_irrefl]at this;cases this
def QR:List Tr->List Tr->Bool
 |[],[]=>false
 |[],_::_=>true
 |_::_,[]=>false
 |b::r,c::q=>if b=c then QR r q else lt b c
def lO:∀t u:Tr,lt t u=QR t.bs u.bs
 |.nil,.nil=>rfl
 |.nil,.cons _ _=>rfl
 |.cons _ _,.nil=>rfl
 |.cons b r,.cons c q=>by
  rw[lt,bs,bs,QR,lO r q]
def ip:Tr->Bool
 |.nil=>true
 |.cons b r=>b.ip&&r.ip&&(match r with
  |.nil=>true
  |.cons c _=>!lt b c)
def ins(x:Tr):List Tr->List Tr
 |[]=>[x]
 |y::r=>if lt x y=true then y::ins x r else x::y::r
def Cn:List Tr->List Tr
 |[]=>[]
 |x::r=>ins x (Cn r)
end Tr
namespace TH
open PySem PyProof.Rows PySem.SeqAt
def Vs(h:Heap):Tr->List VL->Prop
 |.nil,us=>us=[]
 |.cons b r,us=>∃(a:AD) (g rest:LY),us=.ref a::rest/\h.IsTuple a g.toArray/\Vs h b g/\Vs h r rest
def Vs.length{h:Heap}:∀ {t:Tr} {us:LY},Vs h t us->us.length=t.len
 |.nil,us,e=>by rw[Vs]at e;rw[e];rfl
 |.cons b r,us,e=>by
  rw[Vs]at e;obtain⟨a,g,rest,rfl,_,_,q⟩:=e;rw[List.length_cons,Tr.len,Vs.length q]
def Iq{h:Heap}{a:AD}{x y:re}(U:h.IsTuple a x)(T:h.IsTuple a y):x=y:=by
 obtain⟨o,e,_,n,d⟩:=U;obtain⟨o',g,_,Y,R⟩:=T;rw[e]at g;cases g;rw[d]at R;cases R;rfl
def Vs.inj{h:Heap}:∀ {t u:Tr} {us:LY},Vs h t us->Vs h u us->t=u
 |.nil,.nil,_,_,_=>rfl
 |.nil,.cons _ _,us,e,f=>by
  rw[Vs]at e;rw[Vs]at f;obtain⟨_,_,_,f,_⟩:=f;rw[e]at f;cases f
 |.cons _ _,.nil,us,e,f=>by
  rw[Vs]at e;rw[Vs]at f;obtain⟨_,_,_,e,_⟩:=e;rw[f]at e;cases e
 |.cons b r,.cons c q,us,e,f=>by
  rw[Vs]at e f;obtain⟨a,T,rest,rfl,h1,h2,h3⟩:=e;obtain⟨a',g,R,e',Z,Y,U⟩:=f;cases e';have:=Iq h1 Z;have e2:T=g:=by simpa using this
  subst e2;rw[Vs.inj h2 Y,Vs.inj h3 U]
def WM{s:SD}:∀(t u:Tr) (A:Ki) (us vs:LY),Vs s.heap t us->Vs s.heap u vs->A.units+t.deep<=cLine ->
  ∀j (Z:j<us.length) (Y:j<vs.length),EqAt A s us[j] vs[j] (decide (t.bs[j]? = u.bs[j]?))
 |.nil,u,A,us,vs,e,f,_,j,Z,Y=>by
  rw[Vs]at e;subst e;exact absurd Z zCr
 |.cons b r,.nil,A,us,vs,e,f,_,j,Z,Y=>by
  rw[Vs]at f;subst f;exact absurd Y zCr
 |.cons b r,.cons c q,A,us,vs,e,f,hu,j,Z,Y=>by
  rw[Vs]at e f;obtain⟨a,R,rest,rfl,k1,k2,k3⟩:=e;obtain⟨a',g,T,rfl,l1,l2,l3⟩:=f;have hd:(Tr.cons b r).deep=max (b.deep+1) r.deep:=rfl;cases j with
  |zero=>
   show EqAt A s HY (.ref a') (decide (some b=some c));by_cases ea:a=a'
   .subst ea;have:=Iq k1 l1;have e2:R=g:=by simpa using this
    subst e2;rw[Vs.inj k2 l2,decide_eq_true rfl];exact EqAt.same _
   .refine EqAt.of_refs ea ?_;have key:=RcAt.tuples (s:=s) (A:=A) (e:=fun j=>decide (b.bs[j]? = c.bs[j]?)) k1 l1 AC fun j x1 x2=>by
     have:=WM b c A.in1 R g k2 l2 KP j (by simpa using x1) (by simpa using x2)
     simpa using this
    have ev:((List.range (min R.toArray.size g.toArray.size)).all (fun j=>decide (b.bs[j]? = c.bs[j]?))&&R.toArray.size==g.toArray.size)=decide (some b=some c):=by
     have z1:R.toArray.size=b.bs.length:=by rw[Tr.E8,<-Vs.length k2];simp
     have z2:g.toArray.size=c.bs.length:=by rw[Tr.E8,<-Vs.length l2];simp
     rw[z1,z2];by_cases U:b=c
     .subst U;simp
     .rw[decide_eq_false (fun z=>U (ah z))];cases hl:b.bs.length==c.bs.length with
      |false=>rw[Bool.and_false]
      |true=>
       rw[Bool.and_true];have hl':b.bs.length=c.bs.length:=by simpa using hl
       refine bX.mpr fun z=>U (Tr.fT (List.ext_getElem? fun i=>?_));by_cases hi:i<b.bs.length
       .have:=aL.mp z i (bV.mpr AC)
        simpa using this
       .rw[List.getElem?_eq_none AC,List.getElem?_eq_none AC]
    rw[ev]at key;exact key
  |succ j=>
   exact WM r q A rest T k3 l3 AC j (by simpa using Z) (by simpa using Y)
def OV{s:SD}{t u:Tr}{A:Ki}{a b:AD}{g its':yN}(T:zBg)(k1:Vs s.heap t g)(R:yt)(k2:zAU)(U:XN):EqAt A s HY zBU (decide (t=u)):=by
 have:=WM (.cons t .nil) (.cons u .nil) A [.ref a] [.ref b] ⟨a,g,[],rfl,T,k1,by rw[Vs]⟩ ⟨b,its',[],rfl,R,k2,by rw[Vs]⟩ (by show A.units+max (t.deep+1) 0<=cLine;lia) 0 At At
 simpa[Tr.bs]using this
section
open PySem.AutoSeq1 (wpAny_loadPart')
open PySem.MeetsSeq PySem.MeetsSeq2 PySem.MeetsSeq3
def WW(n0:Nat)(ih:∀(t u:Tr) (A:Ki) (s:SD) (a b:AD) (its its':yN),t.deep<n0->s.heap.IsTuple a its.toArray->Vs s.heap t its->s.heap.IsTuple b its'.toArray->Vs s.heap u its'->A.units+t.deep<cLine ->∀(prog:FS) (w:IO) (E:yO) (Q:yO),Q (.bool yn) s->wpAny AS A (richCompare .Lt HY zBU) Q E s) (l b:AD)(items T:re)(n n2:Nat)(dd dd2:zDo)(sl sl2:z9)(t u:Tr)(ht:t.deep<=n0):Meets (Builtin.«tuple.__lt__» ⟨[.ref l,.ref b],[]⟩) (fun A R s=>s.heap.get? l=some { cls:=.type "tuple",dict:=dd,data:=.seq items n,slots:=sl}/\s.heap.get? b=some { cls:=.type "tuple",dict:=dd2,data:=.seq T n2,slots:=sl2} /\Vs s.heap t items.toList/\Vs s.heap u T.toList/\A.units+t.deep<cLine/\R (.ok (.ret (.bool yn))) s) :=
 .of_wp fun prog w A R s h=>by
  obtain⟨hp,g,d,tk,os⟩:=s;obtain⟨hl,hb,hi,hj,hun,h⟩:=h;have f2:=AutoSeq1.sub_tuple_tuple;have z1:items.size=t.len:=by rw[<-Vs.length hi];simp
  have z2:T.size=u.len:=by rw[<-Vs.length hj];simp
  wp_walk using wpAny_loadPart' hl,wpAny_loadPart' hb,wpAny_forIn_list _ (fun rest b s'=>b.1=none/\s'=⟨hp,g,d,tk,os⟩/\∃(vs ws:LY) (t' u':Tr),rest=vs.zip ws /\
   Vs hp t' vs/\Vs hp u' ws/\t'.deep<=t.deep/\t'.len+T.size=u'.len+items.size/\R (.ok (.ret (.bool (Tr.lt t' u')))) ⟨hp,g,d,tk,os⟩) _
  case turn=>
   rintro⟨y,x⟩ rest b s' ⟨hb',rfl,vs,ws,t',u',hz,Z,Y,hdp,U,hR⟩;cases t' with
   |nil=>rw[Vs]at Z;subst Z;rw[List.zip_nil_left]at hz;cases hz
   |cons bt rt=>
    cases u' with
    |nil=>rw[Vs]at Y;subst Y;rw[List.zip_nil_right]at hz;cases hz
    |cons bu ru=>
     rw[Vs]at Z Y;obtain⟨a1,i1,v1,rfl,p1,p2,p3⟩:=Z;obtain⟨a2,i2,v2,rfl,q1,q2,q3⟩:=Y;rw[List.zip_cons_cons]at hz
     injection hz with hyx hrest
     injection hyx with hy hx
     subst hy hx;have hdd:(Tr.cons bt rt).deep=max (bt.deep+1) rt.deep:=rfl;rw[Tr.lt]at hR;simp only[Tr.len]at U;have he:=OV (s:=⟨hp,g,d,tk,os⟩) (A:=A.in1) p1 p2 q1 q2 KP;refine Wb (he prog w _ _ ?_);cases hc:decide (bt=bu) with
     |true=>
      rw[if_pos (aP hc)]at hR
      wp_walk
      exact⟨rfl,rfl,_,_,_,_,hrest,p3,q3,by lia,by lia,hR⟩
     |false=>
      rw[if_neg (bS hc)]at hR;have hri:=ih bt bu A.in1 ⟨hp,g,d,tk,os⟩ a1 a2 i1 i2 AC p1 p2 q1 q2 KP prog w
      wp_walk using hri
      exact⟨_,rfl,by simpa using hR⟩
  case fin=>
   rintro⟨b1,b2⟩ s' ⟨hb',rfl,vs,ws,t',u',hz,Z,Y,hdp,U,hR⟩;simp only at hb';subst hb';have hv:Tr.lt t' u'=decide (items.size<T.size):=by
    cases t' with
    |nil=>
     cases u' with
     |nil=>
      simp only[Tr.len]at U;exact(bF AC).symm
     |cons c q=>
      simp only[Tr.len]at U;exact(bg AC).symm
    |cons bt rt=>
     cases u' with
     |nil=>
      simp only[Tr.len]at U;exact(bF AC).symm
     |cons c q=>
      rw[Vs]at Z Y;obtain⟨_,_,_,rfl,_⟩:=Z;obtain⟨_,_,_,rfl,_⟩:=Y;rw[List.zip_cons_cons]at hz;cases hz
   rw[hv]at hR
   wp_walk
   exact⟨_,rfl,by simpa[Builtin.Tuple.tupleCompareSizes]using hR⟩
  case h=>
   exact⟨rfl,rfl,items.toList,T.toList,t,u,rfl,hi,hj,Nat.le_refl _,by lia,h⟩
def WE:∀(Z:Nat) (t u:Tr) (A:Ki) (s:SD) (a b:AD) (g its':LY),t.deep<Z->s.heap.IsTuple a g.toArray->Vs s.heap t g->s.heap.IsTuple b its'.toArray->Vs s.heap u its'->A.units+t.deep<cLine ->
   ∀(prog:FS) (w:IO) (E:ZB) (Q:ZB),Q (.bool yn) s->wpAny AS A (richCompare .Lt HY zBU) Q E s
 |0,_,_,_,_,_,_,_,_,h,_,_,_,_,_=>absurd h zCr
 |Z+1,t,u,A,s,a,b,g,its',hd,hl,ht,hb,hu',hun=>fun prog w E Q h=>by
  obtain⟨⟨cls,dd,data,sl⟩,ho,hc,n,U⟩:=id hl;obtain⟨⟨cls2,dd2,data2,sl2⟩,T,Y,n2,R⟩:=id hb;simp only at hc U Y R;subst hc U Y R;exact richCompare_meets_room (op:=.Lt) ⟨_,ho,rfl⟩ ⟨_,T,rfl⟩ PySem.F.slot_tuple_lt PySem.F.entry_tuple_lt (PySem.F.args_tuple_lt_2 _ _) (WW Z (WE Z) a b g.toArray its'.toArray n n2 dd dd2 sl sl2 t u AC)
   ⟨ho,T,by simpa using ht,by simpa using hu',hun,show Value.bool yn≠Value.notImplemented/\Q (.bool yn) s from⟨(fun x=>nomatch x),h⟩⟩ AC
end
section
open PySem.AutoSeq1 (wpAny_loadPart')
open PySem.MeetsSeq PySem.MeetsSeq2 PySem.MeetsSeq3
def jX(n0:Nat)(ih:∀(t u:Tr) (A:Ki) (s:SD) (a b:AD) (its its':yN),t.deep<n0->s.heap.IsTuple a its.toArray->Vs s.heap t its->s.heap.IsTuple b its'.toArray->Vs s.heap u its'->A.units+t.deep<cLine ->∀(prog:FS) (w:IO) (E:yO) (Q:yO),Q zBs s->wpAny AS A (richCompare .Gt HY zBU) Q E s) (l b:AD)(items T:re)(n n2:Nat)(dd dd2:zDo)(sl sl2:z9)(t u:Tr)(ht:t.deep<=n0):Meets (Builtin.«tuple.__gt__» ⟨[.ref l,.ref b],[]⟩) (fun A R s=>s.heap.get? l=some { cls:=.type "tuple",dict:=dd,data:=.seq items n,slots:=sl}/\s.heap.get? b=some { cls:=.type "tuple",dict:=dd2,data:=.seq T n2,slots:=sl2} /\Vs s.heap t items.toList/\Vs s.heap u T.toList/\A.units+t.deep<cLine/\R (.ok (.ret zBs)) s) :=
 .of_wp fun prog w A R s h=>by
  obtain⟨hp,g,d,tk,os⟩:=s;obtain⟨hl,hb,hi,hj,hun,h⟩:=h;have f2:=AutoSeq1.sub_tuple_tuple;have z1:items.size=t.len:=by rw[<-Vs.length hi];simp
  have z2:T.size=u.len:=by rw[<-Vs.length hj];simp
  wp_walk using wpAny_loadPart' hl,wpAny_loadPart' hb,wpAny_forIn_list _ (fun rest b s'=>b.1=none/\s'=⟨hp,g,d,tk,os⟩/\∃(vs ws:LY) (t' u':Tr),rest=vs.zip ws /\
   Vs hp t' vs/\Vs hp u' ws/\t'.deep<=t.deep/\t'.len+T.size=u'.len+items.size/\R (.ok (.ret (.bool (Tr.lt u' t')))) ⟨hp,g,d,tk,os⟩) _
  case turn=>
   rintro⟨y,x⟩ rest b s' ⟨hb',rfl,vs,ws,t',u',hz,Z,Y,hdp,U,hR⟩;cases t' with
   |nil=>rw[Vs]at Z;subst Z;rw[List.zip_nil_left]at hz;cases hz
   |cons bt rt=>
    cases u' with
    |nil=>rw[Vs]at Y;subst Y;rw[List.zip_nil_right]at hz;cases hz
    |cons bu ru=>
     rw[Vs]at Z Y;obtain⟨a1,i1,v1,rfl,p1,p2,p3⟩:=Z;obtain⟨a2,i2,v2,rfl,q1,q2,q3⟩:=Y;rw[List.zip_cons_cons]at hz
     injection hz with hyx hrest
     injection hyx with hy hx
     subst hy hx;have hdd:(Tr.cons bt rt).deep=max (bt.deep+1) rt.deep:=rfl;rw[Tr.lt]at hR;simp only[Tr.len]at U;have he:=OV (s:=⟨hp,g,d,tk,os⟩) (A:=A.in1) p1 p2 q1 q2 KP;refine Wb (he prog w _ _ ?_);cases hc:decide (bt=bu) with
     |true=>
      rw[if_pos (aP hc).symm]at hR
      wp_walk
      exact⟨rfl,rfl,_,_,_,_,hrest,p3,q3,by lia,by lia,hR⟩
     |false=>
      rw[if_neg (fun z=>bS hc z.symm)]at hR;have hri:=ih bt bu A.in1 ⟨hp,g,d,tk,os⟩ a1 a2 i1 i2 AC p1 p2 q1 q2 KP prog w
      wp_walk using hri
      exact⟨_,rfl,by simpa using hR⟩
  case fin=>
   rintro⟨b1,b2⟩ s' ⟨hb',rfl,vs,ws,t',u',hz,Z,Y,hdp,U,hR⟩;simp only at hb';subst hb';have hv:Tr.lt u' t'=decide (T.size<items.size):=by
    cases t' with
    |nil=>
     cases u' with
     |nil=>
      simp only[Tr.len]at U;exact(bF AC).symm
     |cons c q=>
      simp only[Tr.len]at U;exact(bF AC).symm
    |cons bt rt=>
     cases u' with
     |nil=>
      simp only[Tr.len]at U;exact(bg AC).symm
     |cons c q=>
      rw[Vs]at Z Y;obtain⟨_,_,_,rfl,_⟩:=Z;obtain⟨_,_,_,rfl,_⟩:=Y;rw[List.zip_cons_cons]at hz;cases hz
   rw[hv]at hR
   wp_walk
   exact⟨_,rfl,by simpa[Builtin.Tuple.tupleCompareSizes]using hR⟩
  case h=>
   exact⟨rfl,rfl,items.toList,T.toList,t,u,rfl,hi,hj,Nat.le_refl _,by lia,h⟩
def lQ:∀(Z:Nat) (t u:Tr) (A:Ki) (s:SD) (a b:AD) (g its':LY),t.deep<Z->s.heap.IsTuple a g.toArray->Vs s.heap t g->s.heap.IsTuple b its'.toArray->Vs s.heap u its'->A.units+t.deep<cLine ->
   ∀(prog:FS) (w:IO) (E:ZB) (Q:ZB),Q zBs s->wpAny AS A (richCompare .Gt HY zBU) Q E s
 |0,_,_,_,_,_,_,_,_,h,_,_,_,_,_=>absurd h zCr
 |Z+1,t,u,A,s,a,b,g,its',hd,hl,ht,hb,hu',hun=>fun prog w E Q h=>by
  obtain⟨⟨cls,dd,data,sl⟩,ho,hc,n,U⟩:=id hl;obtain⟨⟨cls2,dd2,data2,sl2⟩,T,Y,n2,R⟩:=id hb;simp only at hc U Y R;subst hc U Y R;exact richCompare_meets_room (op:=.Gt) ⟨_,ho,rfl⟩ ⟨_,T,rfl⟩ PySem.F.slot_tuple_gt PySem.F.entry_tuple_gt (PySem.F.args_tuple_gt_2 _ _) (jX Z (lQ Z) a b g.toArray its'.toArray n n2 dd dd2 sl sl2 t u AC)
   ⟨ho,T,by simpa using ht,by simpa using hu',hun,show Value.bool (Tr.lt u t)≠Value.notImplemented/\Q zBs s from⟨(fun x=>nomatch x),h⟩⟩ AC
end
end TH
namespace SM
open PySem.W PyProof.Rows
def Wp{α:Type}(lt:Nat->Nat->Bool)(n:Nat):KasT α->(α->Prop)->Prop
 |.ret a,Q=>Q a
 |.ask i j k,Q=>i<n/\j<n/\Wp lt n (k (lt i j)) Q
def Wp.mono{α:Type}{lt:Nat->Nat->Bool}{n:Nat}{Q R:α->Prop}(g:∀a,Q a->R a):∀t:KasT α,Wp lt n t Q->Wp lt n t R
 |.ret a,h=>g a h
 |.ask i j k,h=>⟨h.1,h.2.1,Wp.mono g (k (lt i j)) h.2.2⟩
def Wp.bind{α g:Type}{lt:Nat->Nat->Bool}{n:Nat}{f:α->KasT g}{Q:g->Prop}:∀t:KasT α,Wp lt n t (fun a=>Wp lt n (f a) Q)->Wp lt n (t.bind f) Q
 |.ret _,h=>h
 |.ask i j k,h=>⟨h.1,h.2.1,Wp.bind (k (lt i j)) h.2.2⟩
def MK{p:yS}{i j:Nat}(g:j<=p.size)(k:Nat):(kas_rev p i j).getD k 0=if i<=k/\k<j then p.getD (i+j-1-k) 0 else p.getD k 0:=by
 have e:=getElem?_mirror_all (i:=i) g k;unfold kas_rev;rw[Array.getD_eq_getD_getElem?,Array.getD_eq_getD_getElem?,Array.getD_eq_getD_getElem?,e];split<;>rfl
def Yt{p:yS}{src d:Nat}(g:src<p.size)(hd:d<=src)(k:Nat):(bubble p src d).getD k 0=if k=src-d then p.getD src 0 else if src-d<k/\k<=src then p.getD (k-1) 0 else p.getD k 0:=by
 have e:=getElem?_bubble g d hd k;simp only[Array.getD_eq_getD_getElem?,e];split
 .rfl
 .split<;>rfl
section
variable{O:KeyOrd}{key:Nat->O.α}{n:Nat}
def Key(key:Nat->O.α)(p:yS)(i:Nat):O.α:=key (p.getD i 0)
def Up(key:Nat->O.α)(p:yS)(m:Nat):Prop:=∀i j,i<=j->j<m->O.kle zDd (Key key p j)
def Dn(key:Nat->O.α)(p:yS)(m:Nat):Prop:=∀i j,i<=j->j<m->O.kle (Key key p j) zDd
structure Pm(n:Nat)(p:Array Nat):Prop where
 perm:p.Perm (List.toArray (List.range n))
 pos:0<n
def Pm.size{p:yS}(h:Pm n p):p.size=n:=by rw[h.perm.size_eq];simp
def Pm.lt{p:yS}(h:Pm n p)(i:Nat):p.getD i 0<n:=by
 rw[Array.getD_eq_getD_getElem?];by_cases hi:i<p.size
 .rw[Array.getElem?_eq_getElem hi];have hm:p[i]∈p:=Array.getElem_mem hi;have:=(h.perm.mem_iff).mp hm
  simpa using this
 .rw[Array.getElem?_eq_none AC];exact h.pos
def Pm.rev{p:yS}(h:Pm n p)(i j:Nat):Pm n (kas_rev p i j):=⟨(mirror_perm _ _ _ _).trans h.perm,h.pos⟩
def Pm.bubble{p:yS}(h:Pm n p)(i j:Nat):Pm n (bubble p i j):=⟨(bubble_perm _ _ _).trans h.perm,h.pos⟩
abbrev IB(key:Nat->O.α):Nat->Nat->Bool:=fun i j=>O.blt (key i) (key j)
def Up.one{p:yS}:Up key p 1:=fun i j R g=>by
 have:i=j:=by lia
 subst this;exact ba _
def Up.more{p:yS}{m:Nat}(h:Up key p m)(Y:1<=m)(R:O.kle zo zDe):Up key p (m+1):=fun i j g U=>by
 by_cases e:j=m
 .subst e;by_cases T:i=j
  .subst T;exact ba _
  .exact KeyOrd.kle_trans (h i (j-1) AC AC) R
 .exact h i j g AC
def Dn.more{p:yS}{m:Nat}(h:Dn key p m)(Y:1<=m)(R:O.kle zDe zo):Dn key p (m+1):=fun i j g U=>by
 by_cases e:j=m
 .subst e;by_cases T:i=j
  .subst T;exact ba _
  .exact KeyOrd.kle_trans R (h i (j-1) AC AC)
 .exact h i j g AC
def asc{p:Array Nat}(g:Pm n p):∀(f m:Nat),1<=m->Up key p m->Wp (IB key) n (kas_asc p f m) fun r=>m<=r/\r<=m+f/\Up key p r/\(r=m+f\/O.klt (Key key p r) (Key key p (r-1)))
 |0,m,_,h=>⟨aJ _,Nat.le_refl _,h,.inl rfl⟩
 |f+1,m,T,h=>by
  refine⟨g.lt _,g.lt _,?_⟩;cases c:IB key (p.getD m 0) (p.getD (m-1) 0) with
  |true=>exact⟨aJ _,by lia,h,.inr c⟩
  |false=>
   simp only[Bool.false_eq_true,if_false];refine Wp.mono (fun r R=>?_) _ (asc g f (m+1) AC (h.more T c));exact⟨by lia,by lia,R.2.2.1,R.2.2.2.elim (fun z=>.inl AC) .inr⟩
def Eq(key:Nat->O.α)(p:yS)(m q:Nat):Prop:=q<m/\∀k,m-(q+1)<=k->k<m->Key key p k=Key key p (m-1)
def rev_eq{p:yS}{m q:Nat}(h:Eq key p m q)(hm:m<=p.size)(k:Nat):Key key (kas_rev p (m-(q+1)) m) k=Key key p k:=by
 unfold Key;rw[MK hm];split
 .have a:=h.2 (m-(q+1)+m-1-k) (by have:=h.1;lia) (by have:=h.1;lia);have b:=h.2 k AC AC;exact a.trans b.symm
 .rfl
def desc:∀(f:Nat) (p:Array Nat) (m q:Nat),Pm n p->1<=m->m+f<=n->Dn key p m->Eq key p m q->Wp (IB key) n (kas_desc f p m q) fun r=>Pm n r.1/\m<=r.2.1/\r.2.1<=m+f/\Dn key r.1 r.2.1/\Eq key r.1 r.2.1 r.2.2
 |0,p,m,q,g,_,_,h,e=>⟨g,Nat.le_refl _,Nat.le_refl _,h,e⟩
 |f+1,p,m,q,g,Z,hf,h,e=>by
  refine⟨g.lt _,g.lt _,?_⟩;have hm:m<=p.size:=by rw[g.size];lia
  cases c:IB key (p.getD m 0) (p.getD (m-1) 0) with
  |true=>
   have ck:O.klt zDe zo:=c;simp only[if_true];have fin:∀R:Array Nat,Pm n R->(∀k,Key key R k=Key key p k)->Wp (IB key) n (kas_desc f R (m+1) 0) fun r=>Pm n r.1/\m<=r.2.1/\r.2.1<=m+(f+1)/\Dn key r.1 r.2.1/\Eq key r.1 r.2.1 r.2.2:=fun R U hk=>by
    have hd:Dn key R (m+1):=fun i j Y hj=>by rw[hk,hk];exact h.more Z (KeyOrd.kle_of_klt ck) i j Y hj
    have he:Eq key R (m+1) 0:=⟨by lia,fun k Z h2=>by rw[show k=m+1-1 by lia]⟩;exact Wp.mono zEJ _ (desc f R (m+1) 0 U AC AC hd he)
   split
   .exact fin _ (g.rev _ _) (rev_eq e hm)
   .exact fin _ g fun _=>rfl
  |false=>
   simp only[Bool.false_eq_true,if_false];refine⟨g.lt _,g.lt _,?_⟩;cases d:IB key (p.getD (m-1) 0) (p.getD m 0) with
   |true=>
    simp only[if_true];exact⟨g,Nat.le_refl _,Nat.le_add_right _ _,h,e⟩
   |false=>
    simp only[Bool.false_eq_true,if_false];have ek:Key key p m=Key key p (m-1):=KeyOrd.kle_antisymm (show O.kle zDe zo from d) (show O.kle zo zDe from c);refine Wp.mono zEJ _ (desc f p (m+1) (q+1) g AC AC (h.more Z (by rw[ek];exact ba _)) ⟨by have:=e.1;lia,fun k h2 h3=>?_⟩);rw[show m+1-1=m by lia,ek];by_cases z:k=m
    .rw[z,ek]
    .exact e.2 k AC AC
def rR{p:yS}{m:Nat}(h:Dn key p m)(hm:m<=p.size):Up key (kas_rev p 0 m) m:=fun i j g R=>by
 unfold Key;rw[MK hm,MK hm,if_pos ⟨aq _,by lia⟩,if_pos ⟨aq _,by lia⟩];exact h (0+m-1-j) (0+m-1-i) AC AC
def tail3{p:yS}{m:Nat}(g:Pm n p)(T:1<=m)(hm:m<=n)(h:Dn key p m):Wp (IB key) n (kas_tail3 m n p) fun r=>Pm n r.2/\1<=r.1/\r.1<=n/\Up key r.2 r.1:=by
 unfold kas_tail3;refine Wp.bind _ (Wp.mono (fun r R=>?_) _ (asc (g.rev 0 m) (n-m) m T (rR h (by rw[g.size];exact hm))));exact⟨g.rev 0 m,by lia,by lia,R.2.2.1⟩
def descPart{p:yS}{m:Nat}(U:Pm n p)(Z:1<=m)(hm:m+1<=n)(h:Dn key p (m+1)):Wp (IB key) n (kas_descPart m n p) fun r=>Pm n r.2/\1<=r.1/\r.1<=n/\Up key r.2 r.1:=by
 unfold kas_descPart;refine Wp.bind _ (Wp.mono (fun r T=>?_) _ (desc (n-(m+1)) p (m+1) 0 U AC AC h ⟨by lia,fun k Z h2=>by rw[show k=m+1-1 by lia]⟩));obtain⟨a,b,c,d,e⟩:=T;have R:r.2.1<=r.1.size:=by rw[a.size];lia
 split
 .refine tail3 (a.rev _ _) AC AC fun i j g Y=>?_;rw[rev_eq e R,rev_eq e R];exact d i j g Y
 .exact tail3 a AC AC d
def count{p:yS}(g:Pm n p):Wp (IB key) n (kas_count n p) fun r=>Pm n r.2/\1<=r.1/\r.1<=n/\Up key r.2 r.1:=by
 have hn:=g.pos;unfold kas_count;refine Wp.bind _ (Wp.mono zAL _ (asc g (n-1) 1 RW Up.one));obtain⟨Y,h2,U,h4⟩:=hm;split
 .exact⟨g,Y,by lia,U⟩
 .rename_i Z;have T:m≠n:=by simpa using Z
  have hk:O.klt zDe zo:=by
   rcases h4 with z|z
   .exact absurd AC T
   .exact z
  have hz:m<=p.size:=by rw[g.size];lia
  split
  .refine⟨g.lt _,g.lt _,?_⟩;cases c:IB key (p.getD 0 0) (p.getD (m-1) 0) with
   |true=>simp only[if_true];exact⟨g,Y,by lia,U⟩
   |false=>
    simp only[Bool.false_eq_true,if_false];have all:∀k,k<m->Key key p k=Key key p (m-1):=fun k R=>KeyOrd.kle_antisymm (U k (m-1) AC AC) (KeyOrd.kle_trans (show O.kle zo (Key key p 0) from c) (U 0 k AC R));have ek:∀k,Key key (kas_rev p 0 m) k=Key key p k:=fun k=>by
     by_cases R:k<m
     .have:Key key (kas_rev p 0 m) k=Key key p (0+m-1-k):=by
       unfold Key;rw[MK hz,if_pos ⟨aq _,R⟩]
      rw[this,all _ AC,all k R]
     .unfold Key;rw[MK hz,if_neg AC]
    refine descPart (g.rev _ _) Y AC fun i j hij hj=>?_;rw[ek,ek];by_cases e:j=m
    .subst e;by_cases e2:i=j
     .subst e2;exact ba _
     .rw[all i AC];exact KeyOrd.kle_of_klt hk
    .rw[all i AC,all j AC];exact ba _
  .have:m=1:=by lia
   subst this;refine descPart g Y AC fun i j hij hj=>?_;by_cases e:i=j
   .subst e;exact ba _
   .rw[show i=0 by lia,show j=1 by lia];exact KeyOrd.kle_of_klt hk
def place{p:Array Nat}{k:Nat}(R:Pm n p)(g:Up key p k):∀(f l r:Nat),l<=r->r<=k->r-l<=f->(∀i,i<l->O.kle zDd zDf)->(∀i,r<=i->i<k->O.klt zDf zDd) ->
  Wp (IB key) n (kas_place p k f l r) fun x=>x<=k/\(∀i,i<x->O.kle zDd zDf)/\∀i,x<=i->i<k->O.klt zDf zDd
 |0,l,r,h1,T,Z,a,b=>by
  have:l=r:=by lia
  subst this;exact⟨T,a,b⟩
 |f+1,l,r,h1,T,Z,a,b=>by
  unfold kas_place;split
  .have:l=r:=by lia
   subst this;exact⟨T,a,b⟩
  .refine⟨R.lt _,R.lt _,?_⟩;cases c:IB key (p.getD k 0) (p.getD ((l+r) / 2) 0) with
   |true=>
    simp only[if_true];exact place R g f l ((l+r) / 2) AC AC AC a fun i U Y=>KeyOrd.klt_of_klt_of_kle (show O.klt zDf (Key key p ((l+r) / 2)) from c) (g _ _ U Y)
   |false=>
    simp only[Bool.false_eq_true,if_false];exact place R g f ((l+r) / 2+1) r AC T AC (fun i U=>KeyOrd.kle_trans (g i ((l+r) / 2) AC AC) (show O.kle (Key key p ((l+r) / 2)) zDf from c)) b
def bin:∀(f:Nat) (p:Array Nat) (k:Nat),Pm n p->1<=k->k+f=n->Up key p k->Wp (IB key) n (kas_bin f p k) fun r=>Pm n r/\Up key r n
 |0,p,k,g,_,hk,h=>by
  have:k=n:=by lia
  subst this;exact⟨g,h⟩
 |f+1,p,k,g,h1,hk,h=>by
  have T:k<p.size:=by rw[g.size];lia
  refine Wp.bind _ (Wp.mono (fun l hl=>?_) _ (place g h k 0 k (aq _) RW AC (fun i z=>absurd z AC) fun i Z z2=>absurd Z AC));obtain⟨hlk,R,U⟩:=hl;refine bin f _ RJ (g.bubble _ _) AC AC fun i j hij hj=>?_;have Y:∀x,Key key (PyProof.Rows.bubble p k (k-l)) x=if x=l then Key key p k else if l<x/\x<=k then Key key p (x-1) else Key key p x:=fun x=>by
   unfold Key;rw[Yt T AC,show k-(k-l)=l by lia];split
   .rfl
   .split<;>rfl
  rw[Y,Y]
  repeat' split
  all_goals first
   |(exfalso;lia)
   |exact ba _
   |exact R _ AC
   |exact KeyOrd.kle_of_klt (U _ AC AC)
   |exact h _ _ AC AC
def sort(hn:0<n):Wp (IB key) n (kas_sort n) fun p=>Pm n p/\Up key p n:=by
 have R:Pm n (List.toArray (List.range n)):=⟨Array.Perm.refl _,hn⟩;unfold kas_sort;refine Wp.bind _ (Wp.mono (fun r g=>?_) _ (count R));obtain⟨a,b,c,d⟩:=g;split
 .rw[show max r.1 1=r.1 by lia];exact bin _ _ _ a b AC d
 .have:r.1=n:=by lia
  rw[this]at d;exact⟨a,d⟩
end
end SM
namespace Tr
def SQ(x:Tr):∀l:List Tr,(ins x l).Perm (x::l)
 |[]=>.refl _
 |y::r=>by
  rw[ins];split
  .exact((SQ x r).cons y).trans (.swap x y r)
  .exact .refl _
def Ls:∀l:List Tr,(Cn l).Perm l
 |[]=>.refl _
 |x::r=>by
  rw[Cn];exact(SQ x (Cn r)).trans ((Ls r).cons x)
abbrev Uz(l:y8):Prop:=l.Pairwise fun a b=>lt a b=false
def X1(x:Tr):∀l:List Tr,Uz l->Uz (ins x l)
 |[],_=>List.pairwise_singleton _ _
 |y::r,h=>by
  obtain⟨R,U⟩:=bZ.mp h;rw[ins];split
  .rename_i c;refine bZ.mpr ⟨fun z g=>?_,X1 x r U⟩;rcases aM.mp ((SQ x r).mem_iff.mp g) with rfl|g
   .exact lt_asymm c
   .exact R z g
  .rename_i c;have T:lt x y=false:=by simpa using c
   refine bZ.mpr ⟨fun z g=>?_,h⟩;rcases aM.mp g with rfl|g
   .exact T
   .cases e:lt x z with
    |false=>rfl
    |true=>
     rcases Qv x y z e with q|q
     .rw[T]at q;cases q
     .rw[R z g]at q;cases q
def MR:∀l:List Tr,Uz (Cn l)
 |[]=>List.Pairwise.nil
 |x::r=>by rw[Cn];exact X1 x _ (MR r)
def M8:∀ {l m:y8},Uz l->Uz m->l.Perm m->l=m
 |[],m,_,_,p=>(List.nil_perm.mp p).symm
 |x::r,[],_,_,p=>absurd p.length_eq At
 |x::r,y::q,U,T,p=>by
  obtain⟨a1,a2⟩:=bZ.mp U;obtain⟨b1,b2⟩:=bZ.mp T;have R:x∈y::q:=p.mem_iff.mp aX;have g:y∈x::r:=p.mem_iff.mpr aX;have e:x=y:=by
   rcases aM.mp R with e|R
   .exact e
   .rcases aM.mp g with e|g
    .exact e.symm
    .exact Lw x y (a1 y g) (b1 x R)
  subst e;rw[M8 a2 b2 (List.Perm.cons_inv p)]
def iJ{l m:yc}(h:Uz m)(p:m.Perm l):m=Cn l:=M8 h (MR l) (p.trans (Ls l).symm)
def T1{l m:yc}(h:m.Pairwise fun a b=>lt b a=false)(p:m.Perm l):m=(Cn l).reverse:=by
 have:m.reverse=Cn l:=iJ (List.pairwise_reverse.mpr h) ((List.reverse_perm m).trans p);rw[<-this,List.reverse_reverse]
def Qj(n:Nat):∀l:List Tr,(of l).deep<=n ↔ ∀c∈l,c.deep+1<=n
 |[]=>by simp[of,deep]
 |b::r=>by
  rw[of,deep,List.forall_mem_cons,<-Qj n r]
  lia
def fZ{l m:yc}(p:l.Perm m):(of l).deep<=(of m).deep:=(Qj _ l).mpr fun c g=>(Qj _ m).mp RW c (p.mem_iff.mp g)
def ib(t:Tr):(of t.bs.reverse).deep<=t.deep:=by
 have:=fZ (List.reverse_perm t.bs)
 rwa [T7]at this
def ord:PyProof.Rows.KeyOrd where
 α:=Tr
 blt:=lt
 irrefl:=lt_irrefl
 trans:=lt_trans
 negTrans:=Qv
 total:=Lw
end Tr
namespace TH
open PySem PySem.W PyProof.Rows PySem.SeqAt
def Vs.at{h:Heap}:∀ {t:Tr} {us:LY} {i:Nat},Vs h t us->i<us.length->∃(a:AD) (g:LY) (c:Tr),us.getD i Value.none=.ref a/\h.IsTuple a g.toArray/\Vs h c g/\t.bs[i]? = some c/\c.deep<t.deep
 |.nil,us,i,e,hi=>by rw[Vs]at e;subst e;exact absurd hi zCr
 |.cons b r,us,i,e,hi=>by
  rw[Vs]at e;obtain⟨a,g,rest,rfl,h1,h2,Z⟩:=e;have hd:(Tr.cons b r).deep=max (b.deep+1) r.deep:=rfl;cases i with
  |zero=>exact⟨a,g,b,rfl,h1,h2,rfl,by lia⟩
  |succ i=>
   obtain⟨a',R,c,q1,Y,U,T,q5⟩:=Vs.at (i:=i) Z bv;exact⟨a',R,c,by simpa using q1,Y,U,by simpa[Tr.bs]using T,by lia⟩
def Vs.Px{h:Heap}:∀(ts:y8) (us:LY),us.length=ts.length->(∀i,i<ts.length->∃(a:AD) (g:LY) (c:Tr),us[i]? = some HY/\h.IsTuple a g.toArray/\Vs h c g/\ts[i]? = some c)->Vs h (Tr.of ts) us
 |[],us,T,_=>by
  rw[Tr.of,Vs];exact bK zEo
 |t::ts,[],T,_=>by simp at T
 |t::ts,u::us,T,h=>by
  rw[Tr.of,Vs];obtain⟨a,g,c,Y,e2,e3,U⟩:=h 0 At;simp at Y U;subst Y U;refine⟨a,g,us,rfl,e2,e3,Vs.Px ts us zEo fun i hi=>?_⟩;obtain⟨a',R,c',q1,q2,q3,Z⟩:=h M2 bv;exact⟨a',R,c',by simpa using q1,q2,q3,by simpa using Z⟩
def Vs.all{h:Heap}{t:Tr}{us:yN}(e:Vs h t us):∀i,i<t.bs.length->∃(a:AD) (g:yN) (c:Tr),us[i]? = some HY/\h.IsTuple a g.toArray/\Vs h c g/\t.bs[i]? = some c:=fun i hi=>by
 have R:i<us.length:=by rw[Vs.length e,<-Tr.E8];exact hi
 obtain⟨a,g,c,q1,Y,U,T,_⟩:=e.at R;refine⟨a,g,c,?_,Y,U,T⟩;rw[List.getD_eq_getElem?_getD,List.getElem?_eq_getElem R]at q1;rw[List.getElem?_eq_getElem R]
 simpa using q1
section
variable{prog:FS}{w:IO}{A:Ki}{E:yO}{s:SD}{t u:Tr}{a b:AD}{its its':yN}{Q:bi}
def UX(T:zAy)(k1:Vs s.heap t its)(R:yt)(k2:zAU)(g:XN)(h:Q yn s):wpAny AS A (oneLt' false HY zBU) Q E s:=by
 rw[oneLt'_eq];simp only[Bool.false_eq_true,if_false];exact Wb (WE (t.deep+1) t u A s a b its its' (bR _) T k1 R k2 g prog w E _ (wpAny_truthy_bool h))
def nO(h1:zAy)(k1:Vs s.heap t its)(h2:yt)(k2:zAU)(hu:XN)(h:Q yn s):wpAny AS A (oneLt' true HY zBU) Q E s:=by
 rw[oneLt'_eq];simp only[if_true];refine Wb (wpAny_cRoomFor AC ?_);obtain⟨⟨cls,dd,data,sl⟩,ho,hc,n,R⟩:=id h1;obtain⟨⟨cls2,dd2,data2,Y⟩,Z,U,n2,g⟩:=id h2;simp only at hc R U g;subst hc R U g;refine Wb (wpAny_callSpecialIfBound?_slot (T := "tuple") ⟨_,ho,rfl⟩ PySem.F.slot_tuple_lt (call_meets PySem.F.slot_tuple_lt ⟨_,ho,rfl⟩ PySem.F.entry_tuple_lt (PySem.F.args_tuple_lt_2 _ _)
  (WW t.deep (WE t.deep) a b its.toArray its'.toArray n n2 dd dd2 sl Y t u RW) ⟨ho,Z,by simpa using k1,by simpa using k2,hu,?_⟩))
 exact wpAny_truthy_bool h
def Y8:∀(t u:Tr) (us vs:LY) (i:Nat),Vs s.heap t us->Vs s.heap u vs->A.units+t.deep<=cLine->Q yn s->KatLex prog w A false (decide (t.len<u.len)) Q (us.zip vs) i s
 |.nil,.nil,us,vs,i,e,f,_,h=>by
  rw[Vs]at e;subst e;rw[List.zip_nil_left];exact kat_nil h
 |.nil,.cons c q,us,vs,i,e,f,_,h=>by
  rw[Vs]at e;subst e;rw[List.zip_nil_left];refine kat_nil ?_;rw[show decide (Tr.nil.len<(Tr.cons c q).len)=true from bg (Nat.zero_lt_succ _)];exact h
 |.cons b r,.nil,us,vs,i,e,f,_,h=>by
  rw[Vs]at f;subst f;rw[List.zip_nil_right];refine kat_nil ?_;rw[show decide ((Tr.cons b r).len<Tr.nil.len)=false from bF zCr];exact h
 |.cons b r,.cons c q,us,vs,i,e,f,hu,h=>by
  rw[Vs]at e f;obtain⟨a,its,rest,rfl,Z,Y,k3⟩:=e;obtain⟨a',its',R,rfl,U,T,l3⟩:=f;have hd:(Tr.cons b r).deep=max (b.deep+1) r.deep:=rfl;rw[List.zip_cons_cons,show decide ((Tr.cons b r).len<(Tr.cons c q).len)=decide (r.len<q.len) from by simp[Tr.len]];rw[Tr.lt]at h;refine kat_cons (OV Z Y U T AC prog w _ _ ?_);by_cases g:b=c
  .rw[decide_eq_true g];rw[if_pos g]at h;exact kat_yes (Y8 r q rest R M2 k3 l3 AC h)
  .rw[decide_eq_false g];rw[if_neg g]at h;exact kat_no (by rw[Bool.false_and];exact UX Z Y U T AC h)
def nE(h1:zAy)(k1:Vs s.heap t its)(h2:yt)(k2:zAU)(hu:XN)(h:Q yn s):wpAny AS A (keyLt' (tuples' false) HY zBU) Q E s:=by
 obtain⟨o,Y,hc,n,hd⟩:=id h1;obtain⟨o2,g,Z,n2,R⟩:=id h2;refine kat_lt Y hd g R ?_;have U:its.toArray.size=t.len:=by rw[<-Vs.length k1];simp
 have T:its'.toArray.size=u.len:=by rw[<-Vs.length k2];simp
 rw[U,T];exact Y8 t u its its' 0 k1 k2 AC h
def YD(κ:SortKind):Prop:=κ=general'\/κ=oneType'\/κ=tuples' false
def ly{κ:SortKind}(g:YD κ)(U:zAy)(k1:Vs s.heap t its)(T:yt)(k2:zAU)(R:XN)(h:Q yn s):wpAny AS A (keyLt' κ HY zBU) Q E s:=by
 rcases g with rfl|rfl|rfl
 .exact UX U k1 T k2 R h
 .rw[keyLt'_oneType];exact nO U k1 T k2 R h
 .exact nE U k1 T k2 R h
def M7{M:Model}{h:Heap}{a:AD}{x:re}(T:h.IsTuple a x):Looks M h (typeOf HY) Gf:=by
 obtain⟨o,g,R,_⟩:=T;exact R ▸ (Looks.ld g).andThen .now
def Vl{M:Model}:∀(t:Tr) (us:LY) {Q:List (Option VL)->SD->Prop},Vs s.heap t us->(∀fs:List (Option VL),(∀v,some v∈fs->Looks M s.heap (typeOf v) Gf)->Q fs s)->wpAny M A (us.mapM firstOfTuple') Q E s
 |.nil,us,Q,e,h=>by
  rw[Vs]at e;subst e;rw[List.mapM_nil];exact aA (h [] fun _ z=>by cases z)
 |.cons b r,us,Q,e,h=>by
  rw[Vs]at e;obtain⟨a,its,rest,rfl,h1,g,h3⟩:=e;obtain⟨o,U,hc,n,hd⟩:=id h1;rw[List.mapM_cons];refine Wb ?_;rw[kas_first_eq];refine Wb zGO;rw[hc,if_neg (by first|decide|simp)];refine Wb (listItems_at U hd (aA ?_));refine Wb (Vl r rest (Q:=fun bs s'=>wpAny M A (pure (its.toArray[0]? :: bs)) Q E s') h3 fun fs T=>aA (h _ fun v Z=>?_));rcases aM.mp Z with z|z
  .cases b with
   |nil=>rw[Vs]at g;subst g;simp at z
   |cons c q=>
    rw[Vs]at g;obtain⟨a',its',R,rfl,Y,_⟩:=g;simp at z;subst z;exact M7 Y
  .exact T v z
def UD{M:Model}{vs:yN}{Q:RC}(U:∀v∈vs,Looks M s.heap (typeOf v) Gf)(h0:vs=[]->Q none s)(Y:Q (some Gf) s):wpAny M A (oneTypeOnly' vs.toArray) Q E s:=by
 rw[oneTypeOnly'_eq,List.mapM_toArray,map_eq_pure_bind];refine Wb (Wb (kas_mapM (r:=Value.type "tuple") _ (fun v R Q' T=>(U v R).here T) Oz));cases vs with
 |nil=>exact aA (h0 rfl)
 |cons f r=>
  have g:((List.map (fun _=>Value.type "tuple") (f::r)).toArray.all fun x=>x==Value.type "tuple")=true:=by
   simp only[List.all_toArray,List.all_map,List.all_eq_true];intro _ _
   rfl
  have Z:(List.map (fun _=>Value.type "tuple") (f::r)).toArray[0]? = some (Value.type "tuple"):=by simp
  rw[Z];simp only[g,if_true];exact aA Y
def mG{M:Model}{t:Tr}{us:yN}{Q:SortKind->SD->Prop}(e:zFN)(h:∀κ,YD κ->Q κ s):wpAny M A (keyKind' us.toArray) Q E s:=by
 rw[kat_kind_eq,List.mapM_toArray,map_eq_pure_bind];refine Wb (Wb (Vl t us e fun fs T=>aA ?_));split
 .refine Wb (bH ?_);have Y:fs.toArray.filterMap id=(fs.filterMap id).toArray:=by simp
  rw[Y];have R:∀v∈fs.filterMap id,Looks M s.heap (typeOf v) Gf:=fun v g=>T v zAh;refine Wb (UD R (fun _=>?_) ?_)
  .exact aA (h _ (.inr (.inr rfl)))
  .exact aA (h _ (.inr (.inr rfl)))
 .split
  .exact aA (h _ SZ)
  .have R:∀v∈us,Looks M s.heap (typeOf v) Gf:=fun v g=>by
    obtain⟨i,hi,rfl⟩:=List.getElem_of_mem g;obtain⟨a,its,c,q1,U,_⟩:=e.at hi;rw[List.getD_eq_getElem?_getD,List.getElem?_eq_getElem hi]at q1;simp at q1;rw[q1];exact M7 U
   refine Wb (UD R (fun _=>?_) ?_)
   .exact aA (h _ SZ)
   .exact aA (h _ (.inr SZ))
def SG{α:Type}{cmp:Nat->Nat->(Bool->SD->Prop)->SD->Prop}{lt:Nat->Nat->Bool}{n:Nat}{R:α->Prop}(g:∀i j C,i<n->j<n->C (lt i j) s->cmp i j C s):∀T:KasT α,SM.Wp lt n T R->T.kasWp cmp (fun a s'=>s'=s/\R a) s
 |.ret a,h=>⟨rfl,h⟩
 |.ask i j k,h=>g i j _ h.1 h.2.1 (SG g (k (lt i j)) h.2.2)
end
end TH
namespace TH
open PySem PySem.W PyProof.Rows PySem.SeqAt
def Vs.keeps{h h':Heap}(k:Nd):∀ {t:Tr} {us:LY},Vs h t us->Vs h' t us
 |.nil,us,e=>by rw[Vs]at e ⊢;exact e
 |.cons b r,us,e=>by
  rw[Vs]at e ⊢;obtain⟨a,g,rest,rfl,⟨o,T,R,hd⟩,Y,U⟩:=e;exact⟨a,g,rest,rfl,⟨o,k _ _ T R,R,hd⟩,Y.keeps k,U.keeps k⟩
def map_getD{α:Type}(d:α)(l:lX):(List.range l.length).map (fun i=>l.getD i d)=l:=by
 refine List.ext_getElem At fun i R g=>?_;simp[g]
def Vs.rev{h:Heap}{t:Tr}{us:yN}(e:Vs h t us):Vs h (Tr.of t.bs.reverse) us.reverse:=by
 have R:us.length=t.bs.length:=by rw[e.length,Tr.E8]
 refine Vs.Px _ _ (by simp[R]) fun i hi=>?_;rw[List.length_reverse]at hi;obtain⟨a,g,c,q1,Y,U,T⟩:=e.all (t.bs.length-1-i) AC;exact⟨a,g,c,by rw[List.getElem?_reverse AC,R];exact q1,Y,U,by rw[List.getElem?_reverse hi];exact T⟩
section
variable{prog:FS}{w:IO}{A:Ki}{E:yO}{s:SD}
def jr{κ:SortKind}{t:Tr}{ws:yN}(Z:YD κ)(e:Vs s.heap t ws)(h2:2<=ws.length)(h64:ws.length<64)(hu:A.units+t.deep<=cLine):wpAny AS A ((sortRuns').run (SortSt.mk' κ (ws.toArray.zip ws.toArray) #[] 7 none)) (fun r s'=>s'=s/\failedOf r.2=none/\∃ix:yZ,ix.length=ws.length/\(∀i∈ix,i<ws.length) /\(arrOf r.2).map zF=(ix.map fun i=>ws.getD i Value.none).toArray/\zp=(Tr.Cn t.bs).reverse) E s:=by
 have hl:ws.length=t.bs.length:=by rw[e.length,Tr.E8]
 have key:∀i,i<ws.length->∃(a:AD) (g:LY),ws.getD i Value.none=.ref a/\s.heap.IsTuple a g.toArray/\Vs s.heap (t.bs.getD i .nil) g/\(t.bs.getD i .nil).deep<t.deep:=fun i hi=>by
  obtain⟨a,g,c,q1,Y,U,q4,q5⟩:=e.at hi;have:t.bs.getD i .nil=c:=by rw[List.getD_eq_getElem?_getD,q4];rfl
  rw[this];exact⟨a,g,q1,Y,U,q5⟩
 refine kat_run (Q:=fun R s'=>s'=s/\failedOf R=none/\∃ix:List Nat,ix.length=ws.length/\(∀i∈ix,i<ws.length)/\(arrOf R).map zF=(ix.map fun i=>ws.getD i Value.none).toArray/\zp=(Tr.Cn t.bs).reverse)
  (G:=fun p s'=>s'=s/\SM.Pm ws.length p/\SM.Up (O:=Tr.ord) (fun i=>t.bs.getD i .nil) p ws.length) rfl h2 h64 (fun p R s' hp har hf hG=>?_)
  (SG (lt:=SM.IB (O:=Tr.ord) fun i=>t.bs.getD i .nil) (n:=ws.length) (fun i j C hi T hC=>?_) _ (SM.sort AC))
 .obtain⟨rfl,hpm,hup⟩:=hG;have h1:p.toList.Perm (List.range ws.length):=by simpa using Array.perm_iff_toList_perm.mp hpm.perm
  refine⟨rfl,hf,p.toList,by rw[Array.length_toList,hp],fun i hi=>bV.mp (h1.mem_iff.mp hi),kat_snds rfl har,?_⟩;have perm:(p.toList.map fun i=>t.bs.getD i .nil).Perm t.bs:=by
   have h3:=h1.map fun i=>t.bs.getD i Tr.nil
   rwa [hl,map_getD]at h3
  refine Tr.T1 (List.pairwise_iff_getElem.mpr fun i j hi T hij=>?_) perm;rw[List.length_map,Array.length_toList,hp]at hi T;have:=hup i j AC T;have e1:∀k,k<ws.length->∀hk,(p.toList.map fun i=>t.bs.getD i Tr.nil)[k]' hk=t.bs.getD (p.getD k 0) .nil:=fun k hk hk'=>by
   rw[List.getElem_map,Array.getElem_toList,Array.getD,dif_pos AC]
   rfl
  rw[e1 i hi,e1 j T];exact this
 .obtain⟨a,g,q1,Y,U,q4⟩:=key i hi;obtain⟨a',its',r1,r2,r3,r4⟩:=key j T;unfold kas_ask;rw[q1,r1];exact ly Z Y U r2 r3 AC hC
def VI(b:Bool)(us:yN)(hz:us.length<2):(if b=true then((if b=true then(us.toArray.zip us.toArray).reverse else us.toArray.zip us.toArray).map zF).reverse else(if b=true then(us.toArray.zip us.toArray).reverse else us.toArray.zip us.toArray).map zF)=us.toArray:=by
 match us,hz with
 |[],_=>cases b<;>simp
 |[x],_=>cases b<;>simp
def Pk{a : AD}{us : yN}{t : Tr}{n : Nat}{b : Bool}{P : PySem.Fin->SD->Prop}(ho : s.heap.get? a = some zEK)(e : zFN)(h64 : us.length < 64)(hu : A.units + t.deep<=cLine) (h : ∀ ix : yZ,ix.length = us.length->(∀ i∈ix,i < us.length)->(ix.map fun i => t.bs.getD i .nil) = (if b then Tr.Cn t.bs else (Tr.Cn t.bs).reverse)->P zDr zAV):wpAny AS A zBc P E s:=by
  rw [list_sort_rev]
  have ha : a < s.heap.objs.size:=aF ho
  refine Wb (listItems_at ho rfl ?_)
  refine Wb zBH
  obtain ⟨e1,ho1⟩ : ∃ e1,(s.heap.update a (Obj.mapSeq fun _ => #[])).get? a = some (seqObj "list" #[] e1):=⟨_,get?_update_seq ho (fun _ => #[])⟩
  refine Wb (seqEpoch_at ho1 rfl ?_)
  refine Wb zCY
  refine Wb (wpAny_newList ?_ (aq _))
  refine aS ?_
  have ho6 : (((s.heap.update a zFt).push zFk).push Ev).get? a = some (seqObj "list" #[] e1):=by
    rw [Heap.get?_push_ne _ _ _ zEB,Heap.get?_push_ne _ _ _ (by rw [Heap.size_update]; exact aG ha)]
    exact ho1
  have keep : ∀ c o,s.heap.get? c = some o->o.cls = .type "tuple" -> (((s.heap.update a zFt).push zFk).push Ev).get? c = some o:=fun c o hc hcl => by
    have hne : c≠a:=fun z => by
      rw [z,ho] at hc
      cases hc
      exact absurd (show Value.type "list" = Value.type "tuple" from hcl) AT
    refine aE _ (aE _ ?_)
    rw [Heap.get?_update_ne _ _ _ _ hne]
    exact hc
  show wpAny AS A _ P E BY
  have e6:=e.keeps keep
  dsimp only
  have step : ∀ T : Sem PySem.Fin,wpAny AS A T P E BY ->
      wpAny AS A zCH P E BY:=by
    intro T hT
    split
    . exact Wb (bH hT)
    . exact hT
  refine step _ ?_
  by_cases h2 : us.toArray.size < 2
  . rw [if_pos h2,if_pos h2]
    refine Wb Oz
    rw [StateT.run_pure]
    refine Wb Oz
    dsimp only
    have hz : us.length < 2:=by simpa using h2
    have hout:=VI b us hz
    refine Wb zCB
    refine Wb (listUpdate_at ho6 rfl ?_ (aq _) (by
      refine aT (Nat.le_of_eq (bJ Array.size hout)) ?_
      rw [List.size_toArray,sizeLine_eq]; lia))
    simp only [bne_self_eq_false,Bool.false_eq_true,if_false]
    have hl : us.length = t.bs.length:=by rw [e.length,Tr.E8]
    have fin:=h v6 At (fun i hi => bV.mp hi) (by
      rw [hl,map_getD]
      match hbs : t.bs,(show t.bs.length < 2 by lia) with
      | [],_ => cases b <;> rfl
      | [_],_ => cases b <;> rfl)
    rw [map_getD] at fin
    rw [<- hout] at fin
    exact aA fin
  . rw [if_neg h2,if_neg h2]
    have hz : 2<=us.length:=by simpa using h2
    refine Wb (mG (s:={ s with heap:=((s.heap.update a zFt).push zFk).push Ev }) e6 fun κ hκ => ?_)
    have hl : us.length = t.bs.length:=by rw [e.length,Tr.E8]
    obtain ⟨ws,tw,ew,hwl,hws,hdp,pick⟩ : ∃ (ws : List VL) (tw : Tr),Vs (((s.heap.update a (Obj.mapSeq fun _ => #[])).push (seqObj "tuple" us.toArray 0)).push (seqObj "list" #[] 0)) tw ws/\ws.length = us.length /\
        (if b = true then (us.toArray.zip us.toArray).reverse else us.toArray.zip us.toArray) = ws.toArray.zip ws.toArray/\tw.deep<=t.deep /\
        ∀ (_b : Bool) (ix : List Nat),ix.length = ws.length->(∀ i∈ix,i < ws.length)->(ix.map fun i => tw.bs.getD i .nil) = (Tr.Cn tw.bs).reverse->∃ iy : List Nat,iy.length = us.length/\(∀ i∈iy,i < us.length)/\(iy.map fun i => t.bs.getD i .nil) = (if b then Tr.Cn t.bs else (Tr.Cn t.bs).reverse) /\
          (if b = true then ((ix.map fun i => ws.getD i Value.none).toArray).reverse else (ix.map fun i => ws.getD i Value.none).toArray) = (iy.map fun i => us.getD i Value.none).toArray:=by
      cases b with
      | false => exact ⟨us,t,e6,rfl,rfl,Nat.le_refl _,fun _ ix h1 h2 h3 => ⟨ix,h1,h2,h3,rfl⟩⟩
      | true=>
        have hsrt : Tr.Cn t.bs.reverse = Tr.Cn t.bs:=Tr.iJ (Tr.MR _) ((Tr.Ls _).trans (List.reverse_perm _))
        refine ⟨us.reverse,Tr.of t.bs.reverse,e6.rev,by simp,kat_pairs (ks:=us) (vs:=us) true rfl,Tr.ib t,fun _ ix h1 h2 h3 => ⟨(ix.map fun i => us.length - 1 - i).reverse,by simpa using h1,fun i hi => ?_,?_,?_⟩⟩
        . rw [List.mem_reverse,List.mem_map] at hi
          obtain ⟨k,hk,rfl⟩:=hi
          have:=h2 k hk
          rw [List.length_reverse] at this
          lia
        . rw [Tr.Qf,hsrt] at h3
          rw [List.map_reverse,List.map_map]
          have : (ix.map ((fun i => t.bs.getD i Tr.nil) ∘ fun i => us.length - 1 - i)) = ix.map fun i => t.bs.reverse.getD i .nil:=aY fun i hi => by
            have:=h2 i hi
            rw [List.length_reverse] at this
            show t.bs.getD zER Tr.nil = _
            rw [List.getD_eq_getElem?_getD,List.getD_eq_getElem?_getD,List.getElem?_reverse AC,hl]
          rw [this,h3,List.reverse_reverse]
          rfl
        . rw [if_pos rfl,List.map_reverse,List.map_map,List.reverse_toArray]
          congr 2
          exact aY fun i hi => by
            have:=h2 i hi
            rw [List.length_reverse] at this
            show us.reverse.getD i Value.none = us.getD zER Value.none
            rw [List.getD_eq_getElem?_getD,List.getD_eq_getElem?_getD,List.getElem?_reverse AC]
    rw [hws]
    refine Wb (ao (jr (s:={ s with heap:=((s.heap.update a zFt).push zFk).push Ev }) hκ ew AC AC AC) ?_ fun _ _ z => z)
    rintro ⟨⟨⟩,st'⟩ s' ⟨rfl,hf,ix,hil,hix,hout,hst⟩
    dsimp only
    refine Wb zCB
    obtain ⟨iy,y1,y2,y3,hfin⟩ : ∃ iy : List Nat,iy.length = us.length/\(∀ i∈iy,i < us.length)/\(iy.map fun i => t.bs.getD i .nil) = (if b then Tr.Cn t.bs else (Tr.Cn t.bs).reverse) /\
        (if b = true then ((arrOf st').map (·.2)).reverse else (arrOf st').map (·.2)) = (iy.map fun i => us.getD i Value.none).toArray:=by
      rw [show (arrOf st').map zF = _ from hout]
      exact pick b ix hil hix hst
    refine Wb (listUpdate_at ho6 rfl ?_ (aq _) (by
      refine aT (Nat.le_of_eq (bJ Array.size hfin)) ?_
      rw [List.size_toArray,List.length_map,y1,sizeLine_eq]; lia))
    rw [show failedOf st' = none from hf]
    simp only [bne_self_eq_false,Bool.false_eq_true,if_false]
    have fin:=h iy y1 y2 y3
    rw [<- hfin] at fin
    exact aA fin
end
end TH
namespace ET
open PySem
section
variable{prog:FS}{w:IO}{A:Ki}{E:yO}{s:SD}
def next_item{it t:AD}{i:Nat}{items}{x:VL}{Q:yO}(hit:s.heap.IsTupleIter it t i)(Y:s.heap.IsTuple t items)(U:items[i]? = some x) (hQ:∀h',h'.IsTupleIter it t M2->Heap.SameBut it s.heap h'->Q x M0):wpAny AS A (Builtin.SmallTypes.nextOf yR) Q E s:=by
 obtain⟨o,g,Z,hd⟩:=id hit;obtain⟨ol,R,_,nl,T⟩:=Y;unfold Builtin.SmallTypes.nextOf;refine Wb (ak (name:=Str.ofString "__next__") hit.typeIs F.slot_tuple_iterator_next
  (ae F.slot_tuple_iterator_next hit.typeIs F.entry_tuple_iterator_next ?_ (F.args_tuple_iterator_next_1 _)))
 show wpAny _ _ (field yR 0>>=_) _ _ s;refine Wb (ag g hd (x:=.ref t) rfl ?_);show wpAny _ _ (if zBq=true then _ else _) _ _ s;rw[if_neg (show ¬(zBq=true) from aK)];show wpAny _ _ (field yR 1>>=_) _ _ s;refine Wb (ag g hd (x:=.int i 0) rfl ?_);show wpAny _ _ (seqItems? (.ref t)>>=_) _ _ s;refine Wb (af R T ?_);simp only[Int.toNat_natCast,U];refine Wb (wpAny_setField g hd At (aA ⟨x,rfl,wpAny_pure (hQ _ ?_ (aZ ..))⟩));exact⟨_,Heap.get?_update_self _ g (Obj.isFreed_of_fields (Obj.data_mapFields hd _)),(Obj.cls_mapFields ..).trans Z,by
  rw[Obj.data_mapFields hd];simp[rawInt]⟩
def next_end{it t:AD}{i:Nat}{items}{Q:yO}(U:oF)(hit:s.heap.IsTupleIter it t i)(Z:s.heap.IsTuple t items)(Y:items[i]? = none) (hE:∀h' e,Heap.ExtBut it s.heap h'->(∃o,h'.get? e=some o/\o.cls=.type "StopIteration")->E (.ref e) M0):wpAny AS A (Builtin.SmallTypes.nextOf yR) Q E s:=by
 obtain⟨o,R,hc,hd⟩:=id hit;obtain⟨ol,g,_,nl,T⟩:=Z;unfold Builtin.SmallTypes.nextOf;refine Wb (ak (name:=Str.ofString "__next__") hit.typeIs F.slot_tuple_iterator_next
  (ae F.slot_tuple_iterator_next hit.typeIs F.entry_tuple_iterator_next ?_ (F.args_tuple_iterator_next_1 _)))
 show wpAny _ _ (field yR 0>>=_) _ _ s;refine Wb (ag R hd (x:=.ref t) rfl ?_);show wpAny _ _ (if zBq=true then _ else _) _ _ s;rw[if_neg (show ¬(zBq=true) from aK)];show wpAny _ _ (field yR 1>>=_) _ _ s;refine Wb (ag R hd (x:=.int i 0) rfl ?_);show wpAny _ _ (seqItems? (.ref t)>>=_) _ _ s;refine Wb (af g T ?_);simp only[Int.toNat_natCast,Y];refine Wb (bH (Wb (wpAny_setField R hd At ?_)));show wpAny _ _ (newExc (.type "StopIteration") []>>=_) _ _ _;refine Wb ?_;simp only[newExc,newTuple];refine Wb (bC ?_ zEr);refine Wb (m:=firstArgMember _ _) (wpAny_of_eq (a:=Value.none) (by first|rfl|(simp only[firstArgMember];rfl)) ?_);refine bC ?_ zEr;simp only[raiseNew];refine Wb (wpAny_handled ?_)
 first|rw[show A.in1.handled=none from U]|rw[U]
 refine Wb (aA (wpAny_throw ?_));exact hE _ _ (((aZ ..).extBut.push _).push _) ⟨_,Heap.get?_push_size _ rfl,rfl⟩
end
section
open AutoSeq1 (wpAny_loadPart')
def iC(l:AD)(items:re)(n:Nat)(Y:zDo)(sl:z9):Meets (Builtin.«enumerate.__new__» ⟨[.type "enumerate",.ref l],[]⟩) (fun _ R s=>s.heap.get? l=some { cls:=.type "tuple",dict:=Y,data:=.seq items n,slots:=sl} /\R (.ok (.ret (.ref (s.heap.push { cls:=.type "tuple_iterator",data:=.fields #[.ref l,.int 0 0]}).objs.size))) {s with heap:=(s.heap.push { cls:=.type "tuple_iterator",data:=.fields #[.ref l,.int 0 0]}).push { cls:=.type "enumerate",data:=.fields #[.none,.bool false,.ref s.heap.objs.size,rawInt 0,.none,.none]} }) :=
 .of_wp fun prog w A R s h=>by
  obtain⟨hp,g,d,tk,os⟩:=s;obtain⟨T,h⟩:=h;have Z:=sub_enumerate;have U:Heap.IsTuple (Shared.heap ⟨hp,g,d,tk,os⟩) l items:=⟨_,T,rfl,n,rfl⟩
  wp_walk using wpAny_loadPart' T
  refine wpAny_stack_any fun st=>aA ?_;split
  .rename_i c _ _ _ _ _;cases (c==Value.type "enumerate")
   .wp_walk using wpAny_loadPart' T,wpAny_pyIter_tuple U
    exact⟨_,rfl,h⟩
   .wp_walk using wpAny_loadPart' T,wpAny_pyIter_tuple U
    exact⟨_,rfl,h⟩
  .wp_walk using wpAny_loadPart' T,wpAny_pyIter_tuple U
   exact⟨_,rfl,h⟩
def eS{prog:FS}{w:IO}{A:Ki}{E:yO}{s:SD}{l:AD}{items:re}{Q:yO}(Z:s.heap.IsTuple l items) (h:∀h',IsEnum h' Fk s.heap.objs.size 0 .none->h'.IsTupleIter s.heap.objs.size l 0->h'.objs.size=s.heap.objs.size+2 ->(∀b o,s.heap.get? b=some o->h'.get? b=some o)->Q zGg M0):wpAny AS A (call (.type "enumerate") [.ref l]) Q E s:=by
 obtain⟨⟨c,T,dt,sl⟩,Y,R,n,hd⟩:=Z
 replace R:c=.type "tuple" := R
 replace hd:dt=.seq items n:=hd
 subst R hd;refine callType_new F.called_enumerate AT (F.typeCall_enumerate_1 _) (F.newCall_enumerate_1 _) (fun obj=>F.args_object_init_2 obj _) F.entry_enumerate_new
  (iC l items n T sl) ⟨Y,?_⟩
 have g:(s.heap.push { cls:=.type "tuple_iterator",data:=.fields #[.ref l,.int 0 0]}).objs.size=s.heap.objs.size+1:=Heap.size_push ..;show _/\_;rw[g];have U:IsEnum ((s.heap.push { cls:=.type "tuple_iterator",data:=.fields #[.ref l,.int 0 0]}).push
   { cls:=.type "enumerate",data:=.fields #[.none,.bool false,.ref s.heap.objs.size,rawInt 0,.none,.none]}) Fk s.heap.objs.size 0 .none:=by
  have:=aN (s.heap.push { cls:=.type "tuple_iterator",data:=.fields #[.ref l,.int 0 0]})
   (o:={ cls:=.type "enumerate",data:=.fields #[.none,.bool false,.ref s.heap.objs.size,rawInt 0,.none,.none]}) rfl
  rw[g]at this;exact this
 refine⟨⟨_,U,rfl⟩,h _ U ⟨_,Heap.get?_push_of_some _ (aN _ rfl),rfl,rfl⟩ (by rw[Heap.size_push,g]) fun b o x=>aE _ (aE _ x)⟩
end
def draws{prog:FS}{w:IO}{A:Ki}(hh:oF)(it a:AD)(its:yN)(hne:a≠it) :
  Draws prog w A it [it,a] its.length (fun i x=>its[i]? = some x) (fun i h=>h.IsTupleIter it a i/\h.IsTuple a its.toArray) where
 live:=fun i h st=>let⟨o,e,_⟩:=st.1;⟨o,e⟩
 frame:=fun i h h' st k=>by
  obtain⟨⟨o,e,r⟩,o2,e2,r2⟩:=st;exact⟨⟨o,k it At o e,r⟩,o2,k a At o2 e2,r2⟩
 item:=fun i s Q E hi st hQ=>next_item st.1 st.2 (x:=its[i]) (by simp[hi]) fun h' st' sb=>
  hQ _ h' s.toks (by simp[hi]) ⟨st',let⟨o,e,r⟩:=st.2;⟨o,(sb.2 a hne).trans e,r⟩⟩ sb
 done:=fun s Q E st hE=>next_end hh st.1 st.2 At hE
end ET
namespace L2
open PySem PySem.Spec PyProof.Rows
def Ts(H:Hp):Tr->List V->Prop
 |.nil,xs=>xs=[]
 |.cons b r,xs=>∃(a:AD) (ys g:Jh),xs=.ref a::g/\H a=some zCV/\Ts H b ys/\Ts H r g
def Tv(H:Hp)(t:Tr)(v:V):Prop:=∃(a:AD) (ys:Jh),v=.ref a/\H a=some zCV/\Ts H t ys
def Ts.same{H H':Hp}(e:mo):∀ {t:Tr} {xs:Jh},Ts H t xs->Ts H' t xs
 |.nil,xs,h=>by rw[Ts]at h ⊢;exact h
 |.cons b r,xs,h=>by
  rw[Ts]at h ⊢;obtain⟨a,ys,g,Y,U,T,R⟩:=h;exact⟨a,ys,g,Y,e _ _ U,T.same e,R.same e⟩
def Tv.same{H H':Hp}{t:Tr}{v:V}(h:Tv H t v)(e:mo):Tv H' t v:=let⟨a,ys,T,R,g⟩:=h;⟨a,ys,T,e _ _ R,g.same e⟩
def Lj(H H':Hp):Prop:=∀b xs,H b=some LE->H' b=some LE
def Lj.of{H H':Hp}(e:mo):Lj H H':=fun b xs h=>e b _ h
def Lj.upd{H:Hp}{l:AD}{ys:yb}{o:HO}(g:H l=some Ix):Lj H (upd H l o):=fun b xs h=>by
 rw[AL (dW h g (by intro z;cases z))];exact h
def Ts.BF{H H':Hp}(e:Lj H H'):∀ {t:Tr} {xs:Jh},Ts H t xs->Ts H' t xs
 |.nil,xs,h=>by rw[Ts]at h ⊢;exact h
 |.cons b r,xs,h=>by
  rw[Ts]at h ⊢;obtain⟨a,ys,g,Y,U,T,R⟩:=h;exact⟨a,ys,g,Y,e _ _ U,T.BF e,R.BF e⟩
def Tv.BF{H H':Hp}{t:Tr}{v:V}(h:Tv H t v)(e:Lj H H'):Tv H' t v:=let⟨a,ys,T,R,g⟩:=h;⟨a,ys,T,e _ _ R,g.BF e⟩
def Ts.length{H:Hp}:∀ {t:Tr} {xs:Jh},Ts H t xs->xs.length=t.len
 |.nil,xs,h=>by rw[Ts]at h;rw[h];rfl
 |.cons b r,xs,h=>by
  rw[Ts]at h;obtain⟨a,ys,R,rfl,_,_,g⟩:=h;rw[List.length_cons,Tr.len,g.length]
def Ts.len{H:Hp}{t:Tr}{xs:yb}(h:Ts H t xs):xs.length=t.bs.length:=by rw[h.length,Tr.E8]
def Ts.get{H:Hp}:∀ {t:Tr} {xs:Jh} {i:Nat} {v:V},Ts H t xs->xs[i]? = some v->∃c,t.bs[i]? = some c/\Tv H c v
 |.nil,xs,i,v,h,e=>by rw[Ts]at h;subst h;simp at e
 |.cons b r,xs,i,v,h,e=>by
  rw[Ts]at h;obtain⟨a,ys,Y,rfl,U,T,R⟩:=h;cases i with
  |zero=>simp at e;subst e;exact⟨b,rfl,a,ys,rfl,U,T⟩
  |succ i=>
   obtain⟨c,q1,g⟩:=R.get (i:=i) (v:=v) x0;exact⟨c,by simpa[Tr.bs]using q1,g⟩
def Ts.Px{H:Hp}:∀(ts:y8) (xs:Jh),xs.length=ts.length->(∀(i:Nat) (v:V),xs[i]? = some v->∃c,ts[i]? = some c/\Tv H c v)->Ts H (Tr.of ts) xs
 |[],xs,g,_=>by
  rw[Tr.of,Ts];exact bK zAh
 |t::ts,[],g,_=>by simp at g
 |t::ts,x::xs,g,h=>by
  rw[Tr.of,Ts];obtain⟨c,R,a,ys,rfl,Y,U⟩:=h 0 x rfl;simp at R;subst R;exact⟨a,ys,xs,rfl,Y,U,Ts.Px ts xs zAh fun i v e=>by
   obtain⟨c,q1,T⟩:=h M2 v x0;exact⟨c,by simpa using q1,T⟩⟩
def Ts.pick{H:Hp}{t:Tr}{xs:yb}(h:Ts H t xs)(ix:yZ)(hi:∀i∈ix,i<xs.length):Ts H (Tr.of zp) (ix.map fun i=>xs.getD i .BN):=by
 refine Ts.Px _ _ At fun i v e=>?_;rw[List.getElem?_map]at e ⊢;cases q:ix[i]? with
 |none=>rw[q]at e;cases e
 |some k=>
  rw[q]at e;have R:k<xs.length:=hi k (aO q);simp only[Option.map_some,Option.some.injEq]at e;obtain⟨c,q1,g⟩:=h.get (i:=k) (v:=v) (by rw[<-e,List.getD_eq_getElem?_getD,List.getElem?_eq_getElem R];rfl);refine⟨c,?_,g⟩;simp only[Option.map_some,List.getD_eq_getElem?_getD,q1]
  rfl
section
variable{X:Cx}{pins:DH}{σ:St}{H:Hp}{s:SD}
def Ts.vs(I:By):∀ {t:Tr} {xs:Jh} {us:LY},Ts H t xs->Vals xs us->TH.Vs s.heap t us
 |.nil,xs,us,h,r=>by
  rw[Ts]at h;subst h;cases r;rw[TH.Vs]
 |.cons b rr,xs,us,h,r=>by
  rw[Ts]at h;obtain⟨a,ys,zs,rfl,h1,Z,Y⟩:=h;cases r with
  |cons U T=>
   cases U;obtain⟨g,R,p,_⟩:=I.tuple (BL.of (K:=X.K) h1);rw[TH.Vs];exact⟨a,g,_,rfl,p,Ts.vs I Z R,Ts.vs I Y T⟩
def Tv.at(I:By){t:Tr}{v:V}{u:VL}(h:Tv H t v)(r:RelV v u):∃(a:AD) (g:yN),u=.ref a/\s.heap.IsTuple a g.toArray/\TH.Vs s.heap t g:=by
 obtain⟨a,ys,rfl,U,T⟩:=h;cases r;obtain⟨g,R,p,_⟩:=I.tuple zEs;exact⟨a,g,rfl,p,Ts.vs I T R⟩
def uX:R2:=fun x y H Q=>∃t u,Tv H t x/\Tv H u y/\t.deep<=60/\Q (.bl (Tr.lt u t)) H
def mz(hu:Ih):De X (compareOp .Gt) uX:=by
 intro pins s σ H x y v u' Q I U T h;obtain⟨t,u,h1,h2,hd,q⟩:=h;obtain⟨a,R,rfl,Z,k1⟩:=h1.at I U;obtain⟨b,g,rfl,Y,k2⟩:=h2.at I T;exact TH.lQ (t.deep+1) t u X.A s a b R g (bR _) Z k1 Y k2 AC X.prog X.w X.xe _ ⟨.bl _,H,I,rfl,q⟩
end
def q8(K:Fg)(a:AD):It :=
 ⟨fun i H=>∃xs x,BL K H a xs/\xs[i]? = some x,fun i H v H'=>∃p x,v=.ref p/\H p=none/\H'=upd H p (.tup [.int i,x])/\∀xs,BL K H a xs->xs[i]? = some x,fun i H=>∃xs,BL K H a xs/\xs.length=i⟩
def gj{P:FS}{w:IO}{K:Fg}{elts:yV}{x1}{pos:Pos}(a e it:AD)(hne:e≠it) :
  Turn P w K zDs (q8 K a) [e,it] e (fun i h=>(∃old,IsEnum h e it (i:Nat) old)/\h.IsTupleIter it a i) where
 mem:=by simp
 obj:=fun i h st b hb=>by
  rcases aM.mp hb with rfl|hb
  .obtain⟨⟨old,q⟩,_⟩:=st;exact⟨_,q,fun v z=>by cases z⟩
  .have e2:b=it:=by simpa using hb
   subst e2;obtain⟨_,o,q,c,d⟩:=st;exact⟨o,q,fun v z=>by rw[d]at z;cases z⟩
 keep:=fun i h h' st k=>by
  obtain⟨⟨old,q⟩,o,q2,r⟩:=st;exact⟨⟨old,k e At _ q⟩,o,k it At _ q2,r⟩
 item:=by
  intro X hP hw hK hc i pins s σ H E I hf st hg;subst hP hw hK;obtain⟨xs,x,hq,hx⟩:=hg;obtain⟨its,rv,p,hz⟩:=I.tuple hq;obtain⟨u,hu,ru⟩:=rv.get hx;obtain⟨⟨old,he⟩,hit⟩:=st;have hai:a≠it:=fun z=>by
   obtain⟨o,e1,c1,_⟩:=p;obtain⟨o2,e2,c2,_⟩:=hit;rw[z,e2]at e1;cases e1;rw[c1]at c2;exact absurd c2 AT
  have hae:a≠e:=fun z=>by
   obtain⟨o,e1,c1,_⟩:=p;rw[z,he]at e1;cases e1;exact absurd (show Value.type "enumerate" = Value.type "tuple" from c1) AT
  have hlt:i<its.length:=(aD.mp hu).1;have hE0:=hf e At;have hI0:=hf it At;refine wpAny_pyNext_enum_itemD zGh he ⟨hit,p⟩ hlt hne (by simp[hne,Ne.symm hae]) fun y h' tk hy ho hs' hT hsz hk=>⟨_,rfl,wpAny_letOwnedTupleGo_enum (s:={s with heap:=h',toks:=tk+1}) ho fun h'' he'' sb=>?_⟩;have hyu:y=u:=by rw[hu]at hy;exact(ah hy).symm
  subst hyu;have keep:∀b o,b≠e->b≠it->s.heap.get? b=some o->h''.get? b=some o:=fun b o h1 h2 q=>(sb.2 b h1).trans (hk b o h1 h2 q);have hTe:s.heap.objs.size≠e:=aj (aF he);have hTi:s.heap.objs.size≠it:=let⟨_,q,_⟩:=hit;aj (aF q);have hT'':h''.get? s.heap.objs.size=some { cls:=.type "tuple",data:=.seq #[.int i tk,y]}:=(sb.2 _ hTe).trans hT;have hTn:H s.heap.objs.size=none:=I.A5.fresh RW;have neT:∀b o,s.heap.get? b=some o->b≠s.heap.objs.size:=fun b o q=>aG (aF q);have GX:∀b o,H b=some o->b≠e/\b≠it:=fun b o q=>⟨(fun z=>by rw[z,hE0.1]at q;cases q),(fun z=>by rw[z,hI0.1]at q;cases q)⟩;refine⟨.ref s.heap.objs.size,upd H s.heap.objs.size (.tup [.int i,x]),?_,rfl,⟨_,x,rfl,hTn,rfl,fun ys hy=>by rw[I.Vb hy hq];exact hx⟩,⟨⟨_,by simpa using he''⟩,?_⟩,fun b hb=>?_⟩
  .show Inv X pins σ _ zEC;refine I.step (h':=h'') (g':=s.gens) (d':=s.drawn) (t':=tk+1) (ch:=[e,it]) zCs (fun b o _ _ hc q _=>keep b o KK KK q) zHB
    (fun b o _ q n=>by rw[AL (neT b o q)];exact n) (fun b o hc q=>⟨o,keep b o KK KK q⟩) wE s0
    (fun b ps q=>⟨#[],by rw[AL (Aa q hTn),q];simp⟩) (fun b _ o hc _ q=>keep b o KK KK q) zAL zCI I.bare
   .rcases aM.mp hb with rfl|hb
    .exact⟨hE0.2.2.2.1,hE0.2.1,hE0.2.2.2.2.1,hE0.2.2.2.2.2⟩
    .have e2:b=it:=by simpa using hb
     subst e2;exact⟨hI0.2.2.2.1,hI0.2.1,hI0.2.2.2.2.1,hI0.2.2.2.2.2⟩
   .obtain⟨o,es,ep,ho,r⟩:=hm;exact⟨o,es,ep,keep _ o (Ne.symm hE0.2.1) (Ne.symm hI0.2.1) ho,r⟩
   .by_cases hb:b=s.heap.objs.size
    .subst hb;rw[AO]at q;cases q;exact⟨Q6,[.int i tk,y],.cons ⟨tk,rfl⟩ (.cons ru .nil),_,hT'',rfl,_,rfl⟩
    .rw[AL hb]at q;refine(I.A5 b o q).Jy (fun c v hc r=>keep c v ?_ ?_ r) yh fun c ys r=>by rw[AL (Aa r hTn)];exact r
     .rcases hc with rfl|hc
      .exact(GX _ _ q).1
      .exact(GX _ _ hc).1
     .rcases hc with rfl|hc
      .exact(GX _ _ q).2
      .exact(GX _ _ hc).2
  .obtain⟨⟨o,q,r⟩,_⟩:=hs';exact⟨o,(sb.2 it (Ne.symm hne)).trans q,r⟩
  .rcases aM.mp hb with rfl|hb
   .rw[AL (Ne.symm hTe)];exact hE0.1
   .have e2:b=it:=by simpa using hb
    subst e2;rw[AL (Ne.symm hTi)];exact hI0.1
 done:=by
  intro X hP hw hK hc i pins s σ H E I hf st hg;subst hP hw hK;obtain⟨xs,hq,hx⟩:=hg;obtain⟨its,rv,p,hz⟩:=I.tuple hq;obtain⟨⟨old,he⟩,hit⟩:=st;have hai:a≠it:=fun z=>by
   obtain⟨o,e1,c1,_⟩:=p;obtain⟨o2,e2,c2,_⟩:=hit;rw[z,e2]at e1;cases e1;rw[c1]at c2;exact absurd c2 AT
  have hl:its.length=i:=by rw[<-rv.length];exact hx
  subst hl;obtain⟨f0,f1,f2,f3,f4,f5⟩:=hf it At;exact wpAny_pyNext_enum_endD zGh he ⟨hit,p⟩ fun h' eb=>⟨rfl,I.turned (t':=s.toks) (fun b o hb q=>eb b o hb q) f0 f1 f3 f4 f5⟩
 self:=fun _ _ _ _ _ st h=>by
  obtain⟨⟨old,he⟩,_⟩:=st;exact wpAny_pyIter_enum he h
def uM(K:Fg)(T:TA):TI:=fun σ H R=>T σ H fun vs g=>∃a,vs=[.ref a]/\(∃xs,BL K g a xs)/\R (q8 K a) g
def oC{X:Cx}{elts:yV}{x1}{g:Pos}{a:Expr}{ta:TA}{p pos:Pos}(hg:Gl X "enumerate")(hm:X.mg "enumerate" = none)(ha:PA X [a] ta)(hs:starEach [a] X.env=[Nr]:=by rfl):PI X zEt zAz (uM X.K ta):=by
 intro pins s σ H R I h;refine Call_ zGS;obtain⟨t,e,⟨xs,hq⟩,q⟩:=q1;subst e;cases r1 with
 |cons r rr=>
  cases rr;cases r;obtain⟨Y,rv,p',hz⟩:=U.tuple hq;refine ET.eS (show s1.heap.IsTuple t Y.toArray from p') fun h' he hit hsz hk=>wpAny_pyIter_enum he ?_;have I2:Inv X pins σ H1 zCf:=U.kept (t':=s1.toks) hk;have hn:s1.heap.objs.size+1≠s1.heap.objs.size:=by lia
  refine⟨s1.heap.objs.size+1,[s1.heap.objs.size+1,s1.heap.objs.size],_,_,H1,rfl,I2,gj t _ _ hn,⟨⟨_,he⟩,hit⟩,fun b hb=>?_,q⟩;have T:s1.heap.objs.size<=b:=by
   have Z:b=s1.heap.objs.size+1\/b=s1.heap.objs.size:=by simpa using hb
   rcases Z with z|z
   .rw[z];exact Nat.le_succ _
   .rw[z];exact aJ _
  exact U.Rp T (U.A5.fresh T)
end L2
namespace TH
open PySem PySem.W PyProof.Rows PySem.SeqAt
section
variable{prog:FS}{w:IO}{A:Ki}{E:yO}{s:SD}
def Nl(a:AD):Builtin.«list.sort» ⟨[.ref a],[]⟩=Builtin.«list.sort» ⟨[.ref a],[(Str.ofString "reverse",.bool false)]⟩:=by
 rw[list_sort_rev,list_sort_plain]
 rfl
def O0{a:AD}{us:yN}{t:Tr}{n:Nat}{P:PySem.Fin->SD->Prop}(T:s.heap.get? a=some zEK)(e:zFN)(g:us.length<64)(R:A.units+t.deep<=cLine) (h:∀ix:yZ,ix.length=us.length->(∀i∈ix,i<us.length)->(ix.map fun i=>t.bs.getD i .nil)=(Tr.Cn t.bs).reverse->P zDr {s with heap:=sortedHeap s.heap a us (ix.map fun i=>us.getD i Value.none).toArray}):wpAny AS A (Builtin.«list.sort» ⟨[.ref a],[]⟩) P E s:=by
 rw[Nl];exact Pk (b:=false) T e g R h
def Yu{l:AD}{vs:yN}{Q:List VL->SD->Prop}(hl:s.heap.IsTuple l vs.toArray) (h:Q vs zFv)(hsz:vs.length<=sizeLine):wpAny AS A (collect SY) Q E s:=by
  obtain⟨o,ho,hc,n,hd⟩:=id hl
  unfold collect
  refine Wb zDW
  show wpAny _ _ (do again (.builtin "list.__iadd__" ⟨[<-newList [],.ref l],[]⟩)) _ _ s
  refine Wb (wpAny_newList (aA ⟨Code.quiet_builtin _ Lx,codeAny_builtin entry_list_iadd' ?_⟩))
  show wpAny _ _ (Builtin.List.listExtendWith EK SY EK) _ _ {s with heap:=s.heap.push Ev}
  unfold Builtin.List.listExtendWith
  have ho':(s.heap.push Ev).get? l=some o:=aE _ ho
  refine Wb (wpAny_typeOf (T := "tuple") ⟨o,ho',hc⟩ ?_)
  have ht:(Value.type "tuple" == Value.type "tuple")=true:=by rfl
  rw[if_pos (by rw[ht];simp)]
  refine Wb (listItems_at ho' hd ?_)
  refine Wb (listItems_at (xs:=#[]) (n:=0) (aN _ rfl) rfl ?_)
  rw[if_neg At]
  refine Wb (listUpdate_at (xs:=#[]) (n:=0) (aN _ rfl) rfl ?_ (aq _) (by show(#[]++vs.toArray).size<=sizeLine+1;simp only[Array.size_append,List.size_toArray,List.length_nil];lia))
  refine aA ?_
  show wpAny AS A (do
      let o <-load s.heap.objs.size
      match o.data with
      |.seq xs _=>pure xs.toList
      |_=>unsupported "internal:collect") Q E zFv
  refine Wb (wpAny_load (get?_update_seq (aN _ rfl) _) ?_)
  show wpAny _ _ (pure ((#[]:Array VL)++vs.toArray).toList) Q E _
  rw[show((#[]:Array VL)++vs.toArray).toList=vs by simp]
  exact aA h
def RP{l:AD}{vs:yN}{Q:List VL->SD->Prop}(g:s.heap.IsList l vs.toArray\/s.heap.IsTuple l vs.toArray) (h:Q vs zFv)(hsz:vs.length<=sizeLine):wpAny AS A (collect SY) Q E s:=g.elim (fun z=>collect_list z h hsz) fun z=>Yu z h hsz
def Q7{l:AD}{us:yN}{t:Tr}{Q:yO}(hl:zES)(e:zFN)(Y:us.length<64)(hu:A.units+2+t.deep<=cLine) (h:∀(h':Heap) (ix:yZ) (Z:Nat),ix.length=us.length->(∀i∈ix,i<us.length)->(ix.map fun i=>t.bs.getD i .nil)=(Tr.Cn t.bs).reverse->(∀c o,s.heap.get? c=some o->h'.get? c=some o) ->h'.get? Fk=some zCt->Q zGg M0):wpAny AS A (call lm [.ref l]) Q E s:=by
 refine Calls.call_function_entry kind_sorted plain_sorted entry_sorted (args_sorted1 _) ?_;unfold Builtin.«sorted»;refine Wb (m:=checkCount "sorted" 1 1 _) Oz;refine Wb (RP hl ?_ yi);refine Wb (wpAny_newList ?_ yi);have g:((s.heap.push Ev).update s.heap.objs.size Mh).objs.size=s.heap.objs.size+1:=by
  rw[Heap.size_update,size_push']
 have T:(((s.heap.push Ev).update s.heap.objs.size Mh).push IF).get? Fk=some IF:=by
  rw[<-g];exact aN _ rfl
 have keep:∀b o,s.heap.get? b=some o->o.cls=.type "tuple" ->(((s.heap.push Ev).update s.heap.objs.size Mh).push IF).get? b=some o:=fun b o q _=>by
  have R:b<s.heap.objs.size:=aF q;rw[Heap.get?_push_ne _ _ _ (by rw[g];exact aG (bE R)),Heap.get?_update_ne _ _ _ _ (aG R),Heap.get?_push_ne _ _ _ (aG R)];exact q
 show wpAny _ _ _ _ _ zGe;rw[g];refine Wb (aS (ae slot_list_sort ⟨_,T,rfl⟩ entry_list_sort (O0 (s:={s with heap:=((s.heap.push Ev).update s.heap.objs.size Mh).push IF}) T (e.keeps keep) Y (by
  rw[show A.in1.in1.units=A.units+2 from rfl];lia) fun ix a1 a2 a3=>⟨_,rfl,?_⟩) (args_list_sort _)))
 obtain⟨Z,U⟩:=sortedAll_at s.heap us (ix.map fun i=>us.getD i Value.none).toArray;exact aA ⟨_,rfl,h _ ix Z a1 a2 a3 (fun _ _=>sortedAll_old) U⟩
def QJ{l:AD}{us:yN}{t:Tr}{b:Bool}{Q:yO}(hl:zES)(e:zFN)(Y:us.length<64)(hu:A.units+2+t.deep<=cLine) (h:∀(h':Heap) (ix:yZ) (Z:Nat),ix.length=us.length->(∀i∈ix,i<us.length)->(ix.map fun i=>t.bs.getD i .nil)=(if b then Tr.Cn t.bs else(Tr.Cn t.bs).reverse)->(∀c o,s.heap.get? c=some o->h'.get? c=some o) ->h'.get? Fk=some zCt->Q zGg M0):wpAny AS A (call lm [.ref l] [(Str.ofString "reverse",.bool b)]) Q E s:=by
 refine call_function_entry_kw kind_sorted plain_sorted entry_sorted (args_sorted_rev _ _) ?_;unfold Builtin.«sorted»;refine Wb (m:=checkCount "sorted" 1 1 _) Oz;refine Wb (RP hl ?_ yi);refine Wb (wpAny_newList ?_ yi);have g:((s.heap.push Ev).update s.heap.objs.size Mh).objs.size=s.heap.objs.size+1:=by
  rw[Heap.size_update,size_push']
 have T:(((s.heap.push Ev).update s.heap.objs.size Mh).push IF).get? Fk=some IF:=by
  rw[<-g];exact aN _ rfl
 have keep:∀b o,s.heap.get? b=some o->o.cls=.type "tuple" ->(((s.heap.push Ev).update s.heap.objs.size Mh).push IF).get? b=some o:=fun b o q _=>by
  have R:b<s.heap.objs.size:=aF q;rw[Heap.get?_push_ne _ _ _ (by rw[g];exact aG (bE R)),Heap.get?_update_ne _ _ _ _ (aG R),Heap.get?_push_ne _ _ _ (aG R)];exact q
 show wpAny _ _ _ _ _ zGe;rw[g];refine Wb (aS (wpAny_call_entry_kw slot_list_sort ⟨_,T,rfl⟩ entry_list_sort (Pk (b:=b) (s:={s with heap:=((s.heap.push Ev).update s.heap.objs.size Mh).push IF}) T (e.keeps keep) Y (by
  rw[show A.in1.in1.units=A.units+2 from rfl];lia) fun ix a1 a2 a3=>⟨_,rfl,?_⟩) (args_list_sort_rev _ _)))
 obtain⟨Z,U⟩:=sortedAll_at s.heap us (ix.map fun i=>us.getD i Value.none).toArray;exact aA ⟨_,rfl,h _ ix Z a1 a2 a3 (fun _ _=>sortedAll_old) U⟩
end
end TH
namespace L2
open PySem PySem.Spec PyProof.Rows
def Vals.pick{xs:Jh}{us:LY}(r:Vals xs us):∀ix:List Nat,(∀i∈ix,i<xs.length)->Vals (ix.map fun i=>xs.getD i .BN) (ix.map fun i=>us.getD i Value.none)
 |[],_=>.nil
 |i::ix,h=>by
  refine .cons ?_ (Vals.pick r ix fun k g=>h k (aU _ g));have hi:=h i aX;obtain⟨u,T,R⟩:=r.get (i:=i) (x:=xs[i]) (by simp[hi]);show RelV (xs.getD i .BN) (us.getD i Value.none);rw[List.getD_eq_getElem?_getD,List.getD_eq_getElem?_getD,T,List.getElem?_eq_getElem hi];exact R
section
variable{X:Cx}
def vD(K:Fg):List V->Hp->VK->Prop:=fun xs H Q=>∃(p:AD) (ys:Jh) (t:Tr),xs=[.ref p]/\(Ax K H p ys\/BL K H p ys)/\Ts H t ys/\ys.length<64/\t.deep<=60 /\
 ∀(l:AD) (g:Jh),H l=none->Ts H (Tr.of (Tr.Cn t.bs).reverse) g->Q SY (upd H l (.lst g))
def fh(K:Fg):List V->Hp->VK->Prop:=fun xs H Q=>∃(p:AD) (ys:Jh) (t:Tr),xs=[.ref p]/\(Ax K H p ys\/BL K H p ys)/\Ts H t ys/\ys.length<64/\t.deep<=60 /\
 ∀(l:AD) (g:Jh),H l=none->Ts H (Tr.of (Tr.Cn t.bs)) g->Q SY (upd H l (.lst g))
def N4{pins:DH}{σ:St}{H:Hp}{s:SD}{Q:VK}{t:Tr}{ts:yc}{ys:yb}{g:yN}{h':Heap}{ix:yZ}{Z:Nat}(I:By)(ht:Ts H t ys)(U:Vals ys g)(T:ys.length<64) (a1:ix.length=g.length)(a2:∀i∈ix,i<g.length)(a3:zp=ts)(keep:∀c o,s.heap.get? c=some o->h'.get? c=some o) (hD:h'.get? Fk=some (seqObj "list" (ix.map fun i=>g.getD i Value.none).toArray Z))(q:∀(l:AD) (zs:yb),H l=none->Ts H (Tr.of ts) zs->Q SY (upd H l (.lst zs))):EP X pins σ Q zGg M0:=by
 have Y:=U.length;have R:∀i∈ix,i<ys.length:=fun i hi=>by rw[Y];exact a2 i hi
 refine⟨.ref Fk,upd H Fk (.lst zAb),I.laid (t':=s.toks) keep (Nat.le_succ _) ⟨?_,_,Z,U.pick ix R,hD⟩,rfl,q _ _ (I.A5.fresh (Nat.le_succ _)) ?_⟩
 .rw[List.length_map,a1,<-Y];exact bG (aI T Ku)
 .rw[<-a3];exact ht.pick ix R
def gZ(hu:Ih):FW X lm (vD X.K):=by
 intro pins s σ H xs us Q I r h;obtain⟨p,ys,t,rfl,T,Y,U,hd,q⟩:=h;obtain⟨u,rfl,r1⟩:=r.one;cases r1;rcases T with T|T
 .obtain⟨R,g,Z,hz⟩:=I.list T;have hl:=g.length;exact TH.Q7 (.inl Z.isList) (Y.vs I g) AC AC fun h' ix e1 a1 a2 a3 keep hD=>N4 I Y g U a1 a2 a3 keep hD q
 .obtain⟨R,g,Z,hz⟩:=I.tuple T;have hl:=g.length;exact TH.Q7 (.inr (show s.heap.IsTuple p R.toArray from Z)) (Y.vs I g) AC AC fun h' ix e1 a1 a2 a3 keep hD=>N4 I Y g U a1 a2 a3 keep hD q
def Xd{e:Expr}{t:TA}{p pos kp kp2:Pos}{j}(hu:Ih)(hg:Gl X "sorted")(hm:X.mg "sorted" = none)(ha:PA X [e] t) (he:backTo pos zDt=IJ::backTo pos wT:=by rfl)(g:(backTo pos zDt).any Nh=false:=by rfl):PE X (.Call zEu [e] [⟨some "reverse",.Constant KQ j kp2,kp⟩] pos) (fun σ H Q=>t σ H fun vs H1=>fh X.K vs H1 Q):=by
 intro pins s σ H Q I h;refine wpAny_Call_Name_kw (Gn I hg hm boot_sorted ?_ AT AT);refine callWith_kw (BW PH fun us s1 ⟨vs,H1,T,r1,q1⟩=>kws_cons (Constant_bool (kws_nil ?_))) he g;obtain⟨p,ys,t,rfl,Y,ht,Z,hd,q⟩:=q1;obtain⟨u,rfl,r2⟩:=r1.one;cases r2;rcases Y with Y|Y
 .obtain⟨U,R,pl,hz⟩:=T.list Y;have hl:=R.length;exact TH.QJ (b:=true) (.inl pl.isList) (ht.vs T R) AC AC fun h' ix e1 a1 a2 a3 keep hD=>N4 T ht R Z a1 a2 a3 keep hD q
 .obtain⟨U,R,pl,hz⟩:=T.tuple Y;have hl:=R.length;exact TH.QJ (b:=true) (.inr (show s1.heap.IsTuple p U.toArray from pl)) (ht.vs T R) AC AC fun h' ix e1 a1 a2 a3 keep hD=>N4 T ht R Z a1 a2 a3 keep hD q
def qm{e k:Expr}{te tk:TE}{pos p2:Pos}(he:PE X e te)(hk:PE X k tk):PE X (.Subscript e (.Slice none none (some k) p2) pos) (fun σ H Q=>te σ H fun x H1=>tk σ H1 fun z Z=>∃(a:AD) (xs:yb),x=.ref a/\z=.int (-1)/\Ax X.K Z a xs/\∀p,Z p=none->Q xT (upd Z p (.lst xs.reverse))):=by
 intro pins s σ H Q I h;refine Subscript_ (BW zAf fun v s1 ⟨x,H1,I1,r1,q1⟩=>?_);refine wpAny_Slice ?_;rw[evalPart_none];refine aA ?_;refine aA ?_;rw[evalPart_some];refine BW (hk pins s1 σ H1 _ I1 q1) fun vk g ⟨z,H3,I3,r3,q3⟩=>?_;obtain⟨a,xs,rfl,rfl,hq,q⟩:=q3;cases r1;obtain⟨R,rfl⟩:=r3;have Y:Inv X pins σ H3 zAH:=I3.kept (t':=g.toks) fun b ob q=>aE _ q;obtain⟨U,rv,pl,hz⟩:=Y.list hq;have hlen:=rv.length;show wpAny Ci X.A (subscriptTail e (.Slice none none (some k) p2) HY (.ref g.heap.objs.size)) T0 X.xe zAH;refine tail_any (ops:=[.ref a,.ref g.heap.objs.size]) (T := "list") pl.isList.typeIs slot_list_getitem.lookup ?_ (by with_unfolding_all rfl);refine wpAny_getItem_list_slice pl.isList (Heap.IsSliceOf.new ..) .none .none (.int (-1) R) AT ?_ zCq;rw[PySem.W.krv_pick];refine⟨.ref _,_,Y.laid (t':=g.toks) (o:=.lst xs.reverse) zDp RW ?_,rfl,q _ (Y.A5.fresh RW)⟩;exact⟨by rw[List.length_reverse];exact hz,U.reverse,0,rv.reverse,Heap.get?_push_size _ rfl⟩
end
def CW(Pv:zBO)(n:Nat)(D:AD):Nat->Nat->List V->Hp->Prop:=fun i m ys H=>m=n-i/\i<=n/\H D=some Ix/\Pv i ys H
def FP{Pv:zBO}{n i:Nat}{D:AD}{ys:yb}{y:V}{H:Hp}(hi:i<n)(p:Pv M2 am (upd H D zGa)):∃g,g<n-i/\CW Pv n D M2 g am (upd H D zGa) :=
 ⟨n-M2,by lia,rfl,hi,AO,p⟩
def ZY{Pv:zBO}{n i:Nat}{D:AD}{ys:yb}{H:Hp}(hi:i<n)(R:H D=some Ix)(p:Pv M2 ys H):∃g,g<n-i/\CW Pv n D M2 g ys H:=⟨n-M2,by lia,rfl,hi,R,p⟩
def Hn{J:It}{n:Nat}{D:AD}{H1:Hp}{fr:yg}{σ:St}{ix:Nat}{T:TT}{te:TE}{G:Hp->Prop}(Pv:zBO)(h0:Pv 0 [] (upd H1 D Q4)) (hgo:∀i ys H,i<n->Pv i ys H->H D=some Ix->J.go i H/\ys.length<sizeLine/\∀x H',J.GW i H x H' ->T RA H' fun b Y=>if b=true then te RA Y fun y U=>U D=some Ix/\∃g,g<n-i/\CW Pv n D M2 g am (upd U D zGa) else ∃g,g<n-i/\CW Pv n D M2 g ys Y) (R:∀ys H,Pv n ys H->H D=some Ix->J.stop n H/\G H):∃W:Nat->Nat->List V->Hp->Prop,zGv /\∀i m ys H,W i m ys H->H D=some Ix/\((J.stop i H/\G H)\/(J.go i H/\ys.length<sizeLine/\∀x H',J.GW i H x H' ->T RA H' fun b Y=>if b=true then te RA Y fun y U=>U D=some Ix/\∃g,g<m/\W M2 g am (upd U D zGa) else ∃g,g<m/\W M2 g ys Y)):=by
 refine⟨CW Pv n D,⟨n,by simp,Nat.zero_le _,AO,h0⟩,?_⟩;rintro i m ys H ⟨rfl,hi,hH,p⟩;refine⟨hH,?_⟩;by_cases Z:i<n
 .exact .inr (hgo i ys H Z p hH)
 .have e:i=n:=by lia
  subst e;exact .inl (R ys H p hH)
section
variable{X:Cx}
def Ob(hc:dO):FW X (.builtin "sum") (fun xs H Q=>∃(p:AD) (ns:yT),xs=[.ref p]/\Ax X.K H p SC/\Q (.int ns.sum) H):=by
 intro pins s σ H xs us Q I r h;obtain⟨p,ns,rfl,hq,q⟩:=h;obtain⟨u,rfl,Z⟩:=r.one;cases Z;obtain⟨g,Y,pl,hz⟩:=I.list hq;have hi:=intsAre_of Y;obtain⟨xs,U⟩:=hi.allInts.items;have R:s.heap.IsList p (intItems xs):=U ▸ pl.isList
 refine sum_intListG Os R fun h' tk T hk=>?_;have e1:ns=xs.toList.map Nh:=by
  rw[<-nums_intItems,<-U];exact(show numsOf g.toArray.toList=ns from hi.numsOf).symm
 have e2:preSum (numAt xs) xs.size=ns.sum:=by
  rw[preSum_eq,List.take_of_length_le At,e1]
 rw[e2];exact⟨.int _,H,I.kept (t':=tk) hk,⟨T,rfl⟩,q⟩
end
section
variable{X:Cx}{scope:zAm}{cl:zDF}{N:yU}{C:AD}{s₀:SD}{H₀:Hp}{fp:yd}
def J0:RI Cq (jK X.K):=IM
end
mutual
def Dt(l:AD)(H:Hp):PD->V->Prop
 |.none,v=>v=.BN
 |.bool b,v=>v=.bl b
 |.int i,v=>v=.int i
 |.str x,v=>v=.str x
 |.tuple g,v=>∃(a:AD) (xs:Jh),v=.ref a/\a≠l/\H a=some LE/\BP l H g xs
 |.list g,v=>∃(a:AD) (xs:Jh),v=.ref a/\a≠l/\H a=some KT/\BP l H g xs
 |.dict _,_=>False
def BP(l:AD)(H:Hp):List PD->List V->Prop
 |[],xs=>xs=[]
 |d::g,xs=>∃x r,xs=x::r/\Dt l H d x/\BP l H g r
end
mutual
def Dt.but{l:AD}{H H':Hp}(e:SameBut l H H'):∀ {d:PD} {v:V},Dt l H d v->Dt l H' d v
 |.none,_,h=>by rw[Dt]at h ⊢;exact h
 |.bool _,_,h=>by rw[Dt]at h ⊢;exact h
 |.int _,_,h=>by rw[Dt]at h ⊢;exact h
 |.str _,_,h=>by rw[Dt]at h ⊢;exact h
 |.tuple _,_,h=>by
  rw[Dt]at h ⊢;obtain⟨a,xs,T,n,R,g⟩:=h;exact⟨a,xs,T,n,e _ _ n R,BP.but e g⟩
 |.list _,_,h=>by
  rw[Dt]at h ⊢;obtain⟨a,xs,T,n,R,g⟩:=h;exact⟨a,xs,T,n,e _ _ n R,BP.but e g⟩
 |.dict _,_,h=>by rw[Dt]at h;exact h.elim
def BP.but{l:AD}{H H':Hp}(e:SameBut l H H'):∀ {ds:sw} {xs:Jh},BP l H ds xs->BP l H' ds xs
 |[],_,h=>by rw[BP]at h ⊢;exact h
 |_::_,_,h=>by
  rw[BP]at h ⊢;obtain⟨x,r,T,R,g⟩:=h;exact⟨x,r,T,Dt.but e R,BP.but e g⟩
end
def Dt.same{l:AD}{H H':Hp}{d:PD}{v:V}(h:Dt l H d v)(e:mo):Dt l H' d v:=Dt.but (.of e) h
def BP.same{l:AD}{H H':Hp}{d:yM}{v:yb}(h:BP l H d v)(e:mo):BP l H' d v:=BP.but (.of e) h
def BP.len{l:AD}{H:Hp}:∀ {ds:sw} {xs:Jh},BP l H ds xs->xs.length=ds.length
 |[],_,h=>by rw[BP]at h;rw[h];rfl
 |_::_,_,h=>by
  rw[BP]at h;obtain⟨x,r,rfl,_,g⟩:=h;rw[List.length_cons,List.length_cons,BP.len g]
def BP.get{l:AD}{H:Hp}:∀ {ds:sw} {xs:Jh} {i:Nat} {v:V},BP l H ds xs->xs[i]? = some v->∃d,ds[i]? = some d/\Dt l H d v
 |[],_,i,v,h,e=>by rw[BP]at h;subst h;simp at e
 |d::ds,_,i,v,h,e=>by
  rw[BP]at h;obtain⟨x,r,rfl,T,R⟩:=h;cases i with
  |zero=>simp at e;subst e;exact⟨d,rfl,T⟩
  |succ i=>
   obtain⟨c,q1,g⟩:=R.get (i:=i) (v:=v) x0;exact⟨c,by simpa using q1,g⟩
def BP.nil{l:AD}{H:Hp}:BP l H [] []:=by rw[BP]
def BP.cons{l:AD}{H:Hp}{d:PD}{ds:yM}{x:V}{xs:yb}(h:Dt l H d x)(k:BP l H ds xs):BP l H (d::ds) (x::xs):=by
 rw[BP];exact⟨x,xs,rfl,h,k⟩
def Dt.int{l:AD}{H:Hp}{i:Int}:Dt l H pp pp:=by rw[Dt]
def Dt.bool{l:AD}{H:Hp}{b:Bool}:Dt l H (.bool b) (.bl b):=by rw[Dt]
def Dt.BN{l:AD}{H:Hp}:Dt l H .none .BN:=by rw[Dt]
def Dt.str{l:AD}{H:Hp}{x:Str}:Dt l H (.str x) (.str x):=by rw[Dt]
def Dt.tup{l a:AD}{H:Hp}{ds:yM}{xs:yb}(n:a≠l)(h:H a=some LE)(k:BP l H ds xs):Dt l H (.tuple ds) HY:=by rw[Dt];exact⟨a,xs,rfl,n,h,k⟩
def Dt.lst{l a:AD}{H:Hp}{ds:yM}{xs:yb}(n:a≠l)(h:H a=some KT)(k:BP l H ds xs):Dt l H (.list ds) HY:=by rw[Dt];exact⟨a,xs,rfl,n,h,k⟩
def Ok(n:Nat)(d:PD):Prop:=d.canLay0=true/\d.depth<=n
def dg(n:Nat)(ds:yM):Prop:=PyData.canLayAll0 ds=true/\PyData.depthAll ds<=n
def Ok.shaped{n:Nat}{d:PD}(h:Ok n d)(hn:n<=64):SeqAt.shaped d=true:=by
 unfold SeqAt.shaped;rw[h.1,Bool.true_and];exact bg (aT h.2 hn)
def Ok.tup{n:Nat}{ds:yM}(h:dg n ds):Ok (n+1) (.tuple ds):=⟨by simp only[PyData.canLay0];exact h.1,by simp only[PyData.depth];exact Nat.succ_le_succ h.2⟩
def Ok.lst{n:Nat}{ds:yM}(h:dg n ds):Ok (n+1) (.list ds):=⟨by simp only[PyData.canLay0];exact h.1,by simp only[PyData.depth];exact Nat.succ_le_succ h.2⟩
def Ok.int{n:Nat}{i:Int}:Ok n pp:=⟨by simp[PyData.canLay0],by simp[PyData.depth]⟩
mutual
def Nz:∀d:PD,d.canLay0=true->PyData.eqv d d=true
 |.none,_=>by simp[PyData.eqv]
 |.bool _,_=>by simp[PyData.eqv]
 |.int _,_=>by simp[PyData.eqv]
 |.str _,_=>by simp[PyData.eqv]
 |.tuple g,h=>by simp only[PyData.eqv];exact M4 g (by simpa only[PyData.canLay0]using h)
 |.list g,h=>by simp only[PyData.eqv];exact M4 g (by simpa only[PyData.canLay0]using h)
 |.dict _,h=>by simp[PyData.canLay0]at h
def M4:∀ds:List PD,PyData.canLayAll0 ds=true->PyData.eqvAll ds ds=true
 |[],_=>by simp[PyData.eqvAll]
 |d::ds,h=>by
  simp only[PyData.canLayAll0,Bool.and_eq_true]at h;simp only[PyData.eqvAll,Nz d h.1,M4 ds h.2,Bool.and_self]
end
def UU:PD->String
 |.none => "NoneType"
 |.bool _ => "bool"
 |.int _ => "int"
 |.str _ => "str"
 |.tuple _ => "tuple"
 |.list _ => "list"
 |.dict _ => "dict"
def TX:PD->Bool
 |.tuple _=>true
 |_=>false
def X4:PD->Bool
 |.list _=>true
 |_=>false
def gy:PD->Bool
 |.int _=>true
 |.bool _=>true
 |_=>false
def Z5:PD->Bool
 |.bool _=>true
 |_=>false
def R7(K:Fg):∀d:PD,zCM->PySem.W.kitOne K zCu Gf=some (TX d)
 |.none,_=>rY K
 |.bool _,_=>rg K
 |.int _,_=>rp K
 |.str _,_=>rE K
 |.tuple _,_=>sd K
 |.list _,_=>qx K
 |.dict g,h=>absurd rfl (h g)
def X6(K:Fg):∀d:PD,zCM->PySem.W.kitOne K zCu iN=some (X4 d)
 |.none,_=>qo K
 |.bool _,_=>sC K
 |.int _,_=>rX K
 |.str _,_=>sO K
 |.tuple _,_=>oq K
 |.list _,_=>ql K
 |.dict g,h=>absurd rfl (h g)
def sQ(K:Fg):PySem.W.kitOne K zCL na=some false:=by kernel_rfl
def tP(K:Fg):PySem.W.kitOne K (.type "str") na=some false:=by kernel_rfl
def sr(K:Fg):PySem.W.kitOne K Gf na=some false:=by kernel_rfl
def pP(K:Fg):PySem.W.kitOne K iN na=some false:=by kernel_rfl
def jY(K:Fg):∀d:PD,zCM->PySem.W.kitOne K zCu ul=some (gy d)
 |.none,_=>rB K
 |.bool _,_=>qF K
 |.int _,_=>tR K
 |.str _,_=>pV K
 |.tuple _,_=>tI K
 |.list _,_=>rH K
 |.dict g,h=>absurd rfl (h g)
def iO(K:Fg):∀d:PD,zCM->PySem.W.kitOne K zCu na=some (Z5 d)
 |.none,_=>sQ K
 |.bool _,_=>si K
 |.int _,_=>sG K
 |.str _,_=>tP K
 |.tuple _,_=>sr K
 |.list _,_=>pP K
 |.dict g,h=>absurd rfl (h g)
end L2
namespace Tr
def SI{t c:Tr}(h:c∈t.bs):c.deep<t.deep:=by
 induction t with
 |nil=>cases h
 |cons b r _ g=>
  rw[bs]at h;have hd:(cons b r).deep=max (b.deep+1) r.deep:=rfl;rcases aM.mp h with rfl|h
  .lia
  .have:=g h;lia
def EJ:∀t:Tr,0<t.AI
 |.nil=>Nat.one_pos
 |.cons b r=>by rw[AI];have:=EJ b;lia
def Mg{t c:Tr}(h:c∈t.bs):c.AI<t.AI:=by
 induction t with
 |nil=>cases h
 |cons b r _ g=>
  rw[bs]at h;have R:(cons b r).AI=b.AI+r.AI:=rfl;have U:=EJ b;have T:=EJ r;rcases aM.mp h with rfl|h
  .lia
  .have:=g h;lia
def VP:∀t:Tr,1+(t.bs.map fun c=>(c.AI:Int)).sum=(t.AI:Int)
 |.nil=>rfl
 |.cons b r=>by
  rw[bs,List.map_cons,List.sum_cons,AI];have:=VP r
  lia
def PU:∀t:Tr,t.bs.length<t.AI
 |.nil=>Nat.one_pos
 |.cons b r=>by
  rw[bs,List.length_cons,AI];have:=PU r;have:=EJ b
  lia
def dp:Tr->Nat
 |.nil=>1
 |.cons b r=>b.AI*b.dp*r.dp
def Kq(t:Tr):Nat:=t.AI*t.dp
end Tr
namespace L2
open PySem PySem.Spec PyProof.Rows
mutual
def Ey:PD->Option Tr
 |.tuple g=>EG g
 |_=>none
def EG:List PD->Option Tr
 |[]=>some .nil
 |d::g=>(Ey d).bind fun b=>(EG g).map fun r=>.cons b r
end
section
variable{X:Cx}
def uU:R2:=fun x y H Q=>∃a b xs ys,x=.ref a/\y=.ref b/\H a=some LE/\H b=some zCV/\xs.length+ys.length<=sizeLine/\∀p H',AM H H'->H' p=some (.tup (xs++ys))->Q xT H'
def nZ:De X yx uU:=by
 intro pins s σ H x y v u Q I rx ry h;obtain⟨a,b,xs,ys,rfl,rfl,ha,hb,hz,q⟩:=h;cases rx;cases ry;obtain⟨its,Z,p1,_⟩:=I.tuple (BL.of (K:=X.K) ha);obtain⟨its2,Y,p2,_⟩:=I.tuple (BL.of (K:=X.K) hb);by_cases hv:its=[]
 .have hx:=Z.Zw.mp hv;subst hv hx;obtain⟨⟨cls,dd,data,sl⟩,ho,hc,n,hd⟩:=id p1;obtain⟨⟨cls2,dd2,data2,U⟩,g,T,n2,R⟩:=id p2;simp only at hc hd T R;subst hc hd T R;exact concat_meets ⟨_,ho,rfl⟩ ⟨_,g,rfl⟩ noFill_tuple_add seq_tuple_add PySem.F.slot_tuple_add PySem.F.entry_tuple_add zDT
   (tuple_addW0 a b _ _ n n2 dd dd2 sl U At) ⟨ho,g,⟨.ref b,H,I,rfl,q b H (.refl H) (by simpa using hb)⟩⟩
 .refine HT.nW p1 p2 hv (fun z=>?_) (fun z=>?_) (by rw[<-Z.length,<-Y.length];exact hz)
  .have hy:=Y.Zw.mp z;subst hy;exact⟨.ref a,H,I,rfl,q a H (.refl H) (by simpa using ha)⟩
  .refine⟨.ref s.heap.objs.size,_,I.laid (t':=s.toks) (o:=.tup (xs++ys)) zDp RW ?_,rfl,q _ _ (Ah (I.A5.fresh RW) _) AO⟩;exact⟨by rw[List.length_append];exact hz,_,Z.append Y,IsTup.new _ _⟩
end
end L2
namespace Tim
open PySem PyProof.Rows
section pure
end pure
section
section pure
end pure
section pure
end pure
end
end Tim
namespace GS
open PySem PySem.W PyProof.Rows PySem.SeqAt
abbrev Ext(h0 h:Heap):Prop:=∀c o,h0.get? c=some o->h.get? c=some o
def Ud(O:KeyOrd)(prog:FS)(w:IO)(κ:SortKind)(A:Ki)(s:SD)(ks:List O.α)(us:yN):Prop :=
 ∀(E:ZB) (i j:Nat) (x y:O.α) (u v:VL) (Q:bi),us[i]? = some u->us[j]? = some v->ks[i]? = some x->ks[j]? = some y->Q (O.blt x y) s->wpAny AS A (keyLt' κ u v) Q E s
structure gp(O:KeyOrd)(prog:FS)(w:IO)(h0:Heap)(r:Nat)(ks:List O.α)(us:List Value):Prop where
 len:us.length=ks.length
 go:∃ok:SortKind->Prop,(∀(A:Ki) (E:zBz) (s:Shared) (Q:SortKind->Shared->Prop),Ext h0 s.heap->(∀κ,ok κ->Q κ s)->wpAny AS A (keyKind' us.toArray) Q E s) /\
  ∀(A:Ki) (s:Shared) (κ:SortKind),Ext h0 s.heap->A.units+r<cLine->ok κ->Ud O prog w κ A s ks us
def Runs(O:KeyOrd)(prog:FS)(w:IO)(ks:List O.α):Prop :=
 ∀(d:O.α) (A:Ki) (E:ZB) (s:SD) (κ:SortKind) (g:LY),g.length=ks.length->2<=g.length->Ud O prog w κ A s ks g ->
  wpAny AS A ((sortRuns').run (SortSt.mk' κ (g.toArray.zip g.toArray) #[] 7 none)) (fun r s'=>s'=s/\failedOf r.2=none/\∃ix:List Nat,ix.Perm (List.range g.length) /\
   (arrOf r.2).map zF=(ix.map fun i=>g.getD i Value.none).toArray/\(ix.map fun i=>ks.getD i d).Pairwise O.kle) E s
def dy{O:KeyOrd}{prog:FS}{w:IO}{ks:List O.α}(Y:ks.length<64):Runs O prog w ks:=by
 intro d A E s κ g hl h2 ask;have Y:g.length<64:=by lia
 refine kat_run (Q:=fun R s'=>s'=s/\failedOf R=none/\∃ix:List Nat,ix.Perm (List.range g.length)/\(arrOf R).map zF=(ix.map fun i=>g.getD i Value.none).toArray/\(ix.map fun i=>ks.getD i d).Pairwise O.kle)
  (G:=fun p s'=>s'=s/\SM.Pm g.length p/\SM.Up (O:=O) (fun i=>ks.getD i d) p g.length) rfl h2 Y (fun p R s' hp har hf hG=>?_)
  (TH.SG (lt:=SM.IB (O:=O) fun i=>ks.getD i d) (n:=g.length) (fun i j C hi U Z=>?_) _ (SM.sort AC))
 .obtain⟨rfl,hpm,hup⟩:=hG;have h1:p.toList.Perm (List.range g.length):=by simpa using Array.perm_iff_toList_perm.mp hpm.perm
  refine⟨rfl,hf,p.toList,h1,kat_snds rfl har,?_⟩;refine List.pairwise_iff_getElem.mpr fun i j hi U hij=>?_;rw[List.length_map,Array.length_toList,hp]at hi U;have:=hup i j AC U;have e1:∀k,k<g.length->∀T,(p.toList.map fun i=>ks.getD i d)[k]' T=ks.getD (p.getD k 0) d:=fun k T hk'=>by
   rw[List.getElem_map,Array.getElem_toList,Array.getD,dif_pos AC]
   rfl
  rw[e1 i hi,e1 j U];exact this
 .have gi:∀k,k<g.length->∃u x,g[k]? = some u/\ks[k]? = some x/\g.getD k Value.none=u/\ks.getD k d=x:=fun k T=>by
   refine⟨g[k],ks[k]' AC,List.getElem?_eq_getElem T,List.getElem?_eq_getElem AC,?_,?_⟩
   .rw[List.getD_eq_getElem?_getD,List.getElem?_eq_getElem T];rfl
   .rw[List.getD_eq_getElem?_getD,List.getElem?_eq_getElem AC];rfl
  obtain⟨u,x,q1,q2,q3,q4⟩:=gi i hi;obtain⟨v,y,r1,r2,r3,r4⟩:=gi j U;unfold kas_ask;rw[q3,r3];refine ask _ i j x y u v C q1 r1 q2 r2 ?_;have Z:C (O.blt (ks.getD i d) (ks.getD j d)) s:=Z;rw[q4,r4]at Z;exact Z
section
variable{O:KeyOrd}{prog:FS}{w:IO}{A:Ki}{E:yO}{s:SD}{h0:Heap}{r:Nat}{ks:List O.α}{us:yN}
def Ud.rev{κ:SortKind}(Y:zEj)(a:Ud O prog w κ A s ks us):Ud O prog w κ A s ks.reverse us.reverse:=fun E i j x y u v Q U T R g q=>by
 have b1:=(aD.mp U).1;have b2:=(aD.mp T).1;rw[List.length_reverse]at b1 b2;rw[List.getElem?_reverse AC]at U T R g;rw[<-Y]at R g;exact a E _ _ x y u v Q U T R g q
def jU{α:Type}{R:α->α->Prop}:∀ {l:lX},l.length<2->l.Pairwise R
 |[],_=>.nil
 |[_],_=>List.pairwise_singleton ..
 |_::_::_,h=>by simp at h;lia
def fv(d : O.α){a : AD}{n : Nat}{b : Bool}{P : PySem.Fin->SD->Prop}(C : gp O prog w h0 r ks us)(hx : Ext h0 s.heap)(ha0 : h0.objs.size<=a)(ho : s.heap.get? a = some zEK)(hsz : us.length<=1000)(hr : Runs O prog w (if b then ks.reverse else ks))(hu : A.units + r < cLine) (h : ∀ ix : yZ,ix.Perm v6->(ix.map fun i => ks.getD i d).Pairwise zEL->P zDr zAV):wpAny AS A zBc P E s:=by
  rw [list_sort_rev]
  have ha : a < s.heap.objs.size:=aF ho
  refine Wb (listItems_at ho rfl ?_)
  refine Wb zBH
  obtain ⟨e1,ho1⟩ : ∃ e1,(s.heap.update a (Obj.mapSeq fun _ => #[])).get? a = some (seqObj "list" #[] e1):=⟨_,get?_update_seq ho (fun _ => #[])⟩
  refine Wb (seqEpoch_at ho1 rfl ?_)
  refine Wb zCY
  refine Wb (wpAny_newList ?_ (aq _))
  refine aS ?_
  have ho6 : (((s.heap.update a zFt).push zFk).push Ev).get? a = some (seqObj "list" #[] e1):=by
    rw [Heap.get?_push_ne _ _ _ zEB,Heap.get?_push_ne _ _ _ (by rw [Heap.size_update]; exact aG ha)]
    exact ho1
  have keep : Ext h0 (((s.heap.update a zFt).push zFk).push Ev):=fun c o hc => by
    have hlt : c < h0.objs.size:=aF hc
    have hne : c≠a:=fun z => Nat.not_lt.mpr ha0 (z ▸ hlt)
    refine aE _ (aE _ ?_)
    rw [Heap.get?_update_ne _ _ _ _ hne]
    exact hx c o hc
  show wpAny AS A _ P E BY
  dsimp only
  have step : ∀ T : Sem PySem.Fin,wpAny AS A T P E BY ->
      wpAny AS A zCH P E BY:=by
    intro T hT
    split
    . exact Wb (bH hT)
    . exact hT
  refine step _ ?_
  obtain ⟨ok,hkind,hask⟩:=C.go
  have hl:=C.len
  by_cases h2 : us.toArray.size < 2
  . rw [if_pos h2,if_pos h2]
    refine Wb Oz
    rw [StateT.run_pure]
    refine Wb Oz
    dsimp only
    have hz : us.length < 2:=by simpa using h2
    have hout:=TH.VI b us hz
    refine Wb zCB
    refine Wb (listUpdate_at ho6 rfl ?_ (aq _) (by
      refine aT (Nat.le_of_eq (bJ Array.size hout)) ?_
      rw [List.size_toArray,sizeLine_eq]; lia))
    simp only [bne_self_eq_false,Bool.false_eq_true,if_false]
    have fin:=h v6 (.refl _) (jU (by simpa using hz))
    rw [TH.map_getD] at fin
    rw [<- hout] at fin
    exact aA fin
  . rw [if_neg h2,if_neg h2]
    have hz : 2<=us.length:=by simpa using h2
    refine Wb (hkind A E BY _ keep fun κ hκ => ?_)
    have ask:=hask A BY κ keep hu hκ
    obtain ⟨ws,kw,aw,hwl,hwk,hws,hrw,pick⟩ : ∃ (ws : List VL) (kw : List O.α),Ud O prog w κ A { s with heap:=((s.heap.update a zFt).push zFk).push Ev } kw ws/\ws.length = us.length/\ws.length = kw.length /\
        (if b = true then (us.toArray.zip us.toArray).reverse else us.toArray.zip us.toArray) = ws.toArray.zip ws.toArray/\Runs O prog w kw /\
        ∀ ix : List Nat,ix.Perm (List.range ws.length)->(ix.map fun i => kw.getD i d).Pairwise O.kle->∃ iy : List Nat,iy.Perm v6/\(iy.map fun i => ks.getD i d).Pairwise zEL /\
          (if b = true then ((ix.map fun i => ws.getD i Value.none).toArray).reverse else (ix.map fun i => ws.getD i Value.none).toArray) = (iy.map fun i => us.getD i Value.none).toArray:=by
      cases b with
      | false => exact ⟨us,ks,ask,rfl,hl,rfl,hr,fun ix h1 h2 => ⟨ix,h1,by simpa using h2,rfl⟩⟩
      | true=>
        refine ⟨us.reverse,ks.reverse,ask.rev hl,by simp,by simp [hl],kat_pairs (ks:=us) (vs:=us) true rfl,hr,fun ix h1 h2 => ⟨(ix.map fun i => us.length - 1 - i).reverse,?_,?_,?_⟩⟩
        . rw [List.length_reverse] at h1
          refine (List.reverse_perm _).trans ((h1.map fun i => us.length - 1 - i).trans ?_)
          have : (List.range us.length).map (fun i => us.length - 1 - i) = (List.range us.length).reverse:=by
            refine List.ext_getElem At fun i a1 a2 => ?_
            simp
          rw [this]
          exact List.reverse_perm _
        . have hb : ∀ i∈ix,i < us.length:=fun i hi => by simpa using h1.mem_iff.mp hi
          have e : ((ix.map fun i => us.length - 1 - i).reverse.map fun i => ks.getD i d) = (ix.map fun i => ks.reverse.getD i d).reverse:=by
            rw [List.map_reverse,List.map_map]
            congr 1
            exact aY fun i hi => by
              have:=hb i hi
              show ks.getD zER d = _
              rw [List.getD_eq_getElem?_getD,List.getD_eq_getElem?_getD,List.getElem?_reverse AC,hl]
          rw [e,List.pairwise_reverse]
          simpa using h2
        . have hb : ∀ i∈ix,i < us.length:=fun i hi => by simpa using h1.mem_iff.mp hi
          rw [if_pos rfl,List.map_reverse,List.map_map,List.reverse_toArray]
          congr 2
          exact aY fun i hi => by
            have:=hb i hi
            show us.reverse.getD i Value.none = us.getD zER Value.none
            rw [List.getD_eq_getElem?_getD,List.getD_eq_getElem?_getD,List.getElem?_reverse AC]
    rw [hws]
    refine Wb (ao (hrw d A E BY κ ws hwk AC aw) ?_ fun _ _ z => z)
    rintro ⟨⟨⟩,st'⟩ s' ⟨rfl,hf,ix,hix,hout,hst⟩
    dsimp only
    refine Wb zCB
    obtain ⟨iy,y1,y2,hfin⟩ : ∃ iy : List Nat,iy.Perm (List.range us.length)/\(iy.map fun i => ks.getD i d).Pairwise (fun x y => if b = true then O.kle y x else O.kle x y) /\
        (if b = true then ((arrOf st').map (·.2)).reverse else (arrOf st').map (·.2)) = (iy.map fun i => us.getD i Value.none).toArray:=by
      rw [show (arrOf st').map zF = _ from hout]
      exact pick ix hix hst
    refine Wb (listUpdate_at ho6 rfl ?_ (aq _) (by
      refine aT (Nat.le_of_eq (bJ Array.size hfin)) ?_
      have:=y1.length_eq
      rw [List.length_range] at this
      rw [List.size_toArray,List.length_map,this,sizeLine_eq]; lia))
    rw [show failedOf st' = none from hf]
    simp only [bne_self_eq_false,Bool.false_eq_true,if_false]
    have fin:=h iy y1 y2
    rw [<- hfin] at fin
    exact aA fin
def ZQ(prog:FS)(w:IO)(A:Ki)(E:yO)(s:SD)(v:VL)(us:yN):Prop :=
 ∀Q:List VL->SD->Prop,(∀(g:Heap) (tk:Nat),Ext s.heap g->s.heap.objs.size<=g.objs.size->Q us {s with heap:=g,toks:=tk})->wpAny AS A (collect v) Q E s
def YO{l:AD}(R:s.heap.IsList l us.toArray)(hz:us.length<=1000):ZQ prog w A E s SY us:=fun Q h=>by
 refine collect_list R (h _ _ (fun c o q=>?_) ?_) yi
 .have g:c<s.heap.objs.size:=aF q;rw[Heap.get?_update_ne _ _ _ _ (aG g),Heap.get?_push_ne _ _ _ (aG g)];exact q
 .rw[Heap.size_update,size_push']
  lia
def Y2(d:O.α){b:Bool}{Q:yO}{g:Heap}{tk:Nat}{T:Sem PySem.Fin}(C:gp O prog w s.heap r ks us)(hsz:us.length<=1000)(hr:Runs O prog w (if b then ks.reverse else ks))(R:Ext s.heap g)(z1:s.heap.objs.size<=g.objs.size) (h:∀(h':Heap) (D tk:Nat) (ix:yZ) (Y:Nat),s.heap.objs.size<=D->Ext s.heap h'->h'.get? D=some (seqObj "list" (ix.map fun i=>us.getD i Value.none).toArray Y)->ix.Perm v6->(ix.map fun i=>ks.getD i d).Pairwise zEv->Q ra Fr):(g.push IF).get? g.objs.size=some IF/\Ext s.heap (g.push IF) /\∀ix:yZ,ix.Perm v6->(ix.map fun i=>ks.getD i d).Pairwise zEv->Q zCN {s with heap:=sortedHeap (g.push IF) g.objs.size us (ix.map fun i=>us.getD i Value.none).toArray,toks:=tk}:=by
 have g1:(g.push IF).get? g.objs.size=some IF:=aN _ rfl;refine⟨g1,fun b u e=>aE _ (R b u e),fun ix p1 p2=>?_⟩;obtain⟨Y,U⟩:=sortedHeap_at (vs:=us) (out:=(ix.map fun i=>us.getD i Value.none).toArray) g1;refine h _ g.objs.size tk ix Y z1 (fun b u e=>?_) U p1 p2;have Z:b<g.objs.size:=aF (R b u e);rw[sortedHeap_old (aG Z) (by rw[Heap.size_push];exact bE Z)];exact aE _ (R b u e)
def jA(d:O.α){v:VL}{Q:yO}(G:ZQ prog w A.in1 E s v us)(C:gp O prog w s.heap r ks us)(hsz:us.length<=1000)(U:Runs O prog w ks)(hu:A.units+2+r<cLine) (h:∀(h':Heap) (D tk:Nat) (ix:yZ) (g:Nat),s.heap.objs.size<=D->Ext s.heap h'->h'.get? D=some (seqObj "list" (ix.map fun i=>us.getD i Value.none).toArray g)->ix.Perm v6->(ix.map fun i=>ks.getD i d).Pairwise O.kle->Q ra Fr):wpAny AS A (call lm [v]) Q E s:=by
 refine Calls.call_function_entry kind_sorted plain_sorted entry_sorted (args_sorted1 _) ?_;unfold Builtin.«sorted»;refine Wb (m:=checkCount "sorted" 1 1 _) Oz;refine Wb (G _ fun h1 tk x1 R=>?_);refine Wb (wpAny_newList ?_ yi);obtain⟨Y,Z,fin⟩:=Y2 (T:=pure zDr) (tk:=tk) (b:=false) d C hsz zAi x1 R (fun h' D tk ix g a1 a2 a3 a4 a5=>h h' D tk ix g a1 a2 a3 a4 (by simpa using a5));refine Wb (aS (ae slot_list_sort ⟨_,Y,rfl⟩ entry_list_sort ?_ (args_list_sort _)));rw[TH.Nl];refine fv (s:={s with heap:=h1.push IF,toks:=tk}) d C Z R Y hsz zAi (by rw[show A.in1.in1.units=A.units+2 from rfl];lia) fun ix p1 p2=>⟨_,rfl,?_⟩;exact aA ⟨_,rfl,fin ix p1 p2⟩
end
end GS
namespace Tr
def pr(x:Tr×Tr):Tr:=.cons x.1 (.cons x.2 .nil)
end Tr
namespace TH
open PySem PySem.W PyProof.Rows PySem.SeqAt
def gP{h:Heap}{a:AD}{x y:re}(U:h.IsList a x)(T:h.IsList a y):x=y:=by
 obtain⟨o,e,_,n,d⟩:=U;obtain⟨o',g,_,Y,R⟩:=T;rw[e]at g;cases g;rw[d]at R;cases R;rfl
def tX{s:SD}{t u:Tr}{A:Ki}{a b:AD}{g its':yN}(U:s.heap.IsList a g.toArray)(k1:Vs s.heap t g)(T:s.heap.IsList b its'.toArray)(k2:zAU)(hu:XN):EqAt A s HY zBU (decide (t=u)):=by
 have Y:g.toArray.size=t.bs.length:=by rw[Tr.E8,<-Vs.length k1];simp
 have z2:its'.toArray.size=u.bs.length:=by rw[Tr.E8,<-Vs.length k2];simp
 by_cases ea:a=b
 .subst ea;have:=gP U T;have e2:g=its':=by simpa using this
  subst e2;rw[Vs.inj k1 k2,decide_eq_true rfl];exact EqAt.same _
 .refine EqAt.of_refs ea ?_;by_cases Z:t.bs.length=u.bs.length
  .have key:=RcAt.lists (s:=s) (A:=A) (e:=fun j=>decide (t.bs[j]? = u.bs[j]?)) U T AC AC fun j x1 x2=>by
    have:=WM t u A.in1 g its' k1 k2 KP j (by simpa using x1) (by simpa using x2)
    simpa using this
   have ev:(List.range g.toArray.size).all (fun j=>decide (t.bs[j]? = u.bs[j]?))=decide (t=u):=by
    rw[Y];by_cases R:t=u
    .subst R;simp
    .rw[decide_eq_false R];refine bX.mpr fun z=>R (Tr.fT (List.ext_getElem? fun i=>?_));by_cases hi:i<t.bs.length
     .have:=aL.mp z i (bV.mpr AC)
      simpa using this
     .rw[List.getElem?_eq_none AC,List.getElem?_eq_none AC]
   rw[ev]at key;exact key
  .rw[decide_eq_false (fun z=>Z (by rw[z]))];exact RcAt.lists_lengths U T (by simpa[Y,z2]using Z) AC
section
open PySem.AutoSeq1 (wpAny_loadPart')
open PySem.MeetsSeq PySem.MeetsSeq2 PySem.MeetsSeq3
def mj{t u:yc}{i:Nat}(R:i<t.length)(g:i<u.length):Tr.QR (t.drop i) (u.drop i)=if t[i]=u[i] then Tr.QR (t.drop M2) (u.drop M2) else Tr.lt t[i] u[i]:=by
 rw[List.drop_eq_getElem_cons R,List.drop_eq_getElem_cons g,Tr.QR]
def gW{t u:yc}{i:Nat}(h:t.length<=i\/u.length<=i)(R:i<=t.length)(g:i<=u.length):Tr.QR (t.drop i) (u.drop i)=decide (t.length<u.length):=by
 by_cases a:t.length<=i
 .rw[List.drop_of_length_le a];by_cases b:u.length<=i
  .rw[List.drop_of_length_le b,decide_eq_false AC]
   rfl
  .rw[List.drop_eq_getElem_cons AC,decide_eq_true AC]
   rfl
 .have b:u.length<=i:=by lia
  rw[List.drop_of_length_le b,List.drop_eq_getElem_cons AC,decide_eq_false AC]
  rfl
def nJ(l b:AD)(items T:re)(n n2:Nat)(dd dd2:zDo)(sl sl2:z9)(t u:Tr)(k:Nat):∀i:Nat,items.size-i=k->i<=items.size->i<=T.size->Meets (Builtin.«list.__eq__.loop» ⟨[.ref l,.ref b,rawInt i,rawInt 0],[]⟩) (fun A R s=>s.heap.get? l=some { cls:=.type "list",dict:=dd,data:=.seq items n,slots:=sl}/\s.heap.get? b=some { cls:=.type "list",dict:=dd2,data:=.seq T n2,slots:=sl2} /\Vs s.heap t items.toList/\Vs s.heap u T.toList/\A.units+t.deep<cLine /\R (.ok (.ret (.bool (Tr.QR (t.bs.drop i) (u.bs.drop i))))) s):=by
 induction k with
 |zero=>
  intro i hk hi1' hi2' prog w A R s h;obtain⟨hp,g,d,tk,os⟩:=s;obtain⟨hl,hb,hi,hj,hun,h⟩:=h;have z1:items.size=t.bs.length:=by rw[Tr.E8,<-Vs.length hi];simp
  have z2:T.size=u.bs.length:=by rw[Tr.E8,<-Vs.length hj];simp
  wp_walk using wpAny_loadPart' hl,wpAny_loadPart' hb
  have Y:items[((i:Nat):Int).toNat]? = none:=by simp;lia
  rw[Y]
  wp_walk using wpAny_loadPart' hl,wpAny_loadPart' hb
  show R zFI _;rw[gW (.inl AC) AC AC,<-z1,<-z2]at h;exact h
 |succ k ih=>
  intro i hk hi1' hi2' prog w A R s h;obtain⟨hp,g,d,tk,os⟩:=s;obtain⟨hl,hb,hi,hj,hun,h⟩:=h;have z1:items.size=t.bs.length:=by rw[Tr.E8,<-Vs.length hi];simp
  have z2:T.size=u.bs.length:=by rw[Tr.E8,<-Vs.length hj];simp
  wp_walk using wpAny_loadPart' hl,wpAny_loadPart' hb
  have hlt:i<items.size:=by lia
  have Y:items[((i:Nat):Int).toNat]? = some items[i]:=by simp[hlt]
  by_cases U:i<T.size
  .have Z:T[((i:Nat):Int).toNat]? = some T[i]:=by simp[U]
   have hc:((i:Int)+1)=((i+1:Nat):Int):=by push_cast;rfl
   rw[Y,Z];obtain⟨a1,i1,c1,q1,q2,q3,q4,q5⟩:=hi.at (i:=i) (by simpa using hlt);obtain⟨a2,i2,c2,r1,r2,r3,r4,r5⟩:=hj.at (i:=i) zAi;have e1:items[i]=.ref a1:=by rw[<-q1];simp[hlt]
   have e2:T[i]=.ref a2:=by rw[<-r1];simp[U]
   have t1:t.bs[i]' AC=c1:=by
    have:=aH (l:=t.bs) (i:=i) AC;rw[q4]at this;exact(ah this).symm
   have t2:u.bs[i]' AC=c2:=by
    have:=aH (l:=u.bs) (i:=i) AC;rw[r4]at this;exact(ah this).symm
   rw[mj AC AC,t1,t2]at h;have he:=OV (s:=⟨hp,g,d,tk,os⟩) (A:=A.in1) q2 q3 r2 r3 KP;rw[e1,e2];refine Wb (he prog w _ _ ?_);cases hb':decide (c1=c2) with
   |true=>
    rw[if_pos (aP hb')]at h
    wp_walk
    rw[hc];exact⟨plainId_quiet plain_eq_loop _,codeAny_builtin entry_eq_loop (by
     rw[Around.under_plainId plain_eq_loop _];exact ih M2 AC AC AC prog w A R _ ⟨hl,hb,hi,hj,hun,h⟩)⟩
   |false=>
    rw[if_neg (bS hb')]at h
    wp_walk using wpAny_loadPart' hl,wpAny_loadPart' hb
    rw[Y,Z,e1,e2];have hri:=WE (c1.deep+1) c1 c2 A.in1 ⟨hp,g,d,tk,os⟩ a1 a2 i1 i2 (bR _) q2 q3 r2 r3 KP prog w
    wp_walk using hri
    exact h
  .have Z:T[((i:Nat):Int).toNat]? = none:=by simp;lia
   rw[Y,Z]
   wp_walk using wpAny_loadPart' hl,wpAny_loadPart' hb
   show R zFI _;rw[gW (.inr AC) AC AC,<-z1,<-z2]at h;exact h
def ni(l b:AD)(items T:re)(n n2:Nat)(dd Y:zDo)(sl U:z9)(t u:Tr):Meets (Builtin.«list.__lt__» ⟨[.ref l,.ref b],[]⟩) (fun A R s=>s.heap.get? l=some { cls:=.type "list",dict:=dd,data:=.seq items n,slots:=sl}/\s.heap.get? b=some { cls:=.type "list",dict:=Y,data:=.seq T n2,slots:=U} /\Vs s.heap t items.toList/\Vs s.heap u T.toList/\A.units+t.deep<cLine /\R (.ok (.ret (.bool yn))) s):=by
 intro prog w A R s h;obtain⟨hp,g,d,tk,os⟩:=s;obtain⟨hl,hb,hi,hj,Z,h⟩:=h;have f3:=AutoSeq1.sub_list_list
 wp_walk using wpAny_loadPart' hl,wpAny_loadPart' hb
 exact⟨plainId_quiet plain_eq_loop _,codeAny_builtin entry_eq_loop (by
  rw[Around.under_plainId plain_eq_loop _];exact nJ l b items T n n2 dd Y sl U t u _ 0 rfl (aq _) (aq _) prog w A R _ ⟨hl,hb,hi,hj,Z,by rw[Tr.lO]at h;simpa using h⟩)⟩
end
end TH
namespace TH
open PySem PySem.W PyProof.Rows PySem.SeqAt
def OJ(h:Heap)(k:Tr)(v:VL):Prop:=∃(a b l:AD) (R g:LY) (t u:Tr),k=Tr.pr (t,u)/\v=.ref a/\h.IsTuple a [.ref b,.ref l].toArray/\h.IsTuple b R.toArray/\Vs h t R/\h.IsList l g.toArray/\Vs h u g
def Vs.ext{h h':Heap}(k:GS.Ext h h'){t:Tr}{us:yN}(e:Vs h t us):Vs h' t us:=e.keeps fun b o e _=>k b o e
def Zn{h h':Heap}(k:GS.Ext h h'){a:AD}{x:re}(e:h.IsTuple a x):h'.IsTuple a x:=let⟨o,g,c,n,d⟩:=e;⟨o,k _ _ g,c,n,d⟩
def i7{h h':Heap}(k:GS.Ext h h'){a:AD}{x:re}(e:h.IsList a x):h'.IsList a x:=let⟨o,g,c,n,d⟩:=e;⟨o,k _ _ g,c,n,d⟩
def OJ.ext{h h':Heap}(k:GS.Ext h h'){x:Tr}{v:VL}:OJ h x v->OJ h' x v:=fun⟨a,b,l,i1,i2,t,u,e1,Z,Y,U,T,R,g⟩=>
 ⟨a,b,l,i1,i2,t,u,e1,Z,Zn k Y,Zn k U,T.ext k,i7 k R,g.ext k⟩
section
open PySem.MeetsSeq PySem.MeetsSeq2 PySem.MeetsSeq3
variable{prog:FS}{w:IO}{A:Ki}{E:yO}{s:SD}
def ig{t u:Tr}{a b:AD}{R its':yN}{Q:bi}(h1:s.heap.IsList a R.toArray)(k1:Vs s.heap t R)(h2:s.heap.IsList b its'.toArray)(k2:zAU)(hu:XN)(h:Q yn s):wpAny AS A (oneLt' false HY zBU) Q E s:=by
 rw[oneLt'_eq];simp only[Bool.false_eq_true,if_false];obtain⟨⟨cls,dd,data,sl⟩,ho,hc,n,U⟩:=id h1;obtain⟨⟨cls2,dd2,data2,Z⟩,T,Y,n2,g⟩:=id h2;simp only at hc U Y g;subst hc U Y g;refine Wb (richCompare_meets_room (op:=.Lt) ⟨_,ho,rfl⟩ ⟨_,T,rfl⟩ PySem.F.slot_list_lt PySem.F.entry_list_lt (PySem.F.args_list_lt_2 _ _) (ni a b R.toArray its'.toArray n n2 dd dd2 sl Z t u)
   ⟨ho,T,by simpa using k1,by simpa using k2,hu,show Value.bool yn≠Value.notImplemented/\_ from⟨(fun x=>nomatch x),wpAny_truthy_bool h⟩⟩ AC)
def nV{x y:Tr}{u v:VL}{Q:bi}(h1:OJ s.heap x u)(h2:OJ s.heap y v)(hu:A.units+x.deep<cLine)(h:Q (Tr.lt x y) s):wpAny AS A (keyLt' (tuples' false) u v) Q E s:=by
 obtain⟨a,b,l,i1,i2,t1,g,rfl,rfl,k1,k2,k3,k4,k5⟩:=h1;obtain⟨a',b',l',j1,j2,T,R,rfl,rfl,m1,m2,m3,m4,m5⟩:=h2;obtain⟨o,ho,hc,n,hd⟩:=id k1;obtain⟨o2,Z,hc2,n2,hd2⟩:=id m1;have hdp:(Tr.pr (t1,g)).deep=max (t1.deep+1) (max (g.deep+1) 0):=rfl;refine kat_lt ho hd Z hd2 ?_;have hlt:Tr.lt (Tr.pr (t1,g)) (Tr.pr (T,R))=if t1=T then(if g=R then false else Tr.lt g R) else Tr.lt t1 T:=by
  unfold Tr.pr;rw[Tr.lt,Tr.lt]
  rfl
 rw[hlt]at h;show KatLex prog w A false (decide (2<2)) Q [(.ref b,.ref b'),(.ref l,.ref l')] 0 s;refine kat_cons (OV k2 k3 m2 m3 AC prog w _ _ ?_);by_cases Y:t1=T
 .rw[decide_eq_true Y];rw[if_pos Y]at h;refine kat_yes (kat_cons (tX k4 k5 m4 m5 AC prog w _ _ ?_));by_cases U:g=R
  .rw[decide_eq_true U];rw[if_pos U]at h;exact kat_yes (kat_nil h)
  .rw[decide_eq_false U];rw[if_neg U]at h;exact kat_no (by rw[Bool.false_and];exact ig k4 k5 m4 m5 AC h)
 .rw[decide_eq_false Y];rw[if_neg Y]at h;exact kat_no (by rw[Bool.false_and];exact UX k2 k3 m2 m3 AC h)
def W2(h:Heap)(v:VL):Prop:=∃(a b:AD) (xs:re) (g:LY),v=.ref a/\h.IsTuple a ((.ref b::g).toArray)/\h.IsTuple b xs
def VX{M:Model}:∀(us:LY) {Q:List (Option VL)->SD->Prop},(∀v∈us,W2 s.heap v)->(∀fs:List VL,fs.length=us.length->(∀v∈fs,Looks M s.heap (typeOf v) Gf)->Q (fs.map some) s)->wpAny M A (us.mapM firstOfTuple') Q E s
 |[],Q,_,h=>by
  rw[List.mapM_nil];exact aA (h [] rfl fun _ z=>by cases z)
 |v::us,Q,e,h=>by
  obtain⟨a,b,xs,R,rfl,h1,h2⟩:=e v aX;obtain⟨o,U,Z,n,hd⟩:=id h1;rw[List.mapM_cons];refine Wb ?_;rw[kas_first_eq];refine Wb zGO;rw[Z,if_neg (by first|decide|simp)];refine Wb (listItems_at U hd (aA ?_));refine Wb (VX us (Q:=fun bs s'=>wpAny M A (pure ((.ref b::R).toArray[0]? :: bs)) Q E s') (fun v g=>e v (aU _ g)) fun fs Y T=>aA ?_);have:=h (.ref b::fs) (by simp[Y]) fun v g=>by
   rcases aM.mp g with rfl|g
   .exact M7 h2
   .exact T v g
  simpa using this
def ma{M:Model}{us:yN}{Q:SortKind->SD->Prop}(e:∀v∈us,W2 s.heap v)(h:Q (tuples' false) s):wpAny M A (keyKind' us.toArray) Q E s:=by
 rw[kat_kind_eq,List.mapM_toArray,map_eq_pure_bind];refine Wb (Wb (VX us e fun fs T g=>aA ?_));rw[if_pos At];refine Wb (bH ?_);have R:((fs.map some).toArray.filterMap id)=fs.toArray:=by simp
 rw[R];exact Wb (UD g (fun _=>aA h) (aA h))
def OJ.tt{h:Heap}{x:Tr}{v:VL}:OJ h x v->W2 h v:=fun⟨a,b,l,i1,i2,t,u,e1,T,R,g,Z,Y,U⟩=>⟨a,b,_,[.ref l],T,R,g⟩
def mq{h0:Heap}{r:Nat}{ks:yc}{us:yN}(Y:zEj)(T:∀(i:Nat) (x:Tr) (u:VL),ks[i]? = some x->us[i]? = some u->OJ h0 x u/\x.deep<=r):GS.gp Tr.ord prog w h0 r ks us :=
 ⟨Y,fun κ=>κ=tuples' false,fun A E s Q g h=>ma (fun v U=>by
  obtain⟨i,hi,rfl⟩:=List.getElem_of_mem U;exact((T i _ _ (aH AC) (aH hi)).1.ext g).tt) (h _ rfl),
  fun A s κ g hr R E i j x y u v Q h1 h2 h3 Z q=>by
  subst R;obtain⟨c1,d1⟩:=T i x u h3 h1;obtain⟨c2,d2⟩:=T j y v Z h2;exact nV (c1.ext g) (c2.ext g) AC q⟩
end
end TH
namespace Tr
open PySem PyProof.Rows
def u0(prog:FS)(w:IO)(ks:yc):Prop:=GS.Runs Tr.ord prog w ks
def Yv{prog:FS}{w:IO}{ks:yc}(h:ks.length<64):u0 prog w ks:=GS.dy (O:=Tr.ord) h
end Tr
namespace L2
open PySem PySem.Spec PyProof.Rows
def Cv(B:AD->Prop)(H:Hp)(k:Tr)(v:V):Prop:=∃(a l:AD) (t u:Tr) (g:V) (xs:Jh),k=Tr.pr (t,u)/\v=.ref a/\¬B l/\H a=some (.tup [g,.ref l])/\Tv H t g/\H l=some KT/\Ts H u xs
def Cv.same{B:AD->Prop}{H H':Hp}{k:Tr}{v:V}(e:mo):Cv B H k v->Cv B H' k v:=fun⟨a,l,t,u,g,xs,h1,Z,h0,Y,U,T,R⟩=>⟨a,l,t,u,g,xs,h1,Z,h0,e _ _ Y,U.same e,e _ _ T,R.same e⟩
structure yF(B:Addr->Prop)(H:Hp)(ks:y8)(ys:Jh):Prop where
 len:ys.length=ks.length
 at_:∀(i:Nat) (k:Tr) (v:V),ks[i]? = some k->ys[i]? = some v->Cv B H k v
variable{B:AD->Prop}
section
variable{X:Cx}{pins:DH}{σ:St}{H:Hp}{s:SD}
def Cv.raw(I:By){k:Tr}{v:V}{u:VL}(h:Cv B H k v)(r:RelV v u):TH.OJ s.heap k u:=by
 obtain⟨a,l,t,w,vt,xs,rfl,rfl,_,h1,h2,h3,h4⟩:=h;cases r;obtain⟨its,rv,pl,hz⟩:=I.tuple (BL.of (K:=X.K) h1);obtain⟨i2,U,Z,hz2⟩:=I.list (Ax.of (K:=X.K) h3);obtain⟨T,g,rfl,r1,Y⟩:∃T g,its=T::g/\RelV vt T/\Vals [V.ref l] g:=by
  cases rv with
  |cons r t=>exact⟨_,_,rfl,r,t⟩
 obtain⟨u2,rfl,r2⟩:=Y.one;cases r2;obtain⟨b,R,rfl,hb1,hb2⟩:=h2.at I r1;exact⟨a,b,l,R,i2,t,w,rfl,rfl,pl,hb1,hb2,Z.isList,h4.vs I U⟩
end
abbrev gN(x y:Str)(T R:Pos)(tk:Nat)(g:Pos):Expr:=.Tuple [.Name x T,.Name y R] tk g
def nS{ix g:Nat}(h:ix≠g)(σ:St)(a b c d:Option V):((((σ.set ix a).set g b).set ix c).set g d)=(σ.set ix c).set g d:=by
 rw[List.set_comm _ _ h.symm,List.set_set,List.set_set]
def Wi(K:Fg)(wi:TI)(fr:yg)(ix Y:Nat)(U:TT)(te:TE):TE:=fun σ H Q=>wi σ H fun J H1=>∀D,H1 D=none->∃W:Nat->Nat->List V->Hp->Prop,zGv /\
 ∀i m ys H,W i m ys H->H D=some Ix/\((J.stop i H/\Q ra H)\/(J.go i H/\ys.length<sizeLine/\∀x H',J.GW i H x H'->∃a T R,x=.ref a/\BL K H' a [T,R] /\
  U zFO H' fun b H2=>if b=true then te zFO H2 fun y Z=>Z D=some Ix/\∃g,g<m/\W M2 g am (upd Z D zGa)
   else ∃g,g<m/\W M2 g ys H2))
section
variable{X:Cx}{elt iter:Expr}{x y:Str}{px py tp pos:Pos}{tk:Nat}{ifs:yV}{scope:zAm}{wi:TI}{fr:yg}{ix iy:Nat}{tif:TT}{te:TE}{N:yU}
def Y3{pins:DH}{σ:St}{U:Hp}{s2:SD}{Q:VK}{it:AD}{fp:yd}{tn:wn}{J:It}{cl:zDF}{E:yO}{RR:VL->AD->Result->SD->Prop} (S:zCW)(S2:Fj scope N y iy)(hxy:ix≠iy)(R:dO)(hfr:l5)(hlen:zCe) (hif:zFa)(he:zFc) (I2:Inv X pins σ U s2)(T:Turn X.prog X.w X.K (gN x y px py tk tp) J fp it tn)(st2:tn 0 s2.heap)(f2:∀b∈fp,M9 X pins U b) (c1:zD)(c2:v0) (W:∀D,U D=none->∃W:Nat->Nat->List V->Hp->Prop,(∃m,W 0 m [] (upd U D Q4)) /\∀i m ys H,W i m ys H->H D=some Ix/\((J.stop i H/\Q ra H)\/(J.go i H/\ys.length<sizeLine/\∀x H',J.GW i H x H'->∃a v1 Z,x=.ref a/\BL X.K H' a [v1,Z] /\tif zEw H' fun b U=>if b=true then te zEw U fun y H3=>H3 D=some Ix/\∃m',m'<m/\W M2 m' am (upd H3 D zGa) else ∃m',m'<m/\W M2 m' ys U))) (fin:GE):wpAny Ci X.A (newList []) (fun acc s₃=>wpAny Ci X.A dl (fun Y s₄ => codeAny Ci X.A (.compStart zCk 0 yR acc {Y with scope:=relabel scope X.env}) (RR acc Y.locals) s₄) E s₃) E s2:=by
 have hxv:(relabel scope X.env).names.lookup x=some .local:=lookup_relabel_local S.loc;have hyv:(relabel scope X.env).names.lookup y=some .local:=lookup_relabel_local S2.loc;refine RM (g:=cU X.K 2 (Mf (F0 ix) (Mf (F0 iy) cV))) S R (fun σ'=>∀v w,(σ'.set ix v).set iy w=((carry fr σ).set ix v).set iy w) Da (fun C=>IH (X:=BB X scope cl N C s2 U fp) R (B5 (Az (X:=BB X scope cl N C s2 U fp) S.nd S.at_ (.inl hxv) (.inr hxv)) (B5 (Az (X:=BB X scope cl N C s2 U fp) S2.nd S2.at_ (.inl hyv) (.inr hyv)) G9))) hfr hlen hif he I2 T st2 f2 c1 c2 (fun D hD=>?_) fin;obtain⟨W,w0,st⟩:=W D hD;refine⟨W,w0,fun i m ys H w=>?_⟩;obtain⟨h1,h2|⟨h2,h3,h4⟩⟩:=st i m ys H w
 .exact⟨h1,.inl h2⟩
 .refine⟨h1,.inr ⟨h2,h3,fun x H' hy σ' hr=>?_⟩⟩;obtain⟨a,v1,Z,rfl,hs,q⟩:=h4 x H' hy;rw[<-hr]at q;exact⟨a,[v1,Z],rfl,hs,rfl,v1,[Z],rfl,Z,[],rfl,rfl,fun v w=>by rw[nS hxy,hr],q⟩
def j5(S:zCW)(S2:Fj scope N y iy)(hxy:ix≠iy)(Y:dO)(hfr:l5)(Z:zCe)(R:yr) (hi:PI X (gN x y px py tk tp) iter wi)(hif:zFa)(he:zFc) (hs:∀x,foldedSetIterable iter X.env x=pure x:=by intro _;rfl):PE X zCk (Wi X.K wi fr ix iy tif te):=by
 intro pins s σ H Q I hw;obtain⟨cl,U,c1,_,c2⟩:=JM (env:=X.env) scope.names [] (fun y hy hf=>I.ok.has y.1 (R y hy hf)) (fun y c z=>by cases z);have g:closureFor scope X.env=pure cl:=by
  have e:closureFor scope X.env=OF:=rfl;rw[e,U]
  rfl
 rw[eval_ListComp];refine wpAny_comprehension_free (use:=none) rfl hs g S.kind S.names zCX;obtain⟨it,fp,tn,J,H2,e,I2,T,st2,f2,W⟩:=h2;subst e;refine Y3 (RR:=fun acc C=>compPost Ci X.A X.xe none T0 acc C) S S2 hxy Y hfr Z hif he I2 T st2 f2 c1 c2 W ?_;intro D C s' H' m hn q hI _ _ _ _;exact⟨m,hn,fun h' hs'=>⟨.ref D,H',hI h' hs',rfl,q⟩⟩
end
section
variable{X:Cx}{elt iter:Expr}{x y:Str}{px py tp pos:Pos}{tk:Nat}{ifs:yV}{scope:zAm}{wi:TI}{tif:TT}{te:TE}
def Pz(N:yU)(ix g:Nat)(fr:yg)(hi:PI X (gN x y px py tk tp) iter wi)(T:zFa)(Z:zFc) (h1:C6 scope N x ix=true:=by decide +kernel)(U:C6 scope N y g=true:=by decide +kernel)(R:ix≠g:=by decide)(h2:X.calm=true:=by rfl)(h3:HE N X.N scope X.env.scope fr 0=true:=by rfl)(h4:fr.length=N.length:=by rfl)(h5:freeOk X.env.scope scope.names=true:=by rfl) (Y:∀x,foldedSetIterable iter X.env x=pure x:=by intro _;rfl):PE X zAn (Wi X.K wi fr ix g tif te) :=
 j5 (JN h1) (JN U) R h2 h3 h4 (QL h5) hi T Z Y
end
def Rj{K:Fg}{J:It}{n:Nat}{D:AD}{H1:Hp}{fr:yg}{σ:St}{ix iy:Nat}{Y:TT}{te:TE}{G:Hp->Prop}(Pv:zBO)(h0:Pv 0 [] (upd H1 D Q4)) (hgo:∀i ys H,i<n->Pv i ys H->H D=some Ix->J.go i H/\ys.length<sizeLine/\∀x H',J.GW i H x H'->∃a T R,x=.ref a/\BL K H' a [T,R] /\Y im H' fun b H2=>if b=true then te im H2 fun y Z=>Z D=some Ix/\∃g,g<n-i/\CW Pv n D M2 g am (upd Z D zGa) else ∃g,g<n-i/\CW Pv n D M2 g ys H2) (U:∀ys H,Pv n ys H->H D=some Ix->J.stop n H/\G H):∃W:Nat->Nat->List V->Hp->Prop,zGv /\∀i m ys H,W i m ys H->H D=some Ix/\((J.stop i H/\G H)\/(J.go i H/\ys.length<sizeLine/\∀x H',J.GW i H x H'->∃a T R,x=.ref a/\BL K H' a [T,R] /\Y im H' fun b H2=>if b=true then te im H2 fun y Z=>Z D=some Ix/\∃g,g<m/\W M2 g am (upd Z D zGa) else ∃g,g<m/\W M2 g ys H2)):=by
 refine⟨CW Pv n D,⟨n,by simp,Nat.zero_le _,AO,h0⟩,?_⟩;rintro i m ys H ⟨rfl,hi,hH,p⟩;refine⟨hH,?_⟩;by_cases hlt:i<n
 .exact .inr (hgo i ys H hlt p hH)
 .have:i=n:=by lia
  subst this;exact .inl (U ys H p hH)
end L2
namespace ZT
open PySem PyProof.Rows
structure Apart(z TI TO i1 i2:Addr)(f1 f2:List Addr):Prop where
 a1:TI≠z/\TI≠TO/\TI≠i1/\TI≠i2
 a2:TO≠z/\TO≠i1/\TO≠i2
 a3:i1≠z/\i2≠z/\i1≠i2
 b1:z ∉ f1/\TO ∉ f1/\i2 ∉ f1
 b2:z ∉ f2/\TO ∉ f2/\i1 ∉ f2
section
variable{prog:FS}{w:IO}{A:Ki}{E:yO}{s:SD}{z TI TO i1 i2:AD}{f1 f2:yd}{n1 n2 k:Nat}{P1 P2:Nat->VL->Prop}{S1 S2:wn}{a b:VL}
def Am{f:yd}{x:AD}{h h':Heap}(g:x ∉ f)(e:Heap.SameBut x h h'):∀c∈f,∀o,h.get? c=some o->h'.get? c=some o:=fun c R o q=>(e.2 c fun y=>g (y ▸ R)).trans q
def item{Q:yO}(D1:ms)(D2:mu)(ap:XV)(hz:ST)(hI:KB)(hO:zEM) (t1:wp)(t2:wv)(l1:k<n1)(l2:k<n2) (q:∀x y h' tk,P1 k x->P2 k y->IsZip h' z TI TO zBr->IsPair h' TO x y->S1 RJ h'->S2 RJ h'->IsPair h' s.heap.objs.size x y->h'.objs.size=s.heap.objs.size+1 ->(∀c o,c≠z->c≠TO->c≠i1->c≠i2->s.heap.get? c=some o->h'.get? c=some o)->Q EK Fr):wpAny AS A Pi zAI E s:=by
 obtain⟨⟨c1,c2,c3,c4⟩,⟨c5,c6,c7⟩,⟨c8,c9,c10⟩,⟨d1,d2,d3⟩,d4,d5,d6⟩:=ap;show wpAny _ _ zGc _ _ _;refine Wb zM;show wpAny _ _ zGd _ _ _;refine Wb lc;show wpAny _ _ Nk _ _ _;unfold Builtin.SmallTypes.ownedTupleIsFree;refine Wb zGD;simp only[if_true];refine Wb (bH (Wb (ag hz rfl (x:=.ref TO) rfl (Wb (au hz At fun g1 z1 Z=>Wb ?_)))));have Z:Heap.SameBut z s.heap g1:=Z;have z1:IsZip g1 z TI TO .ellipsis:=z1;simp only[List.zipIdx_cons,List.zipIdx_nil,List.forIn_cons,List.forIn_nil];refine Wb zJ;show wpAny _ _ Re _ _ _;refine Wb (D1.item k _ _ _ l1 (D1.frame _ _ _ t1 (Am d1 Z)) fun x g2 tk2 p1 u1 Y=>aA ?_);have o2:IsPair g2 TO a b:=(Y.2 _ c6).trans ((Z.2 _ c5).trans hO);refine Wb (af o2 rfl (Wb (wpAny_updateSeq_pair o2 fun g3 o3 U=>Wb zGT)));have o3:IsPair g3 TO x b:=o3;have t2':S2 k g3:=D2.frame _ _ _ (D2.frame _ _ _ (D2.frame _ _ _ t2 (Am d4 Z)) (Am d6 Y)) (Am d5 U);refine Wb zJ;show wpAny _ _ OR _ _ _;refine Wb (D2.item k _ _ _ l2 t2' fun y g4 tk4 p2 u2 T=>aA ?_);have U:Heap.SameBut TO g2 g3:=U;have T:Heap.SameBut i2 g3 g4:=T;have o4:IsPair g4 TO x b:=(T.2 _ c7).trans o3;refine Wb (af o4 rfl (Wb (wpAny_updateSeq_pair o4 fun g o5 R=>Wb (wpAny_letGo (aA Oz)))));have R:Heap.SameBut TO g4 g:=R;have o5:IsPair g TO x y:=o5;refine Wb (af o5 rfl (Wb (wpAny_newTuple ?_)));have Y:Heap.SameBut i1 g1 g2:=Y;have sz:g.objs.size=s.heap.objs.size:=by rw[R.1,T.1,U.1,Y.1,Z.1]
 have z5:IsZip g z TI TO .ellipsis:=(R.2 _ c5.symm).trans ((T.2 _ c9.symm).trans ((U.2 _ c5.symm).trans ((Y.2 _ c8.symm).trans z1)));have kp:∀c o,c≠z->c≠TO->c≠i1->c≠i2->s.heap.get? c=some o->g.get? c=some o:=fun c o e1 e2 e3 e4 e=>(R.2 _ e2).trans ((T.2 _ e4).trans ((U.2 _ e2).trans ((Y.2 _ e3).trans ((Z.2 _ e1).trans e))));have v1:S1 RJ g:=D1.frame _ _ _ (D1.frame _ _ _ (D1.frame _ _ _ u1 (Am d2 U)) (Am d3 T)) (Am d2 R);have v2:S2 RJ g:=D2.frame _ _ _ u2 (Am d5 R);show wpAny _ _ zHH _ _ _;unfold Builtin.SmallTypes.ownedTupleHandOut;have z6:IsZip (g.push { cls:=.type "tuple",data:=.seq #[x,y]}) z TI TO .ellipsis:=aE _ z5;refine Wb (Wb (au z6 At fun g7 z7 m7=>au (show IsZip g7 z TI TO zDu from z7) At fun g8 z8 m8=>?_));have z8:IsZip g8 z TI TO zDu:=z8;have up:∀c o,c≠z->(g.push { cls:=.type "tuple",data:=.seq #[x,y]}).get? c=some o->g8.get? c=some o:=fun c o e1 e=>(m8.2 _ e1).trans ((m7.2 _ e1).trans e);have zl:z<g.objs.size:=aF z5;refine aA ⟨_,rfl,?_⟩;show Q zCN _;have fin:=q x y g8 tk4 p1 p2 (by rw[<-sz];exact z8) (up _ _ c5 (aE _ o5)) zBh zBi
  (by rw[<-sz];exact up _ _ (aj zl) (aN _ rfl)) (by rw[<-sz,m8.1,m7.1,Heap.size_push]) fun c o e1 e2 e3 e4 e=>up c o e1 (aE _ (kp c o e1 e2 e3 e4 e))
 rw[sz];exact fin
def ended{Q:Fin->SD->Prop}(D1:ms)(D2:mu)(ap:XV)(hz:ST)(hI:KB)(hO:zEM) (t1:wp)(t2:wv)(he:zFP) (q:∀h' e tk,cr->(∃o,h'.get? e=some o/\o.cls=.type "StopIteration")->E (.ref e) Fr):wpAny AS A Pi Q E s:=by
 obtain⟨⟨c1,c2,c3,c4⟩,⟨c5,c6,c7⟩,⟨c8,c9,c10⟩,⟨d1,d2,d3⟩,d4,d5,d6⟩:=ap;show wpAny _ _ zGc _ _ _;refine Wb zM;show wpAny _ _ zGd _ _ _;refine Wb lc;show wpAny _ _ Nk _ _ _;unfold Builtin.SmallTypes.ownedTupleIsFree;refine Wb zGD;simp only[if_true];refine Wb (bH (Wb (ag hz rfl (x:=.ref TO) rfl (Wb (au hz At fun g1 z1 Y=>Wb ?_)))));have Y:Heap.SameBut z s.heap g1:=Y;have z1:IsZip g1 z TI TO .ellipsis:=z1;simp only[List.zipIdx_cons,List.zipIdx_nil,List.forIn_cons,List.forIn_nil];refine Wb zJ;show wpAny _ _ Re _ _ _;have U:=D1.frame _ _ _ t1 (Am d1 Y);rcases he with he|⟨he1,he2⟩
 .rw[he]at U;refine Wb (D1.done _ _ _ U fun g2 e R g=>?_);obtain⟨o,g,hc⟩:=g;have z2:IsZip g2 z TI TO .ellipsis:=R _ _ c8.symm z1;have ez:e≠z:=fun y=>by subst y;rw[z2]at g;cases g;simp at hc
  exact au z2 At fun g3 _ T=>q g3 e _ (fun c o e1 e2 e3 e4 y=>(T.2 _ e1).trans (R _ _ e3 ((Y.2 _ e1).trans y))) ⟨o,(T.2 _ ez).trans g,hc⟩
 .refine Wb (D1.item k _ _ _ he1 U fun x g2 tk2 p1 u1 R=>aA ?_);have o2:IsPair g2 TO a b:=(R.2 _ c6).trans ((Y.2 _ c5).trans hO);refine Wb (af o2 rfl (Wb (wpAny_updateSeq_pair o2 fun g3 o3 T=>Wb zGT)));have Z:S2 k g3:=D2.frame _ _ _ (D2.frame _ _ _ (D2.frame _ _ _ t2 (Am d4 Y)) (Am d6 R)) (Am d5 T);rw[he2]at Z;have R:Heap.SameBut i1 g1 g2:=R;have T:Heap.SameBut TO g2 g3:=T;refine Wb zJ;show wpAny _ _ OR _ _ _;refine Wb (D2.done _ _ _ Z fun g4 e m4 g=>?_);obtain⟨o,g,hc⟩:=g;have z4:IsZip g4 z TI TO .ellipsis:=m4 _ _ c9.symm ((T.2 _ c5.symm).trans ((R.2 _ c8.symm).trans z1));have ez:e≠z:=fun y=>by subst y;rw[z4]at g;cases g;simp at hc
  exact au z4 At fun g5 _ m5=>q g5 e _ (fun c o e1 e2 e3 e4 y=>(m5.2 _ e1).trans (m4 _ _ e4 ((T.2 _ e2).trans ((R.2 _ e3).trans ((Y.2 _ e1).trans y))))) ⟨o,(m5.2 _ ez).trans g,hc⟩
def next_item{Q:RC}(D1:Sv)(D2:Sz)(ap:XV)(hz:ST)(hI:KB)(hO:zEM) (t1:wp)(R:wv)(l1:k<n1)(l2:k<n2) (q:∀x y h' tk,P1 k x->P2 k y->IsZip h' z TI TO zBr->IsPair h' TO x y->S1 RJ h'->S2 RJ h'->IsPair h' s.heap.objs.size x y->h'.objs.size=s.heap.objs.size+1 ->(∀c o,c≠z->c≠TO->c≠i1->c≠i2->s.heap.get? c=some o->h'.get? c=some o)->Q (some EK) Fr):wpAny AS A zGp Q E s:=by
 have g:s.TypeIs ON "zip" := ⟨_,hz,rfl⟩;unfold pyNext;exact Wb (wpAny_attempt (ak (name:=Str.ofString "__next__") g bI
  (ae bI g F.entry_zip_next (item D1 D2 ap hz hI hO t1 R l1 l2 fun x y h' tk r1 r2 r3 r4 r5 Z Y U T=>aA (q x y h' tk r1 r2 r3 r4 r5 Z Y U T)) zW)))
def next_end{Q:RC}(D1:Sv)(D2:Sz)(ap:XV)(hz:ST)(hI:KB)(hO:zEM) (t1:wp)(U:wv)(Y:zFP) (q:∀h' tk,cr->Q none Fr):wpAny AS A zGp Q E s:=by
 have R:s.TypeIs ON "zip" := ⟨_,hz,rfl⟩;unfold pyNext;refine Wb (wpAny_attempt (ak (name:=Str.ofString "__next__") R bI
  (ae bI R F.entry_zip_next (ended D1 D2 ap hz hI hO t1 U Y fun h' e tk kp g=>?_) zW)))
 obtain⟨o,g,Z⟩:=g;exact Wb zf
end
end ZT
namespace ZT
open PySem PyProof.Rows
def Sq(b:Bool)(h:Heap)(l:AD)(xs:yN):Prop:=if b then h.IsTuple l xs.toArray else h.IsList l xs.toArray
def BQ(b:Bool)(l:AD):Obj:=if b then { cls:=.type "tuple_iterator",data:=.fields #[.ref l,.int 0 0]} else { cls:=.type "list_iterator",data:=.fields #[.ref l,.int 0 0]}
def JR(b:Bool)(h:Heap)(it l:AD)(k:Nat):Prop:=if b then h.IsTupleIter it l k else h.IsListIter it l k
def Sq.push{b:Bool}{h:Heap}{l:AD}{xs:yN}(o:Obj)(x:Sq b h l xs):Sq b (h.push o) l xs:=by
 cases b with
 |true=>obtain⟨u,e,r⟩:=(show h.IsTuple l xs.toArray from x);exact(show(h.push o).IsTuple l xs.toArray from⟨u,Heap.get?_push_of_some _ e,r⟩)
 |false=>obtain⟨u,e,r⟩:=(show h.IsList l xs.toArray from x);exact(show(h.push o).IsList l xs.toArray from⟨u,Heap.get?_push_of_some _ e,r⟩)
def Sq.keep{b:Bool}{h h':Heap}{l:AD}{xs:yN}(x:Sq b h l xs)(k:∀o,h.get? l=some o->h'.get? l=some o):Sq b h' l xs:=by
 cases b with
 |true=>obtain⟨u,e,r⟩:=(show h.IsTuple l xs.toArray from x);exact(show h'.IsTuple l xs.toArray from⟨u,k _ e,r⟩)
 |false=>obtain⟨u,e,r⟩:=(show h.IsList l xs.toArray from x);exact(show h'.IsList l xs.toArray from⟨u,k _ e,r⟩)
def Sq.lt{b:Bool}{h:Heap}{l:AD}{xs:yN}(x:Sq b h l xs):l<h.objs.size:=by
 cases b with
 |true=>obtain⟨u,e,r⟩:=(show h.IsTuple l xs.toArray from x);exact aF e
 |false=>obtain⟨u,e,r⟩:=(show h.IsList l xs.toArray from x);exact aF e
section
variable{prog:FS}{w:IO}{A:Ki}{E:yO}{s:SD}
def NT{b:Bool}{l:AD}{xs:yN}{Q:yO}(x:Sq b s.heap l xs)(h:Q EK {s with heap:=s.heap.push (BQ b l)}):wpAny AS A (pyIter SY) Q E s:=by
 cases b with
 |true=>exact wpAny_pyIter_tuple x h
 |false=>exact wpAny_pyIter_list x h
def EY(R:oF)(b:Bool)(it l:AD)(xs:yN)(g:l≠it):Draws prog w A it [it,l] xs.length (fun i v=>xs[i]? = some v) (fun i h=>JR b h it l i/\Sq b h l xs):=by
 cases b with
 |true=>exact ET.draws R it l xs g
 |false=>
  have:=Draws.list (prog:=prog) (w:=w) R it l g xs.toArray
  simpa[JR,Sq]using this
def zh(b1 b2:Bool)(h:Heap)(g R:AD):Heap :=
 ((((h.push (BQ b1 g)).push zAw).push { cls:=.type "tuple",data:=.seq #[.ref h.objs.size,.ref (h.push (BQ b1 g)).objs.size]}).push { cls:=.type "tuple",data:=.seq #[.none,.none]}).push
  { cls:=.type "zip",data:=.fields #[.none,.bool false,.bool false,.ref ((h.push (BQ b1 g)).push zAw).objs.size,.ref (((h.push (BQ b1 g)).push zAw).push { cls:=.type "tuple",data:=.seq #[.ref h.objs.size,.ref (h.push (BQ b1 g)).objs.size]}).objs.size]}
def nQ(b1 b2:Bool)(T Y:AD)(xs ys:yN):Meets (Builtin.«zip.__new__» ⟨[.type "zip",.ref T,.ref Y],[]⟩) (fun _ R s=>Sq b1 s.heap T xs/\Sq b2 s.heap Y ys /\R (.ok (.ret (.ref ((((s.heap.push bn).push zDX).push { cls:=.type "tuple",data:=.seq #[.ref s.heap.objs.size,.ref (s.heap.push bn).objs.size]}).push { cls:=.type "tuple",data:=.seq #[.none,.none]}).objs.size)) ) {s with heap:=zh b1 b2 s.heap T Y}) :=
 .of_wp fun prog w A R s h=>by
  obtain⟨U,g,d,tk,os⟩:=s;obtain⟨h1,h2,h⟩:=h;have Z:=sub_zip;have i1:∀(A:Ki) (E:ZB) (Q:ZB),Q (.ref U.objs.size) ⟨U.push bn,g,d,tk,os⟩->wpAny AS A (pyIter (.ref T)) Q E ⟨U,g,d,tk,os⟩:=fun A E Q q=>NT (s:=⟨U,g,d,tk,os⟩) h1 q;have i2:∀(A:Ki) (E:ZB) (Q:ZB),Q (.ref (U.push bn).objs.size) ⟨(U.push bn).push zDX,g,d,tk,os⟩->wpAny AS A (pyIter (.ref Y)) Q E ⟨U.push bn,g,d,tk,os⟩:=fun A E Q q=>NT (s:=⟨U.push bn,g,d,tk,os⟩) (h2.push _) q
  wp_walk using i1,i2
  exact⟨_,rfl,h⟩
def Xk{b1 b2:Bool}{T R:AD}{xs ys:yN}{Q:yO}(h1:Sq b1 s.heap T xs)(h2:Sq b2 s.heap R ys) (h:∀h',IsZip h' WP Of On .none->IsPair h' Of EK zGg->IsPair h' On .none .none ->JR b1 h' s.heap.objs.size T 0->JR b2 h' Fk R 0->(∀c o,s.heap.get? c=some o->h'.get? c=some o)->Q (.ref WP) M0):wpAny AS A (call (.type "zip") [.ref T,.ref R]) Q E s:=by
 refine callType_new F.called_zip AT (F.typeCall_zip_2 _ _) (F.newCall_zip_2 _ _) (fun obj=>F.args_object_init_3 obj _ _) F.entry_zip_new (nQ b1 b2 T R xs ys) ⟨h1,h2,?_⟩;have Z:(s.heap.push bn).objs.size=s.heap.objs.size+1:=Heap.size_push ..;have up:∀(g:Heap) (o:Obj) (c:AD) (u:Obj),g.get? c=some u->(g.push o).get? c=some u:=fun g o c u e=>aE _ e;have a0:(s.heap.push bn).get? s.heap.objs.size=some bn:=aN _ (by cases b1<;>rfl);generalize hg1:s.heap.push bn=g1 at Z a0;have k1:∀c o,s.heap.get? c=some o->g1.get? c=some o:=fun c o e=>by rw[<-hg1];exact up _ _ _ _ e
 have n2:(g1.push zAw).objs.size=s.heap.objs.size+2:=by rw[Heap.size_push,Z]
 have a1:(g1.push zAw).get? Fk=some zAw:=by rw[<-Z];exact aN _ (by cases b2<;>rfl)
 generalize hg2:g1.push zAw=g2 at n2 a1;have k2:∀c o,g1.get? c=some o->g2.get? c=some o:=fun c o e=>by rw[<-hg2];exact up _ _ _ _ e
 have n3:(g2.push { cls:=.type "tuple",data:=.seq #[.ref s.heap.objs.size,.ref Fk]}).objs.size=s.heap.objs.size+3:=by rw[Heap.size_push,n2]
 have a2:IsPair (g2.push { cls:=.type "tuple",data:=.seq #[.ref s.heap.objs.size,.ref Fk]}) Of EK zGg:=by rw[<-n2];exact aN _ rfl
 generalize Y:g2.push { cls:=.type "tuple",data:=.seq #[.ref s.heap.objs.size,.ref Fk]}=g3 at n3 a2;have k3:∀c o,g2.get? c=some o->g3.get? c=some o:=fun c o e=>by rw[<-Y];exact up _ _ _ _ e
 have n4:(g3.push { cls:=.type "tuple",data:=.seq #[.none,.none]}).objs.size=s.heap.objs.size+4:=by rw[Heap.size_push,n3]
 have a3:IsPair (g3.push { cls:=.type "tuple",data:=.seq #[.none,.none]}) On .none .none:=by rw[<-n3];exact aN _ rfl
 generalize U:g3.push { cls:=.type "tuple",data:=.seq #[.none,.none]}=g4 at n4 a3;have k4:∀c o,g3.get? c=some o->g4.get? c=some o:=fun c o e=>by rw[<-U];exact up _ _ _ _ e
 have ez:zh b1 b2 s.heap T R=g4.push { cls:=.type "zip",data:=.fields #[.none,.bool false,.bool false,.ref Of,.ref On]}:=by
  unfold zh;rw[hg1,hg2,Z,Y,U,n2,n3]
 have a4:IsZip (g4.push { cls:=.type "zip",data:=.fields #[.none,.bool false,.bool false,.ref Of,.ref On]}) WP Of On .none:=by rw[<-n4];exact aN _ rfl
 rw[Z,Y,U,n4,ez];show _/\_;have k5:∀c o,g4.get? c=some o->(g4.push { cls:=.type "zip",data:=.fields #[.none,.bool false,.bool false,.ref Of,.ref On]}).get? c=some o:=fun c o e=>up _ _ _ _ e;refine⟨⟨_,a4,rfl⟩,h _ a4 (k5 _ _ (k4 _ _ a2)) (k5 _ _ a3) ?_ ?_ fun c o e=>k5 _ _ (k4 _ _ (k3 _ _ (k2 _ _ (k1 _ _ e))))⟩
 .have:=k5 _ _ (k4 _ _ (k3 _ _ (k2 _ _ a0)));cases b1 with
  |true=>exact⟨_,this,rfl,rfl⟩
  |false=>exact⟨_,this,rfl,rfl⟩
 .have:=k5 _ _ (k4 _ _ (k3 _ _ a1));cases b2 with
  |true=>exact⟨_,this,rfl,rfl⟩
  |false=>exact⟨_,this,rfl,rfl⟩
end
end ZT
namespace L2
open PySem PySem.Spec PyProof.Rows
def Ca(b:Bool)(H:Hp)(a:AD)(xs:yb):Prop:=if b then H a=some LE else H a=some KT
def Ca.inj{b:Bool}{H:Hp}{a:AD}{xs ys:yb}(h:Ca b H a xs)(k:Ca b H a ys):xs=ys:=by
 cases b with
 |true=>have h:H a=some LE:=h;have k:H a=some zCV:=k;rw[h]at k;cases k;rfl
 |false=>have h:H a=some KT:=h;have k:H a=some Ix:=k;rw[h]at k;cases k;rfl
def Ca.none{b:Bool}{H:Hp}{a c:AD}{xs:yb}(h:Ca b H a xs)(k:H c=none):a≠c:=fun z=>by
 subst z;cases b with
 |true=>have h:H a=some LE:=h;rw[k]at h;cases h
 |false=>have h:H a=some KT:=h;rw[k]at h;cases h
def Ca.raw{X:Cx}{pins:DH}{σ:St}{H:Hp}{s:SD}(I:By){b:Bool}{a:AD}{xs:yb}(h:Ca b H a xs):∃g,Vals xs g/\ZT.Sq b s.heap a g:=by
 cases b with
 |true=>
  obtain⟨g,R,p,_⟩:=I.tuple (BL.of (K:=X.K) (show H a=some LE from h));exact⟨g,R,p⟩
 |false=>
  obtain⟨g,R,p,_⟩:=I.list (Ax.of (K:=X.K) (show H a=some KT from h));exact⟨g,R,p.isList⟩
def qy(b1 b2:Bool)(a1 a2:AD):It :=
 ⟨fun i H=>∃xs x ys y,Ca b1 H a1 xs/\Ca b2 H a2 ys/\xs[i]? = some x/\ys[i]? = some y,
  fun i H v H'=>∃p x y,v=.ref p/\H p=none/\H'=upd H p (.tup [x,y])/\(∀xs,Ca b1 H a1 xs->xs[i]? = some x)/\∀ys,Ca b2 H a2 ys->ys[i]? = some y,
  fun i H=>∃xs ys,Ca b1 H a1 xs/\Ca b2 H a2 ys/\(i=xs.length\/(i<xs.length/\i=ys.length))⟩
def xm(b1 b2:Bool)(a1 a2 z TI TO i1 i2:AD):Nat->Heap->Prop:=fun i h=>IsZip h z TI TO .none/\IsPair h TI (.ref i1) (.ref i2)/\(∃a b,IsPair h TO a b)/\ZT.JR b1 h i1 a1 i/\ZT.JR b2 h i2 a2 i
def Gz{b:Bool}{h:Heap}{it l:AD}{k:Nat}(x:ZT.JR b h it l k):∃o,h.get? it=some o/\∀v,o.data≠.cell v:=by
 cases b with
 |true=>obtain⟨o,e,_,d⟩:=(show h.IsTupleIter it l k from x);exact⟨o,e,fun v z=>by rw[d]at z;cases z⟩
 |false=>obtain⟨o,e,_,d⟩:=(show h.IsListIter it l k from x);exact⟨o,e,fun v z=>by rw[d]at z;cases z⟩
def Fv{b:Bool}{h h':Heap}{it l:AD}{k:Nat}(x:ZT.JR b h it l k)(e:∀o,h.get? it=some o->h'.get? it=some o):ZT.JR b h' it l k:=by
 cases b with
 |true=>obtain⟨o,q,r⟩:=(show h.IsTupleIter it l k from x);exact(show h'.IsTupleIter it l k from⟨o,e _ q,r⟩)
 |false=>obtain⟨o,q,r⟩:=(show h.IsListIter it l k from x);exact(show h'.IsListIter it l k from⟨o,e _ q,r⟩)
def kA{P:FS}{w:IO}{K:Fg}{elts:yV}{x1}{pos:Pos}{b1 b2:Bool}{a1 a2 z TI TO i1 i2:AD}(ne:[z,TI,TO,i1,i2].Nodup) :
  Turn P w K zDs (qy b1 b2 a1 a2) [z,TI,TO,i1,i2] z (xm b1 b2 a1 a2 z TI TO i1 i2) where
 mem:=by simp
 obj:=fun i h st b hb=>by
  obtain⟨h1,h2,⟨u,v,h3⟩,h4,h5⟩:=st;have hb:b=z\/b=TI\/b=TO\/b=i1\/b=i2:=by simpa using hb
  rcases hb with rfl|rfl|rfl|rfl|rfl
  .exact⟨_,h1,fun v y=>by cases y⟩
  .exact⟨_,h2,fun v y=>by cases y⟩
  .exact⟨_,h3,fun v y=>by cases y⟩
  .exact Gz h4
  .exact Gz h5
 keep:=fun i h h' st k=>by
  obtain⟨h1,h2,⟨u,v,h3⟩,h4,h5⟩:=st;exact⟨k z At _ h1,k TI At _ h2,⟨u,v,k TO At _ h3⟩,Fv h4 fun o e=>k i1 At o e,Fv h5 fun o e=>k i2 At o e⟩
 item:=by
  intro X hP hw hK hc i pins s σ H E I hf st hg;subst hP hw hK;obtain⟨xs,x,ys,y,q1,q2,hx,hy⟩:=hg;obtain⟨us,rv1,p1⟩:=q1.raw I;obtain⟨vs,rv2,p2⟩:=q2.raw I;obtain⟨u,hu,ru⟩:=rv1.get hx;obtain⟨v,hv,rv⟩:=rv2.get hy;obtain⟨t1,t2,⟨ta,tb,t3⟩,t4,t5⟩:=st;have e1:∀b∈[z,TI,TO,i1,i2],a1≠b:=fun b hb=>q1.none (hf b hb).1;have e2:∀b∈[z,TI,TO,i1,i2],a2≠b:=fun b hb=>q2.none (hf b hb).1;simp only[List.nodup_cons,List.mem_cons,List.not_mem_nil,or_false,not_or]at ne;obtain⟨⟨n1,n2,n3,n4⟩,⟨n5,n6,n7⟩,⟨n8,n9⟩,n10,_⟩:=ne;have ap:ZT.Apart z TI TO i1 i2 [i1,a1] [i2,a2]:=⟨⟨Ne.symm n1,n5,n6,n7⟩,⟨Ne.symm n2,n8,n9⟩,⟨Ne.symm n3,Ne.symm n4,n10⟩,
   ⟨by simp[n3,Ne.symm (e1 z At)],by simp[n8,Ne.symm (e1 TO At)],by simp[Ne.symm n10,Ne.symm (e1 i2 At)]⟩,⟨by simp[n4,Ne.symm (e2 z At)],by simp[n9,Ne.symm (e2 TO At)],by simp[n10,Ne.symm (e2 i1 At)]⟩⟩
  refine ZT.next_item zFd zFe ap t1 t2 t3 ⟨t4,p1⟩ ⟨t5,p2⟩ (aD.mp hu).1 (aD.mp hv).1
   fun u' v' h' tk r1 r2 r3 r4 r5 r6 r7 r8 r9=>⟨_,rfl,wpAny_letOwnedTupleGo_zip (s:={s with heap:=h',toks:=tk}) r3 fun h'' z'' sb=>?_⟩
  rw[hu]at r1;rw[hv]at r2;cases r1;cases r2;have keep:∀b o,b ∉ [z,TI,TO,i1,i2]->s.heap.get? b=some o->h''.get? b=some o:=fun b o hb q=>by
   simp only[List.mem_cons,List.not_mem_nil,or_false,not_or]at hb;exact(sb.2 b hb.1).trans (r9 b o hb.1 hb.2.2.1 hb.2.2.2.1 hb.2.2.2.2 q)
  have lt:∀b∈[z,TI,TO,i1,i2],b<s.heap.objs.size:=fun b hb=>by
   have hb:b=z\/b=TI\/b=TO\/b=i1\/b=i2:=by simpa using hb
   rcases hb with rfl|rfl|rfl|rfl|rfl
   .exact aF t1
   .exact aF t2
   .exact aF t3
   .obtain⟨o,e,_⟩:=Gz t4;exact aF e
   .obtain⟨o,e,_⟩:=Gz t5;exact aF e
  have hTn:H s.heap.objs.size=none:=I.A5.fresh RW;have hT'':h''.get? s.heap.objs.size=some { cls:=.type "tuple",data:=.seq #[u,v]}:=(sb.2 _ (aj (lt z At))).trans r7;have neT:∀b o,s.heap.get? b=some o->b≠s.heap.objs.size:=fun b o q=>aG (aF q);have GX:∀b o,H b=some o->b ∉ [z,TI,TO,i1,i2]:=fun b o q hb=>by rw[(hf b hb).1]at q;cases q
  refine⟨.ref s.heap.objs.size,upd H s.heap.objs.size (.tup [x,y]),?_,rfl,⟨_,x,y,rfl,hTn,rfl,fun zs hz=>by rw[hz.inj q1];exact hx,fun zs hz=>by rw[hz.inj q2];exact hy⟩,⟨z'',?_,⟨u,v,?_⟩,?_,?_⟩,fun b hb=>?_⟩
  .show Inv X pins σ _ zET;refine I.step (h':=h'') (g':=s.gens) (d':=s.drawn) (t':=tk) (ch:=[z,TI,TO,i1,i2]) zCs zN io
    (fun b o _ q n=>by rw[AL (neT b o q)];exact n) yu wE s0
    (fun b ps q=>⟨#[],by rw[AL (Aa q hTn),q];simp⟩) zc zAL zCI I.bare
   .obtain⟨_,f1,_,f3,f4,f5⟩:=hf b hb;exact⟨f3,f1,f4,f5⟩
   .obtain⟨o,es,ep,ho,r⟩:=hm;exact⟨o,es,ep,keep _ o zBI ho,r⟩
   .by_cases hb:b=s.heap.objs.size
    .subst hb;rw[AO]at q;cases q;exact⟨Q6,[u,v],.cons ru (.cons rv .nil),_,hT'',rfl,_,rfl⟩
    .rw[AL hb]at q;refine(I.A5 b o q).Jy zAc yh fun c ys r=>by rw[AL (Aa r hTn)];exact r
     rcases hc with rfl|hc
     .exact GX _ _ q
     .exact GX _ _ hc
  .exact(sb.2 _ (Ne.symm n1)).trans (r9 _ _ (Ne.symm n1) n5 n6 n7 t2)
  .exact(sb.2 _ (Ne.symm n2)).trans r4
  .exact Fv r5.1 fun o e=>(sb.2 _ (Ne.symm n3)).trans e
  .exact Fv r6.1 fun o e=>(sb.2 _ (Ne.symm n4)).trans e
  .rw[AL (aG (lt b hb))];exact(hf b hb).1
 done:=by
  intro X hP hw hK hc i pins s σ H E I hf st hg;subst hP hw hK;obtain⟨xs,ys,q1,q2,he⟩:=hg;obtain⟨us,rv1,p1⟩:=q1.raw I;obtain⟨vs,rv2,p2⟩:=q2.raw I;obtain⟨t1,t2,⟨ta,tb,t3⟩,t4,t5⟩:=st;have e1:∀b∈[z,TI,TO,i1,i2],a1≠b:=fun b hb=>q1.none (hf b hb).1;have e2:∀b∈[z,TI,TO,i1,i2],a2≠b:=fun b hb=>q2.none (hf b hb).1;simp only[List.nodup_cons,List.mem_cons,List.not_mem_nil,or_false,not_or]at ne;obtain⟨⟨n1,n2,n3,n4⟩,⟨n5,n6,n7⟩,⟨n8,n9⟩,n10,_⟩:=ne;have ap:ZT.Apart z TI TO i1 i2 [i1,a1] [i2,a2]:=⟨⟨Ne.symm n1,n5,n6,n7⟩,⟨Ne.symm n2,n8,n9⟩,⟨Ne.symm n3,Ne.symm n4,n10⟩,
   ⟨by simp[n3,Ne.symm (e1 z At)],by simp[n8,Ne.symm (e1 TO At)],by simp[Ne.symm n10,Ne.symm (e1 i2 At)]⟩,⟨by simp[n4,Ne.symm (e2 z At)],by simp[n9,Ne.symm (e2 TO At)],by simp[n10,Ne.symm (e2 i1 At)]⟩⟩
  have he':i=us.length\/(i<us.length/\i=vs.length):=by rw[<-rv1.length,<-rv2.length];exact he
  refine ZT.next_end zFd zFe ap t1 t2 t3 ⟨t4,p1⟩ ⟨t5,p2⟩ he' fun h' tk kp=>⟨rfl,?_⟩;have keep:∀b o,b ∉ [z,TI,TO,i1,i2]->s.heap.get? b=some o->h'.get? b=some o:=fun b o hb q=>by
   simp only[List.mem_cons,List.not_mem_nil,or_false,not_or]at hb;exact kp b o hb.1 hb.2.2.1 hb.2.2.2.1 hb.2.2.2.2 q
  have GX:∀b o,H b=some o->b ∉ [z,TI,TO,i1,i2]:=fun b o q hb=>by rw[(hf b hb).1]at q;cases q
  show Inv X pins σ _ zEY;refine I.step (h':=h') (g':=s.gens) (d':=s.drawn) (t':=tk) (ch:=[z,TI,TO,i1,i2]) zCs zN io
    (fun b o _ q n=>n) yu (fun b ys q=>q) (fun b o u q=>q)
    (fun b ps q=>⟨#[],by rw[q];simp⟩) zc zAL zCI I.bare
  .obtain⟨_,f1,_,f3,f4,f5⟩:=hf b hb;exact⟨f3,f1,f4,f5⟩
  .obtain⟨o,es,ep,ho,r⟩:=hm;exact⟨o,es,ep,keep _ o zBI ho,r⟩
  .refine(I.A5 b o q).Jy zAc (fun c r=>r) fun c ys r=>r;rcases hc with rfl|hc
   .exact GX _ _ q
   .exact GX _ _ hc
 self:=fun _ _ _ _ _ st h=>wpAny_pyIter_zip st.1 h
def xH(T:TA):TI:=fun σ H R=>T σ H fun vs g=>∃(b1 b2:Bool) (a1 a2:AD),vs=[.ref a1,.ref a2]/\(∃xs,Ca b1 g a1 xs)/\(∃ys,Ca b2 g a2 ys)/\R (qy b1 b2 a1 a2) g
def X7{X:Cx}{elts:yV}{x1}{g:Pos}{a b:Expr}{ta:TA}{p pos:Pos}(hg:Gl X "zip")(hm:zBR)(ha:PA X [a,b] ta)(hs:starEach [a,b] X.env=[Nr,MN]:=by rfl)(T:starEach [b] X.env=[MN]:=by rfl):PI X zEt (.Call (.Name "zip" p) [a,b] [] pos) (xH ta):=by
 intro pins s σ H R I h;refine Call_ (Gn I hg hm boot_zip (av (BW PH fun us s1 ⟨vs,H1,Y,r1,q1⟩=>?_) (by rw[hs,T]) (by rw[T];rfl)));obtain⟨b1,b2,l1,l2,e,⟨xs,h1⟩,⟨ys,h2⟩,q⟩:=q1;subst e;cases r1 with
 |cons r Z=>
  cases Z with
  |cons r' Z=>
   cases Z;cases r;cases r';obtain⟨us,_,p1⟩:=h1.raw Y;obtain⟨vs,_,p2⟩:=h2.raw Y;refine ZT.Xk p1 p2 fun h' z1 z2 z3 z4 z5 hk=>wpAny_pyIter_zip z1 ?_;have I2:Inv X pins σ H1 zCf:=Y.kept (t':=s1.toks) hk;refine⟨_,[s1.heap.objs.size+4,s1.heap.objs.size+2,s1.heap.objs.size+3,s1.heap.objs.size,s1.heap.objs.size+1],_,_,H1,rfl,I2,kA ?_,⟨z1,z2,⟨_,_,z3⟩,z4,z5⟩,fun b hb=>?_,q⟩
   .simp
   have U:s1.heap.objs.size<=b:=by
    have hb2:b=s1.heap.objs.size+4\/b=s1.heap.objs.size+2\/b=s1.heap.objs.size+3\/b=s1.heap.objs.size\/b=s1.heap.objs.size+1:=by simpa using hb
    rcases hb2 with h|h|h|h|h<;>rw[h]<;>first|exact aJ _|exact Nat.le_add_right _ _
   exact Y.Rp U (Y.A5.fresh U)
def oP(K:Fg)(a:AD):It :=
 ⟨fun i H=>∃xs x,Ax K H a xs/\xs[i]? = some x,fun i H v H'=>∃p x,v=.ref p/\H p=none/\H'=upd H p (.tup [.int i,x])/\∀xs,Ax K H a xs->xs[i]? = some x,fun i H=>∃xs,Ax K H a xs/\xs.length=i⟩
def d7{P:FS}{w:IO}{K:Fg}{elts:yV}{x1}{pos:Pos}(a e it:AD)(hne:e≠it) :
  Turn P w K zDs (oP K a) [e,it] e (fun i h=>(∃old,IsEnum h e it (i:Nat) old)/\h.IsListIter it a i) where
 mem:=by simp
 obj:=fun i h st b hb=>by
  rcases aM.mp hb with rfl|hb
  .obtain⟨⟨old,q⟩,_⟩:=st;exact⟨_,q,fun v z=>by cases z⟩
  .have e2:b=it:=by simpa using hb
   subst e2;obtain⟨_,o,q,c,d⟩:=st;exact⟨o,q,fun v z=>by rw[d]at z;cases z⟩
 keep:=fun i h h' st k=>by
  obtain⟨⟨old,q⟩,o,q2,r⟩:=st;exact⟨⟨old,k e At _ q⟩,o,k it At _ q2,r⟩
 item:=by
  intro X hP hw hK hc i pins s σ H E I hf st hg;subst hP hw hK;obtain⟨xs,x,hq,hx⟩:=hg;obtain⟨its,rv,pL,hz⟩:=I.list hq;have p:=pL.isList;obtain⟨u,hu,ru⟩:=rv.get hx;obtain⟨⟨old,he⟩,hit⟩:=st;have hai:a≠it:=fun z=>by
   obtain⟨o,e1,c1,_⟩:=p;obtain⟨o2,e2,c2,_⟩:=hit;rw[z,e2]at e1;cases e1;rw[c1]at c2;exact absurd c2 AT
  have hae:a≠e:=fun z=>by
   obtain⟨o,e1,c1,_⟩:=p;rw[z,he]at e1;cases e1;exact absurd (show Value.type "enumerate" = Value.type "list" from c1) AT
  have hlt:i<its.length:=(aD.mp hu).1;have hE0:=hf e At;have hI0:=hf it At;refine wpAny_pyNext_enum_itemD zGW he ⟨hit,p⟩ (by simpa using hlt) hne (by simp[hne,Ne.symm hae]) fun y h' tk hy ho hs' hT hsz hk=>⟨_,rfl,wpAny_letOwnedTupleGo_enum (s:={s with heap:=h',toks:=tk+1}) ho fun h'' he'' sb=>?_⟩;have hyu:y=u:=by
   have hy:its[i]? = some y:=by simpa using hy
   rw[hu]at hy;exact(ah hy).symm
  subst hyu;have keep:∀b o,b≠e->b≠it->s.heap.get? b=some o->h''.get? b=some o:=fun b o h1 h2 q=>(sb.2 b h1).trans (hk b o h1 h2 q);have hTe:s.heap.objs.size≠e:=aj (aF he);have hTi:s.heap.objs.size≠it:=let⟨_,q,_⟩:=hit;aj (aF q);have hT'':h''.get? s.heap.objs.size=some { cls:=.type "tuple",data:=.seq #[.int i tk,y]}:=(sb.2 _ hTe).trans hT;have hTn:H s.heap.objs.size=none:=I.A5.fresh RW;have neT:∀b o,s.heap.get? b=some o->b≠s.heap.objs.size:=fun b o q=>aG (aF q);have GX:∀b o,H b=some o->b≠e/\b≠it:=fun b o q=>⟨(fun z=>by rw[z,hE0.1]at q;cases q),(fun z=>by rw[z,hI0.1]at q;cases q)⟩;refine⟨.ref s.heap.objs.size,upd H s.heap.objs.size (.tup [.int i,x]),?_,rfl,⟨_,x,rfl,hTn,rfl,fun ys hy=>by rw[I.YE hy hq];exact hx⟩,⟨⟨_,by simpa using he''⟩,?_⟩,fun b hb=>?_⟩
  .show Inv X pins σ _ zEC;refine I.step (h':=h'') (g':=s.gens) (d':=s.drawn) (t':=tk+1) (ch:=[e,it]) zCs (fun b o _ _ hc q _=>keep b o KK KK q) zHB
    (fun b o _ q n=>by rw[AL (neT b o q)];exact n) (fun b o hc q=>⟨o,keep b o KK KK q⟩) wE s0
    (fun b ps q=>⟨#[],by rw[AL (Aa q hTn),q];simp⟩) (fun b _ o hc _ q=>keep b o KK KK q) zAL zCI I.bare
   .rcases aM.mp hb with rfl|hb
    .exact⟨hE0.2.2.2.1,hE0.2.1,hE0.2.2.2.2.1,hE0.2.2.2.2.2⟩
    .have e2:b=it:=by simpa using hb
     subst e2;exact⟨hI0.2.2.2.1,hI0.2.1,hI0.2.2.2.2.1,hI0.2.2.2.2.2⟩
   .obtain⟨o,es,ep,ho,r⟩:=hm;exact⟨o,es,ep,keep _ o (Ne.symm hE0.2.1) (Ne.symm hI0.2.1) ho,r⟩
   .by_cases hb:b=s.heap.objs.size
    .subst hb;rw[AO]at q;cases q;exact⟨Q6,[.int i tk,y],.cons ⟨tk,rfl⟩ (.cons ru .nil),_,hT'',rfl,_,rfl⟩
    .rw[AL hb]at q;refine(I.A5 b o q).Jy (fun c v hc r=>keep c v ?_ ?_ r) yh fun c ys r=>by rw[AL (Aa r hTn)];exact r
     .rcases hc with rfl|hc
      .exact(GX _ _ q).1
      .exact(GX _ _ hc).1
     .rcases hc with rfl|hc
      .exact(GX _ _ q).2
      .exact(GX _ _ hc).2
  .obtain⟨⟨o,q,r⟩,_⟩:=hs';exact⟨o,(sb.2 it (Ne.symm hne)).trans q,r⟩
  .rcases aM.mp hb with rfl|hb
   .rw[AL (Ne.symm hTe)];exact hE0.1
   .have e2:b=it:=by simpa using hb
    subst e2;rw[AL (Ne.symm hTi)];exact hI0.1
 done:=by
  intro X hP hw hK hc i pins s σ H E I hf st hg;subst hP hw hK;obtain⟨xs,hq,hx⟩:=hg;obtain⟨its,rv,pL,hz⟩:=I.list hq;have p:=pL.isList;obtain⟨⟨old,he⟩,hit⟩:=st;have hai:a≠it:=fun z=>by
   obtain⟨o,e1,c1,_⟩:=p;obtain⟨o2,e2,c2,_⟩:=hit;rw[z,e2]at e1;cases e1;rw[c1]at c2;exact absurd c2 AT
  have hl:its.length=i:=by rw[<-rv.length];exact hx
  subst hl;obtain⟨f0,f1,f2,f3,f4,f5⟩:=hf it At;exact wpAny_pyNext_enum_endD zGW he ⟨hit,p⟩ fun h' eb=>⟨rfl,I.turned (t':=s.toks) (fun b o hb q=>eb b o hb q) f0 f1 f3 f4 f5⟩
 self:=fun _ _ _ _ _ st h=>by
  obtain⟨⟨old,he⟩,_⟩:=st;exact wpAny_pyIter_enum he h
def oJ(K:Fg)(T:TA):TI:=fun σ H R=>T σ H fun vs g=>∃a,vs=[.ref a]/\(∃xs,Ax K g a xs)/\R (oP K a) g
def i0{X:Cx}{elts:yV}{x1}{g:Pos}{a:Expr}{ta:TA}{p pos:Pos}(hg:Gl X "enumerate")(hm:X.mg "enumerate" = none)(ha:PA X [a] ta)(hs:starEach [a] X.env=[Nr]:=by rfl):PI X zEt zAz (oJ X.K ta):=by
 intro pins s σ H R I h;refine Call_ zGS;obtain⟨t,e,⟨xs,hq⟩,q⟩:=q1;subst e;cases r1 with
 |cons r rr=>
  cases rr;cases r;obtain⟨Y,rv,p',hz⟩:=U.list hq;refine call_enumerate_list (show s1.heap.IsList t Y.toArray from p'.isList) fun h' he hit hsz hk=>wpAny_pyIter_enum he ?_;have I2:Inv X pins σ H1 zCf:=U.kept (t':=s1.toks) hk;have hn:s1.heap.objs.size+1≠s1.heap.objs.size:=by lia
  refine⟨s1.heap.objs.size+1,[s1.heap.objs.size+1,s1.heap.objs.size],_,_,H1,rfl,I2,d7 t _ _ hn,⟨⟨_,he⟩,hit⟩,fun b hb=>?_,q⟩;have T:s1.heap.objs.size<=b:=by
   have Z:b=s1.heap.objs.size+1\/b=s1.heap.objs.size:=by simpa using hb
   rcases Z with z|z
   .rw[z];exact Nat.le_succ _
   .rw[z];exact aJ _
  exact U.Rp T (U.A5.fresh T)
def jv(i:Expr):Prop:=∀g R,subscripted i false g R=operate [g,R] (getItem g R)
def mw{prog:FS}{w:IO}{A:Ki}{E:yO}{s:SD}{env:Env}{value slice:Expr}{pos:Pos}{T id:zAG}{Q:yO} (hl:typeLookup (.type T) "__getitem__" = pure (some zAA))(hs:jv slice) (h:wpAny AS A (eval value env) (fun o Y=>wpAny AS A (eval slice env) (fun i g=>g.TypeIs o T/\wpAny AS A (getItem o i) Q E g) E Y) E s):wpAny AS A (eval (.Subscript value slice pos) env) Q E s:=by
 refine Subscript_ (ao h (fun o Y h₁=>ao h₁ (fun i g R=>?_) fun _ _ x=>x) fun _ _ x=>x);obtain⟨hT,R⟩:=R;unfold subscriptTail;refine Wb ?_;rw[getitemInPython_of_ne hT.not_modules];refine Wb (wpAny_specialOf hT hl ?_);have fin:wpAny AS A (subscripted slice false o i) (fun r U=>wpAny AS A (letTemporaryGo value o r>>=fun _=>pure r) Q E U) E g:=by
  rw[hs o i];exact wpAny_operating (ao R (fun r U Z=>Wb (wpAny_letTemporaryGo (aA Z))) fun _ _ x=>x)
 first
  |exact aA (Wb fin)
  |exact Wb (aA (Wb fin))
  |exact Wb fin
end L2
namespace TH
open PySem PyProof.Rows PySem.SeqAt
def LK:Tr->List Int
 |.nil=>[]
 |.cons b r=>reduceHash (Builtin.Tuple.tupleHashOf (LK b))::LK r
def BX(t:Tr):Int:=reduceHash (Builtin.Tuple.tupleHashOf (LK t))
section
variable{prog:FS}{w:IO}{E:yO}
def IsTuple.ty{h:Heap}{a:AD}{x:re}{s:SD}(e:s.heap=h)(k:h.IsTuple a x):s.TypeIs HY "tuple" := by
 subst e;obtain⟨o,g,R,_⟩:=k;exact⟨o,g,R⟩
def Zc(prog:FS)(w:IO)(E:yO)(t:Tr):Prop:=∀(us:LY) (A:Ki) (s:SD) (b:Array Int) (Q:Array Int->SD->Prop),Vs s.heap t us->A.units+t.deep<=cLine ->
 (∀tk g,g.toList=b.toList++LK t->Q g {s with toks:=tk})->wpAny AS A zw Q E s
def RH{t:Tr}(row:Zc prog w E t){a:AD}{g:yN}{A:Ki}{s:SD}{Q:Int->SD->Prop}(R:zBg)(h2:Vs s.heap t g)(hu:XN) (h:∀tk,Q (BX t) {s with toks:=tk}):wpAny AS A (pyHash HY) Q E s:=by
 have Z:=IsTuple.ty rfl R;obtain⟨o,U,hc,n,hd⟩:=id R;refine PySem.W.pyHash_slot (T := "tuple") Z F.slot_tuple_hash F.entry_tuple_hash (F.args_tuple_hash_1 _) (beq_builtin_none _) (.inr AC) ?_;show wpAny _ _ (Builtin.Tuple.tupleItemsOf HY>>=_) _ _ s;refine Wb (wpAny_tupleItemsOf U hd ?_);refine Wb ?_;rw[<-Array.forIn_toList];refine row g A.in1 s #[] _ h2 zAd fun tk b Y=>?_;show wpAny _ _ (retInt (Builtin.Tuple.tupleHashOf b.toList)) _ _ _;rw[Y];exact Wb (wpAny_mkInt (aA ⟨_,_,rfl,h _⟩))
def R6:∀t:Tr,Zc prog w E t
 |.nil=>fun us A s b Q e _ h=>by rw[Vs]at e;subst e;exact aA (h s.toks b (by simp[LK]))
 |.cons c r=>fun us A s b Q e hu h=>by
  rw[Vs]at e;obtain⟨a,R,rest,rfl,Z,Y,U⟩:=e;have hd:(Tr.cons c r).deep=max (c.deep+1) r.deep:=rfl;rw[List.forIn_cons];refine Wb (Wb (RH (R6 c) Z Y AC fun tk=>?_));refine Wb (aA Oz);exact R6 r rest A _ _ Q U AC fun g b' T=>h g b' (by simp[T,LK,BX])
def nP{t:Tr}{a:AD}{g:yN}{A:Ki}{s:SD}{Q:Int->SD->Prop}(U:zBg)(T:Vs s.heap t g)(R:XN) (h:∀tk,Q (BX t) {s with toks:=tk}):wpAny AS A (pyHash HY) Q E s:=RH (R6 t) U T R h
def Good(h:Heap)(n:Nat)(v:VL):Prop:=∃a g t,v=.ref a/\h.IsTuple a g.toArray/\Vs h t g/\t.deep<n
def OZ{h:Heap}:∀ {t:Tr} {us:LY} {n:Nat},Vs h t us->t.deep<=n->∀v∈us,Good h n v
 |.nil,us,n,e,_,v,g=>by rw[Vs]at e;subst e;cases g
 |.cons c r,us,n,e,hd,v,g=>by
  rw[Vs]at e;obtain⟨a,R,rest,rfl,Y,U,T⟩:=e;rw[Tr.deep]at hd;rcases aM.mp g with rfl|g
  .exact⟨a,R,c,rfl,Y,U,by lia⟩
  .exact OZ T AC v g
def Xg:∀(n:Nat) {v:VL} {A:Ki} {s:SD} {Q:bi},Good s.heap n v->Q true s->wpAny AS A (hashByValue n v) Q E s
 |0,v,A,s,Q,⟨_,_,_,_,_,_,z⟩,_=>absurd z zCr
 |n+1,v,A,s,Q,⟨a,R,t,e,Z,h2,hd⟩,h=>by
  subst e;have hT:=IsTuple.ty rfl Z;obtain⟨o,ho,hc,k,Y⟩:=id Z;unfold hashByValue;refine Wb (wpAny_specialOf hT F.slot_tuple_hash.lookup ?_);refine Wb (af ho Y ?_);refine Wb ?_;show wpAny _ _ (forIn R.toArray _ _) _ _ s;rw[<-Array.forIn_toList];refine wpAny_forIn_list _ wl _ ?_ ?_ _ _ ⟨rfl,rfl,OZ h2 AC⟩
  .rintro v rest r s' ⟨U,rfl,g⟩;refine Wb (Xg n (g v aX) ?_);simp only[Bool.not_true,Bool.false_eq_true,if_false];exact aA ⟨rfl,rfl,fun u T=>g u (aU _ T)⟩
  .rintro⟨r1,r2⟩ s' ⟨U,rfl,_⟩;simp only at U;subst U;exact aA h
def quiet:∀(n:Nat) {v:VL} {A:Ki} {s:SD} {Q:bi},Good s.heap n v->Q true s->wpAny AS A (eqIsQuiet n v) Q E s
 |0,v,A,s,Q,⟨_,_,_,_,_,_,z⟩,_=>absurd z zCr
 |n+1,v,A,s,Q,⟨a,R,t,e,h1,h2,hd⟩,h=>by
  subst e;have Z:=IsTuple.ty rfl h1;obtain⟨o,ho,hc,k,Y⟩:=id h1;unfold eqIsQuiet;refine Wb (wpAny_specialOf Z F.slot_tuple_eq.lookup ?_);show wpAny _ _ (isInstance HY Gf>>=_) _ _ s;refine Wb (wpAny_isInstance Z isSubtype_tuple_tuple ?_);simp only[Bool.not_true,Bool.false_eq_true,if_false];refine Wb (af ho Y ?_);refine Wb ?_;show wpAny _ _ (forIn R.toArray _ _) _ _ s;rw[<-Array.forIn_toList];refine wpAny_forIn_list _ wl _ ?_ ?_ _ _ ⟨rfl,rfl,OZ h2 AC⟩
  .rintro v rest r s' ⟨U,rfl,g⟩;refine Wb (quiet n (g v aX) ?_);simp only[Bool.not_true,Bool.false_eq_true,if_false];exact aA ⟨rfl,rfl,fun u T=>g u (aU _ T)⟩
  .rintro⟨r1,r2⟩ s' ⟨U,rfl,_⟩;simp only at U;subst U;exact aA h
def SS:∀(n:Nat) {v:VL} {A:Ki} {s:SD} {Q:bi},Good s.heap n v->Q false s->wpAny AS A (ofAClassStatement n v) Q E s
 |0,v,A,s,Q,⟨_,_,_,_,_,_,z⟩,_=>absurd z zCr
 |n+1,v,A,s,Q,⟨a,Z,t,e,Y,h2,hd⟩,h=>by
  subst e;have hT:=IsTuple.ty rfl Y;obtain⟨o,ho,hc,k,U⟩:=id Y;unfold ofAClassStatement;refine Wb (wpAny_typeOf hT ?_);have ht:("tuple" == "tuple")=true:=by rfl
  dsimp only;rw[if_pos ht];refine Wb Oz;simp only[Bool.not_true,Bool.false_eq_true,if_false];refine Wb (af ho U ?_);refine Wb ?_;rw[<-Array.forIn_toList];refine wpAny_forIn_list _ wl _ ?_ ?_ _ _ ⟨rfl,rfl,OZ h2 AC⟩
  .rintro v rest r s' ⟨T,rfl,g⟩;refine Wb (SS n (g v aX) ?_);simp only[Bool.false_eq_true,if_false];exact aA ⟨rfl,rfl,fun u R=>g u (aU _ R)⟩
  .rintro⟨r1,r2⟩ s' ⟨T,rfl,_⟩;simp only at T;subst T;exact aA h
def iT{x:VL}{l:yN}{A:Ki}{s:SD}{Q:bi}(hx:Good s.heap 8 x)(hl:∀y∈l,Good s.heap 8 y)(h:Q false s):wpAny AS A (searchCouldBeSeen x l) Q E s:=by
  unfold searchCouldBeSeen
  refine Wb ?_
  refine wpAny_forIn_list _ (fun rest r s'=>r.1=none/\s'=s/\∀v∈rest,Good s.heap 8 v) _ ?_ ?_ _ _ ⟨rfl,rfl,hl⟩
  . rintro v rest r s' ⟨hr,rfl,hall⟩
    have go:∀b:Bool,wpAny AS A (if b=true then pure zEZ else do
        let q <-eqIsQuiet 8 x
        if(!q)=true then pure zAE else do
          let q <-eqIsQuiet 8 v
          if(!q)=true then pure zAE else do
            let q <-ofAClassStatement 8 x
            if q=true then pure zAE else do
              let q <-ofAClassStatement 8 v
              if q=true then pure zAE else pure zEZ)
        (fun st s''=>match st with
          |ForInStep.yield r=>r.1=none/\s''=s'/\∀v∈rest,Good s'.heap 8 v
          |ForInStep.done r=>False) E s':=fun b=>by
      cases b with
      |true=>rw[if_pos rfl];exact aA ⟨rfl,rfl,fun u hu'=>hall u (aU _ hu')⟩
      |false=>
        rw[if_neg aK]
        refine Wb (quiet 8 hx ?_)
        simp only[Bool.not_true,Bool.false_eq_true,if_false]
        refine Wb (quiet 8 (hall v aX) ?_)
        simp only[Bool.not_true,Bool.false_eq_true,if_false]
        refine Wb (SS 8 hx ?_)
        simp only[Bool.false_eq_true,if_false]
        refine Wb (SS 8 (hall v aX) ?_)
        simp only[Bool.false_eq_true,if_false]
        exact aA ⟨rfl,rfl,fun u hu'=>hall u (aU _ hu')⟩
    refine ao (go _) (fun st s'' z=>?_) fun _ _ z=>z
    cases st with
    |yield r=>exact z
    |done r=>exact z.elim
  . rintro⟨r1,r2⟩ s' ⟨hr,rfl,_⟩
    simp only at hr
    subst hr
    exact aA h
end
end TH
namespace TH
open PySem PyProof.Rows PySem.SeqAt
abbrev ES:=Array (Int×Tr)
def Q0(g:ES)(i:Nat):Int:=(g[i]?.map Nh).getD 0
def cG(g:ES)(t:zCO)(x:Tr)(h:Int):Option (Option Nat) :=
 if t.gaveWay then none else
 match t.probe (Q0 g) h zBj with
 |some (.empty j none)=>some (some j)
 |some (.candidate _ i _)=>match g[i]? with
  |some (_,y)=>if y=x then some none else none
  |none=>none
 |_=>none
def Jm(st:zBt)(x:Tr):Option (ES×SetTable) :=
 if(st.2.fits st.1.size&&decide (st.1.size<=1000)&&st.2.plain)=false then none else
 match cG st.1 st.2 x (BX x) with
 |none=>none
 |some none=>some st
 |some (some slot)=>
  if(st.2.put slot).1.tooFull=false then some (SetTable.insertAt st.1 (st.2.put slot).2 zBV,(st.2.put slot).1) else
  if((st.2.put slot).1.fits (SetTable.insertAt st.1 (st.2.put slot).2 zBV).size&&decide (SetTable.sizeAbove (SetTable.grown (st.1.size+1))<=100000))=false then none else
  match (st.2.put slot).1.relaid ((SetTable.insertAt st.1 (st.2.put slot).2 zBV).map Nh) (SetTable.grown (st.1.size+1)) with
  |none=>none
  |some (g,order)=>
   if(order.filterMap zGz).size=(SetTable.insertAt st.1 (st.2.put slot).2 zBV).size then
    some (order.filterMap zGz,g) else none
def RZ(G:zAq)(h:Heap)(p:Int×VL)(q:Int×Tr):Prop:=p.1=q.1/\q.2.deep<8/\G p.2 q.2/\∃a g,p.2=.ref a/\h.IsTuple a g.toArray/\Vs h q.2 g
abbrev Eh(G:zAq)(h:Heap)(ev:Rs)(g:ES):Prop:=Paired (RZ G h) ev.toList g.toList
variable{G:zAq}
section
variable{α β:Type}{F:α->β->Prop}
def Paired.get:∀ {l:lX} {m:List β},Paired F l m->∀ {i:Nat} {y:β},m[i]? = some y->∃x,l[i]? = some x/\F x y
 |_,_,.nil,i,y,h=>by simp at h
 |_,_,.cons g r,0,y,h=>by simp at h;subst h;exact⟨_,rfl,g⟩
 |_,_,.cons g r,i+1,y,h=>Paired.get r zCP
def Paired.none:∀ {l:lX} {m:List β},Paired F l m->∀ {i:Nat},m[i]? = Option.none->l[i]? = Option.none:=fun {l m} r i h=>by
 have:=r.length;rw[List.getElem?_eq_none_iff]at h ⊢
 lia
def Paired.app{R:lX}{g:List β}(k:Paired F R g):∀ {l:lX} {m:List β},Paired F l m->Paired F (l++R) (m++g)
 |_,_,.nil=>k
 |_,_,.cons h r=>.cons h (Paired.app k r)
def Paired.take:∀ {l:lX} {m:List β} (n:Nat),Paired F l m->Paired F (l.take n) (m.take n)
 |_,_,0,_=>by simpa using Paired.nil
 |_,_,n+1,.nil=>by simpa using Paired.nil
 |_,_,n+1,.cons h r=>.cons h (Paired.take n r)
def Paired.drop:∀ {l:lX} {m:List β} (n:Nat),Paired F l m->Paired F (l.drop n) (m.drop n)
 |_,_,0,h=>h
 |_,_,n+1,.nil=>by simpa using Paired.nil
 |_,_,n+1,.cons h r=>Paired.drop n r
def Paired.pick{l:lX}{m:List β}(r:Paired F l m):∀(o:List Nat),Paired F (o.filterMap (l[·]?)) (o.filterMap (m[·]?))
 |[]=>.nil
 |i::o=>by
  rw[List.filterMap_cons,List.filterMap_cons];cases e:m[i]? with
  |none=>rw[Paired.none r e];exact Paired.pick r o
  |some y=>
   obtain⟨x,g,h⟩:=Paired.get r e;rw[g];exact .cons h (Paired.pick r o)
def Paired.imp{G:α->β->Prop}(h:∀a b,F a b->G a b):∀ {l:lX} {m:List β},Paired F l m->Paired G l m
 |_,_,.nil=>.nil
 |_,_,.cons k r=>.cons (h _ _ k) (Paired.imp h r)
end
def Ks{α:Type}(xs:Array α)(p:Nat)(x:α):(SetTable.insertAt xs p x).toList=xs.toList.take p++x::xs.toList.drop p:=by
 unfold SetTable.insertAt;simp[List.extract];rw[List.take_of_length_le At]
def Eh.fst{h:Heap}{ev:Rs}{g:ES}(r:Eh G h ev g):ev.map Nh=g.map Nh:=by
 have key:∀ {l:zDH} {m:zDI},Paired (RZ G h) l m->l.map Nh=m.map Nh:=fun r=>by
  induction r with
  |nil=>rfl
  |cons k _ R=>rw[List.map_cons,List.map_cons,R,k.1]
 apply Array.toList_inj.mp
 simpa using key r
def Eh.size{h:Heap}{ev:Rs}{g:ES}(r:Eh G h ev g):ev.size=g.size:=by simpa using Paired.length r
def Eh.Q0{h:Heap}{ev:Rs}{g:ES}(r:Eh G h ev g)(i:Nat):(ev[i]?.map Nh).getD 0=Q0 g i:=by
 have:=bJ (fun a:Array Int=>a[i]?) r.fst;simp only[Array.getElem?_map]at this;rw[TH.Q0,this]
def Eh.good{h:Heap}{ev:Rs}{Z:ES}(r:Eh G h ev Z):∀p∈ev.toList,Good h 8 p.2:=by
 have key:∀ {l:zDH} {m:zDI},Paired (RZ G h) l m->∀p∈l,Good h 8 p.2:=fun r=>by
  induction r with
  |nil=>intro p g;cases g
  |cons k _ T=>
   intro p g;rcases aM.mp g with rfl|g
   .obtain⟨_,hd,_,a,R,e,Y,U⟩:=k;exact⟨a,R,_,e,Y,U,hd⟩
   .exact T p g
 exact key r
def Eh.at{h:Heap}{ev:Rs}{U:ES}(r:Eh G h ev U){i:Nat}{z:Int}{y:Tr}(e:U[i]? = some (z,y)):∃a g,ev[i]? = some (z,.ref a)/\h.IsTuple a g.toArray/\Vs h y g/\y.deep<8:=by
 obtain⟨⟨Y,v⟩,h1,R,hd,_,a,g,T,h3,Z⟩:=Paired.get r x0;have R:Y=z:=R;have T:v=.ref a:=T;subst R T;exact⟨a,g,by simpa using h1,h3,Z,hd⟩
def Eh.keeps{h h':Heap}{ev:Rs}{U:ES}(k:Nd)(r:Eh G h ev U):Eh G h' ev U :=
 Paired.imp (fun p q ⟨e,hd,Z,a,g,e2,h1,h2⟩=>⟨e,hd,Z,a,g,e2,(by obtain⟨o,Y,T,n,R⟩:=h1;exact⟨o,k _ _ Y T,T,n,R⟩),h2.keeps k⟩) r
section
variable{prog:FS}{w:IO}{E:yO}{A:Ki}{s:SD}{a xa:AD}{o:Obj}{ev:Rs}{et:ES}{ep:Nat}{t:zCO}{x:Tr}{its:yN}{h:Int}
def gu{r:Option Nat}{Q:SetFound->SD->Prop}(ho:s.heap.get? a=some o)(hd:o.data=.set ev ep t)(hf:t.fits et.size=true)(R:Eh G s.heap ev et)(U:s.heap.IsTuple xa its.toArray)(T:Vs s.heap x its)(hxd:x.deep<8) (hu:zEa)(g:cG et t x h=some r)(h0:r=none->Q (.there none) s)(h1:∀j,r=some j->Q (.free j false) s):wpAny AS A (setSearch a (.ref xa) h true) Q E s:=by
 have Y:t.fits ev.size=true:=by rw[R.size];exact hf
 unfold cG at g;by_cases hg:t.gaveWay=true
 .rw[if_pos hg]at g;cases g
 rw[if_neg hg]at g;unfold setSearch;rw[show(100000:Nat)=99999+1 from rfl,setSearchFrom];refine Wb (bL ho hd Y ?_);dsimp only;rw[if_neg hg];have hpr:∀f:Nat->Int,(∀i,f i=Q0 et i)->t.probe f h ((none:Option SetTable.Probe).getD zBj)=t.probe (Q0 et) h zBj:=fun f hf=>by
  rw[show f=Q0 et from funext hf];rfl
 generalize Z:t.probe _ h ((none:Option SetTable.Probe).getD zBj)=pr;have hpr':pr=t.probe (Q0 et) h zBj:=Z.symm.trans (hpr _ fun i=>R.Q0 i);clear Z hpr;subst hpr';cases hp:t.probe (Q0 et) h zBj with
 |none=>rw[hp]at g;cases g
 |some met=>
  rw[hp]at g;cases met with
  |empty j dummy=>
   cases dummy with
   |none=>cases g;exact aA (h1 j rfl)
   |some d=>cases g
  |candidate j i next=>
   cases he:et[i]? with
   |none=>simp only[he]at g;cases g
   |some zy=>
    obtain⟨z,y⟩:=zy;simp only[he]at g;by_cases hy:y=x
    .rw[if_pos hy]at g;cases g;subst hy;obtain⟨b,its2,e1,e2,e3,e4⟩:=R.at he;cases hl:t.led with
     |true=>
      simp only[Bool.not_true,Bool.false_eq_true,if_false];rw[e1];refine Wb (aS (OV e2 e3 U T AC prog w E _ ?_));rw[decide_eq_true rfl];refine Wb (bL ho hd Y ?_);exact aA (h0 rfl)
     |false=>
      simp only[Bool.not_false,if_true];refine Wb (iT ⟨xa,its,_,rfl,U,T,hxd⟩ (fun v hv=>?_) ?_)
      .obtain⟨p,hp1,rfl⟩:=aQ.mp hv;exact R.good p (Array.mem_toList_iff.mpr (Array.mem_filter.mp (Array.mem_toList_iff.mp hp1)).1)
      simp only[Bool.false_eq_true,if_false];rw[e1];refine Wb (aS (OV e2 e3 U T AC prog w E _ ?_));rw[decide_eq_true rfl];refine Wb (bL ho hd Y ?_);exact aA (h0 rfl)
    .rw[if_neg hy]at g;cases g
def Ir{n:Nat}(h:n<=100000):n<=sizeLine:=aT h Ku
def ZS{R:Heap}(T:R.get? a=some o)(hd:o.data=.set ev ep t)(g:Rs)(t':zCO):(R.update a (Obj.putSet g t')).get? a=some {o with data:=.set g (ep+1) t'}:=by
 have:=Heap.get?_update_self (Obj.putSet g t') T (by rw[putSet_of g t' hd];rfl);rw[putSet_of g t' hd]at this;exact this
def Xs{R:Heap}(U:R.get? a=some o)(Y:o.cls=.type "set")(g:Obj->Obj):∀b u,R.get? b=some u->u.cls=.type "tuple" ->(R.update a g).get? b=some u:=fun b u q T=>by
 have:a≠b:=fun z=>by
  subst z;rw[U]at q;cases q;rw[Y]at T
  injection T with z
  exact absurd z AT
 rw[Heap.get?_update_other _ _ this];exact q
def tN{et' : ES}{t' : zCO}{Q : bi}(ho : s.heap.get? a = some o)(hc : o.cls = .type "set")(hd : o.data = .set ev ep t)(R : Eh G s.heap ev et)(hx1 : s.heap.IsTuple xa its.toArray)(hx2 : Vs s.heap x its)(hxd : x.deep < 8)(hxg : G (.ref xa) x) (hu : A.units + 8 < cLine)(hs : Jm (et,t) x = some (et',t')) (k : ∀ (b : Bool) (h' : Heap) (tk : Nat) (ev' : Rs) (ep' : Nat),Heap.SameBut a s.heap h'->h'.get? a = some { o with data:=.set ev' ep' t' }->Eh G h' ev' et'->Q b { s with heap:=h',toks:=tk }):wpAny AS A (setAdd a (.ref xa)) Q E s:=by
  unfold setAdd
  refine aS (Wb (nP hx1 hx2 AC fun tk => ?_))
  unfold setAddHashed
  refine aS ?_
  unfold Jm at hs
  by_cases h1 : (t.fits et.size && decide (et.size<=1000) && t.plain) = false
  . rw [if_pos h1] at hs; cases hs
  rw [if_neg h1] at hs
  simp only [Bool.not_eq_false,Bool.and_eq_true,decide_eq_true_eq] at h1
  obtain ⟨⟨hf,hz⟩,hpl⟩:=h1
  have hf' : t.fits ev.size = true:=by rw [R.size]; exact hf
  cases hsr : cG et t x (BX x) with
  | none => simp only [hsr] at hs; cases hs
  | some r=>
    simp only [hsr] at hs
    rw [show (100000 : Nat) = 99999 + 1 from rfl,setAddHashedIn]
    refine Wb (bL (s:={ s with toks:=tk }) ho hd hf' ?_)
    dsimp only
    have hbs : byScan (.ref xa) ev = false:=rfl
    rw [hbs,if_neg aK]
    refine Wb (gu (s:={ s with toks:=tk }) ho hd hf R hx1 hx2 hxd hu hsr (fun hr => ?_) fun j hr => ?_)
    . subst hr
      cases hs
      exact aA (k _ s.heap tk ev ep (Heap.SameBut.refl ..) (by rw [ho,<- hd]) R)
    . subst hr
      dsimp only at hs ⊢
      refine Wb (bL (s:={ s with toks:=tk }) ho hd hf' ?_)
      dsimp only
      have hpl2 : (t.put j).1.plain = true:=hpl
      rw [if_pos hpl2]
      refine Wb (Xg 8 (s:={ s with toks:=tk }) ⟨xa,its,x,rfl,hx1,hx2,hxd⟩ ?_)
      simp only [if_true]
      have R1 : Eh G s.heap SX (SetTable.insertAt et (t.put j).2 zBV):=by
        unfold Eh
        rw [Ks,Ks]
        exact Paired.app (.cons ⟨rfl,hxd,hxg,xa,its,rfl,hx1,hx2⟩ (Paired.drop _ R)) (Paired.take _ R)
      have hz1 : (SetTable.insertAt ev (t.put j).2 zGQ).size<=1001:=by
        have h2:=bJ List.length (Ks ev (t.put j).2 zGQ)
        simp only [Array.length_toList,List.length_append,List.length_take,List.length_cons,List.length_drop] at h2
        have:=R.size
        lia
      have hz2 : (SetTable.insertAt et (t.put j).2 zBV).size = (SetTable.insertAt ev (t.put j).2 zGQ).size:=R1.size.symm
      refine Wb (wpAny_storeSet_of (s:={ s with toks:=tk }) ho hd ?_ (Ir AC))
      have g1:=ZS ho hd SX (t.put j).1
      have k1:=Xs ho hc zHE
      have sb1:=aZ s.heap a zHE
      by_cases hfull : (t.put j).1.tooFull = false
      . rw [if_pos hfull] at hs
        cases hs
        rw [hfull]
        simp only [Bool.and_false,Bool.false_eq_true,if_false]
        exact aA (k _ _ tk _ _ sb1 g1 (R1.keeps k1))
      . rw [if_neg hfull] at hs
        have hfull : (t.put j).1.tooFull = true:=by simpa using hfull
        rw [hfull]
        simp only [Bool.not_false,Bool.and_true,if_true]
        by_cases h2 : ((t.put j).1.fits (SetTable.insertAt et (t.put j).2 zBV).size && decide (SetTable.sizeAbove (SetTable.grown (et.size + 1))<=100000)) = false
        . rw [if_pos h2] at hs; cases hs
        rw [if_neg h2] at hs
        simp only [Bool.not_eq_false,Bool.and_eq_true,decide_eq_true_eq] at h2
        obtain ⟨hfit,hsa⟩:=h2
        cases hrl : (t.put j).1.relaid ((SetTable.insertAt et (t.put j).2 zBV).map Nh) (SetTable.grown (et.size + 1)) with
        | none => simp only [hrl] at hs; cases hs
        | some to=>
          obtain ⟨t2,order⟩:=to
          simp only [hrl] at hs
          by_cases h3 : (order.filterMap ((SetTable.insertAt et (t.put j).2 zBV)[·]?)).size = (SetTable.insertAt et (t.put j).2 zBV).size
          . rw [if_pos h3] at hs
            cases hs
            have R2 : Eh G s.heap zGw (order.filterMap ((SetTable.insertAt et (t.put j).2 zBV)[·]?)):=by
              unfold Eh
              have:=Paired.pick R1 order.toList
              simpa using this
            have g2:=ZS g1 rfl zGw t'
            have k2:=Xs g1 hc (Obj.putSet zGw t')
            have sb2:=aZ (s.heap.update a zHE) a (Obj.putSet zGw t')
            refine Wb ?_
            unfold setRelay
            refine Wb (bL g1 rfl (by rw [<- hz2]; exact hfit) ?_)
            dsimp only
            rw [R.size,if_neg (Nat.not_lt.mpr (Ir hsa))]
            refine Wb ?_
            rw [R1.fst,hrl]
            have hsz : (order.filterMap IN).size = (SetTable.insertAt ev (t.put j).2 zGQ).size:=by rw [R2.size,h3,hz2]
            have hne : ¬ ((order.filterMap IN).size != (SetTable.insertAt ev (t.put j).2 zGQ).size) = true:=by simp [hsz]
            show wpAny _ _ (do if (order.filterMap IN).size != (SetTable.insertAt ev (t.put j).2 zGQ).size then unsupported "internal:set-table-lost-an-element"
                               pure (order.filterMap IN,t')) _ _ _
            rw [if_neg hne]
            refine aA ?_
            refine wpAny_storeSet_of g1 rfl ?_ (Ir (by rw [hsz]; lia))
            exact aA (k _ _ tk _ _ (sb1.trans sb2) g2 ((R2.keeps k1).keeps k2))
          . rw [if_neg h3] at hs; cases hs
end
end TH
namespace TH
open PySem
def grow:List Tr->Tr->List Tr
 |_,.nil=>[]
 |pre,.cons b r=>((Tr.of (Tr.Cn (b.bs++[.nil]))::grow [] b).map fun g=>Tr.of (Tr.Cn (pre++g::r.bs)))++grow (pre++[b]) r
def wV(t:Tr):yc:=Tr.of (Tr.Cn (t.bs++[.nil]))::grow [] t
def ups(l:yc):yc:=l.flatMap wV
def Pf(st:zBt):List Tr->Option (ES×SetTable)
 |[]=>some st
 |x::r=>(Jm st x).bind fun g=>Pf g r
def NV(led:Bool):ES×SetTable:=(#[],.fresh 0 0 led)
def Tx(st:zBt):yc:=st.1.toList.map zF
def tz:Nat->List Tr
 |0=>[.nil]
 |n+1=>(Tr.Cn ((ups (tz n)).eraseDups)).reverse
end TH
namespace TH
open PySem PyProof.Rows PySem.SeqAt
def WL(G:zAq)(h:Heap)(v:VL)(x:Tr):Prop:=x.deep<8/\G v x/\∃a g,v=.ref a/\h.IsTuple a g.toArray/\Vs h x g
abbrev LX(G:zAq)(h:Heap)(vs:LY)(xs:y8):Prop:=Paired (WL G h) vs xs
variable{G:zAq}
def WL.keeps{h h':Heap}(k:Nd){v:VL}{x:Tr}(r:WL G h v x):WL G h' v x:=by
 obtain⟨hd,Y,a,g,e,h1,Z⟩:=r;exact⟨hd,Y,a,g,e,(by obtain⟨o,U,T,n,R⟩:=h1;exact⟨o,k _ _ U T,T,n,R⟩),Z.keeps k⟩
def LX.keeps{h h':Heap}(k:Nd){vs:yN}{xs:yc}(r:LX G h vs xs):LX G h' vs xs:=Paired.imp (fun _ _ z=>z.keeps k) r
def Oo(G:zAq)(h:Heap)(S:AD)(st:zBt):Prop:=∃o ev ep,h.get? S=some o/\o.ExactSet/\o.data=.set ev ep st.2/\Eh G h ev st.1
def Oo.keeps{h h':Heap}{S:AD}{st:zBt}(x:Oo G h S st)(g:∀o,h.get? S=some o->h'.get? S=some o)(k:Nd):Oo G h' S st:=by
 obtain⟨o,ev,ep,Y,U,T,R⟩:=x;exact⟨o,ev,ep,g _ Y,U,T,R.keeps k⟩
section
variable{prog:FS}{w:IO}{A:Ki}{R:Result->SD->Prop}{I S:AD}{fp wr:yd}{St:wn}{items:re}{xs:yc}{st':zBt}
def mV(W:Walks prog w A.in1 I fp wr items.size (fun i v=>items[i]? = some v) St)(hSf:S ∉ fp)(hcl:∀i h b o,St i h->b∈wr->h.get? b=some o->o.cls≠.type "tuple")(hu:A.units+10<cLine):∀(k i:Nat) (s:SD) (st:zBt),items.size-i=k->i<=items.size->St i s.heap->Oo G s.heap S st->LX G s.heap items.toList xs->Pf st (xs.drop i)=some st' ->(∀(h':Heap) (tk:Nat),(∀b o,b≠S->b ∉ wr->s.heap.get? b=some o->h'.get? b=some o)->(∀b o,s.heap.get? b=some o->o.cls=.type "tuple" -> h'.get? b=some o)->Oo G h' S st'->R (.ok (.ret .none)) Fr) ->codeAny AS A (.builtin "set.update.loop" ⟨[.ref S,.ref I],[]⟩) R s:=by
 have hSw:S ∉ wr:=fun h=>hSf (W.sub _ h);intro k
 induction k with
 |zero=>
  intro i s st hk hi U hS hT g hR;have hin:i=items.size:=by lia
  subst hin;have Y:=Paired.length hT;rw[List.drop_of_length_le (by rw[<-Y];simp)]at g;cases g;refine codeAny_builtin F.entry_set_update_loop ?_;rw[Around.under_plainId F.plain_set_update_loop _];show wpAny _ A.in1 (pyNext zCC>>=_) _ _ s;refine Wb (W.done s _ _ U fun h' tk hm=>?_);show wpAny _ A.in1 (ret Value.none) _ _ _;have kt:∀b o,s.heap.get? b=some o->o.cls=.type "tuple" -> h'.get? b=some o:=fun b o e T=>hm b o (fun hb=>hcl _ _ b o U hb e T) e;exact aA (hR h' tk (fun b o _ hb e=>hm b o hb e) kt (hS.keeps (fun o e=>hm S o hSw e) kt))
 |succ k ih=>
  intro i s st hk hi U hS hT g hR;have hlt:i<items.size:=by lia
  refine codeAny_builtin F.entry_set_update_loop ?_;rw[Around.under_plainId F.plain_set_update_loop _];show wpAny _ A.in1 (pyNext zCC>>=_) _ _ s;refine Wb (W.item i s _ _ hlt U fun v h1 tk hP hst' hm=>?_);have kt:∀b o,s.heap.get? b=some o->o.cls=.type "tuple" -> h1.get? b=some o:=fun b o e T=>hm b o (fun hb=>hcl _ _ b o U hb e T) e;have hS1:=hS.keeps (fun o e=>hm S o hSw e) kt;have hT1:=hT.keeps kt;have Y:=Paired.length hT;have hxi:i<xs.length:=by rw[<-Y];simpa using hlt
  have hx:xs[i]? = some xs[i]:=aH hxi;obtain⟨v',hv',hxd,hxg,xa,its,e1,e2,e3⟩:=Paired.get hT1 hx;have hvv:v'=v:=by
   have h2:items.toList[i]? = some v:=by simpa using hP
   rw[h2]at hv';exact(ah hv').symm
  subst hvv;subst e1;rw[List.drop_eq_getElem_cons hxi,Pf]at g;cases Z:Jm st xs[i]with
  |none=>rw[Z]at g;cases g
  |some st1=>
   rw[Z]at g;obtain⟨o,ev,ep,g1,g2,g3,g4⟩:=hS1;obtain⟨et,t⟩:=st;obtain⟨et1,t1⟩:=st1;show wpAny _ A.in1 (holding [Value.ref xa] (setAdd S (.ref xa))>>=_) _ _ _;refine Wb (aS (tN (s:={s with heap:=h1,toks:=tk}) g1 g2.1 g3 g4 e2 e3 hxd hxg zAd Z fun b h2 tk2 ev2 ep2 sb gS R2=>?_));have kt2:∀b o,h1.get? b=some o->o.cls=.type "tuple" -> h2.get? b=some o:=fun b o' e T=>by
    rw[sb.2 b fun z=>?_]
    .exact e
    .subst z;rw[g1]at e;cases e;rw[g2.1]at T
     injection T with T
     exact absurd T AT
   refine aA ⟨plainId_quiet F.plain_set_update_loop _,ih M2 {s with heap:=h2,toks:=tk2} (et1,t1) AC hlt (W.frame _ _ _ hst' fun b hb o' e=>?_) ⟨_,ev2,ep2,gS,g2,rfl,R2⟩ (hT1.keeps kt2) g fun h3 tk3 m3 kt3 S3=>?_⟩
   .rw[sb.2 b fun z=>hSf (z ▸ hb)];exact e
   .refine hR h3 tk3 (fun b o' hbS hb e=>?_) (fun b o' e T=>kt3 b o' (kt2 b o' (kt b o' e T) T) T) S3;refine m3 b o' hbS hb ?_;show h2.get? b=some o';rw[sb.2 b hbS];exact hm b o' hb e
end
end TH
namespace TH
open PySem PyProof.Rows PySem.SeqAt
section
variable{G:zAq}{prog:FS}{w:IO}{A:Ki}{E:yO}{s:SD}{l:AD}{us:yN}{xs:yc}
abbrev Hj(led:Bool):Obj:={ cls:=.type "set",dict:=none,data:=.set #[] 0 (.fresh 0 0 led)}
def dh(v:VL){Q1:yO}(k:Q1 EK {s with heap:=s.heap.push (Hj oR)}):codeAny AS A (.call (.builtin "set.__new__") ⟨[.type "set",v],[]⟩) (wants Q1 E) s:=by
 refine codeAny_of_tree (show wpAny _ A.in1 (checkBuiltinCall "set.__new__" ⟨[.type "set",v],[]⟩>>=fun _=>again (.builtin "set.__new__" ⟨[.type "set",v],[]⟩)) _ _ s from ?_);refine Wb (wpAny_of_eq (F.newCall_set_1 v) (aA ⟨plainId_quiet F.plain_set_new _,codeAny_builtin F.entry_set_new ?_⟩));rw[Around.under_plainId F.plain_set_new _];unfold Builtin.«set.__new__»;unfold Builtin.Frozenset.newClass;have q:=sub_set_self;obtain⟨h0,g,R,t0,o0⟩:=s;dsimp only
 wp_walk
 refine wpAny_askSetting Oz;dsimp only;simp only[newObj];exact Wb (wpAny_alloc (aA (aA k)))
def Ym{Q:yO}(hA:oF)(hL:s.heap.IsList l us.toArray)(hT:LX G s.heap us xs)(hu:A.units+20<cLine){st:zBt}(Y:Pf (NV oR) xs=some st) (k:∀(R:Heap) (tk:Nat),Oo G R s.heap.objs.size st->(∀b u,s.heap.get? b=some u->R.get? b=some u)->Q EK {s with heap:=R,toks:=tk}):wpAny AS A (call (.type "set") [.ref l]) Q E s:=by
 obtain⟨mc,mt,hmro⟩:=F.called_set.mro;have q1:=F.called_set.made;have q2:=F.called_set.sub;have q3:=F.called_set.notType;have q4:=F.called_set.canCreate;have q5:=F.typeCall_set_1 SY;refine wpAny_call (codeAny_of_tree (show wpAny _ _ (callAny (.type "set") _) _ _ _ from ?_));refine aA ⟨Code.quiet_builtin _ Lx,codeAny_builtin F.entry_type_call ?_⟩;rw[Around.under_plain (weight_type_call_type "set" [.ref l] []) rfl]
 repeat (any_goals (first|assumption|wp_step))
 have hnew:=dh (prog:=prog) (w:=w) (s:=s) (A:=A.in1) (E:=E) SY (Q1:=fun v s1=>v=.ref s.heap.objs.size/\s1={s with heap:=s.heap.push (Hj oR)}) ⟨rfl,rfl⟩;refine codeAny_mono hnew fun r s1 Z=>?_;cases r with
 |error e=>exact Z
 |ok fl=>
  cases fl with
  |next=>exact Z.elim
  |brk=>exact Z.elim
  |cont=>exact Z.elim
  |ret obj=>
   obtain⟨rfl,rfl⟩:=Z;generalize oR=led at Y;have gS:(s.heap.push zDv).get? s.heap.objs.size=some zDv:=aN _ rfl;have tS:Shared.TypeIs {s with heap:=s.heap.push zDv} EK "set" := ⟨_,gS,rfl⟩;have q6:=F.called_set.init.lookup;have q7:=F.called_set.init.bind EK
   repeat (any_goals (first|assumption|wp_step))
   have T:codeAny AS A.in1 (.call (.builtin "set.__init__") ⟨[.ref s.heap.objs.size,.ref l],[]⟩)
     (wants (fun v s2=>v=.none/\∃R tk,s2={s with heap:=R,toks:=tk}/\Oo G R s.heap.objs.size st/\∀b u,s.heap.get? b=some u->R.get? b=some u) E) {s with heap:=s.heap.push zDv}:=by
    refine codeAny_call_builtin F.called_set.init.plain F.entry_set_init (check_set_init_1 tS ?_);obtain⟨⟨c0,d0,dt0,sl0⟩,gl,c1,n0,dt1⟩:=id hL;simp only at c1 dt1;subst c1 dt1;have gl1:(s.heap.push zDv).get? l=some ⟨.type "list",d0,.seq us.toArray n0,sl0⟩:=aE _ gl;have U:(s.heap.push zDv).IsList l us.toArray:=⟨_,gl1,rfl,n0,rfl⟩;have s1:=F.sub_list_set;have s2:=F.sub_list_frozenset;have s3:(Value.type "list" == Value.type "dict")=false:=by decide
    unfold Builtin.«set.__init__» noKeywords Builtin.Frozenset.updateFrom;generalize ePI:pyIter=PI
    wp_walk
    subst ePI;refine wpAny_pyIter_list U (Wb (wpAny_runValue ?_));have ll:l<s.heap.objs.size:=aF gl;have zI:(s.heap.push zDv).objs.size=s.heap.objs.size+1:=Heap.size_push ..;have neI:l≠(s.heap.push zDv).objs.size:=by rw[zI];exact aG (bE ll)
    have nfp:s.heap.objs.size ∉ [(s.heap.push zDv).objs.size,l]:=by
     simp only[List.mem_cons,List.not_mem_nil,or_false,not_or];exact⟨by rw[zI];exact aG (bR _),Nat.ne_of_gt ll⟩
    have hA3:A.in1.in1.in1.handled=none:=by simp[hA]
    refine mV (G:=G) (xs:=xs) (st':=st) (Walks.list hA3 _ l neI us.toArray) nfp (fun i h b o hit hb e hc=>?_) (by simp only[Around.in1_units];lia) _ 0 _ (NV led) rfl (aq _) ⟨⟨_,Heap.get?_push_size _ rfl,rfl,rfl⟩,U.push _⟩ ?_ ?_ Y fun R tk m2 kt2 S2=>?_
    .obtain⟨⟨oi,gi,ci,_⟩,_⟩:=hit;have:b=(s.heap.push zDv).objs.size:=by simpa using hb
     subst this;rw[gi]at e;cases e;rw[ci]at hc
     injection hc with hc
     exact absurd hc AT
    .exact⟨Hj led,#[],0,Heap.get?_push_of_some _ gS,⟨rfl,rfl,rfl⟩,rfl,.nil⟩
    .exact hT.keeps fun b o e _=>aE _ (aE _ e)
    .refine aA ?_;show wpAny _ _ (ret Value.none) _ _ _;refine aA ⟨rfl,R,tk,rfl,S2,fun b u e=>?_⟩;have lb:b<s.heap.objs.size:=aF e;refine m2 b u (aG lb) ?_ (aE _ (aE _ e));simp only[List.mem_cons,List.not_mem_nil,or_false];rw[zI];exact aG (bE lb)
   refine codeAny_mono T fun r2 s2 g=>?_;cases r2 with
   |error e=>exact g
   |ok f2=>
    cases f2 with
    |next=>exact g.elim
    |brk=>exact g.elim
    |cont=>exact g.elim
    |ret v2=>
     obtain⟨rfl,R,tk,rfl,S2,k2⟩:=g
     repeat (any_goals (first|assumption|wp_step))
     exact k R tk S2 k2
end
end TH
namespace TH
open PySem PyProof.Rows PySem.SeqAt
def Uq:entryFor table "set.__iter__" = some Builtin.«frozenset.__iter__» :=
 entryFor_alias (id' := "frozenset.__iter__") IP rfl Lx IP
def FO:Slot "set_iterator" "__next__" "set_iterator.__next__" :=
 .of (owner := "set_iterator") (n := "__next__") zDg Lx
  (by decide +kernel) Lx (by first|exact .inl Lx|exact .inr Lx) zCQ
def Nb:entryFor table "set_iterator.__next__" = some Builtin.«set_iterator.__next__»:=entryFor_of_fast IP
def PC(a:VL):argsOk "set_iterator.__next__" ⟨[a],[]⟩:=by unfold argsOk;kernel_rfl
def O5:Slot "set_iterator" "__iter__" "set_iterator.__iter__" :=
 .of (owner := "set_iterator") (n := "__iter__") zDg Lx
  (by decide +kernel) Lx (by first|exact .inl Lx|exact .inr Lx) zCQ
def Uy:entryFor table "set_iterator.__iter__" = some Builtin.«dict_keyiterator.__iter__» :=
 entryFor_alias (id' := "dict_keyiterator.__iter__") IP rfl Lx IP
def Vu(a:VL):argsOk "set_iterator.__iter__" ⟨[a],[]⟩:=by unfold argsOk;kernel_rfl
section
variable{α:Type}{next:Nat->Nat}
def Zm:∀(n k:Nat) (left:lX) (out:Array α),left.length=n->(pickOrder.go next n k left out).toList.Perm (out.toList++left)
 |0,k,left,out,h=>by
  have:left=[]:=bK h;subst this;rw[pickOrder.go];simp
 |n+1,k,left,out,h=>by
  rw[pickOrder.go];have g:next k % left.length<left.length:=Nat.mod_lt _ AC;rw[List.getElem?_eq_getElem g];refine(Zm n RJ _ _ (by rw[List.length_eraseIdx_of_lt g];lia)).trans ?_;rw[Array.toList_push,List.append_assoc];refine List.Perm.append_left _ ?_;rw[List.eraseIdx_eq_take_drop_succ];have e:left.take (next k % left.length)++left[next k % left.length]::left.drop (next k % left.length+1)=left:=by rw[<-List.drop_eq_getElem_cons g,List.take_append_drop]
  have p:=List.perm_middle (a:=left[next k % left.length]) (l₁:=left.take (next k % left.length)) (l₂:=left.drop (next k % left.length+1));rw[e]at p;exact p.symm
def gU(xs:Array α):(pickOrder next xs).toList.Perm xs.toList:=by
 unfold pickOrder
 simpa using Zm xs.size 0 xs.toList #[] At
end
end TH
namespace TH
open PySem PyProof.Rows PySem.SeqAt
def HZ(w:IO)(S:AD)(ep:Nat)(ev:Rs):Array (Int×VL):=if w.params.followText "set-order" = true then pickOrder (w.params.setOrder S ep) ev else ev
def Vn(w:IO)(S:AD)(ep:Nat)(ev:Rs):(HZ w S ep ev).toList.Perm ev.toList:=by
 unfold HZ;split
 .exact gU ev
 .exact .refl _
def Mj(w:IO)(S:AD)(ep:Nat)(ev:Rs):(HZ w S ep ev).size=ev.size:=by simpa using (Vn w S ep ev).length_eq
def Kg(t:zCO):Nat->Nat
 |0=>0
 |i+1=>t.place.getD i 0+1
def FU(w:IO)(t:zCO)(i:Nat):Nat:=if w.params.followText "set-order" = true then 0 else Kg t i
def QG(t:zCO)(n:Nat):Bool:=(List.range (n+1)).all fun i=>decide (SetTable.below t.place (Kg t i)=i)
abbrev MZ(w:IO)(S:AD)(t:zCO)(ep n i:Nat):Obj:={ cls:=.type "set_iterator",data:=.fields #[rawInt ((FU w t i:Nat):Int),rawInt (i:Int),.ref S,rawInt (n:Int),rawInt (ep:Int)]}
structure Gx(w:IO)(o:Obj)(ev:Array (Int×Value))(ep:Nat)(t:zCO):Prop where
 ex:o.ExactSet
 dat:o.data=.set ev ep t
 fit:t.fits ev.size=true
 plain:t.plain=true
 led:t.led=!w.params.followText "set-order"
 walk:QG t ev.size=true
section
variable{prog:FS}{w:IO}{A:Ki}{E:yO}{s:SD}{S I:AD}{o:Obj}{ev:Rs}{ep i:Nat}{t:zCO}
def Uu{Q:bi}(h:Q (w.params.followText "set-order") s):wpAny AS A setsByText Q E s:=by
 unfold setsByText;exact Wb (wpAny_askSetting (aA h))
def Gx.fI(W:zZ):zq=false:=by rw[W.plain];rfl
def Gx.place(W:zZ):t.place.size=ev.size:=by
 have:=W.fit;unfold SetTable.fits at this;simp only[Bool.and_eq_true,beq_iff_eq]at this;exact this.1
def Xx{Q:Option (VL×Nat)->SD->Prop}(W:zZ)(ho:s.heap.get? S=some o)(hi:i<=ev.size)(h:Q ((HZ w S ep ev)[i]?.map fun e=>(e.2,FU w t M2)) s):wpAny AS A (setNext S (FU w t i) i ep) Q E s:=by
 unfold setNext;refine Wb (bL ho W.dat W.fit ?_);refine Wb (Uu ?_);cases g:w.params.followText "set-order" with
 |true=>
  rw[if_pos rfl];have U:¬(ep != ep)=true:=by simp
  rw[if_neg U];unfold setWalk;refine Wb (Wb (bL ho W.dat W.fit ?_));refine Wb (Uu ?_);rw[if_pos g];refine Wb (wpAny_askSetting Oz);refine aA ?_;have e:HZ w S ep ev=pickOrder (w.params.setOrder S ep) ev:=by unfold HZ;rw[if_pos g]
  rw[e]at h;have Y:FU w t i=FU w t M2:=by unfold FU;rw[if_pos g,if_pos g]
  rw[Y];exact h
 |false=>
  rw[if_neg aK];refine wpAny_ite_split (fun hd=>?_) fun _=>?_
  .have:zq=true:=hd;rw[W.fI]at this;cases this
  .refine Wb ?_;have hl:t.led=true:=by rw[W.led,g];rfl
   have hn:¬(!t.led && !ev.isEmpty)=true:=by rw[hl];simp
   show wpAny _ _ (if(!t.led && !ev.isEmpty)=true then unsupported "set:maker-not-led" else pure ()) _ _ _;rw[if_neg hn];refine aA Oz;have R:=W.walk;unfold QG at R;have R:=aL.mp R i (bV.mpr AC);have R:SetTable.below t.place (Kg t i)=i:=by simpa using R
   have e1:FU w t i=Kg t i:=by unfold FU;rw[g];rfl
   have Y:FU w t M2=Kg t M2:=by unfold FU;rw[g];rfl
   have e3:HZ w S ep ev=ev:=by unfold HZ;rw[g];rfl
   rw[Y,e3]at h;rw[e1,R];by_cases T:i<ev.size
   .have Z:i<t.place.size:=by rw[W.place];exact T
    rw[Array.getElem?_eq_getElem T]at h ⊢;rw[Array.getElem?_eq_getElem Z];have e4:Kg t M2=t.place[i]+1:=by
     rw[Kg,Array.getD_eq_getD_getElem?,Array.getElem?_eq_getElem Z]
     rfl
    rw[e4]at h;exact h
   .rw[Array.getElem?_eq_none AC]at h ⊢;exact h
def jt{Q:RC}{z:Int}{v:VL}(W:zZ)(U:s.heap.get? S=some o)(g:s.heap.get? I=some (MZ w S t ep ev.size i))(T:(HZ w S ep ev)[i]? = some (z,v)) (h:∀h',h'.get? I=some (MZ w S t ep ev.size M2)->Heap.SameBut I s.heap h'->Q zBT M0):wpAny AS A (pyNext zCC) Q E s:=by
 have Y:s.TypeIs zCC "set_iterator" := ⟨_,g,rfl⟩;have hlt:i<ev.size:=by
  have:=(Array.getElem?_eq_some_iff.mp T).1;rw[Mj]at this;exact this
 unfold pyNext;refine Wb (wpAny_attempt (ak (name:=Str.ofString "__next__") Y FO (ae FO Y Nb ?_ (PC _))));unfold Builtin.«set_iterator.__next__»;refine Wb (wpAny_of_eq (a:=(Value.ref I,[])) rfl ?_);refine Wb (wpAny_fieldsOf g rfl ?_);show wpAny _ _ (setEntries S>>=_) _ _ s;refine Wb (wpAny_setEntries_of U W.dat W.fit ?_);have R:¬((ev.size:Int) != (ev.size:Int))=true:=by simp
 dsimp only;rw[if_neg R];refine Wb ?_;show wpAny _ _ (setNext S (FU w t i) i ep) _ _ _;refine Xx W U AC ?_;rw[T];show wpAny _ _ (setField zCC 0 (rawInt ((FU w t M2:Nat):Int))>>=_) _ _ _;refine Wb (wpAny_setField g rfl At ?_);have Z:(s.heap.update I (Obj.mapFields (·.setIfInBounds 0 (rawInt ((FU w t M2:Nat):Int))))).get? I=some { cls:=.type "set_iterator",data:=.fields #[rawInt ((FU w t M2:Nat):Int),rawInt (i:Int),.ref S,rawInt (ev.size:Int),rawInt (ep:Int)]} :=
  Heap.get?_update_self _ g rfl
 refine Wb (wpAny_setField Z rfl At ?_);refine aA ⟨_,rfl,wpAny_pure (h _ ?_ ((aZ ..).trans (aZ ..)))⟩;exact Heap.get?_update_self _ Z rfl
def ju{Q:RC}(hh:oF)(W:zZ)(Y:s.heap.get? S=some o)(U:s.heap.get? I=some (MZ w S t ep ev.size ev.size)) (h:∀h',Heap.ExtBut I s.heap h'->Q none M0):wpAny AS A (pyNext zCC) Q E s:=by
 have Z:s.TypeIs zCC "set_iterator" := ⟨_,U,rfl⟩;unfold pyNext;refine Wb (wpAny_attempt (ak (name:=Str.ofString "__next__") Z FO (ae FO Z Nb ?_ (PC _))));unfold Builtin.«set_iterator.__next__»;refine Wb (wpAny_of_eq (a:=(Value.ref I,[])) rfl ?_);refine Wb (wpAny_fieldsOf U rfl ?_);show wpAny _ _ (setEntries S>>=_) _ _ s;refine Wb (wpAny_setEntries_of Y W.dat W.fit ?_);have g:¬((ev.size:Int) != (ev.size:Int))=true:=by simp
 dsimp only;rw[if_neg g];refine Wb ?_;show wpAny _ _ (setNext S (FU w t ev.size) ev.size ep) _ _ _;refine Xx W Y RW ?_;rw[Array.getElem?_eq_none (by rw[Mj];exact aJ _)];show wpAny _ _ (setField zCC 2 Value.none>>=_) _ _ _;refine Wb (wpAny_setField U rfl At ?_);refine Wb ?_;simp only[newExc,newTuple];refine Wb (bC ?_ zEr);refine Wb (m:=firstArgMember _ _) (wpAny_of_eq (a:=Value.none) (by first|rfl|(simp only[firstArgMember];rfl)) (bC ?_ zEr));simp only[raiseNew];refine Wb (wpAny_handled ?_);have R:A.in1.handled=none:=hh;rw[R];refine Wb (aA (wpAny_throw ?_));refine Wb (wpAny_isInstance (b:=true) (T := "StopIteration") ⟨_,Heap.get?_push_size _ rfl,rfl⟩ isSubtype_stop ?_);exact aA (h _ (((aZ ..).extBut.push _).push _))
def jj{Q:yO}(R:s.heap.get? I=some (MZ w S t ep ev.size i))(h:Q zCC s):wpAny AS A (pyIter zCC) Q E s:=by
 have g:s.TypeIs zCC "set_iterator" := ⟨_,R,rfl⟩;refine wpAny_pyIter_slot g O5 (ae O5 g Uy ?_ (Vu _));show wpAny _ _ (ret zCC) _ _ s;exact aA ⟨_,rfl, "set_iterator",_,g,FO.lookup,h⟩
def iP(hh:oF)(hne:S≠I)(W:zZ) :
  Walks prog w A I [I,S] [I] ev.size zFV (fun i h=>h.get? I=some (MZ w S t ep ev.size i)/\h.get? S=some o) where
 sub:=fun b hb=>by simp at hb;simp[hb]
 frame:=fun _ _ _ x k=>⟨k I At _ x.1,k S At _ x.2⟩
 item:=fun i s Q E hi x hQ=>by
  have hi':i<(HZ w S ep ev).size:=by rw[Mj];exact hi
  obtain⟨z,v,hx⟩:∃z v,(HZ w S ep ev)[i]? = some (z,v):=⟨(HZ w S ep ev)[i].1,(HZ w S ep ev)[i].2,by rw[Array.getElem?_eq_getElem hi']⟩;refine jt W x.2 x.1 hx fun h' g sb=>hQ v h' s.toks ⟨z,hx⟩ ⟨g,(sb.2 S hne).trans x.2⟩ fun b u hb e=>?_;rw[sb.2 b fun q=>hb (by simp[q])];exact e
 done:=fun s Q E x hQ=>ju hh W x.2 x.1 fun h' eb=>hQ h' s.toks fun b u hb e=>eb b u (fun q=>hb (by simp[q])) e
 self:=fun _ _ _ _ x hQ=>jj x.1 hQ
def jf{Q:bi}(U:s.TypeIs (.ref S) "set")(h:Q false s):wpAny AS A (Builtin.List.listLengthHint (.ref S)) Q E s:=by
 unfold Builtin.List.listLengthHint;refine Wb (wpAny_specialOf U PySem.F.slot_set_len.lookup ?_);generalize g:("set.__len__" : zAG)=R
 wp_delta
 rw[show splitId R=some ("set","__len__") from by subst g;decide +kernel];subst g;refine Wb (wpAny_isInstance (b:=true) (T := "set") U zCQ ?_);refine wpAny_ite_split (fun z=>absurd z AT) fun _=>?_;refine wpAny_ite_split (fun _=>?_) fun z=>absurd Lx z;exact Wb (wpAny_typeOf U (aA h))
def iU{Q:yO}(W:zZ)(g:s.heap.get? S=some o)(h:Q EK {s with heap:=s.heap.push (MZ w S t ep ev.size 0)}):wpAny AS A (pyIter (.ref S)) Q E s:=by
 have R:s.TypeIs (.ref S) "set" := ⟨o,g,W.ex.1⟩;refine wpAny_pyIter_slot R PySem.F.slot_set_iter (ae PySem.F.slot_set_iter R Uq ?_ (PySem.F.args_set_iter_1 _));unfold Builtin.«frozenset.__iter__»;refine Wb (wpAny_of_eq (a:=S) rfl ?_);unfold Builtin.Frozenset.sizeOf;refine Wb (Wb (wpAny_setEntries_of g W.dat W.fit Oz));unfold setDrawn;refine Wb (Wb (bL g W.dat W.fit (Wb (Uu Oz))));have hd:(!w.params.followText "set-order" && zq)=false:=by rw[W.fI];simp
 refine wpAny_ite_split (fun z=>?_) fun _=>?_
 .have:(!w.params.followText "set-order" && zq)=true:=z;rw[hd]at this;cases this
 refine Wb Oz;unfold setEpoch;refine Wb (Wb (bL g W.dat W.fit Oz));have T:FU w t 0=0:=by unfold FU Kg;split<;>rfl
 refine Wb (bC (aA ⟨_,rfl, "set_iterator",_,⟨_,Heap.get?_push_size _ rfl,rfl⟩,FO.lookup,?_⟩));unfold MZ at h;rw[T]at h;exact h
def l8(W:zZ):PySem.W.KdlSrc prog w "set" S S ev.size zFV (fun h=>h.get? S=some o) where
 type:=fun _ ho=>⟨o,ho,W.ex.1⟩
 there:=fun _ ho=>⟨aF ho,Heap.lt_size ho⟩
 keep:=fun _ _ ho k=>k S SZ _ ho
 notList:=by decide
 notTuple:=by decide
 hint:=fun _ _ s _ ho h=>jf ⟨o,ho,W.ex.1⟩ h
 iter:=fun A s hh ho=>⟨MZ w S t ep ev.size 0,_,(fun E Q h=>iU W ho h),iP hh (aG (aF ho)) W,⟨aN _ rfl,Heap.get?_push_of_some _ ho⟩⟩
end
end TH
namespace TH
open PySem PyProof.Rows PySem.SeqAt
def Paired.perm{α Z:Type}{F:α->Z->Prop}{l l':lX}(p:l'.Perm l):∀ {m:List Z},Paired F l m->∃g,g.Perm m/\Paired F l' g:=by
 induction p with
 |nil=>intro m r;exact⟨m,.refl _,r⟩
 |cons x _ ih=>
  intro m r;cases r with
  |cons h T=>
   obtain⟨g,p',q⟩:=ih T;exact⟨_::g,p'.cons _,.cons h q⟩
 |swap x y l=>
  intro m r;cases r with
  |cons h T=>
   cases T with
   |cons h' R=>exact⟨_::_::_,List.Perm.swap ..,.cons h' (.cons h R)⟩
 |trans _ _ Y U=>
  intro m r;obtain⟨m1,p1,q1⟩:=U r;obtain⟨m2,p2,q2⟩:=Y q1;exact⟨m2,p2.trans p1,q2⟩
variable{G:zAq}
def b5{h:Heap}:∀ {l:zDH} {m:zDI},Paired (RZ G h) l m->Vs h (Tr.of (m.map zF)) (l.map zF)
 |_,_,.nil=>by rw[List.map_nil,List.map_nil,Tr.of,Vs]
 |_,_,.cons (a:=(z,v)) ⟨_,_,_,a,g,e,T,R⟩ r=>by
  have e:v=.ref a:=e;subst e;rw[List.map_cons,List.map_cons,Tr.of,Vs];exact⟨a,g,_,rfl,T,R,b5 r⟩
def VQ{h:Heap}:∀ {l:zDH} {m:zDI},Paired (RZ G h) l m->∀c∈m.map zF,c.deep<8
 |_,_,.nil,c,g=>by cases g
 |_,_,.cons ⟨_,hd,_⟩ r,c,g=>by
  rw[List.map_cons]at g;rcases aM.mp g with rfl|g
  .exact hd
  .exact VQ r c g
def fH{h:Heap}:∀ {l:zDH} {m:zDI},Paired (RZ G h) l m->Paired G (l.map zF) (m.map zF)
 |_,_,.nil=>.nil
 |_,_,.cons ⟨_,_,g,_⟩ r=>.cons g (fH r)
def Paired.ky{α g:Type}{F:α->g->Prop}{l:lX}{m:List g}(r:Paired F l m)(d:α)(e:g):∀(ix:List Nat),(∀i∈ix,i<l.length)->Paired F (ix.map fun i=>l.getD i d) (ix.map fun i=>m.getD i e)
 |[],_=>.nil
 |i::ix,h=>by
  have Y:=r.length;have hi:=h i aX;have hm:m[i]? = some m[i]:=aH AC;obtain⟨x,U,T⟩:=Paired.get r hm;rw[List.map_cons,List.map_cons];refine .cons ?_ (Paired.ky r d e ix fun j R=>h j (aU _ R));rw[List.getD_eq_getElem?_getD,List.getD_eq_getElem?_getD,U,hm];exact T
def j9{l m:yc}(p:l.Perm m):Tr.Cn l=Tr.Cn m:=Tr.M8 (Tr.MR l) (Tr.MR m) ((Tr.Ls l).trans (p.trans (Tr.Ls m).symm))
section
variable{prog:FS}{w:IO}{A:Ki}{E:yO}{s:SD}
def gather{T:zAG}{r d:AD}{n:Nat}{P:Nat->VL->Prop}{OK:Heap->Prop}{R:List VL->SD->Prop}(K:PySem.W.KdlSrc prog w T r d n P OK)(hA:oF)(A5:OK s.heap)(hn:n<=sizeLine) (k:∀(U:Heap) (tk:Nat) (g:re),s.heap.objs.size<U.objs.size->(∀b u,s.heap.get? b=some u->U.get? b=some u)->ItemsOf P g n->R g.toList {s with heap:=U,toks:=tk}):wpAny AS A (collect (.ref r)) R E s:=by
 obtain⟨lr,ld⟩:=K.there _ A5;unfold collect;refine Wb zDW;rw[Around.under_plainId PySem.F.plain_proto_collect _];show wpAny _ A.in1 (newList []>>=fun v=>again (.builtin "list.__iadd__" ⟨[v,.ref r],[]⟩)) _ _ s;refine Wb (bC (aA ⟨plainId_quiet PySem.F.plain_list_iadd _,codeAny_builtin entry_list_iadd' ?_⟩));rw[Around.under_plainId PySem.F.plain_list_iadd _];have g0:(s.heap.push { cls:=.type "list",data:=.seq ([]:List VL).toArray}).get? s.heap.objs.size=some { cls:=.type "list",data:=.seq #[]}:=aN _ rfl;have main:=PySem.W.kdl_extend (A:=A) (s:={s with heap:=s.heap.push { cls:=.type "list",data:=.seq ([]:List VL).toArray} }) K hA
  (K.keep _ _ A5 fun _ _ _ e=>aE _ e) s.heap.objs.size (aj lr) (aj ld) EK 0 g0
  (R:=fun q s1=>∃U tk g c,q=.ok (.ret EK)/\s1={s with heap:=U,toks:=tk}/\(∀b u,s.heap.get? b=some u->U.get? b=some u)/\U.get? s.heap.objs.size=some { cls:=.type "list",dict:=none,data:=.seq g c,slots:=#[]}/\ItemsOf P g n)
  (fun U tk g c Z Y ha=>⟨U,tk,g,c,rfl,rfl,fun b u e=>Z b u (aG z0) (aE _ e),Y,ha⟩) hn
 refine ao main (fun fin s1 x=>?_) fun e s1 x=>?_
 .cases fin with
  |done f=>
   obtain⟨U,tk,g,c,e,rfl,Z,Y,ha⟩:=x;cases e;show wpAny _ A (load s.heap.objs.size>>=_) _ _ _;exact Wb (wpAny_load Y (aA (k U tk g (aF Y) Z ha)))
  |again c1=>
   refine⟨x.1,codeAny_mono x.2 fun q s2 y=>?_⟩;obtain⟨U,tk,g,c,rfl,rfl,Z,Y,ha⟩:=y;show wpAny _ A (load s.heap.objs.size>>=_) _ _ _;exact Wb (wpAny_load Y (aA (k U tk g (aF Y) Z ha)))
 .obtain⟨_,_,_,_,z,_⟩:=x;cases z
end
section
variable{prog:FS}{w:IO}{A:Ki}{E:yO}{s:SD}{S:AD}{o:Obj}{ev:Rs}{et:ES}{ep:Nat}{t:zCO}
def cA{Q:yO}(hA:oF)(W:zZ)(ho:s.heap.get? S=some o)(R:Eh G s.heap ev et)(h64:et.size<64)(hu:A.units+20<cLine) (h:∀(h':Heap) (D tk Z:Nat) (us:yN),s.heap.objs.size<=D->(∀b u,s.heap.get? b=some u->h'.get? b=some u)->h'.get? D=some (seqObj "list" us.toArray Z)->Paired G us (Tr.Cn (et.toList.map zF)).reverse->us.length<64 ->Q ra Fr):wpAny AS A (call lm [.ref S]) Q E s:=by
 have hsz:=R.size;refine Calls.call_function_entry kind_sorted plain_sorted entry_sorted (args_sorted1 _) ?_;unfold Builtin.«sorted»;refine Wb (m:=checkCount "sorted" 1 1 _) Oz;refine Wb (gather (A:=A.in1) (l8 W) hA ho (Ir AC) fun Y tk g z1 k1 T=>?_);have hal:g.toList=(HZ w S ep ev).toList.map zF:=by
  apply List.ext_getElem?;intro j;rw[List.getElem?_map];by_cases hj:j<g.size
  .have Z:g[j]? = some g[j]:=Array.getElem?_eq_getElem hj;obtain⟨z,e2⟩:=T.2 j _ Z;rw[Array.getElem?_toList,Z,Array.getElem?_toList,e2]
   rfl
  .have hj2:¬j<(HZ w S ep ev).size:=by rw[Mj,<-T.1];exact hj
   rw[List.getElem?_eq_none (by simpa using hj),List.getElem?_eq_none (by simpa using hj2)]
   rfl
 obtain⟨m,pm,rm⟩:=Paired.perm (Vn w S ep ev) R;have hvs:=b5 rm;rw[<-hal]at hvs;have hd:(Tr.of (m.map zF)).deep<=8:=(Tr.Qj 8 _).mpr fun c hc=>by have:=VQ rm c hc;lia
 have U:g.toList.length<64:=by rw[Array.length_toList,T.1,hsz];exact h64
 refine Wb (wpAny_newList ?_ (Ir AC));have g1:(Y.push zR).get? Y.objs.size=some zR:=aN _ rfl;have k2:∀b u,s.heap.get? b=some u->(Y.push zR).get? b=some u:=fun b u e=>aE _ (k1 b u e);refine Wb (aS (ae slot_list_sort ⟨_,g1,rfl⟩ entry_list_sort (O0 (s:={s with heap:=Y.push zR,toks:=tk}) g1 (hvs.keeps fun b u e _=>k2 b u e) U
  (by rw[show A.in1.in1.units=A.units+2 from rfl];lia) fun ix a1 a2 a3=>⟨_,rfl,?_⟩) (args_list_sort _)))
 obtain⟨Z,he1⟩:=sortedHeap_at (vs:=g.toList) (out:=(ix.map fun i=>g.toList.getD i Value.none).toArray) g1;refine aA ⟨_,rfl,h _ Y.objs.size tk Z (ix.map fun i=>g.toList.getD i Value.none) ?_ (fun b u e=>?_) he1 ?_ (by rw[List.length_map,a1];exact U)⟩
 .exact bG z1
 .have lb:b<Y.objs.size:=aF (k1 b u e);rw[sortedHeap_old (aG lb) (by rw[Heap.size_push];exact bE lb)];exact k2 b u e
 .have hg:=fH rm;rw[<-hal]at hg;have:=Paired.ky hg Value.none Tr.nil ix a2;rw[Tr.Qf]at a3;rw[a3,j9 (pm.map zF)]at this;exact this
end
end TH
namespace TH
open PySem PyProof.Rows PySem.SeqAt
section
variable{prog:FS}{w:IO}{E:yO}
def Xc(prog:FS)(w:IO)(E:yO)(t:Tr):Prop:=∀(us:LY) (A:Ki) (s:SD) (b:Array Int) (Q:Array Int->SD->Prop),Vs s.heap t us->A.units+t.deep<=cLine ->
 (∀g,g.toList=b.toList++LK t->Q g {s with toks:=s.toks+(t.AI-1)})->wpAny AS A zw Q E s
def PQ{t:Tr}(row:Xc prog w E t){a:AD}{g:yN}{A:Ki}{s:SD}{Q:Int->SD->Prop}(R:zBg)(h2:Vs s.heap t g)(hu:XN) (h:Q (BX t) {s with toks:=s.toks+t.AI}):wpAny AS A (pyHash HY) Q E s:=by
 have hT:=IsTuple.ty rfl R;obtain⟨o,U,hc,n,hd⟩:=id R;refine PySem.W.pyHash_slot (T := "tuple") hT F.slot_tuple_hash F.entry_tuple_hash (F.args_tuple_hash_1 _) (beq_builtin_none _) (.inr AC) ?_;show wpAny _ _ (Builtin.Tuple.tupleItemsOf HY>>=_) _ _ s;refine Wb (wpAny_tupleItemsOf U hd ?_);refine Wb ?_;rw[<-Array.forIn_toList];refine row g A.in1 s #[] _ h2 zAd fun b Z=>?_;show wpAny _ _ (retInt (Builtin.Tuple.tupleHashOf b.toList)) _ _ _;rw[Z];have Y:s.toks+(t.AI-1)+1=s.toks+t.AI:=by have:=Tr.EJ t;lia
 refine Wb (wpAny_mkInt (aA ⟨_,_,rfl,?_⟩));rw[Y];exact h
def Pd:∀t:Tr,Xc prog w E t
 |.nil=>fun us A s b Q e _ h=>by rw[Vs]at e;subst e;exact aA (h b (by simp[LK]))
 |.cons c r=>fun us A s b Q e hu h=>by
  rw[Vs]at e;obtain⟨a,g,rest,rfl,Z,Y,U⟩:=e;have hd:(Tr.cons c r).deep=max (c.deep+1) r.deep:=rfl;have hk:(Tr.cons c r).AI=c.AI+r.AI:=rfl;have hr:=Tr.EJ r;rw[List.forIn_cons];refine Wb (Wb (PQ (Pd c) Z Y AC ?_));refine Wb (aA Oz);refine Pd r rest A _ _ Q U AC fun b' T=>?_;have R:s.toks+c.AI+(r.AI-1)=s.toks+((Tr.cons c r).AI-1):=by lia
  have:=h b' (by simp[T,LK,BX]);rw[<-R]at this;exact this
def L9(prog:FS)(w:IO):HeapKind prog w Tr where
 is:=fun h t a=>t.deep<8/\∃its,h.IsTuple a its.toArray/\Vs h t its
 hash:=BX
 draws:=Tr.AI
 room:=fun A=>A.units+8<cLine
 inj:=fun⟨_,i1,a1,a2⟩ ⟨_,i2,b1,b2⟩=>by
  have:=Iq a1 b1;have e:i1=i2:=by simpa using this
  subst e;exact Vs.inj a2 b2
 keeps:=fun {h h' k a d o es ep} ⟨hd,its,h1,h2⟩ ho hdt sb=>by
  have kt:∀b u,h.get? b=some u->u.cls=.type "tuple" ->(∃x n,u.data=.seq x n)->h'.get? b=some u:=fun b u e _ ⟨x,n,hx⟩=>by
   rw[sb.2 b fun z=>?_]
   .exact e
   .subst z;rw[ho]at e;cases e;rw[hdt]at hx;cases hx
  have kv:∀ {t:Tr} {us:LY},Vs h t us->Vs h' t us:=fun {t}=>by
   induction t with
   |nil=>intro us e;rw[Vs]at e ⊢;exact e
   |cons b r ih1 ih2=>
    intro us e;rw[Vs]at e ⊢;obtain⟨a,its,rest,e1,⟨u,hu,hc,n,hx⟩,e3,e4⟩:=e;exact⟨a,its,rest,e1,⟨u,kt _ _ hu hc ⟨_,n,hx⟩,hc,n,hx⟩,ih1 e3,ih2 e4⟩
  obtain⟨u,hu,hc,n,hx⟩:=h1;exact⟨hd,its,⟨u,kt _ _ hu hc ⟨_,n,hx⟩,hc,n,hx⟩,kv h2⟩
 pyHash:=fun hr ⟨hd,its,h1,h2⟩ h=>PQ (Pd _) h1 h2 AC h
 eqBool:=fun {A E s x y a b Q} hr ⟨hd,its,h1,h2⟩ ⟨_,its2,k1,k2⟩ h=>OV h1 h2 k1 k2 AC prog w E Q h
 quiet:=fun⟨hd,its,h1,h2⟩ h=>quiet 8 ⟨_,its,_,rfl,h1,h2,hd⟩ h
end
end TH
namespace TH
open PySem PyProof.Rows
def BJ:Option Tr->Int
 |none=>4238894112
 |some t=>BX t
def DJ:Option Tr->Nat
 |none=>1
 |some t=>t.AI
def HJ(h:Heap):Option Tr->VL->Prop
 |none,v=>v=.none
 |some t,v=>∃a,v=.ref a/\t.deep<8/\∃g,h.IsTuple a g.toArray/\Vs h t g
abbrev KE:=Option Tr×VL×VL
def EW(x:KE):DictEntry:=⟨BJ x.1,x.2.1,x.2.2⟩
def TJ{p:Nat->Bool}{j:Nat}:∀ {n:Nat},j<n->p j=true->(∀i,i<n->p i=true->i=j)->(List.range n).filter p=[j]
 |0,h,_,_=>absurd h zCr
 |n+1,h,T,g=>by
  rw[List.range_succ,List.filter_append];by_cases e:j=n
  .subst e;have:(List.range j).filter p=[]:=List.filter_eq_nil_iff.mpr fun i hi R=>by
    have:=bV.mp hi;have:=g i AC R
    lia
   rw[this];simp[T]
  .have hn:p n=false:=by
    cases q:p n with
    |false=>rfl
    |true=>exact absurd (g n AC q).symm e
   rw[TJ (show j<n by lia) T fun i hi=>g i AC];simp[hn]
section
variable{prog:FS}{w:IO}{A:Ki}{E:yO}{s:SD}{d:AD}{o:Obj}{es:Array DictEntry}{ep:Nat}{xs:List KE}{k:LT}{kv:VL}
def NQ(g:zCD)(j:Nat):es[j]? = (xs[j]?).map EW:=by rw[<-Array.getElem?_toList,g,List.getElem?_map]
def RV(g:zCD):es.size=xs.length:=by rw[<-Array.length_toList,g,List.length_map]
def VW(Y:zCD)(T:TD)(R:∀x∈xs,x.1≠k):placesWithHash es.size (fun i=>es[i]?.map (·.hash)) (BJ k)=[]:=by
 unfold placesWithHash;refine List.filter_eq_nil_iff.mpr fun i hi g=>?_;dsimp only at g;rw[NQ Y]at g;cases q:xs[i]? with
 |none=>rw[q]at g;simp at g
 |some x=>
  rw[q]at g;have U:=aO q;have:BJ x.1=BJ k:=by simpa[EW]using g
  exact R x U (T x U this)
def TR(T:zCD)(U:TD)(hn:(xs.map Nh).Nodup){j:Nat}{x:KE}(R:xs[j]? = some x)(Y:x.1=k):placesWithHash es.size (fun i=>es[i]?.map (·.hash)) (BJ k)=[j]:=by
 unfold placesWithHash;have hl:j<xs.length:=(aD.mp R).1;refine TJ (by rw[RV T];exact hl) (by dsimp only;rw[NQ T,R,<-Y];simp[EW]) fun i hi g=>?_;dsimp only at g;rw[NQ T]at g;cases q:xs[i]? with
 |none=>rw[q]at g;simp at g
 |some y=>
  rw[q]at g;have hy:=U y (aO q) (by simpa[EW]using g);have Z:(xs.map Nh)[i]? = some k:=by rw[List.getElem?_map,q];show some y.1=_;rw[hy]
  have h2:(xs.map Nh)[j]? = some k:=by rw[List.getElem?_map,R];show some x.1=_;rw[Y]
  exact(List.getElem?_inj (aD.mp Z).1 hn).mp (Z.trans h2.symm)
def mn{Q:bi}(h:Q true s):wpAny AS A (eqBool .none .none) Q E s:=by
 unfold eqBool;rw[if_pos (by rfl)];exact Wb (bH (aA h))
def HJ.inj{h:Heap}{x y:LT}{v:VL}(a:HJ h x v)(b:HJ h y v):x=y:=by
 cases x with
 |none=>
  cases y with
  |none=>rfl
  |some t=>
   obtain⟨_,e,_⟩:=b;rw[show v=.none from a]at e;cases e
 |some u=>
  cases y with
  |none=>
   obtain⟨_,e,_⟩:=a;rw[show v=.none from b]at e;cases e
  |some t=>
   obtain⟨a1,U,T⟩:=a;obtain⟨a2,g,R⟩:=b;rw[U]at g;cases g;obtain⟨_,i1,b1,b2⟩:=T;obtain⟨_,i2,Z,Y⟩:=R;have:i1=i2:=by simpa using Iq b1 Z
   subst this;rw[Vs.inj b2 Y]
def YB{Q:Option Nat->SD->Prop}(hu:zEa)(hk:zBk)(ho:s.heap.get? d=some o)(hd:o.data=.dict es ep)(he:zCD)(his:∀x∈xs,HJ s.heap x.1 x.2.1)(hn:(xs.map Nh).Nodup)(U:TD) (hno:(∀x∈xs,x.1≠k)->Q none s)(Y:∀(j:Nat) (x:KE),xs[j]? = some x->x.1=k->Q (some j) s):wpAny AS A (dictFind d kv (BJ k)) Q E s:=by
 unfold dictFind
 try with_reducible refine aS ?_
 refine Wb (wpAny_dictEntries ho hd ?_);cases k with
 |none=>
  have hk:kv=.none:=hk;subst hk;dsimp only;by_cases g:∃x∈xs,x.1=none
  .obtain⟨x,hm,g⟩:=g;obtain⟨j,hj⟩:=ai.mp hm;have hp:=TR (k:=none) he U hn hj g;have R:es[j]? = some ⟨BJ none,.none,x.2.2⟩:=by
    rw[NQ he,hj];have h1:=his x hm;rw[g]at h1;show some (EW x)=_;unfold EW;rw[g,show x.2.1=Value.none from h1]
   rw[hp];rw[if_pos (by simp[R,carriedByValue])];unfold dictWalkPlain;simp only[List.forIn_cons,List.forIn_nil,R];refine Wb (Wb ?_);rw[if_pos At];refine Wb (wpAny_dictEpoch ho hd (Wb (mn (Wb (wpAny_dictEpoch ho hd ?_)))));rw[if_neg At,if_pos rfl];exact Wb (bH (aA (aA (aA (Y j x hj g)))))
  .have hp:=VW (k:=none) he U fun x hm z=>g ⟨x,hm,z⟩;rw[hp,if_pos zFQ];unfold dictWalkPlain;simp only[List.forIn_nil];exact Wb (aA (aA (hno fun x hm z=>g ⟨x,hm,z⟩)))
 |some t=>
  obtain⟨a,rfl,T⟩:=hk;dsimp only;have hany:¬(es.any fun e=>e.key==Value.ref a&&e.hash != BJ zAr)=true:=by
   intro z;rw[<-Array.any_toList,he,List.any_eq_true]at z;obtain⟨e,hm,z⟩:=z;obtain⟨x,g,rfl⟩:=aQ.mp hm;rw[Bool.and_eq_true]at z;have h1:x.2.1=.ref a:=by simpa[EW]using z.1
   have h2:=his x g;rw[h1]at h2;have h3:=h2.inj (show HJ s.heap zAr HY from⟨a,rfl,T⟩);have h4:=z.2;rw[EW,h3]at h4;simp at h4
  by_cases g:∃x∈xs,x.1=some t
  .obtain⟨x,hm,g⟩:=g;obtain⟨j,hj⟩:=ai.mp hm;have hp:=TR (k:=some t) he U hn hj g;have h1:=his x hm;rw[g]at h1;obtain⟨b,hb,htb⟩:=h1;have R:es[j]? = some ⟨BJ zAr,.ref b,x.2.2⟩:=by
    rw[NQ he,hj];show some (EW x)=_;unfold EW;rw[g,hb]
   have hst:([j].filterMap fun i=>es[i]?.map (·.key))=[.ref b]:=by simp[R]
   rw[hp,hst,if_neg zFQ,if_neg hany];by_cases Z:(([Value.ref b]:List VL)==[Value.ref a])=true<;>(first|rw[if_pos Z]|rw[if_neg Z])<;>(first|refine Wb (aA ?_)|refine Wb (wpAny_tableMayTell_quiet (knd:=L9 prog w) T (fun v hv=>⟨t,b,List.mem_singleton.mp hv,htb⟩) ?_))<;>(
    rw[if_neg At];simp only[List.forIn_cons,List.forIn_nil,R];refine Wb (Wb ?_);rw[if_pos At];refine Wb (wpAny_dictEpoch ho hd (Wb ((L9 prog w).eqBool (x:=t) (y:=t) hu htb T (Wb (wpAny_dictEpoch ho hd ?_)))));rw[if_neg At,if_pos At,if_neg At];refine Wb (bH ?_);rw[if_pos At];exact aA (aA (aA (Y j x hj g))))
  .have hp:=VW (k:=some t) he U fun x hm z=>g ⟨x,hm,z⟩;rw[hp,if_neg zFQ,if_neg hany];rw[if_neg At];refine Wb (wpAny_tableMayTell_quiet (knd:=L9 prog w) T (fun v hv=>by cases hv) ?_);rw[if_neg At];simp only[List.forIn_nil];exact Wb (aA (aA (hno fun x hm z=>g ⟨x,hm,z⟩)))
def Xy{Q:Int->SD->Prop}(Y:zEa)(R:zBk)(h:Q (BJ k) za):wpAny AS A (pyHash kv) Q E s:=by
 cases k with
 |some t=>
  obtain⟨a,rfl,T⟩:=R;exact(L9 prog w).pyHash Y T h
 |none=>
  have R:kv=.none:=R;subst R;have g:s.TypeIs .none "NoneType" := rfl;unfold pyHash pyHashByItsType;have U:[Value.none].any Value.onHeap=false:=rfl;refine Wb ?_;rw[cRoomFor,if_neg (by rw[U];exact aK)];refine aA ?_;refine Wb zEx;show wpAny _ _ (if(some (Value.builtin "NoneType.__hash__")==some Value.none)=true then _ else _) Q E s;rw[if_neg (by rw[beq_builtin_none];exact aK)];refine Wb zEx;show wpAny _ _ (callSpecialIfBoundUnlessNone? .none "__hash__" _>>=_) Q E s;refine Wb (wpAny_callSpecialIfBoundUnlessNone?_slot g F.slot_NoneType_hash
   (ae F.slot_NoneType_hash g F.entry_NoneType_hash
    (show wpAny _ _ (do ret (<-mkInt 4238894112)) _ _ s from wpAny_ret_mkInt ?_) (F.args_NoneType_hash_1 _)))
  show wpAny _ _ (if(decide (-(2:Int)^63<=4238894112)&&decide ((4238894112:Int)<2^63))=true then _ else _) Q E _;rw[if_pos AT];exact aA h
def HF(xs:List KE)(k:LT):Option KE:=xs.find? fun x=>decide (x.1=k)
def OU(hn:(xs.map Nh).Nodup){j:Nat}{x:KE}(g:xs[j]? = some x)(R:x.1=k):HF xs k=some x:=by
 unfold HF;cases q:xs.find? (fun x=>decide (x.1=k)) with
 |none=>exact absurd (bg R) (bj.mp q x (aO g))
 |some y=>
  have U:y.1=k:=by simpa using List.find?_some q
  obtain⟨i,hi⟩:=ai.mp (List.mem_of_find?_eq_some q);have T:(xs.map Nh)[i]? = some k:=by rw[List.getElem?_map,hi];show some y.1=_;rw[U]
  have Y:(xs.map Nh)[j]? = some k:=by rw[List.getElem?_map,g];show some x.1=_;rw[R]
  have:=(List.getElem?_inj (aD.mp T).1 hn).mp (T.trans Y.symm);subst this;rw[hi]at g;exact g
def LO(h:∀x∈xs,x.1≠k):HF xs k=none:=bj.mpr fun x g=>by simpa using h x g
structure FC(h:Heap)(d:Addr)(xs:List KE):Prop where
 ob:∃o es ep,h.get? d=some o/\o.ExactDict/\o.data=.dict es ep/\es.toList=xs.map EW
 ks:∀x∈xs,HJ h x.1 x.2.1
 nd:(xs.map Nh).Nodup
def FC.ty(hm:zDJ):s.TypeIs zDm "dict" := let⟨o,_,_,g,R,_⟩:=hm.ob;⟨o,g,R.1⟩
def kz{Q:RC}(T:zEa)(Y:zBk)(hm:zDJ)(R:TD)(h:Q ((HF xs k).map (·.2.2)) za):wpAny AS A (dictGet d kv) Q E s:=by
 obtain⟨o,es,ep,U,_,hd,he⟩:=hm.ob;unfold dictGet
 try with_reducible refine aS ?_
 refine Wb (Xy T Y (Wb (YB (s:={s with toks:=s.toks+DJ k}) T Y U hd he hm.ks hm.nd R (fun g=>?_) fun j x Z hx=>?_)))
 .rw[LO g]at h;exact aA h
 .rw[OU hm.nd Z hx]at h;refine Wb (wpAny_dictEntries (s:={s with toks:=s.toks+DJ k}) U hd ?_);rw[NQ he j,Z];exact aA h
def sL{x:KE}{Q:yO}(T:zEk)(U:zBk)(hm:zDJ)(g:TD)(R:HF xs k=some x)(h:Q x.2.2 za):wpAny AS A (getItem zDm kv) Q E s:=by
 unfold getItem
 try with_reducible refine aS ?_
 refine Wb (wpAny_sequenceKey hm.ty AT ?_);refine Wb (ak (name:=Str.ofString "__getitem__") hm.ty slot_dict_getitem (ae slot_dict_getitem hm.ty entry_dict_getitem ?_ (args_dict_getitem _ _)));show wpAny _ _ (dictGet d kv>>=_) _ _ s;refine Wb (kz T U hm g ?_);rw[R];exact aA ⟨x.2.2,rfl,wpAny_pure h⟩
def xM{Q:yO}(T:zEk)(U:zBk)(hd:(d==sysModules)=false)(hm:zDJ)(g:TD)(neg:Bool) (h:Q (.bool (if neg then !(HF xs k).isSome else(HF xs k).isSome)) za):wpAny AS A (compareOp (if neg then .NotIn else .In) kv zDm) Q E s:=by
 have key:∀ {Q:bi},Q (HF xs k).isSome za->wpAny AS A (contains zDm kv) Q E s:=fun {Q} h=>by
  unfold contains
  try with_reducible refine aS ?_
  refine Wb (wpAny_specialOf hm.ty slot_dict_contains.lookup ?_);show wpAny _ _ (if(some (Value.builtin "dict.__contains__")==some Value.none)=true then _ else _) _ E s;rw[if_neg (by rw[beq_builtin_none];exact aK)];refine Wb (wpAny_callSpecialUnlessNone?_slot (name:=Str.ofString "__contains__") hm.ty slot_dict_contains (ae slot_dict_contains hm.ty entry_dict_contains ?_ (args_dict_contains _ _)));show wpAny _ _ (dictGet d kv>>=_) _ _ s;refine Wb (kz T U hm g ?_);cases R:HF xs k with
  |some p=>
   rw[R]at h;show wpAny _ _ (ret KQ) _ _ _;exact aA ⟨_,rfl,wpAny_truthy_bool h⟩
  |none=>
   rw[R]at h;show wpAny _ _ (Builtin.Dict.pendingKey? d kv>>=_) _ _ _;exact Wb (wpAny_pendingKey_other hd (aA ⟨_,rfl,wpAny_truthy_bool h⟩))
 cases neg with
 |false=>
  show wpAny _ _ (do return .bool (<-contains zDm kv)) Q E s;exact Wb (key (aA h))
 |true=>
  show wpAny _ _ (do return .bool (!(<-contains zDm kv))) Q E s;exact Wb (key (aA h))
def putN(k:LT)(v:VL)(x:KE):KE:=if x.1=k then(x.1,x.2.1,v) else x
def EA(xs:List KE)(k:LT)(kv v:VL):List KE:=if(HF xs k).isSome then xs.map (putN k v) else xs++[(k,kv,v)]
def Rz(v:VL):∀xs:List KE,(xs.map (putN k v)).map Nh=xs.map Nh
 |[]=>rfl
 |x::xs=>by
  rw[List.map_cons,List.map_cons,List.map_cons,Rz v xs]
  congr 1
  unfold putN;split<;>rfl
def Ol{v:VL}:∀ {xs:List KE} {j:Nat} {x:KE},(xs.map Nh).Nodup->xs[j]? = some x->x.1=k->(xs.map EW).modify j (fun e=>{e with val:=v})=(xs.map (putN k v)).map EW
 |[],_,_,_,h,_=>by simp at h
 |y::ys,0,x,hn,h,g=>by
  have:y=x:=by simpa using h
  subst this;rw[List.map_cons,List.nodup_cons]at hn;rw[List.map_cons,List.map_cons,List.map_cons];have R:ys.map (putN k v)=ys:=by
   refine(aY fun z T=>?_).trans (List.map_id _);unfold putN;rw[if_neg fun e=>hn.1 (by rw[g,<-e];exact ay T)]
   rfl
  rw[R];show { EW y with val:=v}::ys.map EW=_
  congr 1
  unfold putN;rw[if_pos g]
  rfl
 |y::ys,j+1,x,hn,h,g=>by
  have h':ys[j]? = some x:=by simpa using h
  rw[List.map_cons,List.nodup_cons]at hn;rw[List.map_cons,List.map_cons,List.map_cons];have U:putN k v y=y:=by
   unfold putN;rw[if_neg fun e=>hn.1 (by rw[e,<-g];exact ay (aO h'))]
  rw[U];show EW y::(ys.map EW).modify j _=_;rw[Ol hn.2 h' g]
def HJ.keep{h h':Heap}{k:LT}{v:VL}{o:Obj}{es ep}(a:HJ h k v)(prog:FS)(w:IO)(T:h.get? d=some o)(hd:o.data=.dict es ep)(g:Heap.SameBut d h h'):HJ h' k v:=by
 cases k with
 |none=>exact a
 |some t=>
  obtain⟨a1,U,R⟩:=a;exact⟨a1,U,(L9 prog w).keeps R T hd g⟩
def uK{v:VL}{Q:zDB}(hu:zEk)(hk:zBk)(hm:zDJ)(hap:TD)(hz:xs.length<=sizeLine) (hQ:zg):wpAny AS A (setItem zDm kv v) Q E s:=by
 unfold setItem
 try with_reducible refine aS ?_
 refine Wb (wpAny_sequenceKey hm.ty AT ?_);refine Wb (ak (name:=Str.ofString "__setitem__") hm.ty slot_dict_setitem (ae slot_dict_setitem hm.ty entry_dict_setitem ?_ (args_dict_setitem _ _ _)));show wpAny _ _ (Builtin.Dict.notOrdered "__setitem__" ⟨[.ref d,kv,v],[]⟩>>=_) _ _ s;refine Wb (wpAny_notOrdered_dict hm.ty ?_);show wpAny _ _ (dictSet d kv v>>=_) _ _ s;refine Wb ?_;have fin:∀h',FC h' d (EA xs k kv v)->Heap.SameBut d s.heap h'->wpAny AS A.in1 (ret .none) (fun fin s'=>∃v,fin=.done (.ret v)/\wpAny AS A (pure ()) Q E s') E {s with heap:=h',toks:=s.toks+DJ k}:=fun h' h1 h2=>aA ⟨.none,rfl,wpAny_pure (hQ h' h1 h2)⟩;obtain⟨o,es,ep,g,hc,hd,Y⟩:=hm.ob;unfold dictSet
 try with_reducible refine aS ?_
 refine Wb (Xy hu hk ?_);unfold dictSetHashed
 try with_reducible refine aS ?_
 refine Wb zd
 .have R:EA xs k kv v=xs++[(k,kv,v)]:=by unfold EA;rw[LO U];rfl
  rw[R]at fin;refine Wb Mc
  .simp[Y,EW]
  .rcases bA.mp T with h|h
   .exact(hm.ks y h).keep prog w g hd (aZ ..)
   .rw[List.mem_singleton.mp h];exact hk.keep prog w g hd (aZ ..)
  .rw[List.map_append,List.nodup_append];refine⟨hm.nd,by simp,fun a ha b hb=>?_⟩;have:b=k:=by simpa using hb
   subst this;obtain⟨y,T,rfl⟩:=aQ.mp ha;exact U y T
 .have R:EA xs k kv v=xs.map (putN k v):=by unfold EA;rw[OU hm.nd hj hx];rfl
  rw[R]at fin;refine Wb No
  .have:=Ol (v:=v) hm.nd hj hx;rw[<-Y]at this;obtain⟨l⟩:=es
   simpa using this
  .obtain⟨z,Z,rfl⟩:=aQ.mp T;unfold putN;split<;>exact(hm.ks z Z).keep prog w g hd (aZ ..)
  .rw[Rz];exact hm.nd
end
end TH
namespace L2
open PySem PySem.Spec PyProof.Rows
abbrev KR:=Option Tr×V×V
def Rg(q:KR)(x:TH.KE):Prop:=x.1=q.1/\RelV q.2.1 x.2.1/\RelV q.2.2 x.2.2
def dN(d:AD)(r:UF):HO:=.ext fun h=>(d==sysModules)=false/\∃o es ep xs,h.get? d=some o/\o.ExactDict/\o.data=.dict es ep/\es.toList=xs.map TH.EW/\PySem.Paired Rg r xs
def HU(H:Hp):Option Tr->V->Prop
 |none,v=>v=.BN
 |some t,v=>t.deep<8/\Tv H t v
def HU.same{H H':Hp}{k:LT}{v:V}(h:HU H k v)(e:mo):HU H' k v:=by
 cases k with
 |none=>exact h
 |some t=>exact⟨h.1,h.2.same e⟩
structure R5(H:Hp)(d:Addr)(r:UF)(k:LT):Prop where
 at_:H d=some (dN d r)
 ks:∀q∈r,HU H q.1 q.2.1
 nd:(r.map Nh).Nodup
 ap:∀q∈r,TH.BJ q.1=TH.BJ k->q.1=k
def LF{α T:Type}{R:α->T->Prop}{l:lX}{m:List T}(h:PySem.Paired R l m):∀x∈m,∃q∈l,R q x:=by
 induction h with
 |nil=>intro x g;cases g
 |cons a _ U=>
  intro x g;rcases aM.mp g with rfl|g
  .exact⟨_,.head _,a⟩
  .obtain⟨q,Z,Y⟩:=U x g;exact⟨q,.tail _ Z,Y⟩
def Ve{r:UF}{xs:List TH.KE}(h:PySem.Paired Rg r xs):xs.map Nh=r.map Nh:=by
 induction h with
 |nil=>rfl
 |cons a _ g=>rw[List.map_cons,List.map_cons,g,a.1]
section
variable{X:Cx}{pins:DH}{σ:St}{H:Hp}{s:SD}{pos:Pos}
def HU.raw(I:By){k:LT}{v:V}{u:VL}(h:HU H k v)(r:RelV v u):TH.HJ s.heap k u:=by
 cases k with
 |none=>
  have h:v=.BN:=h;subst h;exact r
 |some t=>
  obtain⟨Y,a,ys,rfl,U,T⟩:=h;obtain⟨g,R,p,_⟩:=I.tuple zEs;exact⟨a,r,Y,g,p,T.vs I R⟩
def S9(I:By){d:AD}{r:UF}{k:LT}(h:R5 H d r k):(d==sysModules)=false/\∃xs,TH.FC s.heap d xs/\PySem.Paired Rg r xs/\∀x∈xs,TH.BJ x.1=TH.BJ k->x.1=k:=by
 obtain⟨Y,o,es,ep,xs,g1,g2,g3,g4,g⟩:=(show EE X.prog X.w H s.heap d (dN d r) from I.A5 d _ h.at_).1;refine⟨Y,xs,⟨⟨o,es,ep,g1,g2,g3,g4⟩,fun x R=>?_,by rw[Ve g];exact h.nd⟩,g,fun x R=>?_⟩
 .obtain⟨q,U,T,Z,_⟩:=LF g x R;rw[T];exact(h.ks q U).raw I Z
 .obtain⟨q,U,T,_⟩:=LF g x R;rw[T];exact h.ap q U
def R9{r:UF}{xs:List TH.KE}(h:PySem.Paired Rg r xs)(k:LT):match r.find? NE with
  |some q=>∃x,TH.HF xs k=some x/\RelV q.2.2 x.2.2
  |none=>TH.HF xs k=none:=by
 induction h with
 |nil=>exact rfl
 | @cons q x l m a _ g=>
  unfold TH.HF at g ⊢;rw[List.find?_cons,List.find?_cons,a.1];by_cases z:q.1=k
  .simp only[decide_eq_true z];exact⟨x,rfl,a.2.2⟩
  .simp only[decide_eq_false z];exact g
def wU:R2:=fun x y H Q=>∃d r k q,x=.ref d/\HU H k y/\R5 H d r k/\r.find? NE=some q/\Q q.2.2 H
def fk{o i:Expr}{T ty:TE}(hu:Ih)(ho:PE X o T)(hi:PE X i ty)(hs:jv i):PE X (.Subscript o i pos) (fG wU T ty):=by
 intro pins s σ H Q I h;refine mw PySem.F.slot_dict_getitem.lookup hs (BW (ho pins s σ H _ I h) fun u s1 ⟨x,H1,I1,Z,q1⟩=>BW (hi pins s1 σ H1 _ I1 q1) fun iv s2 ⟨y,H2,R,Y,q2⟩=>?_);obtain⟨d,r,k,q,rfl,hk,hD,hf,q3⟩:=q2;obtain rfl:u=Value.ref d:=Z;obtain⟨hsm,xs,hm,hp,g⟩:=S9 R hD;have U:=R9 hp k;rw[hf]at U;obtain⟨x,h1,h2⟩:=U;exact⟨hm.ty,TH.sL yo (hk.raw R Y) hm g h1 ⟨q.2.2,H2,R.tok _,h2,q3⟩⟩
def vw(neg:Bool):R2:=fun x y H Q=>∃d r k,y=.ref d/\HU H k x/\R5 H d r k/\Q (.bl (if neg then !(r.find? NE).isSome else(r.find? NE).isSome)) H
def qH(hu:Ih)(neg:Bool):De X (compareOp (if neg then .NotIn else .In)) (vw neg):=by
 intro pins s σ H x y v u Q I Y U h;obtain⟨d,r,k,rfl,hk,hD,q⟩:=h;obtain rfl:u=Value.ref d:=U;obtain⟨g,xs,hm,Z,T⟩:=S9 I hD;have R:=R9 Z k;have e:(TH.HF xs k).isSome=(r.find? NE).isSome:=by
  split at R
  .rename_i q e;obtain⟨x,h1,_⟩:=R;rw[h1,e];rfl
  .rename_i e;rw[R,e];rfl
 refine TH.xM yo (hk.raw I Y) g hm T neg ?_;rw[e];exact⟨.bl _,H,I.tok _,rfl,q⟩
def Fu(r:UF)(k:LT)(g v:V):List KR:=if(r.find? NE).isSome then r.map (fun q=>if q.1=k then(q.1,q.2.1,v) else q) else r++[(k,g,v)]
def lx{r:UF}{xs:List TH.KE}{k:LT}{R v:V}{T u:VL}(h:PySem.Paired Rg r xs)(Y:RelV R T)(U:RelV v u):PySem.Paired Rg (Fu r k R v) (TH.EA xs k T u):=by
 have g:=R9 h k;unfold Fu TH.EA;split at g
 .rename_i q e;obtain⟨x,Z,_⟩:=g;rw[Z,e];simp only[Option.isSome_some,if_true];clear e Z Y
  induction h with
  |nil=>exact .nil
  | @cons q x l m a _ ih=>
   rw[List.map_cons,List.map_cons];refine .cons ?_ ih;unfold TH.putN;rw[a.1];by_cases z:q.1=k
   .rw[if_pos z,if_pos z];exact⟨rfl,a.2.1,U⟩
   .rw[if_neg z,if_neg z];exact a
 .rename_i e;rw[g,e];exact h.snoc ⟨rfl,Y,U⟩
def kU:cR:=fun o i v H Q=>∃d r k,o=.ref d/\HU H k i/\R5 H d r k/\r.length<=1000/\Q (upd H d (dN d (Fu r k i v)))
def XG(hu:Ih):il X kU:=by
 intro pins s σ H o i v ov iv u Q I ro Y rv h;obtain⟨d,r,k,rfl,hk,hD,hl,q⟩:=h;obtain rfl:ov=Value.ref d:=ro;obtain⟨g,xs,hm,Z,T⟩:=S9 I hD;have hle:xs.length=r.length:=by have:=bJ List.length (Ve Z);simpa using this
 refine TH.uK yo (hk.raw I Y) hm T (aT (by lia:xs.length<=1000) Ku) fun h' R sb=>?_;obtain⟨o',es,ep,U,g2,g3,g4⟩:=R.ob;refine⟨_,I.write (x:=d) (e:=d) (o:=dN d (Fu r k i v)) (t':=s.toks+TH.DJ k) (by rw[hD.at_];exact trivial) SZ (fun b w' hb e=>(sb.2 b hb).trans e) ⟨o',U⟩ ?_,q⟩;exact⟨⟨g,o',es,ep,_,U,g2,g3,g4,lx Z Y rv⟩,⟨o',U⟩,fun h1 h2 ⟨a,o,es,ep,xs,q,r⟩ k=>⟨a,o,es,ep,xs,k _ q,r⟩⟩
def qI:TE:=fun _ H Q=>∀p,H p=none->Q xT (upd H p (dN p []))
def jB:PE X (.Dict [] [] pos) qI:=fun pins s σ H Q I h=>by
 refine wpAny_Dict_empty ⟨.ref s.heap.objs.size,_,I.laid (a:=s.heap.objs.size) (o:=dN s.heap.objs.size []) (t':=s.toks) (fun _ _ q=>aE _ q) RW ?_,rfl,h _ (I.A5.fresh RW)⟩;have g:sysModules<s.heap.objs.size:=bY AT (I.mod.glob.keeps I.bk).lt;have hn:(s.heap.objs.size==sysModules)=false:=beq_eq_false_iff_ne.mpr (Ne.symm (aG g));exact⟨⟨hn,_,#[],0,[],Heap.get?_push_size _ rfl,⟨rfl,rfl,rfl⟩,rfl,rfl,.nil⟩,⟨_,Heap.get?_push_size _ rfl⟩,fun U T ⟨a,o,es,ep,xs,q,r⟩ k=>⟨a,o,es,ep,xs,k _ q,r⟩⟩
def find_key{r:UF}{k:LT}{q:KR}(h:r.find? NE=some q):q∈r/\q.1=k:=⟨List.mem_of_find?_eq_some h,by simpa using List.find?_some h⟩
end
section
variable{X:Cx}
def eT(hc:dO):FW X (.builtin "sum") (fun xs H Q=>∃(p:AD) (ns:yT),xs=[.ref p]/\BL X.K H p SC/\Q (.int ns.sum) H):=by
 intro pins s σ H xs us Q I r h;obtain⟨p,ns,rfl,hq,q⟩:=h;obtain⟨u,rfl,r1⟩:=r.one;cases r1;obtain⟨U,rv,pl,hz⟩:=I.tuple hq;have hi:=intsAre_of rv;obtain⟨xs,Z⟩:=hi.allInts.items;have g:s.heap.IsTuple p (intItems xs):=Z ▸ pl
 have T:p<s.heap.objs.size:=by obtain⟨_,e,_⟩:=g;exact aF e
 have e1:ns=xs.toList.map Nh:=by
  rw[<-nums_intItems,<-Z];exact(show numsOf U.toArray.toList=ns from hi.numsOf).symm
 have e2:preSum (numAt xs) xs.size=ns.sum:=by
  rw[preSum_eq,List.take_of_length_le At,e1]
 refine call_sum_walkG (wpAny_pyIter_tuple g ?_);refine⟨_,[_,p],[_],_,_,_,numAt xs,rfl,Walks.tuple (A:=X.A.in1) Os _ p (aG T) (intItems xs),
  ⟨⟨_,Heap.get?_push_size _ rfl,rfl,rfl⟩,g.push _⟩,fun c R=>?_,(fun _ _=>intItems_at),fun h' tk Y hk=>?_⟩
 .show c<(s.heap.push _).objs.size;rw[Heap.size_push];rcases aM.mp R with rfl|R
  .exact bR _
  .rw[List.mem_singleton.mp R];exact bE T
 .have e3:preSum (numAt xs) (intItems xs).size=ns.sum:=by
   rw[<-e2];simp[intItems]
  rw[e3];exact⟨.int _,H,I.kept (t':=tk) (PyProof.Rows.LSm.kept_iter hk),⟨Y,rfl⟩,q⟩
end
end L2
namespace L2
open PySem PySem.Spec PyProof.Rows
def Rd.same{H H':Hp}{a:AD}{u:HO}(e:mo)(h:Rd H a u):Rd H' a u:=by
 rcases h with h|⟨o,h⟩
 .exact .inl (e _ _ h)
 .exact .inr ⟨o,e _ _ h⟩
def BS:Tr->List PD
 |.nil=>[]
 |.cons b r=>.tuple (BS b)::BS r
def Cp:Option Tr->PD
 |none=>.none
 |some t=>.tuple (BS t)
mutual
def Du(H:Hp):PD->V->Prop
 |.none,v=>v=.BN
 |.bool b,v=>v=.bl b
 |.int i,v=>v=.int i
 |.str x,v=>v=.str x
 |.tuple R,v=>∃a xs,v=.ref a/\H a=some LE/\Ao H R xs
 |.list R,v=>∃a xs,v=.ref a/\H a=some KT/\Ao H R xs
 |.dict g,v=>(∃ea C:AD,g=[(.int (C:Nat),.none)]/\v=.ref ea/\H ea=some (wz ea zAM))\/(∃(a:AD) (ns:zG),g=[(.none,.list (ns.map .int))]/\v=.ref a/\Rd H a (.lst SC))\/K2 H g v
def Ao(H:Hp):List PD->List V->Prop
 |[],xs=>xs=[]
 |d::g,xs=>∃x r,xs=x::r/\Du H d x/\Ao H g r
def K2(H:Hp):List (PD×PD)->V->Prop
 |[],_=>False
 |(g,R)::t,v=>g=.bool true/\R=.none/\∃a r,v=.ref a/\H a=some (dN a r)/\(r.map Nh).Nodup/\HW H t r
def HW(H:Hp):List (PD×PD)->List KR->Prop
 |[],r=>r=[]
 |(k,d)::t,r=>∃q g,r=q::g/\k=Cp q.1/\HU H q.1 q.2.1/\Du H d q.2.2/\HW H t g
end
mutual
def Du.same{H H':Hp}(e:mo):∀ {d:PD} {v:V},Du H d v->Du H' d v
 |.none,_,h=>by rw[Du]at h ⊢;exact h
 |.bool _,_,h=>by rw[Du]at h ⊢;exact h
 |.int _,_,h=>by rw[Du]at h ⊢;exact h
 |.str _,_,h=>by rw[Du]at h ⊢;exact h
 |.tuple _,_,h=>by
  rw[Du]at h ⊢;obtain⟨a,xs,R,g,T⟩:=h;exact⟨a,xs,R,e _ _ g,Ao.same e T⟩
 |.list _,_,h=>by
  rw[Du]at h ⊢;obtain⟨a,xs,R,g,T⟩:=h;exact⟨a,xs,R,e _ _ g,Ao.same e T⟩
 |.dict _,_,h=>by
  rw[Du]at h ⊢;rcases h with ⟨ea,C,R,U,g⟩|⟨a,ns,R,U,g⟩|h
  .exact .inl ⟨ea,C,R,U,e _ _ g⟩
  .exact .inr (.inl ⟨a,ns,R,U,g.same e⟩)
  .exact .inr (.inr (K2.same e h))
def Ao.same{H H':Hp}(e:mo):∀ {ds:sw} {xs:Jh},Ao H ds xs->Ao H' ds xs
 |[],_,h=>by rw[Ao]at h ⊢;exact h
 |_::_,_,h=>by
  rw[Ao]at h ⊢;obtain⟨x,r,T,R,g⟩:=h;exact⟨x,r,T,Du.same e R,Ao.same e g⟩
def K2.same{H H':Hp}(e:mo):∀ {g:List (PD×PD)} {v:V},K2 H g v->K2 H' g v
 |[],_,h=>by rw[K2]at h;exact h.elim
 |(_,_)::_,_,h=>by
  rw[K2]at h ⊢;obtain⟨h1,Z,a,r,Y,U,T,R⟩:=h;exact⟨h1,Z,a,r,Y,e _ _ U,T,HW.same e R⟩
def HW.same{H H':Hp}(e:mo):∀ {g:List (PD×PD)} {r:UF},HW H g r->HW H' g r
 |[],_,h=>by rw[HW]at h ⊢;exact h
 |(_,_)::_,_,h=>by
  rw[HW]at h ⊢;obtain⟨q,R,h1,Z,Y,U,T⟩:=h;exact⟨q,R,h1,Z,Y.same e,Du.same e U,HW.same e T⟩
end
mutual
def Du.br{K:Fg}{H:Hp}:∀ {d:PD} {v:V},d.canLay0=true->Du H d v->Br K H d v
 |.none,_,_,h=>by rw[Du]at h;rw[Br];exact h
 |.bool _,_,_,h=>by rw[Du]at h;rw[Br];exact h
 |.int _,_,_,h=>by rw[Du]at h;rw[Br];exact h
 |.str _,_,_,h=>by rw[Du]at h;rw[Br];exact h
 |.tuple _,_,c,h=>by
  rw[Du]at h;rw[Br];obtain⟨a,xs,T,R,g⟩:=h;exact⟨a,xs,T,BL.of R,Ao.br zAS g⟩
 |.list _,_,c,h=>by
  rw[Du]at h;rw[Br];obtain⟨a,xs,T,R,g⟩:=h;exact⟨a,xs,T,Ax.of R,Ao.br zAS g⟩
 |.dict _,_,c,h=>by simp[PyData.canLay0]at c
def Ao.br{K:Fg}{H:Hp}:∀ {ds:sw} {xs:Jh},PyData.canLayAll0 ds=true->Ao H ds xs->Hf K H ds xs
 |[],_,_,h=>by rw[Ao]at h;rw[Hf];exact h
 |_::_,_,c,h=>by
  rw[Ao]at h;rw[Hf];obtain⟨x,r,T,R,g⟩:=h;simp only[PyData.canLayAll0,Bool.and_eq_true]at c;exact⟨x,r,T,Du.br c.1 R,Ao.br c.2 g⟩
end
def Ao.nil{H:Hp}:Ao H [] []:=by rw[Ao]
def Ao.cons{H:Hp}{d:PD}{ds:yM}{x:V}{xs:yb}(h:Du H d x)(k:Ao H ds xs):Ao H (d::ds) (x::xs):=by rw[Ao];exact⟨x,xs,rfl,h,k⟩
def Ao.un{H:Hp}{d:PD}{ds:yM}{xs:yb}(h:Ao H (d::ds) xs):∃x r,xs=x::r/\Du H d x/\Ao H ds r:=by rw[Ao]at h;exact h
def Ao.nil_eq{H:Hp}{xs:yb}(h:Ao H [] xs):xs=[]:=by rw[Ao]at h;exact h
def Ao.len{H:Hp}:∀ {ds:sw} {xs:Jh},Ao H ds xs->xs.length=ds.length
 |[],_,h=>by rw[h.nil_eq];rfl
 |_::_,_,h=>by obtain⟨x,r,rfl,_,g⟩:=h.un;simp[g.len]
def Ao.get{H:Hp}:∀ {ds:sw} {xs:Jh} {i:Nat} {d:PD},Ao H ds xs->ds[i]? = some d->∃v,xs[i]? = some v/\Du H d v
 |[],_,i,_,_,e=>by simp at e
 |_::_,_,0,_,h,e=>by
  obtain⟨x,r,rfl,U,_⟩:=h.un;simp at e;subst e;exact⟨x,rfl,U⟩
 |_::_,_,i+1,_,h,e=>by
  obtain⟨x,r,rfl,_,T⟩:=h.un;obtain⟨v,R,g⟩:=T.get (i:=i) x0;exact⟨v,by simpa using R,g⟩
def Ao.back{H:Hp}{ds:yM}{xs:yb}{i:Nat}{v:V}(h:Ao H ds xs)(e:xs[i]? = some v):∃d,ds[i]? = some d/\Du H d v:=by
 have T:=h.len;have hi:i<ds.length:=by rw[<-T];exact(aD.mp e).1
 have hd:ds[i]? = some ds[i]:=by simp[hi]
 obtain⟨w,g,R⟩:=h.get hd;rw[e]at g;cases g;exact⟨_,hd,R⟩
def Ao.app{H:Hp}:∀ {ds es:sw} {xs ys:Jh},Ao H ds xs->Ao H es ys->Ao H (ds++es) (xs++ys)
 |[],_,_,_,h,k=>by rw[h.nil_eq];exact k
 |_::_,_,_,_,h,k=>by obtain⟨x,r,rfl,R,g⟩:=h.un;exact .cons R (g.app k)
def Ao.take{H:Hp}:∀ {ds:sw} {xs:Jh} (i:Nat),Ao H ds xs->Ao H (ds.take i) (xs.take i)
 |_,_,0,_=>by rw[List.take_zero,List.take_zero];exact .nil
 |[],_,i+1,h=>by rw[h.nil_eq];exact .nil
 |_::_,_,i+1,h=>by obtain⟨x,r,rfl,R,g⟩:=h.un;exact .cons R (g.take i)
def Ao.drop{H:Hp}:∀ {ds:sw} {xs:Jh} (i:Nat),Ao H ds xs->Ao H (ds.drop i) (xs.drop i)
 |_,_,0,h=>h
 |[],_,i+1,h=>by rw[h.nil_eq];exact .nil
 |_::_,_,i+1,h=>by obtain⟨x,r,rfl,R,g⟩:=h.un;exact g.drop i
def Ao.rev{H:Hp}:∀ {ds:sw} {xs:Jh},Ao H ds xs->Ao H ds.reverse xs.reverse
 |[],_,h=>by rw[h.nil_eq];exact .nil
 |_::_,_,h=>by
  obtain⟨x,r,rfl,R,g⟩:=h.un;rw[List.reverse_cons,List.reverse_cons];exact g.rev.app (.cons R .nil)
inductive Oc where
 |lst (xs:List PyData)|kd (kvs:List (List Key×PyData))|GU (kvs:List (Option Tr×PyData))
inductive L where
 |no|d (x:PyData)|own (c:Oc)
abbrev Dv:=List L
abbrev yJ:=Dv->Option zGV
abbrev yK:=Dv->Option PD
abbrev yL:=Dv->Option Bool
def U1(G:Hp):List (List Key×PD)->List (List Key×V)->Prop
 |[],r=>r=[]
 |q::t,r=>∃v g,r=(q.1,v)::g/\Du G q.2 v/\U1 G t g
def U1.same{G g:Hp}(e:AM G g):∀ {t:List (List Key×PD)} {r:List (List Key×V)},U1 G t r->U1 g t r
 |[],r,h=>h
 |q::t,r,h=>by
  obtain⟨v,R,rfl,U,T⟩:=h;exact⟨v,R,rfl,U.same e,U1.same e T⟩
abbrev J8(kvs:List (Option Tr×PD)):List (PD×PD):=kvs.map fun q=>(Cp q.1,q.2)
abbrev Bg(kvs:List (Option Tr×PD)):PD:=.dict ((.bool true,.none)::J8 kvs)
def Kk(G:Hp)(a:AD):Oc->HO->Prop
 |.lst xs,o=>∃ys,o=.lst ys/\Ao G xs ys
 |.kd kvs,o=>∃r,o=.dT r/\U1 G kvs r
 |.GU kvs,o=>∃r,o=dN a r/\(r.map Nh).Nodup/\HW G (J8 kvs) r
def Kk.same{G T:Hp}{a:AD}{c:Oc}{o:HO}(h:Kk G a c o)(e:AM G T):Kk T a c o:=by
 cases c with
 |GU kvs=>obtain⟨r,R,g,U⟩:=h;exact⟨r,R,g,HW.same e U⟩
 |lst xs=>obtain⟨ys,R,g⟩:=h;exact⟨ys,R,g.same e⟩
 |kd kvs=>obtain⟨ys,R,g⟩:=h;exact⟨ys,R,g.same e⟩
def Kk.Wy{G:Hp}{a:AD}{c:Oc}{xs:yb}(h:Kk G a c LE):False:=by
 cases c with
 |GU kvs=>obtain⟨r,g,R,T⟩:=h;unfold dN at g;cases g
 |lst xs=>obtain⟨ys,g,R⟩:=h;cases g
 |kd kvs=>obtain⟨ys,g,R⟩:=h;cases g
def Nw(G0 H0 G:Hp):Prop:=∀a o,G a=some o->G0 a=some o\/H0 a=none\/∃xs,o=HO.tup xs
structure Rw(G0 H0 G H:Hp)(σ:St)(δ:Dv)(ts:List (PyData×V)):Prop where
 ext:AM G0 G
 new:Nw G0 H0 G
 ins:AM G H
 keep:AM H0 H
 len:σ.length=δ.length
 dat:∀(i:Nat) (x:PyData),δ[i]? = some (L.d x)->∃v,σ[i]? = some zBT/\Du G x v
 own:∀(i:Nat) (xs:Oc),δ[i]? = some (L.own xs)->∃(a:Addr) (ys:HO),σ[i]? = some (some (V.ref a))/\G a=none/\H0 a=none/\H a=some ys/\Kk G a xs ys
 apart:∀(i j:Nat) (xs ys:Oc),i≠j->δ[i]? = some (L.own xs)->δ[j]? = some (L.own ys)->σ[i]?≠σ[j]?
 B4:∀p∈ts,Du G p.1 p.2
def DE(X:Cx)(e:Expr)(f:yK):Prop:=∃t,PE X e t/\∀δ x,f δ=some x->∀G0 H0 G H σ ts (Q:VK),Rw G0 H0 G H σ δ ts->(∀v g H',Rw G0 H0 g H' σ δ zDw->Q v H')->t σ H Q
def DA(X:Cx)(es:yV)(f:yJ):Prop:=∃t,PA X es t/\∀δ xs,f δ=some xs->∀G0 H0 G H σ ts (Q:zDn),Rw G0 H0 G H σ δ ts->(∀vs g H',Rw G0 H0 g H' σ δ (xs.zip vs++ts)->vs.length=xs.length->Q vs H')->t σ H Q
def DT(X:Cx)(e:Expr)(f:yL):Prop:=∃t,PT X e t/\∀δ b,f δ=some b->∀G0 H0 G H σ ts (Q:zDC),Rw G0 H0 G H σ δ ts->(∀g H',Rw G0 H0 g H' σ δ ts->Q b H')->t σ H Q
section
variable{G0 H0 G H:Hp}{σ:St}{δ:Dv}{ts:RS}
def Rw.drop{p:PD×V}(r:Rw G0 H0 G H σ δ (p::ts)):Rw G0 H0 G H σ δ ts:={r with B4:=fun q g=>r.B4 q (.tail _ g)}
def Rw.less{us:RS}(r:II)(h:∀p∈us,p∈ts):Rw G0 H0 G H σ δ us:={r with B4:=fun q g=>r.B4 q (h q g)}
def Rw.put{x:PD}{v:V}(r:II)(h:Du G x v):Rw G0 H0 G H σ δ zDw:={r with B4:=fun q g=>by rcases aM.mp g with rfl|g;exact h;exact r.B4 q g}
def Rw.newObj{p:AD}{o:HO}(r:II)(g:H p=none):Rw G0 H0 (upd G p o) (upd H p o) σ δ ts:=by
 have hG:G p=none:=by
  cases q:G p with
  |none=>rfl
  |some u=>rw[r.ins _ _ q]at g;cases g
 have h0:H0 p=none:=by
  cases q:H0 p with
  |none=>rfl
  |some u=>rw[r.keep _ _ q]at g;cases g
 have e:AM G (upd G p o):=Ah hG o;refine⟨r.ext.trans e,fun a u h=>?_,fun a u h=>?_,r.keep.trans (Ah g o),r.len,fun i x h=>?_,fun i xs h=>?_,r.apart,fun q hq=>(r.B4 q hq).same e⟩
 .by_cases ha:a=p
  .subst ha;exact .inr (.inl h0)
  .rw[AL ha]at h;exact r.new _ _ h
 .by_cases ha:a=p
  .subst ha;rw[AO]at h ⊢;exact h
  .rw[AL ha]at h ⊢;exact r.ins _ _ h
 .obtain⟨v,T,R⟩:=r.dat i x h;exact⟨v,T,R.same e⟩
 .obtain⟨a,ys,T,R,Z,U,Y⟩:=r.own i xs h;have ha:a≠p:=fun z=>by subst z;rw[U]at g;cases g
  exact⟨a,ys,T,by rw[AL ha];exact R,Z,by rw[AL ha];exact U,Y.same e⟩
def Rw.qV{p:AD}{xs:yb}{H':Hp}(r:II)(e:mo)(g:H' p=some LE):Rw G0 H0 (upd G p LE) H' σ δ ts:=by
 have R:AM G (upd G p LE):=fun a o h=>by
  by_cases ha:a=p
  .subst ha;have:=e _ _ (r.ins _ _ h);rw[g]at this;rw[AO];exact this
  .rw[AL ha];exact h
 refine⟨r.ext.trans R,fun a u h=>?_,fun a u h=>?_,r.keep.trans e,r.len,fun i x h=>?_,fun i xs h=>?_,r.apart,fun q hq=>(r.B4 q hq).same R⟩
 .by_cases ha:a=p
  .subst ha;rw[AO]at h;cases h;exact .inr zEy
  .rw[AL ha]at h;exact r.new _ _ h
 .by_cases ha:a=p
  .subst ha;rw[AO]at h;rw[g];exact h
  .rw[AL ha]at h;exact e _ _ (r.ins _ _ h)
 .obtain⟨v,U,T⟩:=r.dat i x h;exact⟨v,U,T.same R⟩
 .obtain⟨a,ys,U,T,k3,Z,Y⟩:=r.own i xs h;have ha:a≠p:=fun z=>by subst z;rw[e _ _ Z]at g;cases g;exact Y.Wy
  exact⟨a,ys,U,by rw[AL ha];exact T,k3,e _ _ Z,Y.same R⟩
def Rw.lift{g H':Hp}(r:II)(R:AM G g)(h2:Nw G H g)(h3:AM g H')(Z:mo):Rw G0 H0 g H' σ δ ts:=by
 refine⟨r.ext.trans R,fun a o h=>?_,h3,r.keep.trans Z,r.len,fun i x h=>?_,fun i xs h=>?_,r.apart,fun q hq=>(r.B4 q hq).same R⟩
 .rcases h2 a o h with k|k|k
  .exact r.new a o k
  .right;left
   cases q:H0 a with
   |none=>rfl
   |some u=>rw[r.keep _ _ q]at k;cases k
  .exact .inr (.inr k)
 .obtain⟨v,Y,U⟩:=r.dat i x h;exact⟨v,Y,U.same R⟩
 .obtain⟨a,ys,Y,U,k3,T,k5⟩:=r.own i xs h;refine⟨a,ys,Y,?_,k3,Z _ _ T,k5.same R⟩;cases q:g a with
  |none=>rfl
  |some u=>
   rcases h2 a u q with z|z|⟨xs',z⟩
   .rw[U]at z;cases z
   .rw[T]at z;cases z
   .have:=h3 _ _ q;rw[Z _ _ T,z]at this;cases this;exact k5.Wy.elim
end
section
variable{X:Cx}{a b e:Expr}{f g h:yK}{pos:Pos}
def AJ{i j pos}:DE X (.Constant pp j pos) (fun _=>some pp):=⟨_,Ar,fun δ x h G0 H0 G H σ ts Q r k=>by cases h;exact k _ _ _ (r.put Mt)⟩
def Fx{i j pos}:DE X (.Constant (.bool i) j pos) (fun _=>some (.bool i)):=⟨_,uv,fun δ x h G0 H0 G H σ ts Q r k=>by cases h;exact k _ _ _ (r.put Mt)⟩
def MP{j pos}:DE X (.Constant .none j pos) (fun _=>some .none):=⟨_,p6,fun δ x h G0 H0 G H σ ts Q r k=>by cases h;exact k _ _ _ (r.put Mt)⟩
def QN{i j pos}:DE X (.Constant (.str i) j pos) (fun _=>some (.str i)):=⟨_,oK,fun δ x h G0 H0 G H σ ts Q r k=>by cases h;exact k _ _ _ (r.put Mt)⟩
def nm(i:Nat)(δ:Dv):yQ:=match δ[i]? with|some (.d x)=>some x|_=>none
def cP{i:Nat}{δ:Dv}{x:PD}(h:nm i δ=some x):δ[i]? = some (.d x):=by
 unfold nm at h;split at h
 .rename_i y e;cases h;exact e
 .cases h
def AE{i:Nat}{x:Str}(h:PE X tO (QP i)):DE X tO (nm i):=⟨_,h,fun δ y R G0 H0 G H σ ts Q r k=>by
 obtain⟨v,U,T⟩:=r.dat _ _ (cP R);exact⟨v,U,k _ _ _ (r.put T)⟩⟩
def Ai(o:fy)(f g:yK)(δ:Dv):yQ:=(f δ).bind fun x=>(g δ).bind fun y=>o x y
def Fm(X:Cx)(m:wf)(o:fy):Prop:=∃r:R2,De X m r/\∀x y z,o x y=some z->∀G0 H0 G H σ δ ts u v (Q:VK),Rw G0 H0 G H σ δ ts->Du G x u->Du G y v->(∀w R H',Rw G0 H0 R H' σ δ ((z,w)::ts)->Q w H')->r u v H Q
def two{x y:PD}{f g:yK}{δ:Dv}{o:fy}{z:PD}(h:Ai o f g δ=some z):∃x y,f δ=some x/\g δ=some y/\o x y=some z:=by
 unfold Ai at h;obtain⟨x,Y,U⟩:=aB.mp h;obtain⟨y,T,R⟩:=aB.mp U;exact⟨x,y,Y,T,R⟩
def A3{op:Operator}{o:fy}(ho:Fm X (binaryOp op) o)(ha:zDK)(hb:DE X b g):DE X (.BinOp a op b pos) (Ai o f g):=by
 obtain⟨r,hr,U⟩:=ho;obtain⟨ta,T,Z⟩:=ha;obtain⟨tb,R,Y⟩:=hb;refine⟨_,BM hr T R,fun δ z hz G0 H0 G H σ ts Q R0 k=>?_⟩;obtain⟨x,y,h1,h2,h3⟩:=two (x:=.none) (y:=.none) hz;refine Z δ x h1 G0 H0 G H σ ts _ R0 fun u G1 H1 R1=>?_;refine Y δ y h2 G0 H0 G1 H1 σ _ _ R1 fun v G2 H2 R2=>?_;exact U x y z h3 G0 H0 G2 H2 σ δ ts u v Q (R2.drop.drop) (R2.B4 (x,u) zGP) (R2.B4 (y,v) GM) k
def TB{op:CmpOp}{o:fy}(ho:Fm X zEp o)(ha:zDK)(hb:DE X b g)(hm:zCK):DE X zBo (Ai o f g):=by
 obtain⟨r,hr,U⟩:=ho;obtain⟨ta,T,Z⟩:=ha;obtain⟨tb,R,Y⟩:=hb;refine⟨_,mE hr T R hm,fun δ z hz G0 H0 G H σ ts Q R0 k=>?_⟩;obtain⟨x,y,h1,h2,h3⟩:=two (x:=.none) (y:=.none) hz;refine Z δ x h1 G0 H0 G H σ ts _ R0 fun u G1 H1 R1=>?_;refine Y δ y h2 G0 H0 G1 H1 σ _ _ R1 fun v G2 H2 R2=>?_;exact U x y z h3 G0 H0 G2 H2 σ δ ts u v Q (R2.drop.drop) (R2.B4 (x,u) zGP) (R2.B4 (y,v) GM) k
end
section
variable{X:Cx}
def VC(o o':fy)(x y:PD):yQ:=match o x y with|some z=>some z|none=>o' x y
def Fm.or{m:wf}{o o':fy}(h:Fm X m o)(h':Fm X m o'):Fm X m (VC o o'):=by
 obtain⟨r,hr,kr⟩:=h;obtain⟨r',T,R⟩:=h';refine⟨_,De.or hr T,fun x y z g G0 H0 G H σ δ ts u v Q Z Y U k=>?_⟩;unfold VC at g;split at g
 .rename_i z' e;cases g;exact .inl (kr x y z e G0 H0 G H σ δ ts u v Q Z Y U k)
 .exact .inr (R x y z g G0 H0 G H σ δ ts u v Q Z Y U k)
def Us{m:wf}{C:Int->Int->Prop}{R:Int->Int->V}{o:Int->Int->Option PD}(Y:De X m (rI C R))(Z:∀i j z,o i j=some z->C i j/\∀H,Du H z (R i j)) :
  Fm X m (fun x y=>match x,y with|.int i,.int j=>o i j|_,_=>none):=by
 refine⟨_,Y,fun x y z g G0 H0 G H σ δ ts u v Q R0 U T k=>?_⟩;dsimp only at g;split at g
 .rename_i i j;rw[Du]at U T;obtain⟨h1,h2⟩:=Z i j z g;exact⟨i,j,U,T,h1,k _ _ _ (R0.put (h2 _))⟩
 .cases g
def La{m:wf}{R:Int->Int->V}{o:Int->Int->PD}(Y:De X m (U6 R))(Z:∀i j H,Du H (o i j) (R i j)) :
  Fm X m (fun x y=>match x,y with|.int i,.int j=>some (o i j)|_,_=>none):=by
 refine⟨_,Y,fun x y z g G0 H0 G H σ δ ts u v Q R0 U T k=>?_⟩;dsimp only at g;split at g
 .rename_i i j;cases g;rw[Du]at U T;exact⟨i,j,U,T,k _ _ _ (R0.put (Z _ _ _))⟩
 .cases g
def Dz:Nat:=1000
def UO{n:Nat}(h:n<=Dz):n<sizeLine:=VO h
def Hs{n:Nat}(h:n<=Dz):n<=sizeLine:=bG (VO h)
def qj:PD->PD->Option PD:=fun x y=>match x,y with|.int i,.int j=>some (.int (i+j))|_,_=>none
def XH:PD->PD->Option PD:=fun x y=>match x,y with|.int i,.int j=>some (.int (i-j))|_,_=>none
def NA(n:Nat)(i:Int):Bool:=decide (i.natAbs<2^n)
def N7(i j:Int):Bool:=NA 64 i||NA 64 j||(NA 9000 i&&NA 9000 j)
def dj:PD->PD->Option PD:=fun x y=>match x,y with|.int i,.int j=>(if N7 i j=true then some zCv else none)|_,_=>none
def Ib:PD->PD->Option PD:=fun x y=>match x,y with|.int i,.int j=>(if j≠0 then some (.int (i.fmod j)) else none)|_,_=>none
def P0:PD->PD->Option PD:=fun x y=>match x,y with|.int i,.int j=>(if 0<=j/\j<=1000/\NA 64 i=true then some (.int (i^j.toNat)) else none)|_,_=>none
def la:Fm X yx qj:=La QM fun _ _ _=>by rw[Du]
def Qd:Fm X (binaryOp .Sub) XH:=La WR fun _ _ _=>by rw[Du]
def lD{i:Int}(h:NA 64 i=true):-(2^64)<i/\i<2^64:=by
 have:=aP h
 lia
def nG:Fm X zDV dj:=Us (o:=fun i j=>if N7 i j=true then some zCv else none) F7 fun i j z h=>by
 split at h
 .rename_i q;cases h;refine⟨?_,fun _=>by rw[Du]⟩;unfold N7 at q;rw[Bool.or_eq_true,Bool.or_eq_true,Bool.and_eq_true]at q;rcases q with (q|q)|q
  .exact .inl (.inl (lD q))
  .exact .inl (.inr (lD q))
  .exact .inr ⟨9000,by decide,of_decide_eq_true q.1,of_decide_eq_true q.2⟩
 .cases h
def GA:Fm X (binaryOp .Mod) Ib:=Us (o:=fun i j=>if j≠0 then some (.int (i.fmod j)) else none) NU fun i j z h=>by
 split at h
 .rename_i q;cases h;exact⟨q,fun _=>by rw[Du]⟩
 .cases h
def US:Fm X (binaryOp .Pow) P0:=Us (o:=fun i j=>if 0<=j/\j<=1000/\NA 64 i=true then some (.int (i^j.toNat)) else none) sf fun i j z h=>by
 split at h
 .rename_i q;cases h;exact⟨⟨q.1,by lia,of_decide_eq_true q.2.2⟩,fun _=>by rw[Du]⟩
 .cases h
def HM(p:Int->Int->Bool):PD->PD->Option PD:=fun x y=>match x,y with|.int i,.int j=>some (.bool (p i j))|_,_=>none
def WI:Fm X (compareOp .Lt) iS:=La (o:=fun i j=>.bool (decide (i<j))) eC fun _ _ _=>by rw[Du]
def Sa:Fm X (compareOp .Gt) wP:=La (o:=fun i j=>.bool (decide (j<i))) Tn fun _ _ _=>by rw[Du]
def kN:Fm X (compareOp .GtE) zBJ:=La (o:=fun i j=>.bool (decide (j<=i))) u7 fun _ _ _=>by rw[Du]
def jO:PD->PD->Option PD:=fun x y=>match x,y with|.list a,.list b=>(if a.length+b.length<=Dz then some (.list (a++b)) else none)|_,_=>none
def ny:Fm X yx jO:=by
 refine⟨_,gw,fun x y z g G0 H0 G H σ δ ts u v Q T du Z k=>?_⟩;unfold jO at g;split at g
 .rename_i a b;split at g
  .rename_i hl;cases g;rw[Du]at du Z;obtain⟨p,xs,rfl,h1,Y⟩:=du;obtain⟨q,ys,rfl,h3,U⟩:=Z;refine⟨p,q,xs,ys,rfl,rfl,T.ins _ _ h1,T.ins _ _ h3,Hs (by rw[Y.len,U.len];exact hl),fun l R=>?_⟩;have R1:=T.newObj (o:=.lst (xs++ys)) R;refine k _ _ _ (R1.put ?_);rw[Du];have e:AM G (upd G l (.lst (xs++ys))):=fun a o h=>by
    have:=T.ins _ _ h;rw[AL (Aa this R)];exact h
   exact⟨l,xs++ys,rfl,AO,(Y.same e).app (U.same e)⟩
  .cases g
 .cases g
def cy:PD->PD->Option PD:=fun x y=>match x,y with|.tuple a,.tuple b=>(if a.length+b.length<=Dz then some (.tuple (a++b)) else none)|_,_=>none
def md:Fm X yx cy:=by
 refine⟨_,nZ,fun x y z g G0 H0 G H σ δ ts u v Q R du dv k=>?_⟩;unfold cy at g;split at g
 .rename_i a b;split at g
  .rename_i hl;cases g;rw[Du]at du dv;obtain⟨p,xs,rfl,h1,Y⟩:=du;obtain⟨q,ys,rfl,h3,U⟩:=dv;refine⟨p,q,xs,ys,rfl,rfl,R.ins _ _ h1,R.ins _ _ h3,Hs (by rw[Y.len,U.len];exact hl),fun l H' e T=>?_⟩;have R1:=R.qV e T;refine k _ _ _ (R1.put ?_);rw[Du];have Z:AM G (upd G l (.tup (xs++ys))):=fun a o h=>by
    by_cases ha:a=l
    .subst ha;have:=e _ _ (R.ins _ _ h);rw[T]at this;rw[AO];exact this
    .rw[AL ha];exact h
   exact⟨l,xs++ys,rfl,AO,(Y.same Z).app (U.same Z)⟩
  .cases g
 .cases g
def jo:PD->PD->Option PD:=fun x y=>match x,y with|.str a,.str b=>(if a.length+b.length<=Dz then some (.str (a++b)) else none)|_,_=>none
def mL:Fm X yx jo:=by
 refine⟨_,df,fun x y z g G0 H0 G H σ δ ts u v Q Y T R k=>?_⟩;unfold jo at g;split at g
 .rename_i a b;split at g
  .rename_i U;cases g;rw[Du]at T R;exact⟨a,b,T,R,Hs U,k _ _ _ (Y.put Mt)⟩
  .cases g
 .cases g
def Ei:PD->PD->Option PD:=VC qj (VC jO (VC cy jo))
def Cg:Fm X yx Ei:=la.or (ny.or (md.or mL))
def cc:PD->PD->Option PD:=fun x y=>match x,y with|.list a,.int k=>(if a.length*k.toNat<=Dz/\-1000000<=k/\k<=1000000 then some (.list (List.replicate k.toNat a).flatten) else none)|_,_=>none
def Ao.rep{H:Hp}{ds:sw}{xs:Jh}(h:Ao H ds xs):∀n,Ao H (List.replicate n ds).flatten (List.replicate n xs).flatten
 |0=>.nil
 |n+1=>by rw[List.replicate_succ,List.replicate_succ,List.flatten_cons,List.flatten_cons];exact h.app (h.rep n)
def mQ:Fm X zDV cc:=by
 refine⟨_,gO,fun x y z g G0 H0 G H σ δ ts u v Q T Z Y k=>?_⟩;unfold cc at g;split at g
 .rename_i a n;split at g
  .rename_i hl;cases g;rw[Du]at Z;rw[Du]at Y;obtain⟨p,xs,rfl,h1,U⟩:=Z;subst Y;refine⟨p,n,xs,rfl,rfl,T.ins _ _ h1,by lia,by lia,Hs (by rw[U.len];exact hl.1),fun l R=>?_⟩;have R1:=T.newObj (o:=.lst (List.replicate n.toNat xs).flatten) R;refine k _ _ _ (R1.put ?_);rw[Du];have e:AM G (upd G l (.lst (List.replicate n.toNat xs).flatten)):=fun a o h=>by
    have:=T.ins _ _ h;rw[AL (Aa this R)];exact h
   exact⟨l,_,rfl,AO,(U.same e).rep _⟩
  .cases g
 .cases g
def Ge:PD->PD->Option PD:=VC dj cc
def Fi:Fm X zDV Ge:=nG.or mQ
def U7{d:PD}(h:SeqAt.shaped d=true):d.canLay0=true:=by unfold SeqAt.shaped at h;rw[Bool.and_eq_true]at h;exact h.1
def EO(neg:Bool):PD->PD->Option PD:=fun x y=>if SeqAt.shaped x=true/\SeqAt.shaped y=true then some (.bool (if neg then !PyData.eqv x y else PyData.eqv x y)) else none
def gF{m:wf}{neg:Bool}(U:De X m (jM X.K neg)):Fm X m (EO neg):=by
 refine⟨_,U,fun x y z g G0 H0 G H σ δ ts u v Q T Z Y k=>?_⟩;unfold EO at g;split at g
 .rename_i R;cases g;exact⟨x,y,(Z.same T.ins).br (U7 R.1),(Y.same T.ins).br (U7 R.2),R.1,R.2,k _ _ _ (T.put Mt)⟩
 .cases g
def KA(g:Ih):Fm X (compareOp .Eq) yz:=gF (qz g)
def Md(g:Ih):Fm X (compareOp .NotEq) zBl:=gF (sN g)
def PyData.i6:PD->Bool
 |.none=>true
 |_=>false
def ey{H:Hp}:∀ {x:PD} {u:V},Du H x u->decide (u=.BN)=PyData.i6 x
 |.none,u,h=>by rw[Du]at h;subst h;rfl
 |.bool _,u,h=>by rw[Du]at h;subst h;rfl
 |.int _,u,h=>by rw[Du]at h;subst h;rfl
 |.str _,u,h=>by rw[Du]at h;subst h;rfl
 |.tuple _,u,h=>by rw[Du]at h;obtain⟨a,xs,rfl,_⟩:=h;rfl
 |.list _,u,h=>by rw[Du]at h;obtain⟨a,xs,rfl,_⟩:=h;rfl
 |.dict [],u,h=>by rw[Du,K2]at h;rcases h with ⟨ea,C,_,rfl,_⟩|⟨a,ns,_,rfl,_⟩|h;rfl;rfl;exact h.elim
 |.dict ((_,_)::_),u,h=>by rw[Du,K2]at h;rcases h with ⟨ea,C,_,rfl,_⟩|⟨a,ns,_,rfl,_⟩|⟨_,_,a,r,rfl,_⟩<;>rfl
def U5(neg:Bool):PD->PD->Option PD:=fun x y=>match y with
 |.none=>some (.bool (if neg then !PyData.i6 x else PyData.i6 x))
 |_=>none
def lP:Fm X (compareOp .Is) (U5 false):=by
 refine⟨_,pD,fun x y z g G0 H0 G H σ δ ts u v Q U T R k=>?_⟩;unfold U5 at g;split at g
 .cases g;rw[Du]at R;refine⟨R,?_⟩;rw[ey T];exact k _ _ _ (U.put (by rw[Du];rfl))
 .cases g
def i5:Fm X (compareOp .IsNot) (U5 true):=by
 refine⟨_,mI,fun x y z g G0 H0 G H σ δ ts u v Q U T R k=>?_⟩;unfold U5 at g;split at g
 .cases g;rw[Du]at R;refine⟨R,?_⟩;rw[ey T];exact k _ _ _ (U.put (by rw[Du];rfl))
 .cases g
end
section
variable{X:Cx}{a b c e:Expr}{es:yV}{f g h:yK}{pos p:Pos}
def Na:PD->Option Bool
 |.bool b=>some b
 |_=>none
def Zu:PD->Option Int
 |.int b=>some b
 |_=>none
def P7{x:PD}{b:Bool}(h:Na x=some b):x=.bool b:=by
 unfold Na at h;split at h
 .cases h;rfl
 .cases h
def iB{x:PD}{b:Int}(h:Zu x=some b):x=.int b:=by
 unfold Zu at h;split at h
 .cases h;rfl
 .cases h
def QK(ha:zDK):DE X (.UnaryOp .USub a pos) (fun δ=>(f δ).bind fun x=>(Zu x).map fun i=>.int (-i)):=by
 obtain⟨ta,T,U⟩:=ha;refine⟨_,cj YM T,fun δ z Y G0 H0 G H σ ts Q R0 k=>?_⟩;obtain⟨x,h1,h2⟩:=aB.mp Y;obtain⟨i,Z,rfl⟩:=aC.mp h2;have:=iB Z;subst this;refine U δ _ h1 G0 H0 G H σ ts _ R0 fun u G1 H1 R=>?_;have:=R.B4 _ GM;rw[Du]at this;exact⟨i,this,k _ _ _ (R.drop.put Mt)⟩
def rF(ha:zDK):DE X zDO (fun δ=>(f δ).bind fun x=>(Na x).map fun i=>.bool (!i)):=by
 obtain⟨ta,T,U⟩:=ha;refine⟨_,pj T,fun δ z Y G0 H0 G H σ ts Q R0 k=>?_⟩;obtain⟨x,h1,h2⟩:=aB.mp Y;obtain⟨i,Z,rfl⟩:=aC.mp h2;have:=P7 Z;subst this;refine U δ _ h1 G0 H0 G H σ ts _ R0 fun u G1 H1 R=>?_;have:=R.B4 _ GM;rw[Du]at this;exact⟨i,this,k _ _ _ (R.drop.put Mt)⟩
def W9{op}(ha:zDK):DE X (.BoolOp op [a] pos) f:=by
 obtain⟨U,R,T⟩:=ha;exact⟨_,og R,T⟩
def Sb{rest:yV}(ha:zDK)(hb:DE X zAp g):DE X zAD (fun δ=>(f δ).bind fun x=>(Na x).bind fun c=>if c=true then g δ else some (.bool false)):=by
 obtain⟨ta,pa,ka⟩:=ha;obtain⟨tb,Z,kb⟩:=hb;refine⟨_,qO pa Z,fun δ z hz G0 H0 G H σ ts Q R0 k=>?_⟩;obtain⟨x,h1,h2⟩:=aB.mp hz;obtain⟨i,h3,R⟩:=aB.mp h2;have:=P7 h3;subst this;refine ka δ _ h1 G0 H0 G H σ ts _ R0 fun u G1 H1 U=>?_;have Y:=U.B4 _ GM;rw[Du]at Y;refine⟨i,Y,?_⟩;split
 .rename_i T;rw[if_pos T]at R;exact kb δ z R G0 H0 G1 H1 σ ts Q U.drop k
 .rename_i T;rw[if_neg T]at R;cases R;exact k _ _ _ (U.drop.put Mt)
variable{fa fb:yL}
def DW(X:Cx)(e:Expr)(f:yL):Prop:=∃t,PW X e t/\∀δ b,f δ=some b->∀G0 H0 G H σ ts (Q:zDC),Rw G0 H0 G H σ δ ts->(∀R H',Rw G0 H0 R H' σ δ ts->Q b H')->t σ H Q
def DW.dt(h:DW X e fa):DT X e fa:=let⟨t,p,k⟩:=h;⟨t,p.pt,k⟩
def B3{op:CmpOp}{o:fy}(ho:Fm X zEp o)(ha:zDK)(hb:DE X b g)(hm:zCK):DT X zBo (fun δ=>(Ai o f g δ).bind Na):=by
 obtain⟨r,hr,Z⟩:=ho;obtain⟨ta,Y,ka⟩:=ha;obtain⟨tb,U,kb⟩:=hb;refine⟨_,ER hr Y U hm,fun δ z hz G0 H0 G H σ ts Q R0 k=>?_⟩;obtain⟨q,h0,h4⟩:=aB.mp hz;have:=P7 h4;subst this;obtain⟨x,y,h1,h2,h3⟩:=two (x:=.none) (y:=.none) h0;refine ka δ x h1 G0 H0 G H σ ts _ R0 fun u G1 H1 R1=>?_;refine kb δ y h2 G0 H0 G1 H1 σ _ _ R1 fun v G2 H2 R2=>?_;refine Z x y _ h3 G0 H0 G2 H2 σ δ ts u v _ (R2.drop.drop) (R2.B4 (x,u) zGP) (R2.B4 (y,v) GM) fun w G3 H3 T=>?_;have R:=T.B4 _ GM;rw[Du]at R;exact⟨z,R,k _ _ T.drop⟩
def GL(ha : zb)(he : ∀ whole,isTrue e X.env whole = zDS:=by intro _; rfl):DT X e (fun δ => (f δ).bind Na):=by
  obtain ⟨ta,pa,ka⟩:=ha
  refine ⟨_,rQ pa he,fun δ z hz G0 H0 G H σ ts Q R0 k => ?_⟩
  obtain ⟨q,h0,h4⟩:=aB.mp hz
  have:=P7 h4; subst this
  refine ka δ _ h0 G0 H0 G H σ ts _ R0 fun u G1 H1 R1 => ?_
  have hu:=R1.B4 _ GM
  rw [Du] at hu
  exact ⟨z,hu,k _ _ R1.drop⟩
def F6(ha:DT X a fa):DT X zDO (fun δ=>(fa δ).map fun c=>!c):=by
 obtain⟨ta,R,T⟩:=ha;refine⟨_,rV R,fun δ z U G0 H0 G H σ ts Q R0 k=>?_⟩;obtain⟨i,Y,rfl⟩:=aC.mp U;exact T δ _ Y G0 H0 G H σ ts _ R0 fun G1 H1 Z=>k _ _ Z
def GI{op:BoolOp}(ha:DT X a fa):DW X (.BoolOp op [a] pos) fa:=by
 obtain⟨U,R,T⟩:=ha;cases op
 .exact⟨_,mF R,T⟩
 .exact⟨_,qi R,T⟩
def W5{rest:yV}(ha:DT X a fa)(hb:DW X zAp fb):DW X zAD (fun δ=>(fa δ).bind fun c=>if c=true then fb δ else some false):=by
 obtain⟨ta,Z,ka⟩:=ha;obtain⟨tb,Y,kb⟩:=hb;refine⟨_,se Z Y,fun δ z hz G0 H0 G H σ ts Q R0 k=>?_⟩;obtain⟨i,h3,R⟩:=aB.mp hz;refine ka δ _ h3 G0 H0 G H σ ts _ R0 fun G1 H1 U=>?_;split
 .rename_i T;rw[if_pos T]at R;exact kb δ z R G0 H0 G1 H1 σ ts Q U k
 .rename_i T;rw[if_neg T]at R;cases R;exact k _ _ U
def JF{rest:yV}(ha:DT X a fa)(hb:DW X (.BoolOp .Or (b::rest) pos) fb):DW X (.BoolOp .Or (a::b::rest) pos) (fun δ=>(fa δ).bind fun c=>if c=true then some true else fb δ):=by
 obtain⟨ta,Z,ka⟩:=ha;obtain⟨tb,Y,kb⟩:=hb;refine⟨_,uN Z Y,fun δ z hz G0 H0 G H σ ts Q R0 k=>?_⟩;obtain⟨i,h3,R⟩:=aB.mp hz;refine ka δ _ h3 G0 H0 G H σ ts _ R0 fun G1 H1 U=>?_;split
 .rename_i T;rw[if_pos T]at R;cases R;exact k _ _ U
 .rename_i T;rw[if_neg T]at R;exact kb δ z R G0 H0 G1 H1 σ ts Q U k
variable{fs:yJ}
def AF:DA X [] (fun _=>some []):=⟨_,Af,fun δ xs h G0 H0 G H σ ts Q R k=>by cases h;exact k [] G H zAg rfl⟩
def AA(ha:zb)(hr:DA X es fs)(hs:starEach Op X.env=IJ::starEach es X.env:=by rfl):DA X Op (fun δ=>(f δ).bind fun x=>(fs δ).map fun xs=>x::xs):=by
 obtain⟨ta,T,Y⟩:=ha;obtain⟨tr,pr,U⟩:=hr;refine⟨_,AN T pr hs,fun δ z Z G0 H0 G H σ ts Q R0 k=>?_⟩;obtain⟨x,h1,h2⟩:=aB.mp Z;obtain⟨xs,h3,rfl⟩:=aC.mp h2;refine Y δ x h1 G0 H0 G H σ ts _ R0 fun u G1 H1 R1=>?_;refine U δ xs h3 G0 H0 G1 H1 σ _ _ R1 fun vs G2 H2 R2 hl=>?_;refine k (u::vs) G2 H2 (R2.less fun q R=>?_) (by simp[hl]);simp only[List.zip_cons_cons,List.cons_append,List.mem_cons,List.mem_append]at R ⊢;rcases R with h|h|h
 .exact .inr (.inl h)
 .exact .inl h
 .exact .inr (.inr h)
def gM{G:Hp}:∀ {xs:sw} {vs:Jh},vs.length=xs.length->(∀q∈xs.zip vs,Du G q.1 q.2)->Ao G xs vs
 |[],vs,R,_=>by rw[List.eq_nil_of_length_eq_zero R];exact .nil
 |x::xs,[],R,_=>by simp at R
 |x::xs,v::vs,R,h=>.cons (h (x,v) At) (gM zAg fun q T=>h q (by simp[T]))
def Rw.args{G0 H0 G H:Hp}{σ:St}{δ:Dv}{ts:RS}{xs:yM}{vs:yb}(r:Rw G0 H0 G H σ δ (xs.zip vs++ts))(T:vs.length=xs.length):Ao G xs vs/\Rw G0 H0 G H σ δ ts :=
 ⟨gM T fun q R=>r.B4 q (bQ _ R),r.less fun q R=>aV _ R⟩
def Rw.Uo{G0 H0 G H:Hp}{σ:St}{δ:Dv}{ts:RS}{xs:yM}{vs:yb}{p:AD}(r:II)(d:Ao G xs vs)(R:H p=none):Rw G0 H0 (upd G p (.lst vs)) (upd H p (.lst vs)) σ δ ((.list xs,.ref p)::ts):=by
 refine(r.newObj R).put ?_;have e:AM G (upd G p (.lst vs)):=fun a o h=>by rw[AL (Aa (r.ins _ _ h) R)];exact h
 rw[Du];exact⟨p,vs,rfl,AO,d.same e⟩
def Rw.cJ{G0 H0 G H:Hp}{σ:St}{δ:Dv}{ts:RS}{xs:yM}{vs:yb}{p:AD}(r:II)(d:Ao G xs vs)(R:H p=none):Rw G0 H0 (upd G p (.tup vs)) (upd H p (.tup vs)) σ δ ((.tuple xs,.ref p)::ts):=by
 refine(r.newObj R).put ?_;have e:AM G (upd G p (.tup vs)):=fun a o h=>by rw[AL (Aa (r.ins _ _ h) R)];exact h
 rw[Du];exact⟨p,vs,rfl,AO,d.same e⟩
def Kz(xs:yM):Option yM:=if xs.length<=Dz then some xs else none
def Pt{xs ys:yM}(h:Kz xs=some ys):xs=ys/\xs.length<=Dz:=by
 unfold Kz at h;split at h
 .rename_i q;cases h;exact⟨rfl,q⟩
 .cases h
def Aq{T}(ha:DA X es fs):DE X (.Tuple es T pos) (fun δ=>((fs δ).bind Kz).map .tuple):=by
 obtain⟨ta,U,Y⟩:=ha;refine⟨_,KS U,fun δ z Z G0 H0 G H σ ts Q R0 k=>?_⟩;obtain⟨ys,h1,rfl⟩:=aC.mp Z;obtain⟨xs,h2,h3⟩:=aB.mp h1;obtain⟨rfl,hl⟩:=Pt h3;refine Y δ _ h2 G0 H0 G H σ ts _ R0 fun vs G1 H1 R1 R=>?_;obtain⟨d,R2⟩:=R1.args R;exact⟨Hs (by rw[R];exact hl),fun q hq=>k _ _ _ (R2.cJ d hq)⟩
def Bc(ha:DA X es fs):DE X (.List es pos) (fun δ=>((fs δ).bind Kz).map .list):=by
 obtain⟨ta,T,U⟩:=ha;refine⟨_,HQ T,fun δ z Y G0 H0 G H σ ts Q R0 k=>?_⟩;obtain⟨ys,h1,rfl⟩:=aC.mp Y;obtain⟨xs,h2,h3⟩:=aB.mp h1;obtain⟨rfl,hl⟩:=Pt h3;refine U δ _ h2 G0 H0 G H σ ts _ R0 fun vs G1 H1 R1 R=>?_;obtain⟨d,R2⟩:=R1.args R;exact⟨Hs (by rw[R];exact hl),fun q Z=>k _ _ _ (R2.Uo d Z)⟩
def Ao.Ht{H:Hp}{ds:yM}{xs:yb}{i:Int}{d:PD}(h:Ao H ds xs)(e:Ht ds i=some d):∃v,Ht xs i=some v/\Du H d v:=by
 unfold L2.Ht at e ⊢;rw[h.len];obtain⟨j,Y,U⟩:=aB.mp e;obtain⟨v,T,R⟩:=h.get U;exact⟨v,by rw[Y];exact T,R⟩
def Vi{G:Hp}:∀ns:List Int,Ao G (ns.map .int) SC
 |[]=>.nil
 |n::ns=>.cons Mt (Vi ns)
def DB:PD->PD->Option PD:=fun x y=>match x,y with
 |.list xs,.int i=>Ht xs i
 |.tuple xs,.int i=>Ht xs i
 |.dict [(.none,.list xs)],.int i=>Ht xs i
 |.str z,.int i=>if z.length<=Dz then(Ht z.cps.toList i).map fun c=>.str ⟨#[c]⟩ else none
 |_,_=>none
def Bu(ha:zDK)(hb:DE X b g)(hs:Zl b):DE X (.Subscript a b pos) (Ai DB f g):=by
 obtain⟨ta,pa,ka⟩:=ha;obtain⟨tb,pb,kb⟩:=hb;refine⟨_,FT oI pa pb hs,fun δ z hz G0 H0 G H σ ts Q R0 k=>?_⟩;obtain⟨x,y,h1,h2,R⟩:=two (x:=.none) (y:=.none) hz;refine ka δ x h1 G0 H0 G H σ ts _ R0 fun u G1 H1 R1=>?_;refine kb δ y h2 G0 H0 G1 H1 σ _ _ R1 fun v G2 H2 R2=>?_;have U:=R2.B4 (x,u) zGP;have T:=R2.B4 (y,v) GM;unfold DB at R;split at R
 .rw[Du]at U;rw[Du]at T;obtain⟨p,xs,rfl,h4,h5⟩:=U;obtain⟨w,Y,Z⟩:=h5.Ht R;exact .inl ⟨p,xs,_,w,rfl,T,Ax.of (R2.ins _ _ h4),Y,k _ _ _ (R2.drop.drop.put Z)⟩
 .rw[Du]at U;rw[Du]at T;obtain⟨p,xs,rfl,h4,h5⟩:=U;obtain⟨w,Y,Z⟩:=h5.Ht R;exact .inr (.inl ⟨p,xs,_,w,rfl,T,BL.of (R2.ins _ _ h4),Y,k _ _ _ (R2.drop.drop.put Z)⟩)
 .rw[Du]at U;rw[Du]at T;rcases U with ⟨ea,C,e1,_⟩|⟨p,ns,e1,rfl,h4⟩|z
  rotate_left 2
  .rw[K2]at z;cases z.1
  .simp at e1
  .obtain rfl:_=ns.map PyData.int:=by simpa using e1
   obtain⟨w,Y,Z⟩:=(Vi (G:=_) ns).Ht R;exact .inl ⟨p,_,_,w,rfl,T,.inl (h4.same R2.ins),Y,k _ _ _ (R2.drop.drop.put Z)⟩
 .rw[Du]at U;rw[Du]at T;split at R
  .rename_i hl;obtain⟨ch,Y,rfl⟩:=aC.mp R;exact .inr (.inr ⟨_,_,ch,U,T,Hs hl,Y,k _ _ _ (R2.drop.drop.put Mt)⟩)
  .cases R
 .cases R
end
def A6(g:MD):Sp:=fun vs H Q _=>∃T x G,g T=some x/\Ao G T vs/\AM G H/\∀v R H',AM G R->Nw G H R->AM R H'->AM H H'->Du R x v->Q v H'
section
variable{X:Cx}{a e:Expr}{es:yV}{f h:yK}{fs:yJ}{pos p:Pos}
def Ab{k:Nat}{U:AD}{fd:Db}{ps:yU}{m:MD}{x:Str}{st:Stmt}(T:Fn X.K X.mg x st ps U fd)(F:AK X.prog X.w X.K X.mg X.base Ag k U fd ps (A6 m))(hr:EH k X.A)(hg:zDD)(ha:DA X Op fs) (R:HV=false:=by decide)(he:starEach Op X.env=IJ::starEach es X.env:=by rfl)(g:(backTo pos Nm).any Nh=false:=by rfl):DE X Id (fun δ=>(fs δ).bind m):=by
 obtain⟨ta,Y,Z⟩:=ha;refine⟨_,DY T F hr hg Y R he g,fun δ z hz G0 H0 G H σ ts Q R0 k=>?_⟩;obtain⟨xs,h1,h2⟩:=aB.mp hz;refine Z δ _ h1 G0 H0 G H σ ts _ R0 fun vs G1 H1 R1 hv=>?_;obtain⟨d,R2⟩:=R1.args hv;refine⟨xs,z,G1,h2,by rw[List.append_nil];exact d,R2.ins,fun v G' H' h3 h4 h5 h6 h7=>?_⟩;exact k _ _ _ zDY
def OA(X:Cx)(v:VL)(o:MD):Prop:=∃r,FW X v r/\∀xs z,o xs=some z->∀G0 H0 G H σ δ ts us (Q:VK),Rw G0 H0 G H σ δ ts->Ao G xs us->(∀w g H',Rw G0 H0 g H' σ δ ((z,w)::ts)->Q w H')->r us H Q
def DC{x:Str}{id:zAG}{o:MD}(hc:OA X zAA o)(hg:zDD)(hm:X.mg x=none)(g:bootBuiltins x=some zAA)(ha:DA X Op fs)(hn:x ≠ "__name__":=by decide)(T:HV=false:=by decide) (he:starEach Op X.env=IJ::starEach es X.env:=by rfl)(R:(backTo pos Nm).any Nh=false:=by rfl):DE X Id (fun δ=>(fs δ).bind o):=by
 obtain⟨r,hr,Y⟩:=hc;obtain⟨ta,U,Z⟩:=ha;refine⟨_,D7 hr hg hm g U hn T he R,fun δ z hz G0 H0 G H σ ts Q R0 k=>?_⟩;obtain⟨xs,h1,h2⟩:=aB.mp hz;refine Z δ _ h1 G0 H0 G H σ ts _ R0 fun vs G1 H1 R1 g=>?_;obtain⟨d,R2⟩:=R1.args g;exact Y xs z h2 G0 H0 G1 H1 σ δ ts vs Q R2 d k
def U8{x:Str}{T:zAG}{o:MD}(hc:OA X (.type T) o)(hg:zDD)(hm:X.mg x=none)(g:bootBuiltins x=some (.type T))(ha:DA X Op fs)(hn:x ≠ "__name__":=by decide)(U:HV=false:=by decide) (he:starEach Op X.env=IJ::starEach es X.env:=by rfl)(R:(backTo pos Nm).any Nh=false:=by rfl):DE X Id (fun δ=>(fs δ).bind o):=by
 obtain⟨r,hr,Z⟩:=hc;obtain⟨ta,Y,ka⟩:=ha;refine⟨_,VV hr hg hm g Y hn U he R,fun δ z hz G0 H0 G H σ ts Q R0 k=>?_⟩;obtain⟨xs,h1,h2⟩:=aB.mp hz;refine ka δ _ h1 G0 H0 G H σ ts _ R0 fun vs G1 H1 R1 g=>?_;obtain⟨d,R2⟩:=R1.args g;exact Z xs z h2 G0 H0 G1 H1 σ δ ts vs Q R2 d k
def Ao.Ke{H:Hp}{d:PD}{xs:yb}(h:Ao H [d] xs):∃x,xs=[x]/\Du H d x:=by
 obtain⟨x,r,rfl,R,g⟩:=h.un;rw[g.nil_eq];exact⟨x,rfl,R⟩
def Ao.Ms{H:Hp}{d e:PD}{xs:yb}(h:Ao H [d,e] xs):∃x y,xs=[x,y]/\Du H d x/\Du H e y:=by
 obtain⟨x,r,rfl,T,R⟩:=h.un;obtain⟨y,rfl,g⟩:=R.Ke;exact⟨x,y,rfl,T,g⟩
def ID:MD
 |[.list xs]=>some (.int xs.length)
 |[.tuple xs]=>some (.int xs.length)
 |[.dict [(.none,.list xs)]]=>some (.int xs.length)
 |_=>none
def HN:OA X (.builtin "len") ID:=by
 refine⟨_,JK,fun xs z R G0 H0 G H σ δ ts us Q T d k=>?_⟩;unfold ID at R;split at R
 .cases R;obtain⟨u,rfl,g⟩:=d.Ke;rw[Du]at g;obtain⟨p,ys,rfl,U,Y⟩:=g;refine⟨p,ys,rfl,.inl (Ax.of zDh),?_⟩;rw[Y.len];exact k _ _ _ (T.put Mt)
 .cases R;obtain⟨u,rfl,g⟩:=d.Ke;rw[Du]at g;obtain⟨p,ys,rfl,U,Y⟩:=g;refine⟨p,ys,rfl,.inr (BL.of zDh),?_⟩;rw[Y.len];exact k _ _ _ (T.put Mt)
 .cases R;obtain⟨u,rfl,g⟩:=d.Ke;rw[Du]at g;rcases g with ⟨ea,C,Z,_⟩|⟨p,ns,Z,rfl,U⟩|z
  rotate_left 2
  .rw[K2]at z;cases z.1
  .simp at Z
  .obtain rfl:_=ns.map PyData.int:=by simpa using Z
   refine⟨p,_,rfl,.inl (.inl (U.same T.ins)),?_⟩;rw[List.length_map]at k ⊢;exact k _ _ _ (T.put Mt)
 .cases R
def Oa:MD
 |[.list xs]=>some (.tuple xs)
 |[.tuple xs]=>some (.tuple xs)
 |_=>none
def XE:OA X Gf Oa:=by
 refine⟨_,V4,fun xs z R G0 H0 G H σ δ ts us Q T d k=>?_⟩;unfold Oa at R;split at R
 .cases R;obtain⟨u,rfl,g⟩:=d.Ke;rw[Du]at g;obtain⟨p,ys,rfl,U,Z⟩:=g;exact⟨p,ys,rfl,.inl ⟨Ax.of zDh,fun l hl=>k _ _ _ (T.cJ Z hl)⟩⟩
 .cases R;obtain⟨u,rfl,g⟩:=d.Ke;have Y:=g;rw[Du]at g;obtain⟨p,ys,rfl,U,Z⟩:=g;exact⟨p,ys,rfl,.inr ⟨BL.of zDh,k _ _ _ (T.put Y)⟩⟩
 .cases R
def Du.ty{K:Fg}{H:Hp}:∀ {d:PD} {v:V},zCM->Du H d v->JB K H v zCu/\∀g,d≠.dict g
 |.none,_,_,h=>by rw[Du]at h;subst h;exact⟨.BN,by simp⟩
 |.bool _,_,_,h=>by rw[Du]at h;subst h;exact⟨.bl _,by simp⟩
 |.int _,_,_,h=>by rw[Du]at h;subst h;exact⟨.int _,by simp⟩
 |.str _,_,_,h=>by rw[Du]at h;subst h;exact⟨.str _,by simp⟩
 |.tuple _,_,_,h=>by rw[Du]at h;obtain⟨a,xs,rfl,R,_⟩:=h;exact⟨.tup R,by simp⟩
 |.list _,_,_,h=>by rw[Du]at h;obtain⟨a,xs,rfl,R,_⟩:=h;exact⟨.lst R,by simp⟩
 |.dict _,_,n,h=>absurd rfl (n _)
def cZ(q:PD->Bool):PD->Option PD
 |.dict _=>none
 |x=>some (.bool (q x))
def nv{q:PD->Bool}{x z:PD}(h:cZ q x=some z):(∀g,x≠.dict g)/\z=.bool (q x):=by
 unfold cZ at h;split at h
 .cases h
 .rename_i n;cases h;exact⟨fun g e=>n g e,rfl⟩
def Lv{T:zAG}{q:PD->Bool}{g:Str}{p1 R:Pos}(hk:∀d:PD,(∀kv,d≠.dict kv)->PySem.W.kitOne X.K zCu (.type T)=some (q d))(hg:Gl X "isinstance")(hm:X.mg "isinstance" = none)(hgT:Gl X g)(hmT:X.mg g=none)(Y:bootBuiltins g=some (.type T))(ha:zDK) (hnT:g ≠ "__name__":=by decide)(hdT:(g==("__debug__" : Str))=false:=by decide)(U:starEach [a,.Name g R] X.env=Nr::starEach [.Name g R] X.env:=by rfl)(Z:(backTo pos (starEach [.Name g R] X.env)).any Nh=false:=by rfl):DE X (.Call (.Name "isinstance" p1) [a,.Name g R] [] pos) (fun δ=>(f δ).bind (cZ q)):=by
 obtain⟨ta,pa,ka⟩:=ha;have pT:PE X (.Name g R) (tC (.ty T)):=l7 hgT hmT Y rfl hnT hdT;refine⟨_,D7 j0 hg hm PyProof.Rows.boot_isinstance (AN pa (AN pT Af) U) AT AT U Z,fun δ z hz G0 H0 G H σ ts Q R0 k=>?_⟩;obtain⟨x,h1,h2⟩:=aB.mp hz;obtain⟨n1,rfl⟩:=nv h2;refine ka δ _ h1 G0 H0 G H σ ts _ R0 fun u G1 H1 R1=>?_;have du:=R1.B4 _ GM;obtain⟨t1,t2⟩:=(du.same R1.ins).ty (K:=X.K) n1;exact⟨u,.ty T,_,q x,rfl,by simp[XI],t1,hk x t2,k _ _ _ (R1.drop.put Mt)⟩
end
inductive Ou where
 |nx (δ:Dv)|rt (x:PyData)|bk (δ:Dv)|ct (δ:Dv)|rn (xs:List PyData)
def Fin(G0 H0:Hp)(D:Ends):Ou->Prop
 |.nx δ=>∀σ G H,Rw G0 H0 G H σ δ []->D.nx σ H
 |.rt x=>∀v G H,AM G0 G->Nw G0 H0 G->AM G H->AM H0 H->Du G x v->D.rt v H
 |.bk δ=>∀σ G H,Rw G0 H0 G H σ δ []->D.bk σ H
 |.ct δ=>∀σ G H,Rw G0 H0 G H σ δ []->D.ct σ H
 |.rn xs=>∀a ys G H,AM G0 G->Nw G0 H0 G->AM G H->AM H0 H->H0 a=none->G a=none->H a=some Ix->Ao G xs ys->D.rt HY H
abbrev DF:=Dv->Option Ou
def DS(X:Cx)(st:Stmt)(F:DF):Prop:=∃t,PS X st t/\∀δ r,F δ=some r->∀G0 H0 G H σ D,Rw G0 H0 G H σ δ []->Fin G0 H0 D r->t D σ H
def T3(X:Cx)(st:ye)(F:DF):Prop:=∃t,JZ X st t/\∀δ r,F δ=some r->∀G0 H0 G H σ D,Rw G0 H0 G H σ δ []->Fin G0 H0 D r->t D σ H
def Av(T R:DF)(δ:Dv):Option Ou:=match T δ with
 |some (.nx g)=>R g
 |o=>o
section
variable{X:Cx}{c e:Expr}{f h:yK}{fa:yL}{pos p:Pos}{st:Stmt}{sts sts':ye}{F1 F2:DF}
def CC:T3 X [] (fun δ=>some (.nx δ)):=⟨_,GQ,fun δ r h G0 H0 G H σ D R k=>by cases h;exact k _ _ _ R⟩
def AR(h1:DS X st F1)(h2:T3 X sts F2):T3 X (st::sts) (Av F1 F2):=by
 obtain⟨t1,p1,Y⟩:=h1;obtain⟨t2,Z,k2⟩:=h2;refine⟨_,Ae p1 Z,fun δ r h G0 H0 G H σ D R k=>?_⟩;unfold Av at h;split at h
 .rename_i g e1;exact Y δ _ e1 G0 H0 G H σ _ R fun T G' H' R'=>k2 g r h G0 H0 G' H' T D R' k
 .rename_i U;refine Y δ r h G0 H0 G H σ _ R ?_;cases r with
  |nx g=>exact absurd h (U g)
  |rt x=>exact k
  |bk g=>exact k
  |ct g=>exact k
  |rn xs=>exact k
def AV(T:DS X st F1):T3 X [st] F1:=by
 obtain⟨t1,g,R⟩:=T;exact⟨_,A7 g,R⟩
def mx:DS X (.Continue pos) (fun δ=>some (.ct δ)):=⟨_,Yp,fun δ r h G0 H0 G H σ D R k=>by cases h;exact k _ _ _ R⟩
def iz:DS X st (fun _=>none):=⟨_,Yc,fun _ _ h=>by cases h⟩
def A1(T:zb):DS X (.Return (some e) pos) (fun δ=>(f δ).map .rt):=by
 obtain⟨t,p,k⟩:=T;refine⟨_,Cf p,fun δ r h G0 H0 G H σ D R q=>?_⟩;obtain⟨x,U,rfl⟩:=aC.mp h;exact k δ x U G0 H0 G H σ [] _ R fun v Y H' g=>q v Y H' g.ext g.new g.ins g.keep (g.B4 _ GM)
def mH(T:zb)(g:swapsWith e none pos.line X.env=pure false:=by rfl):DS X (.Expr e pos) (fun δ=>(f δ).map fun _=>.nx δ):=by
 obtain⟨t,p,k⟩:=T;refine⟨_,Er p g,fun δ r h G0 H0 G H σ D R q=>?_⟩;obtain⟨x,U,rfl⟩:=aC.mp h;exact k δ x U G0 H0 G H σ [] _ R fun v Z H' Y=>q _ _ _ Y.drop
def Dq(g:DT X c fa)(h1:T3 X sts F1)(h2:T3 X sts' F2):DS X (.If c sts sts' pos) (fun δ=>(fa δ).bind fun c=>if c=true then F1 δ else F2 δ):=by
 obtain⟨tc,pc,kc⟩:=g;obtain⟨t1,p1,k1⟩:=h1;obtain⟨t2,Z,k2⟩:=h2;refine⟨_,JC pc p1 Z,fun δ r h G0 H0 G H σ D R q=>?_⟩;obtain⟨i,h3,T⟩:=aB.mp h;refine kc δ i h3 G0 H0 G H σ [] _ R fun Y H' U=>?_;split
 .rename_i g;rw[if_pos g]at T;exact k1 δ r T G0 H0 Y H' σ D U q
 .rename_i g;rw[if_neg g]at T;exact k2 δ r T G0 H0 Y H' σ D U q
end
section
variable{G0 H0 G H:Hp}{σ:St}{δ:Dv}{ts:RS}
def Rw.Hw{i:Nat}{x:PD}{v:V}(r:Rw G0 H0 G H σ δ zDw):Rw G0 H0 G H (σ.set i zBT) (δ.set i (.d x)) ts:=by
 have hl:=r.len;refine⟨r.ext,r.new,r.ins,r.keep,by simp[hl],fun j y h=>?_,fun j ys h=>?_,fun j l ys zs Z T R=>?_,fun q hq=>r.B4 q (.tail _ hq)⟩
 .by_cases g:i=j
  .subst g;by_cases hi:i<δ.length
   .rw[List.getElem?_set_self hi]at h;cases h;exact⟨v,by rw[List.getElem?_set_self AC],r.B4 _ GM⟩
   .rw[List.getElem?_eq_none td]at h;cases h
  .rw[List.getElem?_set_ne g]at h;obtain⟨w,Y,U⟩:=r.dat j y h;exact⟨w,by rw[List.getElem?_set_ne g];exact Y,U⟩
 .by_cases g:i=j
  .subst g;by_cases hi:i<δ.length
   .rw[List.getElem?_set_self hi]at h;cases h
   .rw[List.getElem?_eq_none td]at h;cases h
  .rw[List.getElem?_set_ne g]at h;obtain⟨w,Y,U,k3⟩:=r.own j ys h;exact⟨w,Y,by rw[List.getElem?_set_ne g];exact U,k3⟩
 .have nj:i≠j:=fun z=>by
   subst z;by_cases hi:i<δ.length
   .rw[List.getElem?_set_self hi]at T;cases T
   .rw[List.getElem?_eq_none td]at T;cases T
  have nl:i≠l:=fun z=>by
   subst z;by_cases hi:i<δ.length
   .rw[List.getElem?_set_self hi]at R;cases R
   .rw[List.getElem?_eq_none td]at R;cases R
  rw[List.getElem?_set_ne nj]at T ⊢;rw[List.getElem?_set_ne nl]at R ⊢;exact r.apart j l ys zs Z T R
end
section
variable{X:Cx}{e:Expr}{f:yK}{pos p:Pos}
def BZ{i:Nat}{x:Str}{g:Pos}(hN:zv)(hi:X.N[i]? = some x)(T:y7)(Z:zb)(U:swapsWith e (some (.Name x g)) pos.line X.env=pure false:=by rfl)(Y:X.fn x=true\/X.env.scope.names.lookup x=some .local:=by first|exact .inl rfl|exact .inr rfl|assumption):DS X (.Assign [.Name x g] e pos) (fun δ=>(f δ).map fun y=>.nx zr):=by
 obtain⟨t,p,k⟩:=Z;refine⟨_,BE hN hi T p U Y,fun δ r h G0 H0 G H σ D R q=>?_⟩;obtain⟨y,h1,rfl⟩:=aC.mp h;exact k δ y h1 G0 H0 G H σ [] _ R fun v G' H' R'=>q _ _ _ R'.Hw
end
section
variable{G0 H0 G H:Hp}{σ:St}{δ:Dv}{ts:RS}
def Rw.base(r:II):Rw G H0 G H σ δ ts:={r with ext:=AM.refl G,new:=fun _ _ h=>.inl h}
def Nw.trans{R g:Hp}(a:Nw G0 H0 R)(b:Nw R H0 g):Nw G0 H0 g:=fun c o h=>by
 rcases b c o h with z|z|z
 .exact a c o z
 .exact .inr (.inl z)
 .exact .inr (.inr z)
def Rw.YL{T H':Hp}{g:St}{δ':Dv}{R:RS}(r:II)(q:Rw G H0 T H' g δ' R):Rw G0 H0 T H' g δ' R:={q with ext:=r.ext.trans q.ext,new:=r.new.trans q.new}
def GD(i:Nat)(δ:Dv):Dv:=match δ[i]? with
 |some (.own (.lst xs))=>δ.set i (.d (.list xs))
 |some (.own (.GU kvs))=>δ.set i (.d (Bg kvs))
 |_=>δ
def Rw.letGo{i:Nat}{c:Oc}{x:PD}(r:II)(hi:δ[i]? = some (.own c))(hx:∀a o,G a=none->Kk G a c o->Du (upd G a o) x HY):∃a o,σ[i]? = some (some HY)/\G a=none/\H0 a=none/\H a=some o/\Kk G a c o/\Rw G0 H0 (upd G a o) H σ (δ.set i (.d x)) ts:=by
 obtain⟨a,o,k1,k2,k3,k4,k5⟩:=r.own i _ hi;have e:AM G (upd G a o):=Ah k2 _;have g:i<δ.length:=(aD.mp hi).1;refine⟨a,o,k1,k2,k3,k4,k5,r.ext.trans e,fun b o' h=>?_,fun b o' h=>?_,r.keep,by simp[r.len],fun j y h=>?_,fun j zs h=>?_,fun j l us ws hjl Z Y=>?_,fun q hq=>(r.B4 q hq).same e⟩
 .by_cases T:b=a
  .subst T;exact .inr (.inl k3)
  .rw[AL T]at h;exact r.new _ _ h
 .by_cases T:b=a
  .subst T;rw[AO]at h;rw[k4];exact h
  .rw[AL T]at h;exact r.ins _ _ h
 .by_cases R:i=j
  .subst R;rw[List.getElem?_set_self g]at h;cases h;exact⟨.ref a,k1,hx a o k2 k5⟩
  .rw[List.getElem?_set_ne R]at h;obtain⟨w,U,m2⟩:=r.dat j y h;exact⟨w,U,m2.same e⟩
 .by_cases R:i=j
  .subst R;rw[List.getElem?_set_self g]at h;cases h
  .rw[List.getElem?_set_ne R]at h;obtain⟨b,us,U,m2,m3,m4,m5⟩:=r.own j zs h;have nb:b≠a:=fun z=>by subst z;exact r.apart i j _ zs R hi h (by rw[k1,U])
   exact⟨b,us,U,by rw[AL nb];exact m2,m3,m4,m5.same e⟩
 .have nj:i≠j:=fun z=>by subst z;rw[List.getElem?_set_self g]at Z;cases Z
  have nl:i≠l:=fun z=>by subst z;rw[List.getElem?_set_self g]at Y;cases Y
  rw[List.getElem?_set_ne nj]at Z;rw[List.getElem?_set_ne nl]at Y;exact r.apart j l us ws hjl Z Y
def pA{a:AD}{o:HO}{xs:yM}(R:G a=none)(h:Kk G a KT o):Du (upd G a o) (.list xs) HY:=by
 obtain⟨ys,rfl,g⟩:=h;rw[Du];exact⟨a,ys,rfl,AO,g.same (Ah R _)⟩
def ed{a:AD}{o:HO}{kvs:List (Option Tr×PD)}(R:G a=none)(h:Kk G a (.GU kvs) o):Du (upd G a o) (Bg kvs) HY:=by
 obtain⟨r,rfl,n,g⟩:=h;rw[Du,K2];exact .inr (.inr ⟨rfl,rfl,a,r,rfl,AO,n,HW.same (Ah R _) g⟩)
def Rw.GD(i:Nat)(r:II):∃g,Rw G0 H0 g H σ (L2.GD i δ) ts:=by
 unfold L2.GD;split
 .rename_i xs hi;obtain⟨a,o,_,_,_,_,_,R⟩:=r.letGo (x:=.list xs) hi fun a o h=>pA h;exact⟨_,R⟩
 .rename_i kvs hi;obtain⟨a,o,_,_,_,_,_,R⟩:=r.letGo (x:=Bg kvs) hi fun a o h=>ed h;exact⟨_,R⟩
 .exact⟨G,r⟩
def Rw.XD{i:Nat}{xs:Oc}{ys:HO}{a:AD}(r:II)(d:Kk G a xs ys)(ha:H a=none):Rw G0 H0 G (upd H a ys) (σ.set i (some HY)) (δ.set i (.own xs)) ts:=by
 have hG:G a=none:=by
  cases q:G a with
  |none=>rfl
  |some u=>rw[r.ins _ _ q]at ha;cases ha
 have h0:H0 a=none:=by
  cases q:H0 a with
  |none=>rfl
  |some u=>rw[r.keep _ _ q]at ha;cases ha
 have e:AM H (upd H a ys):=Ah ha _;have hl:=r.len;have other:∀(j:Nat) (R:Oc),i≠j->(δ.set i (.own xs))[j]? = some (L.own R)->δ[j]? = some (L.own R):=fun j R g h=>by rw[List.getElem?_set_ne g]at h;exact h
 have T:∀(j:Nat) (R:Oc),δ[j]? = some (L.own R)->σ[j]?≠some (some (V.ref a)):=fun j R h z=>by
  obtain⟨b,us,Y,m2,m3,m4,m5⟩:=r.own j R h;rw[z]at Y;cases Y;rw[m4]at ha;cases ha
 refine⟨r.ext,r.new,r.ins.trans e,r.keep.trans e,by simp[hl],fun j y h=>?_,fun j R h=>?_,fun j l us ws hjl Z U=>?_,r.B4⟩
 .by_cases g:i=j
  .subst g;by_cases hi:i<δ.length
   .rw[List.getElem?_set_self hi]at h;cases h
   .rw[List.getElem?_eq_none td]at h;cases h
  .rw[List.getElem?_set_ne g]at h;obtain⟨w,Y,m2⟩:=r.dat j y h;exact⟨w,by rw[List.getElem?_set_ne g];exact Y,m2⟩
 .by_cases g:i=j
  .subst g;by_cases hi:i<δ.length
   .rw[List.getElem?_set_self hi]at h;cases h;exact⟨a,ys,by rw[List.getElem?_set_self AC],hG,h0,AO,d⟩
   .rw[List.getElem?_eq_none td]at h;cases h
  .have h:=other j R g h;obtain⟨b,us,Y,m2,m3,m4,m5⟩:=r.own j R h;exact⟨b,us,by rw[List.getElem?_set_ne g];exact Y,m2,m3,e _ _ m4,m5⟩
 .by_cases g:i=j
  .subst g;have hl2:i≠l:=hjl;have U:=other l ws hl2 U;by_cases hi:i<δ.length
   .rw[List.getElem?_set_self AC,List.getElem?_set_ne hl2];exact fun z=>T l ws U z.symm
   .rw[List.getElem?_eq_none td]at Z;cases Z
  .have Z:=other j us g Z;by_cases hk:i=l
   .subst hk;by_cases hi:i<δ.length
    .rw[List.getElem?_set_self AC,List.getElem?_set_ne g];exact fun z=>T j us Z z
    .rw[List.getElem?_eq_none td]at U;cases U
   .have U:=other l ws hk U;rw[List.getElem?_set_ne g,List.getElem?_set_ne hk];exact r.apart j l us ws hjl Z U
def Rw.di{i:Nat}{xs R:Oc}{ys:HO}{a:AD}(r:II)(hi:δ[i]? = some (.own xs))(ha:σ[i]? = some (some HY))(d:Kk G a R ys):Rw G0 H0 G (upd H a ys) σ (δ.set i (.own R)) ts:=by
 obtain⟨a',ys0,k1,k2,k3,k4,k5⟩:=r.own i xs hi;rw[ha]at k1;cases k1;have U:i<δ.length:=(aD.mp hi).1;have hl:=r.len;refine⟨r.ext,r.new,fun b o h=>?_,fun b o h=>?_,by simp[hl],fun j y h=>?_,fun j zs h=>?_,fun j l us ws Z h1 h2=>?_,r.B4⟩
 .rw[AL (fun z=>by subst z;rw[k2]at h;cases h)];exact r.ins _ _ h
 .rw[AL (fun z=>by subst z;rw[k3]at h;cases h)];exact r.keep _ _ h
 .by_cases g:i=j
  .subst g;rw[List.getElem?_set_self U]at h;cases h
  .rw[List.getElem?_set_ne g]at h;exact r.dat j y h
 .by_cases g:i=j
  .subst g;rw[List.getElem?_set_self U]at h;cases h;exact⟨a,ys,ha,k2,k3,AO,d⟩
  .rw[List.getElem?_set_ne g]at h;obtain⟨b,us,m1,m2,m3,m4,m5⟩:=r.own j zs h;have nb:b≠a:=fun z=>by subst z;exact r.apart i j xs zs g hi h (by rw[ha,m1])
   exact⟨b,us,m1,m2,m3,by rw[AL nb];exact m4,m5⟩
 .have f:∀(j:Nat) (us:Oc),(δ.set i (.own R))[j]? = some (L.own us)->∃T,δ[j]? = some (L.own T):=fun j us h=>by
   by_cases g:i=j
   .subst g;exact⟨xs,hi⟩
   .rw[List.getElem?_set_ne g]at h;exact⟨us,h⟩
  obtain⟨T,h1⟩:=f j us h1;obtain⟨Y,h2⟩:=f l ws h2;exact r.apart j l T Y Z h1 h2
end
section
variable{X:Cx}{a b e:Expr}{es:yV}{f h:yK}{fs:yJ}{pos p:Pos}{st:Stmt}{F:DF}
def Nc(i:Nat)(g:DS X st F):DS X st (fun δ=>F (GD i δ)):=by
 obtain⟨t,p,k⟩:=g;refine⟨t,p,fun δ r h G0 H0 G H σ D R q=>?_⟩;obtain⟨U,T⟩:=R.GD i;exact k _ r h G0 H0 U H σ D T q
def Td{i:Nat}{x:Str}{g U:Pos}(hN:zv)(hi:X.N[i]? = some x)(Z:y7)(ha:DA X es fs)(hs:swapsWith (.List es U) (some (.Name x g)) pos.line X.env=pure false:=by rfl)(hf:X.fn x=true\/X.env.scope.names.lookup x=some .local:=by first|exact .inl rfl|exact .inr rfl|assumption):DS X (.Assign [.Name x g] (.List es U) pos) (fun δ=>((fs δ).bind Kz).map fun ys=>.nx (δ.set i (.own Ix))):=by
 obtain⟨t,p,k⟩:=ha;refine⟨_,BE hN hi Z (HQ p) hs hf,fun δ r h G0 H0 G H σ D R q=>?_⟩;obtain⟨y,h1,rfl⟩:=aC.mp h;obtain⟨xs,h2,h3⟩:=aB.mp h1;obtain⟨rfl,hl⟩:=Pt h3;refine k δ _ h2 G0 H0 G H σ [] _ R fun vs G1 H1 R1 Y=>?_;obtain⟨d,R2⟩:=R1.args Y;exact⟨Hs (by rw[Y];exact hl),fun l T=>q _ _ _ (R2.XD ⟨_,rfl,d⟩ T)⟩
def ow(i:Nat)(δ:Dv):Option yM:=match δ[i]? with
 |some (.own (.lst xs))=>some xs
 |_=>none
def dc{i:Nat}{δ:Dv}{xs:yM}(h:ow i δ=some xs):δ[i]? = some (.own KT):=by
 unfold ow at h;split at h
 .rename_i y e;cases h;exact e
 .cases h
def QC{i:Nat}{x:Str}{np ap cp:Pos}(hv:PE X RN (QP i))(he:zb) (hP:∀ {Z:TE} {t:TA},PE X RN Z->PA X [e] t->PS X zGs (WA (qA X.K "list" Z8 Z t)))(T:starEach [e] X.env=IJ::starEach [] X.env:=by rfl):DS X zGs (fun δ=>(f δ).bind fun y=>(ow i δ).bind fun xs=>if xs.length<Dz then some (.nx (δ.set i (.own (.lst (xs++[y]))))) else none):=by
 obtain⟨t,p,k⟩:=he;refine⟨_,hP hv (AN p Af T),fun δ r h G0 H0 G H σ D R q=>?_⟩;obtain⟨y,h1,h2⟩:=aB.mp h;obtain⟨xs,h3,U⟩:=aB.mp h2;split at U
 .rename_i hl;cases U;have hi:=dc h3;obtain⟨a,_,g,k2,k3,k4,⟨ys,rfl,k5⟩⟩:=R.own i _ hi;refine⟨.ref a,g,.inl ⟨rfl,ys,Ax.of k4⟩,?_⟩;refine k δ y h1 G0 H0 G H σ [] _ R fun u G1 H1 Y=>?_;obtain⟨a',_,m1,m2,m3,m4,⟨zs,rfl,m5⟩⟩:=Y.own i _ hi;rw[g]at m1;cases m1;refine⟨a,zs,u,rfl,rfl,m4,UO (by rw[m5.len];lia),?_⟩;exact q _ _ _ (Y.drop.di hi g ⟨_,rfl,m5.app (.cons (Y.B4 _ GM) .nil)⟩)
 .cases U
def VA{i:Nat}{x:Str}{np ap cp:Pos}(hv:PE X RN (QP i))(he:zb)
 (hP:∀ {Z:TE} {t:TA},PE X RN Z->PA X [e] t->PS X zGt (WA (qA X.K "list" Zd Z t)))(Y:starEach [e] X.env=IJ::starEach [] X.env:=by rfl) :
  DS X zGt (fun δ=>(f δ).bind fun y=>(ow i δ).bind fun xs=>match y with|.list zs=>(if xs.length+zs.length<=Dz then some (.nx (δ.set i (.own (.lst (xs++zs))))) else none)|_=>none):=by
 obtain⟨t,p,k⟩:=he;refine⟨_,hP hv (AN p Af Y),fun δ r h G0 H0 G H σ D R q=>?_⟩;obtain⟨y,h1,h2⟩:=aB.mp h;obtain⟨xs,h3,g⟩:=aB.mp h2;split at g
 .rename_i zs;split at g
  .rename_i hl;cases g;have hi:=dc h3;obtain⟨a,_,U,k2,k3,k4,⟨ys,rfl,k5⟩⟩:=R.own i _ hi;refine⟨.ref a,U,.inl ⟨rfl,ys,Ax.of k4⟩,?_⟩;refine k δ _ h1 G0 H0 G H σ [] _ R fun u G1 H1 T=>?_;obtain⟨a',_,m1,m2,m3,m4,⟨us,rfl,m5⟩⟩:=T.own i _ hi;rw[U]at m1;cases m1;have du:=T.B4 _ GM;rw[Du]at du;obtain⟨b,ws,rfl,n1,n2⟩:=du;refine⟨a,b,us,ws,rfl,rfl,m4,T.ins _ _ n1,Hs (by rw[m5.len,n2.len];exact hl),?_⟩;exact q _ _ _ (T.drop.di hi U ⟨_,rfl,m5.app n2⟩)
  .cases g
 .cases g
end
structure MM(J:It)(xs:List PyData)(G:Hp):Prop where
 stop:∀H,AM G H->J.stop xs.length H
 go:∀(i:Nat) (d:PyData) H,xs[i]? = some d->AM G H->J.go i H
 GW:∀(i:Nat) (d:PyData) H x H',xs[i]? = some d->AM G H->J.GW i H x H'->∀Gc,AM G Gc->AM Gc H->∃Gc',AM Gc Gc'/\Nw Gc H Gc'/\AM Gc' H'/\AM H H'/\Du Gc' d x
def Nw.refl{G H:Hp}:Nw G H G:=fun _ _ h=>.inl h
def l6{K:Fg}{G:Hp}{a:AD}{ys:yb}{xs:yM}(ha:G a=some Ix)(d:Ao G xs ys):MM (Zy K a) xs G where
 stop:=fun H e=>⟨ys,Ax.of zAB,by rw[d.len];exact aJ _⟩
 go:=fun i x H hx e=>by
  obtain⟨v,h1,_⟩:=d.get hx;exact⟨ys,v,Ax.of zAB,h1⟩
 GW:=fun i x H v H' hx e y Gc e1 e2=>by
  obtain⟨rfl,y⟩:=y;have h1:=y ys (Ax.of zAB);obtain⟨x',h2,h3⟩:=d.back h1;rw[hx]at h2;cases h2;exact⟨Gc,AM.refl _,Nw.refl,e2,AM.refl _,h3.same e1⟩
def rD{K:Fg}{G:Hp}{a:AD}{ys:yb}{xs:yM}(ha:G a=some zCV)(d:Ao G xs ys):MM (Zg K a) xs G where
 stop:=fun H e=>⟨ys,BL.of zAB,by rw[d.len];exact aJ _⟩
 go:=fun i x H hx e=>by
  obtain⟨v,h1,_⟩:=d.get hx;exact⟨ys,v,BL.of zAB,h1⟩
 GW:=fun i x H v H' hx e y Gc e1 e2=>by
  obtain⟨rfl,y⟩:=y;have h1:=y ys (BL.of zAB);obtain⟨x',h2,h3⟩:=d.back h1;rw[hx]at h2;cases h2;exact⟨Gc,AM.refl _,Nw.refl,e2,AM.refl _,h3.same e1⟩
def Ue(lo:Int)(n:Nat):yM:=(List.range n).map fun k=>.int (lo+(k:Nat))
def fE{G:Hp}{lo:Int}{n:Nat}:MM (U4 lo n) (Ue lo n) G where
 stop:=fun H e=>by show n<=_;simp[Ue]
 go:=fun i x H hx e=>by
  have:=(aD.mp hx).1;show i<n
  simpa[Ue]using this
 GW:=fun i x H v H' hx e y Gc e1 e2=>by
  obtain⟨rfl,rfl⟩:=y;unfold Ue at hx;rw[List.getElem?_map]at hx;obtain⟨k,h1,rfl⟩:=aC.mp hx;have hk:k=i:=by
   have:=(aD.mp h1).1;rw[List.getElem?_range (by simpa using this)]at h1;cases h1;rfl
  subst hk;exact⟨Gc,AM.refl _,Nw.refl,e2,AM.refl _,by rw[Du]⟩
def SN{Gc H:Hp}{p:AD}{Z Y:PD}{R g:V}(U:AM Gc H)(T:H p=none)(h1:Du Gc Z R)(h2:Du Gc Y g):∃Gc',AM Gc Gc'/\Nw Gc H Gc'/\AM Gc' (upd H p (.tup [R,g]))/\AM H (upd H p (.tup [R,g]))/\Du Gc' (.tuple [Z,Y]) xT:=by
 have hG:Gc p=none:=by
  cases q:Gc p with
  |none=>rfl
  |some u=>rw[U _ _ q]at T;cases T
 have e:AM Gc (upd Gc p (.tup [R,g])):=Ah hG _;refine⟨upd Gc p (.tup [R,g]),e,fun a o h=>?_,fun a o h=>?_,Ah T _,?_⟩
 .by_cases ha:a=p
  .subst ha;exact .inr (.inl T)
  .rw[AL ha]at h;exact .inl h
 .by_cases ha:a=p
  .subst ha;rw[AO]at h ⊢;exact h
  .rw[AL ha]at h ⊢;exact U _ _ h
 .rw[Du];exact⟨p,[R,g],rfl,AO,.cons (h1.same e) (.cons (h2.same e) .nil)⟩
def LH(xs:yM):yM:=xs.zipIdx.map fun q=>.tuple [.int (q.2:Nat),q.1]
def Kb{xs:yM}{i:Nat}{d:PD}(h:(LH xs)[i]? = some d):∃x,xs[i]? = some x/\d=.tuple [.int (i:Nat),x]:=by
 unfold LH at h;rw[List.getElem?_map]at h;obtain⟨q,g,rfl⟩:=aC.mp h;rw[List.getElem?_zipIdx]at g;obtain⟨x,R,rfl⟩:=aC.mp g;exact⟨x,R,by simp⟩
def jT{K:Fg}{G:Hp}{a:AD}{ys:yb}{xs:yM}(ha:G a=some zCV)(d:Ao G xs ys):MM (q8 K a) (LH xs) G where
 stop:=fun H e=>⟨ys,BL.of zAB,by rw[d.len];simp[LH]⟩
 go:=fun i x H hx e=>by
  obtain⟨x',h0,rfl⟩:=Kb hx;obtain⟨v,h1,_⟩:=d.get h0;exact⟨ys,v,BL.of zAB,h1⟩
 GW:=fun i x H v H' hx e y Gc e1 e2=>by
  obtain⟨x',h0,rfl⟩:=Kb hx;obtain⟨p,u,rfl,hp,rfl,y⟩:=y;have h1:=y ys (BL.of zAB);obtain⟨x2,h2,h3⟩:=d.back h1;rw[h0]at h2;cases h2;exact SN e2 hp Mt (h3.same e1)
def jI{K:Fg}{G:Hp}{a:AD}{ys:yb}{xs:yM}(ha:G a=some Ix)(d:Ao G xs ys):MM (oP K a) (LH xs) G where
 stop:=fun H e=>⟨ys,Ax.of zAB,by rw[d.len];simp[LH]⟩
 go:=fun i x H hx e=>by
  obtain⟨x',h0,rfl⟩:=Kb hx;obtain⟨v,h1,_⟩:=d.get h0;exact⟨ys,v,Ax.of zAB,h1⟩
 GW:=fun i x H v H' hx e y Gc e1 e2=>by
  obtain⟨x',h0,rfl⟩:=Kb hx;obtain⟨p,u,rfl,hp,rfl,y⟩:=y;have h1:=y ys (Ax.of zAB);obtain⟨x2,h2,h3⟩:=d.back h1;rw[h0]at h2;cases h2;exact SN e2 hp Mt (h3.same e1)
def Rl(xs ys:yM):yM:=(xs.zip ys).map fun q=>.tuple [q.1,q.2]
def WS{xs ys:yM}{i:Nat}{d:PD}(h:(Rl xs ys)[i]? = some d):∃x y,xs[i]? = some x/\ys[i]? = some y/\d=.tuple [x,y]:=by
 unfold Rl at h;rw[List.getElem?_map]at h;obtain⟨q,T,rfl⟩:=aC.mp h;obtain⟨R,g⟩:=List.getElem?_zip_eq_some.mp T;exact⟨q.1,q.2,R,g,rfl⟩
def qB{G:Hp}{b1 b2:Bool}{a1 a2:AD}{us vs:yb}{xs ys:yM}(h1:G a1=some (if b1 then .tup us else .lst us))(h2:G a2=some (if b2 then .tup vs else .lst vs))(d1:Ao G xs us)(d2:Ao G ys vs):MM (qy b1 b2 a1 a2) (Rl xs ys) G where
 stop:=fun H e=>by
  have k1:=e _ _ h1;have k2:=e _ _ h2;refine⟨us,vs,?_,?_,?_⟩
  .cases b1<;>simpa[Ca]using k1
  .cases b2<;>simpa[Ca]using k2
  .rw[d1.len,d2.len];simp[Rl];lia
 go:=fun i x H hx e=>by
  obtain⟨x1,x2,k1,k2,rfl⟩:=WS hx;obtain⟨v1,k3,_⟩:=d1.get k1;obtain⟨v2,k4,_⟩:=d2.get k2;have m1:=e _ _ h1;have m2:=e _ _ h2;refine⟨us,v1,vs,v2,?_,?_,k3,k4⟩
  .cases b1<;>simpa[Ca]using m1
  .cases b2<;>simpa[Ca]using m2
 GW:=fun i x H v H' hx e y Gc e1 e2=>by
  obtain⟨x1,x2,k1,k2,rfl⟩:=WS hx;obtain⟨p,v1,v2,rfl,hp,rfl,y1,y2⟩:=y;have m1:=e _ _ h1;have m2:=e _ _ h2;have z1:=y1 us (by cases b1<;>simpa[Ca]using m1);have z2:=y2 vs (by cases b2<;>simpa[Ca]using m2);obtain⟨w1,n1,n2⟩:=d1.back z1;obtain⟨w2,n3,n4⟩:=d2.back z2;rw[k1]at n1;cases n1;rw[k2]at n3;cases n3;exact SN e2 hp (n2.same e1) (n4.same e1)
def DI(X:Cx)(tg iter:Expr)(f:yJ):Prop:=∃g,PI X tg iter g/\∀δ xs,f δ=some xs->∀G0 H0 G H σ ts (R:zDE),Rw G0 H0 G H σ δ ts->(∀J T H',Rw G0 H0 T H' σ δ ts->MM J xs T->R J H')->g σ H R
section
variable{X:Cx}{tg a b e:Expr}{f g h:yK}{fs:yJ}{pos p:Pos}{sts:ye}{F:DF}
def PI.or{U T:TI}(h:PI X tg e U)(h':PI X tg e T):PI X tg e (fun σ H R=>U σ H R\/T σ H R):=fun pins s σ H R I q=>by
 rcases q with q|q
 .exact h pins s σ H R I q
 .exact h' pins s σ H R I q
def Fz:PD->Option zGV
 |.list xs=>some xs
 |.tuple xs=>some xs
 |_=>none
def Cy(he:zb):DI X tg e (fun δ=>(f δ).bind Fz):=by
 obtain⟨t,p,k⟩:=he;refine⟨_,(FQ p).or (X0 p),fun δ xs h G0 H0 G H σ ts R R0 q=>?_⟩;obtain⟨x,h1,Y⟩:=aB.mp h;unfold Fz at Y;split at Y
 .cases Y
  left
  refine k δ _ h1 G0 H0 G H σ ts _ R0 fun v G' H' T=>?_;have Z:=T.B4 _ GM;rw[Du]at Z;obtain⟨a,ys,rfl,U,n2⟩:=Z;exact⟨a,rfl,⟨ys,Ax.of zDh⟩,q _ _ _ T.drop (l6 U n2)⟩
 .cases Y
  right
  refine k δ _ h1 G0 H0 G H σ ts _ R0 fun v G' H' T=>?_;have Z:=T.B4 _ GM;rw[Du]at Z;obtain⟨a,ys,rfl,U,n2⟩:=Z;exact⟨a,rfl,⟨ys,BL.of zDh⟩,q _ _ _ T.drop (rD U n2)⟩
 .cases Y
def da:List PD->Option zGV
 |[.int j]=>if -1000000<=j/\j<=1000000 then some (Ue 0 j.toNat) else none
 |_=>none
def dU:List PD->Option zGV
 |[.int i,.int j]=>if -1000000<=i/\i<=1000000/\-1000000<=j/\j<=1000000 then some (Ue i (j-i).toNat) else none
 |_=>none
def Vk(hg:Gl X "range")(hm:zEh)(ha:DA X [a] fs)(Z:starEach [a] X.env=[Nr]:=by rfl):DI X tg (.Call (.Name "range" p) [a] [] pos) (fun δ=>(fs δ).bind da):=by
 obtain⟨t,p,k⟩:=ha;refine⟨_,QO hg hm p Z,fun δ xs h G0 H0 G H σ ts R R0 q=>?_⟩;obtain⟨x,h1,T⟩:=aB.mp h;refine k δ _ h1 G0 H0 G H σ ts _ R0 fun vs G' H' R' Y=>?_;obtain⟨d,R2⟩:=R'.args Y;unfold da at T;split at T
 .split at T
  .cases T;obtain⟨u,rfl,U⟩:=d.Ke;rw[Du]at U;subst U;exact⟨_,rfl,by lia,by lia,q _ _ _ R2 fE⟩
  .cases T
 .cases T
def Vc(hg:Gl X "range")(hm:zEh)(ha:DA X [a,b] fs)(hs:starEach [a,b] X.env=[Nr,MN]:=by rfl)(U:starEach [b] X.env=[MN]:=by rfl):DI X tg (.Call (.Name "range" p) [a,b] [] pos) (fun δ=>(fs δ).bind dU):=by
 obtain⟨t,p,k⟩:=ha;refine⟨_,gT hg hm p hs U,fun δ xs h G0 H0 G H σ ts R R0 q=>?_⟩;obtain⟨x,h1,T⟩:=aB.mp h;refine k δ _ h1 G0 H0 G H σ ts _ R0 fun vs G' H' R' hv=>?_;obtain⟨d,R2⟩:=R'.args hv;unfold dU at T;split at T
 .split at T
  .cases T;obtain⟨u,v,rfl,Z,Y⟩:=d.Ms;rw[Du]at Z Y;subst Z Y;exact⟨_,_,rfl,⟨by lia,by lia,by lia,by lia⟩,q _ _ _ R2 fE⟩
  .cases T
 .cases T
def S0:List PD->Option zGV
 |[.list xs]=>some (LH xs)
 |[.tuple xs]=>some (LH xs)
 |_=>none
def UZ{elts:yV}{x1}{T:Pos}(hg:Gl X "enumerate")(hm:X.mg "enumerate" = none)(ha:DA X [a] fs)(hs:starEach [a] X.env=[Nr]:=by rfl):DI X (.Tuple elts x1 T) zAz (fun δ=>(fs δ).bind S0):=by
 obtain⟨t,p,k⟩:=ha;refine⟨_,(i0 hg hm p hs).or (oC hg hm p hs),fun δ xs h G0 H0 G H σ ts R R0 q=>?_⟩;obtain⟨x,h1,Y⟩:=aB.mp h;unfold S0 at Y;split at Y
 .cases Y
  left
  refine k δ _ h1 G0 H0 G H σ ts _ R0 fun vs G' H' R' hv=>?_;obtain⟨d,R2⟩:=R'.args hv;obtain⟨u,rfl,Z⟩:=d.Ke;rw[Du]at Z;obtain⟨a,ys,rfl,U,n2⟩:=Z;exact⟨a,rfl,⟨ys,Ax.of (R2.ins _ _ U)⟩,q _ _ _ R2 (jI U n2)⟩
 .cases Y
  right
  refine k δ _ h1 G0 H0 G H σ ts _ R0 fun vs G' H' R' hv=>?_;obtain⟨d,R2⟩:=R'.args hv;obtain⟨u,rfl,Z⟩:=d.Ke;rw[Du]at Z;obtain⟨a,ys,rfl,U,n2⟩:=Z;exact⟨a,rfl,⟨ys,BL.of (R2.ins _ _ U)⟩,q _ _ _ R2 (jT U n2)⟩
 .cases Y
def zip2:List PD->Option zGV
 |[x,y]=>(Fz x).bind fun xs=>(Fz y).map fun ys=>Rl xs ys
 |_=>none
def Io{G:Hp}{x:PD}{v:V}{xs:yM}(h:Du G x v)(e:Fz x=some xs):∃(b:Bool) (a:AD) (ys:yb),v=.ref a/\G a=some (if b then .tup ys else .lst ys)/\Ao G xs ys:=by
 unfold Fz at e;split at e
 .cases e;rw[Du]at h;obtain⟨a,ys,rfl,T,R⟩:=h;exact⟨false,a,ys,rfl,T,R⟩
 .cases e;rw[Du]at h;obtain⟨a,ys,rfl,T,R⟩:=h;exact⟨true,a,ys,rfl,T,R⟩
 .cases e
def qQ{elts:yV}{x1}{T:Pos}(hg:Gl X "zip")(hm:zBR)(ha:DA X [a,b] fs)(hs:starEach [a,b] X.env=[Nr,MN]:=by rfl)(Y:starEach [b] X.env=[MN]:=by rfl):DI X (.Tuple elts x1 T) (.Call (.Name "zip" p) [a,b] [] pos) (fun δ=>(fs δ).bind zip2):=by
 obtain⟨t,p,k⟩:=ha;refine⟨_,X7 hg hm p hs Y,fun δ xs h G0 H0 G H σ ts R R0 q=>?_⟩;obtain⟨x,h1,U⟩:=aB.mp h;refine k δ _ h1 G0 H0 G H σ ts _ R0 fun vs G' H' R' hv=>?_;obtain⟨d,R2⟩:=R'.args hv;unfold zip2 at U;split at U
 .obtain⟨xs1,h3,h4⟩:=aB.mp U;obtain⟨ys1,h5,rfl⟩:=aC.mp h4;obtain⟨u,v,rfl,du,dv⟩:=d.Ms;obtain⟨b1,a1,us,rfl,Z,n2⟩:=Io du h3;obtain⟨b2,a2,ws,rfl,m1,m2⟩:=Io dv h5;have s1:=R2.ins _ _ Z;have s2:=R2.ins _ _ m1;exact⟨b1,b2,a1,a2,rfl,⟨us,by cases b1<;>simpa[Ca]using s1⟩,⟨ws,by cases b2<;>simpa[Ca]using s2⟩,q _ _ _ R2 (qB Z m1 n2 m2)⟩
 .cases U
def DG(X:Cx)(tg:Expr)(set:TM):Prop:=∃g,PG X tg g/\∀δ x T,set x δ=some T->∀G0 H0 G H σ v (Q:St->Hp->Prop),Rw G0 H0 G H σ δ [(x,v)]->(∀R U H',Rw G0 H0 U H' R T []->Q R H')->g v σ H Q
def Es{i:Nat}{x:Str}(h:PG X tO (F0 i)):DG X tO (fun y δ=>some zr) :=
 ⟨_,h,fun δ y T e G0 H0 G H σ v Q R k=>by cases e;exact k _ _ _ R.Hw⟩
def Fo(i j:Nat)(y:PD)(δ:Dv):Option Dv:=match y with
 |.tuple [u,v]=>some ((δ.set i (.d u)).set j (.d v))
 |_=>none
def MO{x y:Str}{i j:Nat}{Z Y:Pos}{k1}(h:PG X (.Tuple [.Name x Z,.Name y Y] k1 pos) (cU X.K 2 (Mf (F0 i) (Mf (F0 j) cV)))):DG X (.Tuple [.Name x Z,.Name y Y] k1 pos) (Fo i j):=by
 refine⟨_,h,fun δ z δ' e G0 H0 G H σ v Q R k=>?_⟩;unfold Fo at e;split at e
 .cases e;have du:=R.B4 _ GM;rw[Du]at du;obtain⟨a,ys,rfl,n1,n2⟩:=du;obtain⟨U,T,rfl,m1,m2⟩:=n2.Ms;refine⟨a,[U,T],rfl,BL.of (R.ins _ _ n1),rfl,U,[T],rfl,T,[],rfl,rfl,?_⟩;exact k _ _ _ (((R.drop.put m2).put m1).Hw.Hw)
 .cases e
def Lz(set:TM)(T:DF):List PD->Dv->Option Ou
 |[],δ=>some (.nx δ)
 |x::xs,δ=>match (set x δ).bind T with
  |some (.nx R)=>Lz set T xs R
  |some (.ct R)=>Lz set T xs R
  |some (.bk R)=>some (.nx R)
  |some (.rt v)=>some (.rt v)
  |some (.rn v)=>some (.rn v)
  |none=>none
def Dj{set:TM}(hp:zHG)(hc:dO)(hi:DI X tg e fs)(hg:DG X tg set)(hb:T3 X sts F)(hs:∀x,foldedSetIterable e X.env x=pure x:=by intro _;rfl):DS X (.For tg e sts [] pos) (fun δ=>(fs δ).bind fun xs=>Lz set F xs δ):=by
 obtain⟨wi,pi,ki⟩:=hi;obtain⟨g,pg,kg⟩:=hg;obtain⟨tb,pb,kb⟩:=hb;refine⟨_,KZ hp hc pi pg pb hs,fun δ r h G0 H0 G H σ D R q=>?_⟩;obtain⟨xs,h1,h2⟩:=aB.mp h;refine ki δ xs h1 G0 H0 G H σ [] _ R fun J Ga Ha Ra it=>?_;refine⟨fun i m U H'=>m=xs.length-i/\i<=xs.length/\∃T G',Lz set F (xs.drop i) T=some r/\Rw G0 H0 G' H' U T []/\AM Ga G',⟨xs.length,by simp,Nat.zero_le _,δ,Ga,by simpa using h2,Ra,AM.refl _⟩,?_⟩;rintro i m σ1 H1 ⟨rfl,hi,δ1,G1,f1,R1,s1⟩;have sH:AM Ga H1:=s1.trans R1.ins;by_cases Z:i<xs.length
 .right
  have hx:xs[i]? = some xs[i]:=by simp[Z]
  refine⟨it.go i _ H1 hx sH,fun U H'=>i+1<=xs.length/\∃T G',Lz set F (xs.drop M2) T=some r/\Rw G0 H0 G' H' U T []/\AM Ga G',fun U H' n=>⟨xs.length-M2,by lia,rfl,n⟩,fun x H' y=>?_⟩;obtain⟨G2,e1,e2,e3,e4,e5⟩:=it.GW i _ H1 x H' hx sH y G1 s1 R1.ins;have R2:=(R1.lift e1 e2 e3 e4).put e5;have s2:=s1.trans e1;rw[List.drop_eq_getElem_cons Z]at f1;unfold Lz at f1;cases hb2:(set xs[i] δ1).bind F with
  |none=>rw[hb2]at f1;cases f1
  |some o=>
   obtain⟨δ2,k1,k2⟩:=aB.mp hb2;rw[hb2]at f1;have R2b:=R2.base;refine kg δ1 _ δ2 k1 G2 H0 G2 H' σ1 x _ R2b fun σ3 G3 H3 R3=>?_;refine kb δ2 o k2 G2 H0 G3 H3 σ3 _ R3 ?_;cases o with
   |nx Y=>exact fun σ4 G4 H4 R4=>⟨Z,Y,G4,f1,R2.drop.YL R4,s2.trans R4.ext⟩
   |ct Y=>exact fun σ4 G4 H4 R4=>⟨Z,Y,G4,f1,R2.drop.YL R4,s2.trans R4.ext⟩
   |bk Y=>cases f1;exact fun σ4 G4 H4 R4=>q σ4 G4 H4 (R2.drop.YL R4)
   |rt v=>cases f1;exact fun w G4 H4 h1 h2 h3 h4 h5=>q w G4 H4 (R2.ext.trans h1) (R2.new.trans h2) h3 h4 h5
   |rn v=>cases f1;exact fun w ys G4 H4 h1 h2=>q w ys G4 H4 (R2.ext.trans h1) (R2.new.trans h2)
 .left
  have e:i=xs.length:=by lia
  subst e;refine⟨it.stop H1 sH,?_⟩;rw[List.drop_length]at f1;unfold Lz at f1;cases f1;exact q _ _ _ R1
end
def tD(f:yK):TE:=fun σ H Q=>∃δ x G0 H0 G ts,f δ=some x/\Rw G0 H0 G H σ δ ts/\∀v g H',Rw G0 H0 g H' σ δ zDw->Q v H'
def gK(f:yL):TT:=fun σ H Q=>∃δ x G0 H0 G ts,f δ=some x/\Rw G0 H0 G H σ δ ts/\∀g H',Rw G0 H0 g H' σ δ ts->Q x H'
def DE.pe{X:Cx}{e:Expr}{f:yK}(h:zb):PE X e (tD f):=by
 obtain⟨t,p,k⟩:=h;intro pins s σ H Q I q;obtain⟨δ,x,G0,H0,G,ts,T,R,g⟩:=q;exact p pins s σ H Q I (k δ x T G0 H0 G H σ ts Q R g)
def DT.pt{X:Cx}{e:Expr}{f:yL}(h:DT X e f):PT X e (gK f):=by
 obtain⟨t,p,k⟩:=h;intro pins s σ H Q I q;obtain⟨δ,x,G0,H0,G,ts,T,R,g⟩:=q;exact p pins s σ H Q I (k δ x T G0 H0 G H σ ts Q R g)
def ZG(X:Cx)(g:yV)(f:yL):Prop:=Ox X g (gK f)
def Gy{X:Cx}:ZG X [] (fun _=>some true):=by
 intro pins s σ H Q I q;obtain⟨δ,x,G0,H0,G,ts,T,R,g⟩:=q;cases T;exact GO pins s σ H Q I (g _ _ R)
def nk{X:Cx}{c:Expr}{f:yL}(h:DT X c f):ZG X [c] f:=mC h.pt
def B7(fr:yg)(δ:Dv):Dv:=fr.map fun o=>match o with
 |some j=>(match δ[j]? with|some (.d x)=>.d x|_=>.no)
 |none=>.no
def Rw.inner{G0 H0 G H:Hp}{σ:St}{δ:Dv}{ts:RS}(fr:yg)(r:II):Rw G H G H (carry fr σ) zAj ts:=by
 have key:∀(i:Nat) (l:L),(B7 fr δ)[i]? = some l->∃o,fr[i]? = some o/\l=(match o with|some j=>(match δ[j]? with|some (.d x)=>.d x|_=>.no)|none=>.no):=fun i l h=>by
  unfold B7 at h;rw[List.getElem?_map]at h;obtain⟨o,T,rfl⟩:=aC.mp h;exact⟨o,T,rfl⟩
 have g:∀(i:Nat) (xs:Oc),(B7 fr δ)[i]?≠some (L.own xs):=fun i xs h=>by
  obtain⟨o,_,R⟩:=key i _ h;split at R
  .split at R<;>cases R
  .cases R
 refine⟨AM.refl _,Nw.refl,r.ins,AM.refl _,by simp[carry,B7],fun i x h=>?_,fun i xs h=>absurd h (g i xs),fun i j xs ys _ h=>absurd h (g i xs),r.B4⟩;obtain⟨o,T,R⟩:=key i _ h;split at R
 .rename_i j;split at R
  .rename_i y Z;cases R;obtain⟨v,Y,U⟩:=r.dat j _ Z;refine⟨v,?_,U⟩;unfold carry;rw[List.getElem?_map,T];simp[Y]
  .cases R
 .cases R
def Rw.other{G0 H0 G H:Hp}{σ:St}{δ:Dv}{ts:RS}{D:AD}{o:HO}(r:II)(hG:G D=none)(h0:H0 D=none)(Z:zGl):Rw G0 H0 G (upd H D o) σ δ ts:=by
 refine⟨r.ext,r.new,fun a u h=>?_,fun a u h=>?_,r.len,r.dat,fun i xs h=>?_,r.apart,r.B4⟩
 .rw[AL (fun z=>by subst z;rw[hG]at h;cases h)];exact r.ins _ _ h
 .rw[AL (fun z=>by subst z;rw[h0]at h;cases h)];exact r.keep _ _ h
 .obtain⟨a,ys,g,Y,U,T,R⟩:=r.own i xs h;exact⟨a,ys,g,Y,U,by rw[AL (fun z=>by subst z;exact Z i xs h g)];exact T,R⟩
def Rw.adopt{G0 H0 G H:Hp}{σ:St}{δ:Dv}{ts:RS}{D:AD}{ys:yb}(r:II)(hD:H D=some Ix)(hG:G D=none)(h0:H0 D=none)(ho:zGl):Rw G0 H0 (upd G D Ix) H σ δ ts:=by
 have e:AM G (upd G D Ix):=Ah hG _;refine⟨r.ext.trans e,fun a u h=>?_,fun a u h=>?_,r.keep,r.len,fun i x h=>?_,fun i xs h=>?_,r.apart,fun q hq=>(r.B4 q hq).same e⟩
 .by_cases ha:a=D
  .subst ha;exact .inr (.inl h0)
  .rw[AL ha]at h;exact r.new _ _ h
 .by_cases ha:a=D
  .subst ha;rw[AO]at h;rw[hD];exact h
  .rw[AL ha]at h;exact r.ins _ _ h
 .obtain⟨v,g,R⟩:=r.dat i x h;exact⟨v,g,R.same e⟩
 .obtain⟨a,T,g,R,Z,Y,U⟩:=r.own i xs h;have ha:a≠D:=fun z=>by subst z;exact ho i xs h g
  exact⟨a,T,g,by rw[AL ha];exact R,Z,Y,U.same e⟩
def Gb(set:TM)(R:yL)(f:yK)(δ:Dv)(x:PD):Option yQ :=
 (set x δ).bind fun g=>(R g).bind fun b=>if b=true then(f g).map some else some none
def collect(one:PD->Option (Option PD)):List PD->Option zGV
 |[]=>some []
 |x::xs=>(one x).bind fun o=>(collect one xs).map fun r=>o.toList++r
def CS(set:TM)(g:yL)(f:yK)(fr:yg)(fs:yJ)(δ:Dv):Option yM :=
 (fs δ).bind fun xs=>(collect (Gb set g f zAj) xs).bind Kz
def Hh(set:TM)(g:yL)(f:yK)(fr:yg)(fs:yJ)(δ:Dv):yQ :=
 (CS set g f fr fs δ).map .list
structure Zt(G0 H0 Ga:Hp)(σ:St)(δ:Dv)(ts:List (PyData×V))(one:PyData->Option (Option PyData))(xs full:List PyData)(D:Addr)(i:Nat)(ys:Jh)(H:Hp):Prop where
 ex:∃G done rest,Rw G0 H0 G H σ δ ts/\AM Ga G/\G D=none/\collect one (xs.drop i)=some rest/\done++rest=full/\Ao G done ys
 h0:H0 D=none
 ap:∀(j:Nat) (us:Oc),δ[j]? = some (L.own us)->σ[j]?≠some zAN
def UM{G0 H0 G H:Hp}{D:AD}{ys:yb}(R:G0 D=none)(g:H0 D=some Ix)(n:Nw G0 H0 G)(e:AM G H)(k:AM H0 H):G D=none:=by
 cases q:G D with
 |none=>rfl
 |some o=>
  rcases n _ _ q with z|z|⟨us,z⟩
  .rw[R]at z;cases z
  .rw[g]at z;cases z
  .have:=e _ _ q;rw[k _ _ g,z]at this;cases this
section
variable{X:Cx}{elt iter:Expr}{x y:Str}{px pos:Pos}{ifs:yV}{scope:zAm}{fs:yJ}{tif:yL}{f:yK}
def Ce(i:Nat)(y:PD)(δ:Dv):Option Dv:=some zr
def Sg{wi:TI}{ix:Nat}{fr:yg}(ki:zFj){δ:Dv}{zs:yM}(hz:CS (Ce ix) tif f fr fs δ=some zs){G0 H0 G H:Hp}{σ:St}{ts:RS}{Q:VK}(R0:II)(k:zFl):QW wi fr ix (gK tif) (tD f) σ H Q:=by
 unfold CS at hz;obtain⟨xs,m2,m3⟩:=aB.mp hz;obtain⟨full,m4,m5⟩:=aB.mp m3;obtain⟨rfl,hfew⟩:=Pt m5;refine ki δ xs m2 G0 H0 G H σ ts _ R0 fun J Ga Ha Ra it D hD=>?_;have hGD:Ga D=none:=by
  cases q:Ga D with
  |none=>rfl
  |some u=>rw[Ra.ins _ _ q]at hD;cases hD
 have T:H0 D=none:=by
  cases q:H0 D with
  |none=>rfl
  |some u=>rw[Ra.keep _ _ q]at hD;cases hD
 have g:∀(j:Nat) (us:Oc),δ[j]? = some (L.own us)->σ[j]?≠some zAN:=fun j us h z=>by
  obtain⟨a,ys,k1,k2,k3,k4,k5⟩:=Ra.own j us h;rw[z]at k1;cases k1;rw[k4]at hD;cases hD
 refine Hn (n:=xs.length) (Zt G0 H0 Ga σ δ ts (Gb (Ce ix) tif f zAj) xs full D) ⟨⟨Ga,[],full,Ra.other hGD T g,AM.refl _,hGD,by simpa using m4,rfl,.nil⟩,T,g⟩ ?_ ?_
 .rintro i ys H1 hlt ⟨⟨G1,done,rest,R1,s1,g1,c1,e1,d1⟩,_,_⟩ hD1;have hx:xs[i]? = some xs[i]:=by simp[hlt]
  have sH:=s1.trans R1.ins;have hyl:ys.length<sizeLine:=UO (by
   rw[d1.len];have:done.length<=full.length:=by rw[<-e1];simp
   lia)
  refine⟨it.go i _ H1 hx sH,hyl,fun v H' y=>?_⟩;obtain⟨G2,n1,n2,n3,n4,n5⟩:=it.GW i _ H1 v H' hx sH y G1 s1 R1.ins;have R2:=R1.lift n1 n2 n3 n4;have hD2:=n4 _ _ hD1;have g2:G2 D=none:=UM g1 hD1 n2 n3 n4;rw[List.drop_eq_getElem_cons hlt]at c1;unfold collect at c1;obtain⟨o,c2,c3⟩:=aB.mp c1;obtain⟨U,c4,rfl⟩:=aC.mp c3;unfold Gb Ce at c2;simp only[Option.bind_some]at c2;obtain⟨b,c5,c6⟩:=aB.mp c2;have Ri:=((R2.inner fr).put n5).Hw (i:=ix);have Ri0:Rw G2 H' G2 H' ((carry fr σ).set ix zBT) ((B7 fr δ).set ix (.d xs[i])) []:=Ri.less fun q hq=>by cases hq
  refine⟨_,b,G2,H',G2,[],c5,Ri0,fun G3 H3 Z=>?_⟩;have R3o:=R2.lift Z.ext Z.new Z.ins Z.keep;have hD3:=Z.keep _ _ hD2;have g3:G3 D=none:=UM g2 hD2 Z.new Z.ins Z.keep;dsimp only;split
  .rename_i hb;rw[if_pos hb]at c6;obtain⟨w,c7,rfl⟩:=aC.mp c6;refine⟨_,w,G2,H',G3,[],c7,Z,fun u G4 H4 Y=>?_⟩;have R4o:=R2.lift Y.ext Y.new Y.ins Y.keep;have hD4:=Y.keep _ _ hD2;have g4:G4 D=none:=UM g2 hD2 Y.new Y.ins Y.keep;refine⟨hD4,FP hlt ⟨⟨G4,done++[w],U,R4o.other g4 T g,s1.trans (n1.trans Y.ext),g4,c4,by simpa using e1,(d1.same (n1.trans Y.ext)).app (.cons (Y.B4 _ GM) .nil)⟩,T,g⟩⟩
  .rename_i hb;rw[if_neg hb]at c6;cases c6;exact ZY hlt hD3 ⟨⟨G3,done,U,R3o,s1.trans (n1.trans Z.ext),g3,c4,by simpa using e1,d1.same (n1.trans Z.ext)⟩,T,g⟩
 .rintro ys H1 ⟨⟨G1,done,rest,R1,s1,g1,c1,e1,d1⟩,_,_⟩ hD1;refine⟨it.stop H1 (s1.trans R1.ins),?_⟩;rw[List.drop_length]at c1;cases c1;rw[List.append_nil]at e1;subst e1;exact k _ _ _ _ R1 hD1 g1 T g d1
def VH{Z:TI}{ix:Nat}{fr:yg}(ki:∀(δ:Dv) (xs:yM),fs δ=some xs->∀(G0 H0 G H:Hp) (σ:St) (ts:RS) (R:zDE),Rw G0 H0 G H σ δ ts->(∀J g H',Rw G0 H0 g H' σ δ ts->MM J xs g->R J H')->Z σ H R){δ:Dv}{z:PD}(hz:Hh (Ce ix) tif f fr fs δ=some z){G0 H0 G H:Hp}{σ:St}{ts:RS}{Q:VK}(R0:II)(k:∀v g H',Rw G0 H0 g H' σ δ ((z,v)::ts)->Q v H'):QW Z fr ix (gK tif) (tD f) σ H Q:=by
 unfold Hh at hz;obtain⟨full,m1,rfl⟩:=aC.mp hz;refine Sg ki m1 R0 fun D ys G1 H1 R1 Y g1 U T d1=>?_;have e:AM G1 (upd G1 D Ix):=Ah g1 _;have R2:=R1.adopt Y g1 U T;refine k _ _ _ (R2.put ?_);rw[Du];exact⟨D,ys,rfl,AO,d1.same e⟩
def NS(N:yU)(ix:Nat)(fr:yg)(hi:DI X zBe iter fs)(g:zGF)(Y:zGJ) (h1:C6 scope N x ix=true:=by decide +kernel)(h2:X.calm=true:=by rfl)(h3:HE N X.N scope X.env.scope fr 0=true:=by rfl)(h4:fr.length=N.length:=by rfl)(Z:freeOk X.env.scope scope.names=true:=by rfl) (U:∀x,foldedSetIterable iter X.env x=pure x:=by intro _;rfl):DE X EQ (Hh (Ce ix) tif f fr fs):=by
 obtain⟨wi,pi,R⟩:=hi;exact⟨_,HP N ix fr pi g (fun cl C s₀ H₀ fp=>(Y cl C s₀ H₀ fp).pe) h1 h2 h3 h4 Z U,fun δ z T G0 H0 G H σ ts Q R0 k=>VH R T R0 k⟩
end
section
variable{X:Cx}{x y:Str}{fs:yJ}{tif:yL}{f:yK}
def Yk{wi:TI}{ix iy:Nat}{fr:yg}(ki:zFj){δ:Dv}{zs:yM}(hz:CS (Fo ix iy) tif f fr fs δ=some zs){G0 H0 G H:Hp}{σ:St}{ts:RS}{Q:VK}(R0:II)(k:zFl):Wi X.K wi fr ix iy (gK tif) (tD f) σ H Q:=by
 unfold CS at hz;obtain⟨xs,m2,m3⟩:=aB.mp hz;obtain⟨full,m4,m5⟩:=aB.mp m3;obtain⟨rfl,hfew⟩:=Pt m5;refine ki δ xs m2 G0 H0 G H σ ts _ R0 fun J Ga Ha Ra it D hD=>?_;have hGD:Ga D=none:=by
  cases q:Ga D with
  |none=>rfl
  |some u=>rw[Ra.ins _ _ q]at hD;cases hD
 have T:H0 D=none:=by
  cases q:H0 D with
  |none=>rfl
  |some u=>rw[Ra.keep _ _ q]at hD;cases hD
 have g:∀(j:Nat) (us:Oc),δ[j]? = some (L.own us)->σ[j]?≠some zAN:=fun j us h z=>by
  obtain⟨a,ys,k1,k2,k3,k4,k5⟩:=Ra.own j us h;rw[z]at k1;cases k1;rw[k4]at hD;cases hD
 refine Rj (n:=xs.length) (Zt G0 H0 Ga σ δ ts (Gb (Fo ix iy) tif f zAj) xs full D) ⟨⟨Ga,[],full,Ra.other hGD T g,AM.refl _,hGD,by simpa using m4,rfl,.nil⟩,T,g⟩ ?_ ?_
 .rintro i ys H1 hlt ⟨⟨G1,done,rest,R1,s1,g1,c1,e1,d1⟩,_,_⟩ hD1;have hx:xs[i]? = some xs[i]:=by simp[hlt]
  have sH:=s1.trans R1.ins;have hyl:ys.length<sizeLine:=UO (by
   rw[d1.len];have:done.length<=full.length:=by rw[<-e1];simp
   lia)
  refine⟨it.go i _ H1 hx sH,hyl,fun v H' y=>?_⟩;obtain⟨G2,n1,n2,n3,n4,n5⟩:=it.GW i _ H1 v H' hx sH y G1 s1 R1.ins;have R2:=R1.lift n1 n2 n3 n4;have hD2:=n4 _ _ hD1;have g2:G2 D=none:=UM g1 hD1 n2 n3 n4;rw[List.drop_eq_getElem_cons hlt]at c1;unfold collect at c1;obtain⟨o,c2,c3⟩:=aB.mp c1;obtain⟨U,c4,rfl⟩:=aC.mp c3;unfold Gb at c2;obtain⟨δ1,c8,c9⟩:=aB.mp c2;obtain⟨b,c5,c6⟩:=aB.mp c9;unfold Fo at c8;split at c8
  .rename_i u1 u2 hu;cases c8;rw[hu,Du]at n5;obtain⟨pa,ps,rfl,q1,q2⟩:=n5;obtain⟨w1,w2,rfl,q3,q4⟩:=q2.Ms;have Ri:=(((R2.inner fr).put q4).put q3).Hw (i:=ix) |>.Hw (i:=iy)
   have Ri0:Rw G2 H' G2 H' (((carry fr σ).set ix (some w1)).set iy (some w2)) (((B7 fr δ).set ix (.d u1)).set iy (.d u2)) []:=Ri.less fun q hq=>by cases hq
   refine⟨pa,w1,w2,rfl,BL.of (n3 _ _ q1),?_⟩;refine⟨_,b,G2,H',G2,[],c5,Ri0,fun G3 H3 Z=>?_⟩;have R3o:=R2.lift Z.ext Z.new Z.ins Z.keep;have hD3:=Z.keep _ _ hD2;have g3:G3 D=none:=UM g2 hD2 Z.new Z.ins Z.keep;dsimp only;split
   .rename_i hb;rw[if_pos hb]at c6;obtain⟨w,c7,rfl⟩:=aC.mp c6;refine⟨_,w,G2,H',G3,[],c7,Z,fun u G4 H4 Y=>?_⟩;have R4o:=R2.lift Y.ext Y.new Y.ins Y.keep;have hD4:=Y.keep _ _ hD2;have g4:G4 D=none:=UM g2 hD2 Y.new Y.ins Y.keep;refine⟨hD4,FP hlt ⟨⟨G4,done++[w],U,R4o.other g4 T g,s1.trans (n1.trans Y.ext),g4,c4,by simpa using e1,(d1.same (n1.trans Y.ext)).app (.cons (Y.B4 _ GM) .nil)⟩,T,g⟩⟩
   .rename_i hb;rw[if_neg hb]at c6;cases c6;exact ZY hlt hD3 ⟨⟨G3,done,U,R3o,s1.trans (n1.trans Z.ext),g3,c4,by simpa using e1,d1.same (n1.trans Z.ext)⟩,T,g⟩
  .cases c8
 .rintro ys H1 ⟨⟨G1,done,rest,R1,s1,g1,c1,e1,d1⟩,_,_⟩ hD1;refine⟨it.stop H1 (s1.trans R1.ins),?_⟩;rw[List.drop_length]at c1;cases c1;rw[List.append_nil]at e1;subst e1;exact k _ _ _ _ R1 hD1 g1 T g d1
def Ip(N:yU)(ds:yM):Dv:=ds.map .d++List.replicate (N.length-ds.length) .no
def Cd(ps N:yU)(F:DF)(ds:yM):yQ:=if ds.length=ps.length then(match F (Ip N ds) with
 |some (.rt x)=>some x
 |some (.nx _)=>some .none
 |some (.rn xs)=>some (.list xs)
 |_=>none) else none
def Rw.start{N:yU}{ds:yM}{vs:yb}{G H:Hp}(d:Ao G ds vs)(e:AM G H):Rw G H G H zCn (Ip N ds) []:=by
 have U:=d.len;refine⟨AM.refl _,Nw.refl,e,AM.refl _,by simp[L2.start,Ip,U],fun i x h=>?_,fun i xs h=>?_,fun i j xs ys _ h=>?_,fun q T=>by cases T⟩
 .unfold Ip at h;by_cases hi:i<ds.length
  .rw[List.getElem?_append_left bv,List.getElem?_map]at h;obtain⟨y,R,g⟩:=aC.mp h;cases g;obtain⟨v,Z,Y⟩:=d.get R;refine⟨v,?_,Y⟩;unfold L2.start;rw[List.getElem?_append_left td,List.getElem?_map,Z];rfl
  .rw[List.getElem?_append_right bv,List.getElem?_replicate]at h;split at h<;>cases h
 .unfold Ip at h;by_cases hi:i<ds.length
  .rw[List.getElem?_append_left bv,List.getElem?_map]at h;obtain⟨y,R,g⟩:=aC.mp h;cases g
  .rw[List.getElem?_append_right bv,List.getElem?_replicate]at h;split at h<;>cases h
 .unfold Ip at h;by_cases hi:i<ds.length
  .rw[List.getElem?_append_left bv,List.getElem?_map]at h;obtain⟨y,R,g⟩:=aC.mp h;cases g
  .rw[List.getElem?_append_right bv,List.getElem?_replicate]at h;split at h<;>cases h
def kX{G H g H':Hp}{a:AD}{ys:yb}{xs:yM}(m1:AM G g)(m2:Nw G H g)(m3:AM g H')(Z:H a=none)(T:g a=none)(Y:H' a=some Ix)(U:Ao g xs ys):AM G (upd g a Ix)/\Nw G H (upd g a Ix)/\AM (upd g a Ix) H'/\Du (upd g a Ix) (.list xs) HY:=by
 refine⟨m1.trans (Ah T _),fun b o R=>?_,fun b o R=>?_,?_⟩
 .by_cases z:b=a
  .subst z;exact .inr (.inl Z)
  .rw[AL z]at R;exact m2 _ _ R
 .by_cases z:b=a
  .subst z;rw[AO]at R;rw[Y];exact R
  .rw[AL z]at R;exact m3 _ _ R
 .rw[Du];exact⟨a,ys,rfl,AO,U.same (Ah T _)⟩
def Fl{P:FS}{w:IO}{K:Fg}{mg:yP}{base:Heap}{x:Str}{st:Stmt}{Z:AD}{fd:Db}{N ps:yU}{k:Nat}{F:DF}(T:Fn K mg x st ps Z fd)(S:Ad N ps zBG) (hb:∀(cdv:VL) (A:Ki) (outer:yf) (s:SD) (H:Hp) (E:XK),EH k (A.deeper (envOfC x zBG s.heap.objs.size Z cdv))->T3 (DZ Ag P w K mg base N x zBG Z cdv A outer s H E).K1 (Et st) F):AK P w K mg base Ag RJ Z fd ps (A6 (Cd ps N F)):=by
 refine T.F.ok S Kj fun cdv A outer s H vs Q E hr h=>?_
 .obtain⟨ds,y,G,g,U,_⟩:=h;unfold Cd at g;split at g
  .rename_i hl;rw[U.len];exact hl
  .cases g
 .obtain⟨ds,y,G,g,U,h3,h4⟩:=h;obtain⟨t,p,kk⟩:=hb cdv A outer s H E hr;refine⟨t,p,?_⟩;unfold Cd at g;split at g
  .split at g
   .rename_i z Y;cases g;exact kk _ _ Y G H G H _ _ (Rw.start U h3) fun v G' H' m1 m2 m3 m4 m5=>h4 v G' H' m1 m2 m3 m4 m5
   .rename_i δ Y;cases g;exact kk _ _ Y G H G H _ _ (Rw.start U h3) fun σ' G' H' R=>h4 .BN G' H' R.ext R.new R.ins R.keep Mt
   .rename_i xs Y;cases g;exact kk _ _ Y G H G H _ _ (Rw.start U h3) fun a ys G' H' m1 m2 m3 m4 m5 m6 m7 m8=>let⟨n1,n2,n3,n4⟩:=kX m1 m2 m3 m5 m6 m7 m8;h4 _ _ H' n1 n2 n3 m4 n4
   .cases g
  .cases g
end
section
variable{X:Cx}{tg a e:Expr}{f g h:yK}{pos p p2:Pos}   
def Rx{x:Str}{i:Int}{tk:Tok}(R:zDD)(hm:X.mg x=some (.int i tk))(hd:HV=false:=by decide):DE X tO (fun _=>some pp) :=
 ⟨_,UW (v:=.int i) R hm ⟨tk,rfl⟩ hd,fun δ x h G0 H0 G H σ ts Q r k=>by cases h;exact k _ _ _ (r.put Mt)⟩
def gV{set:TM}(he:zb)(hg:DG X tg set)(hs:swapsWithSole [tg] e pos.line X.env=pure false:=by rfl)(hw:swappedStores [tg] e X.env=pure none:=by rfl) (h1:(assignEach [tg] X.env).map zF=[assign tg X.env]:=by rfl):DS X (.Assign [tg] e pos) (fun δ=>(f δ).bind fun y=>(set y δ).map .nx):=by
 obtain⟨t,p,k⟩:=he;obtain⟨g,pg,kg⟩:=hg;refine⟨_,Nf p pg hs hw h1,fun δ r h G0 H0 G H σ D R q=>?_⟩;obtain⟨y,Z,Y⟩:=aB.mp h;obtain⟨T,U,rfl⟩:=aC.mp Y;exact k δ y Z G0 H0 G H σ [] _ R fun v G' H' R'=>kg δ y T U G0 H0 G' H' σ v _ R' q
def DO(X:Cx)(o:Option Expr)(f:Dv->Option yY):Prop:=∃t,PO X o t/\∀δ x,f δ=some x->∀G0 H0 G H σ ts (Q:Option Int->Hp->Prop),Rw G0 H0 G H σ δ ts->(∀R H',Rw G0 H0 R H' σ δ ts->Q x H')->t σ H Q
variable{fo fu:Dv->Option yY}{lo hi:Option Expr}
def QX:DO X none (fun _=>some none):=⟨_,nq,fun δ x h G0 H0 G H σ ts Q r k=>by cases h;exact k _ _ r⟩
def Qg(U:zb):DO X (some e) (fun δ=>(f δ).bind fun x=>(Zu x).map some):=by
 obtain⟨t,p,k⟩:=U;refine⟨_,mm p,fun δ z h G0 H0 G H σ ts Q r q=>?_⟩;obtain⟨x,h1,Z⟩:=aB.mp h;obtain⟨i,Y,rfl⟩:=aC.mp Z;have:=iB Y;subst this;refine k δ _ h1 G0 H0 G H σ ts _ r fun v G' H' T=>?_;have R:=T.B4 _ GM;rw[Du]at R;exact⟨i,R,q _ _ T.drop⟩
def cutD(xs:yM)(lo hi:yY):yM:=(xs.drop zCp).take gv
def Ao.cut{H:Hp}{ds:yM}{xs:yb}(h:Ao H ds xs)(lo hi:yY):Ao H (cutD ds lo hi) (QT xs lo hi):=by
 unfold cutD QT;rw[h.len];exact(h.drop _).take _
def jl(x:PD)(lo hi:yY):yQ:=match x with
 |.list xs=>some (.list (cutD xs lo hi))
 |.tuple xs=>if ¬zCd then some (.tuple (cutD xs lo hi)) else none
 |_=>none
def OG(he:zb)(hl:DO X lo fo)(hh:DO X hi fu):DE X (.Subscript e (.Slice lo hi none p2) pos) (fun δ=>(f δ).bind fun x=>(fo δ).bind fun l=>(fu δ).bind fun u=>jl x l u):=by
 obtain⟨te,pe,ke⟩:=he;obtain⟨tl,pl,kl⟩:=hl;obtain⟨th,ph,kh⟩:=hh;refine⟨_,ir (l9.or rq) pe pl ph,fun δ z hz G0 H0 G H σ ts Q R0 k=>?_⟩;obtain⟨x,h1,h2⟩:=aB.mp hz;obtain⟨l,h3,h4⟩:=aB.mp h2;obtain⟨u,h5,R⟩:=aB.mp h4;refine ke δ x h1 G0 H0 G H σ ts _ R0 fun v G1 H1 R1=>?_;refine kl δ l h3 G0 H0 G1 H1 σ _ _ R1 fun G2 H2 R2=>?_;refine kh δ u h5 G0 H0 G2 H2 σ _ _ R2 fun G3 H3 T=>?_;have Y:=T.B4 _ GM;unfold jl at R;split at R
 .cases R;rw[Du]at Y;obtain⟨a,ys,rfl,Z,U⟩:=Y;exact .inl ⟨a,ys,rfl,Ax.of (T.ins _ _ Z),fun q hq=>k _ _ _ (T.drop.Uo (U.cut l u) hq)⟩
 .split at R
  .rename_i hc;cases R;rw[Du]at Y;obtain⟨a,ys,rfl,Z,U⟩:=Y;exact .inr ⟨a,ys,rfl,BL.of (T.ins _ _ Z),by rw[U.len];exact hc,fun q hq=>k _ _ _ (T.drop.cJ (U.cut l u) hq)⟩
  .cases R
 .cases R
def Wd:List PD->Option (List Int)
 |[]=>some []
 |.int i::r=>(Wd r).map fun l=>i::l
 |_::_=>none
def Ao.ints{H:Hp}:∀ {ds:sw} {xs:Jh} {ns:zG},Ao H ds xs->Wd ds=some ns->xs=ns.map V.int
 |[],xs,ns,h,e=>by cases e;rw[h.nil_eq];rfl
 |.int i::r,xs,ns,h,e=>by
  unfold Wd at e;obtain⟨l,U,rfl⟩:=aC.mp e;obtain⟨x,q,rfl,R,T⟩:=h.un;rw[Du]at R;subst R;rw[List.map_cons,T.ints U]
 |.none::_,_,_,_,e=>by cases e
 |.bool _::_,_,_,_,e=>by cases e
 |.str _::_,_,_,_,e=>by cases e
 |.tuple _::_,_,_,_,e=>by cases e
 |.list _::_,_,_,_,e=>by cases e
 |.dict _::_,_,_,_,e=>by cases e
def cY:MD
 |[.list xs]=>(Wd xs).map fun ns=>.int ns.sum
 |[.tuple xs]=>(Wd xs).map fun ns=>.int ns.sum
 |_=>none
def gE(hc:dO):OA X (.builtin "sum") cY:=by
 refine⟨_,(Ob hc).or (eT hc),fun xs z R G0 H0 G H σ δ ts us Q U d k=>?_⟩;unfold cY at R;split at R
 .obtain⟨ns,h1,rfl⟩:=aC.mp R;obtain⟨u,rfl,T⟩:=d.Ke;rw[Du]at T;obtain⟨q,ys,rfl,Z,Y⟩:=T;refine .inl ⟨q,ns,rfl,by rw[<-Y.ints h1];exact Ax.of (U.ins _ _ Z),k _ _ _ (U.put Mt)⟩
 .obtain⟨ns,h1,rfl⟩:=aC.mp R;obtain⟨u,rfl,T⟩:=d.Ke;rw[Du]at T;obtain⟨q,ys,rfl,Z,Y⟩:=T;refine .inr ⟨q,ns,rfl,by rw[<-Y.ints h1];exact BL.of (U.ins _ _ Z),k _ _ _ (U.put Mt)⟩
 .cases R
end
open PySem
abbrev fC(x:PD):Dv->Option PD:=fun _=>some x
abbrev Pn(f:O7):Dv->Option PD:=fun δ=>(f δ).bind fun x=>(Zu x).map fun i=>.int (-i)
abbrev xS(f:O7):Dv->Option PD:=fun δ=>(f δ).bind fun x=>(Na x).map fun i=>.bool (!i)
abbrev Yb(f g:O7):Dv->Option PD:=fun δ=>(f δ).bind fun x=>(Na x).bind fun c=>if c=true then g δ else some (.bool false)
abbrev AG:Dv->Option zGV:=fun _=>some []
abbrev AB(f:O7)(fs:TQ):Dv->Option zGV:=fun δ=>(f δ).bind fun x=>(fs δ).map fun xs=>x::xs
abbrev BA(fs:TQ):Dv->Option PD:=fun δ=>((fs δ).bind Kz).map .tuple
abbrev Cm(fs:TQ):Dv->Option PD:=fun δ=>((fs δ).bind Kz).map .list
abbrev AU(m:MD)(fs:TQ):Dv->Option PD:=fun δ=>(fs δ).bind m
abbrev Rh(q:PD->Bool)(f:O7):Dv->Option PD:=fun δ=>(f δ).bind (cZ q)
abbrev WB:Dv->Option (Option Int):=fun _=>some none
abbrev WH(f:O7):Dv->Option (Option Int):=fun δ=>(f δ).bind fun x=>(Zu x).map some
abbrev cS(f:O7)(R g:Dv->Option (Option Int)):Dv->Option PD:=fun δ=>(f δ).bind fun x=>(R δ).bind fun l=>(g δ).bind fun u=>jl x l u
abbrev Ig(f:O7):Dv->Option Bool:=fun δ=>(f δ).bind Na
abbrev CO(o:fy)(f g:O7):Dv->Option Bool:=fun δ=>(Ai o f g δ).bind Na
abbrev Ik(f:zEb):Dv->Option Bool:=fun δ=>(f δ).map fun c=>!c
abbrev Wl(f g:zEb):Dv->Option Bool:=fun δ=>(f δ).bind fun c=>if c=true then g δ else some false
abbrev Mm(f g:zEb):Dv->Option Bool:=fun δ=>(f δ).bind fun c=>if c=true then some true else g δ
abbrev Dy(f:O7):Dv->Option zGV:=fun δ=>(f δ).bind Fz
abbrev HK(m:List PD->Option zGV)(fs:TQ):Dv->Option zGV:=fun δ=>(fs δ).bind m
abbrev EX:Dv->Option Bool:=fun _=>some true
abbrev J5(i:Nat):PD->Dv->Option Dv:=fun y δ=>some zr
abbrev C7:DF:=fun δ=>some (.nx δ)
abbrev Bb(f:O7):DF:=fun δ=>(f δ).map .rt
abbrev vN(f:O7):DF:=fun δ=>(f δ).map fun _=>.nx δ
abbrev GH(c:zEb)(F G:DF):DF:=fun δ=>(c δ).bind fun c=>if c=true then F δ else G δ
abbrev CM(i:Nat)(f:O7):DF:=fun δ=>(f δ).map fun y=>.nx zr
abbrev dG(i:Nat)(fs:TQ):DF:=fun δ=>((fs δ).bind Kz).map fun ys=>.nx (δ.set i (.own Ix))
abbrev j8(i:Nat)(f:O7):DF:=fun δ=>(f δ).bind fun y=>(ow i δ).bind fun xs=>if xs.length<Dz then some (.nx (δ.set i (.own (.lst (xs++[y]))))) else none
abbrev so(i:Nat)(f:O7):DF:=fun δ=>(f δ).bind fun y=>(ow i δ).bind fun xs=>match y with|.list g=>(if xs.length+g.length<=Dz then some (.nx (δ.set i (.own (.lst (xs++g))))) else none)|_=>none
abbrev je(f:O7)(set:TM):DF:=fun δ=>(f δ).bind fun y=>(set y δ).map .nx
abbrev Ex(fs:TQ)(set:TM)(F:DF):DF:=fun δ=>(fs δ).bind fun xs=>Lz set F xs δ
abbrev SK(i:Nat)(F:DF):DF:=fun δ=>F (GD i δ)
abbrev sI:DF:=fun _=>none
abbrev vJ:DF:=fun δ=>some (.ct δ)
def Ep{P:FS}{w:IO}{K:Fg}{mg:yP}{base:Heap}{CX:Iy}{k:Nat}{f:AD}{fd:Db}{ps:yU}{sp:Sp}(h:∀vs H Q E,¬sp vs H Q E):AK P w K mg base CX k f fd ps sp :=
 ⟨fun _ _ _ _ z=>(h _ _ _ _ z).elim,fun _ _ _ _ _ _ _ _ _ _ _ _ _ z=>(h _ _ _ _ z).elim⟩
def J6{P:FS}{w:IO}{K:Fg}{mg:yP}{base:Heap}{CX:Iy}{k:Nat}{f:AD}{fd:Db}{ps:yU}{sp:Sp}{m:MD}(F:AK P w K mg base CX k f fd ps sp) (h:∀ds x,m ds=some x->∀(G H:Hp) (vs:yb) (Q:VK) (E:XK),Ao G ds vs->AM G H->(∀v g H',AM G g->Nw G H g->AM g H'->AM H H'->Du g x v->Q v H')->sp vs H Q E):AK P w K mg base CX k f fd ps (A6 m) :=
 F.imp fun vs H Q E z=>by
  obtain⟨ds,x,G,Y,U,T,R⟩:=z;exact h ds x Y G H vs Q E U T R
def BF(G H:Hp):Hp:=fun a=>match H a with
 |some (.tup xs)=>some LE
 |_=>G a
def ie{G H:Hp}{a:AD}{xs:yb}(h:H a=some LE):BF G H a=some LE:=by unfold BF;rw[h]
section
variable{G0 H0 G H:Hp}{σ:St}{δ:Dv}{ts:RS}
def Rw.BF(r:II):Rw G0 H0 (L2.BF G H) H σ δ ts:=by
 have e:AM G (L2.BF G H):=fun a o h=>by
  unfold L2.BF;split
  .rename_i xs g;rw[r.ins _ _ h]at g;exact g.symm ▸ rfl
  .exact h
 refine⟨r.ext.trans e,fun a o h=>?_,fun a o h=>?_,r.keep,r.len,fun i x h=>?_,fun i xs h=>?_,r.apart,fun q hq=>(r.B4 q hq).same e⟩
 .unfold L2.BF at h;split at h
  .cases h;exact .inr zEy
  .exact r.new _ _ h
 .unfold L2.BF at h;split at h
  .rename_i xs g;rw[g];exact h
  .exact r.ins _ _ h
 .obtain⟨v,T,R⟩:=r.dat i x h;exact⟨v,T,R.same e⟩
 .obtain⟨a,ys,T,R,Z,Y,U⟩:=r.own i xs h;refine⟨a,ys,T,?_,Z,Y,U.same e⟩;unfold L2.BF;rw[Y];split
  .rename_i q;cases q;exact U.Wy.elim
  .exact R
end
def Gk{G:Hp}:∀ {t:Tr} {xs:Jh},Ao G (BS t) xs->Ts G t xs
 |.nil,xs,h=>by rw[BS]at h;rw[Ts];exact h.nil_eq
 |.cons b r,xs,h=>by
  rw[BS]at h;obtain⟨x,q,rfl,g,U⟩:=h.un;rw[Du]at g;obtain⟨a,ys,rfl,T,R⟩:=g;rw[Ts];exact⟨a,ys,q,rfl,T,Gk R,Gk U⟩
def Tf{G H:Hp}:∀ {t:Tr} {xs:Jh},Ts H t xs->Ao (BF G H) (BS t) xs
 |.nil,xs,h=>by rw[Ts]at h;rw[BS,h];exact .nil
 |.cons b r,xs,h=>by
  rw[Ts]at h;obtain⟨a,ys,U,rfl,T,R,g⟩:=h;rw[BS];refine .cons ?_ (Tf g);rw[Du];exact⟨a,ys,rfl,ie T,Tf R⟩
mutual
def Kc:∀ {ds:sw} {t:Tr},EG ds=some t->ds=BS t
 |[],t,h=>by rw[EG]at h;cases h;rw[BS]
 |d::ds,t,h=>by
  rw[EG]at h;obtain⟨b,T,R⟩:=aB.mp h;obtain⟨r,g,rfl⟩:=aC.mp R;rw[BS,<-Qi T,<-Kc g]
def Qi:∀ {d:PD} {t:Tr},Ey d=some t->d=.tuple (BS t)
 |.tuple g,t,h=>by rw[Ey]at h;rw[Kc h]
 |.none,_,h=>by simp[Ey]at h
 |.bool _,_,h=>by simp[Ey]at h
 |.int _,_,h=>by simp[Ey]at h
 |.str _,_,h=>by simp[Ey]at h
 |.list _,_,h=>by simp[Ey]at h
 |.dict _,_,h=>by simp[Ey]at h
end
def tQ(rev:Bool)(t:Tr):yQ:=if t.bs.length<64/\t.deep<=60 then some (.list (BS zDi)) else none
def Ld(rev:Bool):MD
 |[x]=>(Fz x).bind fun g=>(EG g).bind (tQ rev)
 |_=>none
section
variable{X:Cx}{a e:Expr}{f g:yK}{fs:yJ}{pos p:Pos}
def Z4{rev:Bool}{G0 H0 G H:Hp}{σ:St}{δ:Dv}{ts:RS}{x z:PD}{u:V}{Q:VK}(Z:II)(du:Du G x u)(hz:Ld rev [x]=some z)(k:∀w G' H',Rw G0 H0 G' H' σ δ ((z,w)::ts)->Q w H'):∃(p:AD) (ys:yb) (t:Tr),[u]=[.ref p]/\(Ax X.K H p ys\/BL X.K H p ys)/\Ts H t ys/\ys.length<64/\t.deep<=60/\∀(l:AD) (zs:yb),H l=none->Ts H zDi zs->Q SY (upd H l (.lst zs)):=by
 unfold Ld at hz;obtain⟨ds,h1,h2⟩:=aB.mp hz;obtain⟨t,h3,R⟩:=aB.mp h2;unfold tQ at R;split at R
 .rename_i hc;cases R;have Y:=Kc h3;obtain⟨bb,a,ys,rfl,n1,n2⟩:=Io du h1;rw[Y]at n2;have ht:=(Gk n2).same Z.ins;have hl:ys.length=t.bs.length:=by rw[ht.len]
  refine⟨a,ys,t,rfl,?_,ht,by lia,hc.2,fun l zs U T=>?_⟩
  .have:=Z.ins _ _ n1;cases bb
   .exact .inl (Ax.of (by simpa using this))
   .exact .inr (BL.of (by simpa using this))
  .have R1:=Z.BF;exact k _ _ _ (R1.Uo (Tf T) U)
 .cases R
def oG(T:Ih):OA X lm (Ld false):=by
 refine⟨_,gZ T,fun xs z R G0 H0 G H σ δ ts us Q Y d k=>?_⟩;cases xs with
 |nil=>cases R
 |cons x r=>
  cases r with
  |cons y q=>cases R
  |nil=>
   obtain⟨u,rfl,U⟩:=d.Ke;exact Z4 Y U R k
def Xu{e:Expr}{p pos kp R:Pos}{j}(hu:Ih)(hg:Gl X "sorted")(hm:X.mg "sorted" = none)(ha:DA X [e] fs) (hP:∀ {t:TA},PA X [e] t->PE X zGj (fun σ H Q=>t σ H fun vs U=>fh X.K vs U Q)):DE X zGj (AU (Ld true) fs):=by
 obtain⟨t,p,k⟩:=ha;refine⟨_,hP p,fun δ z Y G0 H0 G H σ ts Q R0 q=>?_⟩;obtain⟨xs,h1,T⟩:=aB.mp Y;refine k δ _ h1 G0 H0 G H σ ts _ R0 fun vs G1 U R1 Z=>?_;obtain⟨d,R2⟩:=R1.args Z;cases xs with
 |nil=>cases T
 |cons x r=>
  cases r with
  |cons y q=>cases T
  |nil=>
   obtain⟨u,rfl,du⟩:=d.Ke;exact Z4 (rev:=true) R2 du T q
def pd(x k:PD):yQ:=match x,k with
 |.list xs,.int i=>if i=-1 then some (.list xs.reverse) else none
 |_,_=>none
abbrev oO(f g:O7):Dv->Option PD:=Ai pd f g
def rK{Z:Pos}{k:Expr}(he:zb)(hk:DE X k g):DE X (.Subscript e (.Slice none none (some k) Z) pos) (oO f g):=by
 obtain⟨te,pe,ke⟩:=he;obtain⟨tk,Y,kk⟩:=hk;refine⟨_,qm pe Y,fun δ z hz G0 H0 G H σ ts Q R0 k=>?_⟩;obtain⟨x,y,h1,h2,R⟩:=two (x:=.none) (y:=.none) hz;refine ke δ x h1 G0 H0 G H σ ts _ R0 fun u G1 H1 R1=>?_;refine kk δ y h2 G0 H0 G1 H1 σ _ _ R1 fun v G2 H2 R2=>?_;have U:=R2.B4 (x,u) zGP;have T:=R2.B4 (y,v) GM;unfold pd at R;split at R
 .split at R
  .rename_i hi;cases R;subst hi;rw[Du]at U;rw[Du]at T;obtain⟨a,ys,rfl,n1,n2⟩:=U;exact⟨a,ys,rfl,T,Ax.of (R2.ins _ _ n1),fun q hq=>k _ _ _ (R2.drop.drop.Uo n2.rev hq)⟩
  .cases R
 .cases R
end
section
variable{G0 H0 G H:Hp}{σ:St}{δ:Dv}{ts:RS}
def Rw.on{H':Hp}(r:II)(e:mo):Rw G0 H0 G H' σ δ ts:=r.lift (AM.refl _) Nw.refl (r.ins.trans e) e
end
section
variable{F F1 F2:DF}{δ δ':Dv}{r:Option Ou}{c:yL}{f g:yK}{fs:yJ}
def An(h:F1 δ=some (.nx δ'))(k:F2 δ'=r):Av F1 F2 δ=r:=by unfold Av;rw[h];exact k
def He{x:PD}(h:F1 δ=some (.rt x)):Av F1 F2 δ=some (.rt x):=by unfold Av;rw[h]
def KN(h:c δ=some true)(k:F1 δ=r):GH c F1 F2 δ=r:=by show(c δ).bind _=r;rw[h];exact k
def C9(h:c δ=some false)(k:F2 δ=r):GH c F1 F2 δ=r:=by show(c δ).bind _=r;rw[h];exact k
def Ct{i:Nat}{y:PD}(h:f δ=some y):CM i f δ=some (.nx zr):=by show(f δ).map _=_;rw[h];rfl
def F9{y:PD}(h:f δ=some y):Bb f δ=some (.rt y):=by show(f δ).map _=_;rw[h];rfl
def A0{o:fy}{x y:PD}{z:yQ}(U:f δ=some x)(T:g δ=some y)(R:o x y=z):Ai o f g δ=z:=by unfold Ai;rw[U,T];exact R
def Aj{m:MD}{xs:yM}{z:yQ}(T:zED)(R:m xs=z):AU m fs δ=z:=by show(fs δ).bind m=z;rw[T];exact R
def BI{x:PD}{xs:yM}(T:f δ=some x)(R:zED):AB f fs δ=some (x::xs):=by show(f δ).bind _=_;rw[T];show(fs δ).map _=_;rw[R];rfl
def NW{xs:yM}(h:zED)(R:xs.length<=Dz):BA fs δ=some (.tuple xs):=by show((fs δ).bind Kz).map _=_;rw[h];show(Kz xs).map _=_;unfold Kz;rw[if_pos R];rfl
def Cu{o:fy}{x y:PD}{b:Bool}(U:f δ=some x)(T:g δ=some y)(R:o x y=some (.bool b)):CO o f g δ=some b:=by show(Ai o f g δ).bind Na=_;rw[A0 U T R];rfl
def MW{a b:yL}{q:Option Bool}(h:a δ=some false)(k:b δ=q):Mm a b δ=q:=by show(a δ).bind _=q;rw[h];exact k
def uR{a b:yL}(h:a δ=some true):Mm a b δ=some true:=by show(a δ).bind _=_;rw[h];rfl
def LW{a:yL}{b:Bool}(h:a δ=some b):Ik a δ=some (!b):=by show(a δ).map _=_;rw[h];rfl
def J3{b:Bool}(h:f δ=some (.bool b)):Ig f δ=some b:=by show(f δ).bind Na=_;rw[h];rfl
def W7{set:TM}(U:Nat->Dv->Prop):∀(xs:sw) (δ:Dv) (n:Nat),U n δ->(∀(i:Nat) (x:PD) (δ:Dv),xs[i]? = some x->U (n+i) δ->∃T R,set x δ=some T/\F T=some (.nx R)/\U (n+i+1) R) ->
  ∃δ',Lz set F xs δ=some (.nx δ')/\U (n+xs.length) δ'
 |[],δ,n,h,_=>⟨δ,rfl,h⟩
 |x::xs,δ,n,h,k=>by
  obtain⟨T,R,h1,h2,h3⟩:=k 0 x δ rfl h;obtain⟨δ',h4,h5⟩:=W7 U xs R (n+1) h3 fun i y δ Y Z=>by
   have:=k M2 y δ (by simpa using Y) (by rw[show n+M2=n+1+i by lia];exact Z);rw[show n+M2+1=n+1+i+1 by lia]at this;exact this
  refine⟨δ',?_,by rw[List.length_cons,show n+(xs.length+1)=n+1+xs.length by lia];exact h5⟩;unfold Lz;rw[h1,Option.bind_some,h2];exact h4
def jd{set:TM}{xs:yM}(U:Nat->Dv->Prop)(Y:zED)(h0:U 0 δ)(hs:∀(i:Nat) (x:PD) (δ:Dv),xs[i]? = some x->U i δ->∃T R,set x δ=some T/\F T=some (.nx R)/\U M2 R):∃δ',Ex fs set F δ=some (.nx δ')/\U xs.length δ':=by
 obtain⟨δ',h1,h2⟩:=W7 (F:=F) (set:=set) U xs δ 0 h0 fun i x δ Y Z=>by
  have:=hs i x δ Y (by simpa using Z)
  simpa using this
 refine⟨δ',?_,by simpa using h2⟩;show(fs δ).bind _=_;rw[Y];exact h1
end
def Cw{ps N:yU}{F:DF}{ds:yM}{x:PD}(g:zCE)(h:F (Ip N ds)=some (.rt x)):Cd ps N F ds=some x:=by unfold Cd;rw[if_pos g,h]
def Pq{n:Nat}{i:Int}(h:i.natAbs<2^n):NA n i=true:=bg h
def Wr{i j:Int}(h:N7 i j=true):Ge pp (.int j)=some zCv:=by
 show VC dj cc pp (.int j)=_;unfold VC;rw[show dj pp (.int j)=some zCv from if_pos h]
def mul_r{i j:Int}(h:j.natAbs<2^64):Ge pp (.int j)=some zCv:=Wr (by unfold N7;rw[Pq h];simp)
def mod_is{i j:Int}(h:0<j):Ib pp (.int j)=some (.int (i % j)):=by
 show(if j≠0 then some (PyData.int (i.fmod j)) else none)=_;rw[if_pos AC,Int.fmod_eq_emod_of_nonneg _ AC]
def fV{i:Int}{n:Nat}(hn:n<=1000)(hi:NA 64 i=true):P0 pp (.int (n:Int))=some (.int (i^n)):=by
 show(if 0<=(n:Int)/\(n:Int)<=1000/\NA 64 i=true then some (PyData.int (i^(n:Int).toNat)) else none)=_;rw[if_pos ⟨by lia,by lia,hi⟩,Int.toNat_natCast]
def FL(ns:yT):PD:=.dict [(.none,.list (ns.map .int))]
def fX{H:Hp}{a:AD}{ns:yT}(h:Rd H a (.lst SC)):Du H (FL ns) HY:=by unfold FL;rw[Du];exact .inr (.inl ⟨a,ns,rfl,rfl,h⟩)
def WK(K:Fg):Bool:=K.all fun p=>match p.2.cls with|.type n=>n != "list" |_=>true
def Q3{a:AD}{o:Obj}:∀ {K:Fg},K.lookup a=some o->(a,o)∈K
 |[],h=>by cases h
 |(b,u)::K,h=>by
  rw[List.lookup_cons]at h;split at h
  .rename_i e;cases h;rw[show a=b from by simpa using e];exact .head _
  .exact .tail _ (Q3 h)
def oS{K:Fg}{H:Hp}{a:AD}{xs:yb}(g:WK K=true)(h:Ax K H a xs):Rd H a KT:=by
 rcases h with h|⟨o,R,n,U,T,_⟩
 .exact h
 .unfold WK at g;rw[List.all_eq_true]at g;have:=g _ (Q3 U);rw[T]at this;exact absurd this AT
abbrev Xr:=PD ⊕ AD
abbrev rW:=List PD->Option Xr
def Ds(g:rW):Sp:=fun vs H Q E=>∃T r G,g T=some r/\Ao G T vs/\AM G H/\match r with
 |.inl x=>∀v R H',AM G R->Nw G H R->AM R H'->AM H H'->Du R x v->Q v H'
 |.inr C=>∀H',AM H H'->E zAM none H'
abbrev lK:=Ou ⊕ AD
abbrev GP:=Dv->Option lK
def qp(G0 H0:Hp)(D:Ends)(E:XK):lK->Prop
 |.inl o=>Fin G0 H0 D o
 |.inr C=>∀H',AM H0 H'->E zAM none H'
def DX(X:Cx)(E:XK)(st:Stmt)(F:GP):Prop:=∃t,PS X st t/\∀δ r,F δ=some r->∀G0 H0 G H σ D,Rw G0 H0 G H σ δ []->qp G0 H0 D E r->t D σ H
def VR(X:Cx)(E:XK)(g:ye)(F:GP):Prop:=∃t,JZ X g t/\∀δ r,F δ=some r->∀G0 H0 G H σ D,Rw G0 H0 G H σ δ []->qp G0 H0 D E r->t D σ H
section
variable{X:Cx}{E:XK}{b c e:Expr}{es:yV}{f h:yK}{fs:yJ}{fa:yL}{pos p:Pos}{st:Stmt}{sts sts':ye}{F:DF}{J J1 J2:GP}
def ij{t:TS}(h:JZ X.K1 sts t):JZ X sts t:=fun pins s σ H D I k=>ao (h pins s σ H D (I.JJ _) k) (fun _ _ z=>z.Gu) fun _ _ z=>z.elim
def gn{t:TE}(h:PE X.K1 e t):PE X e t:=fun pins s σ H Q I k=>ao (h pins s σ H Q (I.JJ _) k) zFW fun _ _ z=>z.elim
def qZ{t:TT}(h:PT X.K1 e t):PT X e t:=fun pins s σ H Q I k=>ao (h pins s σ H Q (I.JJ _) k) (fun _ _ ⟨H',g,q⟩=>⟨H',g.Gu,q⟩) fun _ _ z=>z.elim
def X3{t:TA}(h:PA X.K1 es t):PA X es t:=fun p pins s σ H Q I k=>ao (h p pins s σ H Q (I.JJ _) k) zFW fun _ _ z=>z.elim
abbrev Vh(F:DF):GP:=fun δ=>(F δ).map .inl
def Nn(h:T3 X.K1 sts F):VR X E sts (Vh F):=by
 obtain⟨t,p,k⟩:=h;refine⟨t,ij p,fun δ r h G0 H0 G H σ D R q=>?_⟩;obtain⟨o,g,rfl⟩:=aC.mp h;exact k δ o g G0 H0 G H σ D R q
def Js(J1 J2:GP)(δ:Dv):Option lK:=match J1 δ with
 |some (.inl (.nx g))=>J2 g
 |o=>o
def NI:VR X E [] (fun δ=>some zAs):=⟨_,GQ,fun δ r h G0 H0 G H σ D R k=>by cases h;exact k _ _ _ R⟩
def G8(h:DX X E st J):VR X E [st] J:=by
 obtain⟨t,p,k⟩:=h;exact⟨t,A7 p,k⟩
def Gh(h1:DX X E st J1)(h2:VR X E sts J2):VR X E (st::sts) (Js J1 J2):=by
 obtain⟨t1,Z,T⟩:=h1;obtain⟨t2,Y,k2⟩:=h2;refine⟨_,Ae Z Y,fun δ r h G0 H0 G H σ D R q=>?_⟩;unfold Js at h;split at h
 .rename_i g e1;exact T δ _ e1 G0 H0 G H σ _ R fun U G' H' R'=>k2 g r h G0 H0 G' H' U D R' q
 .rename_i o hn;cases r with
  |inr C=>exact T δ _ h G0 H0 G H σ _ R q
  |inl o'=>
   cases o' with
   |nx g=>exact absurd h (hn g)
   |rt x=>exact T δ _ h G0 H0 G H σ _ R q
   |bk x=>exact T δ _ h G0 H0 G H σ _ R q
   |ct x=>exact T δ _ h G0 H0 G H σ _ R q
   |rn x=>exact T δ _ h G0 H0 G H σ _ R q
abbrev W6(c:zEb)(J1 J2:GP):GP:=fun δ=>(c δ).bind fun b=>if b=true then J1 δ else J2 δ
def TY(hc:DT X.K1 c fa)(h1:VR X E sts J1)(h2:VR X E sts' J2):DX X E (.If c sts sts' pos) (W6 fa J1 J2):=by
 obtain⟨tc,pc,kc⟩:=hc;obtain⟨t1,p1,k1⟩:=h1;obtain⟨t2,p2,k2⟩:=h2;refine⟨_,JC (qZ pc) p1 p2,fun δ r h G0 H0 G H σ D R q=>?_⟩;obtain⟨b,h3,g⟩:=aB.mp h;refine kc δ _ h3 G0 H0 G H σ [] _ R fun Z Y U=>?_;split
 .rename_i T;rw[if_pos T]at g;exact k1 δ r g G0 H0 Z Y σ D U q
 .rename_i T;rw[if_neg T]at g;exact k2 δ r g G0 H0 Z Y σ D U q
abbrev NL(C:AD)(f:O7):GP:=fun δ=>(f δ).map fun _=>.inr C
def ML{x:Str}{C:AD}{np U:Pos}(T:Exc X.K X.mg x C)(hL:Lets X E)(he:DE X.K1 e f)(g:X.calm=true:=by rfl)(Z:Gl X x:=by rfl)(hd:HV=false:=by decide) (Y:starEach [e] X.env=[IJ]:=by rfl):DX X E (.Raise (some (.Call RN [e] [] U)) none pos) (NL C f):=by
 obtain⟨t,p,k⟩:=he;refine⟨_,iZ T hL g Z (gn p) hd Y,fun δ r h G0 H0 G H σ D R q=>?_⟩;obtain⟨y,h1,rfl⟩:=aC.mp h;exact k δ y h1 G0 H0 G H σ [] _ R fun v G' H' R'=>q _ R'.keep
def gR{k:Nat}{m:rW}{T:TA}(ka:∀δ xs,fs δ=some xs->∀G0 H0 G H σ ts (Q:zDn),Rw G0 H0 G H σ δ ts->(∀vs g H',Rw G0 H0 g H' σ δ (xs.zip vs++ts)->vs.length=xs.length->Q vs H')->T σ H Q) {δ:Dv}{r:Xr}(hz:(fs δ).bind m=some r){G0 H0 G H:Hp}{σ:St}{Q:VK}{Y:XK}(R:Rw G0 H0 G H σ δ [])(q1:∀x,r=.inl x->∀v g H',Rw G0 H0 g H' σ δ [(x,v)]->Q v H')(Z:∀C,r=.inr C->∀g H',Rw G0 H0 g H' σ δ []->Y zAM none H'):T σ H fun vs U=>Ds m (vs++[]) U Q Y:=by
 obtain⟨xs,h1,h2⟩:=aB.mp hz;refine ka δ _ h1 G0 H0 G H σ [] _ R fun vs G1 U R1 hv=>?_;obtain⟨d,R2⟩:=R1.args hv;refine⟨xs,r,G1,h2,by rw[List.append_nil];exact d,R2.ins,?_⟩;cases r with
 |inl x=>exact fun v g H' h3 h4 h5 h6 h7=>q1 x rfl _ _ _ zDY
 |inr C=>exact fun H' h=>Z C rfl _ _ (R2.on h)
section
variable{k:Nat}{fA:AD}{fd:Db}{ps:yU}{m:rW}{x:Str}{st':Stmt}
abbrev Od(m:List PD->Option Xr)(fs:TQ)(nx:PD->Dv->Ou):GP:=fun δ=>((fs δ).bind m).map fun r=>match r with
 |.inl x=>.inl (nx x δ)
 |.inr C=>.inr C
def ZF(T:zFR)(F:wS)(hr:EH k X.A)(hP:zBf)(ha:DA X.K1 Op fs) {g:Pos}(Z:∀ {t:TE},PE X Id t->PS X (.Expr Id g) (WA t)) (hg:Gl X x:=by rfl)(Y:HV=false:=by decide)(he:starEach Op X.env=IJ::starEach es X.env:=by rfl)(U:(backTo pos Nm).any Nh=false:=by rfl):DX X E (.Expr Id g) (Od m fs fun _ δ=>.nx δ):=by
 obtain⟨ta,pa,ka⟩:=ha;refine⟨_,Z (Wt T F hr hg hP (X3 pa) Y he U),fun δ r h G0 H0 G H σ D R q=>?_⟩;obtain⟨z,h1,rfl⟩:=aC.mp h;refine gR (k:=k) ka h1 R (fun x hx v G' H' R'=>?_) (fun C hC G' H' R'=>?_)
 .subst hx;exact q _ _ _ R'.drop
 .subst hC;exact q _ R'.keep
def eW{i:Nat}{y:Str}{U g:Pos}(T:zFR)(F:wS)(hr:EH k X.A)(hP:zBf)(ha:DA X.K1 Op fs) (hN:zv)(Y:Loc X.env.scope y)(hi:X.N[i]? = some y:=by rfl)(hg:Gl X x:=by rfl) (hdb:HV=false:=by decide)(he:starEach Op X.env=IJ::starEach es X.env:=by rfl)(Z:(backTo pos Nm).any Nh=false:=by rfl) (hs:swapsWith Id (some (.Name y U)) g.line X.env=pure false:=by rfl)(hf:X.fn y=true\/X.env.scope.names.lookup y=some .local:=by first|exact .inl rfl|exact .inr rfl|assumption):DX X E (.Assign [.Name y U] (.Call (.Name x p) (e::es) [] pos) g) (Od m fs fun z δ=>.nx (δ.set i (.d z))):=by
 obtain⟨ta,pa,ka⟩:=ha;refine⟨_,BE hN hi Y (Wt T F hr hg hP (X3 pa) hdb he Z) hs hf,fun δ r h G0 H0 G H σ D R q=>?_⟩;obtain⟨z,h1,rfl⟩:=aC.mp h;refine gR (k:=k) ka h1 R (fun x Y v G' H' R'=>?_) (fun C hC G' H' R'=>?_)
 .subst Y;exact q _ _ _ R'.Hw
 .subst hC;exact q _ R'.keep
end
end
def GK(ps N:yU)(J:GP)(ds:yM):Option Xr:=if ds.length=ps.length then(match J (Ip N ds) with
 |some (.inl (.rt x))=>some (.inl x)
 |some (.inl (.nx _))=>some (.inl .none)
 |some (.inl (.rn xs))=>some (.inl (.list xs))
 |some (.inr C)=>some (.inr C)
 |_=>none) else none
section
variable{P:FS}{w:IO}{K:Fg}{mg:yP}{base:Heap}{x:Str}{st:Stmt}{fA:AD}{fd:Db}{N ps:yU}{k:Nat}
def T2{qual:Str}{scope:zAm}{T:VL}{A:Ki}{outer:yf}{s:SD}{H:Hp}{E:XK}:Lets (DZ K9 P w K mg base N qual scope fA T A outer s H E) E:=fun _ _ _ _ _ _ _ _ I g R=>ml I g R
def HI{qual:Str}{scope:zAm}{g:VL}{A:Ki}{outer:yf}{s:SD}{H:Hp}{E:XK}:Passes K9 (DZ K9 P w K mg base N qual scope fA g A outer s H E) E:=uf fun _ _ _ z=>z
def Pu{J:GP}(T:Fn K mg x st ps fA fd)(S:Ad N ps zBG) (hb:∀(cdv:VL) (A:Ki) (outer:yf) (s:SD) (H:Hp) (E:XK),EH k (A.deeper (envOfC x zBG s.heap.objs.size fA cdv))->VR (DZ K9 P w K mg base N x zBG fA cdv A outer s H E) E (Et st) J):AK P w K mg base K9 RJ fA fd ps (Ds (GK ps N J)):=by
 refine T.F.xi S Kj fun cdv A outer s H vs Q E hr h=>?_
 .obtain⟨ds,y,G,g,Y,_⟩:=h;unfold GK at g;split at g
  .rename_i hl;rw[Y.len];exact hl
  .cases g
 .obtain⟨ds,y,G,g,Y,h3,h4⟩:=h;obtain⟨t,p,Z⟩:=hb cdv A outer s H E hr;refine⟨t,p,?_⟩;unfold GK at g;split at g
  .split at g
   .rename_i z U;cases g;exact Z _ _ U G H G H _ _ (Rw.start Y h3) fun v G' H' m1 m2 m3 m4 m5=>h4 v G' H' m1 m2 m3 m4 m5
   .rename_i δ U;cases g;exact Z _ _ U G H G H _ _ (Rw.start Y h3) fun σ' G' H' R=>h4 .BN G' H' R.ext R.new R.ins R.keep Mt
   .rename_i xs U;cases g;exact Z _ _ U G H G H _ _ (Rw.start Y h3) fun a ys G' H' m1 m2 m3 m4 m5 m6 m7 m8=>let⟨n1,n2,n3,n4⟩:=kX m1 m2 m3 m5 m6 m7 m8;h4 _ _ H' n1 n2 n3 m4 n4
   .rename_i C U;cases g;exact Z _ _ U G H G H _ _ (Rw.start Y h3) h4
   .cases g
  .cases g
def AK.xu{sp g:Sp}(F:AK P w K mg base K9 k fA fd ps sp)(h:∀vs H Q E,g vs H Q E->sp vs H Q fun _ _ _=>False):AK P w K mg base Ag k fA fd ps g :=
 ⟨fun vs H Q E z=>F.len _ _ _ _ (h _ _ _ _ z),fun A outer s H args us vs Q E U Y Z R T=>codeAny_mono (F.run A outer s H args us vs Q _ U Y Z R (h _ _ _ _ T)) fun r s' z=>by
  cases r with
  |ok fl=>cases fl<;>exact z
  |error e=>obtain⟨_,_,_,_,_,_,_,z⟩:=z;exact z.elim⟩
def good(m:rW)(ds:yM):yQ:=match m ds with
 |some (.inl x)=>some x
 |_=>none
def JP{m:rW}(F:AK P w K mg base K9 k fA fd ps (Ds m)):AK P w K mg base Ag k fA fd ps (A6 (good m)):=F.xu fun vs H Q E z=>by
 obtain⟨Y,x,G,g,U,T,R⟩:=z;unfold good at g;split at g
 .rename_i y e;cases g;exact⟨Y,.inl x,G,e,U,T,R⟩
 .cases g
end
abbrev Ma(fs:TQ):DF:=fun δ=>(fs δ).map .rn
abbrev b9(i:Nat):DF:=fun δ=>(ow i δ).map .rn
section
variable{X:Cx}{a:Expr}{h:yK}{pos:Pos}
def Z2{i:Nat}{x:Str}{np:Pos}(hv:PE X RN (QP i)):DS X (.Return (some RN) pos) (b9 i):=by
 refine⟨_,Cf hv,fun δ r h G0 H0 G H σ D R q=>?_⟩;obtain⟨xs,h1,rfl⟩:=aC.mp h;obtain⟨a,_,Z,Y,U,T,⟨ys,rfl,g⟩⟩:=R.own i _ (dc h1);exact⟨.ref a,Z,q a ys G H R.ext R.new R.ins R.keep U Y T g⟩
end
section
variable{X:Cx}{elt iter:Expr}{x y:Str}{px py tp pos spos:Pos}{tk:Nat}{ifs:yV}{scope:zAm}{fs:yJ}{tif:yL}{f:yK}
def Uw(N:yU)(ix:Nat)(fr:yg)(hi:DI X zBe iter fs)(T:zGF)(he:zGJ) (h1:C6 scope N x ix=true:=by decide +kernel)(h2:X.calm=true:=by rfl)(h3:HE N X.N scope X.env.scope fr 0=true:=by rfl)(h4:fr.length=N.length:=by rfl)(h5:freeOk X.env.scope scope.names=true:=by rfl) (hs:∀x,foldedSetIterable iter X.env x=pure x:=by intro _;rfl):DS X (.Return (some EQ) spos) (Ma (CS (Ce ix) tif f fr fs)):=by
 obtain⟨wi,pi,ki⟩:=hi;refine⟨_,Cf (HP N ix fr pi T zS h1 h2 h3 h4 h5 hs),fun δ r h G0 H0 G H σ D R q=>?_⟩;obtain⟨zs,m1,rfl⟩:=aC.mp h;exact Sg ki m1 R fun D' ys G' H' g n1 Z Y n4 U=>q _ _ _ _ g.ext g.new g.ins g.keep Y Z n1 U
def X5(N:yU)(ix g:Nat)(fr:yg)(hi:DI X (.Tuple [.Name x px,.Name y py] tk tp) iter fs)(Y:zGF)(he:zGJ) (h1:C6 scope N x ix=true:=by decide +kernel)(Z:C6 scope N y g=true:=by decide +kernel)(U:ix≠g:=by decide)(h2:X.calm=true:=by rfl)(h3:HE N X.N scope X.env.scope fr 0=true:=by rfl)(h4:fr.length=N.length:=by rfl)(h5:freeOk X.env.scope scope.names=true:=by rfl) (hs:∀x,foldedSetIterable iter X.env x=pure x:=by intro _;rfl):DS X (.Return (some zAn) spos) (Ma (CS (Fo ix g) tif f fr fs)):=by
 obtain⟨wi,pi,ki⟩:=hi;refine⟨_,Cf (Pz N ix g fr pi Y zS h1 Z U h2 h3 h4 h5 hs),fun δ r h G0 H0 G H σ D R q=>?_⟩;obtain⟨zs,m1,rfl⟩:=aC.mp h;exact Yk ki m1 R fun D' ys G' H' T n1 n2 n3 n4 n5=>q _ _ _ _ T.ext T.new T.ins T.keep n3 n2 n1 n5
end
section
variable{N ps:yU} 
def oA{F:DF}{ds xs:yM}(g:zCE)(h:F (Ip N ds)=some (.rn xs)):Cd ps N F ds=some (.list xs):=by unfold Cd;rw[if_pos g,h]
def Qa{J:GP}{ds:yM}{y:PD}(g:zCE)(h:J (Ip N ds)=some (.inl (.rt y))):GK ps N J ds=some (.inl y):=by unfold GK;rw[if_pos g,h]
def ZV{J:GP}{ds:yM}{δ:Dv}(g:zCE)(h:J (Ip N ds)=some zAs):GK ps N J ds=some (.inl .none):=by unfold GK;rw[if_pos g,h]
def UK{J:GP}{ds xs:yM}(g:zCE)(h:J (Ip N ds)=some (.inl (.rn xs))):GK ps N J ds=some (.inl (.list xs)):=by unfold GK;rw[if_pos g,h]
end
section
variable{J1 J2:GP}{δ δ':Dv}{r:Option lK}{c:yL}{fs:yJ}{m:rW}{ds:yM}   
def J4(h:J1 δ=some (.inl (.nx δ')))(k:J2 δ'=r):Js J1 J2 δ=r:=by unfold Js;rw[h];exact k
def cw(h:c δ=some false)(k:J2 δ=r):W6 c J1 J2 δ=r:=by show(c δ).bind _=r;rw[h];exact k
def OS{nx:PD->Dv->Ou}{y:PD}(h:fs δ=some ds)(k:m ds=some (.inl y)):Od m fs nx δ=some (.inl (nx y δ)):=by show((fs δ).bind m).map _=_;rw[h];show(m ds).map _=_;rw[k];rfl
def Ii{y:PD}(q:m ds=some (.inl y)):good m ds=some y:=by unfold good;rw[q]
end
section
variable{F F1 F2:DF}{δ δ':Dv}{fs:yJ}{xs:yM}{set:TM}{r:Option Ou}
def lC{Q:Dv->Prop}(h:F1 δ=some (.nx δ'))(k:∃g,F2 δ'=some (.nx g)/\Q g):∃g,Av F1 F2 δ=some (.nx g)/\Q g:=let⟨g,a,b⟩:=k;⟨g,An h a,b⟩
def qD(U:Nat->Dv->Prop)(Y:zED)(h0:U 0 δ)(Z:∀(i:Nat) (x:PD) (δ:Dv),xs[i]? = some x->U i δ->∃T,set x δ=some T/\∃R,F T=some (.nx R)/\U M2 R):∃δ',Ex fs set F δ=some (.nx δ')/\U xs.length δ':=jd U Y h0 fun i x δ a b=>let⟨T,c,R,e,g⟩:=Z i x δ a b;⟨T,R,c,e,g⟩
def OE(T:Nat->Dv->Prop)(U:zED)(h0:T 0 δ)(Y:∀(i:Nat) (x:PD) (δ:Dv),xs[i]? = some x->T i δ->∃R,set x δ=some R/\∃g,F R=some (.nx g)/\T M2 g) (k:∀δ',T xs.length δ'->F2 δ'=r):Av (Ex fs set F) F2 δ=r:=by
 obtain⟨δ',h1,Z⟩:=qD T U h0 Y;exact An h1 (k δ' Z)
def Zz{f:yK}{x:PD}(h:f δ=some x)(k:Fz x=some xs):Dy f δ=some xs:=by show(f δ).bind Fz=_;rw[h];exact k
end
abbrev Wm:=List PD ⊕ AD
def eH(X:Cx)(E:XK)(e:Expr)(f:Dv->Option Xr):Prop:=∃t,PE X e t/\∀δ r,f δ=some r->∀G0 H0 G H σ ts (Q:VK),Rw G0 H0 G H σ δ ts->(∀x,r=.inl x->∀v g H',Rw G0 H0 g H' σ δ zDw->Q v H')->(∀C,r=.inr C->∀H',AM H0 H'->E zAM none H')->t σ H Q
def lG(X:Cx)(E:XK)(es:yV)(f:Dv->Option Wm):Prop:=∃t,PA X es t/\∀δ r,f δ=some r->∀G0 H0 G H σ ts (Q:zDn),Rw G0 H0 G H σ δ ts->(∀xs,r=.inl xs->∀vs g H',Rw G0 H0 g H' σ δ (xs.zip vs++ts)->vs.length=xs.length->Q vs H')->(∀C,r=.inr C->∀H',AM H0 H'->E zAM none H')->t σ H Q
section
variable{X:Cx}{E:XK}{e:Expr}{es:yV}{f:yK}{fx:Dv->Option Xr}{gx:Dv->Option Wm}{fs:yJ}{pos p:Pos}
abbrev vv(f:O7):Dv->Option Xr:=fun δ=>(f δ).map .inl
abbrev EM(f:TQ):Dv->Option Wm:=fun δ=>(f δ).map .inl
def ox(h:DE X.K1 e f):eH X E e (vv f):=by
 obtain⟨t,p,k⟩:=h;refine⟨t,gn p,fun δ r h G0 H0 G H σ ts Q R q1 T=>?_⟩;obtain⟨o,g,rfl⟩:=aC.mp h;exact k δ o g G0 H0 G H σ ts Q R (q1 o rfl)
def IQ(h:DA X.K1 es fs):lG X E es (EM fs):=by
 obtain⟨t,p,k⟩:=h;refine⟨t,X3 p,fun δ r h G0 H0 G H σ ts Q R q1 T=>?_⟩;obtain⟨o,g,rfl⟩:=aC.mp h;exact k δ o g G0 H0 G H σ ts Q R (q1 o rfl)
def DV(fx:Dv->Option Xr)(gx:Dv->Option Wm)(δ:Dv):Option Wm:=match fx δ with
 |some (.inl x)=>(match gx δ with
  |some (.inl xs)=>some (.inl (x::xs))
  |some (.inr C)=>some (.inr C)
  |none=>none)
 |some (.inr C)=>some (.inr C)
 |none=>none
def Jz(ha:eH X E e fx)(hr:lG X E es gx)(hs:starEach Op X.env=IJ::starEach es X.env:=by rfl):lG X E Op (DV fx gx):=by
 obtain⟨ta,pa,ka⟩:=ha;obtain⟨tr,pr,kr⟩:=hr;refine⟨_,AN pa pr hs,fun δ r g G0 H0 G H σ ts Q R q1 q2=>?_⟩;unfold DV at g;cases U:fx δ with
 |none=>rw[U]at g;cases g
 |some u=>
  rw[U]at g;cases u with
  |inr C=>
   cases g;exact ka δ _ U G0 H0 G H σ ts _ R (fun x Z=>by cases Z) fun C' T=>by cases T;exact q2 C rfl
  |inl x=>
   refine ka δ _ U G0 H0 G H σ ts _ R (fun x' Z v G1 H1 R1=>?_) (fun C T=>by cases T);cases Z;cases hg:gx δ with
   |none=>rw[hg]at g;cases g
   |some w=>
    rw[hg]at g;refine kr δ _ hg G0 H0 G1 H1 σ _ _ R1 (fun xs Y vs G2 H2 R2 hl=>?_) (fun C T H' h'=>?_)
    .subst Y;cases g;refine q1 _ rfl (v::vs) G2 H2 (R2.less fun q hq=>?_) (by simp[hl]);simp only[List.zip_cons_cons,List.cons_append,List.mem_cons,List.mem_append]at hq ⊢;rcases hq with h|h|h
     .exact .inr (.inl h)
     .exact .inl h
     .exact .inr (.inr h)
    .subst T;cases g;exact q2 C rfl H' h'
def CL(gx:Dv->Option Wm)(m:rW)(δ:Dv):Option Xr:=match gx δ with
 |some (.inl xs)=>m xs
 |some (.inr C)=>some (.inr C)
 |none=>none
def Fp{k:Nat}{fA:AD}{fd:Db}{ps:yU}{m:rW}{x:Str}{st':Stmt}(T:zFR)(F:wS)(hr:EH k X.A)(hP:zBf)(ha:lG X E Op gx) (U:Gl X x:=by rfl)(hdb:HV=false:=by decide)(he:starEach Op X.env=IJ::starEach es X.env:=by rfl)(Z:(backTo pos Nm).any Nh=false:=by rfl):eH X E Id (CL gx m):=by
 obtain⟨ta,pa,ka⟩:=ha;refine⟨_,Wt T F hr U hP pa hdb he Z,fun δ r g G0 H0 G H σ ts Q R q1 q2=>?_⟩;unfold CL at g;cases U:gx δ with
 |none=>rw[U]at g;cases g
 |some w=>
  rw[U]at g;refine ka δ _ U G0 H0 G H σ ts _ R (fun xs Y vs G1 H1 R1 hv=>?_) (fun C hC H' h'=>?_)
  .subst Y;obtain⟨d,R2⟩:=R1.args hv;refine⟨xs,r,G1,g,by rw[List.append_nil];exact d,R2.ins,?_⟩;cases r with
   |inl y=>exact fun v G' H' h3 h4 h5 h6 h7=>q1 y rfl _ _ _ zDY
   |inr C=>exact fun H' h=>q2 C rfl H' (R2.keep.trans h)
  .subst hC;cases g;exact q2 C rfl H' h'
abbrev xE(fx:Dv->Option Xr)(nx:PD->Dv->Ou):GP:=fun δ=>(fx δ).map fun r=>match r with
 |.inl x=>.inl (nx x δ)
 |.inr C=>.inr C
def Um(U:eH X E e fx):DX X E (.Return (some e) pos) (xE fx fun x _=>.rt x):=by
 obtain⟨t,p,k⟩:=U;refine⟨_,Cf p,fun δ r h G0 H0 G H σ D R q=>?_⟩;obtain⟨z,Z,rfl⟩:=aC.mp h;refine k δ z Z G0 H0 G H σ [] _ R (fun x T v G' H' g=>?_) (fun C Y H' h'=>?_)
 .subst T;exact q _ _ _ g.ext g.new g.ins g.keep (g.B4 _ GM)
 .subst Y;exact q _ h'
def a6{i:Nat}{y:Str}{g:Pos}(Z:eH X E e fx)(hN:zv)(T:Loc X.env.scope y)(hi:X.N[i]? = some y:=by rfl)(U:swapsWith e (some (.Name y g)) pos.line X.env=pure false:=by rfl)(Y:X.fn y=true\/X.env.scope.names.lookup y=some .local:=by first|exact .inl rfl|exact .inr rfl|assumption):DX X E (.Assign [.Name y g] e pos) (xE fx fun x δ=>.nx (δ.set i (.d x))):=by
 obtain⟨t,p,k⟩:=Z;refine⟨_,BE hN hi T p U Y,fun δ r h G0 H0 G H σ D R q=>?_⟩;obtain⟨z,h1,rfl⟩:=aC.mp h;refine k δ z h1 G0 H0 G H σ [] _ R (fun x T v G' H' R'=>?_) (fun C hC H' h'=>?_)
 .subst T;exact q _ _ _ R'.Hw
 .subst hC;exact q _ h'
end
section
variable{δ:Dv}{fx:Dv->Option Xr}{gx:Dv->Option Wm}{m:rW}{xs:yM}{r:Option Xr}   
def Xw{x:PD}(h:fx δ=some (.inl x))(k:gx δ=some (.inl xs)):DV fx gx δ=some (.inl (x::xs)):=by unfold DV;rw[h,k]
def ZL(h:gx δ=some (.inl xs))(k:m xs=r):CL gx m δ=r:=by unfold CL;rw[h];exact k
def u9{nx:PD->Dv->Ou}{y:PD}(h:fx δ=some (.inl y)):xE fx nx δ=some (.inl (nx y δ)):=by show(fx δ).map _=_;rw[h];rfl
end
end L2
namespace L2
open PySem PySem.Spec PyProof.Rows
def fg(ns:yT):(ns.map V.int).all LD=true:=by
 rw[List.all_eq_true];intro x g;obtain⟨i,_,rfl⟩:=aQ.mp g
 rfl
def YU(i:Int):∀ns:List Int,kG pp SC=ns.contains i
 |[]=>rfl
 |n::ns=>by
  have g:=YU i ns;unfold kG at g ⊢;rw[List.map_cons,List.any_cons,g,List.contains_cons]
  congr 1
  show(n==i)=(i==n);rw[Bool.eq_iff_iff,beq_iff_eq,beq_iff_eq];exact eq_comm
def k9{P:FS}{w:IO}{K:Fg}{mg:yP}{base:Heap}{k:Nat}{f:AD}{fd:Db}{ps:yU}{m:MD}(F:AK P w K mg base Ag k f fd ps (A6 m)):AK P w K mg base K9 k f fd ps (Ds fun ds=>(m ds).map .inl) :=
 F.xq.imp fun vs H Q E z=>by
  obtain⟨ds,r,G,Y,U,T,R⟩:=z;obtain⟨x,g,rfl⟩:=aC.mp Y;exact⟨ds,x,G,g,U,T,R⟩
end L2
namespace L2
open PySem PySem.Spec PyProof.Rows
def GT(H:Hp)(v:VL)(x:Tr):Prop:=∃a ys,v=.ref a/\H a=some zCV/\Ts H x ys
def cu(S:AD)(ev:Rs)(ep:Nat)(t:zCO):HO:=.ext fun h=>∃o,h.get? S=some o/\o.ExactSet/\o.data=.set ev ep t
abbrev sW(H:Hp)(p:Int×VL)(q:Int×Tr):Prop:=p.1=q.1/\q.2.deep<8/\GT H p.2 q.2
def iu(H:Hp)(S:AD)(st:TH.ES×SetTable):Prop:=∃ev ep,H S=some (cu S ev ep st.2)/\PySem.Paired (sW H) ev.toList st.1.toList
def GT.same{H H':Hp}{v:VL}{x:Tr}(h:GT H v x)(e:mo):GT H' v x:=let⟨a,ys,T,R,g⟩:=h;⟨a,ys,T,e _ _ R,g.same e⟩
structure kL(w:IO)(st:TH.ES×SetTable):Prop where
 fit:st.2.fits st.1.size=true
 plain:st.2.plain=true
 led:st.2.led=!w.params.followText "set-order"
 walk:TH.QG st.2 st.1.size=true
 small:st.1.size<64
section
variable{X:Cx}{pins:DH}{σ:St}{H:Hp}{s:SD}
def fL(I:By){v:VL}{x:Tr}(g:GT H v x):∃a R,v=.ref a/\s.heap.IsTuple a R.toArray/\TH.Vs s.heap x R:=by
 obtain⟨a,ys,rfl,U,T⟩:=g;obtain⟨R,r,p,_⟩:=I.tuple zEs;exact⟨a,R,rfl,p,T.vs I r⟩
def YH(I:By):∀ {t:Tr} {ys:Jh} {us:LY},Ts H t ys->Vals ys us->t.deep<=8->TH.LX (GT H) s.heap us t.bs
 |.nil,ys,us,h,r,_=>by
  rw[Ts]at h;subst h;cases r;exact .nil
 |.cons b q,ys,us,h,r,hd=>by
  rw[Ts]at h;obtain⟨a,R,rest,rfl,h1,Z,Y⟩:=h;rw[Tr.deep]at hd;cases r with
  |cons U T=>
   cases U;have g:GT H HY b:=⟨a,R,rfl,h1,Z⟩;exact .cons ⟨by lia,g,fL I g⟩ (YH I Y T AC)
def j4(I:By){l:zDH}{m:zDI}(h:PySem.Paired (sW H) l m):PySem.Paired (TH.RZ (GT H) s.heap) l m :=
 TH.Paired.imp (fun _ _ ⟨a,b,c⟩=>⟨a,b,c,fL I c⟩) h
def o8:∀ {us:LY} {ts:y8},PySem.Paired (GT H) us ts->∃zs,Vals zs us/\Ts H (Tr.of ts) zs
 |_,_,.nil=>⟨[],.nil,by rw[Tr.of,Ts]⟩
 |_,_,.cons ⟨a,ys,e,U,T⟩ r=>by
  obtain⟨zs,R,g⟩:=o8 r;subst e;exact⟨.ref a::zs,.cons rfl R,by rw[Tr.of,Ts];exact⟨a,ys,zs,rfl,U,T,g⟩⟩
def uj(w:IO)(K:Fg):List V->Hp->VK->Prop:=fun xs H Q=>∃p ys t st,xs=[.ref p]/\Ax K H p ys/\Ts H t ys/\t.deep<=8/\TH.Pf (TH.NV oR) t.bs=some st /\
 ∀S H',AM H H'->iu H' S st->Q (.ref S) H'
def gr(hc:dO)(hu:Ih):FW X (.type "set") (uj X.w X.K):=by
 intro pins s σ H xs us Q I r h;obtain⟨p,ys,t,st,rfl,hq,ht,hd,g,q⟩:=h;obtain⟨u,rfl,U⟩:=r.one;cases U;obtain⟨its,T,Z,hz⟩:=I.list hq;refine TH.Ym (G:=GT H) Os Z.isList (YH I ht T hd) AC g fun h2 tk S2 k2=>?_;obtain⟨o,ev,ep,R,g2,g3,g4⟩:=S2;have hf:=I.A5.fresh (aJ s.heap.objs.size);have es:=Ah hf (cu s.heap.objs.size ev ep st.2);refine⟨.ref s.heap.objs.size,upd H s.heap.objs.size (cu s.heap.objs.size ev ep st.2),I.laid (t':=tk) k2 RW ?_,rfl,q _ _ es ⟨ev,ep,AO,TH.Paired.imp (fun _ _ ⟨a,b,c,_⟩=>⟨a,b,c.same es⟩) g4⟩⟩;exact⟨⟨o,R,g2,g3⟩,⟨o,R⟩,fun h1 h2 ⟨o,q1,Y⟩ k=>⟨o,k _ q1,Y⟩⟩
def nT(I:By){S:AD}{st:TH.ES×SetTable}(h:iu H S st)(ok:kL X.w st):∃o ev ep,s.heap.get? S=some o/\TH.Gx X.w o ev ep st.2/\TH.Eh (GT H) s.heap ev st.1:=by
 obtain⟨ev,ep,U,T⟩:=h;obtain⟨⟨o,g1,Z,Y⟩,_,_⟩:=(show EE X.prog X.w H s.heap S (cu S ev ep st.2) from I.A5 S _ U);have R:=j4 I T;have g:ev.size=st.1.size:=TH.Eh.size R;exact⟨o,ev,ep,g1,⟨Z,Y,by rw[g];exact ok.fit,ok.plain,ok.led,by rw[g];exact ok.walk⟩,R⟩
def sv(w:IO):List V->Hp->VK->Prop:=fun xs H Q=>∃S st,xs=[.ref S]/\iu H S st/\kL w st/\∀(l:AD) (g:Jh),H l=none->g.length<64->Ts H (Tr.of (Tr.Cn (TH.Tx st)).reverse) g->Q SY (upd H l (.lst g))
def dq(hc:dO)(hu:Ih):FW X lm (sv X.w):=by
 intro pins s σ H xs us Q I r h;obtain⟨S,st,rfl,hS,ok,q⟩:=h;obtain⟨u,rfl,g⟩:=r.one;cases g;obtain⟨o,ev,ep,g1,W,R⟩:=nT I hS ok;refine TH.cA Os W g1 R ok.small AC fun h' D tk e1 us Y k1 gD hp hl=>?_;obtain⟨T,g,Z⟩:=o8 hp;have U:T.length<64:=by rw[g.length];exact hl
 refine⟨.ref D,upd H D (.lst T),I.laid (t':=tk) k1 Y ⟨bG (aI U Ku),us,e1,g,gD⟩,rfl,q D T (I.A5.fresh Y) U Z⟩
end
open PySem PyProof.Rows
section
variable{prog:FS}{w:IO}{A:Ki}{E:yO}{s:SD}
def nH{k:Int}{t:Tok}{Q:Option PySem.Fin×Unit->SD->Prop}(xs:yN)(f:Nat->Option PySem.Fin×Unit->Sem (ForInStep (Option PySem.Fin×Unit)))
 (hf:∀i y st,xs.toArray[i]? = some y->f i st=(do
      let b <-eqBool y (.int k t)
      if b=true then do
          let r <-retInt ↑i
          pure (ForInStep.done (some r,()))
        else pure zEZ)):∀ {vs:yN} {ns:yT},IntsAre vs ns->∀(pre:yN),pre++vs=xs->k∈ns ->
    (∀t' s',s'={s with toks:=s'.toks}->s.toks<=s'.toks->Q (some (.done (.ret (.int ((pre.length+ns.idxOf k:Nat):Int) t'))),()) s') ->
    wpAny AS A (forIn (List.range' pre.length vs.length) (none,()) f) Q E s:=by
  intro vs ns hi
  induction hi with
  |nil=>intro _ _ hk;cases hk
  | @cons n u vs ns r ih=>
    intro pre hx hk h
    rw[List.length_cons,List.range'_succ,List.forIn_cons]
    refine Wb ?_
    rw[hf pre.length (.int n u) _ (by rw[<-hx];simp)]
    refine Wb (wpAny_eqBool_int ?_)
    by_cases z:n=k
    . subst z
      rw[if_pos At]
      refine Wb ?_
      refine Wb (wpAny_mkInt Oz)
      refine aA Oz
      have:=h s.toks zCi rfl (Nat.le_succ _)
      rw[List.idxOf_cons_self]at this
      exact this
    . rw[if_neg (by simpa using z)]
      refine aA ?_
      have hk':k∈ns:=(aM.mp hk).resolve_left fun e=>z e.symm
      have:=ih (pre++[.int n u]) (by rw[<-hx,List.append_assoc];rfl) hk' (fun t' s' e1 e2=>by
        have:=h t' s' e1 e2
        rw[List.idxOf_cons,show(n==k)=false by simpa using z]at this
        rw[List.length_append,List.length_singleton,Nat.add_assoc,Nat.add_comm 1]
        exact this)
      rw[List.length_append,List.length_singleton]at this
      exact this
def SF{l:AD}{vs:yN}{ns:yT}{k:Int}{t:Tok}{Q:yO}(g:IsTup s.heap l vs.toArray)(hi:IntsAre vs ns) (R:k∈ns)(h:∀t' s',s'={s with toks:=s'.toks}->s.toks<=s'.toks->Q (.int (ns.idxOf k:Nat) t') s'):wpAny AS A (call (.builtin "tuple.index") [.ref l,.int k t]) Q E s:=by
 refine ae F.slot_tuple_index g.typeIs F.entry_tuple_index ?_ (F.args_tuple_index_2 _ _);unfold Builtin.«tuple.index»;refine Wb (m:=selfAndSome _ _ _ _ _) Oz;refine Wb (tupleItemsOf_ g ?_);refine Wb (aA (Wb (aA (Wb ?_))));rw[Nat.min_self,Std.Legacy.Range.forIn_eq_forIn_range'];have z:Std.Legacy.Range.size [0:vs.toArray.size]=vs.length:=by simp[Std.Legacy.Range.size]
 rw[z];refine nH (k:=k) (t:=t) vs _ (fun i y st e=>by simp only[e]) hi [] rfl R (fun t' s' U T=>aA ⟨_,rfl,?_⟩);have:=h t' s' U T;rw[List.length_nil,Nat.zero_add];exact this
end
end L2
namespace L2
open PySem PySem.Spec PyProof.Rows
def my(K:Fg):V->List V->Hp->VK->Prop:=fun x xs H Q=>∃(p:AD) (ns:zG) (k:Int),x=.ref p/\xs=[.int k]/\BL K H p (List.map V.int ns)/\k∈ns/\Q (.int (ns.idxOf k:Nat)) H
structure Own(K:Fg)(a:Addr)(ns:zG):Prop where
 sq:∀H,BL K H a SC
 ty:∃o,K.lookup a=some o/\o.cls=.type "tuple" /\ o.dict=none
section
variable{X:Cx}{a e:Expr}{f:yK}{pos p:Pos}
def gA:qv X "tuple.index" (my X.K):=by
 intro pins s σ H x xs v us Q I R T h;obtain⟨q,ns,k,rfl,rfl,hq,hk,h⟩:=h;cases R;obtain⟨u,rfl,t,rfl⟩:=vals1 T;obtain⟨Z,U,Y,hz⟩:=I.tuple hq;refine SF Y (intsAre_of U) hk fun g s' e1 e2=>?_;rw[e1];exact⟨.int (ns.idxOf k:Nat),H,I.tok _,⟨g,rfl⟩,h⟩
def kq(neg:Bool)(ns:yT)(x:PD):yQ:=match x with
 |.int i=>some (.bool (if neg then !(ns.contains i) else ns.contains i))
 |_=>none
def eg(ns:yT)(x:PD):yQ:=match x with
 |.int i=>if i∈ns then some (.int (ns.idxOf i:Nat)) else none
 |_=>none
def sZ{op:CmpOp}{neg:Bool}{x:Str}{c:AD}{ns:yT}(ho:De X zEp (vQ X.K neg))(ha:zDK)(hg:zDD)(hm:X.mg x=some (.ref c))(hn:Own X.K c ns)(hk:behindInMarks op (.Name x p)=false:=by rfl)(hd:HV=false:=by decide):DT X (.Compare a [op] [.Name x p] pos) (fun δ=>((f δ).bind (kq neg ns)).bind Na):=by
 obtain⟨ta,U,Y⟩:=ha;refine⟨_,ER ho U (UW (v:=.ref c) hg hm rfl hd) hk,fun δ z Z G0 H0 G H σ ts Q R0 k=>?_⟩;obtain⟨q,h0,h4⟩:=aB.mp Z;have:=P7 h4;subst this;obtain⟨y,h1,g⟩:=aB.mp h0;refine Y δ y h1 G0 H0 G H σ ts _ R0 fun u G1 H1 T=>?_;unfold kq at g;split at g
 .cases g;have R:=T.B4 (_,u) GM;rw[Du]at R;subst R;refine⟨c,_,rfl,.inr (hn.sq _),rfl,fg ns,?_⟩;rw[YU];exact⟨_,rfl,k _ _ T.drop⟩
 .cases g
def gg{x:Str}{c:AD}{ns:yT}{Z ap:Pos}(ha:zb)(hg:zDD)(hm:X.mg x=some (.ref c))(hn:Own X.K c ns)(hd:HV=false:=by decide) (T:attributeBase (.Name x p) "index" X.env (eval (.Name x p) X.env)=eval (.Name x p) X.env:=by rfl) (Y:((backTo Z zDt).all (fun x=>!x.1)&&(backToKw Z (keywordEach [] X.env)).all (fun x=>x.1.isSome) && decide zAF)=true:=by rfl) (R:(ap.endLine==Z.line)=true:=by rfl)(hs:starEach [e] X.env=IJ::starEach [] X.env:=by rfl)(g:(backTo Z wT).any Nh=false:=by rfl):DE X (.Call (.Attribute (.Name x p) "index" ap) [e] [] Z) (fun δ=>(f δ).bind (eg ns)):=by
 obtain⟨ta,pa,ka⟩:=ha;refine⟨_,IU PySem.F.plainAttrs_tuple PySem.F.slot_tuple_index PySem.F.type_tuple_index gA (UW (v:=.ref c) hg hm rfl hd) (AN pa Af hs) T Y R hs g,fun δ z hz G0 H0 G H σ ts Q R0 k=>?_⟩;obtain⟨y,h1,U⟩:=aB.mp hz;refine⟨.inr (.inl ⟨rfl,hn.ty⟩),?_⟩;refine ka δ y h1 G0 H0 G H σ ts _ R0 fun u G1 H1 R1=>?_;unfold eg at U;split at U
 .split at U
  .rename_i hi;cases U;have du:=R1.B4 (_,u) GM;rw[Du]at du;subst du;exact⟨c,ns,_,rfl,rfl,hn.sq _,hi,k _ _ _ (R1.drop.put Mt)⟩
  .cases U
 .cases U
end
def Tt(led:Bool)(l z:yc):Bool:=match TH.Pf (TH.NV led) l with
 |some st=>decide ((Tr.Cn (TH.Tx st)).reverse=z)&&st.2.fits st.1.size&&st.2.plain&&decide (st.2.led=led)&&TH.QG st.2 st.1.size&&decide (st.1.size<64)
 |none=>false
def jk{led:Bool}{l z:yc}(h:Tt led l z=true):∃st,TH.Pf (TH.NV led) l=some st/\(Tr.Cn (TH.Tx st)).reverse=z/\st.2.fits st.1.size=true/\st.2.plain=true/\st.2.led=led/\TH.QG st.2 st.1.size=true/\st.1.size<64:=by
 unfold Tt at h;split at h
 .rename_i st e;simp only[Bool.and_eq_true,decide_eq_true_eq]at h;obtain⟨⟨⟨⟨⟨Z,Y⟩,U⟩,T⟩,R⟩,g⟩:=h;exact⟨st,e,Z,Y,U,T,R,g⟩
 .cases h
def cv(l:yc):yc:=match TH.Pf (TH.NV true) l with
 |some st=>(Tr.Cn (TH.Tx st)).reverse
 |none=>[]
def Hw(t:Tr):yQ:=if t.deep<=8/\Tt true t.bs (cv t.bs)=true/\Tt false t.bs (cv t.bs)=true then some (.list (BS (Tr.of (cv t.bs)))) else none
def Oe:PD->Option PD
 |.list g=>(EG g).bind Hw
 |_=>none
section
variable{X:Cx}{e:Expr}{f:yK}{pos p p2 pos2:Pos}
def Se(hc:dO)(hu:Ih)(hg:Gl X "sorted")(hm:X.mg "sorted" = none)(hg2:Gl X "set")(hm2:X.mg "set" = none)(ha:zb) (U:starEach [e] X.env=IJ::starEach [] X.env:=by rfl)(T:starEach [.Call (.Name "set" p2) [e] [] pos2] X.env=(false,eval (.Call (.Name "set" p2) [e] [] pos2) X.env)::starEach [] X.env:=by rfl) (hq1:(backTo pos2 wT).any Nh=false:=by rfl)(hq2:(backTo pos wT).any Nh=false:=by rfl):DE X (.Call zEu [.Call (.Name "set" p2) [e] [] pos2] [] pos) (fun δ=>(f δ).bind Oe):=by
 obtain⟨ta,pa,ka⟩:=ha;refine⟨_,D7 (dq hc hu) hg hm PyProof.Rows.boot_sorted (AN (VV (gr hc hu) hg2 hm2 PyProof.Rows.boot_set (AN pa Af U) AT AT U hq1) Af T) AT AT T hq2,fun δ z hz G0 H0 G H σ ts Q R0 k=>?_⟩;obtain⟨y,h1,h2⟩:=aB.mp hz;refine ka δ y h1 G0 H0 G H σ ts _ R0 fun u G1 H1 R1=>?_;unfold Oe at h2;split at h2
 .rename_i ds;obtain⟨t,h3,Z⟩:=aB.mp h2;unfold Hw at Z;split at Z
  .rename_i hh;cases Z;have hds:=Kc h3;have du:=R1.B4 (_,u) GM;obtain⟨bb,a,ys,rfl,g,n2⟩:=Io du (show Fz (.list ds)=some ds from rfl);have n1':H1 a=some Ix:=by
    have:=R1.ins _ _ g;cases bb
    .simpa using this
    .exact absurd g (by
      have Y:=du;intro g;rw[Du]at Y;obtain⟨a',ys',e1,e2,_⟩:=Y;cases e1;rw[e2]at g;cases g)
   rw[hds]at n2;have ht:=(Gk n2).same R1.ins;have both:∀led,Tt led t.bs (cv t.bs)=true:=fun led=>by cases led;exact hh.2.2;exact hh.2.1
   obtain⟨st,r1,r2,r3,r4,r5,r6,r7⟩:=jk (both (!X.w.params.followText "set-order"));refine⟨a,ys,t,st,rfl,Ax.of n1',ht,hh.1,r1,fun S H' e1 hS=>⟨S,st,rfl,hS,⟨r3,r4,r5,r6,r7⟩,fun l zs hl hz R=>?_⟩⟩;rw[r2]at R;have R2:=(R1.drop.on e1).BF;exact k _ _ _ (R2.Uo (Tf R) hl)
  .cases Z
 .cases h2
end
end L2
namespace ZT
open PySem PyProof.Rows
abbrev Fc(h:Heap)(T:AD)(a b c:VL):Prop:=h.get? T=some { cls:=.type "tuple",data:=.seq #[a,b,c]}
section
variable{prog:FS}{w:IO}{A:Ki}{E:yO}{s:SD}{z TI TO i1 i2 i3:AD}{f1 f2 f3:yd}{n1 n2 n3 k:Nat}{P1 P2 P3:Nat->VL->Prop}{S1 S2 S3:wn}{a b c:VL}
def put3{T:AD}{x:VL}{k:Nat}{Q:zDB}(g:Fc s.heap T a b c) (h:∀h',h'.get? T=some { cls:=.type "tuple",data:=.seq ((#[a,b,c]:Array VL).setIfInBounds k x)}->Heap.SameBut T s.heap h'->Q () M0):wpAny AS A (updateSeq T (·.setIfInBounds k x)) Q E s:=by
 refine wpAny_updateSeq g rfl (h _ ?_ (aZ ..));rw[Heap.get?_update_self _ g rfl];simp[Obj.mapSeq]
structure P5(z TI TO i1 i2 i3:Addr)(f1 f2 f3:List Addr):Prop where
 a1:TO≠z/\TO≠i1/\TO≠i2/\TO≠i3
 a2:i1≠z/\i2≠z/\i3≠z
 b1:z ∉ f1/\TO ∉ f1/\i2 ∉ f1/\i3 ∉ f1
 b2:z ∉ f2/\TO ∉ f2/\i1 ∉ f2/\i3 ∉ f2
 b3:z ∉ f3/\TO ∉ f3/\i1 ∉ f3/\i2 ∉ f3
def uq{Q:yO}(D1:ms)(D2:mu)(D3:Draws prog w A i3 f3 n3 P3 S3)(ap:zBA)(hz:ST)(hI:wh)(hO:zFS) (t1:wp)(t2:wv)(t3:S3 k s.heap)(l1:k<n1)(l2:k<n2)(l3:k<n3) (q:∀x y u h' tk,P1 k x->P2 k y->P3 k u->IsZip h' z TI TO zBr->Fc h' TO x y u->S1 RJ h'->S2 RJ h'->S3 RJ h'->Fc h' s.heap.objs.size x y u->h'.objs.size=s.heap.objs.size+1 ->(∀c o,c≠z->c≠TO->c≠i1->c≠i2->c≠i3->s.heap.get? c=some o->h'.get? c=some o)->Q EK Fr):wpAny AS A Pi zAI E s:=by
 obtain⟨⟨c5,c6,c7,c7'⟩,⟨c8,c9,c9'⟩,⟨d1,d2,d3,d3'⟩,⟨d4,d5,d6,d6'⟩,e4,e5,e6,e6'⟩:=ap;show wpAny _ _ zGc _ _ _;refine Wb zM;show wpAny _ _ zGd _ _ _;refine Wb lc;show wpAny _ _ Nk _ _ _;unfold Builtin.SmallTypes.ownedTupleIsFree;refine Wb zGD;simp only[if_true];refine Wb (bH (Wb (ag hz rfl (x:=.ref TO) rfl (Wb (au hz At fun g1 z1 m1=>Wb ?_)))));have m1:Heap.SameBut z s.heap g1:=m1;have z1:IsZip g1 z TI TO .ellipsis:=z1;simp only[List.zipIdx_cons,List.zipIdx_nil,List.forIn_cons,List.forIn_nil];refine Wb zJ;show wpAny _ _ Re _ _ _;refine Wb (D1.item k _ _ _ l1 (D1.frame _ _ _ t1 (Am d1 m1)) fun x g2 tk2 p1 u1 m2=>aA ?_);have m2:Heap.SameBut i1 g1 g2:=m2;have o2:Fc g2 TO a b c:=(m2.2 _ c6).trans ((m1.2 _ c5).trans hO);refine Wb (af o2 rfl (Wb (put3 o2 fun g3 o3 Z=>Wb zGT)));have o3:Fc g3 TO x b c:=o3;have Z:Heap.SameBut TO g2 g3:=Z;refine Wb zJ;show wpAny _ _ OR _ _ _;have t2':S2 k g3:=D2.frame _ _ _ (D2.frame _ _ _ (D2.frame _ _ _ t2 (Am d4 m1)) (Am d6 m2)) (Am d5 Z);refine Wb (D2.item k _ _ _ l2 t2' fun y g4 tk4 p2 u2 Y=>aA ?_);have Y:Heap.SameBut i2 g3 g4:=Y;have o4:Fc g4 TO x b c:=(Y.2 _ c7).trans o3;refine Wb (af o4 rfl (Wb (put3 o4 fun g5 o5 U=>Wb zGT)));have U:Heap.SameBut TO g4 g5:=U;have o5:Fc g5 TO x y c:=o5;refine Wb zJ;show wpAny _ _ (Builtin.SmallTypes.nextOf (.ref i3)>>=_) _ _ _;have t3':S3 k g5:=D3.frame _ _ _ (D3.frame _ _ _ (D3.frame _ _ _ (D3.frame _ _ _ (D3.frame _ _ _ t3 (Am e4 m1)) (Am e6 m2)) (Am e5 Z)) (Am e6' Y)) (Am e5 U);refine Wb (D3.item k _ _ _ l3 t3' fun u g6 tk6 p3 u3 T=>aA ?_);have T:Heap.SameBut i3 g5 g6:=T;have o6:Fc g6 TO x y c:=(T.2 _ c7').trans o5;refine Wb (af o6 rfl (Wb (put3 o6 fun g o7 R=>Wb (wpAny_letGo (aA Oz)))));have R:Heap.SameBut TO g6 g:=R;have o7:Fc g TO x y u:=o7;refine Wb (af o7 rfl (Wb (wpAny_newTuple ?_)));have sz:g.objs.size=s.heap.objs.size:=by rw[R.1,T.1,U.1,Y.1,Z.1,m2.1,m1.1]
 have z7:IsZip g z TI TO .ellipsis:=(R.2 _ c5.symm).trans ((T.2 _ c9'.symm).trans ((U.2 _ c5.symm).trans ((Y.2 _ c9.symm).trans ((Z.2 _ c5.symm).trans ((m2.2 _ c8.symm).trans z1)))));have kp:∀c o,c≠z->c≠TO->c≠i1->c≠i2->c≠i3->s.heap.get? c=some o->g.get? c=some o:=fun c o e1 e2 e3 e4 e5 e=>(R.2 _ e2).trans ((T.2 _ e5).trans ((U.2 _ e2).trans ((Y.2 _ e4).trans ((Z.2 _ e2).trans ((m2.2 _ e3).trans ((m1.2 _ e1).trans e))))));have v1:S1 RJ g:=D1.frame _ _ _ (D1.frame _ _ _ (D1.frame _ _ _ (D1.frame _ _ _ (D1.frame _ _ _ u1 (Am d2 Z)) (Am d3 Y)) (Am d2 U)) (Am d3' T)) (Am d2 R);have v2:S2 RJ g:=D2.frame _ _ _ (D2.frame _ _ _ (D2.frame _ _ _ u2 (Am d5 U)) (Am d6' T)) (Am d5 R);have v3:S3 RJ g:=D3.frame _ _ _ u3 (Am e5 R);show wpAny _ _ zHH _ _ _;unfold Builtin.SmallTypes.ownedTupleHandOut;have z8:IsZip (g.push { cls:=.type "tuple",data:=.seq #[x,y,u]}) z TI TO .ellipsis:=aE _ z7;refine Wb (Wb (au z8 At fun g8 w8 m8=>au (show IsZip g8 z TI TO zDu from w8) At fun g9 w9 m9=>?_));have w9:IsZip g9 z TI TO zDu:=w9;have up:∀c o,c≠z->(g.push { cls:=.type "tuple",data:=.seq #[x,y,u]}).get? c=some o->g9.get? c=some o:=fun c o e1 e=>(m9.2 _ e1).trans ((m8.2 _ e1).trans e);have zl:z<g.objs.size:=aF z7;refine aA ⟨_,rfl,?_⟩;show Q zCN _;have fin:=q x y u g9 tk6 p1 p2 p3 (by rw[<-sz];exact w9) (up _ _ c5 (aE _ o7)) zBh zBi (D3.frame _ _ _ v3 fun c hc o e=>up c o (fun y=>e4 (y ▸ hc)) (aE _ e))
  (by rw[<-sz];exact up _ _ (aj zl) (aN _ rfl)) (by rw[<-sz,m9.1,m8.1,Heap.size_push]) fun c o e1 e2 e3 e4 e5 e=>up c o e1 (aE _ (kp c o e1 e2 e3 e4 e5 e))
 rw[sz];exact fin
def tG{Q:Fin->SD->Prop}(D1:ms)(D2:mu)(D3:Draws prog w A i3 f3 n3 P3 S3)(ap:zBA)(hz:ST)(hI:wh)(hO:zFS) (t1:wp)(t2:wv)(t3:S3 k s.heap)(he:k=n1\/(k<n1/\k=n2)\/(k<n1/\k<n2/\k=n3)) (q:∀h' e tk,zAO->(∃o,h'.get? e=some o/\o.cls=.type "StopIteration")->E (.ref e) Fr):wpAny AS A Pi Q E s:=by
 obtain⟨⟨c5,c6,c7,c7'⟩,⟨c8,c9,c9'⟩,⟨d1,d2,d3,d3'⟩,⟨d4,d5,d6,d6'⟩,e4,e5,e6,e6'⟩:=ap;show wpAny _ _ zGc _ _ _;refine Wb zM;show wpAny _ _ zGd _ _ _;refine Wb lc;show wpAny _ _ Nk _ _ _;unfold Builtin.SmallTypes.ownedTupleIsFree;refine Wb zGD;simp only[if_true];refine Wb (bH (Wb (ag hz rfl (x:=.ref TO) rfl (Wb (au hz At fun g1 z1 U=>Wb ?_)))));have U:Heap.SameBut z s.heap g1:=U;have z1:IsZip g1 z TI TO .ellipsis:=z1;simp only[List.zipIdx_cons,List.zipIdx_nil,List.forIn_cons,List.forIn_nil];refine Wb zJ;show wpAny _ _ Re _ _ _;have Z:=D1.frame _ _ _ t1 (Am d1 U);rcases he with he|⟨he1,he2⟩|⟨he1,he2,he3⟩
 .rw[he]at Z;refine Wb (D1.done _ _ _ Z fun g2 e g R=>?_);obtain⟨o,R,hc⟩:=R;have z2:IsZip g2 z TI TO .ellipsis:=g _ _ c8.symm z1;have ez:e≠z:=fun y=>by subst y;rw[z2]at R;cases R;simp at hc
  exact au z2 At fun g3 _ T=>q g3 e _ (fun c o e1 e2 e3 e4 e5 y=>(T.2 _ e1).trans (g _ _ e3 zBW)) ⟨o,(T.2 _ ez).trans R,hc⟩
 .refine Wb zEl;have g:Heap.SameBut i1 g1 g2:=g;have o2:Fc g2 TO a b c:=(g.2 _ c6).trans ((U.2 _ c5).trans hO);refine Wb (af o2 rfl (Wb (put3 o2 fun g3 o3 T=>Wb zGT)));have T:Heap.SameBut TO g2 g3:=T;have Y:S2 k g3:=D2.frame _ _ _ (D2.frame _ _ _ zDx (Am d6 g)) (Am d5 T);rw[he2]at Y;refine Wb zJ;show wpAny _ _ OR _ _ _;refine Wb (D2.done _ _ _ Y fun g4 e m4 R=>?_);obtain⟨o,R,hc⟩:=R;have z4:IsZip g4 z TI TO .ellipsis:=m4 _ _ c9.symm zEz;have ez:e≠z:=fun y=>by subst y;rw[z4]at R;cases R;simp at hc
  exact au z4 At fun g5 _ m5=>q g5 e _ (fun c o e1 e2 e3 e4 e5 y=>(m5.2 _ e1).trans (m4 _ _ e4 ((T.2 _ e2).trans ((g.2 _ e3).trans zBW)))) ⟨o,(m5.2 _ ez).trans R,hc⟩
 .refine Wb zEl;have g:Heap.SameBut i1 g1 g2:=g;have o2:Fc g2 TO a b c:=(g.2 _ c6).trans ((U.2 _ c5).trans hO);refine Wb (af o2 rfl (Wb (put3 o2 fun g3 o3 T=>Wb zGT)));have T:Heap.SameBut TO g2 g3:=T;have o3:Fc g3 TO x b c:=o3;have Y:S2 k g3:=D2.frame _ _ _ (D2.frame _ _ _ zDx (Am d6 g)) (Am d5 T);refine Wb zJ;show wpAny _ _ OR _ _ _;refine Wb (D2.item k _ _ _ he2 Y fun y g4 tk4 p2 u2 m4=>aA ?_);have m4:Heap.SameBut i2 g3 g4:=m4;have o4:Fc g4 TO x b c:=(m4.2 _ c7).trans o3;refine Wb (af o4 rfl (Wb (put3 o4 fun g5 o5 m5=>Wb zGT)));have m5:Heap.SameBut TO g4 g5:=m5;have t3':S3 k g5:=D3.frame _ _ _ (D3.frame _ _ _ (D3.frame _ _ _ (D3.frame _ _ _ (D3.frame _ _ _ t3 (Am e4 U)) (Am e6 g)) (Am e5 T)) (Am e6' m4)) (Am e5 m5);rw[he3]at t3';refine Wb zJ;show wpAny _ _ (Builtin.SmallTypes.nextOf (.ref i3)>>=_) _ _ _;refine Wb (D3.done _ _ _ t3' fun g6 e m6 R=>?_);obtain⟨o,R,hc⟩:=R;have z6:IsZip g6 z TI TO .ellipsis:=m6 _ _ c9'.symm ((m5.2 _ c5.symm).trans ((m4.2 _ c9.symm).trans zEz));have ez:e≠z:=fun y=>by subst y;rw[z6]at R;cases R;simp at hc
  exact au z6 At fun g7 _ m7=>q g7 e _ (fun c o e1 e2 e3 e4 e5 y=>(m7.2 _ e1).trans (m6 _ _ e5 ((m5.2 _ e2).trans ((m4.2 _ e4).trans ((T.2 _ e2).trans ((g.2 _ e3).trans zBW)))))) ⟨o,(m7.2 _ ez).trans R,hc⟩
def de{Q:RC}(D1:Sv)(D2:Sz)(D3:Draws prog w A.in1 i3 f3 n3 P3 S3)(ap:zBA)(hz:ST)(hI:wh)(hO:zFS) (t1:wp)(U:wv)(t3:S3 k s.heap)(l1:k<n1)(l2:k<n2)(l3:k<n3) (q:∀x y u h' tk,P1 k x->P2 k y->P3 k u->IsZip h' z TI TO zBr->Fc h' TO x y u->S1 RJ h'->S2 RJ h'->S3 RJ h'->Fc h' s.heap.objs.size x y u->h'.objs.size=s.heap.objs.size+1 ->(∀c o,c≠z->c≠TO->c≠i1->c≠i2->c≠i3->s.heap.get? c=some o->h'.get? c=some o)->Q (some EK) Fr):wpAny AS A zGp Q E s:=by
 have T:s.TypeIs ON "zip" := ⟨_,hz,rfl⟩;unfold pyNext;exact Wb (wpAny_attempt (ak (name:=Str.ofString "__next__") T bI
  (ae bI T F.entry_zip_next (uq D1 D2 D3 ap hz hI hO t1 U t3 l1 l2 l3 fun x y u h' tk r1 r2 r3 r4 r5 r6 r7 Z Y R g=>aA (q x y u h' tk r1 r2 r3 r4 r5 r6 r7 Z Y R g)) zW)))
def fK{Q:RC}(D1:Sv)(D2:Sz)(D3:Draws prog w A.in1 i3 f3 n3 P3 S3)(ap:zBA)(hz:ST)(hI:wh)(hO:zFS) (t1:wp)(U:wv)(t3:S3 k s.heap)(Y:k=n1\/(k<n1/\k=n2)\/(k<n1/\k<n2/\k=n3)) (q:∀h' tk,zAO->Q none Fr):wpAny AS A zGp Q E s:=by
 have R:s.TypeIs ON "zip" := ⟨_,hz,rfl⟩;unfold pyNext;refine Wb (wpAny_attempt (ak (name:=Str.ofString "__next__") R bI
  (ae bI R F.entry_zip_next (tG D1 D2 D3 ap hz hI hO t1 U t3 Y fun h' e tk kp g=>?_) zW)))
 obtain⟨o,g,Z⟩:=g;exact Wb zf
abbrev QS(a b c:VL):Obj:={ cls:=.type "tuple",data:=.seq #[a,b,c]}
def pY(b1 b2 b3:Bool)(h:Heap)(g R T:AD):Heap :=
 (((((h.push (BQ b1 g)).push zAw).push (BQ b3 T)).push yj).push zAk).push
  { cls:=.type "zip",data:=.fields #[.none,.bool false,.bool false,.ref (((h.push (BQ b1 g)).push zAw).push (BQ b3 T)).objs.size,.ref ((((h.push (BQ b1 g)).push zAw).push (BQ b3 T)).push yj).objs.size]}
def jE(b1 b2 b3:Bool)(T Y Z:AD)(xs ys zs:yN):Meets (Builtin.«zip.__new__» ⟨[.type "zip",.ref T,.ref Y,.ref Z],[]⟩) (fun _ R s=>Sq b1 s.heap T xs/\Sq b2 s.heap Y ys/\Sq b3 s.heap Z zs /\R (.ok (.ret (.ref (((((s.heap.push bn).push zDX).push (BQ b3 Z)).push (QS EK (.ref (s.heap.push bn).objs.size) (.ref ((s.heap.push bn).push zDX).objs.size))).push zAk).objs.size))) {s with heap:=pY b1 b2 b3 s.heap T Y Z}) :=
 .of_wp fun prog w A R s h=>by
  obtain⟨U,g,d,tk,os⟩:=s;obtain⟨h1,h2,h3,h⟩:=h;have hsub:=sub_zip;have i1:∀(A:Ki) (E:ZB) (Q:ZB),Q (.ref U.objs.size) ⟨U.push bn,g,d,tk,os⟩->wpAny AS A (pyIter (.ref T)) Q E ⟨U,g,d,tk,os⟩:=fun A E Q q=>NT (s:=⟨U,g,d,tk,os⟩) h1 q;have i2:∀(A:Ki) (E:ZB) (Q:ZB),Q (.ref (U.push bn).objs.size) ⟨(U.push bn).push zDX,g,d,tk,os⟩->wpAny AS A (pyIter (.ref Y)) Q E ⟨U.push bn,g,d,tk,os⟩:=fun A E Q q=>NT (s:=⟨U.push bn,g,d,tk,os⟩) (h2.push _) q;have i3:∀(A:Ki) (E:ZB) (Q:ZB),Q (.ref ((U.push bn).push zDX).objs.size) ⟨((U.push bn).push zDX).push (BQ b3 Z),g,d,tk,os⟩->wpAny AS A (pyIter (.ref Z)) Q E ⟨(U.push bn).push zDX,g,d,tk,os⟩:=fun A E Q q=>NT (s:=⟨(U.push bn).push zDX,g,d,tk,os⟩) ((h3.push _).push _) q
  wp_walk using i1,i2,i3
  exact⟨_,rfl,h⟩
def oD(a b c:VL):checkTypeCall "zip" ⟨[a,b,c],[]⟩=pure ():=by kernel_rfl
def nc(a b c:VL):checkBuiltinCall "zip.__new__" ⟨[.type "zip",a,b,c],[]⟩=pure ():=by kernel_rfl
def mr(a b c d:VL):argsOk "object.__init__" ⟨[a,b,c,d],[]⟩:=by
 unfold argsOk;rw[signature?_of (n:=['_','_','t','i','n','i','_','_']) (o:=['t','c','e','j','b','o']) IP F.owner_object]
 kernel_rfl
def hJ{b1 b2 b3:Bool}{U T R:AD}{xs ys zs:yN}{Q:yO}(h1:Sq b1 s.heap U xs)(h2:Sq b2 s.heap T ys)(h3:Sq b3 s.heap R zs) (h:∀h',IsZip h' (s.heap.objs.size+5) On WP .none->Fc h' On EK zGg (.ref Of)->Fc h' WP .none .none .none ->JR b1 h' s.heap.objs.size U 0->JR b2 h' Fk T 0->JR b3 h' Of R 0->(∀c o,s.heap.get? c=some o->h'.get? c=some o)->Q (.ref (s.heap.objs.size+5)) M0):wpAny AS A (call (.type "zip") [.ref U,.ref T,.ref R]) Q E s:=by
 refine callType_new F.called_zip AT (oD _ _ _) (nc _ _ _) (fun obj=>mr obj _ _ _) F.entry_zip_new (jE b1 b2 b3 U T R xs ys zs) ⟨h1,h2,h3,?_⟩;have up:∀(g:Heap) (o:Obj) (c:AD) (u:Obj),g.get? c=some u->(g.push o).get? c=some u:=fun g o c u e=>aE _ e;have n1:(s.heap.push (BQ b1 U)).objs.size=s.heap.objs.size+1:=Heap.size_push ..;have a0:(s.heap.push (BQ b1 U)).get? s.heap.objs.size=some (BQ b1 U):=aN _ (by cases b1<;>rfl);generalize hg1:s.heap.push (BQ b1 U)=g1 at n1 a0;have k1:∀c o,s.heap.get? c=some o->g1.get? c=some o:=fun c o e=>by rw[<-hg1];exact up _ _ _ _ e
 have n2:(g1.push (BQ b2 T)).objs.size=s.heap.objs.size+2:=by rw[Heap.size_push,n1]
 have a1:(g1.push (BQ b2 T)).get? Fk=some (BQ b2 T):=by rw[<-n1];exact aN _ (by cases b2<;>rfl)
 generalize hg2:g1.push (BQ b2 T)=g2 at n2 a1;have k2:∀c o,g1.get? c=some o->g2.get? c=some o:=fun c o e=>by rw[<-hg2];exact up _ _ _ _ e
 have n3:(g2.push (BQ b3 R)).objs.size=s.heap.objs.size+3:=by rw[Heap.size_push,n2]
 have a2:(g2.push (BQ b3 R)).get? Of=some (BQ b3 R):=by rw[<-n2];exact aN _ (by cases b3<;>rfl)
 generalize hg3:g2.push (BQ b3 R)=g3 at n3 a2;have k3:∀c o,g2.get? c=some o->g3.get? c=some o:=fun c o e=>by rw[<-hg3];exact up _ _ _ _ e
 have n4:(g3.push (QS EK zGg (.ref Of))).objs.size=s.heap.objs.size+4:=by rw[Heap.size_push,n3]
 have a3:Fc (g3.push (QS EK zGg (.ref Of))) On EK zGg (.ref Of):=by rw[<-n3];exact aN _ rfl
 generalize Z:g3.push (QS EK zGg (.ref Of))=g4 at n4 a3;have k4:∀c o,g3.get? c=some o->g4.get? c=some o:=fun c o e=>by rw[<-Z];exact up _ _ _ _ e
 have n5:(g4.push zAk).objs.size=s.heap.objs.size+5:=by rw[Heap.size_push,n4]
 have a4:Fc (g4.push zAk) WP .none .none .none:=by rw[<-n4];exact aN _ rfl
 generalize Y:g4.push zAk=g5 at n5 a4;have k5:∀c o,g4.get? c=some o->g5.get? c=some o:=fun c o e=>by rw[<-Y];exact up _ _ _ _ e
 have ez:pY b1 b2 b3 s.heap U T R=g5.push { cls:=.type "zip",data:=.fields #[.none,.bool false,.bool false,.ref On,.ref WP]}:=by
  unfold pY;rw[hg1,hg2,hg3,n1,n2,Z,Y,n3,n4]
 have a5:IsZip (g5.push { cls:=.type "zip",data:=.fields #[.none,.bool false,.bool false,.ref On,.ref WP]}) (s.heap.objs.size+5) On WP .none:=by rw[<-n5];exact aN _ rfl
 rw[n1,n2,Z,Y,n5,ez];show _/\_;have k6:∀c o,g5.get? c=some o->(g5.push { cls:=.type "zip",data:=.fields #[.none,.bool false,.bool false,.ref On,.ref WP]}).get? c=some o:=fun c o e=>up _ _ _ _ e;refine⟨⟨_,a5,rfl⟩,h _ a5 (k6 _ _ (k5 _ _ a3)) (k6 _ _ a4) ?_ ?_ ?_ fun c o e=>k6 _ _ (k5 _ _ (k4 _ _ (k3 _ _ (k2 _ _ (k1 _ _ e)))))⟩
 .have:=k6 _ _ (k5 _ _ (k4 _ _ (k3 _ _ (k2 _ _ a0))));cases b1 with
  |true=>exact⟨_,this,rfl,rfl⟩
  |false=>exact⟨_,this,rfl,rfl⟩
 .have:=k6 _ _ (k5 _ _ (k4 _ _ (k3 _ _ a1)));cases b2 with
  |true=>exact⟨_,this,rfl,rfl⟩
  |false=>exact⟨_,this,rfl,rfl⟩
 .have:=k6 _ _ (k5 _ _ (k4 _ _ a2));cases b3 with
  |true=>exact⟨_,this,rfl,rfl⟩
  |false=>exact⟨_,this,rfl,rfl⟩
end
end ZT
namespace L2
open PySem PySem.Spec PyProof.Rows
def jZ(b1 b2 b3:Bool)(a1 a2 a3:AD):It :=
 ⟨fun i H=>∃xs x ys y g u,Ca b1 H a1 xs/\Ca b2 H a2 ys/\Ca b3 H a3 g/\xs[i]? = some x/\ys[i]? = some y/\g[i]? = some u,
  fun i H v H'=>∃p x y u,v=.ref p/\H p=none/\H'=upd H p (.tup [x,y,u])/\(∀xs,Ca b1 H a1 xs->xs[i]? = some x)/\(∀ys,Ca b2 H a2 ys->ys[i]? = some y)/\∀g,Ca b3 H a3 g->g[i]? = some u,
  fun i H=>∃xs ys g,Ca b1 H a1 xs/\Ca b2 H a2 ys/\Ca b3 H a3 g/\(i=xs.length\/(i<xs.length/\i=ys.length)\/(i<xs.length/\i<ys.length/\i=g.length))⟩
def wW(b1 b2 b3:Bool)(a1 a2 a3 z TI TO i1 i2 i3:AD):Nat->Heap->Prop:=fun i h=>IsZip h z TI TO .none/\ZT.Fc h TI (.ref i1) (.ref i2) (.ref i3)/\(∃a b c,ZT.Fc h TO a b c)/\ZT.JR b1 h i1 a1 i/\ZT.JR b2 h i2 a2 i/\ZT.JR b3 h i3 a3 i
def gc{z TI TO i1 i2 i3 a1 a2 a3:AD}(ne:[z,TI,TO,i1,i2,i3].Nodup)(e1:∀b∈[z,TI,TO,i1,i2,i3],a1≠b)(e2:∀b∈[z,TI,TO,i1,i2,i3],a2≠b)(e3:∀b∈[z,TI,TO,i1,i2,i3],a3≠b):ZT.P5 z TI TO i1 i2 i3 [i1,a1] [i2,a2] [i3,a3]:=by
 simp only[List.nodup_cons,List.mem_cons,List.not_mem_nil,or_false,not_or]at ne;obtain⟨⟨n1,n2,n3,n4,R⟩,⟨n5,n6,n7,n7'⟩,⟨n8,Z,g⟩,⟨Y,U⟩,T,_⟩:=ne;have x:∀ {a:AD},(∀b∈[z,TI,TO,i1,i2,i3],a≠b)->z≠a/\TO≠a/\i1≠a/\i2≠a/\i3≠a:=fun h=>⟨Ne.symm (h z At),Ne.symm (h TO At),Ne.symm (h i1 At),Ne.symm (h i2 At),Ne.symm (h i3 At)⟩;have m:∀ {b i a:AD},b≠i->b≠a->b ∉ [i,a]:=fun h1 h2=>by simp[h1,h2]
 obtain⟨x1,x2,x3,x4,x5⟩:=x e1;obtain⟨y1,y2,y3,y4,y5⟩:=x e2;obtain⟨w1,w2,w3,w4,w5⟩:=x e3;exact⟨⟨Ne.symm n2,n8,Z,g⟩,⟨Ne.symm n3,Ne.symm n4,Ne.symm R⟩,⟨m n3 x1,m n8 x2,m (Ne.symm Y) x4,m (Ne.symm U) x5⟩,⟨m n4 y1,m Z y2,m Y y3,m (Ne.symm T) y5⟩,⟨m R w1,m g w2,m U w3,m T w4⟩⟩
def er{P:FS}{w:IO}{K:Fg}{elts:yV}{x1}{pos:Pos}{b1 b2 b3:Bool}{a1 a2 a3 z TI TO i1 i2 i3:AD}(ne:[z,TI,TO,i1,i2,i3].Nodup) :
  Turn P w K zDs (jZ b1 b2 b3 a1 a2 a3) [z,TI,TO,i1,i2,i3] z (wW b1 b2 b3 a1 a2 a3 z TI TO i1 i2 i3) where
 mem:=by simp
 obj:=fun i h st b hb=>by
  obtain⟨h1,h2,⟨u,v,w,h3⟩,h4,h5,h6⟩:=st;have hb:b=z\/b=TI\/b=TO\/b=i1\/b=i2\/b=i3:=by simpa using hb
  rcases hb with rfl|rfl|rfl|rfl|rfl|rfl
  .exact⟨_,h1,fun v y=>by cases y⟩
  .exact⟨_,h2,fun v y=>by cases y⟩
  .exact⟨_,h3,fun v y=>by cases y⟩
  .exact Gz h4
  .exact Gz h5
  .exact Gz h6
 keep:=fun i h h' st k=>by
  obtain⟨h1,h2,⟨u,v,w,h3⟩,h4,h5,h6⟩:=st;exact⟨k z At _ h1,k TI At _ h2,⟨u,v,w,k TO At _ h3⟩,Fv h4 fun o e=>k i1 At o e,Fv h5 fun o e=>k i2 At o e,Fv h6 fun o e=>k i3 At o e⟩
 item:=by
  intro X hP hw hK hc i pins s σ H E I hf st hg;subst hP hw hK;obtain⟨xs,x,ys,y,zs,t,q1,q2,q3,hx,hy,ht⟩:=hg;obtain⟨us,rv1,p1⟩:=q1.raw I;obtain⟨vs,rv2,p2⟩:=q2.raw I;obtain⟨ws,rv3,p3⟩:=q3.raw I;obtain⟨u,hu,ru⟩:=rv1.get hx;obtain⟨v,hv,rv⟩:=rv2.get hy;obtain⟨o3,hw,rw'⟩:=rv3.get ht;obtain⟨t1,t2,⟨ta,tb,tc,t3⟩,t4,t5,t6⟩:=st;have e1:∀b∈[z,TI,TO,i1,i2,i3],a1≠b:=fun b hb=>q1.none (hf b hb).1;have e2:∀b∈[z,TI,TO,i1,i2,i3],a2≠b:=fun b hb=>q2.none (hf b hb).1;have e3:∀b∈[z,TI,TO,i1,i2,i3],a3≠b:=fun b hb=>q3.none (hf b hb).1;refine ZT.de zFd zFe zGZ (gc ne e1 e2 e3) t1 t2 t3 ⟨t4,p1⟩ ⟨t5,p2⟩ ⟨t6,p3⟩ (aD.mp hu).1 (aD.mp hv).1 (aD.mp hw).1
   fun u' v' w' h' tk r1 r2 r2' r3 r4 r5 r6 r6' r7 r8 r9=>⟨_,rfl,wpAny_letOwnedTupleGo_zip (s:={s with heap:=h',toks:=tk}) r3 fun h'' z'' sb=>?_⟩
  rw[hu]at r1;rw[hv]at r2;rw[hw]at r2';cases r1;cases r2;cases r2';have ne':=ne;simp only[List.nodup_cons,List.mem_cons,List.not_mem_nil,or_false,not_or]at ne';obtain⟨⟨n1,n2,n3,n4,n4'⟩,⟨n5,n6,n7,n7'⟩,⟨n8,n9,n9'⟩,⟨n10,n11⟩,n12,_⟩:=ne';have keep:∀b o,b ∉ [z,TI,TO,i1,i2,i3]->s.heap.get? b=some o->h''.get? b=some o:=fun b o hb q=>by
   simp only[List.mem_cons,List.not_mem_nil,or_false,not_or]at hb;exact(sb.2 b hb.1).trans (r9 b o hb.1 hb.2.2.1 hb.2.2.2.1 hb.2.2.2.2.1 hb.2.2.2.2.2 q)
  have lt:∀b∈[z,TI,TO,i1,i2,i3],b<s.heap.objs.size:=fun b hb=>by
   have hb:b=z\/b=TI\/b=TO\/b=i1\/b=i2\/b=i3:=by simpa using hb
   rcases hb with rfl|rfl|rfl|rfl|rfl|rfl
   .exact aF t1
   .exact aF t2
   .exact aF t3
   .obtain⟨o,e,_⟩:=Gz t4;exact aF e
   .obtain⟨o,e,_⟩:=Gz t5;exact aF e
   .obtain⟨o,e,_⟩:=Gz t6;exact aF e
  have hTn:H s.heap.objs.size=none:=I.A5.fresh RW;have hT'':h''.get? s.heap.objs.size=some { cls:=.type "tuple",data:=.seq #[u,v,o3]}:=(sb.2 _ (aj (lt z At))).trans r7;have neT:∀b o,s.heap.get? b=some o->b≠s.heap.objs.size:=fun b o q=>aG (aF q);have GX:∀b o,H b=some o->b ∉ [z,TI,TO,i1,i2,i3]:=fun b o q hb=>by rw[(hf b hb).1]at q;cases q
  refine⟨.ref s.heap.objs.size,upd H s.heap.objs.size (.tup [x,y,t]),?_,rfl,⟨_,x,y,t,rfl,hTn,rfl,fun zs hz=>by rw[hz.inj q1];exact hx,fun zs hz=>by rw[hz.inj q2];exact hy,fun zs hz=>by rw[hz.inj q3];exact ht⟩,⟨z'',?_,⟨u,v,o3,?_⟩,?_,?_,?_⟩,fun b hb=>?_⟩
  .show Inv X pins σ _ zET;refine I.step (h':=h'') (g':=s.gens) (d':=s.drawn) (t':=tk) (ch:=[z,TI,TO,i1,i2,i3]) zCs zN io
    (fun b o _ q n=>by rw[AL (neT b o q)];exact n) yu wE s0
    (fun b ps q=>⟨#[],by rw[AL (Aa q hTn),q];simp⟩) zc zAL zCI I.bare
   .obtain⟨_,f1,_,f3,f4,f5⟩:=hf b hb;exact⟨f3,f1,f4,f5⟩
   .obtain⟨o,es,ep,ho,r⟩:=hm;exact⟨o,es,ep,keep _ o zBI ho,r⟩
   .by_cases hb:b=s.heap.objs.size
    .subst hb;rw[AO]at q;cases q;exact⟨show 3<=sizeLine by decide,[u,v,o3],.cons ru (.cons rv (.cons rw' .nil)),_,hT'',rfl,_,rfl⟩
    .rw[AL hb]at q;refine(I.A5 b o q).Jy zAc yh fun c ys r=>by rw[AL (Aa r hTn)];exact r
     rcases hc with rfl|hc
     .exact GX _ _ q
     .exact GX _ _ hc
  .exact(sb.2 _ (Ne.symm n1)).trans (r9 _ _ (Ne.symm n1) n5 n6 n7 n7' t2)
  .exact(sb.2 _ (Ne.symm n2)).trans r4
  .exact Fv r5.1 fun o e=>(sb.2 _ (Ne.symm n3)).trans e
  .exact Fv r6.1 fun o e=>(sb.2 _ (Ne.symm n4)).trans e
  .exact Fv r6'.1 fun o e=>(sb.2 _ (Ne.symm n4')).trans e
  .rw[AL (aG (lt b hb))];exact(hf b hb).1
 done:=by
  intro X hP hw hK hc i pins s σ H E I hf st hg;subst hP hw hK;obtain⟨xs,ys,zs,q1,q2,q3,he⟩:=hg;obtain⟨us,rv1,p1⟩:=q1.raw I;obtain⟨vs,rv2,p2⟩:=q2.raw I;obtain⟨ws,rv3,p3⟩:=q3.raw I;obtain⟨t1,t2,⟨ta,tb,tc,t3⟩,t4,t5,t6⟩:=st;have e1:∀b∈[z,TI,TO,i1,i2,i3],a1≠b:=fun b hb=>q1.none (hf b hb).1;have e2:∀b∈[z,TI,TO,i1,i2,i3],a2≠b:=fun b hb=>q2.none (hf b hb).1;have e3:∀b∈[z,TI,TO,i1,i2,i3],a3≠b:=fun b hb=>q3.none (hf b hb).1;have he':i=us.length\/(i<us.length/\i=vs.length)\/(i<us.length/\i<vs.length/\i=ws.length):=by rw[<-rv1.length,<-rv2.length,<-rv3.length];exact he
  refine ZT.fK zFd zFe zGZ (gc ne e1 e2 e3) t1 t2 t3 ⟨t4,p1⟩ ⟨t5,p2⟩ ⟨t6,p3⟩ he' fun h' tk kp=>⟨rfl,?_⟩;have keep:∀b o,b ∉ [z,TI,TO,i1,i2,i3]->s.heap.get? b=some o->h'.get? b=some o:=fun b o hb q=>by
   simp only[List.mem_cons,List.not_mem_nil,or_false,not_or]at hb;exact kp b o hb.1 hb.2.2.1 hb.2.2.2.1 hb.2.2.2.2.1 hb.2.2.2.2.2 q
  have GX:∀b o,H b=some o->b ∉ [z,TI,TO,i1,i2,i3]:=fun b o q hb=>by rw[(hf b hb).1]at q;cases q
  show Inv X pins σ _ zEY;refine I.step (h':=h') (g':=s.gens) (d':=s.drawn) (t':=tk) (ch:=[z,TI,TO,i1,i2,i3]) zCs zN io
    (fun b o _ q n=>n) yu (fun b ys q=>q) (fun b o u q=>q)
    (fun b ps q=>⟨#[],by rw[q];simp⟩) zc zAL zCI I.bare
  .obtain⟨_,f1,_,f3,f4,f5⟩:=hf b hb;exact⟨f3,f1,f4,f5⟩
  .obtain⟨o,es,ep,ho,r⟩:=hm;exact⟨o,es,ep,keep _ o zBI ho,r⟩
  .refine(I.A5 b o q).Jy zAc (fun c r=>r) fun c ys r=>r;rcases hc with rfl|hc
   .exact GX _ _ q
   .exact GX _ _ hc
 self:=fun _ _ _ _ _ st h=>wpAny_pyIter_zip st.1 h
def ui(U:TA):TI:=fun σ H R=>U σ H fun vs g=>∃(b1 b2 b3:Bool) (a1 a2 a3:AD),vs=[.ref a1,.ref a2,.ref a3]/\(∃xs,Ca b1 g a1 xs)/\(∃ys,Ca b2 g a2 ys)/\(∃T,Ca b3 g a3 T)/\R (jZ b1 b2 b3 a1 a2 a3) g
def nY{X:Cx}{elts:yV}{x1}{T:Pos}{a b c:Expr}{ta:TA}{p pos:Pos}(hg:Gl X "zip")(hm:zBR)(ha:PA X [a,b,c] ta)(hs:starEach [a,b,c] X.env=[Nr,MN,zDy]:=by rfl)(Y:starEach [b,c] X.env=[MN,zDy]:=by rfl):PI X (.Tuple elts x1 T) (.Call (.Name "zip" p) [a,b,c] [] pos) (ui ta):=by
 intro pins s σ H R I h;refine Call_ (Gn I hg hm boot_zip (av (BW PH fun us s1 ⟨vs,H1,g,r1,q1⟩=>?_) (by rw[hs,Y]) (by rw[Y];rfl)));obtain⟨b1,b2,b3,l1,l2,l3,e,⟨xs,h1⟩,⟨ys,h2⟩,⟨zs,h3⟩,q⟩:=q1;subst e;cases r1 with
 |cons r U=>
  cases U with
  |cons r' U=>
   cases U with
   |cons r'' U=>
    cases U;cases r;cases r';cases r'';obtain⟨us,_,p1⟩:=h1.raw g;obtain⟨vs,_,p2⟩:=h2.raw g;obtain⟨ws,_,p3⟩:=h3.raw g;refine ZT.hJ p1 p2 p3 fun h' z1 z2 z3 z4 z5 z6 hk=>wpAny_pyIter_zip z1 ?_;have I2:Inv X pins σ H1 zCf:=g.kept (t':=s1.toks) hk;refine⟨_,[s1.heap.objs.size+5,s1.heap.objs.size+3,s1.heap.objs.size+4,s1.heap.objs.size,s1.heap.objs.size+1,s1.heap.objs.size+2],_,_,H1,rfl,I2,er ?_,⟨z1,z2,⟨_,_,_,z3⟩,z4,z5,z6⟩,fun b hb=>?_,q⟩
    .simp
    have Z:s1.heap.objs.size<=b:=by
     have hb2:b=s1.heap.objs.size+5\/b=s1.heap.objs.size+3\/b=s1.heap.objs.size+4\/b=s1.heap.objs.size\/b=s1.heap.objs.size+1\/b=s1.heap.objs.size+2:=by simpa using hb
     rcases hb2 with h|h|h|h|h|h<;>rw[h]<;>first|exact aJ _|exact Nat.le_add_right _ _
    exact g.Rp Z (g.A5.fresh Z)
def Mb(xs ys zs:yM):yM:=(xs.zip (ys.zip zs)).map fun q=>.tuple [q.1,q.2.1,q.2.2]
def Vp{xs ys zs:yM}{i:Nat}{d:PD}(h:(Mb xs ys zs)[i]? = some d):∃x y z,xs[i]? = some x/\ys[i]? = some y/\zs[i]? = some z/\d=.tuple [x,y,z]:=by
 unfold Mb at h;rw[List.getElem?_map]at h;obtain⟨q,Y,rfl⟩:=aC.mp h;obtain⟨U,T⟩:=List.getElem?_zip_eq_some.mp Y;obtain⟨R,g⟩:=List.getElem?_zip_eq_some.mp T;exact⟨q.1,q.2.1,q.2.2,U,R,g,rfl⟩
def mv{Gc H:Hp}{p:AD}{x y z:PD}{u v w:V}(T:AM Gc H)(R:H p=none)(d1:Du Gc x u)(Z:Du Gc y v)(Y:Du Gc z w):∃Gc',AM Gc Gc'/\Nw Gc H Gc'/\AM Gc' (upd H p (.tup [u,v,w]))/\AM H (upd H p (.tup [u,v,w]))/\Du Gc' (.tuple [x,y,z]) xT:=by
 have U:Gc p=none:=by
  cases q:Gc p with
  |none=>rfl
  |some o=>rw[T _ _ q]at R;cases R
 have e:AM Gc (upd Gc p (.tup [u,v,w])):=Ah U _;refine⟨upd Gc p (.tup [u,v,w]),e,fun b o h=>?_,fun b o h=>?_,Ah R _,?_⟩
 .by_cases g:b=p
  .subst g;exact .inr (.inl R)
  .rw[AL g]at h;exact .inl h
 .by_cases g:b=p
  .subst g;rw[AO]at h ⊢;exact h
  .rw[AL g]at h ⊢;exact T _ _ h
 .rw[Du];exact⟨p,_,rfl,AO,.cons (d1.same e) (.cons (Z.same e) (.cons (Y.same e) .nil))⟩
def lj{G:Hp}{b1 b2 b3:Bool}{a1 a2 a3:AD}{us vs ws:yb}{xs ys zs:yM}(h1:G a1=some (if b1 then .tup us else .lst us))(h2:G a2=some (if b2 then .tup vs else .lst vs))(h3:G a3=some (if b3 then .tup ws else .lst ws))(d1:Ao G xs us)(d2:Ao G ys vs)(d3:Ao G zs ws):MM (jZ b1 b2 b3 a1 a2 a3) (Mb xs ys zs) G where
 stop:=fun H e=>by
  have k1:=e _ _ h1;have k2:=e _ _ h2;have k3:=e _ _ h3;refine⟨us,vs,ws,?_,?_,?_,?_⟩
  .cases b1<;>simpa[Ca]using k1
  .cases b2<;>simpa[Ca]using k2
  .cases b3<;>simpa[Ca]using k3
  .rw[d1.len,d2.len,d3.len];simp[Mb];lia
 go:=fun i x H hx e=>by
  obtain⟨x1,x2,x3,k1,k2,k3,rfl⟩:=Vp hx;obtain⟨v1,j1,_⟩:=d1.get k1;obtain⟨v2,j2,_⟩:=d2.get k2;obtain⟨v3,j3,_⟩:=d3.get k3;have m1:=e _ _ h1;have m2:=e _ _ h2;have m3:=e _ _ h3;refine⟨us,v1,vs,v2,ws,v3,?_,?_,?_,j1,j2,j3⟩
  .cases b1<;>simpa[Ca]using m1
  .cases b2<;>simpa[Ca]using m2
  .cases b3<;>simpa[Ca]using m3
 GW:=fun i x H v H' hx e y Gc e1 e2=>by
  obtain⟨x1,x2,x3,k1,k2,k3,rfl⟩:=Vp hx;obtain⟨p,v1,v2,v3,rfl,hp,rfl,y1,y2,y3⟩:=y;have m1:=e _ _ h1;have m2:=e _ _ h2;have m3:=e _ _ h3;have z1:=y1 us (by cases b1<;>simpa[Ca]using m1);have z2:=y2 vs (by cases b2<;>simpa[Ca]using m2);have z3:=y3 ws (by cases b3<;>simpa[Ca]using m3);obtain⟨w1,n1,n2⟩:=d1.back z1;obtain⟨w2,n3,n4⟩:=d2.back z2;obtain⟨w3,n5,n6⟩:=d3.back z3;rw[k1]at n1;cases n1;rw[k2]at n3;cases n3;rw[k3]at n5;cases n5;exact mv e2 hp (n2.same e1) (n4.same e1) (n6.same e1)
def Ug:List PD->Option zGV
 |[x,y,z]=>(Fz x).bind fun xs=>(Fz y).bind fun ys=>(Fz z).map fun g=>Mb xs ys g
 |_=>none
section
variable{X:Cx}{a b c:Expr}{fs:yJ}{pos p:Pos}
def mh{elts:yV}{x1}{g:Pos}(hg:Gl X "zip")(hm:zBR)(ha:DA X [a,b,c] fs)(hs:starEach [a,b,c] X.env=[Nr,MN,zDy]:=by rfl)(U:starEach [b,c] X.env=[MN,zDy]:=by rfl):DI X zEt (.Call (.Name "zip" p) [a,b,c] [] pos) (fun δ=>(fs δ).bind Ug):=by
 obtain⟨t,p,k⟩:=ha;refine⟨_,nY hg hm p hs U,fun δ xs h G0 H0 G H σ ts R R0 q=>?_⟩;obtain⟨x,h1,T⟩:=aB.mp h;refine k δ _ h1 G0 H0 G H σ ts _ R0 fun vs G' H' R' hv=>?_;obtain⟨d,R2⟩:=R'.args hv;unfold Ug at T;split at T
 .obtain⟨xs1,h3,h4⟩:=aB.mp T;obtain⟨ys1,h5,h6⟩:=aB.mp h4;obtain⟨zs1,h7,rfl⟩:=aC.mp h6;obtain⟨v1,r1,rfl,du,d⟩:=d.un;obtain⟨v2,r2,rfl,dv,d⟩:=d.un;obtain⟨w,rfl,dw⟩:=d.Ke;obtain⟨b1,a1,us,rfl,Z,n2⟩:=Io du h3;obtain⟨b2,a2,vs,rfl,m1,m2⟩:=Io dv h5;obtain⟨b3,a3,ws,rfl,Y,o2⟩:=Io dw h7;have s1:=R2.ins _ _ Z;have s2:=R2.ins _ _ m1;have s3:=R2.ins _ _ Y;exact⟨b1,b2,b3,a1,a2,a3,rfl,⟨us,by cases b1<;>simpa[Ca]using s1⟩,⟨vs,by cases b2<;>simpa[Ca]using s2⟩,⟨ws,by cases b3<;>simpa[Ca]using s3⟩,q _ _ _ R2 (lj Z m1 Y n2 m2 o2)⟩
 .cases T
def YZ(i j l:Nat)(y:PD)(δ:Dv):Option Dv:=match y with
 |.tuple [u,v,w]=>some (((δ.set i (.d u)).set j (.d v)).set l (.d w))
 |_=>none
def iY{x y z:Str}{i j l:Nat}{px py Z:Pos}{k1}(h:PG X zFJ (cU X.K 3 (Mf (F0 i) (Mf (F0 j) (Mf (F0 l) cV))))):DG X zFJ (YZ i j l):=by
 refine⟨_,h,fun δ z δ' e G0 H0 G H σ v Q R k=>?_⟩;unfold YZ at e;split at e
 .cases e;have du:=R.B4 _ GM;rw[Du]at du;obtain⟨a,ys,rfl,n1,g⟩:=du;obtain⟨Y,r1,rfl,m1,g⟩:=g.un;obtain⟨U,r2,rfl,m2,g⟩:=g.un;obtain⟨T,rfl,m3⟩:=g.Ke;refine⟨a,[Y,U,T],rfl,BL.of (R.ins _ _ n1),rfl,Y,[U,T],rfl,U,[T],rfl,T,[],rfl,rfl,?_⟩;exact k _ _ _ ((((R.drop.put m3).put m2).put m1).Hw.Hw.Hw)
 .cases e
end
end L2
namespace L2
open PySem PySem.Spec PyProof.Rows
def uO:V->List V->Hp->VK->Prop:=fun x xs H Q=>∃(p:AD) (ys:Jh) (row t:Tr) (v:V),x=.ref p/\xs=[v]/\H p=some Ix/\Ts H row ys/\row.deep<=60/\Tv H t v/\t∈row.bs/\Q (.int (row.bs.idxOf t:Nat)) H
def gk:∀ {l:y8} {t:Tr} {m:Nat},m<l.idxOf t->l[m]?≠some t
 |[],_,_,h=>by simp at h
 |x::l,t,m,h=>by
  rw[List.idxOf_cons]at h;by_cases z:x=t
  .rw[show(x==t)=true by simpa using z]at h;exact absurd h zCr
  .rw[show(x==t)=false by simpa using z]at h;cases m with
   |zero=>simpa using z
   |succ m=>simpa using gk (l:=l) (t:=t) (m:=m) zCP
section
variable{X:Cx}
def gI{pins:DH}{σ:St}{H:Hp}{s:SD}(I:By){t:Tr}{v:V}{u:VL}(h:Tv H t v)(r:RelV v u):∃a g,u=.ref a/\s.heap.IsTuple a g.toArray/\TH.Vs s.heap t g:=by
 obtain⟨a,ys,rfl,U,T⟩:=h;obtain⟨g,R,p,_⟩:=I.tuple zEs;exact⟨a,g,r,p,T.vs I R⟩
open Classical in
def dP(hu:Ih):qv X "list.index" uO:=by
 intro pins s σ H x xs v us Q I rx rv h;obtain⟨p,ys,row,t,v',rfl,rfl,hp,ht,hd,tv,hm,q⟩:=h;obtain rfl:v=Value.ref p:=rx;obtain⟨u,rfl,ru⟩:=rv.one;obtain⟨g,n,r,ho,hz⟩:=I.lst hp;obtain⟨b,js,rfl,hb,vb⟩:=gI I tv ru;have hl:=r.length;have htl:=ht.len;have at_:∀(i:Nat) (y:VL),g[i]? = some y->∃c a R,row.bs[i]? = some c/\y=.ref a/\s.heap.IsTuple a R.toArray/\TH.Vs s.heap c R:=fun i y Y=>by
  have hi:i<g.length:=(aD.mp Y).1;have T:ys[i]? = some (ys[i]' AC):=aH _;obtain⟨w,U,h2⟩:=r.get T;rw[Y]at U;cases U;obtain⟨c,hc,tc⟩:=ht.get T;obtain⟨a,R,e,h3,Z⟩:=gI I tc h2;exact⟨c,a,R,hc,e,h3,Z⟩
 have key:∀(i:Nat) (y:VL) (c:Tr),g[i]? = some y->row.bs[i]? = some c->decide zCF=decide (c=t):=fun i y c Y hc=>by
  obtain⟨c',a,R,U,rfl,h3,Z⟩:=at_ i y Y;rw[hc]at U;cases U;refine decide_eq_decide.mpr ⟨fun⟨a',zs',e,k1,k2⟩=>?_,fun e=>⟨a,R,rfl,h3,e ▸ Z⟩⟩;cases e;have:R=zs':=by simpa using TH.Iq h3 k1
  subst this;exact TH.Vs.inj Z k2
 have hj:row.bs.idxOf t<row.bs.length:=bT.mpr hm;have hj':row.bs.idxOf t<g.length:=by lia
 refine call_meets PySem.F.slot_list_index ⟨_,ho,rfl⟩ PySem.F.entry_list_index (PySem.F.args_list_index_2 _ _)
  (SeqAt.list_indexAt p g.toArray n none #[] zBU (fun y=>decide zCF) (row.bs.idxOf t) (by simpa using hj') ?_ ?_ ?_) ⟨ho,fun y Y=>?_,⟨.int _,H,I.tok _,⟨_,rfl⟩,q⟩⟩
 .have h63:=NM
  lia
 .show decide _=true;rw[key (row.bs.idxOf t) _ t At (by rw[List.getElem?_eq_getElem hj,List.getElem_idxOf hj])];simp
 .intro m hm' hlt;have hm2:m<g.length:=by simpa using hm'
  have hm3:m<row.bs.length:=by lia
  show decide _=false;rw[key m _ row.bs[m] (by simp[hm2]) (aH hm3)];exact bF fun e=>gk hlt (by rw[List.getElem?_eq_getElem hm3,e])
 .obtain⟨i,hi,rfl⟩:=Array.getElem_of_mem Y;have hi':i<g.length:=by simpa using hi
  have T:g[i]? = some (g.toArray[i]):=by simp[hi']
  obtain⟨c,a,R,U,h2,h3,Z⟩:=at_ i _ T;have hc:c∈row.bs:=aO U;have hcd:=Tr.SI hc;show SeqAt.EqAt _ _ _ _ (decide _);rw[key i _ c T U,h2];exact TH.OV h3 Z hb vb zAd
end
end L2
namespace L2
open PySem PySem.Spec PyProof.Rows
def Ju:∀t:Tr,EG (BS t)=some t
 |.nil=>by rw[BS,EG]
 |.cons b r=>by rw[BS,EG,Ey,Ju b,Ju r];rfl
def Xq(t:Tr):Ey (.tuple (BS t))=some t:=by rw[Ey];exact Ju t
def jy{k l:LT}(h:Cp k=Cp l):k=l:=by
 cases k with
 |none=>cases l with
  |none=>rfl
  |some u=>cases h
 |some t=>cases l with
  |none=>cases h
  |some u=>
   have:=bJ Ey h;rw[Cp,Cp,Xq,Xq]at this;exact this
def keyOf:PD->Option (Option Tr)
 |.none=>some none
 |d=>(Ey d).map some
def MT{d:PD}{k:LT}(h:keyOf d=some k):d=Cp k:=by
 unfold keyOf at h;split at h
 .cases h;rfl
 .obtain⟨t,g,rfl⟩:=aC.mp h;exact Qi g
def N0(k:LT):keyOf (Cp k)=some k:=by
 cases k with
 |none=>rfl
 |some t=>show(Ey (.tuple (BS t))).map some=_;rw[Xq];rfl
abbrev KD:=Option Tr×PD
def NF(kvs:zAC)(k:LT):Bool:=(match k with|none=>true|some t=>decide (t.deep<8))&&kvs.all fun q=>decide (TH.BJ q.1≠TH.BJ k)||decide (q.1=k)
def look(kvs:zAC)(k:LT):yQ:=(kvs.find? fun q=>decide (q.1=k)).map zF
def UY(kvs:zAC)(k:LT)(v:PD):List KD:=if(kvs.find? fun q=>decide (q.1=k)).isSome then kvs.map (fun q=>if q.1=k then(q.1,v) else q) else kvs++[(k,v)]
def Lf:List (PD×PD)->Option (List KD)
 |[]=>some []
 |(k,d)::t=>(keyOf k).bind fun l=>(Lf t).map fun r=>(l,d)::r
def ZE:∀ {es:List (PD×PD)} {kvs:zAC},Lf es=some kvs->es=J8 kvs
 |[],kvs,h=>by cases h;rfl
 |(k,d)::t,kvs,h=>by
  rw[Lf]at h;obtain⟨l,T,R⟩:=aB.mp h;obtain⟨r,g,rfl⟩:=aC.mp R;rw[MT T,ZE g];rfl
def ZU:∀kvs:List KD,Lf (J8 kvs)=some kvs
 |[]=>rfl
 |(k,d)::t=>by
  show(keyOf (Cp k)).bind _=_;rw[N0];show(Lf (J8 t)).map _=_;rw[ZU t];rfl
def PR(G:Hp)(p:KD)(q:KR):Prop:=q.1=p.1/\HU G q.1 q.2.1/\Du G p.2 q.2.2
def Xb{G:Hp}:∀ {kvs:zAC} {r:UF},HW G (J8 kvs) r->PySem.Paired (PR G) kvs r
 |[],r,h=>by
  have h:HW G [] r:=h;rw[HW]at h;subst h;exact .nil
 |(k,d)::t,r,h=>by
  have h:HW G ((Cp k,d)::J8 t) r:=h;rw[HW]at h;obtain⟨q,Y,rfl,U,T,R,g⟩:=h;exact .cons ⟨(jy U).symm,T,R⟩ (Xb g)
def Ww{G:Hp}{kvs:zAC}{r:UF}(h:zt):HW G (J8 kvs) r:=by
 induction h with
 |nil=>show HW G [] [];rw[HW]
 | @cons p q l m a _ g=>
  show HW G ((Cp p.1,p.2)::J8 l) (q::m);rw[HW];exact⟨q,m,rfl,by rw[a.1],a.2.1,a.2.2,g⟩
def nu{G:Hp}{kvs:zAC}{r:UF}(h:zt):r.map Nh=kvs.map Nh:=by
 induction h with
 |nil=>rfl
 |cons a _ g=>rw[List.map_cons,List.map_cons,g,a.1]
def ZW{G:Hp}{kvs:zAC}{r:UF}(h:zt)(k:LT):match kvs.find? NE with
  |some p=>∃q,r.find? NE=some q/\Du G p.2 q.2.2
  |none=>r.find? NE=none:=by
 induction h with
 |nil=>exact rfl
 | @cons p q l m a _ g=>
  rw[List.find?_cons,List.find?_cons,a.1];by_cases z:p.1=k
  .simp only[decide_eq_true z];exact⟨q,rfl,a.2.2⟩
  .simp only[decide_eq_false z];exact g
def qG{G:Hp}{kvs:zAC}{r:UF}{k:LT}{R v:V}{d:PD}(h:zt)(U:HU G k R)(T:Du G d v):PySem.Paired (PR G) (UY kvs k d) (Fu r k R v):=by
 have g:=ZW h k;unfold UY Fu;split at g
 .rename_i p e;obtain⟨q,Y,_⟩:=g;rw[Y,e];simp only[Option.isSome_some,if_true];clear e Y U
  induction h with
  |nil=>exact .nil
  | @cons p q l m a _ Z=>
   rw[List.map_cons,List.map_cons];refine .cons ?_ Z;rw[a.1];by_cases z:p.1=k
   .rw[if_pos z,if_pos z];exact⟨rfl,a.1 ▸ a.2.1,T⟩
   .rw[if_neg z,if_neg z];exact a
 .rename_i e;rw[g,e];exact h.snoc ⟨rfl,U,T⟩
def eN{r:UF}{k:LT}{g v:V}(h:(r.map Nh).Nodup):((Fu r k g v).map Nh).Nodup:=by
 unfold Fu;split
 .have:(r.map (fun q=>if q.1=k then(q.1,q.2.1,v) else q)).map Nh=r.map Nh:=by
   rw[List.map_map];refine aY fun q _=>?_;show(if q.1=k then(q.1,q.2.1,v) else q).1=q.1;split<;>rfl
  rw[this];exact h
 .rename_i hn;rw[List.map_append,List.nodup_append];refine⟨h,by simp,fun a ha b T=>?_⟩;have:b=k:=by simpa using T
  subst this;obtain⟨q,R,rfl⟩:=aQ.mp ha;intro e;have:r.find? (fun q=>decide (q.1=b))=none:=by
   cases z:r.find? (fun q=>decide (q.1=b)) with
   |none=>rfl
   |some w=>rw[z]at hn;exact absurd rfl hn
  exact bj.mp this q R (bg e)
def eV{G:Hp}{k:LT}{v:V}{kvs:zAC}(h:Du G (Cp k) v)(g:NF kvs k=true):HU G k v:=by
 unfold NF at g;rw[Bool.and_eq_true]at g;cases k with
 |none=>rw[Cp,Du]at h;exact h
 |some t=>
  rw[Cp,Du]at h;obtain⟨a,ys,rfl,T,R⟩:=h;exact⟨aP g.1,a,ys,rfl,T,Gk R⟩
def lU{G H:Hp}{a:AD}{kvs:zAC}{r:UF}{k:LT}(e:AM G H)(ha:H a=some (dN a r))(n:(r.map Nh).Nodup)(h:zt)(R:NF kvs k=true):R5 H a r k:=by
 refine⟨ha,fun q g=>?_,n,fun q g T=>?_⟩
 .obtain⟨p,_,U,Z,_⟩:=LF h q g;exact Z.same e
 .obtain⟨p,Y,U,_⟩:=LF h q g;unfold NF at R;rw[Bool.and_eq_true]at R;have:=aL.mp R.2 p Y;rw[Bool.or_eq_true]at this;rw[U]at T ⊢;rcases this with z|z
  .exact absurd T (aP z)
  .exact aP z
def od(i:Nat)(δ:Dv):Option (List KD):=match δ[i]? with
 |some (.own (.GU kvs))=>some kvs
 |_=>none
def kF{i:Nat}{δ:Dv}{kvs:zAC}(h:od i δ=some kvs):δ[i]? = some (.own (.GU kvs)):=by
 unfold od at h;split at h
 .rename_i y e;cases h;exact e
 .cases h
abbrev cX(i:Nat)(f g:O7):DF:=fun δ=>(f δ).bind fun y=>(g δ).bind fun n=>(od i δ).bind fun kvs=>(keyOf n).bind fun k=>if NF kvs k=true/\kvs.length<=500 then some (.nx (δ.set i (.own (.GU (UY kvs k y))))) else none
def J7:PD->PD->Option PD:=fun x y=>match x with
 |.dict ((.bool true,.none)::es)=>(Lf es).bind fun kvs=>(keyOf y).bind fun k=>if NF kvs k=true then look kvs k else none
 |_=>none
def UT{kvs:zAC}{k:LT}{d:PD}(h:NF kvs k=true)(g:look kvs k=some d):J7 (Bg kvs) (Cp k)=some d:=by
 show(Lf (J8 kvs)).bind _=_;rw[ZU];show(keyOf (Cp k)).bind _=_;rw[N0];exact(if_pos h).trans g
def mJ{G:Hp}{kvs:zAC}{u:V}(h:Du G (Bg kvs) u):∃a r,u=.ref a/\G a=some (dN a r)/\(r.map Nh).Nodup/\PySem.Paired (PR G) kvs r:=by
 rw[Du,K2]at h;rcases h with ⟨_,_,e,_⟩|⟨_,_,e,_⟩|⟨_,_,a,r,e,T,R,g⟩
 .simp at e
 .simp at e
 .exact⟨a,r,e,T,R,Xb g⟩
section
variable{X:Cx}{a b e:Expr}{f g h:yK}{pos p:Pos}
def X8{i:Nat}{x:Str}{np sp:Pos}(hv:PE X RN (QP i))(hk:DE X a g)(he:zb) (hP:∀ {T Z ti:TE},PE X e T->PE X RN Z->PE X a ti->PS X (.Assign [.Subscript RN a sp] e pos) (XT T (qd Z ti kU))):DS X (.Assign [.Subscript RN a sp] e pos) (cX i f g):=by
 obtain⟨T,pe,ke⟩:=he;obtain⟨tk,pk,kk⟩:=hk;refine⟨_,hP pe hv pk,fun δ r h G0 H0 G H σ D R q=>?_⟩;obtain⟨y,h1,h2⟩:=aB.mp h;obtain⟨n,h3,h4⟩:=aB.mp h2;obtain⟨kvs,h5,h6⟩:=aB.mp h4;obtain⟨k,h7,Y⟩:=aB.mp h6;split at Y
 .rename_i hc;cases Y;have:=MT h7;subst this;have hi:=kF h5;refine ke δ y h1 G0 H0 G H σ [] _ R fun u G1 H1 R1=>?_;obtain⟨ad,_,U,k2,k3,k4,k5⟩:=R1.own i _ hi;refine⟨.ref ad,U,?_⟩;refine kk δ _ h3 G0 H0 G1 H1 σ _ _ R1 fun v G2 H2 R2=>?_;have dv:=eV (R2.B4 (Cp k,v) GM) hc.1;obtain⟨ad',_,m1,m2,m3,m4,⟨rr,rfl,m5,m6⟩⟩:=R2.own i _ hi;rw[U]at m1;cases m1;have pr:=Xb m6;have hl:rr.length=kvs.length:=by have:=bJ List.length (nu pr);simpa using this
  refine⟨ad,rr,k,rfl,dv.same R2.ins,lU R2.ins m4 m5 pr hc.1,by lia,?_⟩;exact q _ _ _ (R2.drop.drop.di hi U ⟨_,rfl,eN m5,Ww (qG pr dv (R2.B4 (y,u) zGP))⟩)
 .cases Y
def L6(hu:Ih)(ha:zDK)(hb:DE X b g)(hs:jv b):DE X (.Subscript a b pos) (Ai J7 f g):=by
 obtain⟨ta,pa,ka⟩:=ha;obtain⟨tb,pb,kb⟩:=hb;refine⟨_,fk hu pa pb hs,fun δ z hz G0 H0 G H σ ts Q R0 k=>?_⟩;obtain⟨x,y,h1,h2,T⟩:=two (x:=.none) (y:=.none) hz;refine ka δ x h1 G0 H0 G H σ ts _ R0 fun u G1 H1 R1=>?_;refine kb δ y h2 G0 H0 G1 H1 σ _ _ R1 fun v G2 H2 R2=>?_;have du:=R2.B4 (x,u) zGP;have dv:=R2.B4 (y,v) GM;unfold J7 at T;split at T
 .obtain⟨kvs,h4,h5⟩:=aB.mp T;obtain⟨Z,h6,R⟩:=aB.mp h5;split at R
  .rename_i hc;have:=ZE h4;subst this;have:=MT h6;subst this;obtain⟨ad,r,rfl,n1,n2,Y⟩:=mJ du;have hf:=ZW Y Z;unfold look at R;obtain⟨p,h8,rfl⟩:=aC.mp R;rw[h8]at hf;obtain⟨q,h9,U⟩:=hf;exact⟨ad,r,Z,q,rfl,(eV dv hc).same R2.ins,lU R2.ins (R2.ins _ _ n1) n2 Y hc,h9,k _ _ _ (R2.drop.drop.put U)⟩
  .cases R
 .cases T
def NX(x y:PD):yQ:=match x with
 |.list R=>(EG R).bind fun row=>(Ey y).bind fun t=>if t∈row.bs/\row.deep<=60 then some (.int (row.bs.idxOf t:Nat)) else none
 |_=>none
def iI{i:Nat}{x:Str}{np cp ap:Pos}(hu:Ih)(hv:PE X RN (QP i))(ha:zb) (U:attributeBase RN "index" X.env (eval RN X.env)=eval RN X.env:=by rfl) (hfew:((backTo cp zDt).all (fun x=>!x.1)&&(backToKw cp (keywordEach [] X.env)).all (fun x=>x.1.isSome) && decide zAF)=true:=by rfl) (T:(ap.endLine==cp.line)=true:=by rfl)(hs:starEach [e] X.env=IJ::starEach [] X.env:=by rfl)(R:(backTo cp wT).any Nh=false:=by rfl):DE X (.Call (.Attribute RN "index" ap) [e] [] cp) (Ai NX (nm i) f):=by
 obtain⟨ta,pa,ka⟩:=ha;refine⟨_,IU ar PySem.F.slot_list_index PySem.F.type_list_index (dP hu) hv (AN pa Af hs) U hfew T hs R,fun δ z hz G0 H0 G H σ ts Q R0 k=>?_⟩;obtain⟨y,n,h1,h2,h3⟩:=two (x:=.none) (y:=.none) hz;unfold NX at h3;split at h3
 .rename_i ds;obtain⟨row,h4,h5⟩:=aB.mp h3;obtain⟨t,h6,h7⟩:=aB.mp h5;split at h7
  .rename_i hc;cases h7;obtain⟨w,k1,k2⟩:=R0.dat _ _ (cP h1);rw[Du]at k2;obtain⟨ad,ys,rfl,k3,k4⟩:=k2;refine⟨.ref ad,k1,.inl ⟨rfl,ys,Ax.of (R0.ins _ _ k3)⟩,?_⟩;refine ka δ n h2 G0 H0 G H σ ts _ R0 fun u G1 H1 Y=>?_;have du:=Y.B4 (_,u) GM;have:=Qi h6;subst this;rw[Du]at du;obtain⟨bd,zs,rfl,m1,m2⟩:=du;obtain⟨w',k1',k2'⟩:=Y.dat _ _ (cP h1);rw[k1]at k1';cases k1';rw[Du]at k2';obtain⟨ad',ys',e1,k3',Z⟩:=k2';cases e1;have hds:=Kc h4;rw[hds]at Z;exact⟨ad,ys',row,t,_,rfl,rfl,Y.ins _ _ k3',(Gk Z).same Y.ins,hc.2,⟨bd,zs,rfl,Y.ins _ _ m1,(Gk m2).same Y.ins⟩,hc.1,k _ _ _ (Y.drop.put Mt)⟩
  .cases h7
 .cases h3
end
mutual
def N1:PD->Bool
 |.tuple g=>Mq g
 |.list g=>Mq g
 |.dict R=>dB R
 |_=>true
def Mq:List PD->Bool
 |[]=>true
 |d::g=>N1 d&&Mq g
def dB:List (PD×PD)->Bool
 |[(.none,_)]=>true
 |_=>false
end
def less(G:Hp)(a:AD):Hp:=fun b=>if b=a then none else G b
def Jp{G:Hp}{a b:AD}(h:b≠a):less G a b=G b:=if_neg h
def Ur{G:Hp}{a:AD}:less G a a=none:=if_pos rfl
def pf{a:AD}{r:UF}{xs:yb}:dN a r≠.tup xs:=fun h=>by unfold dN at h;cases h
def f9{a:AD}{r:UF}{xs:yb}:dN a r≠.lst xs:=fun h=>by unfold dN at h;cases h
def sS{a:AD}{r:UF}{o:Obj}{u:HO}:dN a r≠.GD o u:=fun h=>by unfold dN at h;cases h
mutual
def Za{G:Hp}{a:AD}{r:UF}(ha:G a=some (dN a r)):∀ {d:PD} {v:V},N1 d=true->Du G d v->Du (less G a) d v
 |.none,_,_,h=>by rw[Du]at h ⊢;exact h
 |.bool _,_,_,h=>by rw[Du]at h ⊢;exact h
 |.int _,_,_,h=>by rw[Du]at h ⊢;exact h
 |.str _,_,_,h=>by rw[Du]at h ⊢;exact h
 |.tuple Z,_,n,h=>by
  rw[Du]at h ⊢;obtain⟨b,xs,R,g,T⟩:=h;exact⟨b,xs,R,by rw[Jp fun z=>by subst z;rw[ha]at g;exact pf (ah g)];exact g,Og ha (by simpa[N1]using n) T⟩
 |.list Z,_,n,h=>by
  rw[Du]at h ⊢;obtain⟨b,xs,R,g,T⟩:=h;exact⟨b,xs,R,by rw[Jp fun z=>by subst z;rw[ha]at g;exact f9 (ah g)];exact g,Og ha (by simpa[N1]using n) T⟩
 |.dict Y,v,n,h=>by
  rw[Du]at h ⊢;rcases h with ⟨ea,C,R,U,g⟩|⟨b,ns,R,U,g⟩|h
  .rw[R]at n;simp[N1,dB]at n
  .refine .inr (.inl ⟨b,ns,R,U,?_⟩);rcases g with g|⟨o,g⟩
   .exact .inl (by rw[Jp fun z=>by subst z;rw[ha]at g;exact f9 (ah g)];exact g)
   .exact .inr ⟨o,by rw[Jp fun z=>by subst z;rw[ha]at g;exact sS (ah g)];exact g⟩
  .exfalso
   cases Y with
   |nil=>rw[K2]at h;exact h
   |cons p t=>
    obtain⟨k0,d0⟩:=p;rw[K2]at h;rw[h.1]at n;simp[N1,dB]at n
def Og{G:Hp}{a:AD}{r:UF}(ha:G a=some (dN a r)):∀ {ds:sw} {xs:Jh},Mq ds=true->Ao G ds xs->Ao (less G a) ds xs
 |[],_,_,h=>by rw[Ao]at h ⊢;exact h
 |d::ds,_,n,h=>by
  obtain⟨x,q,rfl,R,g⟩:=h.un;simp only[Mq,Bool.and_eq_true]at n;exact .cons (Za ha n.1 R) (Og ha n.2 g)
end
def cW:L->Bool
 |.own (.lst xs)=>Mq xs
 |.own _=>false
 |_=>true
def alone(i:Nat)(δ:Dv):Bool:=(δ.set i .no).all cW
abbrev WG(i:Nat)(f:O7):Dv->Option PD:=fun δ=>(od i δ).bind fun kvs=>(f zCG).bind fun x=>if N1 x=true/\alone i δ=true then some x else none
end L2
namespace ZT
open PySem PyProof.Rows
def N5(h:Heap)(z TI TO T:AD)(b:Bool):Prop:=h.get? z=some { cls:=.type "zip",data:=.fields #[rawInt T,.bool b,.bool false,.ref TI,.ref TO]}/\∃o,h.get? T=some o
section
variable{prog:FS}{w:IO}{A:Ki}{E:yO}{s:SD}{z TI TO T i1 i2:AD}{f1 f2:yd}{n1 n2 k:Nat}{P1 P2:Nat->VL->Prop}{S1 S2:wn}{b:Bool}
def b7{Q:bi}(hz:zBP)(Y:T≠z)(q:∀h',N5 h' z TI TO T true->Heap.SameBut z s.heap h'->Q false M0):wpAny AS A (Builtin.SmallTypes.ownedTupleIsFree ON) Q E s:=by
 obtain⟨hz,o,g⟩:=hz;unfold Builtin.SmallTypes.ownedTupleIsFree;refine Wb (ag hz rfl (x:=rawInt T) rfl ?_);show wpAny _ _ (loadIfAlive (Int.toNat (T:Int))>>=_) _ _ _;rw[Int.toNat_natCast];refine Wb (PySem.W.kdx_alive g ?_);show wpAny _ _ (field ON 1>>=_) _ _ _;refine Wb (ag hz rfl (x:=.bool b) rfl ?_);cases b with
 |true=>exact Wb (aA (aA (q _ ⟨hz,o,g⟩ (Heap.SameBut.refl ..))))
 |false=>
  show wpAny _ _ (setField ON 1 KQ>>=_) _ _ _;refine Wb (au hz At fun Z U R=>aA (q Z ⟨U,o,(R.2 _ Y).trans g⟩ R))
def fw{Q:yO}(D1:ms)(Z:mu)(ap:XV)(hz:zBP)(hI:KB) (hT:T≠z/\T≠i1/\T≠i2)(t1:wp)(t2:wv)(l1:k<n1)(l2:k<n2) (q:∀x y h' tk,P1 k x->P2 k y->N5 h' z TI TO T true->S1 RJ h'->S2 RJ h'->IsPair h' s.heap.objs.size x y->h'.objs.size=s.heap.objs.size+1 ->(∀c o,c≠z->c≠i1->c≠i2->s.heap.get? c=some o->h'.get? c=some o)->Q EK Fr):wpAny AS A Pi zAI E s:=by
 obtain⟨⟨c1,c2,c3,c4⟩,⟨c5,c6,c7⟩,⟨c8,c9,c10⟩,⟨d1,d2,d3⟩,d4,d5,d6⟩:=ap;show wpAny _ _ zGc _ _ _;refine Wb (ag hz.1 rfl (x:=.bool false) rfl ?_);show wpAny _ _ zGd _ _ _;refine Wb zFA;show wpAny _ _ Nk _ _ _;refine Wb (b7 hz hT.1 fun g1 z1 g=>?_);simp only[Bool.false_eq_true,if_false];have g:Heap.SameBut z s.heap g1:=g;rw[<-Array.forIn_toList];simp only[List.forIn_cons,List.forIn_nil];refine Wb (Wb (Wb (aS ?_)));show wpAny _ _ Re _ _ _;refine Wb (D1.item k _ _ _ l1 (D1.frame _ _ _ t1 (Am d1 g)) fun x g2 tk2 p1 u1 U=>aA Oz);have U:Heap.SameBut i1 g1 g2:=U;have t2':S2 k g2:=Z.frame _ _ _ (Z.frame _ _ _ t2 (Am d4 g)) (Am d6 U);refine Wb (Wb (aS ?_));show wpAny _ _ OR _ _ _;refine Wb (Z.item k _ _ _ l2 t2' fun y Y tk4 p2 u2 R=>aA (aA Oz));have R:Heap.SameBut i2 g2 Y:=R;show wpAny _ _ (newTuple [x,y]>>=_) _ _ _;refine Wb (wpAny_newTuple (hsz:=by rw[sizeLine_eq];show(2:Nat)<=_;decide) ?_);have sz:Y.objs.size=s.heap.objs.size:=by rw[R.1,U.1,g.1]
 have kp:∀c o,c≠i1->c≠i2->g1.get? c=some o->(Y.push { cls:=.type "tuple",data:=.seq #[x,y]}).get? c=some o:=fun c o e3 e4 e=>aE _ ((R.2 _ e4).trans ((U.2 _ e3).trans e));obtain⟨z1,o,ho⟩:=z1;have fin:=q x y (Y.push { cls:=.type "tuple",data:=.seq #[x,y]}) tk4 p1 p2 ⟨kp _ _ c8.symm c9.symm z1,o,kp _ _ hT.2.1 hT.2.2 ho⟩ (D1.frame _ _ _ (D1.frame _ _ _ u1 (Am d3 R)) fun c hc o e=>aE _ e) (Z.frame _ _ _ u2 fun c hc o e=>aE _ e)
  (by rw[<-sz];exact aN _ rfl) (by rw[<-sz,Heap.size_push]) fun c o e1 e3 e4 e=>kp c o e3 e4 ((g.2 _ e1).trans e)
 rw[<-sz]at fin;exact aA ⟨_,rfl,fin⟩
def jW{Q:Fin->SD->Prop}(D1:ms)(D2:mu)(ap:XV)(hz:zBP)(hI:KB) (hT:T≠z)(t1:wp)(t2:wv)(he:zFP) (q:∀h' e tk,zBu->(∃o,h'.get? e=some o/\o.cls=.type "StopIteration")->E (.ref e) Fr):wpAny AS A Pi Q E s:=by
 obtain⟨⟨c1,c2,c3,c4⟩,⟨c5,c6,c7⟩,⟨c8,c9,c10⟩,⟨d1,d2,d3⟩,d4,d5,d6⟩:=ap;show wpAny _ _ zGc _ _ _;refine Wb (ag hz.1 rfl (x:=.bool false) rfl ?_);show wpAny _ _ zGd _ _ _;refine Wb zFA;show wpAny _ _ Nk _ _ _;refine Wb (b7 hz hT fun g1 z1 U=>?_);simp only[Bool.false_eq_true,if_false];have U:Heap.SameBut z s.heap g1:=U;rw[<-Array.forIn_toList];simp only[List.forIn_cons,List.forIn_nil];refine Wb (Wb (Wb (aS ?_)));show wpAny _ _ Re _ _ _;have g:=D1.frame _ _ _ t1 (Am d1 U);rcases he with he|⟨he1,he2⟩
 .rw[he]at g;refine Wb (D1.done _ _ _ g fun Z e R ho=>?_);exact q Z e _ (fun c o e1 e3 e4 y=>R _ _ e3 zBW) ho
 .refine Wb (D1.item k _ _ _ he1 g fun x Z tk2 p1 u1 R=>aA Oz);have R:Heap.SameBut i1 g1 Z:=R;have Y:S2 k Z:=D2.frame _ _ _ zDx (Am d6 R);rw[he2]at Y;refine Wb (Wb (aS ?_));show wpAny _ _ OR _ _ _;refine Wb (D2.done _ _ _ Y fun g4 e m4 ho=>?_);exact q g4 e _ (fun c o e1 e3 e4 y=>m4 _ _ e4 ((R.2 _ e3).trans zBW)) ho
def fU{Q:RC}(D1:Sv)(D2:Sz)(ap:XV)(hz:zBP)(hI:KB) (hT:T≠z/\T≠i1/\T≠i2)(t1:wp)(R:wv)(l1:k<n1)(l2:k<n2) (q:∀x y h' tk,P1 k x->P2 k y->N5 h' z TI TO T true->S1 RJ h'->S2 RJ h'->IsPair h' s.heap.objs.size x y->h'.objs.size=s.heap.objs.size+1 ->(∀c o,c≠z->c≠i1->c≠i2->s.heap.get? c=some o->h'.get? c=some o)->Q (some EK) Fr):wpAny AS A zGp Q E s:=by
 have g:s.TypeIs ON "zip" := ⟨_,hz.1,rfl⟩;unfold pyNext;exact Wb (wpAny_attempt (ak (name:=Str.ofString "__next__") g bI
  (ae bI g F.entry_zip_next (fw D1 D2 ap hz hI hT t1 R l1 l2 fun x y h' tk r1 r2 r3 r4 r5 Z Y U=>aA (q x y h' tk r1 r2 r3 r4 r5 Z Y U)) zW)))
def Vz{Q:RC}(D1:Sv)(D2:Sz)(ap:XV)(hz:zBP)(hI:KB) (hT:T≠z)(t1:wp)(U:wv)(Y:zFP) (q:∀h' tk,zBu->Q none Fr):wpAny AS A zGp Q E s:=by
 have g:s.TypeIs ON "zip" := ⟨_,hz.1,rfl⟩;unfold pyNext;refine Wb (wpAny_attempt (ak (name:=Str.ofString "__next__") g bI
  (ae bI g F.entry_zip_next (jW D1 D2 ap hz hI hT t1 U Y fun h' e tk kp R=>?_) zW)))
 obtain⟨o,R,Z⟩:=R;exact Wb (wpAny_isInstance (T := "StopIteration") (b:=true) ⟨o,R,Z⟩ isSubtype_stop (aA (q _ _ kp)))
end
end ZT
namespace TH
open PySem PyProof.Rows
def Rc:typeLookup (.type "zip") "__getattr__" = pure none:=by rw[typeLookup_type,builtinLookup_eq_fast];kernel_rfl
def V3:typeLookup (.type "zip") "keys" = pure none:=by rw[typeLookup_type,builtinLookup_eq_fast];kernel_rfl
def Rr:entryFor table "zip.__getattribute__" = some Builtin.«object.__getattribute__» :=
 entryFor_alias (id' := "object.__getattribute__") IP Lx Lx IP
def i8(a:AD)(xs:re)(u:Tok):Meets (Builtin.«object.__getattribute__» ⟨[.ref a,.str "keys" u],[]⟩) (fun A R s=>s.heap.get? a=some { cls:=.type "zip",dict:=none,data:=.fields xs,slots:=#[]}/\raisesAttr HY "keys" A R s) :=
 Meets.of_wp fun prog w A R s T=>by
  obtain⟨Z,g,d,tk,os⟩:=s;obtain⟨Y,T⟩:=T;have hT:(⟨Z,g,d,tk,os⟩:SD).TypeIs HY "zip" := ⟨_,Y,rfl⟩;have U:=V3;unfold Builtin.«object.__getattribute__»
  repeat (any_goals (first|assumption|wp_step))
  exact wpAny_raiseAttrError T.1 T.2 (attrMsg_fits Lx zEr)
def oH{prog:FS}{w:IO}{A:Ki}{E:yO}{s:SD}{a:AD}{xs:re}{Q:RC} (U:s.heap.get? a=some { cls:=.type "zip",dict:=none,data:=.fields xs,slots:=#[]})(hA:oF) (h:∀h' tk,(∀c o,s.heap.get? c=some o->h'.get? c=some o)->Q none Fr):wpAny AS A (getAttr? HY "keys") Q E s:=by
 obtain⟨Z,g,d,tk,os⟩:=s;have Y:∀R,(⟨Z,g,d,R,os⟩:SD).TypeIs HY "zip" := fun _=>⟨_,U,rfl⟩;have f1:=sub_AttributeError;have f3:=F.slot_zip_getattribute.lookup;have f4:=F.slot_zip_getattribute.bind HY;have f5:=Rc;unfold getAttr? getAttrBy? getAttrBy
 repeat (any_goals (first|assumption|exact Y _|((with_reducible show wpAny _ _ (call (Value.builtin "zip.__getattribute__") _ _) _ _ _);refine call_meets F.slot_zip_getattribute (Y _) Rr (F.args_zip_getattribute_2 _ _) (i8 a xs _) ⟨U,hA,fun h' R e T=>?_⟩)|wp_step))
 obtain⟨t',u',he⟩:=T.there;show wpAny _ _ (getattributeRaised _ _ _ _ _ _ _) _ _ _;unfold getattributeRaised
 repeat (any_goals (first|assumption|wp_step))
 exact h _ _ T.keeps
section
variable{prog:FS}{w:IO}{A:Ki}{E:yO}{s:SD}{k:LT}{kv:VL}{d:AD}{xs:List KE}
def eZ{v:VL}{Q:zDB}(hu:zEa)(hk:zBk)(hm:zDJ)(hap:TD)(hz:xs.length<=sizeLine) (fin:zg):wpAny AS A (dictSet d kv v) Q E s:=by
 obtain⟨o,es,ep,g,hc,hd,Y⟩:=hm.ob;unfold dictSet
 try with_reducible refine aS ?_
 refine Wb (Xy hu hk ?_);unfold dictSetHashed
 try with_reducible refine aS ?_
 refine Wb zd
 .have R:EA xs k kv v=xs++[(k,kv,v)]:=by unfold EA;rw[LO U];rfl
  rw[R]at fin;refine Wb Mc
  .simp[Y,EW]
  .rcases bA.mp T with h|h
   .exact(hm.ks y h).keep prog w g hd (aZ ..)
   .rw[List.mem_singleton.mp h];exact hk.keep prog w g hd (aZ ..)
  .rw[List.map_append,List.nodup_append];refine⟨hm.nd,by simp,fun a ha b hb=>?_⟩;have:b=k:=by simpa using hb
   subst this;obtain⟨y,T,rfl⟩:=aQ.mp ha;exact U y T
 .have R:EA xs k kv v=xs.map (putN k v):=by unfold EA;rw[OU hm.nd hj hx];rfl
  rw[R]at fin;refine Wb No
  .have:=Ol (v:=v) hm.nd hj hx;rw[<-Y]at this;obtain⟨l⟩:=es
   simpa using this
  .obtain⟨z,Z,rfl⟩:=aQ.mp T;unfold putN;split<;>exact(hm.ks z Z).keep prog w g hd (aZ ..)
  .rw[Rz];exact hm.nd
end
section
variable{prog:FS}{w:IO}{A:Ki}{E:yO}{s:SD}{z TI TO i1 i2 d n:AD}{f1 f2:yd}{P1 P2:Nat->VL->Prop}{S1 S2:wn}
def Wn(h:Heap)(z TI TO d:AD):Prop:=(IsZip h z TI TO .none/\∃a b,IsPair h TO a b)\/∃T b,ZT.N5 h z TI TO T b/\d<T
def Wn.keep{h h':Heap}(st:Wn h z TI TO d)(hz:z<d)(Y:TO<d)(e:Heap.SameBut d h h'):Wn h' z TI TO d:=by
 rcases st with ⟨R,a,b,g⟩|⟨T,b,⟨R,o,g⟩,U⟩
 .exact .inl ⟨(e.2 _ (aG hz)).trans R,a,b,(e.2 _ (aG Y)).trans g⟩
 .exact .inr ⟨T,b,⟨(e.2 _ (aG hz)).trans R,o,(e.2 _ (aj U)).trans g⟩,U⟩
structure kJ(z TI TO i1 i2 d:Addr):Prop where
 z:z<d
 I:TI<d
 O:TO<d
 a:i1<d
 b:i2<d
def uP{n1 n2 k:Nat}{Q:RC}(lw:kJ z TI TO i1 i2 d)(hd:d<s.heap.objs.size)(D1:Sv)(D2:Sz)(ap:ZT.Apart z TI TO i1 i2 f1 f2)(st:Wn s.heap z TI TO d)(hI:KB) (t1:wp)(t2:wv)(l1:k<n1)(l2:k<n2) (q:∀x y h' tk,P1 k x->P2 k y->Wn h' z TI TO d->S1 RJ h'->S2 RJ h'->IsPair h' s.heap.objs.size x y->h'.objs.size=s.heap.objs.size+1 ->(∀c o,c≠z->c≠TO->c≠i1->c≠i2->s.heap.get? c=some o->h'.get? c=some o)->Q (some EK) Fr):wpAny AS A zGp Q E s:=by
 rcases st with ⟨h1,a,b,h2⟩|⟨T,b,h1,R⟩
 .exact ZT.next_item D1 D2 ap h1 hI h2 t1 t2 l1 l2 fun x y h' tk r1 r2 r3 r4 r5 Z g Y U=>q x y h' tk r1 r2 (.inr ⟨_,false,⟨r3,_,g⟩,hd⟩) r5 Z g Y U
 .exact ZT.fU D1 D2 ap h1 hI ⟨aj (bY lw.z R),Nat.ne_of_gt (bY lw.a R),Nat.ne_of_gt (bY lw.b R)⟩ t1 t2 l1 l2 fun x y h' tk r1 r2 r3 r5 Z g Y U=>q x y h' tk r1 r2 (.inr ⟨T,true,r3,R⟩) r5 Z g Y fun c o e1 e2 e3 e4 e=>U c o e1 e3 e4 e
def ff{g Y k:Nat}{Q:RC}(lw:kJ z TI TO i1 i2 d)(D1:Draws prog w A.in1 i1 f1 g P1 S1)(D2:Draws prog w A.in1 i2 f2 Y P2 S2)(ap:ZT.Apart z TI TO i1 i2 f1 f2)(st:Wn s.heap z TI TO d)(hI:KB) (t1:wp)(U:wv)(Z:k=g\/(k<g/\k=Y)) (q:∀h' tk,cr->Q none Fr):wpAny AS A zGp Q E s:=by
 rcases st with ⟨R,a,b,h2⟩|⟨T,b,R,h3⟩
 .exact ZT.next_end D1 D2 ap R hI h2 t1 U Z q
 .exact ZT.Vz D1 D2 ap R hI (aj (bY lw.z h3)) t1 U Z fun h' tk kp=>q h' tk fun c o e1 e2 e3 e4 e=>kp c o e1 e3 e4 e
def KH:plainId "dict.update.loop" = true:=by decide +kernel
def RB:entryFor table "dict.update.loop" = some Builtin.«dict.update.loop»:=entryFor_of_fast IP
def FC.keep{h h':Heap}{xs:List KE}(hm:FC h d xs)(e:∀o,h.get? d=some o->h'.get? d=some o)(U:∀x∈xs,HJ h x.1 x.2.1->HJ h' x.1 x.2.1):FC h' d xs:=by
 obtain⟨o,es,ep,T,R⟩:=hm.ob;exact⟨⟨o,es,ep,e _ T,R⟩,fun x g=>U x g (hm.ks x g),hm.nd⟩
def Em(ks:QF)(us vs:yN):List KE:=ks.zip (us.zip vs)
def mD{ks:QF}{us vs:yN}{j:Nat}{k:LT}{u v:VL}(T:ks[j]? = some k)(R:us[j]? = some u)(g:vs[j]? = some v):(Em ks us vs)[j]? = some (k,u,v):=by
 unfold Em;rw[List.getElem?_zip_eq_some];exact⟨T,List.getElem?_zip_eq_some.mpr ⟨R,g⟩⟩
def U0{ks:QF}{us vs:yN}{x:KE}(h:x∈Em ks us vs):∃j:Nat,ks[j]? = some x.1/\us[j]? = some x.2.1/\(Em ks us vs)[j]? = some x:=by
 obtain⟨j,g⟩:=ai.mp h;have R:=g;unfold Em at g;rw[List.getElem?_zip_eq_some]at g;exact⟨j,g.1,(List.getElem?_zip_eq_some.mp g.2).1,R⟩
def uL{R:Result->SD->Prop}{b1 b2:Bool}{l1 l2:AD}{ks:QF}{us vs:yN}{h0:Heap}(hh:oF)(hu:zEk)(lw:kJ z TI TO i1 i2 d)(hn:n<=z/\n<=TI/\n<=TO/\n<=i1/\n<=i2)(ap:ZT.Apart z TI TO i1 i2 [i1,l1] [i2,l2]) (n1:l1≠i1)(n2:l2≠i2)(m1:l1<n)(m2:l2<n)(e1:zEj)(e2:vs.length=ks.length)(hs:ks.length<=sizeLine)(nd:ks.Nodup)(ha:∀x∈ks,∀y∈ks,BJ x=BJ y->x=y) (hk:∀h',zFT->∀(j:Nat) k kv,ks[j]? = some k->us[j]? = some kv->HJ h' k kv) (hR:∀h' tk,zFT->FC h' d (Em ks us vs)->d<h'.objs.size->R (.ok (.ret .none)) Fr):∀(m i:Nat) (h:Heap) (tk:Nat),ks.length-i=m->i<=ks.length->Wn h z TI TO d->IsPair h TI (.ref i1) (.ref i2)->ZT.JR b1 h i1 l1 i/\ZT.Sq b1 h l1 us->ZT.JR b2 h i2 l2 i/\ZT.Sq b2 h l2 vs->(∀c o,c<n->h0.get? c=some o->h.get? c=some o)->FC h d ((Em ks us vs).take i)->d<h.objs.size ->codeAny AS A (.builtin "dict.update.loop" ⟨[.ref d,.ref z,rawInt (i:Nat),.none],[]⟩) R {s with heap:=h,toks:=tk}:=by
 have D1:=ZT.EY (prog:=prog) (w:=w) (A:=A.in1.in1) hh b1 i1 l1 us n1;have D2:=ZT.EY (prog:=prog) (w:=w) (A:=A.in1.in1) hh b2 i2 l2 vs n2;have hel:(Em ks us vs).length=ks.length:=by unfold Em;simp[List.length_zip];lia
 intro m
 induction m with
 |zero=>
  intro i h tk hm hi st hI t1 t2 kp hD hd;have hin:i=ks.length:=by lia
  subst hin;refine codeAny_builtin RB ?_;rw[Around.under_plainId KH _];show wpAny _ A.in1 (pyNext ON>>=_) _ _ _;refine Wb (ff (s:={s with heap:=h,toks:=tk}) (A:=A.in1) lw D1 D2 ap st hI t1 t2 (.inl e1.symm) fun h' Y Z=>?_);show wpAny _ A.in1 (pure ()>>=_) _ _ _;refine Wb (aA (aA (hR h' Y ww ?_ ?_)))
  .rw[<-hel,List.take_length]at hD;refine hD.keep (fun o e=>Z d o (aj lw.z) (aj lw.O) (aj lw.a) (aj lw.b) e) fun x hx _=>?_;obtain⟨j,j1,j2,_⟩:=U0 hx;exact hk h' ww j _ _ j1 j2
  .obtain⟨o,es,ep,ho,_⟩:=hD.ob;exact aF (Z d o (aj lw.z) (aj lw.O) (aj lw.a) (aj lw.b) ho)
 |succ m ih=>
  intro i h tk hm hi st hI t1 t2 kp hD hd;have hlt:i<ks.length:=by lia
  refine codeAny_builtin RB ?_;rw[Around.under_plainId KH _];show wpAny _ A.in1 (pyNext ON>>=_) _ _ _;refine Wb (uP (s:={s with heap:=h,toks:=tk}) (A:=A.in1) lw hd D1 D2 ap st hI t1 t2 AC AC fun x y h' Y r1 r2 r3 r4 r5 r6 r7 r8=>?_);show wpAny _ A.in1 (holding _ _>>=_) _ _ _;refine Wb (aS (Wb (wpAny_tryCatch ?_)));unfold Builtin.Dict.pairItems;refine Wb (wpAny_typeOf (T := "tuple") ⟨_,r6,rfl⟩ ?_);rw[if_pos AT];refine Wb (af r6 rfl Oz);show wpAny _ A.in1 (holding [x,y] (dictSet d x y)) _ _ _;have kp1:∀c o,c<n->h0.get? c=some o->h'.get? c=some o:=fun c o g e=>r8 c o (aG (aI g hn.1)) (aG (aI g hn.2.2.1)) (aG (aI g hn.2.2.2.1)) (aG (aI g hn.2.2.2.2)) (kp c o g e);have U:ks[i]? = some ks[i]:=aH hlt;generalize ks[i]=kk at U;have hD':FC h' d ((Em ks us vs).take i):=hD.keep (fun o e=>r8 d o (aj lw.z) (aj lw.O) (aj lw.a) (aj lw.b) e) fun x hx _=>by
   obtain⟨j,j1,j2,_⟩:=U0 (bW hx);exact hk h' kp1 j _ _ j1 j2
  have hno:∀x∈(Em ks us vs).take i,x.1≠kk:=fun q hq e=>by
   obtain⟨j,hj⟩:=ai.mp hq;have hji:j<i:=by have:=(aD.mp hj).1;rw[List.length_take]at this;lia
   rw[List.getElem?_take_of_lt hji]at hj;unfold Em at hj;rw[List.getElem?_zip_eq_some]at hj;have:=(List.getElem?_inj AC nd).mp ((hj.1.trans (by rw[e])).trans U.symm)
   lia
  have hst:EA ((Em ks us vs).take i) kk x y=(Em ks us vs).take M2:=by
   unfold EA;rw[LO hno,List.take_succ,mD U r1 r2]
   rfl
  refine aS (eZ (s:={s with heap:=h',toks:=Y}) (k:=kk) hu (hk h' kp1 i _ _ U r1) hD' (fun q hq e=>?_) (by rw[List.length_take];lia) fun h2 hN sb=>?_)
  .obtain⟨j,j1,_,_⟩:=U0 (bW hq);exact ha _ (aO j1) _ (aO U) e
  rw[hst]at hN;have nz:n<d:=aW hn.1 lw.z;have up:∀c o,c≠d->h'.get? c=some o->h2.get? c=some o:=fun c o g e=>(sb.2 c g).trans e;refine aA ⟨plainId_quiet KH _,?_⟩;have:=ih M2 h2 (Y+DJ kk) AC hlt (r3.keep lw.z lw.O sb) (up _ _ (aG lw.I) (r8 _ _ ap.a1.1 ap.a1.2.1 ap.a1.2.2.1 ap.a1.2.2.2 hI))
   (D1.frame _ _ _ r4 fun c g o e=>up c o ?_ e) (D2.frame _ _ _ r5 fun c g o e=>up c o ?_ e) (fun c o g e=>up c o (aG (bY g nz)) (kp1 c o g e)) hN (by rw[sb.1];show d<h'.objs.size;rw[r7];exact bE hd)
  .exact this
  .rcases aM.mp g with rfl|g
   .exact aG lw.a
   .rw[List.mem_singleton.mp g];exact aG (bY m1 nz)
  .rcases aM.mp g with rfl|g
   .exact aG lw.b
   .rw[List.mem_singleton.mp g];exact aG (bY m2 nz)
end
end TH
namespace TH
open PySem PyProof.Rows
def lz{prog:FS}{w:IO}{A:Ki}{E:yO}{s:SD}{z TI TO i1 i2 n:AD}{b1 b2:Bool}{Y U:AD}{ks:QF}{us vs:yN}{Q:yO}(hh:oF)(hu:A.in1.in1.units+8<cLine)(lw:kJ z TI TO i1 i2 s.heap.objs.size)(hn:n<=z/\n<=TI/\n<=TO/\n<=i1/\n<=i2)(ap:ZT.Apart z TI TO i1 i2 [i1,Y] [i2,U]) (n1:Y≠i1)(n2:U≠i2)(m1:Y<n)(m2:U<n)(e1:zEj)(e2:vs.length=ks.length)(hs:ks.length<=sizeLine)(nd:ks.Nodup)(ha:∀x∈ks,∀y∈ks,BJ x=BJ y->x=y) (hk:∀h',zEc->∀(j:Nat) k kv,ks[j]? = some k->us[j]? = some kv->HJ h' k kv) (hz:ST)(hI:KB)(hO:IsPair s.heap TO .none .none)(t1:ZT.JR b1 s.heap i1 Y 0)(p1:ZT.Sq b1 s.heap Y us)(t2:ZT.JR b2 s.heap i2 U 0)(p2:ZT.Sq b2 s.heap U vs) (q:∀h' tk,zEc->FC h' s.heap.objs.size (Em ks us vs)->s.heap.objs.size<h'.objs.size->Q EK Fr):wpAny AS A (call u8 [.ref z]) Q E s:=by
 refine callType_codes (Q₁:=fun obj Z=>obj=.ref s.heap.objs.size/\Z={s with heap:=s.heap.push { cls:=.type "dict",data:=.dict #[]} }) F.kt_called_dict (F.kt_typeCall_dict_1 _) F.entry_dict_init (kt_code_dict_new _ ⟨rfl,rfl⟩) ?_;rintro obj Z ⟨rfl,rfl⟩;have up:∀c o,s.heap.get? c=some o->(s.heap.push { cls:=.type "dict",data:=.dict #[]}).get? c=some o:=fun c o e=>aE _ e;have hd0:(s.heap.push { cls:=.type "dict",data:=.dict #[]}).get? s.heap.objs.size=some { cls:=.type "dict",data:=.dict #[]}:=aN _ rfl;have sz0:(s.heap.push { cls:=.type "dict",data:=.dict #[]}).objs.size=s.heap.objs.size+1:=Heap.size_push ..;have hT:(zCw:SD).TypeIs EK "dict" := ⟨_,hd0,rfl⟩;refine⟨hT,F.args_dict_init_2 _ _,?_⟩;unfold Builtin.«dict.__init__»;refine Wb ?_;unfold Builtin.Dict.selfAndRest;refine Wb (wpAny_notOrdered_dict hT ?_);show wpAny _ _ (pure (s.heap.objs.size,[Value.ref z])) _ _ _;refine aA ?_;show wpAny _ _ (Builtin.Dict.updateFrom "dict.__init__" s.heap.objs.size ON [] .none) _ _ _;unfold Builtin.Dict.updateFrom;refine Wb (wpAny_typeOf (T := "zip") ⟨_,up _ _ hz,rfl⟩ ?_);rw[if_pos AT];refine Wb (oH (s:={s with heap:=s.heap.push { cls:=.type "dict",data:=.dict #[]} }) (up _ _ hz) hh fun h' tk kp=>?_);have g:∀c o,s.heap.get? c=some o->h'.get? c=some o:=fun c o e=>kp c o (up c o e);simp only[Option.isNone_none,if_true];refine Wb (bH (Wb (wpAny_pyIter_zip (g _ _ hz) (aA ⟨plainId_quiet KH _,?_⟩))));have:=uL (s:=s) (A:=A.in1) (prog:=prog) (w:=w) (h0:=s.heap) (b1:=b1) (b2:=b2) (R:=wants (fun r s₂=>r=.none/\Q EK s₂) E) hh hu lw hn ap n1 n2 m1 m2 e1 e2 hs nd ha hk (fun h' tk r1 r2 r3=>⟨rfl,q h' tk r1 r2 r3⟩) _ 0 h' tk rfl (aq _)
  (.inl ⟨g _ _ hz,_,_,g _ _ hO⟩) (g _ _ hI) ⟨?_,?_⟩ ⟨?_,?_⟩ (fun c o _ e=>g c o e) ?_ (aF (kp _ _ hd0))
 .exact this
 .cases b1 with
  |true=>obtain⟨o,q,r⟩:=(show s.heap.IsTupleIter i1 Y 0 from t1);exact(show h'.IsTupleIter i1 Y 0 from⟨o,g _ _ q,r⟩)
  |false=>obtain⟨o,q,r⟩:=(show s.heap.IsListIter i1 Y 0 from t1);exact(show h'.IsListIter i1 Y 0 from⟨o,g _ _ q,r⟩)
 .exact p1.keep fun o e=>g _ _ e
 .cases b2 with
  |true=>obtain⟨o,q,r⟩:=(show s.heap.IsTupleIter i2 U 0 from t2);exact(show h'.IsTupleIter i2 U 0 from⟨o,g _ _ q,r⟩)
  |false=>obtain⟨o,q,r⟩:=(show s.heap.IsListIter i2 U 0 from t2);exact(show h'.IsListIter i2 U 0 from⟨o,g _ _ q,r⟩)
 .exact p2.keep fun o e=>g _ _ e
 .exact⟨⟨_,#[],0,kp _ _ hd0,⟨rfl,rfl,rfl⟩,rfl,rfl⟩,fun x hx=>by simp at hx,by simp⟩
end TH
namespace TH
open PySem PyProof.Rows
def UE{h h':Heap}(k:∀c o,h.get? c=some o->h'.get? c=some o):∀ {t:Tr} {us:LY},Vs h t us->Vs h' t us
 |.nil,us,e=>e
 |.cons a t,us,e=>by
  obtain⟨b,g,r,rfl,U,Z,Y⟩:=e;obtain⟨o,T,R⟩:=U;exact⟨b,g,r,rfl,⟨o,k _ _ T,R⟩,UE k Z,UE k Y⟩
def HJ.up{h h':Heap}(k:∀c o,h.get? c=some o->h'.get? c=some o){x:LT}{v:VL}(a:HJ h x v):HJ h' x v:=by
 cases x with
 |none=>exact a
 |some t=>
  obtain⟨b,e,Y,g,⟨o,T,R⟩,U⟩:=a;exact⟨b,e,Y,g,⟨o,k _ _ T,R⟩,UE k U⟩
end TH
namespace L2
open PySem PySem.Spec PyProof.Rows
def TV:∀ {ks:QF} {xs ys:Jh} {us vs:LY},Vals xs us->Vals ys vs->PySem.Paired Rg zDz (TH.Em ks us vs)
 |[],_,_,_,_,_,_=>by unfold TH.Em;simp only[List.zip_nil_left];exact .nil
 |k::ks,_,_,_,_,.nil,_=>by unfold TH.Em;simp only[List.zip_nil_left,List.zip_nil_right];exact .nil
 |k::ks,_,_,_,_,.cons _ _,.nil=>by unfold TH.Em;simp only[List.zip_nil_right];exact .nil
 |k::ks,_,_,_,_,.cons a as,.cons b bs=>.cons ⟨rfl,a,b⟩ (TV as bs)
def x6(R:TA):TE:=fun σ H Q=>R σ H fun vs g=>∃(b1 b2:Bool) (a1 a2:AD) (xs ys:Jh) (ks:QF),vs=[.ref a1,.ref a2]/\Ca b1 g a1 xs/\Ca b2 g a2 ys/\xs.length=ks.length/\ys.length=ks.length/\ks.length<=1000/\ks.Nodup /\
 (∀x∈ks,∀y∈ks,TH.BJ x=TH.BJ y->x=y)/\(∀(j:Nat) k v,ks[j]? = some k->xs[j]? = some v->HU g k v)/\∀p,g p=none->Q xT (upd g p (dN p zDz))
def uD{X:Cx}{a b:Expr}{ta:TA}{p Y pos g:Pos}(hc:dO)(hu:Ih)(hgd:Gl X "dict")(hmd:X.mg "dict" = none)(hg:Gl X "zip")(hm:zBR)(ha:PA X [a,b] ta) (he:starEach [.Call (.Name "zip" Y) [a,b] [] g] X.env=zEU::starEach [] X.env:=by rfl)(hpl:(backTo pos wT).any Nh=false:=by rfl) (hs:starEach [a,b] X.env=[Nr,MN]:=by rfl)(hs2:starEach [b] X.env=[MN]:=by rfl):PE X (.Call (.Name "dict" p) [.Call (.Name "zip" Y) [a,b] [] g] [] pos) (x6 ta):=by
 intro pins s σ H Q I h;refine wpAny_Call_Name_kw (Gn I hgd hmd boot_dict ?_ AT AT);refine av ?_ he hpl;rw[he];show wpAny _ _ (spliced (zEU::backTo pos wT)) _ _ s;refine Calls.spliced_cons ?_;refine Call_ (Gn I hg hm boot_zip (av (BW (ha g pins s σ H _ I h) fun us s1 ⟨vs,H1,I1,r1,q1⟩=>?_) (by rw[hs,hs2]) (by rw[hs2];rfl)));obtain⟨b1,b2,l1,l2,xs,ys,ks,e,h1,h2,e1,e2,e3,nd,hh,hk,q⟩:=q1;subst e;cases r1 with
 |cons r rr=>
  cases rr with
  |cons r' rr=>
   cases rr;cases r;cases r';obtain⟨us,rv1,p1⟩:=h1.raw I1;obtain⟨vs,rv2,Y⟩:=h2.raw I1;have T:=p1.lt;have R:=Y.lt;refine ZT.Xk p1 Y fun h' z1 z2 z3 z4 z5 U=>?_;refine Calls.spliced_nil ?_;have s4:s1.heap.objs.size+4<h'.objs.size:=aF z1;have Z:∀m,m<=4->s1.heap.objs.size+m<h'.objs.size:=fun m hm=>aW (Nat.add_le_add_left hm _) s4;have ne:∀(x:AD) m,x<s1.heap.objs.size->x≠s1.heap.objs.size+m:=fun x m hx=>aG (aI hx (Nat.le_add_right _ _));have ap:ZT.Apart (s1.heap.objs.size+4) (s1.heap.objs.size+2) (s1.heap.objs.size+3) s1.heap.objs.size (s1.heap.objs.size+1) [s1.heap.objs.size,l1] [s1.heap.objs.size+1,l2]:=by
    refine⟨⟨by simp,by simp,by simp,by simp⟩,⟨by simp,by simp,by simp⟩,⟨by simp,by simp,by simp⟩,⟨?_,?_,?_⟩,?_,?_,?_⟩
    .simp[Ne.symm (ne l1 4 T)]
    .simp[Ne.symm (ne l1 3 T)]
    .simp[Ne.symm (ne l1 1 T)]
    .simp[Ne.symm (ne l2 4 R)]
    .simp[Ne.symm (ne l2 3 R)]
    .simp only[List.mem_cons,List.not_mem_nil,or_false,not_or];exact⟨aG (bR _),Nat.ne_of_gt R⟩
   refine TH.lz (s:={s1 with heap:=h'}) (n:=s1.heap.objs.size) (z:=s1.heap.objs.size+4) (TI:=s1.heap.objs.size+2) (TO:=s1.heap.objs.size+3) (i1:=s1.heap.objs.size) (i2:=s1.heap.objs.size+1) (b1:=b1) (b2:=b2) (ks:=ks) (us:=us) (vs:=vs) (I1.ok.hd hc) (by show X.A.in1.in1.units+8<cLine;rw[Around.in1_units,Around.in1_units];lia)
    ⟨s4,Z 2 AT,Z 3 AT,Z 0 AT,Z 1 AT⟩ ⟨Nat.le_add_right _ _,Nat.le_add_right _ _,Nat.le_add_right _ _,Nat.le_refl _,Nat.le_add_right _ _⟩ ap (aG T) (ne l2 1 R) T R (by rw[<-rv1.length];exact e1) (by rw[<-rv2.length];exact e2) (aT e3 Ku) nd hh
    (fun h2 kp j k kv hj hv=>?_) z1 z2 z3 z4 (p1.keep fun o e=>U _ _ e) z5 (Y.keep fun o e=>U _ _ e) fun h2 tk kp hD hlt=>?_
   .have hj2:j<xs.length:=by have:=(aD.mp hj).1;lia
    obtain⟨u',r1,r2⟩:=rv1.get (aH hj2);rw[hv]at r1;cases r1;exact((hk j k _ hj (aH hj2)).raw I1 r2).up fun c o e=>kp c o z0 (U c o e)
   .have le:s1.heap.objs.size<=h'.objs.size:=bG (Z 0 AT);refine⟨.ref h'.objs.size,_,I1.laid (a:=h'.objs.size) (o:=dN h'.objs.size zDz) (t':=tk) (fun c o e=>kp c o z0 (U c o e)) le ?_,rfl,q _ (I1.A5.fresh le)⟩;have hb:sysModules<s1.heap.objs.size:=bY AT (I1.mod.glob.keeps I1.bk).lt;have hn:(h'.objs.size==sysModules)=false:=beq_eq_false_iff_ne.mpr (Ne.symm (aG (aI hb le)));obtain⟨o,es,ep,Z,g2,g3,g4⟩:=hD.ob;exact⟨⟨hn,o,es,ep,_,Z,g2,g3,g4,TV rv1 rv2⟩,⟨_,Z⟩,fun h1 h2 ⟨a,o,es,ep,xs,q,r⟩ k=>⟨a,o,es,ep,xs,k _ q,r⟩⟩
end L2
namespace L2
open PySem PySem.Spec PyProof.Rows
def keysOf:List PD->Option (List (Option Tr))
 |[]=>some []
 |d::g=>(keyOf d).bind fun k=>(keysOf g).map fun r=>k::r
def keys_eq:∀ {ds:sw} {ks:QF},keysOf ds=some ks->ds=ks.map Cp
 |[],ks,h=>by cases h;rfl
 |d::ds,ks,h=>by
  rw[keysOf]at h;obtain⟨k,T,R⟩:=aB.mp h;obtain⟨r,g,rfl⟩:=aC.mp R;rw[MT T,keys_eq g];rfl
def Z3:∀ks:List (Option Tr),keysOf (ks.map Cp)=some ks
 |[]=>rfl
 |k::ks=>by rw[List.map_cons,keysOf,N0,Option.bind_some,Z3 ks];rfl
def cE(ks:QF):Bool:=decide ks.Nodup&&ks.all fun k=>(match k with|none=>true|some t=>decide (t.deep<8))&&ks.all fun q=>decide (TH.BJ q≠TH.BJ k)||decide (q=k)
abbrev gb(x y:PD):Option (List KD):=(Fz x).bind fun g=>(Fz y).bind fun es=>(keysOf g).bind fun ks=>if cE ks=true/\es.length=ks.length/\ks.length<=500 then some (ks.zip es) else none
def vp:List PD->Option (List KD)
 |[x,y]=>gb x y
 |_=>none
abbrev Wz(i:Nat)(fs:TQ):DF:=fun δ=>((fs δ).bind vp).map fun kvs=>.nx (δ.set i (.own (.GU kvs)))
def ug{ks:QF}(h:cE ks=true):ks.Nodup/\(∀x∈ks,∀y∈ks,TH.BJ x=TH.BJ y->x=y)/\∀t,some t∈ks->t.deep<8:=by
 unfold cE at h;rw[Bool.and_eq_true]at h;refine⟨aP h.1,fun x R y g e=>?_,fun t T=>?_⟩
 .have:=aL.mp h.2 y g;rw[Bool.and_eq_true]at this;have:=aL.mp this.2 x R;rw[Bool.or_eq_true]at this;rcases this with z|z
  .exact absurd e (aP z)
  .exact aP z
 .have:=aL.mp h.2 _ T;rw[Bool.and_eq_true]at this;exact aP this.1
def gJ{G:Hp}{k:LT}{v:V}(h:Du G (Cp k) v)(hd:∀t,k=some t->t.deep<8):HU G k v:=by
 cases k with
 |none=>rw[Cp,Du]at h;exact h
 |some t=>
  rw[Cp,Du]at h;obtain⟨a,ys,rfl,R,g⟩:=h;exact⟨hd t rfl,a,ys,rfl,R,Gk g⟩
def gz{G:Hp}:∀ {ks:QF} {es:sw} {xs ys:Jh},(∀t,some t∈ks->t.deep<8)->Ao G (ks.map Cp) xs->Ao G es ys->PySem.Paired (PR G) (ks.zip es) zDz
 |[],es,xs,ys,_,_,_=>by simp only[List.zip_nil_left];exact .nil
 |k::ks,[],xs,ys,_,R,g=>by
  rw[g.nil_eq];simp only[List.zip_nil_right];exact .nil
 |k::ks,e::es,xs,ys,hd,R,g=>by
  rw[List.map_cons]at R;obtain⟨x,xs,rfl,Z,U⟩:=R.un;obtain⟨y,ys,rfl,Y,T⟩:=g.un;exact .cons ⟨rfl,gJ Z fun t e=>hd t (by rw[<-show k=some t from e];exact .head _),Y⟩ (gz (fun t h=>hd t (.tail _ h)) U T)
def Y6{α g:Type}:∀ {ks:lX} {es:List g},es.length=ks.length->(ks.zip es).map Nh=ks
 |[],_,_=>by simp
 |k::ks,[],h=>by simp at h
 |k::ks,e::es,h=>by rw[List.zip_cons_cons,List.map_cons,Y6 zCP]
section
variable{X:Cx}{a b e:Expr}{es:yV}{h:yK}{fs:yJ}{pos p p2 pos2 apos:Pos}
def dC{i:Nat}{x:Str}(hc:dO)(hu:Ih)(hgd:Gl X "dict")(hmd:X.mg "dict" = none)(hg:Gl X "zip")(hm:zBR)(ha:DA X [a,b] fs)(hN:zv)(hi:X.N[i]? = some x)(hx:y7) (he:starEach [.Call (.Name "zip" p2) [a,b] [] pos2] X.env=(false,eval (.Call (.Name "zip" p2) [a,b] [] pos2) X.env)::starEach [] X.env:=by rfl)(hpl:(backTo pos wT).any Nh=false:=by rfl) (hs1:starEach [a,b] X.env=[Nr,MN]:=by rfl)(Z:starEach [b] X.env=[MN]:=by rfl) (hs:swapsWith zBv (some (.Name x apos)) g.line X.env=pure false:=by rfl)(hf:X.fn x=true\/X.env.scope.names.lookup x=some .local:=by first|exact .inl rfl|exact .inr rfl|assumption):DS X (.Assign [.Name x apos] zBv g) (Wz i fs):=by
 obtain⟨ta,pa,ka⟩:=ha;refine⟨_,BE hN hi hx (uD hc hu hgd hmd hg hm pa he hpl hs1 Z) hs hf,fun δ r h G0 H0 G H σ D R q=>?_⟩;obtain⟨kvs,h1,rfl⟩:=aC.mp h;obtain⟨as,h2,T⟩:=aB.mp h1;unfold vp at T;split at T
 .rename_i x y;obtain⟨ds,k1,h4⟩:=aB.mp T;obtain⟨es,k2,h5⟩:=aB.mp h4;obtain⟨ks,k3,h6⟩:=aB.mp h5;split at h6
  .rename_i hc;cases h6;refine ka δ _ h2 G0 H0 G H σ [] _ R fun vs G1 H1 R1 Y=>?_;obtain⟨d,R2⟩:=R1.args Y;obtain⟨u,v,rfl,du,dv⟩:=d.Ms;obtain⟨b1,a1,xs,rfl,n1,U⟩:=Io du k1;obtain⟨b2,a2,ys,rfl,m1,m2⟩:=Io dv k2;have:=keys_eq k3;subst this;obtain⟨z1,z2,z3⟩:=ug hc.1;have l1:xs.length=ks.length:=by have:=U.len;rw[List.length_map]at this;lia
   have l2:ys.length=ks.length:=by have:=m2.len;lia
   refine⟨b1,b2,a1,a2,xs,ys,ks,rfl,?_,?_,l1,l2,by lia,z1,z2,fun j k v hj Y=>?_,fun l hl=>q _ _ _ (R2.XD ⟨_,rfl,?_,Ww (gz z3 U m2)⟩ hl)⟩
   .have:=R2.ins _ _ n1;cases b1
    .exact this
    .exact this
   .have:=R2.ins _ _ m1;cases b2
    .exact this
    .exact this
   .obtain⟨w,w1,w2⟩:=U.get (i:=j) (d:=Cp k) (by rw[List.getElem?_map,hj];rfl);rw[Y]at w1;cases w1;exact(gJ w2 fun t e=>z3 t (by rw[<-e];exact aO hj)).same R2.ins
   .rw[Y6 (by rw[List.length_zip,l1,l2,Nat.min_self])];exact z1
  .cases h6
 .cases T
end
def dH:PD->Option Tr
 |.tuple [x,.list g]=>(Ey x).bind fun t=>(EG g).map fun u=>Tr.pr (t,u)
 |_=>none
def kD:Tr->PD
 |.cons t (.cons u .nil)=>.tuple [.tuple (BS t),.list (BS u)]
 |_=>.none
def qb{d:PD}{k:Tr}(h:dH d=some k):d=kD k/\∃t u,k=Tr.pr (t,u):=by
 unfold dH at h;split at h
 .obtain⟨t,T,R⟩:=aB.mp h;obtain⟨u,g,rfl⟩:=aC.mp R;rw[Qi T,Kc g];exact⟨rfl,t,u,rfl⟩
 .cases h
def cutsOf:List PD->Option (List Tr)
 |[]=>some []
 |d::g=>(dH d).bind fun k=>(cutsOf g).map fun r=>k::r
def Zs:∀ {ds:sw} {ks:y8},cutsOf ds=some ks->ds=ks.map kD/\∀k∈ks,∃t u,k=Tr.pr (t,u)
 |[],ks,h=>by cases h;exact⟨rfl,fun k R=>by cases R⟩
 |d::ds,ks,h=>by
  rw[cutsOf]at h;obtain⟨k,Y,U⟩:=aB.mp h;obtain⟨r,T,rfl⟩:=aC.mp U;obtain⟨e1,e2⟩:=qb Y;obtain⟨e3,Z⟩:=Zs T;refine⟨by rw[e1,e3];rfl,fun q g=>?_⟩;rcases aM.mp g with rfl|g
  .exact e2
  .exact Z q g
def oo(ks:yc):yQ:=if ks.length<64/\∀k∈ks,k.deep<=30 then some (.list ((Tr.Cn ks).reverse.map kD)) else none
def Yi:MD
 |[.list g]=>(cutsOf g).bind oo
 |_=>none
def Ao.pick{G:Hp}{ds:sw}{ys:Jh}(h:Ao G ds ys):∀(ix:List Nat),(∀i∈ix,i<ys.length)->Ao G (ix.map fun i=>ds.getD i .none) zAb
 |[],_=>by show Ao G [] [];rw[Ao]
 |i::ix,g=>by
  have hi:=g i GM;have Z:=h.len;rw[List.map_cons,List.map_cons,Ao];refine⟨_,_,rfl,?_,h.pick ix fun j T=>g j (.tail _ T)⟩;have R:ds[i]? = some (ds[i]' AC):=aH _;obtain⟨v,Y,U⟩:=h.get R;rw[List.getD_eq_getElem?_getD,List.getD_eq_getElem?_getD,R,Y];exact U
def qr{G:Hp}{t u:Tr}{v:V}(h:Du G (kD (Tr.pr (t,u))) v):Cv (fun _=>False) G (Tr.pr (t,u)) v:=by
 have h:Du G (.tuple [.tuple (BS t),.list (BS u)]) v:=h;rw[Du]at h;obtain⟨a,xs,rfl,Z,Y⟩:=h;obtain⟨x,y,rfl,R,g⟩:=Y.Ms;rw[Du]at R;rw[Du]at g;obtain⟨b,T,rfl,b1,b2⟩:=R;obtain⟨l,U,rfl,c1,c2⟩:=g;exact⟨a,l,t,u,_,U,rfl,rfl,id,Z,⟨b,T,rfl,b1,Gk b2⟩,c1,Gk c2⟩
section
variable{X:Cx}
def tE(K:Fg):List V->Hp->VK->Prop:=fun xs H Q=>∃(p:AD) (ys:Jh) (ks:y8),xs=[.ref p]/\Ax K H p ys/\yF (fun _=>False) H ks ys/\ys.length<64/\(∀k∈ks,k.deep<=30) /\
 ∀(l:AD) (ix:List Nat),H l=none->(∀i∈ix,i<ys.length)->(ix.map fun i=>ks.getD i Tr.nil)=(Tr.Cn ks).reverse->Q SY (upd H l (.lst zAb))
def cK(hu:Ih):FW X lm (tE X.K):=by
 intro pins s σ H xs us Q I r h;obtain⟨p,ys,ks,rfl,hq,hc,hz,hd,q⟩:=h;obtain⟨u,rfl,r1⟩:=r.one;cases r1;obtain⟨g,U,pl,_⟩:=I.list hq;have hl:=U.length;have hk:=hc.len;have C:GS.gp Tr.ord X.prog X.w s.heap 30 ks g:=TH.mq AC fun i x u h1 h2=>by
  have hi:=(aD.mp h2).1;have hy:=aH (l:=ys) (i:=i) AC;obtain⟨u',T,h4⟩:=U.get hy;rw[h2]at T;cases T;exact⟨(hc.at_ i x _ h1 hy).raw I h4,hd x (aO h1)⟩
 refine GS.jA Tr.nil (GS.YO pl.isList AC) C AC (Tr.Yv AC) AC fun h' D tk ix e1 hD k1 gD Y p2=>?_;have R:∀i∈ix,i<ys.length:=fun i hi=>by
  have:=bV.mp (Y.mem_iff.mp hi)
  lia
 have e:(ix.map fun i=>ks.getD i Tr.nil)=(Tr.Cn ks).reverse:=by
  refine Tr.T1 p2 ?_;have T:=Y.map fun i=>ks.getD i Tr.nil
  rwa [<-hl,hk,TH.map_getD]at T
 have Z:ix.length=g.length:=by rw[Y.length_eq,List.length_range]
 exact⟨.ref D,upd H D (.lst zAb),I.laid (t':=tk) k1 hD ⟨by rw[List.length_map,Z,sizeLine_eq];lia,_,e1,U.pick ix R,gD⟩,rfl,q D _ (I.A5.fresh hD) R e⟩
def jn(hu:Ih):OA X lm Yi:=by
 refine⟨_,cK hu,fun xs z g G0 H0 G H σ δ ts us Q Y d k=>?_⟩;unfold Yi at g;split at g
 .rename_i ds;obtain⟨ks,h1,R⟩:=aB.mp g;obtain⟨e1,e2⟩:=Zs h1;subst e1;unfold oo at R;split at R
  .rename_i hc;cases R;obtain⟨u,rfl,du⟩:=d.Ke;rw[Du]at du;obtain⟨a,ys,rfl,n1,T⟩:=du;have hl:=T.len;rw[List.length_map]at hl;refine⟨a,ys,ks,rfl,Ax.of (Y.ins _ _ n1),⟨hl,fun i q v hq hv=>?_⟩,by lia,hc.2,fun l ix U hx he=>?_⟩
   .obtain⟨t,u,rfl⟩:=e2 q (aO hq);obtain⟨w,Z,w2⟩:=T.get (i:=i) (d:=kD (Tr.pr (t,u))) (by rw[List.getElem?_map,hq];rfl);rw[hv]at Z;cases Z;exact(qr w2).same Y.ins
   .have hp:=T.pick ix hx;have:(ix.map fun i=>(ks.map kD).getD i .none)=(Tr.Cn ks).reverse.map kD:=by
     rw[<-he,List.map_map];refine aY fun i hi=>?_;have:=hx i hi;rw[List.getD_eq_getElem?_getD,List.getElem?_map,List.getElem?_eq_getElem AC];show kD _=kD (ks.getD i Tr.nil);rw[List.getD_eq_getElem?_getD,List.getElem?_eq_getElem AC]
     rfl
    rw[this]at hp;exact k _ _ _ (Y.Uo hp U)
  .cases R
 .cases g
end
end L2
namespace L2
open PySem PySem.Spec PyProof.Rows
def pO(R:TE):TE:=fun σ H Q=>∀p,H p=none->R σ (upd H p (dN p [])) fun v g=>g p=some (dN p [])/\Q xT (upd g p (dN p [(none,.BN,v)]))
def jH{X:Cx}{e:Expr}{te:TE}{j}{p1 pos:Pos}(hu:Ih)(he:PE X e te):PE X (.Dict [some (.Constant .none j p1)] [e] pos) (pO te):=by
 intro pins s σ H Q I q;have hn:=I.A5.fresh (aJ s.heap.objs.size);have U:sysModules<s.heap.objs.size:=bY AT (I.mod.glob.keeps I.bk).lt;have g:(s.heap.objs.size==sysModules)=false:=beq_eq_false_iff_ne.mpr (Ne.symm (aG U));have I1:Inv X pins σ (upd H s.heap.objs.size (dN s.heap.objs.size [])) zCw:=I.laid (a:=s.heap.objs.size) (o:=dN s.heap.objs.size []) (t':=s.toks) (fun _ _ q=>aE _ q) RW
  ⟨⟨g,_,#[],0,[],Heap.get?_push_size _ rfl,⟨rfl,rfl,rfl⟩,rfl,rfl,.nil⟩,⟨_,Heap.get?_push_size _ rfl⟩,fun h1 h2 ⟨a,o,es,ep,xs,q,r⟩ k=>⟨a,o,es,ep,xs,k _ q,r⟩⟩
 rw[arm_eval_Dict,zip_pairTrees [some (.Constant .none j p1)] [e] X.env pos rfl rfl,dictDisplay_pairs _ (by simp[pairTrees]) (by simp[pairTrees])];refine Wb (wpAny_standAt (Wb ?_));unfold subDict;refine Wb (wpAny_alloc ?_);refine Wb (aS ?_);rw[if_pos (by simp[pairTrees])];refine Wb (pairTrees_cons_walk (Constant_none (BW (he pins _ σ _ _ I1 (q _ hn)) fun v s2 ⟨x,H2,I2,r2,hp,q2⟩=>pairTrees_nil_walk ?_)));refine aS ?_;rw[List.forIn_cons];have D:R5 H2 s.heap.objs.size [] none:=⟨hp,fun q R=>by simp at R,by simp,fun q R=>by simp at R⟩;obtain⟨_,xs,hm,pr,Y⟩:=S9 I2 D;have hx:xs=[]:=by cases pr;rfl
 subst hx;refine Wb (Wb (Wb (TH.eZ (k:=none) AC rfl hm Y At fun h' T sb=>aA ?_)));obtain⟨o',es,ep,Z,g2,g3,g4⟩:=T.ob;have I3:Inv X pins σ (upd H2 s.heap.objs.size (dN s.heap.objs.size [(none,.BN,x)])) {s2 with heap:=h',toks:=s2.toks+TH.DJ none}:=I2.write (x:=s.heap.objs.size) (e:=s.heap.objs.size) (o:=dN s.heap.objs.size [(none,.BN,x)]) (t':=s2.toks+TH.DJ none) (by rw[hp];exact trivial) SZ (fun b w' U e=>(sb.2 b U).trans e) ⟨o',Z⟩
  ⟨⟨g,o',es,ep,_,Z,g2,g3,g4,.cons ⟨rfl,rfl,r2⟩ .nil⟩,⟨o',Z⟩,fun h1 h2 ⟨a,o,es,ep,xs,q,r⟩ k=>⟨a,o,es,ep,xs,k _ q,r⟩⟩
 show wpAny _ _ (pure PUnit.unit) _ _ _;exact aA (aA (aA (aA ⟨.ref s.heap.objs.size,_,I3,rfl,q2⟩)))
end L2
namespace L2
open PySem PySem.Spec PyProof.Rows
abbrev iR(i:Nat)(a b:Int):DF:=fun δ=>some (.nx (δ.set i (.own (.GU [(none,.tuple [.int a,.int b])]))))
def ja{H:Hp}{p q:AD}{a b c:HO}(h:p≠q):upd (upd (upd H p a) q b) p c=upd (upd H q b) p c:=by
 funext x
 by_cases z:x=p
 .subst z;rw[AO,AO]
 .rw[AL z,AL z];by_cases y:x=q
  .subst y;rw[AO,AO]
  .rw[AL y,AL y,AL z]
def jG{X:Cx}{i:Nat}{x:Str}{a b:Int}{j1 j2 j3 cx}{p1 p2 p3 Z dp pos T:Pos}(hu:Ih)(hN:zv)(hi:X.N[i]? = some x)(hx:y7) (hs:swapsWith yw (some (.Name x T)) pos.line X.env=pure false:=by rfl)(hf:X.fn x=true\/X.env.scope.names.lookup x=some .local:=by first|exact .inl rfl|exact .inr rfl|assumption):DS X (.Assign [.Name x T] yw pos) (iR i a b) :=
 ⟨_,BE hN hi hx (jH hu (KS (AN Ar (AN Ar Af)))) hs hf,fun δ r h G0 H0 G H σ D R q=>by
  cases h;refine fun p hp=>⟨by show(2:Nat)<=sizeLine;rw[sizeLine_eq];decide,fun l Y=>?_⟩;have g:p≠l:=fun e=>by subst e;rw[AO]at Y;cases Y
  have U:H l=none:=by rwa [AL (Ne.symm g)]at Y
  refine⟨by rw[AL g,AO],?_⟩;rw[ja g];have R1:=R.cJ (xs:=[.int a,.int b]) (vs:=[.int a,.int b]) (by rw[Ao];exact⟨_,_,rfl,by rw[Du],by rw[Ao];exact⟨_,_,rfl,by rw[Du],by rw[Ao]⟩⟩) U;have dv:=R1.B4 _ GM;exact q _ _ _ (R1.drop.XD ⟨[(none,.BN,.ref l)],rfl,by simp,Ww (.cons ⟨rfl,rfl,dv⟩ .nil)⟩ (by rw[AL g];exact hp))⟩
def fe{G0 H0 G H:Hp}{σ:St}{δ:Dv}{ts:RS}{i:Nat}{kvs:zAC}(R:II)(hi:δ[i]? = some (.own (.GU kvs)))(hal:alone i δ=true):∃G1:Hp,Rw G1 H0 G1 H σ zCG ts/\∀x v Y H',N1 x=true->Rw G1 H0 Y H' σ zCG zDw->∃G2,Rw G0 H0 G2 H' σ δ zDw:=by
 have hlt:i<δ.length:=(aD.mp hi).1;obtain⟨a,o,k1,k2,k3,k4,k5,R1⟩:=R.letGo (x:=Bg kvs) hi fun a o h=>ed h;obtain⟨r,rfl,k6,k7⟩:=k5;refine⟨upd G a (dN a r),R1.base,fun x v Y H' hnd R2=>⟨less Y a,?_⟩⟩;have ha:Y a=some (dN a r):=R2.ext _ _ AO;have Z:AM G (less Y a):=fun b u g=>by
  have:b≠a:=fun z=>by subst z;rw[k2]at g;cases g
  rw[Jp this];exact R2.ext _ _ (by rw[AL this];exact g)
 have of:∀b u,less Y a b=some u->b≠a/\Y b=some u:=fun b u g=>by
  by_cases z:b=a
  .subst z;rw[Ur]at g;cases g
  .rw[Jp z]at g;exact⟨z,g⟩
 refine⟨R.ext.trans Z,fun b u g=>?_,fun b u g=>R2.ins _ _ (of b u g).2,R2.keep,R.len,fun j y T=>?_,fun j c T=>?_,R.apart,fun w hw=>?_⟩
 .obtain⟨nb,g⟩:=of b u g;rcases R2.new b u g with z|z|z
  .rw[AL nb]at z;exact R.new _ _ z
  .exact .inr (.inl z)
  .exact .inr (.inr z)
 .obtain⟨w,m1,m2⟩:=R.dat j y T;exact⟨w,m1,m2.same Z⟩
 .by_cases z:i=j
  .subst z;rw[hi]at T;cases T;exact⟨a,dN a r,k1,Ur,k3,R2.ins _ _ ha,r,rfl,k6,HW.same Z k7⟩
  .obtain⟨b,us,m1,m2,m3,m4,m5⟩:=R2.own j c (by rw[List.getElem?_set_ne z];exact T);refine⟨b,us,m1,?_,m3,m4,?_⟩
   .by_cases w:b=a
    .subst w;exact Ur
    .rw[Jp w];exact m2
   .have hjl:j<δ.length:=(aD.mp T).1;have hm:L.own c∈δ.set i .no:=ai.mpr ⟨j,by rw[List.getElem?_set_ne z];exact T⟩;have U:=aL.mp hal _ hm;cases c with
    |lst xs=>
     obtain⟨ys,e1,e2⟩:=m5;exact⟨ys,e1,Og ha U e2⟩
    |kd xs=>cases U
    |GU xs=>cases U
 .rcases aM.mp hw with rfl|hw
  .exact Za ha hnd (R2.B4 _ GM)
  .exact(R.B4 w hw).same Z
section
variable{X:Cx}{x:Str}{px pos:Pos}{iter elt:Expr}{ifs:yV}{scope}{fs:yJ}{tif:yL}{f:yK}
def Y0{i:Nat}{z:Str}{pz g:Pos}(l:Nat)(N:yU)(ix:Nat)(fr:yg)(hN:zv)(hy:X.N[i]? = some z)(Y:X.env.scope.names.lookup z=some .local)(hi:DI X zBe iter fs)(Z:zGF)(he:zGJ) (h1:C6 scope N x ix=true:=by decide +kernel)(h2:X.calm=true:=by rfl)(h3:HE N X.N scope X.env.scope fr 0=true:=by rfl)(h4:fr.length=N.length:=by rfl)(h5:freeOk X.env.scope scope.names=true:=by rfl) (U:swapsWith EQ (some (.Name z pz)) g.line X.env=pure true:=by rfl) (hs:∀x,foldedSetIterable iter X.env x=pure x:=by intro _;rfl):DS X (.Assign [.Name z pz] EQ g) (fun δ=>(WG l (Hh (Ce ix) tif f fr fs) δ).map fun y=>.nx zr):=by
 obtain⟨wi,pi,ki⟩:=hi;refine⟨_,M5 N ix fr hN hy Y pi Z zS h1 h2 h3 h4 h5 U hs,fun δ r h G0 H0 G H σ D R q=>?_⟩;obtain⟨y,m1,rfl⟩:=aC.mp h;obtain⟨kvs,m2,m3⟩:=aB.mp m1;obtain⟨w,m4,T⟩:=aB.mp m3;split at T
 .rename_i hc;cases T;obtain⟨G1,R1,back⟩:=fe R (kF m2) hc.2;exact VH ki m4 R1 fun v G' H' R'=>by
   obtain⟨G2,R2⟩:=back _ _ _ _ hc.1 R';exact q _ _ _ R2.Hw
 .cases T
end
end L2
namespace L2
open PySem PySem.Spec PyProof.Rows
def lJ:PD->PD->Option PD:=fun x y=>(Ey x).bind fun t=>(Ey y).bind fun u=>if t.deep<=60 then some zBs else none
def kx{G:Hp}{x:PD}{t:Tr}{v:V}(h:Ey x=some t)(d:Du G x v):Tv G t v:=by
 cases x with
 |tuple T=>
  rw[Ey]at h;have:=Kc h;subst this;rw[Du]at d;obtain⟨a,xs,rfl,R,g⟩:=d;exact⟨a,xs,rfl,R,Gk g⟩
 |_=>simp[Ey]at h
def lV{X:Cx}(U:Ih):Fm X (compareOp .Gt) lJ:=by
 refine⟨_,mz U,fun x y z g G0 H0 G H σ δ ts u v Q R du dv k=>?_⟩;obtain⟨t,Z,g⟩:=aB.mp g;obtain⟨T,Y,g⟩:=aB.mp g;split at g
 .rename_i hd;cases g;exact⟨t,T,(kx Z du).same R.ins,(kx Y dv).same R.ins,hd,k _ _ _ (R.put Mt)⟩
 .cases g
end L2
namespace Q95
open PySem L2
abbrev Pe:Stmt:=top 10
abbrev OB:Stmt:=top 11
abbrev Fb:Stmt:=top 12
abbrev IZ:Stmt:=top 13
abbrev Fe:Stmt:=top 14
abbrev DK:Stmt:=top 15
abbrev Ia:Stmt:=top 16
abbrev HR:Stmt:=top 17
abbrev J9:Stmt:=top 19
abbrev Kr:Stmt:=top 20
abbrev Gp:Stmt:=top 22
abbrev JV:Stmt:=top 23
abbrev Km:Stmt:=top 24
abbrev FZ:Stmt:=top 25
abbrev OP:Stmt:=top 26
abbrev DP:Stmt:=top 27
abbrev Fd:Stmt:=top 28
abbrev JS:Stmt:=top 29
abbrev LJ:Stmt:=top 30
abbrev OW:Stmt:=top 33
abbrev IE:Stmt:=top 34
abbrev Ot:Stmt:=top 35
abbrev NH:Stmt:=top 37
abbrev Jq:Stmt:=top 38
abbrev IX:Stmt:=top 41
abbrev JA:Stmt:=top 42
abbrev D8:Stmt:=top 43
abbrev GY:Stmt:=top 44
abbrev Jt:Stmt:=top 45
abbrev JO:Stmt:=top 46
abbrev Ny:Stmt:=top 47
abbrev P4:Stmt:=top 48
abbrev HC:Stmt:=top 50
abbrev Hy:Stmt:=top 51
abbrev F4:Stmt:=top 52
abbrev HA:Stmt:=top 53
abbrev KI:Stmt:=top 54
abbrev L7:Stmt:=top 55
abbrev IY:Stmt:=top 57
abbrev Jo:Stmt:=top 58
abbrev KC:Stmt:=top 60
abbrev IG:Stmt:=top 61
abbrev OL:Stmt:=top 62
abbrev OX:Stmt:=top 63
abbrev NG:Stmt:=top 64
abbrev Kl:Stmt:=top 65
abbrev MS:Stmt:=top 66
abbrev Lg:Stmt:=top 67
abbrev Jj:Stmt:=top 68
abbrev L0:Stmt:=top 69
abbrev Li:Stmt:=top 70
abbrev MJ:Stmt:=top 71
abbrev N8:Stmt:=top 73
abbrev lT:Stmt:=top 74
def WU:Sp:=fun vs H Q _=>∃a b,vs=[.int a,.int b]/\Q (.int (FM.gi a b)) H
def SO:Sp:=fun vs H Q _=>∃t b m,vs=[.int t,.int b]/\b≠0/\m<=9000/\b.natAbs<2^m/\∀l H',AM H H'->H' l=some (.tup (Kt (Rat.divInt t b)))->Q SY H'
def rf(K:Fg)(op:Rat->Rat->Rat)(ok:Rat->Prop):Sp:=fun vs H Q _=>∃v w p q n,vs=[v,w]/\Rt K H p v/\Rt K H q w/\FM.Fits p n/\FM.Fits q n/\n<=4000/\ok q /\
 ∀l H',AM H H'->H' l=some (.tup (Kt (op p q)))->Q SY H'
section
variable{P:FS}{w:IO}{K:Fg}{mg:yP}{base:Heap}{f g:AD}{fd gd:Db}
def PL:Ad ["one","other","greater","lesser","rest"] JU (AQ DP):=CG
def vc(σ:St):Nat:=match σ[3]? with|some (some (V.int l))=>l.natAbs|_=>0
def PK(F:Fn K mg "greatest_divisor" DP JU f fd)(Y:mg "abs" = none):AK P w K mg base Ag 1 f fd JU WU:=by
 have sc:=PL;refine F.F.ok (k:=0) sc Kj IS
 .obtain⟨a,b,rfl,_⟩:=h
  rfl
 obtain⟨a,b,rfl,q⟩:=h;refine⟨_,(Ae (BE (i:=2) sc.nd rfl As (D7 OM rfl Y PyProof.Rows.boot_abs (AN zHW Af)))
 (Ae (BE (i:=3) sc.nd rfl As (D7 OM rfl Y PyProof.Rows.boot_abs zAP))
 (Ae (SE aR (ER uy zHF Ar To)
  (Ae (BE (i:=4) sc.nd rfl As (BM NU zGi zHF))
  (Ae (BE (i:=2) sc.nd rfl As zHF)
  (A7 (BE (i:=3) sc.nd rfl As (pv 4))))))
 (A7 (Cf zGi))))),?_⟩
 refine⟨_,rfl,_,rfl,_,rfl,_,rfl,?_⟩;refine SU (fun σ H'=>∃g l r,σ=[some (.int a),some (.int b),some (.int g),some (.int l),r]/\H=H'/\Int.gcd g l=Int.gcd a b/\0<=g/\0<=l) (fun σ _=>vc σ) ?_ ?_ ?_
 .exact⟨_,_,_,rfl,rfl,FM.ZD a b,FM.abs_nonneg a,FM.abs_nonneg b⟩
 .rintro σ H' ⟨g,l,r,rfl,rfl,T,h0,U⟩;refine⟨_,rfl,rfl,_,rfl,Lk lp lp⟩
  .have R:l≠0:=fun z=>by subst z;simp at c
   refine⟨_,rfl,_,rfl,_,_,rfl,rfl,R,_,rfl,_,rfl,⟨_,_,_,rfl,rfl,?_,U,FM.fmod_nonneg R U⟩,?_⟩
   .rw[FM.YX];exact T
   .exact FM.VD g l R
  .have R:l=0:=by simpa using c
   subst R;refine⟨_,rfl,?_⟩;rw[FM.gQ T h0];exact q
 .exact fun σ H Q Q' Z ⟨v,e,s,k,e2,q⟩=>⟨v,e,s,k,e2,Z _ _ q⟩
def Ub:Ad ["top","bottom","shared"] rk (AQ Gp):=CG
def UQ(F:Fn K mg "fraction_of" Gp rk f fd)(BD:zGb) (B2:zGq):AK P w K mg base Ag 2 f fd rk SO:=by
 have sc:=Ub;refine F.F.ok (k:=1) sc Kj IS
 .obtain⟨t,b,m,rfl,_⟩:=h
  rfl
 obtain⟨t,b,m,rfl,T,hm,Z,q⟩:=h;refine⟨_,(Ae (JC (ER WN zGH Ar To)
  (A7 Yc)
  GQ)
 (Ae (BE (i:=2) sc.nd rfl As (DY BD B2 hr rfl (AN zHW zAP)))
 (Ae (JC (ER eC zGH Ar To)
  (A7 (BE (i:=2) sc.nd rfl As (cj YM zGi)))
  GQ)
 (A7 zCR)))),?_⟩
 refine⟨_,rfl,rfl,_,rfl,Lk (fun c=>absurd c zEo) (fun _=>?_)⟩;refine⟨_,rfl,_,rfl,t,b,rfl,?_⟩
 try dsimp only[F0]
 refine RY (fun R H'=>R=[some (.int t),some (.int b),some (.int (FM.gs t b))]/\H=H') (fun nx hn=>?_) ?_
 .refine⟨_,rfl,_,_,rfl,rfl,_,rfl,Lk lp lp⟩
  .have U:b<0:=aP c;refine⟨_,rfl,_,rfl,hn _ _ ⟨?_,rfl⟩⟩;unfold FM.gs;rw[if_pos U]
   rfl
  .have U:¬b<0:=bS (bX.mpr c);refine hn _ _ ⟨?_,rfl⟩;unfold FM.gs;rw[if_neg U]
   rfl
 .rintro R H' ⟨rfl,rfl⟩;have h0:FM.gs t b≠0:=FM.kf T;have Y:(FM.gs t b).natAbs<2^m:=aW (FM.kI T) Z;refine⟨_,rfl,_,rfl,_,_,rfl,rfl,⟨h0,m,hm,Y⟩,_,rfl,_,rfl,_,_,rfl,rfl,⟨h0,m,hm,Y⟩,Q6,fun p hp=>?_⟩;refine q p _ (Ah hp _) ?_;rw[AO];show some zCg=_;rw[FM.Wa T,FM.X2 T]
  rfl
def Vx:Ad JU JU (AQ JV):=CG
def Vt(F:Fn K mg "frac_times" JV JU f fd)(Ck:Fn K mg "fraction_of" Gp rk g gd) (Gs:AK P w K mg base Ag 2 g gd rk SO):AK P w K mg base Ag 3 f fd JU (rf K (fun p q=>p*q) (fun _=>True)):=by
 have sc:=Vx;refine F.F.ok (k:=2) sc Kj (fun cdv A outer s H vs Q E Y h=>?_)
 .obtain⟨v,w,p,q,n,rfl,_⟩:=h
  rfl
 obtain⟨v,w,p,q,n,rfl,⟨a,rfl,sp⟩,⟨b,rfl,sq⟩,T,R,hn,A5,k⟩:=h;refine⟨_,(A7 (Cf (DY Ck Gs Y rfl (AN (BM F7 zGK (FT IM zGH Ar Da)) (AN (BM F7 zGK (FT IM zGH Ar Da)) Af))))),?_⟩;refine⟨_,rfl,_,_,_,_,rfl,rfl,sp,rfl,_,rfl,_,_,_,_,rfl,rfl,sq,rfl,_,_,rfl,rfl,QB T.1 R.1 AC,_,rfl,_,_,_,_,rfl,rfl,sp,rfl,_,rfl,_,_,_,_,rfl,rfl,sq,rfl,_,_,rfl,rfl,QB T.d R.d AC,_,_,n+n,rfl,FM.NP p q,by lia,FM.dd T R,fun l H' Z U=>?_⟩;exact k l H' Z (by rw[FM.Rk p q]at U;exact U)
end
def kY:Sp:=fun vs H Q _=>∃(a:AD) (bs:zG) (k:Nat),vs=[.ref a]/\H a=some (.lst (bs.map V.int))/\(∀b∈bs,1<=b/\b.natAbs<2^k)/\k*bs.length<=4000 /\
 ∀c:Int,1<=c->c.natAbs<2^(k*bs.length+1)->(∀b∈bs,b ∣ c)->Q (.int c) H
def OH{c b:Int}(Y:1<=c)(Z:1<=b):1<=c.fdiv zBX*b/\c ∣ c.fdiv zBX*b/\b ∣ c.fdiv zBX*b/\(c.fdiv zBX).natAbs<=c.natAbs:=by
 have U:0<FM.gi c b:=FM.Ln AC;obtain⟨q,T⟩:=FM.ND c b;obtain⟨r,g⟩:=FM.Ph c b;have e:=FM.GZ (Int.ne_of_gt U) T;refine⟨?_,?_,Int.dvd_mul_left _ _,FM.FV _ _⟩
 .rw[e];have R:0<q:=by
   rcases Int.lt_or_le 0 q with h|h
   .exact h
   .have:=Int.mul_nonpos_of_nonneg_of_nonpos (Int.le_of_lt U) h
    lia
  exact Int.mul_pos R AC
 .rw[e];refine⟨r,?_⟩;rw[g]
  conv=>rhs;rw[T]
  rw[<-g,Int.mul_comm zBX q,Int.mul_assoc,Int.mul_comm zBX r]
  conv=>lhs;rw[g]
  rw[Int.mul_comm zBX r]
def lR:Sp:=fun vs H Q _=>∃(a:AD) (xs:Jh) (ps:List (Int×Int)) (k:Nat),vs=[.ref a]/\H a=some KT/\xs.length=ps.length/\ps.length<=1000/\(∀(j:Nat) x p,xs[j]? = some x->ps[j]? = some p->∃c,x=.ref c/\H c=some zFB) /\
 (∀p∈ps,1<=p.2/\p.1.natAbs<2^k/\p.2.natAbs<2^k)/\k*ps.length<=4000/\∀l H',AM H H'->H' l=some (.tup (Kt (ps.map fun p=>Rat.divInt p.1 p.2).sum))->Q SY H'
def div_add(x y:Int){c:Int}(g:c≠0):Rat.divInt (x+y) c=Rat.divInt x c+Rat.divInt y c:=by
 rw[Rat.divInt_add_divInt _ _ g g,<-Int.add_mul,Rat.divInt_mul_right g]
def div_one{t b c:Int}(R:b≠0)(g:c≠0)(h:b ∣ c):Rat.divInt (t*c.fdiv b) c=Rat.divInt t b:=by
 obtain⟨q,rfl⟩:=h;rw[FM.GZ R rfl,Rat.divInt_mul_right (fun z=>g (by rw[z,Int.mul_zero]))]
def Zv{c:Int}(g:c≠0):∀ {ps:List (Int×Int)},(∀p∈ps,p.2≠0/\p.2 ∣ c)->Rat.divInt (ps.map fun p=>p.1*c.fdiv p.2).sum c=(ps.map fun p=>Rat.divInt p.1 p.2).sum
 |[],_=>by simp
 |p::ps,h=>by
  obtain⟨U,T⟩:=h p aX;rw[List.map_cons,List.sum_cons,List.map_cons,List.sum_cons,div_add _ _ g,div_one U g T,Zv g fun q R=>h q (aU _ R)]
def cQ:Sp:=fun vs H Q _=>∃(b:Int) (p k:Nat),vs=[.int b,.int p]/\b.natAbs<2^k/\k*p<=4000/\Q (.int (b^p)) H
def Si{b:Int}{k e p:Nat}(T:b.natAbs<2^k)(R:e<=p):(b^e).natAbs<2^(k*p+1):=by
 rw[Int.natAbs_pow];have g:b.natAbs^e<=(2^k)^e:=Nat.pow_le_pow_left (bG T) e;rw[<-Nat.pow_mul]at g;exact aW g (Nat.pow_lt_pow_right AT (Nat.lt_succ_of_le (az k R)))
def xh(σ:St):Nat:=match σ[4]? with|some (some (V.int l))=>l.natAbs|_=>0
section
variable{P:FS}{w:IO}{K:Fg}{mg:yP}{base:Heap}{f g g1 g2:AD}{fd gd gd1 gd2:Db}
def MH:Ad ["bottoms","common","bottom"] zAo (AQ Fd):=CG
def Rf(F:Fn K mg "common_bottom" Fd zAo f fd)(BD:zGb) (B2:zGq):AK P w K mg base Ag 2 f fd zAo kY:=by
 have sc:=MH;refine F.F.ok (k:=1) sc Kj IS
 .obtain⟨a,bs,k,rfl,_⟩:=h
  rfl
 obtain⟨a,bs,k,rfl,ha,hb,hk,q⟩:=h;refine⟨_,(Ae (BE (i:=1) sc.nd rfl As Ar)
 (Ae (KZ aR rfl (FQ zHW) zFb
  (A7 zHO))
 (A7 (Cf zGH)))),?_⟩
 refine⟨_,rfl,a,rfl,⟨_,Ax.of ha⟩,Ov (xs:=bs.map V.int) (fun i σ H'=>∃(c:Int) (r:Option V),σ=[some HY,some (.int c),r]/\H=H'/\1<=c/\c.natAbs<2^(k*i+1)/\∀j b,j<i->bs[j]? = some b->b ∣ c) ?_ ?_ ?_ ?_⟩
 .exact⟨1,_,rfl,rfl,by decide,by simp,fun j b h=>absurd h zCr⟩
 .rintro i σ H' _ ⟨c,r,rfl,rfl,_⟩;exact Ax.of ha
 .rintro i x σ H' Y ⟨c,r,rfl,rfl,c1,U,T⟩;have hi:i<bs.length:=by have:=(aD.mp Y).1;simpa using this
  rw[List.getElem?_map,List.getElem?_eq_getElem hi]at Y;cases Y;obtain⟨b1,b2⟩:=hb _ (List.getElem_mem hi);obtain⟨s1,s2,s3,s4⟩:=OH c1 b1;have hg:FM.gi c bs[i]≠0:=Int.ne_of_gt (FM.Ln AC);have hki:k*i+k<=4000:=by
   have:k*M2<=k*bs.length:=az k hi;rw[Nat.mul_succ]at this
   lia
  have n1:(c.fdiv (FM.gi c bs[i])).natAbs<2^(k*i+1):=aW s4 U;refine⟨_,rfl,_,rfl,_,rfl,c,bs[i],rfl,_,_,rfl,rfl,⟨hg,k,by have:k*1<=k*bs.length:=az k AC;lia,Nat.lt_of_le_of_lt (FM.cb AC) b2⟩,_,rfl,_,_,rfl,rfl,QB n1 b2 AC,_,_,rfl,rfl,s1,?_,fun j b Z R=>?_⟩
  .have:=FM.IK n1 b2;rw[Nat.mul_succ,show k*i+k+1=k*i+1+k by lia];exact this
  .by_cases z:j=i
   .subst z;rw[List.getElem?_eq_getElem hi]at R;cases R;exact s3
   .exact Int.dvd_trans (T j b AC R) s2
 .rintro σ H' ⟨c,r,rfl,rfl,c1,U,T⟩;rw[List.length_map]at U T;refine⟨_,rfl,q c c1 U fun b hb=>?_⟩;obtain⟨j,Z⟩:=List.getElem?_of_mem hb;exact T j b (aD.mp Z).1 Z
def Vy:Ad y9 ["some"] (AQ JS):=CG
def V9(F:Fn K mg "frac_total" JS ["some"] f fd)(Cs:Fn K mg "common_bottom" Fd zAo g1 gd1)(Ck:Fn K mg "fraction_of" Gp rk g2 gd2) (Iw:AK P w K mg base Ag 2 g1 gd1 zAo kY)(Gs:AK P w K mg base Ag 2 g2 gd2 rk SO)(FG:zEd):AK P w K mg base Ag 3 f fd ["some"] lR:=by
 have sc:=Vy;refine F.F.ok (k:=2) sc Kj IS
 .obtain⟨a,xs,ps,k,rfl,_⟩:=h
  rfl
 obtain⟨a,xs,ps,k,rfl,ha,hl,h1000,hx,hp,hk,q⟩:=h;have hk1:ps≠[]->k<=4000:=fun hne=>by
  have:k*1<=k*ps.length:=az k (List.length_pos_iff.mpr hne)
  lia
 have at_:∀(i:Nat) (hi:i<xs.length),∃(p:Int×Int) (c:AD),ps[i]? = some p/\xs[i]=.ref c/\H c=some zFB:=fun i hi=>by
  have hpi:ps[i]? = some (ps[i]' AC):=aH _;obtain⟨c,h1,h2⟩:=hx i xs[i] _ (aH hi) hpi;exact⟨_,c,hpi,h1,h2⟩
 refine⟨_,(Ae (BE (i:=1) sc.nd rfl zH (DY Cs Iw hr rfl (AN (HP [".0","part"] 1 [none,none] (FQ zHW) ca zHT) Af)))
 (A7 (Cf (DY Ck Gs hr rfl (AN (D7 (Ob rfl) rfl FG bo (AN zFp Af)) zAP))))),?_⟩
 refine⟨_,rfl,a,rfl,⟨_,Ax.of ha⟩,fun D hD=>Hn (n:=xs.length) (fun i ys H'=>AM H H'/\ys=((ps.take i).map zF).map V.int) ?_ ?_ ?_⟩
 .exact⟨Ah hD _,rfl⟩
 .rintro i ys H0 hi ⟨U,rfl⟩ Z;obtain⟨p,c,h1,h2,h3⟩:=at_ i hi;refine⟨⟨xs,xs[i],Ax.of (U _ _ ha),by simp[hi]⟩,?_,fun x H' y=>?_⟩
  .rw[List.length_map,List.length_map,List.length_take];exact aW (Nat.min_le_left _ _) (aI (show i<1000 by lia) Ku)
  .obtain⟨rfl,y⟩:=y;have R:=y xs (Ax.of (U _ _ ha));rw[List.getElem?_eq_getElem hi,h2]at R;cases R;unfold JY;refine Lh ⟨_,rfl,_,_,_,_,rfl,rfl,BL.of (U _ _ h3),rfl,Z,FP hi ⟨fun b o z=>?_,?_⟩⟩
   .rw[AL (Aa z hD)];exact U _ _ z
   .rw[List.take_succ,h1];simp
 rintro ys H0 ⟨U,rfl⟩ Z;refine⟨⟨xs,Ax.of (U _ _ ha),Nat.le_refl _⟩,?_⟩;rw[hl,List.take_length]at Z;refine⟨D,ps.map zF,k,rfl,Z,fun b hb=>?_,by rw[List.length_map];exact hk,fun c c1 c2 c3=>?_⟩
 .obtain⟨p,T,rfl⟩:=aQ.mp hb;exact⟨(hp p T).1,(hp p T).2.2⟩
 rw[List.length_map]at c2;refine⟨_,rfl,a,rfl,⟨_,Ax.of (U _ _ ha)⟩,fun D2 hD2=>Hn (n:=xs.length) (fun i ys H'=>AM H0 H'/\ys=((ps.take i).map fun p=>p.1*c.fdiv p.2).map V.int) ?_ ?_ ?_⟩
 .exact⟨Ah hD2 _,rfl⟩
 .rintro i ys H1 hi ⟨e1,rfl⟩ Y;have E1:=U.trans e1;obtain⟨p,d,h1,h2,h3⟩:=at_ i hi;have hpm:=aO h1;have hkk:=hk1 (List.ne_nil_of_mem hpm);obtain⟨p1,p2,p3⟩:=hp p hpm;refine⟨⟨xs,xs[i],Ax.of (E1 _ _ ha),by simp[hi]⟩,?_,fun x H' y=>?_⟩
  .rw[List.length_map,List.length_map,List.length_take];exact aW (Nat.min_le_left _ _) (aI (show i<1000 by lia) Ku)
  .obtain⟨rfl,y⟩:=y;have R:=y xs (Ax.of (E1 _ _ ha));rw[List.getElem?_eq_getElem hi,h2]at R;cases R;unfold JY;refine Lh ⟨_,rfl,_,_,_,_,rfl,rfl,BL.of (E1 _ _ h3),rfl,_,rfl,_,rfl,_,_,_,_,rfl,rfl,BL.of (E1 _ _ h3),rfl,_,_,rfl,rfl,⟨by lia,k,by lia,p3⟩,_,_,rfl,rfl,QB p2 (aW (FM.FV c p.2) c2) AC,Y,FP hi ⟨fun b o z=>?_,?_⟩⟩
   .rw[AL (Aa z hD2)];exact e1 _ _ z
   .rw[List.take_succ,h1];simp
 rintro ys H1 ⟨e1,rfl⟩ Y;refine⟨⟨xs,Ax.of ((U.trans e1) _ _ ha),Nat.le_refl _⟩,?_⟩;rw[hl,List.take_length]at Y;refine⟨D2,_,rfl,Ax.of Y,_,rfl,_,c,k*ps.length+1,rfl,by lia,by lia,c2,fun l H' e2 hl'=>?_⟩;refine q l H' (U.trans (e1.trans e2)) ?_;rw[Zv AC fun p T=>⟨by have:=(hp p T).1;lia,c3 _ (ay T)⟩]at hl';exact hl'
def Yq:Ad ["base","power","product","square","left"] zT (AQ LJ):=CG
def Y1(F:Fn K mg "power_of" LJ zT f fd):AK P w K mg base Ag 1 f fd zT cQ:=by
 have sc:=Yq;refine F.F.ok (k:=0) sc Kj IS
 .obtain⟨b,p,k,rfl,_⟩:=h
  rfl
 obtain⟨b,p,k,rfl,hb,hk,q⟩:=h;refine⟨_,(Ae (BE (i:=2) sc.nd rfl As Ar)
 (Ae (BE (i:=3) sc.nd rfl As zHW)
 (Ae (BE (i:=4) sc.nd rfl As zGH)
 (Ae (SE aR (ER Tn (pv 4) Ar To)
  (Ae (JC (ER WN (BM Pl (pv 4) Ar) Ar To)
   (A7 (BE (i:=2) sc.nd rfl As (BM F7 zGi zHF)))
   GQ)
  (Ae (BE (i:=4) sc.nd rfl As (BM Hm (pv 4) Ar))
  (A7 (JC (ER Tn (pv 4) Ar To)
   (A7 (BE (i:=3) sc.nd rfl As (BM F7 zHF zHF)))
   GQ)))))
 (A7 (Cf zGi)))))),?_⟩
 refine⟨_,rfl,_,rfl,?_⟩;refine SU (fun σ H'=>∃e f l:Nat,σ=[some (.int b),some (.int p),some (.int (b^e)),some (.int (b^f)),some (.int l)]/\H=H'/\e+f*l=p) (fun σ _=>xh σ) ?_ ?_ ?_
 .refine⟨0,1,p,?_,rfl,by lia⟩;rw[Int.pow_zero,Int.pow_succ,Int.pow_zero,Int.one_mul]
  rfl
 .rintro σ H' ⟨e,f,l,rfl,rfl,he⟩;refine⟨_,rfl,_,_,rfl,rfl,_,rfl,Lk lp lp⟩
  .have hl:0<l:=by have:=aP c;lia
   have R:f<=p:=by
    have:f*1<=f*l:=az f hl
    lia
   try dsimp only[F0]
   refine RY (fun Y H'=>∃U:Nat,Y=[some (.int b),some (.int p),some (.int (b^U)),some (.int (b^f)),some (.int l)]/\H=H'/\U+f*(2*(l / 2))=p) (fun nx Z=>?_) ?_
   .refine⟨_,rfl,_,_,rfl,rfl,(by show(0:Int)<2;decide),rfl,_,rfl,Lk lp lp⟩
    .have hodd:l % 2=1:=by
      have:((l:Int) % 2)=1:=by simpa using c
      lia
     refine⟨_,rfl,_,rfl,_,_,rfl,rfl,QB (Si hb (show e<=p by lia)) (Si hb R) AC,Z _ _ ⟨e+f,?_,rfl,?_⟩⟩
     .show [some (V.int b),some (V.int p),some (V.int (b^e*b^f)),some (V.int (b^f)),some (V.int l)]=_;rw[<-Int.pow_add]
     .have:l=2*(l / 2)+1:=by lia
      rw[<-he]
      conv=>rhs;rw[this,Nat.mul_add,Nat.mul_one]
      lia
    .have hev:l % 2=0:=by
      have:¬((l:Int) % 2)=1:=by simpa using c
      lia
     refine Z _ _ ⟨e,rfl,rfl,?_⟩;rw[show 2*(l / 2)=l by lia];exact he
   .rintro Y _ ⟨U,rfl,rfl,T⟩;refine⟨_,rfl,_,_,rfl,rfl,⟨by decide,by decide⟩,?_⟩;have el:((l:Int) / 2)=((l / 2:Nat):Int):=by lia
    refine⟨_,rfl,_,_,rfl,rfl,_,rfl,Lk lp lp⟩
    .refine⟨_,rfl,_,rfl,_,_,rfl,rfl,QB (Si hb R) (Si hb R) AC,⟨U,f+f,l / 2,?_,rfl,?_⟩,?_⟩
     .show [some (V.int b),some (V.int p),some (V.int (b^U)),some (V.int (b^f*b^f)),some (V.int ((l:Int) / 2))]=_;rw[el,<-Int.pow_add]
     .rw[<-T,<-Nat.two_mul,Nat.mul_assoc,Nat.mul_left_comm]
     .show((l:Int) / 2).natAbs<((l:Nat):Int).natAbs
      lia
    .refine⟨⟨U,f,l / 2,?_,rfl,?_⟩,?_⟩
     .show [some (V.int b),some (V.int p),some (V.int (b^U)),some (V.int (b^f)),some (V.int ((l:Int) / 2))]=_;rw[el]
     .have:l / 2=0:=by have:=bS (bX.mpr c);lia
      rw[this]at T ⊢
      simpa using T
     .show((l:Int) / 2).natAbs<((l:Nat):Int).natAbs
      lia
  .have hl:l=0:=by have:=bS (bX.mpr c);lia
   subst hl;rw[Nat.mul_zero,Nat.add_zero]at he;subst he;exact⟨_,rfl,q⟩
 .exact fun σ H Q Q' hq ⟨v,e,s,k,e2,e3,e4,q1,q2⟩=>⟨v,e,s,k,e2,e3,e4,q1,hq _ _ q2⟩
end
def DU(H:Hp)(d:PD)(v:V):Prop:=∃N:Nat,∀l,N<=l->Dt l H d v
def CH(H:Hp)(ds:yM)(xs:yb):Prop:=∃N:Nat,∀l,N<=l->BP l H ds xs
def DU.same{H H':Hp}{d:PD}{v:V}(h:DU H d v)(e:mo):DU H' d v:=let⟨N,k⟩:=h;⟨N,fun l g=>(k l g).same e⟩
def CH.same{H H':Hp}{d:yM}{v:yb}(h:CH H d v)(e:mo):CH H' d v:=let⟨N,k⟩:=h;⟨N,fun l g=>(k l g).same e⟩
def DU.int{H:Hp}{i:Int}:DU H pp pp:=⟨0,fun _ _=>.int⟩
def DU.bool{H:Hp}{i:Bool}:DU H (.bool i) (.bl i):=⟨0,fun _ _=>.bool⟩
def DU.BN{H:Hp}:DU H .none .BN:=⟨0,fun _ _=>.BN⟩
def DU.str{H:Hp}{x:Str}:DU H (.str x) (.str x):=⟨0,fun _ _=>.str⟩
def CH.nil{H:Hp}:CH H [] []:=⟨0,fun _ _=>.nil⟩
def CH.cons{H:Hp}{d:PD}{ds:yM}{x:V}{xs:yb}(h:DU H d x)(k:CH H ds xs):CH H (d::ds) (x::xs) :=
 let⟨N,a⟩:=h;let⟨M,b⟩:=k;⟨max N M,fun l g=>.cons (a l AC) (b l AC)⟩
def CH.len{H:Hp}{ds:yM}{xs:yb}(h:CH H ds xs):xs.length=ds.length:=let⟨N,a⟩:=h;(a N RW).len
def CH.get{H:Hp}{ds:yM}{xs:yb}{i:Nat}{d:PD}(h:CH H ds xs)(e:ds[i]? = some d):∃v,xs[i]? = some v/\DU H d v:=by
 have g:=h.len;have hi:i<xs.length:=by rw[g];exact(aD.mp e).1
 have R:xs[i]? = some xs[i]:=by simp[hi]
 obtain⟨N,a⟩:=h;refine⟨xs[i],R,N,fun l g=>?_⟩;obtain⟨Y,T,U⟩:=(a l g).get R;rw[e]at T;cases T;exact U
def DU.lst{H:Hp}{a:AD}{ds:yM}{xs:yb}(h:H a=some KT)(k:CH H ds xs):DU H (.list ds) HY :=
 let⟨N,b⟩:=k;⟨max N (a+1),fun l g=>.lst zDL h (b l AC)⟩
def DU.tup{H:Hp}{a:AD}{ds:yM}{xs:yb}(h:H a=some LE)(k:CH H ds xs):DU H (.tuple ds) HY :=
 let⟨N,b⟩:=k;⟨max N (a+1),fun l g=>.tup zDL h (b l AC)⟩
def DU.iQ{H:Hp}{ds:yM}{v:V}(h:DU H (.list ds) v):∃a xs,v=.ref a/\H a=some KT/\CH H ds xs:=by
 obtain⟨N,b⟩:=h;have h0:=b N RW;rw[Dt]at h0;obtain⟨a,xs,rfl,_,ha,_⟩:=h0;refine⟨a,xs,rfl,ha,N,fun l Y=>?_⟩;have T:=b l Y;rw[Dt]at T;obtain⟨Z,U,e,_,g,R⟩:=T;cases e;rw[ha]at g;cases g;exact R
def DU.vR{H:Hp}{ds:yM}{v:V}(h:DU H (.tuple ds) v):∃a xs,v=.ref a/\H a=some LE/\CH H ds xs:=by
 obtain⟨N,b⟩:=h;have h0:=b N RW;rw[Dt]at h0;obtain⟨a,xs,rfl,_,ha,_⟩:=h0;refine⟨a,xs,rfl,ha,N,fun l Y=>?_⟩;have T:=b l Y;rw[Dt]at T;obtain⟨Z,U,e,_,g,R⟩:=T;cases e;rw[ha]at g;cases g;exact R
def CH.Ms{H:Hp}{d e:PD}{xs:yb}(h:CH H [d,e] xs):∃x y,xs=[x,y]/\DU H d x/\DU H e y:=by
 obtain⟨x,R,U⟩:=h.get (i:=0) rfl;obtain⟨y,g,T⟩:=h.get (i:=1) rfl;have:=h.len
 match xs,this with
 |[a,b],_=>
  simp at R g;subst R g;exact⟨a,b,rfl,U,T⟩
mutual
def uS{c:AD}{H:Hp}:∀ {d:PD} {v:V},Dt c H d v->DU H d v
 |.none,_,h=>by rw[Dt]at h;subst h;exact .BN
 |.bool _,_,h=>by rw[Dt]at h;subst h;exact .bool
 |.int _,_,h=>by rw[Dt]at h;subst h;exact .int
 |.str _,_,h=>by rw[Dt]at h;subst h;exact .str
 |.tuple _,_,h=>by
  rw[Dt]at h;obtain⟨a,xs,rfl,n,R,g⟩:=h;exact .tup R (Lr g)
 |.list _,_,h=>by
  rw[Dt]at h;obtain⟨a,xs,rfl,n,R,g⟩:=h;exact .lst R (Lr g)
 |.dict _,_,h=>by rw[Dt]at h;exact h.elim
def Lr{c:AD}{H:Hp}:∀ {ds:sw} {xs:Jh},BP c H ds xs->CH H ds xs
 |[],_,h=>by rw[BP]at h;subst h;exact .nil
 |_::_,_,h=>by
  rw[BP]at h;obtain⟨x,r,rfl,R,g⟩:=h;exact .cons (uS R) (Lr g)
end
def DU.ints{H:Hp}{ps:yT}{v:V}(h:DU H (.tuple (ps.map .int)) v):∃a,v=.ref a/\H a=some (.tup (ps.map V.int)):=by
 obtain⟨a,xs,rfl,ha,T⟩:=h.vR;refine⟨a,rfl,?_⟩;rw[ha]
 congr 2
 obtain⟨N,b⟩:=T;have:=b N RW;clear b ha h
 induction ps generalizing xs with
 |nil=>rw[List.map_nil,BP]at this;exact this
 |cons p ps R=>
  rw[List.map_cons,BP]at this;obtain⟨x,r,rfl,g,U⟩:=this;rw[Dt]at g;subst g;rw[List.map_cons,R r U]
def RX{i n:Nat}(h:i<n)(hn:n<=60):i<sizeLine:=aI (show i<60 by lia) Ku
def uA{n:Nat}(hn:n<=60):n<=sizeLine:=aT hn Ku
structure Tb where
 rs:List (List Rat)
 ls:List Rat
def Be(r:ya):yM:=r.map AX
def BS(r:ya):PD:=.list (Be r)
def Bp(rs:List ya):yM:=rs.map BS
def Cz(t:Tb):PD:=.tuple [.list zDZ,.list (Be t.ls)]
structure Tb.Ok(m:Nat)(t:Tb):Prop where
 one:1<=t.rs.length
 most:t.rs.length<=m
 last:t.ls.length=t.rs.length
 row:∀(i:Nat) r,t.rs[i]? = some r->r.length=i
def HS(r:ya):(Be r).length=r.length:=bc _
def MG(r:List ya):(Bp r).length=r.length:=bc _
def CH.gY{H:Hp}{d:PD}{ds:yM}{xs:yb}(h:CH H (d::ds) xs):∃x r,xs=x::r/\DU H d x/\CH H ds r:=by
 obtain⟨N,b⟩:=h;have h0:=b N RW;rw[BP]at h0;obtain⟨x,r,rfl,_,_⟩:=h0;refine⟨x,r,rfl,⟨N,fun l g=>?_⟩,⟨N,fun l g=>?_⟩⟩
 .have:=b l g;rw[BP]at this;obtain⟨_,_,e,R,_⟩:=this;cases e;exact R
 .have:=b l g;rw[BP]at this;obtain⟨_,_,e,_,R⟩:=this;cases e;exact R
def DU.rat{H:Hp}{q:Rat}{v:V}(h:DU H (AX q) v):∃p,v=.ref p/\H p=some (.tup (Kt q)):=h.ints (ps:=[q.num,(q.den:Int)])
def W8{H:Hp}{q:Rat}{p:AD}(h:H p=some (.tup (Kt q))):DU H (AX q) xT:=.tup h (.cons .int (.cons .int .nil))
def Ro{c:AD}{zs:Jh}{H:Hp}(R:H c=some (.lst zs)):∀ {g:oN} {xs:Jh},CH H (Be g) xs->BP c H (Be g) xs
 |[],xs,h=>by
  have:=h.len;rw[show Be []=[] from rfl,List.length_nil]at this;rw[List.eq_nil_of_length_eq_zero this];exact .nil
 |q::g,xs,h=>by
  obtain⟨x,r,rfl,Y,U⟩:=CH.gY h;obtain⟨p,rfl,T⟩:=Y.rat;exact .cons (.tup (fun z=>by subst z;rw[T]at R;cases R) T (.cons .int (.cons .int .nil))) (Ro R U)
def eu{c:AD}{zs:yb}{H H':Hp}(R:H c=some (.lst zs))(e:SameBut c H H'){g:ya}{xs:yb}(h:CH H (Be g) xs):CH H' (Be g) xs:=Lr (.but e (Ro R h))
def rS{c a:AD}{zs xs:yb}{H:Hp}{g:ya}(R:H c=some (.lst zs))(n:a≠c)(ha:H a=some KT)(h:CH H (Be g) xs):Dt c H (BS g) HY:=.lst n ha (Ro R h)
def CH.set{H:Hp}{d:PD}{v:V}(g:DU H d v):∀ {ds:sw} {xs:Jh} {j:Nat},CH H ds xs->CH H (ds.set j d) (xs.set j v)
 |[],xs,j,h=>by
  have:=h.len;rw[List.length_nil]at this;rw[List.eq_nil_of_length_eq_zero this];exact .nil
 |e::es,xs,j,h=>by
  obtain⟨x,r,rfl,T,R⟩:=h.gY;cases j with
  |zero=>exact .cons g R
  |succ j=>exact .cons T (CH.set (j:=j) g R)
def DU.tab{H:Hp}{t:Tb}{v:V}(h:DU H (Cz t) v):∃p R L xs ys,v=.ref p/\H p=some (.tup [.ref R,.ref L])/\H R=some KT/\CH H zDZ xs/\H L=some Ix/\CH H (Be t.ls) ys:=by
 obtain⟨p,zs,rfl,g,h1⟩:=h.vR;obtain⟨x,y,rfl,h2,h3⟩:=h1.Ms;obtain⟨R,xs,rfl,T,Z⟩:=h2.iQ;obtain⟨L,ys,rfl,U,Y⟩:=h3.iQ;exact⟨p,R,L,xs,ys,rfl,g,T,Z,U,Y⟩
def Tz{H:Hp}{t:Tb}{p R L:AD}{xs ys:yb}(g:H p=some (.tup [.ref R,.ref L]))(T:H R=some KT)(Z:CH H zDZ xs)(U:H L=some Ix)(Y:CH H (Be t.ls) ys):DU H (Cz t) xT :=
 .tup g (.cons (.lst T Z) (.cons (.lst U Y) .nil))
def OT{H:Hp}{rs:List ya}{xs:yb}{i:Nat}{r:ya}(h:CH H (Bp rs) xs)(g:rs[i]? = some r):∃a ys,xs[i]? = some HY/\H a=some Ix/\CH H (Be r) ys:=by
 obtain⟨v,Y,U⟩:=h.get (i:=i) (d:=BS r) (by rw[Bp,List.getElem?_map,g];rfl);obtain⟨a,ys,rfl,T,R⟩:=U.iQ;exact⟨a,ys,Y,T,R⟩
def FR(c b:Int):Int:=c.fdiv zBX*b
def JH(bs:yT):Int:=bs.foldl FR 1
def XX{k:Nat}:∀(bs:zG) (c:Int) (n:Nat),1<=c->c.natAbs<2^n->(∀b∈bs,1<=b/\b.natAbs<2^k) ->
  1<=bs.foldl FR c/\(bs.foldl FR c).natAbs<2^(n+k*bs.length)/\c ∣ bs.foldl FR c/\∀b∈bs,b ∣ bs.foldl FR c
 |[],c,n,T,R,_=>⟨T,by simpa using R,Int.dvd_refl _,fun _ z=>(List.not_mem_nil z).elim⟩
 |b::bs,c,n,T,R,h=>by
  obtain⟨b1,b2⟩:=h b aX;obtain⟨s1,s2,Z,Y⟩:=OH T b1;have n1:(FR c b).natAbs<2^(n+k):=FM.IK (aW Y R) b2;obtain⟨r1,r2,U,r4⟩:=XX bs (FR c b) (n+k) s1 n1 fun y g=>h y (aU _ g);refine⟨r1,?_,Int.dvd_trans s2 U,fun y g=>?_⟩
  .rw[List.length_cons,Nat.mul_succ,show n+(k*bs.length+k)=n+k+k*bs.length by lia];exact r2
  .rcases aM.mp g with rfl|g
   .exact Int.dvd_trans Z U
   .exact r4 y g
def Zf{k:Nat}{bs:yT}(h:∀b∈bs,1<=b/\b.natAbs<2^k):1<=JH bs/\(JH bs).natAbs<2^(1+k*bs.length)/\∀b∈bs,b ∣ JH bs:=by
 obtain⟨a,b,_,d⟩:=XX bs 1 1 AT AT h;exact⟨a,b,d⟩
def fm(bs:yT)(b:Int):JH (bs++[b])=FR (JH bs) b:=by
 unfold JH;rw[List.foldl_append]
 rfl
def iM:Sp:=fun vs H Q _=>∃(a:AD) (bs:zG) (k:Nat),vs=[.ref a]/\H a=some (.lst (bs.map V.int))/\(∀b∈bs,1<=b/\b.natAbs<2^k)/\k*bs.length<=4000/\Q (.int (JH bs)) H
def LP(rs:ya)(B:Int):yT:=rs.map fun r=>r.num*B.fdiv (r.den:Int)
def f7:Sp:=fun vs H Q _=>∃(a:AD) (xs:Jh) (rs:oN) (B:Int) (n m:Nat),vs=[.ref a,.int B]/\H a=some KT/\CH H (Be rs) xs/\rs.length<=50/\(∀r∈rs,FM.Fits r n)/\B.natAbs<2^m/\n+m<=4000 /\
 ∀D H',AM H H'->H D=none->H' D=some (.lst ((LP rs B).map V.int))->Q ra H'
def LR{H:Hp}{g:ya}{xs:yb}{i:Nat}{q:Rat}(h:CH H (Be g) xs)(R:g[i]? = some q):∃p,xs[i]? = some xT/\H p=some (.tup (Kt q)):=by
 obtain⟨v,Y,U⟩:=h.get (i:=i) (d:=AX q) (by rw[Be,List.getElem?_map,R];rfl);obtain⟨p,rfl,T⟩:=U.rat;exact⟨p,Y,T⟩
def ZX{rs:ya}{n:Nat}(h:∀r∈rs,FM.Fits r n):∀b∈rs.map (fun r=>(r.den:Int)),1<=b/\b.natAbs<2^n:=fun b R=>by
 obtain⟨r,g,rfl⟩:=aQ.mp R;have:=r.den_nz;exact⟨by lia,(h r g).d⟩
section
variable{P:FS}{w:IO}{K:Fg}{mg:yP}{base:Heap}{f g:AD}{fd gd:Db}
def Qq(F:Fn K mg "common_bottom" Fd zAo f fd)(BD:zGb) (B2:zGq):AK P w K mg base Ag 2 f fd zAo iM:=by
 have sc:=MH;refine F.F.ok (k:=1) sc Kj IS
 .obtain⟨a,bs,k,rfl,_⟩:=h
  rfl
 obtain⟨a,bs,k,rfl,ha,T,hk,q⟩:=h;refine⟨_,(Ae (BE (i:=1) sc.nd rfl As Ar)
 (Ae (KZ aR rfl (FQ zHW) zFb
  (A7 zHO))
 (A7 (Cf zGH)))),?_⟩
 refine⟨_,rfl,a,rfl,⟨_,Ax.of ha⟩,Ov (xs:=bs.map V.int) (fun i σ H'=>∃(r:Option V),σ=[some HY,some (.int (JH (bs.take i))),r]/\H=H') ?_ ?_ ?_ ?_⟩
 .exact⟨_,rfl,rfl⟩
 .rintro i σ H' _ ⟨r,rfl,rfl⟩;exact Ax.of ha
 .rintro i x σ H' R ⟨r,rfl,rfl⟩;have hi:i<bs.length:=by have:=(aD.mp R).1;simpa using this
  rw[List.getElem?_map,List.getElem?_eq_getElem hi]at R;cases R;obtain⟨b1,b2⟩:=T _ (List.getElem_mem hi);obtain⟨c1,U,_⟩:=Zf (k:=k) (bs:=bs.take i) fun y hy=>T y (bW hy);rw[List.length_take,Nat.min_eq_left AC]at U;obtain⟨s1,s2,s3,Y⟩:=OH c1 b1;have hg:FM.gi (JH (bs.take i)) bs[i]≠0:=Int.ne_of_gt (FM.Ln AC);have hki:k*i+k<=4000:=by
   have:k*M2<=k*bs.length:=az k hi;rw[Nat.mul_succ]at this
   lia
  have Z:((JH (bs.take i)).fdiv (FM.gi (JH (bs.take i)) bs[i])).natAbs<2^(1+k*i):=aW Y U;refine⟨_,rfl,_,rfl,_,rfl,JH (bs.take i),bs[i],rfl,_,_,rfl,rfl,⟨hg,k,by have:k*1<=k*bs.length:=az k AC;lia,Nat.lt_of_le_of_lt (FM.cb AC) b2⟩,_,rfl,_,_,rfl,rfl,QB Z b2 AC,some (.int bs[i]),?_,rfl⟩;rw[List.take_add_one,List.getElem?_eq_getElem hi];show _=[some (V.ref a),some (V.int (JH (bs.take i++[bs[i]]))),some (V.int bs[i])];rw[fm]
  rfl
 .rintro σ H' ⟨r,rfl,rfl⟩;rw[List.length_map,List.take_length];exact⟨_,rfl,q⟩
def XM:Ad y9 y9 (AQ NH):=CG
def X9(F:Fn K mg "tops_over" NH y9 f fd):AK P w K mg base Ag 1 f fd y9 f7:=by
 have sc:=XM;refine F.F.ok (k:=0) sc Kj (fun cdv A outer s H vs Q E Y h=>?_)
 .obtain⟨a,xs,rs,B,n,m,rfl,_⟩:=h
  rfl
 obtain⟨a,xs,rs,B,n,m,rfl,ha,dx,hl,hf,hB,hnm,q⟩:=h;have hxl:xs.length=rs.length:=by rw[dx.len,HS]
 refine⟨_,(A7 (Cf zFp)),?_⟩;refine⟨_,rfl,a,rfl,⟨_,Ax.of ha⟩,fun D hD=>Hn (n:=xs.length) (fun i ys H'=>AM H H'/\ys=(LP (rs.take i) B).map V.int) ⟨Ah hD _,rfl⟩ ?_ ?_⟩
 .rintro i ys H1 hi ⟨T,rfl⟩ R;have Y:rs[i]? = some (rs[i]' AC):=aH _;obtain⟨p,Z,U⟩:=LR dx Y;have ft:=hf _ (aO Y);generalize rs[i]' AC=r at Y U ft;have hd:=r.den_nz;refine⟨⟨xs,.ref p,Ax.of (T _ _ ha),Z⟩,RX (n:=60) (by unfold LP;simp;lia) AT,fun x H' y=>?_⟩;obtain⟨rfl,y⟩:=y;have hx:=y xs (Ax.of (T _ _ ha));rw[Z]at hx;cases hx;unfold JY;have n2:(B.fdiv (r.den:Int)).natAbs<2^m:=aW (FM.FV _ _) hB;refine Lh ⟨_,rfl,_,_,_,_,rfl,rfl,BL.of (T _ _ U),rfl,_,rfl,_,rfl,_,_,_,_,rfl,rfl,BL.of (T _ _ U),rfl,_,_,rfl,rfl,⟨by lia,n,by lia,ft.d⟩,_,_,rfl,rfl,QB ft.1 n2 AC,R,FP hi ⟨fun b o z=>?_,?_⟩⟩
  .rw[AL (Aa z hD)];exact T _ _ z
  .rw[List.take_add_one,Y,LP,LP,List.map_append,List.map_append]
   rfl
 .rintro ys H1 ⟨T,rfl⟩ R;rw[hxl,List.take_length]at R;exact⟨⟨xs,Ax.of (T _ _ ha),Nat.le_refl _⟩,q D H1 T hD R⟩
end
def EZ(a b:yT):yT:=List.zipWith (· * ·) a b
def Xm(a b:yT):Int:=(EZ a b).sum
def Fw(n:Nat):yT:=List.replicate n 1
def RO(rows:zEe):Tr->List Int->List Int
 |.nil,g=>g
 |.cons b r,g=>RO rows r (EZ g (rows.map fun row=>Xm row (RO rows b UV)))
def FK(rows:List yT)(t:Tr):yT:=rows.map fun row=>Xm row (RO rows t UV)
def TN(rows:zEe):∀(t:Tr) (g:zG),RO rows t g=t.bs.foldl eG g
 |.nil,g=>rfl
 |.cons b r,g=>by
  rw[RO,Tr.bs,List.foldl_cons,TN rows r]
  rfl
def NY(rows:List yT)(t:Tr):(FK rows t).length=rows.length:=bc _
def jD{a b:yT}(h:a.length=b.length):(EZ a b).length=a.length:=by unfold EZ;rw[List.length_zipWith,h,Nat.min_self]
def EF(n:Nat)(xs:yT):Prop:=∀x∈xs,x.natAbs<=n
def EF.mul{m n:Nat}:∀ {a b:zG},EF m a->EF n b->EF (m*n) (EZ a b)
 |[],_,_,_=>fun x h=>by cases h
 |_::_,[],_,_=>fun x h=>by cases h
 |x::a,y::b,ha,g=>fun z h=>by
  have h:z∈x*y::EZ a b:=h;rcases aM.mp h with rfl|h
  .rw[Int.natAbs_mul];exact bh (ha x GM) (g y GM)
  .exact EF.mul (fun x h=>ha x (.tail _ h)) (fun x h=>g x (.tail _ h)) z h
def fM{n:Nat}:∀ {a:zG},EF n a->a.sum.natAbs<=a.length*n
 |[],_=>aq _
 |x::a,h=>by
  have R:=h x GM;have g:=fM (a:=a) fun x h'=>h x (.tail _ h');rw[List.sum_cons,List.length_cons,Nat.succ_mul];have:=Int.natAbs_add_le x a.sum
  lia
def oy{m n:Nat}{a b:yT}(ha:EF m a)(R:EF n b):(Xm a b).natAbs<=a.length*m*n:=by
 have h:=fM (ha.mul R);have g:(EZ a b).length<=a.length:=by unfold EZ;rw[List.length_zipWith];exact Nat.min_le_left _ _
 refine aT h ?_;rw[Nat.mul_assoc];exact Nat.mul_le_mul_right _ g
structure KU(rows:zEe)(c:Nat):Prop where
 len:rows.length<=1000
 one:∀row∈rows,row.length<=rows.length
 big:∃M,(∀row∈rows,EF M row)/\M<=2^c/\∀row∈rows,row.length*M<=2^c
def EF.mono{m n:Nat}{xs:yT}(h:EF m xs)(e:m<=n:=by decide):EF n xs:=fun x g=>aT (h x g) e
def Uj(n k:Nat):EF (2^k) (Fw n):=fun x h=>by
 unfold Fw at h;rw[List.eq_of_mem_replicate h];exact Nat.one_le_two_pow
def kP{rows:List yT}{c:Nat}(h:KU rows c){t:Tr}{k:Nat}(T:EF (2^(c*k)) (RO rows t UV)):EF (2^(c*RJ)) (FK rows t):=fun x g=>by
 unfold FK at g;obtain⟨row,R,rfl⟩:=aQ.mp g;obtain⟨M,Y,_,U⟩:=h.big;have:=oy (Y row R) T;refine aT this ?_;rw[Nat.mul_add,Nat.mul_one,Nat.add_comm,Nat.pow_add];exact Nat.mul_le_mul_right _ (U row R)
def Ss{rows:zEe}{c:Nat}(h:KU rows c):∀(t:Tr) (g:zG) (j:Nat),g.length=rows.length->EF (2^(c*j)) g->(RO rows t g).length=rows.length/\EF (2^(c*(j+(t.AI-1)))) (RO rows t g)
 |.nil,g,j,R,ha=>⟨R,ha⟩
 |.cons b r,g,j,R,ha=>by
  have T:=Ss h b UV 0 zFC (Uj _ _);have kb:1<=b.AI:=Tr.EJ b;have kr:1<=r.AI:=Tr.EJ r;rw[Nat.zero_add]at T;have Z:=kP h T.2;rw[show b.AI-1+1=b.AI by lia]at Z;have Y:=ha.mul Z;rw[<-Nat.pow_add,<-Nat.mul_add]at Y;have U:=Ss h r (EZ g (FK rows b)) (j+b.AI) (by rw[jD (by rw[R,NY])];exact R) Y;rw[RO,Tr.AI];refine⟨U.1,?_⟩;rw[show j+(b.AI+r.AI-1)=j+b.AI+(r.AI-1) by lia];exact U.2
def bq{rows:List yT}{c:Nat}(h:KU rows c)(t:Tr):EF (2^(c*t.AI)) (FK rows t):=by
 have R:=(Ss h t UV 0 zFC (Uj _ _)).2;have T:1<=t.AI:=Tr.EJ t;rw[Nat.zero_add]at R;have g:=kP h R;rw[show t.AI-1+1=t.AI by lia]at g;exact g
def Z9{m:Nat}(hm:m+1<=1000000){x y:Int}(R:x.natAbs<=2^m)(g:y.natAbs<=2^m):Xz x y\/Sn x y:=by
 have:2^m<2^(m+1):=Nat.pow_lt_pow_of_lt AT (bR m);exact .inr ⟨m+1,hm,Nat.lt_of_le_of_lt R this,Nat.lt_of_le_of_lt g this⟩
def Lq{n:Nat}(h:n<=1000):n<sizeLine:=aW h Ku
def FD{H H':Hp}{p:AD}(e:mo)(h:H' p=none):H p=none:=by
 cases z:H p with
 |none=>rfl
 |some o=>rw[e _ _ z]at h;cases h
def ints_get{ps:yT}{i:Nat}{x:Int}(h:ps[i]? = some x):(ps.map V.int)[i]? = some (.int x):=by rw[List.getElem?_map,h];rfl
def U2{xs ys:yT}{i:Nat}{x y:Int}(R:xs[i]? = some x)(g:ys[i]? = some y):(EZ xs ys).take M2=(EZ xs ys).take i++[x*y]:=by
 have h:(EZ xs ys)[i]? = some (x*y):=by unfold EZ;rw[List.getElem?_zipWith,R,g]
 rw[List.take_add_one,h];rfl
def rO:Sp:=fun vs H Q _=>∃a b xs ys m,vs=[.ref a,.ref b]/\H a=some (.lst (xs.map V.int))/\H b=some (.lst (ys.map V.int))/\xs.length<=ys.length/\xs.length<=1000/\m+1<=1000000/\EF (2^m) xs/\EF (2^m) ys/\∀H',AM H H'->Q (.int (Xm xs ys)) H'
section
variable{P:FS}{w:IO}{K:Fg}{mg:yP}{base:Heap}{f:AD}{fd:Db}
def dQ:Ad zAW zAW (AQ P4):=CG
def cC(F:Fn K mg "read_by" P4 zAW f fd)(FG:zEd)(EU:zCZ):AK P w K mg base Ag 1 f fd zAW rO:=by
 have sc:=dQ;refine F.F.ok (k:=0) sc Kj IS
 .obtain⟨a,b,ps,qs,m,rfl,_⟩:=h
  rfl
 obtain⟨a,b,ps,qs,m,rfl,ha,hb,hl,h60,hm,sx,sy,q⟩:=h;refine⟨_,(A7 (Cf (D7 (Ob rfl) rfl FG bo (AN (Pz [".0","part","share"] 1 2 [none,none,none] (X7 rfl EU (AN zHW zAP)) ca (fun _ _ _ _ _=>(BM F7 zGH zGi))) Af)))),?_⟩;refine⟨_,rfl,_,rfl,false,false,a,b,rfl,⟨_,ha⟩,⟨_,hb⟩,fun D hD=>Rj (n:=ps.length) (fun i us H'=>AM H H'/\us=((EZ ps qs).take i).map V.int) ?_ ?_ ?_⟩
 .exact⟨Ah hD _,by rw[List.take_zero];rfl⟩
 .rintro i us H1 hi ⟨R,rfl⟩ g;have hx:=aH hi;have hy:=aH (l:=qs) (i:=i) AC;have Z:=R _ _ ha;have Y:=R _ _ hb;refine⟨⟨_,_,_,_,Z,Y,ints_get hx,ints_get hy⟩,Lq (by rw[List.length_map,List.length_take];lia),fun v H' y=>?_⟩;obtain⟨p,x,z,rfl,np,rfl,k1,k2⟩:=y;have U:=k1 _ Z;have T:=k2 _ Y;rw[ints_get hx]at U;rw[ints_get hy]at T;cases U;cases T;have sp:=Ah np (.tup [.int ps[i],.int qs[i]]);refine⟨p,_,_,rfl,BL.of AO,?_⟩;unfold JY;refine Lh ⟨_,rfl,_,rfl,_,_,rfl,rfl,Z9 hm (sx _ zEA) (sy _ zEA),sp _ _ g,FP hi ⟨fun c o z=>?_,?_⟩⟩
  .rw[AL (Aa z hD)];exact sp _ _ (R _ _ z)
  .rw[U2 hx hy,List.map_append]
   rfl
 .rintro us H1 ⟨R,rfl⟩ g;refine⟨⟨_,_,R _ _ ha,R _ _ hb,.inl (by rw[List.length_map])⟩,D,_,rfl,Ax.of g,?_⟩;rw[List.take_of_length_le (by unfold EZ;rw[List.length_zipWith];lia)];exact q _ R
end
def Kw(d:AD)(H H':Hp):Prop:=∀a o,a≠d->H a=some o->H' a=some o
def Kw.of{d:AD}{H H':Hp}(e:mo):Kw d H H':=fun a o _ h=>e a o h
def Kw.trans{d:AD}{H R g:Hp}(e:Kw d H R)(T:Kw d R g):Kw d H g:=fun a o n h=>T a o n (e a o n h)
def qT{d:AD}{r:UF}{xs:yb}:dN d r≠.lst xs:=by unfold dN;intro z;cases z
def qq{d:AD}{r:UF}{xs:yb}:dN d r≠.tup xs:=by unfold dN;intro z;cases z
def Kw.lst{d:AD}{H H':Hp}(e:Kw d H H'){r:UF}(hd:H d=some (dN d r)){l:AD}{xs:yb}(h:H l=some KT):H' l=some KT:=e l _ (dW h hd fun z=>qT z.symm) h
def Kw.BF{d:AD}{H H':Hp}(e:Kw d H H'){r:UF}(hd:H d=some (dN d r)):Lj H H':=fun b xs h=>e b _ (dW h hd fun z=>qq z.symm) h
def VB(H:Hp)(vs:yb)(rows:List yT):Prop:=vs.length=rows.length/\∀(i:Nat) (row:zG),rows[i]? = some row->∃a:AD,vs[i]? = some HY/\H a=some (.lst (row.map V.int))
def VB.same{H H':Hp}{vs:yb}{rows:List yT}(h:VB H vs rows)(e:mo):VB H' vs rows:=⟨h.1,fun i row hi=>let⟨a,R,g⟩:=h.2 i row hi;⟨a,R,e _ _ g⟩⟩
def VB.but{d:AD}{H H':Hp}{vs:yb}{rows:List yT}(h:VB H vs rows)(e:Kw d H H'){r:UF}(hd:H d=some (dN d r)):VB H' vs rows:=⟨h.1,fun i row hi=>let⟨a,R,g⟩:=h.2 i row hi;⟨a,R,e.lst hd g⟩⟩
structure cg(Dm:y8)(c:Nat):Prop where
 len:Dm.length<=1000
 inj:∀a∈Dm,∀b∈Dm,TH.BJ (some a)=TH.BJ (some b)->a=b
 bs:∀t∈Dm,∀b∈t.bs,b∈Dm
 deep:∀t∈Dm,t.deep<8
 size:∀t∈Dm,c*t.AI+1<=1000000
structure Memo(Dm:y8)(rows:zEe)(W:Addr)(H:Hp)(d:Addr)(r:UF):Prop where
 at_:H d=some (dN d r)
 nd:(r.map Nh).Nodup
 all:∀q∈r,∃(t:Tr) (l:Addr),q.1=some t/\t∈Dm/\Tv H t q.2.1/\q.2.2=.ref l/\H l=some zAQ/\l≠W
def Memo.same{Dm:yc}{rows:List yT}{W:AD}{H H':Hp}{d:AD}{r:UF}(h:zEN)(e:mo):Memo Dm rows W H' d r:=⟨e _ _ h.at_,h.nd,fun q g=>let⟨t,l,h1,Z,Y,U,T,R⟩:=h.all q g;⟨t,l,h1,Z,Y.same e,U,e _ _ T,R⟩⟩
def Memo.ok{Dm:yc}{c:Nat}{rows:List yT}{W:AD}{H:Hp}{d:AD}{r:UF}(h:zEN)(D:cg Dm c){t:Tr}(Y:t∈Dm):R5 H d r zAr:=by
 refine⟨h.at_,fun q g=>?_,h.nd,fun q g U=>?_⟩
 .obtain⟨u,l,T,R,Z,_⟩:=h.all q g;rw[T];exact⟨D.deep u R,Z⟩
 .obtain⟨u,l,T,R,_⟩:=h.all q g;rw[T]at U ⊢;rw[D.inj u R t Y U]
def Vf{α:Type}[DecidableEq α]:∀ {a b:lX},a.Nodup->(∀x∈a,x∈b)->a.length<=b.length
 |[],_,_,_=>aq _
 |x::a,b,hn,h=>by
  have R:=h x GM;obtain⟨U,T⟩:=List.nodup_cons.mp hn;have:=Vf (a:=a) (b:=b.erase x) T fun y g=>(List.mem_erase_of_ne (show y≠x from fun e=>U (by rw[<-e];exact g))).mpr (h y (.tail _ g));rw[List.length_erase_of_mem R]at this;have:=List.length_pos_of_mem R;rw[List.length_cons]
  lia
def Memo.len{Dm:yc}{rows:List yT}{W:AD}{H:Hp}{d:AD}{r:UF}(h:zEN):r.length<=Dm.length:=by
 have:=Vf (b:=Dm.map some) h.nd fun x g=>by
  obtain⟨q,R,rfl⟩:=aQ.mp g;obtain⟨u,l,U,T,_⟩:=h.all q R;rw[U];exact ay T
 simpa using this
def Memo.put{Dm:yc}{rows:List yT}{W:AD}{H H':Hp}{d:AD}{r:UF}(h:zEN){t:Tr}{v:V}{l:AD}(ht:t∈Dm)(tv:Tv H t v)(hl:H l=some zAQ)(hlW:l≠W) (e:H'=upd H d zGm):Kw d H H'/\Memo Dm rows W H' d (Fu r zAr v SY)/\H' l=some zAQ:=by
 subst e;have hb:Kw d H (upd H d zGm):=fun a o n h=>by rw[AL n];exact h
 have Y:=hb.lst h.at_ hl;have old:∀q∈r,∃(t':Tr) (l':AD),q.1=some t'/\t'∈Dm/\Tv (upd H d zGm) t' q.2.1/\q.2.2=.ref l'/\upd H d zGm l'=some (.lst ((FK rows t').map V.int))/\l'≠W:=fun q g=>by
  obtain⟨u,l',h1,R,h3,h4,h5,h6⟩:=h.all q g;exact⟨u,l',h1,R,h3.BF (hb.BF h.at_),h4,hb.lst h.at_ h5,h6⟩
 refine⟨hb,⟨AO,?_,fun q g=>?_⟩,Y⟩
 .unfold Fu;split
  .rw[List.map_map];rw[show((fun x:KR=>x.1) ∘ fun q:KR=>if q.1=some t then(q.1,q.2.1,V.ref l) else q)=fun x=>x.1 from funext fun q=>by
    show(if q.1=some t then(q.1,q.2.1,V.ref l) else q).1=q.1;split<;>rfl]
   exact h.nd
  .rename_i hn;rw[List.map_append];refine List.nodup_append.mpr ⟨h.nd,by simp,fun a ha b Z=>?_⟩;obtain⟨q,g,rfl⟩:=aQ.mp ha;have Z:b=some t:=by simpa using Z
   subst Z;have hn:r.find? zEO=none:=by
    cases z:r.find? zEO with
    |none=>rfl
    |some x=>rw[z]at hn;exact absurd rfl hn
   have:=bj.mp hn q g
   simpa using this
 .have U:q∈r\/(∃T∈r,T.1=some t/\q=(T.1,T.2.1,.ref l))\/q=(some t,v,.ref l):=by
   unfold Fu at g;split at g
   .obtain⟨T,h1,R⟩:=aQ.mp g;split at R
    .rename_i z;exact .inr (.inl ⟨T,h1,z,R.symm⟩)
    .subst R;exact .inl h1
   .rcases bA.mp g with g|g
    .exact .inl g
    .exact .inr (.inr zAh)
  rcases U with U|⟨T,h1,R,rfl⟩|rfl
  .exact old q U
  .obtain⟨u,l',k1,k2,k3,_⟩:=old T h1;rw[R]at k1;cases k1;exact⟨t,l,R,k2,k3,rfl,Y,hlW⟩
  .exact⟨t,l,rfl,ht,tv.BF (hb.BF h.at_),rfl,Y,hlW⟩
def Mg:∀ {t b:Tr},b∈t.bs->b.AI<=t.AI
 |.nil,b,h=>by cases h
 |.cons c r,b,h=>by
  rw[Tr.bs]at h;rw[Tr.AI];rcases aM.mp h with rfl|h
  .exact Nat.le_add_right _ _
  .exact aT (Mg h) (Nat.le_add_left _ _)
def jz(r:UF)(k:LT)(R v:V):∃q,(Fu r k R v).find? NE=some q:=by
 have:∃q∈Fu r k R v,q.1=k:=by
  unfold Fu;split
  .rename_i h;obtain⟨q,Y⟩:=Option.isSome_iff_exists.mp h;obtain⟨T,g⟩:=find_key Y;exact⟨_,List.mem_map_of_mem T,by rw[if_pos g];exact g⟩
  .exact⟨_,List.mem_append_right _ GM,rfl⟩
 obtain⟨q,T,g⟩:=this;cases z:(Fu r k R v).find? NE with
 |some U=>exact⟨U,rfl⟩
 |none=>exact absurd g (by simpa using bj.mp z q T)
def Su:∀(t:Tr) (i:Nat),(Tr.of (t.bs.take i)).AI<=t.AI
 |.nil,i=>by rw[Tr.bs,List.take_nil];exact aJ _
 |.cons b r,0=>by
  have:=Tr.EJ (.cons b r);exact this
 |.cons b r,i+1=>by
  rw[Tr.bs,List.take_succ_cons,Tr.of,Tr.AI,Tr.AI];exact Nat.add_le_add_left (Su r i) _
def gG(Dm:yc)(c n:Nat):Sp:=fun vs H Q _=>∃R g rows v t d r W,vs=[.ref R,v,.ref d]/\H R=some (.lst g)/\VB H g rows/\KU rows c/\Tv H t v/\t∈Dm/\t.deep<n/\(∃o,H W=some o)/\Memo Dm rows W H d r/\∀H' T l,Kw d H H'->Memo Dm rows W H' d T->H' l=some zAQ->Q SY H'
section
variable{P:FS}{w:IO}{K:Fg}{mg:yP}{base:Heap}{f g1:AD}{fd gd1:Db}
def Y4:Ad ["rows","tree","known","shares","bough"] zA (AQ Ny):=CG
def RL{Dm:y8}{c:Nat}(DO:cg Dm c)(Ff:Fn K mg "readings" Ny zA f fd)(Kh:Fn K mg "read_by" P4 zAW g1 gd1)(S7:AK P w K mg base Ag 1 g1 gd1 zAW rO)(B6:zE)(EU:zCZ) :
  ∀n,AK P w K mg base Ag (n+1) f fd zA (gG Dm c n)
 |0=>Ep fun _ _ _ _ ⟨_,_,_,_,_,_,_,_,_,_,_,_,_,_,h,_⟩=>absurd h zCr
 |n+1=>by
  have sc:=Y4;have OI:=RL DO Ff Kh S7 B6 EU n;have gL:=S7.mono (show 1<=n+1 by lia);refine Ff.F.ok (k:=n+1) sc Kj IS
  .obtain⟨R,rvs,rows,v,t,d,r,W,rfl,_⟩:=h
   rfl
  obtain⟨R,rvs,rows,v,t,d,r,W,rfl,hR,U,ro,tv,ht,hdp,⟨oW,hW⟩,Y,q⟩:=h;have hWs:∀ {H':Hp} {ρ:UF},Kw d H H'->Memo Dm rows W H' d ρ->∃o,H' W=some o:=fun {H' ρ} e m=>by
   by_cases z:W=d
   .exact⟨_,by rw[z];exact m.at_⟩
   .exact⟨_,e _ _ z hW⟩
  refine⟨_,(Ae (JC (ER (qH zDa true) zGH zGi rfl)
  (Ae (BE (i:=3) sc.nd rfl zH (BM gO (HQ (AN Ar Af)) (D7 JK rfl B6 bD (AN zHW Af))))
  (Ae (KZ aR rfl (X0 zGH) zGM
   (A7 (BE (i:=3) sc.nd rfl zH (Pz [".0","share","read"] 1 2 [none,none,none] (X7 rfl EU (AN zHF (AN (DY Ff OI hr rfl (AN zHW (AN (pv 4) (AN zGi Af)))) Af))) ca (fun _ _ _ _ _=>(BM F7 zGH zGi))))))
  (A7 (Nf (HP [".0","row","shares"] 1 [none,none,some 3] (FQ zHW) ca (fun _ _ _ _ _=>(DY Kh gL hr rfl zBY))) (Sl zGi zGH (XG zDa))))))
  GQ)
 (A7 (Cf (fk zDa zGi zGH Da)))),?_⟩
  have key:HU H zAr v:=⟨DO.deep t ht,tv⟩;cases hz:r.find? zEO with
  |some q'=>
   refine⟨_,rfl,_,rfl,d,r,some t,rfl,key,Y.ok DO ht,false,by rw[hz];rfl,wg ?_⟩;obtain⟨hm,hk⟩:=find_key hz;obtain⟨u,l,h1,h2,h3,h4,h5,_⟩:=Y.all q' hm;rw[hk]at h1;cases h1;refine⟨_,rfl,_,rfl,d,r,some t,q',rfl,key,Y.ok DO ht,hz,?_⟩;rw[h4];exact q H r l (fun a o _ h=>h) Y h5
  |none=>
   refine⟨_,rfl,_,rfl,d,r,some t,rfl,key,Y.ok DO ht,true,by rw[hz];rfl,Lh ?_⟩;refine⟨by show 1<=sizeLine;decide,fun p hp=>⟨_,rfl,_,_,rfl,.inl (Ax.of (Ah hp _ _ _ hR)),p,_,_,rfl,rfl,AO,by lia,?_,?_,fun S hS=>?_⟩⟩
   .have:=U.1;have:=ro.len;lia
   .have:=U.1;have:=ro.len;refine bG (Lq ?_);simp
    lia
   rw[List.flatten_replicate_singleton,show((rvs.length:Nat):Int).toNat=rows.length by rw[U.1];rfl];have e0:AM H (upd zFD S zAJ):=(Ah hp _).trans (Ah hS _);have hS0:upd zFD S zAJ S=some (.lst (((t.bs.take 0).foldl eG UV).map V.int)):=by
    rw[AO,List.take_zero,List.foldl_nil];unfold Fw;rw[List.map_replicate]
   generalize upd zFD S zAJ=H0 at e0 hS0;obtain⟨a,ys,rfl,ha,hts⟩:=tv;have hyl:=hts.len;have sizes:∀i,((t.bs.take i).foldl eG UV).length=rows.length/\EF (2^(c*t.AI)) ((t.bs.take i).foldl eG UV):=fun i=>by
    have h:=Ss ro (Tr.of (t.bs.take i)) UV 0 zFC (Uj _ _);rw[TN,Tr.Qf]at h;refine⟨h.1,h.2.mono (aa AT (az _ ?_))⟩;have:=Su t i
    lia
   refine⟨_,rfl,a,rfl,⟨_,BL.of (e0 _ _ ha)⟩,nI (xs:=ys) (fun i σ H'=>∃(r4:Option V) (S:AD) (ρ:UF),σ=[some (.ref R),some HY,some zDm,some (.ref S),r4]/\Kw d H H'/\Memo Dm rows W H' d ρ/\H' S=some (.lst (((t.bs.take i).foldl eG UV).map V.int))) ?_ ?_ ?_ ?_⟩
   .exact⟨_,S,r,rfl,.of e0,Y.same e0,hS0⟩
   .rintro i σ H' _ ⟨r4,S',ρ,rfl,e,_⟩;exact BL.of (e.BF Y.at_ _ _ ha)
   .rintro i x σ H1 hx ⟨r4,S1,ρ,rfl,e1,me1,hS1⟩;obtain⟨b,hb,tb⟩:=hts.get hx;have hbm:b∈t.bs:=aO hb;have hbd:=Tr.SI hbm;refine⟨_,rfl,_,rfl,_,rfl,_,rfl,R,rvs,rows,x,b,d,ρ,W,rfl,e1.lst Y.at_ hR,U.but e1 Y.at_,ro,tb.BF (e1.BF Y.at_),DO.bs t ht b hbm,by lia,hWs e1 me1,me1,fun H2 r2 l e2 me2 hl2=>?_⟩;have hS2:=e2.lst me1.at_ hS1;have e02:=e1.trans e2;obtain⟨sl,sb⟩:=sizes i;generalize hsh:(t.bs.take i).foldl eG UV=sh at sl sb hS2;have hnext:(t.bs.take M2).foldl eG UV=EZ sh (FK rows b):=by
     rw[List.take_add_one,hb,List.foldl_append,hsh];rfl
    have rl:=NY rows b;have rb:=bq ro b;have kb:b.AI<=t.AI:=Mg hbm;have rb':=rb.mono (aa AT (az c kb));refine⟨false,false,S1,l,rfl,⟨_,hS2⟩,⟨_,hl2⟩,fun D hD=>Rj (n:=sh.length) (fun j us H'=>AM H2 H'/\us=((EZ sh (FK rows b)).take j).map V.int) ?_ ?_ ?_⟩
    .exact⟨Ah hD _,by rw[List.take_zero];rfl⟩
    .rintro j us H3 hj ⟨g,rfl⟩ T;have hx:=aH hj;have hy:=aH (l:=FK rows b) (i:=j) AC;have e3a:=g _ _ hS2;have e3b:=g _ _ hl2;refine⟨⟨_,_,_,_,e3a,e3b,ints_get hx,ints_get hy⟩,Lq (by have:=ro.len;rw[List.length_map,List.length_take];lia),fun v H' y=>?_⟩;obtain⟨p,x,z,rfl,np,rfl,k1,k2⟩:=y;have hx':=k1 _ e3a;have hy':=k2 _ e3b;rw[ints_get hx]at hx';rw[ints_get hy]at hy';cases hx';cases hy';have sp:=Ah np (.tup [.int sh[j],.int (FK rows b)[j]]);refine⟨p,_,_,rfl,BL.of AO,?_⟩;unfold JY;refine Lh ⟨_,rfl,_,rfl,_,_,rfl,rfl,Z9 (DO.size t ht) (sb _ zEA) (rb' _ zEA),sp _ _ T,FP hj ⟨fun c o z=>?_,?_⟩⟩
     .rw[AL (Aa z hD)];exact sp _ _ (g _ _ z)
     .rw[U2 hx hy,List.map_append]
      rfl
    .rintro us H3 ⟨g,rfl⟩ T;refine⟨⟨_,_,g _ _ hS2,g _ _ hl2,.inl (by rw[List.length_map])⟩,?_⟩;refine⟨_,D,r2,rfl,e02.trans (.of g),me2.same g,?_⟩;rw[T,hnext,List.take_of_length_le (by unfold EZ;rw[List.length_zipWith];lia)]
   .rintro σ H1 ⟨r4,S1,ρ,rfl,e1,me1,hS1⟩;rw[hyl,List.take_length,<-TN]at hS1;obtain⟨sl,sb⟩:=sizes t.bs.length;rw[List.take_length,<-TN]at sl sb;have hR1:=e1.lst Y.at_ hR;have hrw1:=U.but e1 Y.at_;refine⟨_,rfl,R,rfl,⟨_,Ax.of hR1⟩,fun D hD=>Hn (n:=rvs.length) (fun j us H'=>AM H1 H'/\us=((FK rows t).take j).map V.int) ?_ ?_ ?_⟩
    .exact⟨Ah hD _,by rw[List.take_zero];rfl⟩
    .rintro j us H3 hj ⟨g,rfl⟩ T;have hj':j<rows.length:=by rw[<-U.1];exact hj
     have Z:=aH hj';generalize rows[j]=row at Z;have hrm:=aO Z;obtain⟨pr,g1,g2⟩:=hrw1.2 j row Z;have hR3:=g _ _ hR1;refine⟨⟨_,_,Ax.of hR3,g1⟩,Lq (by have:=ro.len;rw[List.length_map,List.length_take,NY];lia),fun x H' y=>?_⟩;obtain⟨rfl,y⟩:=y;have hx:=y _ (Ax.of hR3);rw[g1]at hx;cases hx;unfold JY;obtain⟨M,b1,b2,_⟩:=ro.big;refine Lh ⟨_,rfl,_,rfl,pr,S1,row,_,c*t.AI,rfl,g _ _ g2,g _ _ hS1,?_,?_,DO.size t ht,?_,sb,fun H4 e4=>?_⟩
     .rw[sl];exact ro.one row hrm
     .have:=ro.one row hrm;have:=ro.len;lia
     .refine(b1 row hrm).mono (aT b2 (aa AT ?_));have:=Tr.EJ t;exact Nat.le_mul_of_pos_right c this
     .refine⟨e4 _ _ T,FP hj ⟨fun c o z=>?_,?_⟩⟩
      .rw[AL (Aa z hD)];exact e4 _ _ (g _ _ z)
      .have:(FK rows t)[j]? = some (Xm row (RO rows t UV)):=by unfold FK;rw[List.getElem?_map,Z];rfl
       rw[List.take_add_one,this,List.map_append]
       rfl
    .rintro us H3 ⟨g,rfl⟩ T;rw[List.take_of_length_le (by rw[NY,U.1];exact aJ _)]at T;have me3:=me1.same g;have hDW:D≠W:=fun z=>by
      obtain⟨o,hw⟩:=hWs e1 me1;rw[<-z,hD]at hw;cases hw
     have tv3:Tv H3 t HY:=⟨a,ys,rfl,g _ _ (e1.BF Y.at_ _ _ ha),(hts.BF (e1.BF Y.at_)).same g⟩;refine⟨⟨_,Ax.of (g _ _ hR1),Nat.le_refl _⟩,_,rfl,_,rfl,d,ρ,some t,rfl,⟨DO.deep t ht,tv3⟩,me3.ok DO ht,Nat.le_trans me3.len DO.len,?_⟩;generalize h4:upd H3 d (dN d (Fu ρ zAr HY ra))=H4;obtain⟨b4,me4,l4⟩:=me3.put ht tv3 T hDW h4.symm;have tv4:=tv3.BF (b4.BF me3.at_);have key4:HU H4 zAr HY:=⟨DO.deep t ht,tv4⟩;obtain⟨q',hq',hv⟩:∃q',(Fu ρ (some t) (.ref a) (.ref D)).find? (fun q=>decide (q.1=some t))=some q'/\∃l,q'.2.2=.ref l/\H4 l=some (.lst ((FK rows t).map V.int)):=by
      obtain⟨q',hq'⟩:=jz ρ zAr HY ra;obtain⟨hm,hk⟩:=find_key hq';obtain⟨u,l,h1,h2,h3,h4,h5,_⟩:=me4.all q' hm;rw[hk]at h1;cases h1;exact⟨q',hq',l,h4,h5⟩
     obtain⟨l,hv,hl⟩:=hv;refine⟨_,rfl,_,rfl,d,_,some t,q',rfl,key4,me4.ok DO ht,hq',?_⟩;rw[hv];exact q H4 _ l ((e1.trans (.of g)).trans b4) me4 hl
end
def F5(r:ya):yT:=r.map fun q=>(q.den:Int)
def Hk(t:Tb)(i:Nat):yT:=F5 t.ls++((t.rs.take i).map F5).flatten
def Ef(t:Tb):Int:=JH (Hk t t.rs.length)
def Tb.Fits(t:Tb)(n:Nat):Prop:=(∀r∈t.rs,∀q∈r,FM.Fits q n)/\∀q∈t.ls,FM.Fits q n
def SW{t:Tb}{i:Nat}{r:ya}(h:t.rs[i]? = some r):Hk t M2=Hk t i++F5 r:=by
 unfold Hk;rw[List.take_add_one,h,List.map_append,List.flatten_append,List.append_assoc];simp
def Mp{t:Tb}{m:Nat}(o:t.Ok m):∀i,i<=t.rs.length->(Hk t i).length<=t.rs.length+t.rs.length*i
 |0,_=>by unfold Hk F5;simp[o.last]
 |i+1,h=>by
  have g:=aH (l:=t.rs) (i:=i) AC;have:=Mp o i AC;rw[SW g,List.length_append,show(F5 t.rs[i]).length=t.rs[i].length from bc _,o.row i _ g,Nat.mul_succ]
  lia
def VG{t:Tb}{n:Nat}(h:t.Fits n)(i:Nat):∀b∈Hk t i,1<=b/\b.natAbs<2^n:=fun b g=>by
 unfold Hk at g;rcases bA.mp g with g|g
 .exact ZX h.2 b g
 .obtain⟨l,T,g⟩:=List.mem_flatten.mp g;obtain⟨r,R,rfl⟩:=aQ.mp T;exact ZX (h.1 r (bW R)) b g
def oM:Sp:=fun vs H Q _=>∃(v:V) (t:Tb) (m n:Nat),vs=[v]/\DU H (Cz t) v/\t.Ok m/\m<=40/\t.Fits n/\n*(m+m*m)<=4000/\∀H',AM H H'->Q (.int (Ef t)) H'
section
variable{P:FS}{w:IO}{K:Fg}{mg:yP}{base:Heap}{f g1 g2:AD}{fd gd1:Db}
def TK:Ad ["table","bottoms","row"] ["table"] (AQ Jq):=CG
def S4(F:Fn K mg "table_bottom" Jq ["table"] f fd)(Cs:Fn K mg "common_bottom" Fd zAo g1 gd1) (Iw:AK P w K mg base Ag 2 g1 gd1 zAo iM):AK P w K mg base Ag 3 f fd ["table"] oM:=by
 have sc:=TK;refine F.F.ok (k:=2) sc Kj (fun cdv A outer s H vs Q E g h=>?_)
 .obtain⟨v,t,m,n,rfl,_⟩:=h
  rfl
 obtain⟨v,t,m,n,rfl,dt,ot,hm,ft,hnm,q⟩:=h;obtain⟨p,R,L,xs,ys,rfl,hp,hR,dR,hL,dL⟩:=dt.tab;have hyl:ys.length=t.ls.length:=by rw[dL.len,HS]
 have hxl:xs.length=t.rs.length:=by rw[dR.len,MG]
 have h1:=ot.most;have h2:=ot.last;refine⟨_,(Ae (M5 (i:=1) [".0","part"] 1 [none,none] sc.nd rfl rfl (FQ zGK) ca zHT)
 (Ae (KZ aR rfl (FQ zGK) zFb
  (A7 (Er (IU ar PySem.F.slot_list_extend PySem.F.type_list_extend PZ zGH (AN (HP [".0","part"] 1 [none,none] (FQ zGi) ca zHT) Af)))))
 (A7 (Cf (DY Cs Iw g rfl zAP))))),?_⟩
 refine⟨_,rfl,_,_,_,_,rfl,rfl,BL.of hp,rfl,L,rfl,⟨_,Ax.of hL⟩,fun Z hZ=>Hn (n:=ys.length) (fun i us H'=>AM H H'/\us=(F5 (t.ls.take i)).map V.int) ⟨Ah hZ _,rfl⟩ ?_ ?_⟩
 .rintro i us H1 hi ⟨e1,rfl⟩ hD1;have g:t.ls[i]? = some (t.ls[i]' AC):=aH _;obtain⟨p,U,T⟩:=LR dL g;generalize t.ls[i]' AC=r at g T;refine⟨⟨ys,.ref p,Ax.of (e1 _ _ hL),U⟩,RX (n:=60) (by unfold F5;simp;lia) AT,fun x H' y=>?_⟩;obtain⟨rfl,y⟩:=y;have hx:=y ys (Ax.of (e1 _ _ hL));rw[U]at hx;cases hx;unfold JY;refine Lh ⟨_,rfl,_,_,_,_,rfl,rfl,BL.of (e1 _ _ T),rfl,hD1,FP hi ⟨fun b o z=>?_,?_⟩⟩
  .rw[AL (Aa z hZ)];exact e1 _ _ z
  .rw[List.take_add_one,g,F5,F5,List.map_append,List.map_append]
   rfl
 rintro us H1 ⟨e1,rfl⟩ hZ1;rw[hyl,List.take_length]at hZ1;refine⟨⟨ys,Ax.of (e1 _ _ hL),Nat.le_refl _⟩,?_⟩;refine⟨_,rfl,_,_,_,_,rfl,rfl,BL.of (e1 _ _ hp),rfl,R,rfl,⟨_,Ax.of (e1 _ _ hR)⟩,Ov (xs:=xs) (fun i σ H'=>∃r2,σ=[some xT,some (.ref Z),r2]/\AM H H'/\H' Z=some (.lst ((Hk t i).map V.int))) ?_ ?_ ?_ ?_⟩
 .exact⟨_,rfl,e1,by rw[hZ1];unfold Hk;simp⟩
 .rintro i σ H' _ ⟨r2,rfl,e,_⟩;exact Ax.of (e _ _ hR)
 .rintro i x σ H2 hx ⟨r2,rfl,e2,Y⟩;have hi:i<t.rs.length:=by rw[<-hxl];exact(aD.mp hx).1
  have g:t.rs[i]? = some t.rs[i]:=aH hi;have hrl:=ot.row _ _ g;obtain⟨a,zs,g1,g2,dz⟩:=OT dR g;generalize t.rs[i]=row at g dz hrl;rw[hx]at g1;cases g1;have hzl:zs.length=row.length:=by rw[dz.len,HS]
  refine⟨_,rfl,.inl ⟨rfl,_,Ax.of Y⟩,_,rfl,a,rfl,⟨_,Ax.of (e2 _ _ g2)⟩,fun D hD=>Hn (n:=zs.length) (fun j ys H'=>AM H2 H'/\ys=(F5 (row.take j)).map V.int) ⟨Ah hD _,rfl⟩ ?_ ?_⟩
  .rintro j us H3 hj ⟨e3,rfl⟩ hD3;have E3:=e2.trans e3;have g:row[j]? = some (row[j]' AC):=aH _;obtain⟨p,U,T⟩:=LR dz g;generalize row[j]' AC=r at g T;refine⟨⟨zs,.ref p,Ax.of (E3 _ _ g2),U⟩,RX (n:=60) (by unfold F5;simp;lia) AT,fun x H' y=>?_⟩;obtain⟨rfl,y⟩:=y;have hx:=y zs (Ax.of (E3 _ _ g2));rw[U]at hx;cases hx;unfold JY;refine Lh ⟨_,rfl,_,_,_,_,rfl,rfl,BL.of (E3 _ _ T),rfl,hD3,FP hj ⟨fun b o z=>?_,?_⟩⟩
   .rw[AL (Aa z hD)];exact e3 _ _ z
   .rw[List.take_add_one,g,F5,F5,List.map_append,List.map_append]
    rfl
  .rintro us H3 ⟨e3,rfl⟩ hD3;have E3:=e2.trans e3;rw[hzl,List.take_length]at hD3;refine⟨⟨zs,Ax.of (E3 _ _ g2),Nat.le_refl _⟩,Z,D,_,_,rfl,rfl,e3 _ _ Y,hD3,?_,_,rfl,fun b o z=>?_,?_⟩
   .have:=Mp ot i AC;rw[List.length_map,List.length_map,show(F5 row).length=row.length from bc _];have h40:t.rs.length*i<=40*40:=bh AC AC;exact aT (show _<=2000 by lia) Ku
   .rw[AL (Aa z hZ)];exact e3 _ _ (e2 _ _ z)
   .rw[AO,SW g,List.map_append]
 .rintro σ H2 ⟨r2,rfl,e2,Y⟩;rw[hxl]at Y;refine⟨_,rfl,Z,_,n,rfl,Y,VG ft _,?_,q H2 e2⟩;have:=Mp ot _ RW;have h3:t.rs.length*t.rs.length<=m*m:=bh h1 h1;exact aT (az n AC) hnm
end
def FH(t:Tb):List yT:=(t.rs++[t.ls]).map fun r=>LP r (Ef t)
def M3(t:Tb)(u:Tr):Rat:=Rat.divInt ((FK (FH t) u).getLast?.getD 0) (Ef t^u.AI)
def qW:Sp:=fun vs H Q _=>∃v u,vs=[v]/\Tv H u v/\u.deep<8/\u.AI<=8/\∀H',AM H H'->Q (.int (u.AI:Nat)) H'
def oY(Dm:yc)(c:Nat):Sp:=fun vs H Q _=>∃(v:V) (t:Tb) (L:AD) (g:Jh) (ts:y8) (m n k:Nat),vs=[v,.ref L]/\DU H (Cz t) v/\t.Ok m/\m<=40/\t.Fits n/\n*(m+m*m)<=4000/\KU (FH t) c/\(Ef t).natAbs<2^k/\n+k<=4000/\1<=Ef t /\
 H L=some (.lst g)/\g.length=ts.length/\ts.length<=1000/\(∀(i:Nat) (x:V),g[i]? = some x->∃u,ts[i]? = some u/\Tv H u x/\u∈Dm/\u.AI<=8/\k*u.AI<=4000) /\
 ∀D H' R,AM H H'->H D=none->H' D=some (.lst R)->CH H' (Be (ts.map (M3 t))) R->Q ra H'
def Jf(H:Hp)(zs:yb)(g:ya):Prop:=zs.length=g.length/\∀(i:Nat) (q:Rat),g[i]? = some q->∃p:AD,zs[i]? = some xT/\H p=some (.tup (Kt q))
def Jf.BF{H H':Hp}{zs:yb}{g:ya}(h:Jf H zs g)(e:Lj H H'):Jf H' zs g:=⟨h.1,fun i q hi=>let⟨p,T,R⟩:=h.2 i q hi;⟨p,T,e _ _ R⟩⟩
def Jf.snoc{H:Hp}{zs:yb}{g:ya}(h:Jf H zs g){p:AD}{q:Rat}(R:H p=some (.tup (Kt q))):Jf H (zs++[.ref p]) (g++[q]):=by
 refine⟨by rw[List.length_append,List.length_append,h.1];rfl,fun i r hi=>?_⟩;by_cases z:i<g.length
 .rw[List.getElem?_append_left z]at hi;rw[List.getElem?_append_left (by rw[h.1];exact z)];exact h.2 i r hi
 .rw[List.getElem?_append_right AC]at hi;rw[List.getElem?_append_right (by rw[h.1];lia),h.1];have:i-g.length=0:=by
   have:=(aD.mp hi).1;simp at this
   lia
  rw[this]at hi ⊢;cases hi;exact⟨p,rfl,R⟩
def Jf.Zb{H:Hp}:∀ {g:oN} {zs:Jh},Jf H zs g->CH H (Be g) zs
 |[],[],_=>.nil
 |[],_::_,h=>by cases h.1
 |_::_,[],h=>by cases h.1
 |q::g,z::zs,h=>by
  obtain⟨p,T,R⟩:=h.2 0 q rfl;cases T;refine .cons (W8 R) (Jf.Zb ⟨by simpa using h.1,fun i r hi=>?_⟩);exact h.2 M2 r hi
def nF{xs:yT}(h:1<=xs.length):Ht (xs.map V.int) (-1)=some (V.int (xs.getLast?.getD 0)):=by
 have g:xs≠[]:=fun z=>by rw[z]at h;exact absurd h AT
 have e:=List.dropLast_concat_getLast g;rw[<-e,List.map_append,List.getLast?_append];exact i9 _ _
def oX{b:Int}(h:1<=b)(k:Nat):b^k≠0:=Int.ne_of_gt (Int.pow_pos h)
def jh{b:Int}{k p:Nat}(h:b.natAbs<2^k)(g:k*p<=4000):∃m,m<=9000/\(b^p).natAbs<2^m:=by
 refine⟨k*p+1,by lia,?_⟩;rw[Int.natAbs_pow];refine aW (Nat.pow_le_pow_left (bG h) p) ?_;rw[<-Nat.pow_mul];exact Nat.pow_lt_pow_of_lt AT AC
section
variable{P:FS}{w:IO}{K:Fg}{mg:yP}{base:Heap}{f g1 g2 g3 g4 g5 g6:AD}{fd gd1 gd2 gd3 gd4 gd5 gd6:Db}
def SJ:Ad ["table","trees","bottom","rows","known","weights","tree"] zBS (AQ JO):=CG
def Rb{Dm:yc}{c:Nat}(DO:cg Dm c)(F:Fn K mg "weights_under" JO zBS f fd)(Hg:Fn K mg "table_bottom" Jq ["table"] g1 gd1)(KJ:Fn K mg "tops_over" NH y9 g2 gd2) (Ff:Fn K mg "readings" Ny zA g3 gd3)(Fh:Fn K mg "power_of" LJ zT g4 gd4)(Ap:Fn K mg "knots_within" DK K0 g5 gd5)(Ck:Fn K mg "fraction_of" Gp rk g6 gd6) (Ut:AK P w K mg base Ag 11 g1 gd1 ["table"] oM)(Yn:AK P w K mg base Ag 11 g2 gd2 y9 f7)(OI:AK P w K mg base Ag 11 g3 gd3 zA (gG Dm c 8))(Hi:AK P w K mg base Ag 11 g4 gd4 zT cQ) (A8:AK P w K mg base Ag 11 g5 gd5 K0 qW)(Gs:AK P w K mg base Ag 11 g6 gd6 rk SO):AK P w K mg base Ag 12 f fd zBS (oY Dm c):=by
 have sc:=SJ;refine F.F.ok (k:=11) sc Kj IS
 .obtain⟨v,t,L,tvs,ts,m,n,k,rfl,_⟩:=h
  rfl
 obtain⟨v,t,L,tvs,ts,m,n,k,rfl,dt,ot,hm,ft,hnm,ro,hB,hnk,hB1,hL,htl,hts,hall,q⟩:=h;have o1:=ot.most;have o2:=ot.last;have o3:=ot.one;refine⟨_,(Ae (BE (i:=2) sc.nd rfl zH (DY Hg Ut hr rfl (AN zHW Af)))
 (Ae (M5 (i:=3) [".0","row","bottom"] 1 [none,none,some 2] sc.nd rfl rfl (FQ (BM gw zGK (HQ (AN zGK Af)))) ca (fun _ _ _ _ _=>(DY KJ Yn hr rfl zBY)))
 (Ae (BE (i:=4) sc.nd rfl As jB)
 (Ae (BE (i:=5) sc.nd rfl As (HQ Af))
 (Ae (KZ aR rfl (FQ zGH) (Az (i:=6) sc.nd rfl As)
  (A7 (Er (IU ar bM bN GV (pv 5) (AN (DY Ck Gs hr rfl (AN (FT ZZ (DY Ff OI hr rfl (AN zHF (AN (pv 6) (AN (pv 4) Af)))) (cj YM Ar) Da) (AN (DY Fh Hi hr rfl (AN zGi (AN (DY Ap A8 hr rfl (AN (pv 6) Af)) Af))) Af))) Af)))))
 (A7 (Cf (pv 5)))))))),?_⟩
 refine⟨_,rfl,v,t,m,n,rfl,dt,ot,hm,ft,hnm,fun H1 e1=>?_⟩;obtain⟨p,R,U,xs,ys,rfl,hp,hR,dR,hL',dL⟩:=(dt.same e1).tab;have hxl:xs.length=t.rs.length:=by rw[dR.len,MG]
 refine⟨_,rfl,_,_,_,_,rfl,rfl,BL.of hp,rfl,_,rfl,_,_,_,_,rfl,rfl,BL.of hp,rfl,zEP,fun q1 hq1=>?_⟩;have e2:=Ah hq1 (.lst [V.ref U]);have h2:upd H1 q1 (.lst [V.ref U]) q1=some (.lst [V.ref U]):=AO;generalize upd H1 q1 (.lst [V.ref U])=H2 at e2 h2;refine⟨R,q1,_,_,rfl,rfl,e2 _ _ hR,h2,uA td,fun C0 hC0=>?_⟩;have e3:=Ah hC0 zCx;have h3:upd H2 C0 zCx C0=some zCx:=AO;generalize upd H2 C0 zCx=H3 at e3 h3;have E3:=(e1.trans e2).trans e3;have E13:=e2.trans e3;have get:∀(i:Nat) (row:oN),(t.rs++[t.ls])[i]? = some row->∃(a:AD) (T:Jh),(xs++[V.ref U])[i]? = some HY/\H3 a=some (.lst T)/\CH H3 (Be row) T/\row.length<=50/\∀q∈row,FM.Fits q n:=fun i row hi=>by
  by_cases z:i<t.rs.length
  .rw[List.getElem?_append_left z]at hi;rw[List.getElem?_append_left AC];obtain⟨a,T,g1,g2,g3⟩:=OT dR hi;exact⟨a,T,g1,E13 _ _ g2,g3.same E13,by rw[ot.row i row hi];lia,ft.1 row (aO hi)⟩
  .rw[List.getElem?_append_right AC]at hi;have:i-t.rs.length=0:=by
    have:=(aD.mp hi).1;simp at this
    lia
   rw[this]at hi;cases hi;rw[List.getElem?_append_right AC,hxl,this];exact⟨U,ys,rfl,E13 _ _ hL',dL.same E13,by lia,ft.2⟩
 have hal:(t.rs++[t.ls]).length=(xs++[V.ref U]).length:=by rw[List.length_append,List.length_append,hxl];rfl
 have hal60:(xs++[V.ref U]).length<60:=by rw[List.length_append,hxl];simp;lia
 refine⟨C0,rfl,⟨_,Ax.of h3⟩,fun D hD=>Hn (n:=(xs++[V.ref U]).length) (fun i us H'=>AM H3 H'/\us.length=i/\∀(j:Nat) (row:oN),j<i->(t.rs++[t.ls])[j]? = some row->∃a:AD,us[j]? = some HY/\H' a=some (.lst ((LP row (Ef t)).map V.int))/\a≠D) ?_ ?_ ?_⟩
 .exact⟨Ah hD _,rfl,fun j row hj=>absurd hj zCr⟩
 .rintro i us H4 hi ⟨e4,hul,hus⟩ hD4;have hr:(t.rs++[t.ls])[i]? = some ((t.rs++[t.ls])[i]' AC):=aH _;generalize (t.rs++[t.ls])[i]' AC=row at hr;obtain⟨a,T,g1,g2,g3,g4,g5⟩:=get i row hr;refine⟨⟨_,.ref a,Ax.of (e4 _ _ h3),g1⟩,RX (n:=60) AC AT,fun x H' y=>?_⟩;obtain⟨rfl,y⟩:=y;have hx:=y _ (Ax.of (e4 _ _ h3));rw[g1]at hx;cases hx;unfold JY;refine Lh ⟨_,rfl,_,rfl,a,T,row,Ef t,n,k,rfl,e4 _ _ g2,g3.same e4,g4,g5,hB,hnk,fun D5 H5 e5 n5 h5=>⟨e5 _ _ hD4,FP hi ⟨fun b o z=>?_,by simp[hul],fun j Y hj hr'=>?_⟩⟩⟩
  .rw[AL (Aa z hD)];exact e5 _ _ (e4 _ _ z)
  .by_cases z:j<i
   .obtain⟨b,k1,k2,k3⟩:=hus j Y z hr';exact⟨b,by rw[List.getElem?_append_left AC];exact k1,by rw[AL k3];exact e5 _ _ k2,k3⟩
   .have:j=i:=by lia
    subst this;rw[hr]at hr';cases hr';have nD:D5≠D:=fun z=>by rw[z,hD4]at n5;cases n5
    exact⟨D5,by rw[List.getElem?_append_right AC,hul,Nat.sub_self];rfl,by rw[AL nD];exact h5,nD⟩
 rintro rvs H4 ⟨e4,hul,hus⟩ hD4;refine⟨⟨_,Ax.of (e4 _ _ h3),Nat.le_refl _⟩,?_⟩;have E4:=E3.trans e4;have hrw:VB H4 rvs (FH t):=by
  refine⟨by rw[hul,<-hal];exact(bc _).symm,fun j row hj=>?_⟩;unfold FH at hj;rw[List.getElem?_map]at hj;cases hj':(t.rs++[t.ls])[j]? with
  |none=>rw[hj']at hj;cases hj
  |some Y=>
   rw[hj']at hj;cases hj;obtain⟨a,k1,k2,_⟩:=hus j Y (by rw[<-hal];exact(aD.mp hj').1) hj';exact⟨a,k1,k2⟩
 have hDn:H D=none:=FD E3 hD;refine fun d hd=>?_;have e5:=Ah hd (dN d []);have h5:upd H4 d (dN d []) d=some (dN d []):=AO;generalize upd H4 d (dN d [])=H5 at e5 h5;refine⟨y0,fun W hW=>?_⟩;have e6:=Ah hW Q4;have h6:upd H5 W Q4 W=some Q4:=AO;generalize upd H5 W Q4=H6 at e6 h6;have hdn:=FD E4 hd;have E5:=E4.trans e5;have hWn:=FD E5 hW;have E6:=E5.trans e6;have hdW:d≠W:=fun z=>by rw[<-z,h5]at hW;cases hW
 have W4:H4 W=none:=FD e5 hW;refine⟨_,rfl,L,rfl,⟨_,Ax.of (E6 _ _ hL)⟩,Ov (xs:=tvs) (fun i σ H'=>∃(r6:Option V) (ρ:UF) (T:Jh),σ=[some xT,some (.ref L),some (.int (Ef t)),some ra,some zDm,some (.ref W),r6]/\AM H4 H'/\Memo Dm (FH t) W H' d ρ/\H' W=some (.lst T)/\Jf H' T ((ts.take i).map (M3 t))) ?_ ?_ ?_ ?_⟩
 .refine⟨_,[],[],rfl,e5.trans e6,⟨e6 _ _ h5,.nil,fun q hq=>by cases hq⟩,h6,rfl,fun i q hi=>by cases hi⟩
 .rintro i σ H' _ ⟨r6,ρ,T,rfl,e,_⟩;exact Ax.of (e _ _ (E4 _ _ hL))
 .rintro i x σ H7 hx ⟨r6,ρ,T,rfl,e7,Z,hW7,fl7⟩;obtain⟨u,hu,tu,hD,h8,hk⟩:=hall i x hx;have E7:=E4.trans e7;refine⟨_,rfl,.inl ⟨rfl,_,Ax.of hW7⟩,_,rfl,_,rfl,_,rfl,D,rvs,FH t,x,u,d,ρ,W,rfl,e7 _ _ hD4,hrw.same e7,ro,tu.same E7,hD,DO.deep u hD,⟨_,hW7⟩,Z,fun H8 ρ8 l e8 me8 hl8=>?_⟩;have tu8:=(tu.same E7).BF (e8.BF Z.at_);have hW8:=e8.lst Z.at_ hW7;have fl8:=fl7.BF (e8.BF Z.at_);have hne:(FK (FH t) u).length=(t.rs++[t.ls]).length:=(NY _ _).trans (bc _);have hE8:AM H4 H8:=fun b o z=>e8 _ _ (fun y=>by rw[y,hd]at z;cases z) (e7 _ _ z);refine⟨_,rfl,_,_,_,_,rfl,rfl,Ax.of hl8,nF (by rw[hne,List.length_append];simp),?_⟩;refine⟨_,rfl,_,rfl,x,u,rfl,tu8,DO.deep u hD,h8,fun H9 e9=>?_⟩;refine⟨Ef t,u.AI,k,rfl,hB,hk,?_⟩;obtain⟨mb,hmb,hpb⟩:=jh hB hk;refine⟨_,_,mb,rfl,oX hB1 _,hmb,hpb,fun l' H10 e10 hl10=>?_⟩;have g:=e9.trans e10;refine⟨W,T,.ref l',rfl,rfl,g _ _ hW8,Lq ?_,?_⟩
  .rw[fl7.1,List.length_map,List.length_take];lia
  .refine⟨_,ρ8,_,rfl,fun b o z=>?_,⟨?_,me8.nd,fun q' hq'=>?_⟩,AO,?_⟩
   .rw[AL (Aa z W4)];exact g _ _ (hE8 _ _ z)
   .rw[AL hdW];exact g _ _ me8.at_
   .obtain⟨u',l2,k1,k2,k3,k4,k5,k6⟩:=me8.all q' hq';exact⟨u',l2,k1,k2,(k3.same g).BF (Lj.upd (g _ _ hW8)),k4,by rw[AL k6];exact g _ _ k5,k6⟩
   .rw[List.take_add_one,hu,List.map_append];refine((fl8.BF (.of g)).snoc (q:=M3 t u) hl10).BF (Lj.upd (g _ _ hW8))
 .rintro σ H7 ⟨r6,ρ,T,rfl,e7,Z,hW7,fl7⟩;rw[htl,List.take_length]at fl7;exact⟨_,rfl,q W H7 T (E4.trans e7) hWn hW7 fl7.Zb⟩
end
section
variable{P:FS}{w:IO}{K:Fg}{mg:yP}{base:Heap}{f g:AD}{fd:Db}
def YK:Ad ["_law_top","_law_bottom","_law_one","_law_other"] Pg (AQ IG):=CG
def XW(F:Fn K mg "_law_frac" IG Pg f fd)(Ml:mg "abs" = none):AK P w K mg base Ag 1 f fd Pg SO:=by
 have sc:=YK;refine F.F.ok (k:=0) sc Kj IS
 .obtain⟨t,b,m,rfl,_⟩:=h
  rfl
 obtain⟨t,b,m,rfl,Y,hm,hs,q⟩:=h;refine⟨_,(Ae (BE (i:=2) sc.nd rfl As (D7 OM rfl Ml PyProof.Rows.boot_abs (AN zHW Af)))
 (Ae (BE (i:=3) sc.nd rfl As (D7 OM rfl Ml PyProof.Rows.boot_abs zAP))
 (Ae (SE aR (ER Tn zHF Ar To)
  (A7 (o9 (i:=2) (j:=3) rfl sc.nd rfl rfl AT rfl rfl (AN zHF (AN (BM NU zGi zHF) Af)) rfl)))
 (Ae (JC (ER eC zGH Ar To)
  (A7 (BE (i:=2) sc.nd rfl As (BM WR Ar zGi)))
  GQ)
 (A7 zCR))))),?_⟩
 refine⟨_,rfl,_,rfl,_,rfl,_,rfl,?_⟩;refine SU (fun σ H'=>∃g l,σ=[some (.int t),some (.int b),some (.int g),some (.int l)]/\H=H'/\Int.gcd g l=Int.gcd t b/\0<=g/\0<=l) (fun σ _=>vc σ) ?_ ?_ ?_
 .exact⟨_,_,rfl,rfl,FM.ZD t b,FM.abs_nonneg t,FM.abs_nonneg b⟩
 .rintro σ H' ⟨g,l,rfl,rfl,hg,h0,U⟩;refine⟨_,rfl,_,_,rfl,rfl,_,rfl,Lk lp lp⟩
  .have Z:0<l:=aP c;have T:l≠0:=by lia
   refine⟨_,rfl,_,rfl,_,rfl,_,_,rfl,rfl,T,_,_,rfl,⟨_,_,rfl,rfl,?_,U,FM.fmod_nonneg T U⟩,?_⟩
   .rw[FM.YX];exact hg
   .exact FM.VD g l T
  .have Z:¬0<l:=bS (bX.mpr c);have T:l=0:=by lia
   subst T;rw[FM.gQ hg h0]
   try dsimp only[F0]
   refine RY (fun R H'=>R=[some (.int t),some (.int b),some (.int (FM.gs t b)),some (.int 0)]/\H=H') (fun nx hn=>?_) ?_
   .refine⟨_,rfl,_,_,rfl,rfl,_,rfl,Lk lp lp⟩
    .have c':b<0:=aP c;refine⟨_,rfl,_,_,rfl,rfl,hn _ _ ⟨?_,rfl⟩⟩;show [some (V.int t),some (V.int b),some (V.int (0-FM.gi t b)),some (V.int 0)]=_;unfold FM.gs;rw[if_pos c',Int.zero_sub]
    .have c':¬b<0:=bS (bX.mpr c);refine hn _ _ ⟨?_,rfl⟩;unfold FM.gs;rw[if_neg c']
   .rintro R H' ⟨rfl,rfl⟩;have h0:FM.gs t b≠0:=FM.kf Y;have U:(FM.gs t b).natAbs<2^m:=aW (FM.kI Y) hs;refine⟨_,rfl,_,rfl,_,_,rfl,rfl,⟨h0,m,hm,U⟩,_,rfl,_,rfl,_,_,rfl,rfl,⟨h0,m,hm,U⟩,Q6,fun p hp=>?_⟩;refine q p _ (Ah hp _) ?_;rw[AO];show some zCg=_;rw[FM.Wa Y,FM.X2 Y]
    rfl
 .exact fun σ H Q Q' hq ⟨v,e,i,j,e1,e2,k,e3,q⟩=>⟨v,e,i,j,e1,e2,k,e3,hq _ _ q⟩
end
section
variable{P:FS}{w:IO}{K:Fg}{mg:yP}{base:Heap}{f:AD}{fd:Db}
def Tp:Ad K0 K0 (AQ DK):=CG
def Ng(AW:MD):DF :=
 (Bb (Ai Ei CU (AU cY (AB (Hh zCS EX (AU AW zFh) [none,none] zCa) AG))))
def AW:Nat->MD
 |0=>fun _=>none
 |n+1=>Cd K0 K0 (Ng (AW n))
def Me{k:Nat}(g:Fn K mg "knots_within" DK K0 f fd)(R:zEd):∀n,
  AK P w K mg base Ag (k+n+1) f fd K0 (A6 (AW n))
 |0=>Ep fun _ _ _ _ ⟨_,_,_,h,_⟩=>by cases h
 |n+1=>by
  have sc:=Tp;have U:=Me (k:=k) g R n;refine Fl (k:=k+n+1) (F:=Ng (AW n)) g sc fun cdv A outer s H E T=>?_;exact(AV (A1 (A3 Cg AJ (DC (gE rfl) rfl R bo (AA (NS [".0","bough"] 1 [none,none] (Cy Cl) ce (fun _ _ _ _ _=>(Ab g U T rfl zFx))) AF)))))
def Qo:Ad ["tree","density","bough"] K0 (AQ Ia):=CG
def Le(AW:MD)(BU:MD):DF :=
 (Av (CM 1 (AU AW Do))
 (Av (Ex zCa (J5 2)
  (CM 1 (Ai Ge Kv (AU BU Qy))))
 (Bb Kv)))
def BU(AW:MD):Nat->MD
 |0=>fun _=>none
 |n+1=>Cd K0 ["tree","density","bough"] (Le AW (BU AW n))
def K4{k:Nat}{AW:MD}(R:Fn K mg "density_within" Ia K0 f fd)
 {U:AD}{Y:Db}(Z:Fn K mg "knots_within" DK K0 U Y)(g:AK P w K mg base Ag k U Y K0 (A6 AW)):∀n,
  AK P w K mg base Ag (k+n+1) f fd K0 (A6 (BU AW n))
 |0=>Ep fun _ _ _ _ ⟨_,_,_,h,_⟩=>by cases h
 |n+1=>by
  have sc:=Qo;have E9:=K4 (k:=k) (AW:=AW) R Z g n;have g:=g.mono (show k<=k+n+1 by lia);refine Fl (k:=k+n+1) (F:=Le AW (BU AW n)) R sc fun cdv A outer s H E T=>?_;exact(AR (BZ (i:=1) sc.nd rfl As (Ab Z g T rfl zFZ))
 (AR (Dj aR rfl (Cy Cl) (Es zFb)
  (AV (BZ (i:=1) sc.nd rfl As (A3 Fi Go (Ab R E9 T rfl zFy)))))
 (AV (A1 Go))))
def Jc:Ad zAt zAt (AQ Fe):=CG
def QE:DF :=
 (Bb (AU Oa (AB (AU (Ld true) Do) AG)))
def AY:MD:=Cd zAt zAt (QE)
def PM{k:Nat}(F:Fn K mg "in_falling_order" Fe zAt f fd)(R:zAu)(T:zDM):AK P w K mg base Ag RJ f fd zAt (A6 (AY)):=Fl F Jc fun cdv A outer s H E g=>by
 have sc:=Jc;exact(AV (A1 (U8 XE rfl T bf (AA (Xu Ch rfl R zFZ (fun h=>Xd Ch rfl R h)) AF))))
def PN:Ad ["tree","larger","k","bough","grown"] K0 (AQ HR):=CG
def Kf(AY:MD)(BG:MD):DF :=
 (Av (dG 1 (AB (AU AY (AB (Ai Ei zFn (BA (AB (BA AG) AG))) AG)) AG))
 (Av (Ex (HK S0 Do) (Fo 2 3)
  (Ex (Dy (AU BG (AB sK AG))) (J5 4)
   (j8 1 (AU AY (AB (Ai Ei (Ai Ei (cS zFn WB (WH zGE)) (BA (AB zBw AG))) (cS zFn (WH (Ai Ei zGE CU)) WB)) AG)))))
 (b9 1)))
def BG(AY:MD):Nat->MD
 |0=>fun _=>none
 |n+1=>Cd K0 ["tree","larger","k","bough","grown"] (Kf AY (BG AY n))
def Jg{k:Nat}{AY:MD}(T:Fn K mg "trees_one_larger" HR K0 f fd)
 {Y:AD}{Z:Db}(U:Fn K mg "in_falling_order" Fe zAt Y Z)(g:AK P w K mg base Ag k Y Z zAt (A6 AY))(C5:mg "enumerate" = none):∀n,
  AK P w K mg base Ag (k+n+1) f fd K0 (A6 (BG AY n))
 |0=>Ep fun _ _ _ _ ⟨_,_,_,h,_⟩=>by cases h
 |n+1=>by
  have sc:=PN;have EL:=Jg (k:=k) (AY:=AY) T U g C5 n;have g:=g.mono (show k<=k+n+1 by lia);refine Fl (k:=k+n+1) (F:=Kf AY (BG AY n)) T sc fun cdv A outer s H E R=>?_;exact(AR (Td (i:=1) sc.nd rfl As zGk)
 (AR (Dj aR rfl (UZ rfl C5 zFZ) (MO (IH rfl (B5 zFb (B5 (Az (i:=3) sc.nd rfl As) G9))))
  (AV (Dj aR rfl (Cy (Ab T EL R rfl (AA Qu AF))) (Es zGM)
   (AV (QC zGH (Ab U g R rfl (AA (A3 Cg (A3 Cg (OG Cl QX (Qg KF)) (Aq (AA rc AF))) (OG Cl (Qg (A3 Cg KF AJ)) QX)) AF)) (fun ho ha=>Er (IU ar bM bN GV ho ha)))))))
 (AV (Z2 zGH))))
def Qz:Ad ["many","trees","knots","larger","tree"] ["many"] (AQ OB):=CG
def eD(BG:MD)(g:AD):GP :=
 (Js (W6 (Mm (CO iS zFn CU) (CO wP zFn (fC (.int 7))))
  (NL g (fC (.str (Str.ofString "trees are listed for 1 to 7 knots"))))
  (fun δ=>some zAs))
 (Vh (Av (CM 1 (Cm (AB (BA AG) AG)))
 (Av (Ex (HK dU (AB CU Do)) (J5 2)
  (Av (dG 3 AG)
  (Av (Ex (Dy Kv) (J5 4)
   (so 3 (AU BG (AB zBw AG))))
  (SK 3 (CM 1 (fun δ=>((nm 3) δ).bind Oe))))))
 (Bb Kv)))))
def Ec(BG:MD)(g:AD):rW:=GK ["many"] ["many","trees","knots","larger","tree"] (eD BG g)
def Yr{k:Nat}{BG:MD}{R:AD}(F:Fn K mg "trees_of" OB ["many"] f fd) {Y:AD}{Z:Db}(CJ:Fn K mg "trees_one_larger" HR K0 Y Z)(EL:AK P w K mg base Ag k Y Z K0 (A6 BG))(DD:zDN)(QZ:mg "set" = none)(Bv:zAu){g:Tok}(GB:mg "MOST_KNOTS" = some (.int 7 g))(T:Exc K mg "TooMany" R):AK P w K mg base K9 RJ f fd ["many"] (Ds (Ec BG R)):=Pu F Qz fun cdv A outer s H E U=>by
 have sc:=Qz;exact(Gh (TY zGn
  (G8 (by exact ML T T2 QN))
  NI)
 (Nn (AR (BZ (i:=1) sc.nd rfl As (Bc (AA (Aq AF) AF)))
 (AR (Dj aR rfl (Vc rfl DD (AA AJ zFZ)) (Es zFb)
  (AR (Td (i:=3) sc.nd rfl As AF)
  (AR (Dj aR rfl (Cy Go) (Es zGM)
   (AV (VA zHF (Ab CJ EL U rfl (AA rc AF)) zAl)))
  (AV (Nc 3 (BZ (i:=1) sc.nd rfl As (Se rfl (by have:=U.units;exact this) rfl Bv rfl QZ Qu)))))))
 (AV (A1 Go))))))
def Qx:Ad ["most","trees","many"] f8 (AQ Fb):=CG
def dY(Ec:rW)(g:AD):GP :=
 (Js (W6 (Mm (CO iS zFn KM) (CO wP zFn (fC (.int 7))))
  (NL g (fC (.str (Str.ofString "trees are listed up to 0 to 7 knots"))))
  (fun δ=>some zAs))
 (Vh (Av (dG 1 AG)
 (Av (Ex (HK dU (AB CU (AB (Ai Ei zFn CU) AG))) (J5 2)
  (so 1 (AU (good Ec) Qy)))
 (b9 1)))))
def Ac(Ec:rW)(g:AD):rW:=GK f8 ["most","trees","many"] (dY Ec g)
def Yx{k:Nat}{Ec:rW}{R:AD}(F:Fn K mg "trees_to" Fb f8 f fd) {U:AD}{Y:Db}(LQ:Fn K mg "trees_of" OB ["many"] U Y)(OY:AK P w K mg base K9 k U Y ["many"] (Ds Ec))(DD:zDN){g:Tok}(GB:mg "MOST_KNOTS" = some (.int 7 g))(T:Exc K mg "TooMany" R):AK P w K mg base K9 RJ f fd f8 (Ds (Ac Ec R)):=Pu F Qx fun cdv A outer s H E Z=>by
 have sc:=Qx;exact(Gh (TY zGn
  (G8 (by exact ML T T2 QN))
  NI)
 (Nn (AR (Td (i:=1) sc.nd rfl As AF)
 (AR (Dj aR rfl (Vc rfl DD (AA AJ (AA (A3 Cg Cl AJ) AF))) (Es zFb)
  (AV (VA zGH (Ab LQ (JP OY) Z rfl zFy) zAl)))
 (AV (Z2 zGH))))))
def Q8:Ad FB FB (AQ OP):=CG
def cI:DF :=
 (Bb (Yb (Rh gy zFn) (xS (Rh Z5 zFn))))
def Dl:MD:=Cd FB FB (cI)
def Yj{k:Nat}(F:Fn K mg "is_whole" OP FB f fd)(T:mg "bool" = none)(R:mg "int" = none)(g:zO):AK P w K mg base Ag RJ f fd FB (A6 (Dl)):=Fl F Q8 fun cdv A outer s H E U=>by
 have sc:=Q8;exact(AV (A1 (Sb (Lv (jY _) rfl g rfl R PyProof.Rows.boot_int Cl) (W9 (rF (Lv (iO _) rfl g rfl T PyProof.Rows.boot_bool Cl))))))
def Ni:Ad FB FB (AQ Km):=CG
def O4(g:MD)(Dl:MD):DF :=
 (Av (GH (Mm (Ik (Ig (Rh TX zFn))) (CO zBl zHC U9))
  (Bb TW)
  C7)
 (Av (GH (Mm (Ik (Ig (AU Dl (AB zHJ AG)))) (Ik (Ig (AU Dl (AB zHK AG)))))
  (Bb TW)
  C7)
 (Bb (Yb (Ai zBJ zHK CU) (Ai yz (AU g (AB zHJ (AB zHK AG))) CU)))))
def C8(g:MD)(Dl:MD):MD:=Cd FB FB (O4 g Dl)
def UJ{k:Nat}{DR:MD}{Dl:MD}(F:Fn K mg "is_fraction" Km FB f fd) {Y:AD}{Z:Db}(BD:Fn K mg "greatest_divisor" DP JU Y Z)(B2:AK P w K mg base Ag k Y Z JU (A6 DR)) {R:AD}{T:Db}(JI:Fn K mg "is_whole" OP FB R T)(U:AK P w K mg base Ag k R T FB (A6 Dl))(BH:zO)(B6:zE)(DN:zDM):AK P w K mg base Ag RJ f fd FB (A6 (C8 DR Dl)):=Fl F Ni fun cdv A outer s H E g=>by
 have sc:=Ni;exact(AR (Dq (DW.dt (JF (F6 (GL (Lv (R7 _) rfl BH rfl DN bf Cl))) (GI (B3 (Md Ch) zHU AJ To))))
  (AV zBK)
  CC)
 (AR (Dq (DW.dt (JF (F6 (GL (Ab JI U g rfl zHX))) (GI (F6 (GL (Ab JI U g rfl zHX))))))
  (AV zBK)
  CC)
 (AV (A1 (Sb (TB kN zFf AJ To) (W9 (TB (KA Ch) (Ab BD B2 g rfl (AA zFf zHX)) AJ To)))))))
def L3:Ad ["thing","part"] FB (AQ FZ):=CG
def Mo(C8:MD):DF :=
 (Av (GH (Ik (Ig (Rh X4 zFn)))
  (Bb TW)
  C7)
 (Av (Ex zCa (J5 1)
  (GH (Ik (Ig (AU C8 zFh)))
   (Bb TW)
   C7))
 (Bb (fC KQ))))
def Al(C8:MD):MD:=Cd FB ["thing","part"] (Mo C8)
def RU{k:Nat}{C8:MD}(F:Fn K mg "are_fractions" FZ FB f fd) {g:AD}{R:Db}(Z:Fn K mg "is_fraction" Km FB g R)(Y:AK P w K mg base Ag k g R FB (A6 C8))(BH:zO)(U:mg "list" = none):AK P w K mg base Ag RJ f fd FB (A6 (Al C8)):=Fl F L3 fun cdv A outer s H E T=>by
 have sc:=L3;exact(AR (Dq (F6 (GL (Lv (X6 _) rfl BH rfl U PyProof.Rows.boot_list Cl)))
  (AV zBK)
  CC)
 (AR (Dj aR rfl (Cy Cl) (Es (Az (i:=1) sc.nd rfl As))
  (AV (Dq (F6 (GL (Ab Z Y T rfl zFx)))
   (AV zBK)
   CC)))
 (AV zBK)))
def Q9:Ad ["thing","k","row"] FB (AQ Ot):=CG
def Sk(Al:MD):DF :=
 (Av (GH (Mm (Ik (Ig (Rh X4 zFn))) (Mm (CO iS zHC CU) (CO wP zHC (fC (.int 40)))))
  (Bb TW)
  C7)
 (Av (Ex (HK S0 Do) (Fo 1 2)
  (GH (Mm (Ik (Ig (AU Al Qy))) (CO zBl (AU ID Qy) Kv))
   (Bb TW)
   C7))
 (Bb (fC KQ))))
def Ek(Al:MD):MD:=Cd FB ["thing","k","row"] (Sk Al)
def Yw{k:Nat}{Al:MD}(F:Fn K mg "are_rows" Ot FB f fd) {U:AD}{Y:Db}(CI:Fn K mg "are_fractions" FZ FB U Y)(Cc:AK P w K mg base Ag k U Y FB (A6 Al))(C5:mg "enumerate" = none)(BH:zO)(R:zE)(Z:mg "list" = none){g:Tok}(NB:mg "MOST_ROWS" = some (.int 40 g)):AK P w K mg base Ag RJ f fd FB (A6 (Ek Al)):=Fl F Q9 fun cdv A outer s H E T=>by
 have sc:=Q9;exact(AR (Dq (DW.dt (JF (F6 (GL (Lv (X6 _) rfl BH rfl Z PyProof.Rows.boot_list Cl))) (JF (B3 WI (DC HN rfl R bD zFZ) AJ To) (GI (B3 Sa (DC HN rfl R bD zFZ) (Rx rfl NB) To)))))
  (AV zBK)
  CC)
 (AR (Dj aR rfl (UZ rfl C5 zFZ) zHV
  (AV (Dq (DW.dt (JF (F6 (GL (Ab CI Cc T rfl zFy))) (GI (B3 (Md yp) (DC HN rfl R bD zFy) Go To))))
   (AV zBK)
   CC)))
 (AV zBK)))
def Qt:Ad FB FB (AQ OW):=CG
def Tq(Al:MD)(Ek:MD):DF :=
 (Av (GH (Mm (Ik (Ig (Rh TX zFn))) (CO zBl zHC U9))
  (Bb TW)
  C7)
 (Bb (Yb (AU Ek (AB zHJ AG)) (Yb (AU Al (AB zHK AG)) (Ai yz (AU ID (AB zHK AG)) (AU ID (AB zHJ AG)))))))
def Ej(Al:MD)(Ek:MD):MD:=Cd FB FB (Tq Al Ek)
def Y5{k:Nat}{Al:MD}{Ek:MD}(F:Fn K mg "is_table" OW FB f fd) {Y:AD}{Z:Db}(CI:Fn K mg "are_fractions" FZ FB Y Z)(Cc:AK P w K mg base Ag k Y Z FB (A6 Al)) {T:AD}{U:Db}(LN:Fn K mg "are_rows" Ot FB T U)(Oi:AK P w K mg base Ag k T U FB (A6 Ek))(BH:zO)(R:zE)(DN:zDM):AK P w K mg base Ag RJ f fd FB (A6 (Ej Al Ek)):=Fl F Qt fun cdv A outer s H E g=>by
 have sc:=Qt;exact(AR (Dq (DW.dt (JF (F6 (GL (Lv (R7 _) rfl BH rfl DN bf Cl))) (GI (B3 (Md Ch) (DC HN rfl R bD zFZ) AJ To))))
  (AV zBK)
  CC)
 (AV (A1 (Sb (Ab LN Oi g rfl zHX) (Sb (Ab CI Cc g rfl zHX) (W9 (TB (KA Ch) (DC HN rfl R bD zHX) (DC HN rfl R bD zHX) To)))))))
def Ka:Ad FB FB (AQ IE):=CG
def Kx(Ej:MD)(g:AD):GP :=
 (W6 (Ik (Ig (AU Ej Do)))
  (NL g (fC (.str (Str.ofString "a table is a tuple of rows, the k-th of k fractions, and a last of as many as there are rows"))))
  (fun δ=>some zAs))
def CB(Ej:MD)(g:AD):rW:=GK FB FB (Kx Ej g)
def Pj{k:Nat}{Ej:MD}{g:AD}(F:Fn K mg "refuse_no_table" IE FB f fd) {T:AD}{U:Db}(LU:Fn K mg "is_table" OW FB T U)(Z:AK P w K mg base Ag k T U FB (A6 Ej))(R:Exc K mg "NoTable" g):AK P w K mg base K9 RJ f fd FB (Ds (CB Ej g)):=Pu F Ka fun cdv A outer s H E Y=>by
 have sc:=Ka;exact(G8 (TY (F6 (GL (Ab LU Z Y rfl zFZ)))
  (G8 (by exact ML R T2 QN))
  NI))
def K8:Ad yk yk (AQ IX):=CG
def MC(CB:rW)(Ac:rW)(R:MD):GP :=
 (Js (Od CB Do fun _ δ=>.nx δ)
 (xE (CL (DV (vv zFn) (DV (CL (EM zFh) Ac) zDj)) fun g=>(R g).map .inl) fun x _=>.rt x))
def CN(CB:rW)(Ac:rW)(g:MD):rW:=GK yk yk (MC CB Ac g)
def Qs{k:Nat}{CB:rW}{Ac:rW}{Z:MD}(F:Fn K mg "table_weighing" IX yk f fd) {U:AD}{Y:Db}(Fy:Fn K mg "refuse_no_table" IE FB U Y)(IA:AK P w K mg base K9 k U Y FB (Ds CB)) {B1:AD}{Bk:Db}(Bh:zFw)(Bq:zFs) {R:AD}{T:Db}(HH:Fn K mg "weights_under" JO zBS R T)(JW:AK P w K mg base Ag k R T zBS (A6 Z)):AK P w K mg base K9 RJ f fd yk (Ds (CN CB Ac Z)):=Pu F K8 fun cdv A outer s H E g=>by
 have sc:=K8;exact(Gh (by exact ZF Fy IA g HI zHP (fun h=>Er h))
 (G8 (by exact Um (Fp HH (k9 JW) g HI (Jz (ox Cl) (Jz (Fp Bh Bq g HI (IQ (by exact zFx))) zFE))))))
def Ij:Ad FB FB (AQ GY):=CG
def JQ(Al:MD)(g:AD):GP :=
 (W6 (Mm (Ik (Ig (AU Al Do))) (Ig (fun δ=>((AU ID Do) δ).bind (kq true [0,1,2,4,8,17,37,85]))))
  (NL g (fC (.str (Str.ofString "a weighing is a list of a fraction for each tree of at most 0 to 7 knots"))))
  (fun δ=>some zAs))
def Bf(Al:MD)(g:AD):rW:=GK FB FB (JQ Al g)
def NO{k:Nat}{Al:MD}{T:AD}(F:Fn K mg "refuse_no_weighing" GY FB f fd) {Y:AD}{Z:Db}(CI:Fn K mg "are_fractions" FZ FB Y Z)(Cc:AK P w K mg base Ag k Y Z FB (A6 Al))(B6:zE){g:AD}(DQ:mg "WEIGHING_LENGTHS" = some (.ref g))(R:Own K g [0,1,2,4,8,17,37,85])(U:Exc K mg "NoWeighing" T):AK P w K mg base K9 RJ f fd FB (Ds (Bf Al T)):=Pu F Ij fun cdv A outer s H E hr=>by
 have sc:=Ij;exact(G8 (TY (DW.dt (JF (F6 (GL (Ab CI Cc hr rfl zFZ))) (GI (sZ Xa zHU rfl DQ R))))
  (G8 (by exact ML U T2 QN))
  NI))
def K3:Ad Iv Iv (AQ D8):=CG
def Lb(Bf:rW):GP :=
 (Js (Od Bf Do fun _ δ=>.nx δ)
 (Vh (Bb zGu)))
def AZ(Bf:rW):rW:=GK Iv Iv (Lb Bf)
def Qp{k:Nat}{Bf:rW}(F:Fn K mg "weighing_reach" D8 Iv f fd) {T:AD}{U:Db}(El:Fn K mg "refuse_no_weighing" GY FB T U)(Z:AK P w K mg base K9 k T U FB (Ds Bf))(B6:zE){g:AD}(DQ:mg "WEIGHING_LENGTHS" = some (.ref g))(R:Own K g [0,1,2,4,8,17,37,85]):AK P w K mg base K9 RJ f fd Iv (Ds (AZ Bf)):=Pu F K3 fun cdv A outer s H E Y=>by
 have sc:=K3;exact(Gh (by exact ZF El Z Y HI zHP (fun h=>Er h))
 (Nn (AV (A1 (gg zHU rfl DQ R)))))
def Mx:Ad zCl zCl (AQ Jt):=CG
def Nj(BU:MD):DF :=
 (Ma (CS zCS EX (BA (AB CU (AB (AU BU zFh) AG))) [none,none] zCa))
def Bx(BU:MD):MD:=Cd zCl zCl (Nj BU)
def Sy{k:Nat}{BU:MD}(F:Fn K mg "true_weights" Jt zCl f fd) {g:AD}{R:Db}(Y:Fn K mg "density_within" Ia K0 g R)(U:AK P w K mg base Ag k g R K0 (A6 BU)):AK P w K mg base Ag RJ f fd zCl (A6 (Bx BU)):=Fl F Mx fun cdv A outer s H E T=>by
 have sc:=Mx;exact(AV (Uw [".0","tree"] 1 [none,none] (Cy Cl) ce (fun _ _ _ _ _=>(Aq (AA AJ (AA (Ab Y U T rfl zFx) AF))))))
def MA:Ad f8 f8 (AQ JA):=CG
def Mz(Ac:rW)(Bx:MD):GP :=
 (xE (CL (DV (CL zGY Ac) zDj) fun g=>(Bx g).map .inl) fun x _=>.rt x)
def Cb(Ac:rW)(Bx:MD):rW:=GK f8 f8 (Mz Ac Bx)
def Ru{k:Nat}{Ac:rW}{Bx:MD}(F:Fn K mg "true_weighing" JA f8 f fd) {Y:AD}{U:Db}(Bh:Fn K mg "trees_to" Fb f8 Y U)(Bq:AK P w K mg base K9 k Y U f8 (Ds Ac)) {R:AD}{T:Db}(Hr:Fn K mg "true_weights" Jt zCl R T)(Z:AK P w K mg base Ag k R T zCl (A6 Bx)):AK P w K mg base K9 RJ f fd f8 (Ds (Cb Ac Bx)):=Pu F MA fun cdv A outer s H E g=>by
 have sc:=MA;exact(G8 (by exact Um (Fp Hr (k9 Z) g HI (Jz (Fp Bh Bq g HI (IQ zHP)) zFE))))
def Mk:Ad ["trees","one","other","tree","weight","due"] ss (AQ Jo):=CG
def NK:DF :=
 (Av (Ex (HK Ug (AB zFn (AB Kv Qy))) (YZ 3 4 5)
  (GH (CO zBl zBw (nm 5))
   (Bb sK)
   C7))
 (Bb zDb))
def CY:MD:=Cd ss ["trees","one","other","tree","weight","due"] (NK)
def Ta{k:Nat}(F:Fn K mg "first_unlike" Jo ss f fd)(R:zCZ):AK P w K mg base Ag RJ f fd ss (A6 (CY)):=Fl F Mk fun cdv A outer s H E g=>by
 have sc:=Mk;exact(AR (Dj aR rfl (mh rfl R (AA Cl (AA Go zFy))) (iY (IH rfl (B5 (Az (i:=3) sc.nd rfl As) (B5 zGM (B5 zGN G9)))))
  (AV (Dq (B3 (Md Ch) rc zAe To)
   (AV (A1 Qu))
   CC)))
 (AV (A1 MP)))
def LA:Ad ["weighing","reach","tree"] Iv (AQ IY):=CG
def L4(CY:MD)(AW:MD)(Ac:rW)(Cb:rW)(AZ:rW):DF :=
 (Av (CM 1 (AU (good AZ) Do))
 (Av (CM 2 (AU CY (AB (AU (good Ac) zFh) (AB zFn (AB (AU (good Cb) zFh) AG)))))
 (Av (GH (CO (U5 false) zGE zDb)
  (Bb (BA (AB Kv (AB zDb AG))))
  C7)
 (Bb (BA (AB (Ai XH (AU AW Qy) CU) Qy))))))
def Bm(CY:MD)(AW:MD)(Ac:rW)(Cb:rW)(AZ:rW):MD:=Cd Iv ["weighing","reach","tree"] (L4 CY AW Ac Cb AZ)
def Qr{k:Nat}{CY:MD}{AW:MD}{Ac:rW}{Cb:rW}{AZ:rW}(F:Fn K mg "weighing_order" IY Iv f fd) {R:AD}{T:Db}(Hl:Fn K mg "first_unlike" Jo ss R T)(Jv:AK P w K mg base Ag k R T ss (A6 CY)) {Z:AD}{Cr:Db}(Ap:Fn K mg "knots_within" DK K0 Z Cr)(A8:AK P w K mg base Ag k Z Cr K0 (A6 AW)) {B1:AD}{Bk:Db}(Bh:zFw)(Bq:zFs) {U:AD}{Y:Db}(HG:Fn K mg "true_weighing" JA f8 U Y)(JL:AK P w K mg base K9 k U Y f8 (Ds Cb)) {Bn:AD}{Bd:Db}(BK:zGB)(BR:zGA):AK P w K mg base Ag RJ f fd Iv (A6 (Bm CY AW Ac Cb AZ)):=Fl F LA fun cdv A outer s H E g=>by
 have sc:=LA;exact(AR (BZ (i:=1) sc.nd rfl As (Ab BK (JP BR) g rfl zFZ))
 (AR (BZ (i:=2) sc.nd rfl As (Ab Hl Jv g rfl (AA (Ab Bh (JP Bq) g rfl zFx) (AA Cl (AA (Ab HG (JP JL) g rfl zFx) AF)))))
 (AR (Dq (B3 lP KF MP To)
  (AV (A1 (Aq (AA Go (AA MP AF)))))
  CC)
 (AV (A1 (Aq (AA (A3 Qd (Ab Ap A8 g rfl zFy) AJ) zFy)))))))
def cT:Ad ["thing","k","bough"] FB (AQ Pe):=CG
def VY(DM:MD):DF :=
 (Av (GH (Ik (Ig (Rh TX zFn)))
  (Bb TW)
  C7)
 (Av (Ex (HK S0 Do) (Fo 1 2)
  (Av (GH (Wl (CO wP Kv KM) (CO yz zGE (Ai DB zFn (Ai XH Kv CU))))
   vJ
   C7)
  (GH (Mm (Ik (Ig (AU DM Qy))) (Wl (CO wP Kv KM) (CO lJ zGE (Ai DB zFn (Ai XH Kv CU)))))
   (Bb TW)
   C7)))
 (Bb (fC KQ))))
def DM:Nat->MD
 |0=>fun _=>none
 |n+1=>Cd FB ["thing","k","bough"] (VY (DM n))
def Sx{k:Nat}(R:Fn K mg "is_tree" Pe FB f fd)(U:mg "enumerate" = none)(Y:zO)(T:zDM):∀n,
  AK P w K mg base Ag (k+n+1) f fd FB (A6 (DM n))
 |0=>Ep fun _ _ _ _ ⟨_,_,_,h,_⟩=>by cases h
 |n+1=>by
  have sc:=cT;have Z:=Sx (k:=k) R U Y T n;refine Fl (k:=k+n+1) (F:=VY (DM n)) R sc fun cdv A outer s H E g=>?_;exact(AR (Dq (F6 (GL (Lv (R7 _) rfl Y rfl T bf Cl)))
  (AV zBK)
  CC)
 (AR (Dj aR rfl (UZ rfl U zFZ) zHV
  (AR (Dq (DW.dt (W5 (B3 Sa Go AJ To) (GI (B3 (KA Ch) KF (Bu Cl (A3 Qd Go AJ) Da) To))))
   (AV mx)
   CC)
  (AV (Dq (DW.dt (JF (F6 (GL (Ab R Z g rfl zFy))) (GI (DW.dt (W5 (B3 Sa Go AJ To) (GI (B3 (lV Ch) KF (Bu Cl (A3 Qd Go AJ) Da) To)))))))
   (AV zBK)
   CC))))
 (AV zBK)))
def LB:Ad FB FB (AQ IZ):=CG
def Rm(DM:MD):DF :=
 (GH (Ik (Ig (AU DM Do)))
  sI
  C7)
def CK(DM:MD):MD:=Cd FB FB (Rm DM)
def Qn{k:Nat}{DM:MD}(F:Fn K mg "refuse_no_tree" IZ FB f fd) {g:AD}{R:Db}(Y:Fn K mg "is_tree" Pe FB g R)(U:AK P w K mg base Ag k g R FB (A6 DM)):AK P w K mg base Ag RJ f fd FB (A6 (CK DM)):=Fl F LB fun cdv A outer s H E T=>by
 have sc:=LB;exact(AV (Dq (F6 (GL (Ab Y U T rfl zFZ)))
  (AV iz)
  CC))
def Ui:Ad zDQ K0 (AQ Kr):=CG
def O6(AY:MD)(B0:MD):DF :=
 (Av (CM 1 (Cm (AB (BA (AB (BA AG) (AB (Cm AG) AG))) AG)))
 (Av (Ex zCa (J5 2)
  (Av (dG 3 AG)
  (Av (Ex (Dy Kv) (Fo 4 5)
   (Av (j8 3 (BA (AB zBw (AB (Ai Ei (nm 5) (Cm Qy)) AG))))
   (Ex (Dy (AU B0 Qy)) (Fo 6 7)
    (j8 3 (BA (AB (Ai Ei zBw (BA (AB (nm 6) AG))) (AB (Ai Ei (nm 5) (nm 7)) AG)))))))
  (SK 3 (CM 1 sK)))))
 (Ma (CS (Fo 1 2) EX (BA (AB (AU AY zFh) (AB (AU (Ld true) Qy) AG))) [none,none,none] (Dy Kv)))))
def B0(AY:MD):Nat->MD
 |0=>fun _=>none
 |n+1=>Cd K0 zDQ (O6 AY (B0 AY n))
def NN{k:Nat}{AY:MD}(U:Fn K mg "cuts_within" Kr K0 f fd)
 {Z:AD}{D0:Db}(Bj:Fn K mg "in_falling_order" Fe zAt Z D0)(R:AK P w K mg base Ag k Z D0 zAt (A6 AY))(Y:zAu):∀n,
  AK P w K mg base Ag (k+n+1) f fd K0 (A6 (B0 AY n))
 |0=>Ep fun _ _ _ _ ⟨_,_,_,h,_⟩=>by cases h
 |n+1=>by
  have sc:=Ui;have Gw:=NN (k:=k) (AY:=AY) U Bj R Y n;have R:=R.mono (show k<=k+n+1 by lia);refine Fl (k:=k+n+1) (F:=O6 AY (B0 AY n)) U sc fun cdv A outer s H E g=>?_;exact(AR (BZ (i:=1) sc.nd rfl As (Bc (AA (Aq (AA (Aq AF) (AA (Bc AF) AF))) AF)))
 (AR (Dj aR rfl (Cy Cl) (Es zFb)
  (AR (Td (i:=3) sc.nd rfl As AF)
  (AR (Dj aR rfl (Cy Go) (MO (IH rfl (B5 zGM (B5 zGN G9))))
   (AR (QC zHF (Aq (AA rc (AA (A3 Cg zAe (Bc zFy)) AF))) (fun T ha=>Er (IU ar bM bN GV T ha)))
   (AV (Dj aR rfl (Cy (Ab U Gw g rfl zFy)) zFo
    (AV (QC zHF (Aq (AA (A3 Cg rc (Aq (AA (AE (pv 6)) AF))) (AA (A3 Cg zAe (AE (pv 7))) AF))) (fun T ha=>Er (IU ar bM bN GV T ha))))))))
  (AV (Nc 3 (BZ (i:=1) sc.nd rfl As Qu))))))
 (AV (X5 [".0","left","parts"] 1 2 [none,none,none] (Cy Go) ce (fun _ _ _ _ _=>(Aq (AA (Ab Bj R g rfl zFx) (AA (Xu Ch rfl Y zFy (fun h=>Xd Ch rfl Y h)) AF))))))))
def Pc:Ad K0 K0 (AQ J9):=CG
def Yl(B0:MD)(CK:MD):DF :=
 (Av (vN (AU CK Do))
 (Bb (Ai Ei (Cm (AB (BA (AB zDb (AB (Cm Do) AG))) AG)) (AU Yi (AB (AU B0 Do) AG)))))
def Bs(B0:MD)(CK:MD):MD:=Cd K0 K0 (Yl B0 CK)
def XA{k:Nat}{B0:MD}{CK:MD}(F:Fn K mg "tree_cuts" J9 K0 f fd) {R:AD}{T:Db}(Dw:Fn K mg "cuts_within" Kr K0 R T)(Gw:AK P w K mg base Ag k R T K0 (A6 B0)) {U:AD}{Y:Db}(Gj:Fn K mg "refuse_no_tree" IZ FB U Y)(Z:AK P w K mg base Ag k U Y FB (A6 CK))(Bv:zAu):AK P w K mg base Ag RJ f fd K0 (A6 (Bs B0 CK)):=Fl F Pc fun cdv A outer s H E g=>by
 have sc:=Pc;exact(AR (mH (Ab Gj Z g rfl zFZ))
 (AV (A1 (A3 Cg (Bc (AA (Aq (AA MP (AA (Bc zFZ) AF))) AF)) (DC (jn Ch) rfl Bv PyProof.Rows.boot_sorted (AA (Ab Dw Gw g rfl zFZ) AF))))))
def PX:Ad ["cut","ahead","behind","top","bottom","part"] Tk (AQ KI):=CG
def RT:DF :=
 (Av (CM 3 (Ai DB (Ai J7 zGE zHJ) KM))
 (Av (CM 4 (Ai DB (Ai J7 zGE zHJ) CU))
 (Av (Ex (Dy zHK) (J5 5)
  (Av (CM 3 (Ai Ge sK (Ai DB (Ai J7 Kv (nm 5)) KM)))
  (CM 4 (Ai Ge zBw (Ai DB (Ai J7 Kv (nm 5)) CU)))))
 (Bb (BA (AB sK (AB zBw AG)))))))
def A9:MD:=Cd Tk ["cut","ahead","behind","top","bottom","part"] (RT)
def YG{k:Nat}(F:Fn K mg "cut_share" KI Tk f fd):AK P w K mg base Ag RJ f fd Tk (A6 (A9)):=Fl F PX fun cdv A outer s H E g=>by
 have sc:=PX;exact(AR (BZ (i:=3) sc.nd rfl As (Bu (L6 Ch KF zFf Da) AJ Da))
 (AR (BZ (i:=4) sc.nd rfl As (Bu (L6 Ch KF zFf Da) AJ Da))
 (AR (Dj aR rfl (Cy zFf) (Es zGN)
  (AR (BZ (i:=3) sc.nd rfl As (A3 Fi Qu (Bu (L6 Ch Go zAe Da) AJ Da)))
  (AV (BZ (i:=4) sc.nd rfl As (A3 Fi rc (Bu (L6 Ch Go zAe Da) AJ Da))))))
 (AV (A1 (Aq (AA Qu (AA rc AF))))))))
def I0:Ad zFX JU (AQ HC):=CG
def HD(A9:MD)(R:MD)(Bs:MD)(Ac:rW)(AZ:rW)(g:AD):GP :=
 (Js (Od AZ Do fun z δ=>.nx (δ.set 2 (.d z)))
 (Js (W6 (CO zBl (AU (good AZ) zFh) zGE)
  (NL g (fC (.str (Str.ofString "weighings are composed where they reach equally far"))))
  (fun δ=>some zAs))
 (Js (Od Ac Qy fun z δ=>.nx (δ.set 3 (.d z)))
 (Vh (Av (Wz 4 (AB sK Do))
 (Av (Wz 5 (AB sK zFh))
 (Av (cX 5 (BA (AB CU zFu)) zDb)
 (SK 5 (SK 4 (Ma (CS zCS EX (AU R (AB (Hh zCS EX zFq [none,none,some 2,some 3] (Dy (AU Bs zFh))) AG)) [none,none,some 4,some 5] (Dy sK))))))))))))
def Bo(A9:MD)(R:MD)(Bs:MD)(Ac:rW)(AZ:rW)(g:AD):rW:=GK JU zFX (HD A9 R Bs Ac AZ g)
def OO{k:Nat}{A9:MD}{CD:MD}{Bs:MD}{Ac:rW}{AZ:rW}{g:AD}(F:Fn K mg "weighing_composed" HC JU f fd) {Z:AD}{Hd:Db}(Ft:Fn K mg "cut_share" KI Tk Z Hd)(G6:AK P w K mg base Ag k Z Hd Tk (A6 A9)) {HX:AD}{Gq:Db}(Eu:Fn K mg "frac_total" JS ["some"] HX Gq)(GF:AK P w K mg base Ag k HX Gq ["some"] (A6 CD)) {Y:AD}{Hc:Db}(Fq:Fn K mg "tree_cuts" J9 K0 Y Hc)(G5:AK P w K mg base Ag k Y Hc K0 (A6 Bs)) {B1:AD}{Bk:Db}(Bh:zFw)(Bq:zFs) {Bn:AD}{Bd:Db}(BK:zGB)(BR:zGA)(U:mg "dict" = none)(EU:zCZ)(R:Exc K mg "NotAlike" g):AK P w K mg base K9 RJ f fd JU (Ds (Bo A9 CD Bs Ac AZ g)):=Pu F I0 fun cdv A outer s H E T=>by
 have sc:=I0;exact(Gh (by exact eW (i:=2) BK BR T HI zHP sc.nd As)
 (Gh (TY (B3 (Md yp) (Ab BK (JP BR) T rfl zFx) KF To)
  (G8 (by exact ML R T2 QN))
  NI)
 (Gh (by exact eW (i:=3) Bh Bq T HI (by exact zFy) sc.nd As)
 (Nn (AR (dC (i:=4) rfl yp rfl U rfl EU (AA Qu zFZ) sc.nd rfl zH)
 (AR (dC (i:=5) rfl yp rfl U rfl EU (AA Qu zFx) sc.nd rfl zH)
 (AR (X8 (pv 5) MP Fa (fun h1 h2 h3=>Nf h1 (Sl h2 h3 (XG yp))))
 (AV (Nc 5 (Nc 4 (Uw [".0","tree","ahead","behind"] 1 [none,none,some 4,some 5] (Cy Qu) ce (fun _ _ _ _ _=>(Ab Eu GF T rfl (AA (NS [".0","cut","ahead","behind"] 1 [none,none,some 2,some 3] (Cy (Ab Fq G5 T rfl zFx)) ce (fun _ _ _ _ _=>(Ab Ft G6 T rfl (AA Go (AA KF (AA Qu AF)))))) AF))))))))))))))
def KO:Ad zEm Iv (AQ Hy):=CG
def Hz(A9:MD)(g:MD)(R:MD)(Bs:MD)(Ac:rW)(AZ:rW):GP :=
 (Js (xE (CL (DV (CL zGY AZ) zDj) Ac) fun x δ=>.nx (δ.set 1 (.d x)))
 (Vh (Av (Wz 2 (AB Kv Do))
 (Av (iR 3 1 1)
 (Av (Ex (Dy Kv) (J5 4)
  (Av (SK 2 (CM 5 (WG 3 (Hh zCS (CO zBl (Ai DB Kv KM) zBw) zFq [none,none,some 2,some 3,some 4] (Dy (AU Bs (AB zBw AG)))))))
  (cX 3 (AU g (AB (AU R (AB (nm 5) AG)) zHL)) zBw)))
 (SK 3 (Ma (CS zCS EX (Ai J7 zGE Kv) [none,none,some 3] (Dy Kv)))))))))
def CA(A9:MD)(g:MD)(R:MD)(Bs:MD)(Ac:rW)(AZ:rW):rW:=GK Iv zEm (Hz A9 g R Bs Ac AZ)
def Pw{k:Nat}{A9:MD}{CF:MD}{CD:MD}{Bs:MD}{Ac:rW}{AZ:rW}(F:Fn K mg "weighing_undone" Hy Iv f fd) {T:AD}{U:Db}(Ft:Fn K mg "cut_share" KI Tk T U)(G6:AK P w K mg base Ag k T U Tk (A6 A9)) {Z:AD}{Gr:Db}(FA:Fn K mg "frac_times" JV JU Z Gr)(GG:AK P w K mg base Ag k Z Gr JU (A6 CF)) {HX:AD}{Gq:Db}(Eu:Fn K mg "frac_total" JS ["some"] HX Gq)(GF:AK P w K mg base Ag k HX Gq ["some"] (A6 CD)) {R:AD}{Y:Db}(Fq:Fn K mg "tree_cuts" J9 K0 R Y)(G5:AK P w K mg base Ag k R Y K0 (A6 Bs)) {B1:AD}{Bk:Db}(Bh:zFw)(Bq:zFs) {Bn:AD}{Bd:Db}(BK:zGB)(BR:zGA)(L8:mg "dict" = none)(EU:zCZ):AK P w K mg base K9 RJ f fd Iv (Ds (CA A9 CF CD Bs Ac AZ)):=Pu F KO fun cdv A outer s H E g=>by
 have sc:=KO;exact(Gh (by exact a6 (i:=1) zHY sc.nd As)
 (Nn (AR (dC (i:=2) rfl Ch rfl L8 rfl EU (AA Go zFZ) sc.nd rfl zH)
 (AR (jG (i:=3) Ch sc.nd rfl zH)
 (AR (Dj aR rfl (Cy Go) (Es (Az (i:=4) sc.nd rfl zH))
  (AR (Nc 2 (Y0 (i:=5) 3 [".0","cut","ahead","behind","tree"] 1 [none,none,some 2,some 3,some 4] sc.nd rfl rfl (Cy (Ab Fq G5 g rfl (AA rc AF))) (fun _ _ _ _ _=>(nk (B3 (Md Ch) zHA rc To))) (fun _ _ _ _ _=>(Ab Ft G6 g rfl (AA Go (AA KF (AA Qu AF)))))))
  (AV (X8 zHF rc (Ab FA GG g rfl (AA (Ab Eu GF g rfl (AA zAe AF)) (AA (Aq (AA (QK AJ) (AA AJ AF))) AF))) (fun h1 h2 h3=>Nf h1 (Sl h2 h3 (XG Ch)))))))
 (AV (Nc 3 (Uw [".0","tree","behind"] 1 [none,none,some 3] (Cy Go) ce (fun _ _ _ _ _=>(L6 Ch KF Go Da))))))))))
def PJ:Ad yl yl (AQ L7):=CG
def Pp(g:MD):DF :=
 (Bb (BA (AB (AU g (AB zHJ zFh)) (AB (AU g (AB zHK zFh)) AG))))
def CP(g:MD):MD:=Cd yl yl (Pp g)
def V6{k:Nat}{Y:MD}(F:Fn K mg "frac_power" L7 yl f fd) {R:AD}{T:Db}(Z:Fn K mg "power_of" LJ zT R T)(U:AK P w K mg base Ag k R T zT (A6 Y)):AK P w K mg base Ag RJ f fd yl (A6 (CP Y)):=Fl F PJ fun cdv A outer s H E g=>by
 have sc:=PJ;exact(AV (A1 (Aq (AA (Ab Z U g rfl (AA zFf zFx)) (AA (Ab Z U g rfl (AA zFf zFx)) AF)))))
def KW:Ad zFF me (AQ F4):=CG
def K6(CP:MD)(g:MD)(AW:MD)(Ac:rW)(AZ:rW):GP :=
 (Js (xE (CL (DV (CL zGY AZ) zDj) Ac) fun x δ=>.nx (δ.set 2 (.d x)))
 (Vh (Ma (CS (Fo 1 2) EX (AU g (AB zGE (AB (AU CP (AB sK (AB (AU AW zFh) AG))) AG))) [none,none,none,some 1] (HK zip2 (AB zGE Do))))))
def Ay(CP:MD)(g:MD)(AW:MD)(Ac:rW)(AZ:rW):rW:=GK me zFF (K6 CP g AW Ac AZ)
def Po{k:Nat}{CP:MD}{CF:MD}{AW:MD}{Ac:rW}{AZ:rW}(F:Fn K mg "weighing_turned" F4 me f fd) {R:AD}{T:Db}(JT:Fn K mg "frac_power" L7 yl R T)(MF:AK P w K mg base Ag k R T yl (A6 CP)) {U:AD}{Y:Db}(FA:Fn K mg "frac_times" JV JU U Y)(GG:AK P w K mg base Ag k U Y JU (A6 CF)) {Z:AD}{Cr:Db}(Ap:Fn K mg "knots_within" DK K0 Z Cr)(A8:AK P w K mg base Ag k Z Cr K0 (A6 AW)) {B1:AD}{Bk:Db}(Bh:zFw)(Bq:zFs) {Bn:AD}{Bd:Db}(BK:zGB)(BR:zGA)(EU:zCZ):AK P w K mg base K9 RJ f fd me (Ds (Ay CP CF AW Ac AZ)):=Pu F KW fun cdv A outer s H E g=>by
 have sc:=KW;exact(Gh (by exact a6 (i:=2) zHY sc.nd As)
 (Nn (AV (X5 [".0","tree","weight","part"] 1 2 [none,none,none,some 1] (qQ rfl EU (AA KF zFZ)) ce (fun _ _ _ _ _=>(Ab FA GG g rfl (AA KF (AA (Ab JT MF g rfl (AA Qu (AA (Ab Ap A8 g rfl zFx) AF))) AF))))))))
def Iu:Ad Iv Iv (AQ HA):=CG
def Je(Ay:rW)(CA:rW):GP :=
 (xE (CL (DV (CL zGY CA) (EM zHL)) Ay) fun x _=>.rt x)
def Ba(Ay:rW)(CA:rW):rW:=GK Iv Iv (Je Ay CA)
def N3{k:Nat}{Ay:rW}{CA:rW}(F:Fn K mg "weighing_mirrored" HA Iv f fd) {U:AD}{Y:Db}(CZ:Fn K mg "weighing_turned" F4 me U Y)(Co:AK P w K mg base K9 k U Y me (Ds Ay)) {T:AD}{R:Db}(F3:Fn K mg "weighing_undone" Hy Iv T R)(Z:AK P w K mg base K9 k T R Iv (Ds CA)):AK P w K mg base K9 RJ f fd Iv (Ds (Ba Ay CA)):=Pu F Iu fun cdv A outer s H E g=>by
 have sc:=Iu;exact(G8 (by exact Um (Fp CZ Co g HI (Jz (Fp F3 Z g HI (IQ zHP)) (IQ (by exact(AA (Aq (AA (QK AJ) (AA AJ AF))) AF)))))))
def QA:Ad zEV Tl (AQ KC):=CG
def M6:DF :=
 (Av (CM 2 KM)
 (Av (GH (CO iS Kv zHC)
  (CM 2 (Ai DB zFn Kv))
  C7)
 (Av (GH (CO zBJ zGE zBm)
  (Bb (Ai Ib (Ai XH zGE zBm) (Ai P0 (fC (.int 10)) (fC (.int 60)))))
  C7)
 (Av (CM 3 (Ai Ib (Ai Ei (Ai Ei (Ai Ge zGE (fC (.int 48271))) (Ai Ge Kv (fC (.int 69621)))) (fC (.int 11))) (fC (.int 2147483629))))
 (Av (CM 3 (Ai Ib (Ai Ge sK sK) (fC (.int 2147483587))))
 (Bb (Ai Ei (Ai Ge sK (fC (.int 2147483563))) (Ai Ib (Ai Ge sK sK) (fC (.int 2147483563))))))))))
def CV:MD:=Cd Tl zEV (M6)
def WY{k:Nat}(F:Fn K mg "_law_cell" KC Tl f fd)(g:zE):AK P w K mg base Ag RJ f fd Tl (A6 (CV)):=Fl F QA fun cdv A outer s H E R=>by
 have sc:=QA;exact(AR (BZ (i:=2) sc.nd rfl As AJ)
 (AR (Dq (B3 WI Go (DC HN rfl g bD zFZ) To)
  (AV (BZ (i:=2) sc.nd rfl As (Bu Cl Go Da)))
  CC)
 (AR (Dq (B3 kN KF (A3 US AJ AJ) To)
  (AV (A1 (A3 GA (A3 Qd KF (A3 US AJ AJ)) (A3 US AJ AJ))))
  CC)
 (AR (BZ (i:=3) sc.nd rfl As (A3 GA (A3 Cg (A3 Cg (A3 Fi KF AJ) (A3 Fi Go AJ)) AJ) AJ))
 (AR (BZ (i:=3) sc.nd rfl As (A3 GA (A3 Fi Qu Qu) AJ))
 (AV (A1 (A3 Cg (A3 Fi Qu AJ) (A3 GA (A3 Fi Qu Qu) AJ)))))))))
def O2:Ad SB SB (AQ Li):=CG
def Xl:DF :=
 (Av (GH (CO yz y6 KM)
  (Bb (BA (AB (Cm (AB (Cm AG) AG)) (AB (Cm zHS) AG))))
  C7)
 (Av (GH (CO yz y6 CU)
  (Bb (BA (AB (Cm (AB (Cm AG) (AB (Cm zFr) AG))) (AB (Cm (AB zHR zHS)) AG))))
  C7)
 (Av (GH (CO yz y6 U9)
  (Bb (BA (AB (Cm (AB (Cm AG) (AB (Cm zHS) AG))) (AB (Cm (AB (BA (AB CU (AB U9 AG))) zFr)) AG))))
  C7)
 (Av (GH (CO yz y6 (fC (.int 3)))
  (Bb (BA (AB (Cm (AB (Cm AG) (AB (Cm (AB (BA (AB CU zDR)) AG)) (AB (Cm (AB zHR (AB (BA (AB U9 zDR)) AG))) AG)))) (AB (Cm (AB (BA (AB CU (AB (fC (.int 4)) AG))) (AB zHR (AB (BA (AB (fC (.int 3)) (AB (fC (.int 4)) AG))) AG)))) AG))))
  C7)
 (Bb (BA (AB (Cm (AB (Cm AG) (AB (Cm zFr) (AB (Cm (AB zHR zFr)) (AB (Cm (AB zHR (AB zHR zHS))) AG))))) (AB (Cm (AB (BA (AB CU (AB (fC (.int 6)) AG))) (AB (BA (AB CU zDR)) (AB (BA (AB CU zDR)) (AB (BA (AB CU (AB (fC (.int 6)) AG))) AG))))) AG))))))))
def LZ:MD:=Cd SB SB (Xl)
def V2{k:Nat}(F:Fn K mg "_law_named" Li SB f fd):AK P w K mg base Ag RJ f fd SB (A6 (LZ)):=Fl F O2 fun cdv A outer s H E g=>by
 have sc:=O2;exact(AR (Dq zGI
  (AV (A1 (Aq (AA (Bc (AA (Bc AF) AF)) (AA (Bc zGG) AF)))))
  CC)
 (AR (Dq zGI
  (AV zHM)
  CC)
 (AR (Dq zGI
  (AV zHM)
  CC)
 (AR (Dq zGI
  (AV (A1 (Aq (AA (Bc (AA (Bc AF) (AA (Bc zGG) (AA (Bc (AA Fa zGG)) AF)))) (AA (Bc (AA Fa (AA Fa zGG))) AF)))))
  CC)
 (AV (A1 (Aq (AA (Bc (AA (Bc AF) (AA (Bc zGG) (AA (Bc (AA Fa zGG)) (AA (Bc (AA Fa (AA Fa zGG))) AF))))) (AA (Bc (AA Fa (AA Fa (AA Fa zGG)))) AF)))))))))
def Wc:Ad Ja Ja (AQ NG):=CG
def Q5(BV:MD):DF :=
 (Bb (AU Oa (AB (oO (AU (Ld false) (AB (Hh zCS EX (AU BV zFh) [none,none] zCa) AG)) (Pn CU)) AG)))
def BV:Nat->MD
 |0=>fun _=>none
 |n+1=>Cd Ja Ja (Q5 (BV n))
def Pb{k:Nat}(g:Fn K mg "_law_kept" NG Ja f fd)(U:zAu)(T:zDM):∀n,
  AK P w K mg base Ag (k+n+1) f fd Ja (A6 (BV n))
 |0=>Ep fun _ _ _ _ ⟨_,_,_,h,_⟩=>by cases h
 |n+1=>by
  have sc:=Wc;have Y:=Pb (k:=k) g U T n;refine Fl (k:=k+n+1) (F:=Q5 (BV n)) g sc fun cdv A outer s H E R=>?_;exact(AV (A1 (U8 XE rfl T bf (AA (rK (DC (oG (by have:=R.units;exact this)) rfl U PyProof.Rows.boot_sorted (AA (NS [".0","_law_bough"] 1 [none,none] (Cy Cl) ce (fun _ _ _ _ _=>(Ab g Y R rfl zFx))) AF)) (QK AJ)) AF))))
def UR:Ad ["_law_tree","_law_found","_law_k"] Ja (AQ Kl):=CG
def O8(BV:MD)(Bz:MD):DF :=
 (Av (CM 1 (Cm (AB (AU BV (AB (Ai Ei zFn (BA (AB (BA AG) AG))) AG)) AG)))
 (Av (Ex (HK da (AB zHC AG)) (J5 2)
  (CM 1 (Ai Ei Kv (Hh zCS EX (AU BV (AB (Ai Ei (Ai Ei (cS zGE WB (WH sK)) (BA zFh)) (cS zGE (WH (Ai Ei sK CU)) WB)) AG)) [none,none,some 0,some 2] (Dy (AU Bz (AB (Ai DB zFn zGE) AG)))))))
 (Bb Kv)))
def Bz(BV:MD):Nat->MD
 |0=>fun _=>none
 |n+1=>Cd Ja ["_law_tree","_law_found","_law_k"] (O8 BV (Bz BV n))
def NR{k:Nat}{BV:MD}(T:Fn K mg "_law_longer" Kl Ja f fd)
 {Y:AD}{Z:Db}(U:Fn K mg "_law_kept" NG Ja Y Z)(g:AK P w K mg base Ag k Y Z Ja (A6 BV))(B6:zE)(DD:zDN):∀n,
  AK P w K mg base Ag (k+n+1) f fd Ja (A6 (Bz BV n))
 |0=>Ep fun _ _ _ _ ⟨_,_,_,h,_⟩=>by cases h
 |n+1=>by
  have sc:=UR;have Gm:=NR (k:=k) (BV:=BV) T U g B6 DD n;have g:=g.mono (show k<=k+n+1 by lia);refine Fl (k:=k+n+1) (F:=O8 BV (Bz BV n)) T sc fun cdv A outer s H E R=>?_;exact(AR (BZ (i:=1) sc.nd rfl As (Bc zGk))
 (AR (Dj aR rfl (Vk rfl DD (AA zHU AF)) (Es (Az (i:=2) sc.nd rfl zH))
  (AV (BZ (i:=1) sc.nd rfl As (A3 Cg Go (NS [".0","_law_more","_law_tree","_law_k"] 1 [none,none,some 0,some 2] (Cy (Ab T Gm R rfl (AA (Bu Cl KF Da) AF))) ce (fun _ _ _ _ _=>(Ab U g R rfl (AA (A3 Cg (A3 Cg (OG KF QX (Qg Qu)) (Aq zFx)) (OG KF (Qg (A3 Cg Qu AJ)) QX)) AF))))))))
 (AV (A1 Go))))
def O9:Ad zBn zCT (AQ MS):=CG
def YA(Bz:MD):DF :=
 (Av (CM 1 (Cm AG))
 (Av (CM 2 (Cm (AB (BA AG) AG)))
 (Av (Ex (HK da Do) (J5 3)
  (Av (CM 1 (Ai Ei Kv zGE))
  (Av (CM 4 (Cm AG))
  (Av (Ex (Dy zGE) (J5 5)
   (CM 4 (Ai Ei zBw (AU Bz (AB (nm 5) AG)))))
  (CM 2 (fun δ=>((nm 4) δ).bind Oe))))))
 (Bb Kv))))
def Dk(Bz:MD):MD:=Cd zCT zBn (YA Bz)
def V0{k:Nat}{Bz:MD}(F:Fn K mg "_law_trees" MS zCT f fd) {R:AD}{T:Db}(Z:Fn K mg "_law_longer" Kl Ja R T)(Y:AK P w K mg base Ag k R T Ja (A6 Bz))(DD:zDN)(U:mg "set" = none)(Bv:zAu):AK P w K mg base Ag RJ f fd zCT (A6 (Dk Bz)):=Fl F O9 fun cdv A outer s H E g=>by
 have sc:=O9;exact(AR (BZ (i:=1) sc.nd rfl As (Bc AF))
 (AR (BZ (i:=2) sc.nd rfl As (Bc (AA (Aq AF) AF)))
 (AR (Dj aR rfl (Vk rfl DD zFZ) (Es (Az (i:=3) sc.nd rfl As))
  (AR (BZ (i:=1) sc.nd rfl As (A3 Cg Go KF))
  (AR (BZ (i:=4) sc.nd rfl As (Bc AF))
  (AR (Dj aR rfl (Cy KF) (Es zGN)
   (AV (BZ (i:=4) sc.nd rfl As (A3 Cg rc (Ab Z Y g rfl (AA zAe AF))))))
  (AV (BZ (i:=2) sc.nd rfl As (Se rfl Ch rfl Bv rfl U rc)))))))
 (AV (A1 Go)))))
def V7:Ad Ja Ja (AQ Lg):=CG
def PY(BO:MD):DF :=
 (Bb (Ai Ei CU (AU cY (AB (Hh zCS EX (AU BO zFh) [none,none] zCa) AG))))
def BO:Nat->MD
 |0=>fun _=>none
 |n+1=>Cd Ja Ja (PY (BO n))
def O1{k:Nat}(g:Fn K mg "_law_knots" Lg Ja f fd)(R:zEd):∀n,
  AK P w K mg base Ag (k+n+1) f fd Ja (A6 (BO n))
 |0=>Ep fun _ _ _ _ ⟨_,_,_,h,_⟩=>by cases h
 |n+1=>by
  have sc:=V7;have U:=O1 (k:=k) g R n;refine Fl (k:=k+n+1) (F:=PY (BO n)) g sc fun cdv A outer s H E T=>?_;exact(AV (A1 (A3 Cg AJ (DC (gE rfl) rfl R bo (AA (NS [".0","_law_bough"] 1 [none,none] (Cy Cl) ce (fun _ _ _ _ _=>(Ab g U T rfl zFx))) AF)))))
def TU:Ad ["_law_tree","_law_found","_law_bough"] Ja (AQ Jj):=CG
def Nt(BO:MD)(Bl:MD):DF :=
 (Av (CM 1 (AU BO Do))
 (Av (Ex zCa (J5 2)
  (CM 1 (Ai Ge Kv (AU Bl Qy))))
 (Bb Kv)))
def Bl(BO:MD):Nat->MD
 |0=>fun _=>none
 |n+1=>Cd Ja ["_law_tree","_law_found","_law_bough"] (Nt BO (Bl BO n))
def Mw{k:Nat}{BO:MD}(R:Fn K mg "_law_density" Jj Ja f fd)
 {U:AD}{Y:Db}(Z:Fn K mg "_law_knots" Lg Ja U Y)(g:AK P w K mg base Ag k U Y Ja (A6 BO)):∀n,
  AK P w K mg base Ag (k+n+1) f fd Ja (A6 (Bl BO n))
 |0=>Ep fun _ _ _ _ ⟨_,_,_,h,_⟩=>by cases h
 |n+1=>by
  have sc:=TU;have GC:=Mw (k:=k) (BO:=BO) R Z g n;have g:=g.mono (show k<=k+n+1 by lia);refine Fl (k:=k+n+1) (F:=Nt BO (Bl BO n)) R sc fun cdv A outer s H E T=>?_;exact(AR (BZ (i:=1) sc.nd rfl As (Ab Z g T rfl zFZ))
 (AR (Dj aR rfl (Cy Cl) (Es zFb)
  (AV (BZ (i:=1) sc.nd rfl As (A3 Fi Go (Ab R GC T rfl zFy)))))
 (AV (A1 Go))))
def Qw:Ad IR IR (AQ OL):=CG
def S8(g:MD):DF :=
 (Bb (AU g (AB (Ai Ei (Ai Ge zHJ (Ai DB Kv CU)) (Ai Ge (Ai DB Kv KM) zHK)) (AB (Ai Ge zHK (Ai DB Kv CU)) AG))))
def Ee(g:MD):MD:=Cd IR IR (S8 g)
def Yz{k:Nat}{T:MD}(F:Fn K mg "_law_add" OL IR f fd) {g:AD}{R:Db}(Z:Fn K mg "_law_frac" IG Pg g R)(Y:AK P w K mg base Ag k g R Pg (A6 T)):AK P w K mg base Ag RJ f fd IR (A6 (Ee T)):=Fl F Qw fun cdv A outer s H E U=>by
 have sc:=Qw;exact(AV (A1 (Ab Z Y U rfl (AA (A3 Cg (A3 Fi zFf zHA) (A3 Fi zHA zFf)) (AA (A3 Fi zFf zHA) AF)))))
def RG:Ad IR IR (AQ OX):=CG
def T8(g:MD):DF :=
 (Bb (AU g (AB (Ai Ge zHJ (Ai DB Kv KM)) (AB (Ai Ge zHK (Ai DB Kv CU)) AG))))
def Eg(g:MD):MD:=Cd IR IR (T8 g)
def Yy{k:Nat}{T:MD}(F:Fn K mg "_law_mul" OX IR f fd) {g:AD}{R:Db}(Z:Fn K mg "_law_frac" IG Pg g R)(Y:AK P w K mg base Ag k g R Pg (A6 T)):AK P w K mg base Ag RJ f fd IR (A6 (Eg T)):=Fl F RG fun cdv A outer s H E U=>by
 have sc:=RG;exact(AV (A1 (Ab Z Y U rfl (AA (A3 Fi zFf zHA) (AA (A3 Fi zFf zHA) AF)))))
def RK:Ad zEE MV (AQ N8):=CG
def T5(Ee:MD)(Bl:MD):DF :=
 (Av (CM 3 (Ai NX Kv zGE))
 (Bb (AU Ee (AB (Ai DB zFn sK) (AB (BA (AB (Pn CU) (AB (AU Bl Qy) AG))) AG)))))
def EB(Ee:MD)(Bl:MD):MD:=Cd MV zEE (T5 Ee Bl)
def Yo{k:Nat}{Ee:MD}{Bl:MD}(F:Fn K mg "_law_off" N8 MV f fd) {R:AD}{T:Db}(LC:Fn K mg "_law_add" OL IR R T)(Z:AK P w K mg base Ag k R T IR (A6 Ee)) {U:AD}{Y:Db}(DL:Fn K mg "_law_density" Jj Ja U Y)(GC:AK P w K mg base Ag k U Y Ja (A6 Bl)):AK P w K mg base Ag RJ f fd MV (A6 (EB Ee Bl)):=Fl F RK fun cdv A outer s H E g=>by
 have sc:=RK;exact(AR (BZ (i:=3) sc.nd rfl As (iI (i:=1) Ch zGH KF))
 (AV (A1 (Ab LC Z g rfl (AA (Bu Cl Qu Da) (AA (Aq (AA (QK AJ) (AA (Ab DL GC g rfl zFy) AF))) AF))))))
def eR:Ad lf zx (AQ lT):=CG
def lS(CV:MD)(Eg:MD)(EB:MD)(g:MD)(Dk:MD)(CN:rW)(Bo:rW)(Ba:rW)(Bm:MD)(Ay:rW):DF :=
 (Av (CM 1 (AU g (AB zFn (AB KM (AB (fC (.int 4)) AG)))))
 (Av (CM 2 (Ai Ei CU (Ai Ib (AU CV (AB zFn (AB U9 AG))) (fC (.int 5)))))
 (Av (CM 3 (AU (good CN) (AB Kv Qy)))
 (Av (CM 4 (AU (good Ba) (AB sK AG)))
 (Av (CM 5 (AU (good Bo) (AB (AU (good Ay) (AB sK zFr)) (AB (AU (good Ay) (AB zBw zFr)) AG))))
 (Av (GH (CO zBl (AU (good Ba) (AB (nm 5) AG)) (nm 5))
  (Bb TW)
  C7)
 (Av (je (AU Bm (AB (nm 5) AG)) (Fo 6 7))
 (Av (GH (Wl (CO (U5 true) (nm 7) zDb) (CO yz (Ai Ib (nm 6) U9) CU))
  (Bb TW)
  C7)
 (Av (je (AU Bm (AB sK AG)) (Fo 6 7))
 (Av (GH (CO zBl (Ai DB (AU Bm (AB zBw AG)) KM) (nm 6))
  (Bb TW)
  C7)
 (Av (GH (Mm (CO (U5 false) (nm 7) zDb) (CO yz (nm 6) KM))
  (Bb (fC KQ))
  C7)
 (Av (CM 8 (AU Dk Qy))
 (Av (CM 9 (AU EB (AB sK zFG)))
 (Bb (Ai yz (AU EB (AB zBw zFG)) (AU Eg (AB (nm 9) (AB (BA (AB zGx zFu)) AG))))))))))))))))))
def k8(CV:MD)(Eg:MD)(EB:MD)(g:MD)(Dk:MD)(CN:rW)(Bo:rW)(Ba:rW)(Bm:MD)(Ay:rW):MD:=Cd zx lf (lS CV Eg EB g Dk CN Bo Ba Bm Ay)
def rP{k:Nat}{CV:MD}{Eg:MD}{EB:MD}{GJ:MD}{Dk:MD}{CN:rW}{Bo:rW}{Ba:rW}{Bm:MD}{Ay:rW}(F:Fn K mg "law" lT zx f fd) {Z:AD}{Py:Db}(Eo:Fn K mg "_law_cell" KC Tl Z Py)(Fs:AK P w K mg base Ag k Z Py Tl (A6 CV)) {Y:AD}{RF:Db}(LM:Fn K mg "_law_mul" OX IR Y RF)(Om:AK P w K mg base Ag k Y RF IR (A6 Eg)) {U:AD}{RQ:Db}(Im:Fn K mg "_law_off" N8 MV U RQ)(LG:AK P w K mg base Ag k U RQ MV (A6 EB)) {PV:AD}{Oy:Db}(Iz:Fn K mg "_law_table" MJ Tm PV Oy)(L1:AK P w K mg base Ag k PV Oy Tm (A6 GJ)) {QQ:AD}{PB:Db}(JE:Fn K mg "_law_trees" MS zCT QQ PB)(ME:AK P w K mg base Ag k QQ PB zCT (A6 Dk)) {Lm:AD}{K7:Db}(Gi:Fn K mg "table_weighing" IX yk Lm K7)(Ic:AK P w K mg base K9 k Lm K7 yk (Ds CN)) {Jb:AD}{JD:Db}(FI:Fn K mg "weighing_composed" HC JU Jb JD)(HB:AK P w K mg base K9 k Jb JD JU (Ds Bo)) {Jd:AD}{JG:Db}(D4:Fn K mg "weighing_mirrored" HA Iv Jd JG)(FE:AK P w K mg base K9 k Jd JG Iv (Ds Ba)) {MI:AD}{Ky:Db}(T:Fn K mg "weighing_order" IY Iv MI Ky)(R:AK P w K mg base Ag k MI Ky Iv (A6 Bm)) {Eb:AD}{EN:Db}(CZ:Fn K mg "weighing_turned" F4 me Eb EN)(Co:AK P w K mg base K9 k Eb EN me (Ds Ay)):AK P w K mg base Ag RJ f fd zx (A6 (k8 CV Eg EB GJ Dk CN Bo Ba Bm Ay)):=Fl F eR fun cdv A outer s H E g=>by
 have sc:=eR;exact(AR (BZ (i:=1) sc.nd rfl As (Ab Iz L1 g rfl (AA Cl (AA AJ (AA AJ AF)))))
 (AR (BZ (i:=2) sc.nd rfl As (A3 Cg AJ (A3 GA (Ab Eo Fs g rfl (AA Cl (AA AJ AF))) AJ)))
 (AR (BZ (i:=3) sc.nd rfl As (Ab Gi (JP Ic) g rfl (AA Go zFy)))
 (AR (BZ (i:=4) sc.nd rfl As (Ab D4 (JP FE) g rfl (AA Qu AF)))
 (AR (BZ (i:=5) sc.nd rfl As (Ab FI (JP HB) g rfl (AA (Ab CZ (JP Co) g rfl (AA Qu zGG)) (AA (Ab CZ (JP Co) g rfl (AA rc zGG)) AF))))
 (AR (Dq (B3 (Md Ch) (Ab D4 (JP FE) g rfl (AA zAe AF)) zAe To)
  (AV zBK)
  CC)
 (AR (gV (Ab T R g rfl (AA zAe AF)) zFo)
 (AR (Dq (DW.dt (W5 (B3 i5 (AE (pv 7)) MP To) (GI (B3 (KA Ch) (A3 GA (AE (pv 6)) AJ) AJ To))))
  (AV zBK)
  CC)
 (AR (gV (Ab T R g rfl (AA Qu AF)) zFo)
 (AR (Dq (B3 (Md Ch) (Bu (Ab T R g rfl (AA rc AF)) AJ Da) (AE (pv 6)) To)
  (AV zBK)
  CC)
 (AR (Dq (DW.dt (JF (B3 lP (AE (pv 7)) MP To) (GI (B3 (KA Ch) (AE (pv 6)) AJ To))))
  (AV zBK)
  CC)
 (AR (BZ (i:=8) sc.nd rfl As (Ab JE ME g rfl zFy))
 (AR (BZ (i:=9) sc.nd rfl As (Ab Im LG g rfl (AA Qu (AA (AE (pv 8)) (AA (AE (pv 7)) AF)))))
 (AV (A1 (TB (KA Ch) (Ab Im LG g rfl (AA rc (AA (AE (pv 8)) (AA (AE (pv 7)) AF)))) (Ab LM Om g rfl (AA (AE (pv 9)) (AA (Aq (AA (Bu (Bc (AA AJ (AA (QK AJ) AF))) (A3 GA (AE (pv 6)) AJ) Da) (AA AJ AF))) AF))) To))))))))))))))))
end
abbrev xA:MD:=BG AY 9
abbrev Hv(C:AD):List PD->Option Xr:=Ac (Ec xA C) C
def AH:Nat->List Tr
 |0=>[]
 |n+1=>AH n++TH.tz n
abbrev Au(n:Nat):PD:=.list kS
def wy(C:AD):Hv C [.int 0]=some (.inl (Au 0)):=by kernel_rfl
def xO(C:AD):Hv C [.int 1]=some (.inl (Au 1)):=by kernel_rfl
def xQ(C:AD):Hv C [.int 2]=some (.inl (Au 2)):=by kernel_rfl
def wR(C:AD):Hv C [.int 3]=some (.inl (Au 3)):=by kernel_rfl
def wm(C:AD):Hv C [.int 4]=some (.inl (Au 4)):=by kernel_rfl
def xY(C:AD):Hv C [.int 5]=some (.inl (Au 5)):=by kernel_rfl
def Qc{n:Nat}(h:n<=5)(C:AD):Hv C [.int (n:Nat)]=some (.inl ge):=by
 rcases n with _|_|_|_|_|_|n
 .exact wy C
 .exact xO C
 .exact xQ C
 .exact wR C
 .exact wm C
 .exact xY C
 .lia
def CT:Nat->Nat
 |0=>0|1=>1|2=>2|3=>4|4=>8|5=>17|6=>37|_=>85
def Ea:∀n,n<=5->(AH n).length=CT n/\∀t∈AH n,t.deep<=8/\t.AI<=5/\1<=t.AI:=by decide +kernel
mutual
def TC{H:Hp}:∀ {d:PD} {v:V},d.canLay0=true->Du H d v->DU H d v
 |.none,_,_,h=>by rw[Du]at h;subst h;exact .BN
 |.bool _,_,_,h=>by rw[Du]at h;subst h;exact .bool
 |.int _,_,_,h=>by rw[Du]at h;subst h;exact .int
 |.str _,_,_,h=>by rw[Du]at h;subst h;exact .str
 |.tuple _,_,c,h=>by
  rw[Du]at h;obtain⟨a,xs,rfl,R,g⟩:=h;exact .tup R (UH (by simpa only[PyData.canLay0]using c) g)
 |.list _,_,c,h=>by
  rw[Du]at h;obtain⟨a,xs,rfl,R,g⟩:=h;exact .lst R (UH (by simpa only[PyData.canLay0]using c) g)
 |.dict _,_,c,h=>by simp[PyData.canLay0]at c
def UH{H:Hp}:∀ {ds:sw} {xs:Jh},PyData.canLayAll0 ds=true->Ao H ds xs->CH H ds xs
 |[],_,_,h=>by rw[h.nil_eq];exact .nil
 |_::_,_,c,h=>by
  obtain⟨x,r,rfl,R,g⟩:=h.un;simp only[PyData.canLayAll0,Bool.and_eq_true]at c;exact .cons (TC c.1 R) (UH c.2 g)
end
def dn{G H H':Hp}{l:AD}{vs:yb}{ds:yM}(U:AM G H)(e:mo)(R:H' l=some (.tup vs))(d:Ao G ds vs):∃g,AM G g/\Nw G H g/\AM g H'/\Du g (.tuple ds) SY:=by
 have T:AM G (upd G l (.tup vs)):=fun a o h=>by
  by_cases ha:a=l
  .subst ha;have:=e _ _ (U _ _ h);rw[R]at this;rw[AO];exact this
  .rw[AL ha];exact h
 refine⟨upd G l (.tup vs),T,fun a u h=>?_,fun a u h=>?_,?_⟩
 .by_cases ha:a=l
  .subst ha;rw[AO]at h;cases h;exact .inr zEy
  .rw[AL ha]at h;exact .inl h
 .by_cases ha:a=l
  .subst ha;rw[AO]at h;rw[R];exact h
  .rw[AL ha]at h;exact e _ _ (U _ _ h)
 .rw[Du];exact⟨l,vs,rfl,AO,d.same T⟩
def L5{G:Hp}:∀ps:List Int,Ao G (ps.map .int) (ps.map V.int)
 |[]=>.nil
 |p::ps=>.cons Mt (L5 ps)
def YF:∀ps:List Int,PyData.canLayAll0 (ps.map .int)=true
 |[]=>by simp[PyData.canLayAll0]
 |p::ps=>by rw[List.map_cons];simp only[PyData.canLayAll0,PyData.canLay0];rw[YF ps];rfl
def Mi:PD->Rat
 |.tuple [.int a,.int b]=>Rat.divInt a b
 |_=>0
def Lc(r:Rat):Mi (AX r)=r:=FM.Dg r
def UP(r:Rat):(AX r).canLay0=true:=by unfold AX;simp only[PyData.canLay0];exact YF [r.num,(r.den:Int)]
section
variable{P:FS}{w:IO}{K:Fg}{mg:yP}{base:Heap}{CX:Iy}{k:Nat}{f:AD}{fd:Db}{ps:yU}
def fW(ds:yM):yQ:=match ds with
 |[.int t,.int b]=>if b≠0/\b.natAbs<2^400 then some (AX (Rat.divInt t b)) else none
 |_=>none
def wL(F:AK P w K mg base CX k f fd ps SO):AK P w K mg base CX k f fd ps (A6 fW) :=
 J6 F fun ds x hm G H vs Q E d e kk=>by
  unfold fW at hm;split at hm
  .split at hm
   .rename_i R;cases hm;obtain⟨v1,v2,rfl,Y,U⟩:=d.Ms;rw[Du]at Y U;subst Y U;refine⟨_,_,400,rfl,R.1,by decide,R.2,fun l H' T g=>?_⟩;obtain⟨G',n1,n2,n3,Z⟩:=dn e T g (L5 [(Rat.divInt _ _).num,((Rat.divInt _ _).den:Int)]);exact kk _ G' H' n1 n2 n3 T Z
   .cases hm
  .cases hm
end
def W3{n:Nat}{ds:yM}(h:∀d∈ds,Ok n d):dg n ds:=by
 induction ds with
 |nil=>exact⟨by simp[PyData.canLayAll0],by simp[PyData.depthAll]⟩
 |cons d ds g=>
  obtain⟨a,b⟩:=h d GM;obtain⟨T,U⟩:=g fun e R=>h e (.tail _ R);exact⟨by simp only[PyData.canLayAll0];rw[a,T];rfl,by simp only[PyData.depthAll];lia⟩
def wN{n:Nat}{ds:yM}(h:∀d∈ds,Ok n d):Ok (n+1) (.list ds):=.lst (W3 h)
def xB{n:Nat}{ds:yM}(h:∀d∈ds,Ok n d):Ok (n+1) (.tuple ds):=.tup (W3 h)
def Sh(r:Rat):Ok 1 (AX r):=xB (n:=0) fun d hd=>by
 rcases aM.mp hd with rfl|hd
 .exact .int
 .rw[List.mem_singleton.mp hd];exact .int
def ne_self{x:PD}{n:Nat}(h:Ok n x)(hn:n<=64):EO true x x=some (.bool false):=by
 refine(if_pos ⟨h.shaped hn,h.shaped hn⟩).trans ?_;rw[Nz x h.1];rfl
def Yd{x:PD}{n:Nat}(h:Ok n x)(hn:n<=64):EO false x x=some KQ:=by
 refine(if_pos ⟨h.shaped hn,h.shaped hn⟩).trans ?_;rw[Nz x h.1];rfl
def Zo(x y:Int):EO false (.int x) (.int y)=some (.bool (decide (x=y))):=by
 have h:SeqAt.shaped (.int x)=true/\SeqAt.shaped (.int y)=true:=⟨(Ok.int (n:=0)).shaped AT,(Ok.int (n:=0)).shaped AT⟩;refine(if_pos h).trans ?_;simp[PyData.eqv];exact Bool.eq_iff_iff.mpr At
def Xv{i j:Int}{n:Nat}(R:i.natAbs<2^n)(g:j.natAbs<2^n)(hn:n<=9000):Ge pp (.int j)=some zCv:=Wr (by
 unfold N7;rw[Pq (n:=9000) (aI R (aa AT hn)),Pq (n:=9000) (aI g (aa AT hn))];simp)
def fQ{t b:Int}(h:b≠0)(g:b.natAbs<2^400):fW [.int t,.int b]=some (AX (Rat.divInt t b)):=if_pos ⟨h,g⟩
def G7:∀ts:List Tr,L2.BS (Tr.of ts)=ts.map fun t=>.tuple (L2.BS t)
 |[]=>rfl
 |t::ts=>by rw[List.map_cons,<-G7 ts];rfl
def lh(ns:yT)(k:Nat):∃c,CV [FL ns,.int (k:Nat)]=some (.int c):=by
 suffices hh:∃c,M6 [.d (FL ns),.d zBZ,.no,.no]=some (.rt (.int c)) by
  obtain⟨c,h⟩:=hh;exact⟨c,Cw rfl h⟩
 unfold M6;have U:∃g,(GH (CO iS Kv zHC) (CM 2 (Ai DB zFn Kv)) C7) [.d (FL ns),.d zBZ,.d (.int 0),.no]=some (.nx [.d (FL ns),.d zBZ,.d (.int g),.no]):=by
  have t:CO iS Kv zHC [.d (FL ns),.d zBZ,.d (.int 0),.no]=some (decide ((k:Int)<((ns.map PyData.int).length:Nat))):=Cu (x:=.int (k:Nat)) (y:=.int ((ns.map PyData.int).length:Nat)) rfl rfl rfl;rw[List.length_map]at t;by_cases z:k<ns.length
  .rw[decide_eq_true (show(k:Int)<(ns.length:Nat) by lia)]at t;exact⟨ns[k],KN t (Ct (A0 (x:=FL ns) (y:=.int (k:Nat)) rfl rfl (Ze (by rw[List.getElem?_map,List.getElem?_eq_getElem z];rfl))))⟩
  .rw[decide_eq_false (show ¬(k:Int)<(ns.length:Nat) by lia)]at t;exact⟨0,C9 t rfl⟩
 obtain⟨g,U⟩:=U;have R:Ai P0 (fC (.int 10)) (fC (.int 18)) [.d (FL ns),.d zBZ,.d (.int g),.no]=some (.int ((10:Int)^18)):=A0 (x:=.int 10) (y:=.int 18) rfl rfl (fV (n:=18) AT AT);have Y:Ai P0 (fC (.int 10)) (fC (.int 60)) [.d (FL ns),.d zBZ,.d (.int g),.no]=some (.int ((10:Int)^60)):=A0 (x:=.int 10) (y:=.int 60) rfl rfl (fV (n:=60) AT AT);have T:CO zBJ zGE zBm [.d (FL ns),.d zBZ,.d (.int g),.no]=some (decide ((10:Int)^18<=g)):=Cu (x:=.int g) (y:=.int ((10:Int)^18)) rfl R rfl;by_cases z:(10:Int)^18<=g
 .rw[decide_eq_true z]at T;exact⟨_,An rfl (An U (He (KN T (F9 (A0 (x:=.int (g-(10:Int)^18)) (A0 (x:=.int g) rfl R rfl) Y (mod_is (Int.pow_pos AT)))))))⟩
 .rw[decide_eq_false z]at T;have hn:∀(a:Int) (m:Int),0<m->m<2^60->(a % m).natAbs<2^64:=fun a m h0 h1=>by
   have:=Int.emod_nonneg a (by lia:m≠0);have:=Int.emod_lt_of_pos a h0
   lia
  generalize Z:(g*48271+(k:Int)*69621+11) % 2147483629=v;have v1:v.natAbs<2^64:=by rw[<-Z];exact hn _ _ AT AT
  generalize hu:v*v % 2147483587=u;have u1:u.natAbs<2^64:=by rw[<-hu];exact hn _ _ AT AT
  refine⟨_,An rfl (An U (An (C9 T rfl) (An (Ct (y:=.int v) ?_) (An (Ct (y:=.int u) ?_) (F9 (A0 (x:=.int (u*2147483563)) (y:=.int (u*u % 2147483563)) (A0 (x:=.int u) (y:=.int 2147483563) rfl rfl (mul_r AT)) (A0 (x:=.int (u*u)) (y:=.int 2147483563) (A0 (x:=.int u) (y:=.int u) rfl rfl (mul_r u1)) rfl (mod_is AT)) rfl))))))⟩
  .refine A0 (x:=.int (g*48271+(k:Int)*69621+11)) (y:=.int 2147483629) (A0 (x:=.int (g*48271+(k:Int)*69621)) (y:=.int 11) (A0 (x:=.int (g*48271)) (y:=.int ((k:Int)*69621)) (A0 (x:=.int g) (y:=.int 48271) rfl rfl (mul_r AT)) (A0 (x:=.int (k:Nat)) (y:=.int 69621) rfl rfl (mul_r AT)) rfl) rfl rfl) rfl ((mod_is AT).trans ?_);rw[Z]
  .refine A0 (x:=.int (v*v)) (y:=.int 2147483587) (A0 (x:=.int v) (y:=.int v) rfl rfl (mul_r v1)) rfl ((mod_is AT).trans ?_);rw[hu]
abbrev tD(t:Tr):PD:=.tuple (L2.BS t)
def Dr(m:Int)(c:Nat)(q:Rat):Prop:=∃a:Int,q=Rat.divInt a m/\a.natAbs<=c
def Dr.mono{m:Int}{c d:Nat}{q:Rat}(h:Dr m c q)(l:c<=d:=by decide):Dr m d q:=let⟨a,e,k⟩:=h;⟨a,e,Nat.le_trans k l⟩
def Dr.add{m:Int}{c d:Nat}{p q:Rat}(hm:m≠0)(h:Dr m c p)(k:Dr m d q):Dr m (c+d) (p+q):=by
 obtain⟨a,rfl,R⟩:=h;obtain⟨b,rfl,g⟩:=k;exact⟨a+b,by rw[Rat.divInt_add_divInt _ _ hm hm,<-Int.add_mul,Rat.divInt_mul_right hm],by lia⟩
def Dr.mul{m n:Int}{c d:Nat}{p q:Rat}(h:Dr m c p)(k:Dr n d q):Dr (m*n) (c*d) (p*q):=by
 obtain⟨a,rfl,R⟩:=h;obtain⟨b,rfl,g⟩:=k;exact⟨a*b,by rw[Rat.divInt_mul_divInt],by rw[Int.natAbs_mul];exact bh R g⟩
def Dr.up{m k:Int}{c:Nat}{q:Rat}(g:k≠0)(h:Dr m c q):Dr (m*k) (c*k.natAbs) q:=by
 obtain⟨a,rfl,R⟩:=h;exact⟨a*k,by rw[Rat.divInt_mul_right g],by rw[Int.natAbs_mul];exact bh R RW⟩
def Dr.zero{m:Int}{c:Nat}:Dr m c 0:=⟨0,by rw[Rat.zero_divInt],by simp⟩
def Dr.fits{m:Int}{c n:Nat}{q:Rat}(hm:m≠0)(h:Dr m c q)(T:c<2^n)(R:m.natAbs<2^n):FM.Fits q n:=by
 obtain⟨a,rfl,g⟩:=h;exact .Sj hm (aW g T) R
def Dr.sum{m:Int}{c:Nat}(hm:m≠0):∀ {l:oN} {n:Nat},l.length<=n->(∀q∈l,Dr m c q)->Dr m (n*c) l.sum
 |[],n,_,_=>by rw[List.sum_nil];exact .zero
 |q::l,0,h,_=>by simp at h
 |q::l,n+1,h,k=>by
  rw[List.sum_cons];have:=(k q GM).add hm (Dr.sum hm (l:=l) (n:=n) zCP fun x g=>k x (.tail _ g));exact this.mono (by rw[Nat.succ_mul];lia)
def YV(r:Rat):Prop:=FM.Fits r 3/\r.den<=6
def Tb.Sm(t:Tb):Prop:=(∀r∈t.rs,∀q∈r,YV q)/\∀q∈t.ls,YV q
def RE(n:Int):Rat:=Rat.divInt (n % 13-6) (1+n / 13 % 6)
def Xf(n:Int):YV (RE n):=by
 refine⟨.Sj AC AC AC,?_⟩;have:=FM.fR (t:=n % 13-6) (b:=1+n / 13 % 6) AC;unfold RE
 lia
def FY(ns:yT)(k:Nat):Int:=match CV [FL ns,.int (k:Nat)]with|some (.int c)=>c|_=>0
def Xn(ns:yT)(k:Nat):CV [FL ns,.int (k:Nat)]=some (.int (FY ns k)):=by
 obtain⟨c,h⟩:=lh ns k;unfold FY;rw[h]
def pw:Sp:=fun vs H Q _=>∃(a:AD) (ns:zG) (k:Nat),vs=[.ref a,.int (k:Int)]/\Rd H a (.lst SC)/\∀H',AM H H'->Q (.int (FY ns k)) H'
def pG:Sp:=fun vs H Q _=>∃n:Int,vs=[.int n]/\∀(l:AD) H',AM H H'->H' l=some (.tup (Kt (RE n)))->Q SY H'
def XS(H H':Hp)(v:V):Prop:=∃(p R L:AD) (xs:Jh),v=.ref p/\H' p=some (.tup [.ref R,.ref L])/\H' R=some KT/\H R=none/\H L=none/\∀b,V.ref b∈xs->H b=none
def q0:Rat:=⟨0,1,by decide,by decide⟩
def q1:Rat:=⟨1,1,by decide,by decide⟩
def gm:Rat:=⟨1,2,by decide,by decide⟩
def rT:Rat:=⟨1,3,by decide,by decide⟩
def x9:Rat:=⟨2,3,by decide,by decide⟩
def xl:Rat:=⟨1,4,by decide,by decide⟩
def yB:Rat:=⟨3,4,by decide,by decide⟩
def vW:Rat:=⟨1,6,by decide,by decide⟩
def qu:Tb:=⟨[[]],[q1]⟩
def vm:Tb:=⟨[[],[gm]],[q0,q1]⟩
def vo:Tb:=⟨[[],[q1]],[gm,gm]⟩
def vY:Tb:=⟨[[],[rT],[q0,x9]],[xl,q0,yB]⟩
def vj:Tb:=⟨[[],[gm],[q0,gm],[q0,q0,q1]],[vW,rT,rT,vW]⟩
instance (r:Rat):Decidable (YV r):=inferInstanceAs (Decidable ((r.num.natAbs<2^3/\r.den<2^3)/\r.den<=6))
def kB(t:Tb):Bool:=decide (1<=t.rs.length)&&decide (t.rs.length<=4)&&decide (t.ls.length=t.rs.length)&&(List.range 4).all (fun i=>match t.rs[i]? with|some r=>decide (r.length=i)|none=>true)&&t.rs.all (fun r=>r.all fun q=>decide (YV q))&&t.ls.all fun q=>decide (YV q)
def Uk{t:Tb}(h:kB t=true):t.Ok 4/\t.Sm:=by
 unfold kB at h;simp only[Bool.and_eq_true,decide_eq_true_eq,List.all_eq_true,List.mem_range]at h;obtain⟨⟨⟨⟨⟨h1,Z⟩,Y⟩,U⟩,T⟩,R⟩:=h;refine⟨⟨h1,Z,Y,fun i r g=>?_⟩,T,R⟩;have:=U i (by have:=(aD.mp g).1;lia);rw[g]at this
 simpa using this
def IT(n:Int):Tb:=if n % 5=0 then qu else if n % 5=1 then vm else if n % 5=2 then vo else if n % 5=3 then vY else vj
def pH:Sp:=fun vs H Q _=>∃(n:Int),vs=[.int n]/\∀v H',AM H H'->DU H' (Cz (IT n)) v->XS H H' v->Q v H'
def Kn(n:Int):Nat->Int
 |0=>n
 |j+1=>Kn n j / 78
def UG(n:Int):Nat->Int
 |0=>n
 |i+1=>Kn (UG n i) i
def gB(n:Int)(i:Nat):ya:=(List.range i).map fun j=>RE (Kn (UG n i) j)
def Tw(g R:Int)(most:Nat):Tb :=
 if g % 4=0 then
  (if(IT (g / 4)).rs.length > most then qu
   else if g / 20 % 3=0 then⟨(IT (g / 4)).rs,(IT (g / 4)).ls.set ((g / 60).fmod ((IT (g / 4)).ls.length:Nat)).toNat (RE R)⟩ else IT (g / 4))
 else⟨(List.range (1+(g / 4).fmod (most:Nat)).toNat).map (gB (g / 16)),(List.range (1+(g / 4).fmod (most:Nat)).toNat).map fun i=>RE (Kn R i)⟩
def qt:Sp:=fun vs H Q _=>∃(a:AD) (ns:zG) (k most:Nat),vs=[.ref a,.int (k:Int),.int (most:Int)]/\Rd H a (.lst SC)/\1<=most/\most<=4/\∀v H',AM H H'->DU H' (Cz (Tw (FY ns k) (FY ns RJ) most)) v->XS H H' v->Q v H'
def Z7{H H':Hp}{a:AD}{u:HO}(h:Rd H a u)(e:mo):Rd H' a u:=h.elim (fun z=>.inl (e _ _ z)) fun⟨o,z⟩=>.inr ⟨o,e _ _ z⟩
section
variable{P:FS}{w:IO}{K:Fg}{mg:yP}{base:Heap}{f g1:AD}{fd gd1:Db}
def Vw:Ad SB SB (AQ L0):=CG
def V8(F:Fn K mg "_law_entry" L0 SB f fd)(Z:Fn K mg "_law_frac" IG Pg g1 gd1)(Y:AK P w K mg base Ag 1 g1 gd1 Pg SO):AK P w K mg base Ag 2 f fd SB pG:=by
 have sc:=Vw;refine F.F.ok (k:=1) sc Kj (fun cdv A outer s H vs Q E g h=>?_)
 .obtain⟨n,rfl,_⟩:=h
  rfl
 obtain⟨n,rfl,q⟩:=h;refine⟨_,(A7 (Cf (DY Z Y g rfl (AN (BM WR (BM Pl zHW Ar) Ar) (AN (BM QM Ar (BM Pl (BM Hm zHW Ar) Ar)) Af))))),?_⟩;refine⟨_,rfl,_,_,rfl,rfl,(by show(0:Int)<13;decide),_,_,rfl,rfl,_,rfl,_,_,rfl,rfl,⟨by decide,by decide⟩,_,_,rfl,rfl,(by show(0:Int)<6;decide),_,_,rfl,rfl,?_⟩;exact⟨n % 13-6,1+n / 13 % 6,3,rfl,by lia,by decide,by lia,fun l U T R=>q l U T R⟩
end
def jJ(n:Int):LZ [.int n]=some (Cz (IT n)):=by
 have c:∀(k:Int) (b:Bool),decide (n % 5=k)=b->CO yz y6 (fC (.int k)) [.d (.int n)]=some b:=fun k b h=>Cu (A0 rfl rfl (mod_is AT)) rfl (by
  show some (PyData.bool _)=_;rw[<-h]
  rfl)
 have r:=Int.emod_nonneg n (show(5:Int)≠0 by decide);by_cases h0:n % 5=0
 .rw[show IT n=qu by unfold IT;simp[h0]];exact Cw rfl (He (KN (c 0 true (by simp[h0])) rfl))
 by_cases g:n % 5=1
 .rw[show IT n=vm by unfold IT;simp[h0,g]];exact Cw rfl (An zU (He (KN (c 1 true (by simp[g])) rfl)))
 by_cases R:n % 5=2
 .rw[show IT n=vo by unfold IT;simp[h0,g,R]];exact Cw rfl (An zU (An zCh (He (KN (c 2 true (by simp[R])) rfl))))
 by_cases T:n % 5=3
 .rw[show IT n=vY by unfold IT;simp[h0,g,R,T]];exact Cw rfl (An zU (An zCh (An (C9 (c 2 false (by simp[R])) rfl) (He (KN (c 3 true (by simp[T])) rfl)))))
 .rw[show IT n=vj by unfold IT;simp[h0,g,R,T]];exact Cw rfl (An zU (An zCh (An (C9 (c 2 false (by simp[R])) rfl) (An (C9 (c 3 false (by simp[T])) rfl) rfl))))
def gC(n:Int):kB (IT n)=true:=by
 unfold IT;split
 .decide +kernel
 .split
  .decide +kernel
  .split
   .decide +kernel
   .split
    .decide +kernel
    .decide +kernel
def ZN(t:Tb):(Cz t).canLay0=true:=by
 have f:∀r:List Rat,PyData.canLayAll0 (Be r)=true:=fun r=>by
  induction r with
  |nil=>rfl
  |cons q r R=>show PyData.canLayAll0 (AX q::Be r)=true;simp[PyData.canLayAll0,R,AX,PyData.canLay0]
 have g:∀rs:List (List Rat),PyData.canLayAll0 (Bp rs)=true:=fun rs=>by
  induction rs with
  |nil=>rfl
  |cons r rs R=>show PyData.canLayAll0 (BS r::Bp rs)=true;simp[PyData.canLayAll0,R,BS,PyData.canLay0,f]
 simp[Cz,PyData.canLay0,PyData.canLayAll0,f,g]
def YN{G H:Hp}(n:∀a xs,G a=some KT->H a=none):∀ {rs:List (List Rat)} {xs:Jh},Ao G (Bp rs) xs->∀b,V.ref b∈xs->H b=none
 |[],xs,h,b,g=>by
  have:=h.len;have e:xs=[]:=bK (by simpa[Bp]using this);rw[e]at g;cases g
 |r::rs,xs,h,b,g=>by
  obtain⟨x,t,rfl,R,U⟩:=Ao.un (d:=BS r) (ds:=Bp rs) h;rw[BS,Du]at R;obtain⟨a,ys,rfl,T,_⟩:=R;rcases aM.mp g with e|g
  .cases e;exact n _ _ T
  .exact YN n U b g
def iV{P:FS}{w:IO}{K:Fg}{mg:yP}{base:Heap}{f:AD}{fd:Db}{k:Nat}{ps:yU}(F:AK P w K mg base Ag k f fd ps (A6 LZ)):AK P w K mg base Ag k f fd ps pH :=
 F.imp fun vs H Q E z=>by
  obtain⟨n,rfl,q⟩:=z;refine⟨[.int n],Cz (IT n),fun _=>none,jJ n,.cons Mt .nil,fun a o h=>(by cases h),fun v G' H' _ nw T e2 U=>?_⟩;refine q v H' e2 (TC (ZN _) (U.same T)) ?_;have g:∀a xs,G' a=some KT->H a=none:=fun a xs h=>by
   rcases nw _ _ h with h|h|⟨ys,h⟩
   .cases h
   .exact h
   .cases h
  rw[Cz,Du]at U;obtain⟨a,xs,rfl,g1,g2⟩:=U;obtain⟨x,r,rfl,g4,g3⟩:=g2.un;obtain⟨y,r,rfl,Z,g6⟩:=g3.un;rw[g6.nil_eq]at g1;rw[Du]at g4 Z;obtain⟨R,xs,rfl,Y,dR⟩:=g4;obtain⟨L,ys,rfl,hL,_⟩:=Z;exact⟨a,R,L,xs,rfl,T _ _ g1,T _ _ Y,g _ _ Y,g _ _ hL,YN g dR⟩
def l0{P:FS}{w:IO}{K:Fg}{mg:yP}{base:Heap}{f:AD}{fd:Db}{k:Nat}{ps:yU}(F:AK P w K mg base Ag k f fd ps (A6 CV)):AK P w K mg base Ag k f fd ps pw :=
 F.imp fun vs H Q E z=>by
  obtain⟨a,ns,k,rfl,ha,q⟩:=z;refine⟨[FL ns,.int (k:Nat)],.int (FY ns k),H,Xn ns k,.cons (fX ha) (.cons Mt .nil),.refl _,fun v R H' _ _ _ e g=>?_⟩;rw[Du]at g;subst g;exact q H' e
def Jk(G H H':Hp):Hp:=fun b=>match H' b with
 |some (.tup xs)=>some LE
 |some o=>if H b=none then some o else G b
 |none=>none
def fN{G H H':Hp}{a:AD}{xs:yb}(h:H' a=some LE):Jk G H H' a=some LE:=by unfold Jk;rw[h]
def T4{G H H':Hp}{a:AD}{xs:yb}(h:H' a=some KT)(h0:H a=none):Jk G H H' a=some KT:=by unfold Jk;rw[h];exact if_pos h0
def Zr{G H H':Hp}(R:AM G H)(e:mo):AM G (Jk G H H')/\Nw G H (Jk G H H')/\AM (Jk G H H') H':=by
 refine⟨fun a o h=>?_,fun a o h=>?_,fun a o h=>?_⟩
 .have g:=R _ _ h;have T:=e _ _ g;unfold Jk;rw[T];cases o with
  |tup xs=>rfl
  |_=>simp only[g];exact h
 .unfold Jk at h;split at h
  .cases h;exact .inr zEy
  .split at h
   .rename_i z;exact .inr (.inl z)
   .exact .inl h
  .cases h
 .unfold Jk at h;cases z:H' a with
  |none=>rw[z]at h;cases h
  |some u=>
   rw[z]at h;cases u with
   |tup xs=>exact h
   |_=>
    simp only at h;split at h
    .exact h
    .rw[<-z];exact e _ _ (R _ _ h)
def LS{G H H':Hp}:∀ {g:oN} {xs:Jh},CH H' (Be g) xs->Ao (Jk G H H') (Be g) xs
 |[],xs,h=>by
  have:=h.len;have e:xs=[]:=bK (by simpa[Be]using this);rw[e];exact .nil
 |q::g,xs,h=>by
  obtain⟨x,r,rfl,U,T⟩:=CH.gY (d:=AX q) (ds:=Be g) h;obtain⟨p,rfl,R⟩:=U.rat;refine .cons ?_ (LS T);unfold AX;rw[Du];exact⟨p,_,rfl,fN R,L5 [q.num,(q.den:Int)]⟩
def Vg{G H H':Hp}:∀ {rs:List (List Rat)} {xs:Jh},CH H' (Bp rs) xs->(∀b,V.ref b∈xs->H b=none)->Ao (Jk G H H') (Bp rs) xs
 |[],xs,h,_=>by
  have:=h.len;have e:xs=[]:=bK (by simpa[Bp]using this);rw[e];exact .nil
 |q::R,xs,h,k=>by
  obtain⟨x,r,rfl,Z,Y⟩:=CH.gY (d:=BS q) (ds:=Bp R) h;obtain⟨a,g,rfl,ha,T⟩:=DU.iQ (ds:=Be q) Z;refine .cons ?_ (Vg Y fun b U=>k b (.tail _ U));unfold BS;rw[Du];exact⟨a,g,rfl,T4 ha (k a GM),LS T⟩
def kC{G H H':Hp}{t:Tb}{v:V}(h:DU H' (Cz t) v)(n:XS H H' v):Du (Jk G H H') (Cz t) v:=by
 obtain⟨p,R,L,xs,rfl,Y,U,h3,h4,h5⟩:=n;obtain⟨p',R',L',Z,ys,e,T,g,k3,k4,k5⟩:=h.tab;cases e;rw[Y]at T;cases T;rw[U]at g;cases g;unfold Cz;rw[Du];refine⟨p,_,rfl,fN Y,.cons ?_ (.cons ?_ .nil)⟩
 .rw[Du];exact⟨R,xs,rfl,T4 U h3,Vg k3 h5⟩
 .rw[Du];exact⟨L,ys,rfl,T4 k4 h4,LS k5⟩
def intsOf(xs:yM):yT:=xs.map fun d=>match d with|.int i=>i|_=>0
def QH(ns:yT):intsOf (ns.map .int)=ns:=by
 unfold intsOf;rw[List.map_map];exact List.map_id'' (fun _=>rfl) ns
open Classical in
noncomputable def Ws(ds:yM):yQ:=match ds with
 |[.dict [(.none,.list xs)],.int k,.int most]=>if xs=(intsOf xs).map .int/\0<=k/\1<=most/\most<=4 then some (Cz (Tw (FY (intsOf xs) k.toNat) (FY (intsOf xs) (k.toNat+1)) most.toNat)) else none
 |_=>none
def mR(ns:yT)(k most:Nat)(R:1<=most)(g:most<=4):Ws [FL ns,.int (k:Nat),.int (most:Nat)]=some (Cz (Tw (FY ns k) (FY ns RJ) most)):=by
 unfold Ws FL;refine(if_pos ⟨by rw[QH],by lia,by lia,by lia⟩).trans ?_;rw[QH,Int.toNat_natCast,Int.toNat_natCast]
def jC{P:FS}{w:IO}{K:Fg}{mg:yP}{base:Heap}{f:AD}{fd:Db}{k:Nat}{ps:yU}(F:AK P w K mg base Ag k f fd ps qt):AK P w K mg base Ag k f fd ps (A6 Ws) :=
 J6 F fun ds x hm G H vs Q E d e kk=>by
  unfold Ws at hm;split at hm
  .rename_i xs k most;split at hm
   .rename_i hc;obtain⟨c1,c2,c3,c4⟩:=hc;cases hm;obtain⟨Z,r1,rfl,Y,d⟩:=d.un;obtain⟨v2,r2,rfl,U,d⟩:=d.un;obtain⟨v3,r3,rfl,T,d⟩:=d.un;rw[d.nil_eq];rw[Du]at U T;subst U;subst T;rw[Du]at Y;have ha:∃a:AD,Z=.ref a/\Rd G a (.lst ((intsOf xs).map V.int)):=by
     rcases Y with h|h|h
     .obtain⟨ea,C,g,_⟩:=h;cases g
     .obtain⟨a,ns,g,e2,h⟩:=h;cases g;exact⟨a,e2,by rw[QH];exact h⟩
     .exact absurd h (by simp[K2])
    obtain⟨a,rfl,ha⟩:=ha;refine⟨a,intsOf xs,k.toNat,most.toNat,by rw[show((k.toNat:Nat):Int)=k by lia,show((most.toNat:Nat):Int)=most by lia],Z7 ha e,by lia,by lia,fun v H' R dt nt=>?_⟩;obtain⟨n1,n2,n3⟩:=Zr e R;exact kk v _ H' n1 n2 n3 R (kC dt nt)
   .cases hm
  .cases hm
def Zp{c:AD}{ws:Jh}{H:Hp}(g:H c=some (.lst ws)):∀ {rs:List (List Rat)} {zs:Jh},CH H (Bp rs) zs->(∀y∈zs,y≠.ref c)->BP c H (Bp rs) zs
 |[],zs,h,_=>by
  have:=h.len;rw[show Bp []=[] from rfl,List.length_nil]at this;rw[List.eq_nil_of_length_eq_zero this];exact .nil
 |r::rs,zs,h,n=>by
  obtain⟨x,t,rfl,U,T⟩:=CH.gY h;obtain⟨a,xs,rfl,ha,dx⟩:=DU.iQ U;exact .cons (rS g (fun z=>n HY aX (by rw[z])) ha dx) (Zp g T fun y R=>n y (aU _ R))
def jQ{c:AD}{ws:yb}{H H':Hp}(g:H c=some (.lst ws))(e:SameBut c H H'){rs:List ya}{zs:yb}(h:CH H (Bp rs) zs)(n:∀y∈zs,y≠.ref c):CH H' (Bp rs) zs:=Lr (.but e (Zp g h n))
def O3(H0 H:Hp)(R L:AD)(xs:yb)(rs:List ya):Prop:=xs.length=rs.length/\∀(i:Nat) (r:oN),rs[i]? = some r->∃(a:AD) (g:Jh),xs[i]? = some HY/\H a=some (.lst g)/\Jf H g r/\a≠R/\a≠L/\H0 a=none
def O3.same{H0 H H':Hp}{R L:AD}{xs:yb}{rs:List ya}(h:O3 H0 H R L xs rs)(e:mo):O3 H0 H' R L xs rs:=⟨h.1,fun i r hi=>let⟨a,g,Z,Y,U,T⟩:=h.2 i r hi;⟨a,g,Z,e _ _ Y,U.BF (.of e),T⟩⟩
def O3.upd{H0 H:Hp}{R L c:AD}{xs us vs:yb}{rs:List ya}(h:O3 H0 H R L xs rs)(T:H c=some (.lst us))(o:c=R\/c=L):O3 H0 (upd H c (.lst vs)) R L xs rs:=⟨h.1,fun i r hi=>by
 obtain⟨a,g,h3,h4,h5,Z,Y,U⟩:=h.2 i r hi;refine⟨a,g,h3,?_,h5.BF (.upd T),Z,Y,U⟩;rw[AL (by rcases o with o|o<;>rw[o]<;>assumption)];exact h4⟩
def O3.snoc{H0 H:Hp}{R L a:AD}{xs zs:yb}{rs:List ya}{r:ya}(h:O3 H0 H R L xs rs)(ha:H a=some (.lst zs))(f:Jf H zs r)(U:a≠R)(Y:a≠L)(Z:H0 a=none):O3 H0 H R L (xs++[.ref a]) (rs++[r]):=by
 refine⟨by rw[List.length_append,List.length_append,h.1];rfl,fun i T hi=>?_⟩;by_cases z:i<rs.length
 .rw[List.getElem?_append_left z]at hi;rw[List.getElem?_append_left (by rw[h.1];exact z)];exact h.2 i T hi
 .have g:i-rs.length=0:=by
   have:=(aD.mp hi).1;simp at this
   lia
  rw[List.getElem?_append_right AC,g]at hi;rw[List.getElem?_append_right (by rw[h.1];lia),h.1,g];cases hi;exact⟨a,zs,rfl,ha,f,U,Y,Z⟩
def Xp{H:Hp}:∀ {rs:List (List Rat)} {xs:Jh},xs.length=rs.length->(∀(i:Nat) (r:oN),rs[i]? = some r->∃(a:AD) (zs:Jh),xs[i]? = some HY/\H a=some (.lst zs)/\Jf H zs r)->CH H (Bp rs) xs
 |[],[],_,_=>.nil
 |[],_::_,h,_=>by cases h
 |_::_,[],h,_=>by cases h
 |r::rs,x::xs,h,g=>by
  obtain⟨a,zs,U,T,R⟩:=g 0 r rfl;cases U;exact .cons (.lst T R.Zb) (Xp zCP fun i r hi=>g M2 r hi)
def O3.Zb{H0 H:Hp}{R L:AD}{xs:yb}{rs:List ya}(h:O3 H0 H R L xs rs):CH H (Bp rs) xs:=Xp h.1 fun i r hi=>let⟨a,g,Y,U,T,_⟩:=h.2 i r hi;⟨a,g,Y,U,T⟩
def Jf.same{H H':Hp}{zs:yb}{g:ya}(h:Jf H zs g)(e:mo):Jf H' zs g:=h.BF (.of e)
section
variable{P:FS}{w:IO}{K:Fg}{mg:yP}{base:Heap}{f g1 g2 g3:AD}{fd gd1 gd2 gd3:Db}
def V1:Ad ["_law_script","_law_at","_law_most","_law_number","_law_other","_law_rows","_law_last","_law_many","_law_k","_law_row","_law_j"] Tm (AQ MJ):=CG
def Vv(F:Fn K mg "_law_table" MJ Tm f fd)(Eo:Fn K mg "_law_cell" KC Tl g1 gd1)(GN:Fn K mg "_law_entry" L0 SB g2 gd2)(JX:Fn K mg "_law_named" Li SB g3 gd3) (Fs:AK P w K mg base Ag 3 g1 gd1 Tl pw)(Lp:AK P w K mg base Ag 3 g2 gd2 SB pG)(Lo:AK P w K mg base Ag 3 g3 gd3 SB pH)(DD:zDN)(B6:zE):AK P w K mg base Ag 4 f fd Tm qt:=by
 have sc:=V1;refine F.F.ok (k:=3) sc Kj IS
 .obtain⟨a,ns,k,most,rfl,_⟩:=h
  rfl
 obtain⟨a,ns,k,most,rfl,ha,m1,m4,q⟩:=h;refine⟨_,(Ae (BE (i:=3) sc.nd rfl As (DY Eo Fs hr rfl (AN zHW zAP)))
 (Ae (BE (i:=4) sc.nd rfl As (DY Eo Fs hr rfl (AN zHW (AN (BM QM zGH Ar) Af))))
 (Ae (JC (ER WN (BM Pl zHF Ar) Ar To)
  (Ae (Nf (DY JX Lo hr rfl (AN zBL Af)) (IH rfl (B5 zGN (B5 (Az (i:=6) sc.nd rfl As) G9))))
  (Ae (JC (ER Tn (D7 JK rfl B6 bD (AN (pv 5) Af)) zGi To)
   (A7 (Cf (KS (AN (HQ (AN (HQ Af) Af)) (AN (HQ (AN (KS (AN Ar (AN Ar Af))) Af)) Af)))))
   GQ)
  (Ae (JC (ER WN (BM Pl zBL Ar) Ar To)
   (A7 (Nf (DY GN Lp hr rfl (AN (pv 4) Af)) (Sl (pv 6) (BM NU zBL (D7 JK rfl B6 bD (AN (pv 6) Af))) set_list)))
   GQ)
  (A7 (Cf (KS (AN (pv 5) (AN (pv 6) Af))))))))
  GQ)
 (Ae (BE (i:=5) sc.nd rfl As (HQ Af))
 (Ae (BE (i:=6) sc.nd rfl As (HQ Af))
 (Ae (BE (i:=7) sc.nd rfl As (BM QM Ar (BM NU zBL zGi)))
 (Ae (BE (i:=3) sc.nd rfl As zBL)
 (Ae (KZ aR rfl (QO rfl DD (AN (pv 7) Af)) (Az (i:=8) sc.nd rfl As)
  (Ae (BE (i:=9) sc.nd rfl As (HQ Af))
  (Ae (KZ aR rfl (QO rfl DD (AN (pv 8) Af)) (Az (i:=10) sc.nd rfl As)
   (Ae (Er (IU ar bM bN GV (pv 9) (AN (DY GN Lp hr rfl (AN zHF Af)) Af)))
   (A7 (BE (i:=3) sc.nd rfl As zBL))))
  (Ae (Er (IU ar bM bN GV (pv 5) (AN (pv 9) Af)))
  (Ae (Er (IU ar bM bN GV (pv 6) (AN (DY GN Lp hr rfl (AN (pv 4) Af)) Af)))
  (A7 (BE (i:=4) sc.nd rfl As (BM Hm (pv 4) Ar))))))))
 (A7 (Cf (KS (AN (pv 5) (AN (pv 6) Af))))))))))))),?_⟩
 refine⟨_,rfl,_,rfl,a,ns,k,rfl,ha,fun H1 e1=>?_⟩;refine⟨_,rfl,_,rfl,_,_,rfl,rfl,a,ns,k+1,rfl,Z7 ha e1,fun H2 e2=>?_⟩;generalize FY ns k=T at q ⊢;generalize FY ns RJ=x1 at q ⊢;have E2:=e1.trans e2;refine⟨_,rfl,_,_,rfl,rfl,(by show(0:Int)<4;decide),rfl,_,rfl,Lk lp lp⟩
 .have c':T % 4=0:=by simpa using c
  refine⟨_,rfl,_,_,rfl,rfl,⟨by decide,by decide⟩,T / 4,rfl,fun v H3 e3 dt nt=>?_⟩;unfold Tw at q;rw[if_pos c']at q;obtain⟨ot,st⟩:=Uk (gC (T / 4));generalize IT (T / 4)=t at dt q ot st;obtain⟨p,R,L,xs,ys,rfl,hp,hR,dR,hL,dL⟩:=dt.tab;obtain⟨p',R',L',xs',e',n1,n2,n3,n4,n5⟩:=nt;cases e';rw[hp]at n1;cases n1;rw[hR]at n2;cases n2;have hLn:H2 L=none:=n4;have hyl:ys.length=t.ls.length:=by rw[dL.len,HS]
  have hxl:xs.length=t.rs.length:=by rw[dR.len,MG]
  have o1:=ot.one;have o2:=ot.last;have E3:=E2.trans e3;refine⟨p,_,rfl,BL.of hp,rfl,_,_,rfl,_,_,rfl,rfl,?_⟩;refine⟨_,rfl,_,_,rfl,.inl (Ax.of hR),_,rfl,_,_,rfl,rfl,_,rfl,Lk (fun c2=>?_) (fun c2=>?_)⟩
  .have c2':t.rs.length > most:=by have:=aP c2;lia
   rw[if_pos c2']at q;refine⟨y0,fun p1 hp1=>?_⟩;have f1:=Ah hp1 Q4;have g1:upd H3 p1 Q4 p1=some Q4:=AO;generalize upd H3 p1 Q4=I1 at f1 g1;refine⟨zEP,fun p2 U=>?_⟩;have f2:=Ah U (.lst [V.ref p1]);have g2:upd I1 p2 (.lst [V.ref p1]) p2=some (.lst [V.ref p1]):=AO;generalize upd I1 p2 (.lst [V.ref p1])=I2 at f2 g2;refine⟨Q6,fun p3 hp3=>?_⟩;have f3:=Ah hp3 (.tup [V.int 1,V.int 1]);have g3:upd I2 p3 (.tup [V.int 1,V.int 1]) p3=some (.tup (Kt q1)):=AO;generalize upd I2 p3 (.tup [V.int 1,V.int 1])=I3 at f3 g3;refine⟨zEP,fun p4 hp4=>?_⟩;have f4:=Ah hp4 (.lst [V.ref p3]);have g4:upd I3 p4 (.lst [V.ref p3]) p4=some (.lst [V.ref p3]):=AO;generalize upd I3 p4 (.lst [V.ref p3])=I4 at f4 g4;refine⟨Q6,fun p5 hp5=>?_⟩;have f5:=Ah hp5 zBa;have g5:upd I4 p5 zBa p5=some zBa:=AO;generalize upd I4 p5 zBa=I5 at f5 g5;have F35:=(f3.trans f4).trans f5;exact q _ I5 (((E3.trans f1).trans f2).trans F35) (Tz g5 (F35 _ _ g2) (.cons (.lst ((f2.trans F35) _ _ g1) .nil) .nil) (f5 _ _ g4) (.cons (W8 ((f4.trans f5) _ _ g3)) .nil)) ⟨p5,p2,p4,[V.ref p1],rfl,g5,F35 _ _ g2,FD (E3.trans f1) U,FD ((E3.trans f1).trans (f2.trans f3)) hp4,fun b hb=>by rw[List.mem_singleton]at hb;cases hb;exact FD E3 hp1⟩
  have c2':¬t.rs.length > most:=fun z=>c2 (bg AC);rw[if_neg c2']at q;refine⟨_,rfl,_,_,rfl,rfl,⟨by decide,by decide⟩,_,_,rfl,rfl,(by show(0:Int)<3;decide),rfl,_,rfl,Lk (fun c3=>?_) (fun c3=>?_)⟩
  .have c3':T / 20 % 3=0:=by simpa using c3
   rw[if_pos c3',<-hyl]at q;refine⟨_,rfl,x1,rfl,fun l H4 g hl4=>?_⟩;have hL4:=g _ _ hL;have hyp:(0:Int)<nL:=by lia
   have i1:0<=(T / 60).fmod nL:=Int.fmod_nonneg_of_pos _ hyp;have i2:(T / 60).fmod nL<nL:=Int.fmod_lt_of_pos _ hyp;refine⟨_,rfl,_,rfl,_,_,rfl,rfl,⟨by decide,by decide⟩,_,rfl,_,_,rfl,.inl (Ax.of hL4),_,_,rfl,rfl,(by show nL≠0;lia),L,ys,_,((T / 60).fmod nL).toNat,rfl,rfl,hL4,(by unfold RD;rw[if_pos i1,if_pos i2]),?_⟩;have hj:((T / 60).fmod nL).toNat<t.ls.length:=by lia
   generalize ((T / 60).fmod nL).toNat=j at hj q ⊢;generalize RE x1=q4 at q hl4;have nR:∀y∈xs,y≠V.ref L:=fun y hy z=>by
    subst z;obtain⟨i,hi⟩:=List.getElem?_of_mem hy;have hil:i<t.rs.length:=by have:=(aD.mp hi).1;lia
    obtain⟨a',zs,k1,k2,k3⟩:=OT dR (aH hil);rw[hi]at k1;cases k1;rw[hL]at k2;cases k2;have:=k3.len;rw[HS,ot.row i _ (aH hil)]at this
    lia
   have nRL:R≠L:=fun z=>by
    subst z;rw[hR]at hL;cases hL;obtain⟨a',zs,k1,k2,k3⟩:=OT dR (aH (show 0<t.rs.length by lia));obtain⟨p',k4,k5⟩:=LR dL (aH (show 0<t.ls.length by lia));rw[k1]at k4;cases k4;rw[k2]at k5;cases k5
   have u:SameBut L H4 (upd H4 L zGL):=.upd;have dL':=eu hL4 u (show CH H4 (Be (t.ls.set j q4)) (ys.set j SY) by
    rw[Be,List.map_set];exact .set (W8 hl4) (dL.same g))
   have dR':=jQ hL4 u (dR.same g) nR;have hR':upd H4 L zGL R=some KT:=by rw[AL nRL];exact g _ _ hR
   have hL':upd H4 L zGL L=some zGL:=AO;have E5:AM H (upd H4 L zGL):=fun b o zz=>by
    rw[AL (Aa (E2 _ _ zz) hLn)];exact g _ _ (E3 _ _ zz)
   generalize upd H4 L zGL=H5 at dL' dR' hR' hL' E5;refine⟨_,rfl,_,rfl,Q6,fun p2 U=>?_⟩;have e6:=Ah U (.tup [V.ref R,V.ref L]);exact q _ _ (E5.trans e6) (Tz AO (e6 _ _ hR') (dR'.same e6) (e6 _ _ hL') (dL'.same e6)) ⟨p2,R,L,xs,rfl,AO,e6 _ _ hR',FD E2 n3,FD E2 n4,fun b hb=>FD E2 (n5 b hb)⟩
  .refine⟨_,rfl,_,rfl,Q6,fun p2 U=>?_⟩;have g:=Ah U (.tup [V.ref R,V.ref L]);have c3':¬T / 20 % 3=0:=by simpa using c3
   rw[if_neg c3']at q;exact q _ _ (E3.trans g) (Tz AO (g _ _ hR) (dR.same g) (g _ _ hL) (dL.same g)) ⟨p2,R,L,xs,rfl,AO,g _ _ hR,FD E2 n3,FD E2 n4,fun b hb=>FD E2 (n5 b hb)⟩
 .have c':¬T % 4=0:=by simpa using c
  unfold Tw at q;rw[if_neg c']at q;refine⟨y0,fun R hR=>?_⟩;have f1:=Ah hR Q4;have g1:upd H2 R Q4 R=some Q4:=AO;generalize upd H2 R Q4=I1 at f1 g1;refine⟨y0,fun L hL=>?_⟩;have f2:=Ah hL Q4;have g2:upd I1 L Q4 L=some Q4:=AO;generalize upd I1 L Q4=I2 at f2 g2;have nRL:R≠L:=Aa g1 hL;have hL2:H2 L=none:=FD f1 hL;have m0:(most:Int)≠0:=by lia
  refine⟨_,rfl,_,_,rfl,rfl,⟨by decide,by decide⟩,_,rfl,_,_,rfl,rfl,m0,_,_,rfl,rfl,?_⟩;obtain⟨many,hn1,hn4,em⟩:∃many:Nat,1<=many/\many<=most/\1+(T / 4).fmod most=(many:Int):=by
   have e:=Int.fmod_eq_emod_of_nonneg (T / 4) (show(0:Int)<=(most:Int) by lia);have a:=Int.emod_nonneg (T / 4) m0;have b:=Int.emod_lt_of_pos (T / 4) (show(0:Int)<(most:Int) by lia);exact⟨(1+(T / 4).fmod most).toNat,by lia,by lia,by lia⟩
  rw[em,Int.toNat_natCast]at q;rw[show((fun i j:Int=>V.int (i+j)) 1 ((T / 4).fmod most))=V.int (many:Int) from bJ V.int em];refine⟨_,rfl,_,_,rfl,rfl,⟨by decide,by decide⟩,?_⟩;refine⟨_,rfl,(many:Int),rfl,by lia,by lia,Vo (n:=(many:Int).toNat) (fun i σ H'=>∃(r8 r9 Z:Option V) (xs ys:Jh),σ=[some HY,some (.int (k:Int)),some (.int most),some (.int (UG (T / 16) i)),some (.int (Kn x1 i)),some (.ref R),some (.ref L),some (.int many),r8,r9,Z]/\AM H2 H'/\H' R=some KT/\H' L=some Ix/\O3 H2 H' R L xs ((List.range i).map (gB (T / 16)))/\Jf H' ys ((List.range i).map fun j=>RE (Kn x1 j))) ?_ ?_ ?_⟩
  .exact⟨_,_,_,[],[],rfl,f1.trans f2,f2 _ _ g1,g2,⟨rfl,fun i r z=>by simp at z⟩,⟨rfl,fun i r z=>by simp at z⟩⟩
  .rintro i σ H3 hi ⟨r8,r9,Z,xs,ys,rfl,e3,hR3,hL3,Y,fl3⟩;have hrl:((List.range i).map (gB (T / 16))).length=i:=by simp
   have hll:((List.range i).map fun j=>RE (Kn x1 j)).length=i:=by simp
   refine⟨y0,fun A hA=>?_⟩;have f3:=Ah hA Q4;have g3:upd H3 A Q4 A=some Q4:=AO;generalize upd H3 A Q4=I3 at f3 g3;have nAR:A≠R:=(Aa hR3 hA).symm;have nAL:A≠L:=(Aa hL3 hA).symm;refine⟨_,rfl,0+(i:Int),rfl,by lia,by lia,Vo (n:=(0+(i:Int)).toNat) (fun j σ H'=>∃(Z:Option V) (zs:Jh),σ=[some HY,some (.int (k:Int)),some (.int most),some (.int (Kn (UG (T / 16) i) j)),some (.int (Kn x1 i)),some (.ref R),some (.ref L),some (.int many),some (.int (0+(i:Int))),some (.ref A),Z]/\AM H3 H'/\H' A=some (.lst zs)/\Jf H' zs ((List.range j).map fun l=>RE (Kn (UG (T / 16) i) l))) ?_ ?_ ?_⟩
   .exact⟨_,[],rfl,f3,g3,⟨rfl,fun i r z=>by simp at z⟩⟩
   .rintro j σ H4 hj ⟨Z,zs,rfl,g,hA4,fz⟩;have hl:=fz.1;rw[List.length_map,List.length_range]at hl;refine⟨_,rfl,.inl ⟨rfl,_,Ax.of hA4⟩,_,rfl,Kn (UG (T / 16) i) j,rfl,fun l H5 e5 hl5=>?_⟩;have hA5:=e5 _ _ hA4;refine⟨A,zs,_,rfl,rfl,hA5,RX (n:=60) AC AT,?_⟩;refine⟨_,rfl,_,_,rfl,rfl,⟨by decide,by decide⟩,_,zs++[.ref l],rfl,fun b o zz=>?_,AO,?_⟩
    .rw[AL (Aa zz hA)];exact e5 _ _ (g _ _ zz)
    .rw[List.range_succ,List.map_append];exact((fz.same e5).snoc hl5).BF (.upd hA5)
   .rintro σ H4 ⟨Z,zs,rfl,g,hA4,fz⟩;rw[show(0+(i:Int)).toNat=i by lia]at fz ⊢;have hR4:=g _ _ hR3;have hxl:=Y.1;have hyl:=fl3.1;refine⟨_,rfl,.inl ⟨rfl,_,Ax.of hR4⟩,_,rfl,R,xs,_,rfl,rfl,hR4,RX (n:=60) AC AT,?_⟩;have rw4:=((Y.same g).snoc hA4 fz nAR nAL (FD e3 hA)).upd (vs:=xs++[.ref A]) hR4 SZ;have fl4:=(fl3.same g).BF (Lj.upd (o:=.lst (xs++[.ref A])) hR4);have hR5:upd H4 R zBB R=some zBB:=AO;have hL5:upd H4 R zBB L=some Ix:=by rw[AL nRL.symm];exact g _ _ hL3
    have e5:AM H2 (upd H4 R zBB):=fun b o zz=>by rw[AL (Aa zz hR)];exact g _ _ (e3 _ _ zz)
    generalize upd H4 R zBB=H5 at rw4 fl4 hR5 hL5 e5;refine⟨_,rfl,.inl ⟨rfl,_,Ax.of hL5⟩,_,rfl,Kn x1 i,rfl,fun l H6 e6 hl6=>?_⟩;have hL6:=e6 _ _ hL5;refine⟨L,ys,_,rfl,rfl,hL6,RX (n:=60) AC AT,?_⟩;refine⟨_,rfl,_,_,rfl,rfl,⟨by decide,by decide⟩,_,_,_,xs++[.ref A],ys++[.ref l],rfl,fun b o zz=>?_,?_,AO,?_,?_⟩
    .rw[AL (Aa zz hL2)];exact e6 _ _ (e5 _ _ zz)
    .rw[AL nRL];exact e6 _ _ hR5
    .rw[List.range_succ,List.map_append];exact(rw4.same e6).upd hL6 (.inr rfl)
    .rw[List.range_succ,List.map_append];exact((fl4.same e6).snoc hl6).BF (.upd hL6)
  rintro σ H3 ⟨r8,r9,Z,xs,ys,rfl,e3,hR3,hL3,Y,fl3⟩;rw[Int.toNat_natCast]at Y fl3;refine⟨_,rfl,_,rfl,Q6,fun p2 U=>?_⟩;have g:=Ah U (.tup [V.ref R,V.ref L]);refine q _ _ ((E2.trans e3).trans g) (Tz AO (g _ _ hR3) (Y.Zb.same g) (g _ _ hL3) (fl3.Zb.same g)) ⟨p2,R,L,xs,rfl,AO,g _ _ hR3,FD E2 hR,FD E2 hL2,fun b hb=>?_⟩;obtain⟨i,hi⟩:=List.getElem?_of_mem hb;have hil:=(aD.mp hi).1;have h1:=Y.1;obtain⟨a',zs,k1,k2,k3,_,_,k4⟩:=Y.2 i _ (aH AC);rw[hi]at k1;cases k1;exact FD E2 k4
end
def oj(g U:Int){most:Nat}(h1:1<=most)(h4:most<=4):(Tw g U most).Ok 4/\(Tw g U most).Sm:=by
 unfold Tw;split
 .obtain⟨R,st⟩:=Uk (gC (g / 4));split
  .exact Uk Lx
  .split
   .refine⟨⟨R.one,R.most,by show(List.set _ _ _).length=_;rw[List.length_set];exact R.last,R.row⟩,st.1,fun q T=>?_⟩;rcases List.mem_or_eq_of_mem_set T with h|h
    .exact st.2 q h
    .rw[h];exact Xf U
   .exact⟨R,st⟩
 .have e:=Int.fmod_eq_emod_of_nonneg (g / 4) (show(0:Int)<=(most:Int) by lia);have a:=Int.emod_nonneg (g / 4) (show(most:Int)≠0 by lia);have b:=Int.emod_lt_of_pos (g / 4) (show(0:Int)<(most:Int) by lia);have m1:1<=(1+(g / 4).fmod (most:Nat)).toNat:=by lia
  have Z:(1+(g / 4).fmod (most:Nat)).toNat<=4:=by lia
  generalize (1+(g / 4).fmod (most:Nat)).toNat=many at m1 Z;refine⟨⟨by show 1<=(List.map _ _).length;simpa using m1,by show(List.map _ _).length<=4;simpa using Z,by show(List.map _ _).length=(List.map _ _).length;simp,fun i r hi=>?_⟩,fun r hr q T=>?_,fun q T=>?_⟩
  .have hi:((List.range many).map (gB (g / 16)))[i]? = some r:=hi;rw[List.getElem?_map]at hi;obtain⟨j,Y,rfl⟩:=aC.mp hi;have hl:=(aD.mp Y).1;rw[List.getElem?_range (by simpa using hl)]at Y;cases Y;unfold gB;simp
  .obtain⟨i,_,rfl⟩:=aQ.mp hr;obtain⟨j,_,rfl⟩:=aQ.mp T;exact Xf _
  .obtain⟨j,_,rfl⟩:=aQ.mp T;exact Xf _
def qY(ds:yM):yQ:=match ds with
 |[.int a,.int b]=>some (.int (FM.gi a b))
 |_=>none
def xF{P:FS}{w:IO}{K:Fg}{mg:yP}{base:Heap}{f:AD}{fd:Db}{k:Nat}{ps:yU}(F:AK P w K mg base Ag k f fd ps WU):AK P w K mg base Ag k f fd ps (A6 qY) :=
 J6 F fun Z x hm G H vs Q E d e T=>by
  unfold qY at hm;split at hm
  .cases hm;obtain⟨Y,U,rfl,R,g⟩:=d.Ms;rw[Du]at R g;subst R g;exact⟨_,_,rfl,T _ G H (.refl _) Nw.refl e (.refl _) Mt⟩
  .cases hm
abbrev vP:MD:=C8 qY Dl
abbrev kQ:MD:=Al vP
abbrev vn:MD:=Ek kQ
abbrev oh:MD:=Ej kQ vn
def WZ{f g:yK}{δ:Dv}{r:yQ}(h:f δ=some KQ)(k:g δ=r):Yb f g δ=r:=by
 show(f δ).bind _=_;rw[h];exact k
def S5(z:Int):EO true (.int z) (.int z)=some (.bool false):=ne_self (Ok.int (n:=0)) AT
def ec(z:Int):EO false (.int z) (.int z)=some KQ:=Yd (Ok.int (n:=0)) AT
def u6(q:Rat):vP [AX q]=some KQ:=by
 refine Cw rfl ?_;unfold O4;have hd:=q.den_nz;have R:FM.gi q.num (q.den:Int)=1:=by
  have k:=q.reduced;unfold FM.gi;unfold Nat.Coprime at k;rw[show q.num.gcd (q.den:Int)=1 from k]
  rfl
 have g:∀z:Int,Dl [.int z]=some KQ:=fun _=>rfl;refine An zCy (An (C9 (MW (LW (J3 (Aj (xs:=[.int q.num]) rfl (g _)))) (LW (J3 (Aj (xs:=[.int (q.den:Int)]) rfl (g _))))) rfl) (F9 (WZ (A0 (x:=.int (q.den:Int)) (y:=.int 1) rfl rfl ?_) (A0 (x:=.int 1) (y:=.int 1) (Aj (xs:=[.int q.num,.int (q.den:Int)]) rfl ?_) rfl (ec 1)))))
 .show some (PyData.bool (decide ((1:Int)<=(q.den:Int))))=_;rw[decide_eq_true AC]
 .show some (PyData.int (FM.gi q.num (q.den:Int)))=_;rw[R]
def cz(ws:ya):kQ [.list zCb]=some KQ:=by
 refine Cw rfl ?_;unfold Mo;refine An (δ':=[.d (.list zCb),.no]) (C9 rfl rfl) ?_;refine OE (xs:=ws.map AX) (fun i δ=>∃l:L,δ=[.d (.list zCb),l]) rfl ⟨_,rfl⟩ ?_ ?_
 .rintro i x δ R ⟨l,rfl⟩;obtain⟨q,_,rfl⟩:=aQ.mp (aO R);exact⟨_,rfl,_,C9 (LW (J3 (Aj (xs:=[AX q]) rfl (u6 q)))) rfl,_,rfl⟩
 .rintro δ ⟨l,rfl⟩
  rfl
def uu{t:Tb}{m:Nat}(o:t.Ok m)(hm:m<=40):vn [.list zDZ]=some KQ:=by
 have h1:=o.one;have h2:=o.most;have hl:=MG t.rs;refine Cw rfl ?_;unfold Sk;refine An (δ':=[.d (.list zDZ),.no,.no]) (C9 (MW rfl (MW (Cu (x:=.int ((Bp t.rs).length:Nat)) (y:=.int 1) rfl rfl ?_) (Cu (x:=.int ((Bp t.rs).length:Nat)) (y:=.int 40) rfl rfl ?_))) rfl) ?_
 .show some (PyData.bool (decide (((Bp t.rs).length:Int)<1)))=_;rw[decide_eq_false AC]
 .show some (PyData.bool (decide ((40:Int)<((Bp t.rs).length:Int))))=_;rw[decide_eq_false AC]
 refine OE (xs:=LH zDZ) (fun i δ=>∃l g:L,δ=[.d (.list zDZ),l,g]) rfl ⟨_,_,rfl⟩ ?_ ?_
 .rintro i x δ Y ⟨l,g,rfl⟩;obtain⟨y,R,rfl⟩:=Kb Y;unfold Bp at R;rw[List.getElem?_map]at R;obtain⟨r,Z,rfl⟩:=aC.mp R;have T:=o.row i r Z;refine⟨[.d (.list zDZ),.d (.int (i:Nat)),.d (.list (Be r))],rfl,_,C9 (MW (LW (J3 (Aj (xs:=[.list (r.map AX)]) rfl (cz r)))) (Cu (x:=.int (i:Nat)) (y:=.int (i:Nat)) ?_ rfl (S5 _))) rfl,_,_,rfl⟩;show some (PyData.int ((Be r).length:Nat))=_;rw[HS,T]
 .rintro δ ⟨l,g,rfl⟩
  rfl
def pK{t:Tb}{m:Nat}(o:t.Ok m)(hm:m<=40):oh [Cz t]=some KQ:=by
 refine Cw rfl ?_;unfold Tq;refine An zCy (F9 (WZ (Aj (xs:=[.list zDZ]) rfl (uu o hm)) (WZ (Aj (xs:=[.list (t.ls.map AX)]) rfl (cz t.ls)) (A0 (x:=.int (t.rs.length:Nat)) (y:=.int (t.rs.length:Nat)) ?_ ?_ (ec _)))))
 .show some (PyData.int ((Be t.ls).length:Nat))=_;rw[HS,o.last]
 .show some (PyData.int ((Bp t.rs).length:Nat))=_;rw[MG]
def Sw{F:DF}{δ:Dv}{o:Ou}(h:F δ=some o):Vh F δ=some (.inl o):=by show(F δ).map _=_;rw[h];rfl
abbrev Ak(ws:oN):PD:=.list zCb
abbrev qS(C:AD):List PD->Option Xr:=Bf kQ C
abbrev Ez(C:AD):List PD->Option Xr:=AZ (qS C)
def qa{n:Nat}(hn:n<=5){ws:ya}(g:zAX)(C:AD):qS C [Ak ws]=some (.inl .none):=by
 refine ZV (δ:=[.d zCJ]) rfl ?_;unfold JQ;refine cw (MW (LW (J3 (Aj (xs:=[Ak ws]) rfl (cz ws)))) ?_) rfl;refine J3 ?_;show kq true _ (.int ((ws.map AX).length:Nat))=_;rw[List.length_map,g];rcases n with _|_|_|_|_|_|_|_|n<;>first|rfl|lia
def Ly{n:Nat}(hn:n<=5){ws:ya}(g:zAX)(C:AD):Ez C [Ak ws]=some (.inl Uf):=by
 refine Qa rfl ?_;unfold Lb;refine J4 (OS (ds:=[Ak ws]) rfl (qa hn g C)) ?_;have e:Bb zGu [.d zCJ]=some (.rt Uf):=by
  refine F9 ?_;show eg _ (.int ((ws.map AX).length:Nat))=_;rw[List.length_map,g];rcases n with _|_|_|_|_|_|_|_|n<;>first|rfl|lia
 exact Sw e
def tZ(ws:ya):Ok 2 zCJ:=wN fun d hd=>by obtain⟨q,_,rfl⟩:=aQ.mp hd;exact Sh q
def M1(t:Tb):List ya:=t.rs++[t.ls]
def dZ(t:Tb):(M1 t)[t.rs.length]? = some t.ls:=by
 unfold M1;rw[List.getElem?_append_right RW,Nat.sub_self];rfl
def fP{t:Tb}{m:Nat}(h:t.Ok m){i:Nat}{row:ya}(e:(M1 t)[i]? = some row):row.length=i/\i<=t.rs.length:=by
 by_cases z:i<t.rs.length
 .unfold M1 at e;rw[List.getElem?_append_left z]at e;exact⟨h.row i row e,by lia⟩
 .have g:=(aD.mp e).1;unfold M1 at g;rw[List.length_append,List.length_singleton]at g;have:i=t.rs.length:=by lia
  subst this;rw[dZ]at e;cases e;exact⟨h.last,Nat.le_refl _⟩
def Z6{t:Tb}{n:Nat}(h:t.Fits n){m:Nat}(o:t.Ok m):1<=Ef t/\(Ef t).natAbs<2^(1+n*(m+m*m))/\∀r∈M1 t,∀q∈r,(q.den:Int) ∣ Ef t:=by
 obtain⟨Z,Y,U⟩:=Zf (VG h t.rs.length);have T:=Mp o t.rs.length RW;have hm:=o.most;refine⟨Z,Nat.lt_of_lt_of_le Y (aa AT ?_),fun r g q R=>U _ ?_⟩
 .have:t.rs.length+t.rs.length*t.rs.length<=m+m*m:=Nat.add_le_add hm (bh hm hm);have:=az n (aT T this)
  lia
 .unfold Hk;rw[List.take_length];rcases bA.mp g with g|g
  .exact aV _ (List.mem_flatten.mpr ⟨F5 r,List.mem_map.mpr ⟨r,g,rfl⟩,List.mem_map.mpr ⟨q,R,rfl⟩⟩)
  .rw[List.mem_singleton.mp g]at R;exact bQ _ (aQ.mpr ⟨q,R,rfl⟩)
open Classical in
noncomputable def mT(ds:yM):yQ:=match ds with
 |[x,y]=>if ∃p q,x=AX p/\y=AX q/\FM.Fits p 400/\FM.Fits q 400 then some (AX (Mi x*Mi y)) else none
 |_=>none
def lM{p q:Rat}(R:FM.Fits p 400)(g:FM.Fits q 400):mT [AX p,AX q]=some (AX (p*q)):=by
 unfold mT;refine(if_pos ⟨p,q,rfl,rfl,R,g⟩).trans ?_;rw[Lc,Lc]
section
variable{P:FS}{w:IO}{K:Fg}{mg:yP}{base:Heap}{CX:Iy}{k:Nat}{f:AD}{fd:Db}{ps:yU}
def toT(F:AK P w K mg base CX k f fd ps (rf K (fun p q=>p*q) fun _=>True)):AK P w K mg base CX k f fd ps (A6 mT) :=
 J6 F fun ds x hm G H vs Q E d e R=>by
  unfold mT at hm;split at hm
  .split at hm
   .rename_i hh;obtain⟨p,q,rfl,rfl,hp,hq⟩:=hh;cases hm;rw[Lc,Lc]at R;obtain⟨v1,v2,rfl,d1,d2⟩:=d.Ms;obtain⟨a,rfl,ha⟩:=(TC (UP p) (d1.same e)).rat;obtain⟨b,rfl,hb⟩:=(TC (UP q) (d2.same e)).rat;refine⟨_,_,p,q,400,rfl,.of ha,.of hb,hp,hq,by decide,trivial,fun l H' T g=>?_⟩;obtain⟨G',n1,Z,Y,U⟩:=dn e T g (L5 [(p*q).num,((p*q).den:Int)]);exact R _ G' H' n1 Z Y T U
   .cases hm
  .cases hm
def YC(ds:yM):yQ:=match ds with
 |[.int b,.int p]=>if b.natAbs<2^10/\0<=p/\p<=400 then some (.int (b^p.toNat)) else none
 |_=>none
def wc(F:AK P w K mg base CX k f fd ps cQ):AK P w K mg base CX k f fd ps (A6 YC) :=
 J6 F fun ds x hm G H vs Q E d e T=>by
  unfold YC at hm;split at hm
  .split at hm
   .rename_i U;cases hm;obtain⟨Z,Y,rfl,R,g⟩:=d.Ms;rw[Du]at R g;subst R g;rename_i b p;refine⟨b,p.toNat,10,?_,U.1,by lia,T _ G H (.refl _) Nw.refl e (.refl _) Mt⟩;rw[show((p.toNat:Nat):Int)=p by lia]
   .cases hm
  .cases hm
end
def zip_map{α R:Type}{f:α->PD}{g:R->PD}:∀(xs:lX) (ys:List R),Rl (xs.map f) (ys.map g)=(xs.zip ys).map fun z=>.tuple [f z.1,g z.2]
 |[],ys=>by cases ys<;>rfl
 |x::xs,[]=>rfl
 |x::xs,y::ys=>by
  rw[List.map_cons,List.map_cons,List.zip_cons_cons,List.map_cons,<-zip_map xs ys];rfl
def eU{α:Type}{i j:Nat}{f:yK}{fs:yJ}{δ:Dv}{fr:yg}{zs:lX}{a b g:α->PD}(U:fs δ=some (zs.map fun z=>.tuple [a z,b z]))(Y:zs.length<=Dz) (h:∀z∈zs,f zFU=some (g z)):CS (Fo i j) EX f fr fs δ=some (zs.map g):=by
 unfold CS;rw[U,Option.bind_some];have:∀zs:List α,(∀z∈zs,f zFU=some (g z))->L2.collect (Gb (Fo i j) EX f zAj) (zs.map fun z=>.tuple [a z,b z])=some (zs.map g):=fun zs=>by
  induction zs with
  |nil=>intro _;rfl
  |cons z zs R=>
   intro h;rw[List.map_cons,List.map_cons];unfold L2.collect;rw[R fun y T=>h y (.tail _ T)];have e:Gb (Fo i j) EX f zAj (.tuple [a z,b z])=some (some (g z)):=by
    unfold Gb Fo;rw[Option.bind_some];show(some true).bind _=_;rw[Option.bind_some,if_pos rfl,h z GM]
    rfl
   rw[e];rfl
 rw[this zs h,Option.bind_some,Kz,if_pos (by rw[List.length_map];exact Y)]
def QU{α:Type}{i:Nat}{f:yK}{fs:yJ}{δ:Dv}{fr:yg}{zs:lX}{a g:α->PD}(U:fs δ=some (zs.map a))(Y:zs.length<=Dz) (h:∀z∈zs,f lv=some (g z)):CS (Ce i) EX f fr fs δ=some (zs.map g):=by
 unfold CS;rw[U,Option.bind_some];have:∀zs:List α,(∀z∈zs,f lv=some (g z))->L2.collect (Gb (Ce i) EX f zAj) (zs.map a)=some (zs.map g):=fun zs=>by
  induction zs with
  |nil=>intro _;rfl
  |cons z zs R=>
   intro h;rw[List.map_cons,List.map_cons];unfold L2.collect;rw[R fun y T=>h y (.tail _ T)];have e:Gb (Ce i) EX f zAj (a z)=some (some (g z)):=by
    unfold Gb Ce;rw[Option.bind_some];show(some true).bind _=_;rw[Option.bind_some,if_pos rfl,h z GM]
    rfl
   rw[e];rfl
 rw[this zs h,Option.bind_some,Kz,if_pos (by rw[List.length_map];exact Y)]
open Classical in
abbrev Ji(p:Int×Int):PD:=.tuple [.int p.1,.int p.2]
def lL:PD->Rat
 |.list g=>(g.map Mi).sum
 |_=>0
open Classical in
noncomputable def NC(ds:yM):yQ:=match ds with
 |[x]=>if ∃ps:List (Int×Int),x=.list (ps.map Ji)/\ps.length<=20/\∀p∈ps,1<=p.2/\p.1.natAbs<2^200/\p.2.natAbs<2^200 then some (AX (lL x)) else none
 |_=>none
def Zj{ps:List (Int×Int)}(R:ps.length<=20)(g:∀p∈ps,1<=p.2/\p.1.natAbs<2^200/\p.2.natAbs<2^200):NC [.list (ps.map Ji)]=some (AX (ps.map fun p=>Rat.divInt p.1 p.2).sum):=by
 unfold NC;refine(if_pos ⟨ps,rfl,R,g⟩).trans ?_;show some (AX ((ps.map Ji).map Mi).sum)=_;rw[List.map_map]
 rfl
def tW{G:Hp}{p:Int×Int}{v:V}(h:Du G (Ji p) v):∃c,v=.ref c/\G c=some zFB:=by
 rw[Du]at h;obtain⟨c,xs,rfl,U,T⟩:=h;obtain⟨x,y,rfl,R,g⟩:=T.Ms;rw[Du]at R g;subst R g;exact⟨c,rfl,U⟩
section
variable{P:FS}{w:IO}{K:Fg}{mg:yP}{base:Heap}{CX:Iy}{k:Nat}{f:AD}{fd:Db}{ps:yU}
def uk(F:AK P w K mg base CX k f fd ps lR):AK P w K mg base CX k f fd ps (A6 NC) :=
 J6 F fun ds x hm G H vs Q E d e U=>by
  unfold NC at hm;split at hm
  .split at hm
   .rename_i hh;obtain⟨g,rfl,h1,h2⟩:=hh;cases hm;obtain⟨v,rfl,d1⟩:=d.Ke;rw[Du]at d1;obtain⟨a,xs,rfl,n1,T⟩:=d1;have Z:=T.len;rw[List.length_map]at Z;have ht:lL (.list (g.map Ji))=(g.map fun p=>Rat.divInt p.1 p.2).sum:=by
     show((g.map Ji).map Mi).sum=_;rw[List.map_map];rfl
    rw[ht]at U;refine⟨a,xs,g,200,rfl,e _ _ n1,Z,by lia,fun j x p hx hp=>?_,h2,by lia,fun l H' e' R=>?_⟩
    .obtain⟨v,Y,k2⟩:=T.get (i:=j) (d:=Ji p) (by rw[List.getElem?_map,hp];rfl);rw[hx]at Y;cases Y;obtain⟨c,r1,r2⟩:=tW k2;exact⟨c,r1,e _ _ r2⟩
    .obtain⟨G',m1,m2,m3,m4⟩:=dn e e' R (L5 [((g.map fun p=>Rat.divInt p.1 p.2).sum).num,(((g.map fun p=>Rat.divInt p.1 p.2).sum).den:Int)]);exact U _ G' H' m1 m2 m3 e' m4
   .cases hm
  .cases hm
end
def jR:((AH 5).all fun t=>(AH 5).all fun u=>decide (TH.BJ (some u)≠TH.BJ zAr)||decide (u=t))=true:=by decide +kernel
def xg:(AH 5).Nodup:=by decide +kernel
def Aw(ws:ya)(t:Tr):Rat:=ws.getD ((AH 5).idxOf t) 0
def lq{i:Nat}{f:yK}{δ:Dv}{kvs:zAC}{x:PD}(U:od i δ=some kvs)(T:f zCG=some x)(R:N1 x=true)(g:alone i δ=true):WG i f δ=some x:=by
 show(od i δ).bind _=_;rw[U];show(f _).bind _=_;rw[T];exact if_pos ⟨R,g⟩
def ei{i:Nat}{f g:yK}{δ:Dv}{kvs:zAC}{k:LT}{y:PD}(Z:f δ=some y)(Y:g δ=some (Cp k))(U:od i δ=some kvs)(T:NF kvs k=true)(R:kvs.length<=500):cX i f g δ=some (.nx (δ.set i (.own (.GU (UY kvs k y))))):=by
 show(f δ).bind _=_;rw[Z];show(g δ).bind _=_;rw[Y];show(od i δ).bind _=_;rw[U];show(keyOf (Cp k)).bind _=_;rw[N0];exact if_pos ⟨T,R⟩
def Qh{i:Nat}{t:Tr}(h:(AH 5)[i]? = some t):(AH 5).idxOf t=i:=by
 have hm:=aO h;have g:=bT.mpr hm;have R:(AH 5)[(AH 5).idxOf t]? = some t:=by rw[List.getElem?_eq_getElem g,List.getElem_idxOf g]
 exact(List.getElem?_inj g xg).mp (R.trans h.symm)
def Ux{i:Nat}{u:Tr}(R:u∈AH 5)(h:(AH 5).idxOf u<i):u∈(AH 5).take i:=by
 have g:=bT.mpr R;refine aO (i:=(AH 5).idxOf u) ?_;rw[List.getElem?_take_of_lt h,List.getElem?_eq_getElem g,List.getElem_idxOf g]
def j6{i:Nat}{t:Tr}(h:(AH 5)[i]? = some t):t ∉ (AH 5).take i:=fun z=>by
 obtain⟨j,R⟩:=ai.mp z;have g:j<i:=by have:=(aD.mp R).1;rw[List.length_take]at this;lia
 rw[List.getElem?_take_of_lt g]at R;have:=Qh R;rw[Qh h]at this
 lia
def QI(n:Nat):∀k,∃us,AH (n+k)=AH n++us
 |0=>⟨[],by rw[List.append_nil];rfl⟩
 |k+1=>by
  obtain⟨us,h⟩:=QI n k;exact⟨us++TH.tz (n+k),by rw[<-List.append_assoc,<-h];rfl⟩
def My{n:Nat}(hn:n<=5){i:Nat}{t:Tr}(h:(AH n)[i]? = some t):(AH 5)[i]? = some t:=by
 obtain⟨us,g⟩:=QI n (5-n);rw[show n+(5-n)=5 by lia]at g;rw[g,List.getElem?_append_left (aD.mp h).1];exact h
def T9{ws:ya}{i:Nat}{t:Tr}{q:Rat}(h:(AH 5)[i]? = some t)(g:ws[i]? = some q):Aw ws t=q:=by
 unfold Aw;rw[Qh h,List.getD_eq_getElem?_getD,g];rfl
def rA(kvs:zAC)(l:L):Prop:=l=.own (.GU kvs)\/l=.d (Bg kvs)
def iw{kvs:zAC}{a b l:L}{r:List L}(h:rA kvs l):GD 2 (a::b::l::r)=a::b :: .d (Bg kvs)::r:=by
 rcases h with rfl|rfl<;>rfl
def iK{n:Nat}(hn:n<=5){i:Nat}(hi:i<=(AH n).length){u:Tr}(h:u∈(AH 5).take i):u∈AH n:=by
 obtain⟨us,g⟩:=QI n (5-n);rw[show n+(5-n)=5 by lia]at g;rw[g,List.take_append_of_le_length hi]at h;exact bW h
abbrev vf(ts:y8):PD:=.list (L2.BS (Tr.of ts))
def Ju:∀t:Tr,EG (L2.BS t)=some t
 |.nil=>by rw[L2.BS,EG]
 |.cons b r=>by rw[L2.BS,EG,Ey,Ju b,Ju r];rfl
def Jx:PD->List Rat
 |.list xs=>xs.map Mi
 |_=>[]
def Sr(r:ya):Jx (.list (Be r))=r:=by
 unfold Jx Be;show List.map Mi (r.map AX)=r;rw[List.map_map];exact List.map_id'' (fun q=>Lc q) r
def tabOf:PD->Tb
 |.tuple [.list rs,d]=>⟨rs.map Jx,Jx d⟩
 |_=>⟨[],[]⟩
def Rq(t:Tb):tabOf (Cz t)=t:=by
 unfold Cz tabOf;have e:(Bp t.rs).map Jx=t.rs:=by
  unfold Bp;rw[List.map_map];exact List.map_id'' (fun r=>Sr r) t.rs
 show Tb.mk ((Bp t.rs).map Jx) (Jx (.list (Be t.ls)))=t;rw[e,Sr]
def kK:∀u∈AH 5,u.ip=true/\u.deep<8/\u.AI<=5/\∀b∈u.bs,b∈AH 5:=by decide +kernel
def vU:cg (AH 5) 1000:=⟨by decide +kernel,fun a ha b R e=>by
 have:=aL.mp (aL.mp jR b R) a ha;rw[Bool.or_eq_true]at this;rcases this with h|h
 .exact absurd e (aP h)
 .exact aP h,fun t g=>(kK t g).2.2.2,fun t g=>(kK t g).2.1,fun t g=>by have:=(kK t g).2.2.1;lia⟩
def Tb.Wu(t:Tb):Prop:=∃m n k:Nat,t.Ok m/\m<=40/\t.Fits n/\n*(m+m*m)<=4000/\KU (FH t) 1000/\(Ef t).natAbs<2^k/\n+k<=4000/\1<=Ef t/\k*5<=4000
def We{t:Tb}{m n k c:Nat}(o:t.Ok m)(hm:m<=40)(h:t.Fits n)(b1:1<=Ef t)(b2:(Ef t).natAbs<2^k)(b3:∀r∈M1 t,∀q∈r,(q.den:Int) ∣ Ef t)(Y:n+k+6<=c):KU (FH t) c:=by
 have h4:=o.most;have hl:(FH t).length=t.rs.length+1:=by unfold FH;rw[List.length_map,List.length_append];rfl
 have one:∀row∈FH t,row.length<=40/\row.length<=t.rs.length:=fun row g=>by
  unfold FH at g;obtain⟨r,R,rfl⟩:=aQ.mp g;have e:(LP r (Ef t)).length=r.length:=bc _;rw[e];obtain⟨i,hi⟩:=List.getElem?_of_mem R;have:=fP o (show(M1 t)[i]? = some r from hi)
  lia
 refine⟨by lia,fun row g=>by have:=one row g;lia,2^(n+k),fun row g x Z=>?_,Nat.pow_le_pow_right AT AC,fun row g=>aT (Nat.mul_le_mul_right _ (aT (one row g).1 (show 40<=2^6 by decide))) ?_⟩
 .unfold FH at g;obtain⟨r,R,rfl⟩:=aQ.mp g;unfold LP at Z;obtain⟨q,T,rfl⟩:=aQ.mp Z;have f:FM.Fits q n:=by
   rcases bA.mp R with g|g
   .exact h.1 r g q T
   .rw[List.mem_singleton.mp g]at T;exact h.2 q T
  obtain⟨c,Y⟩:=b3 r R q T;have hd:(q.den:Int)≠0:=by have:=q.den_nz;lia
  have e:(Ef t).fdiv (q.den:Int)=c:=by rw[Y,Int.mul_fdiv_cancel_left _ hd]
  have U:c.natAbs<=(Ef t).natAbs:=by
   rw[Y,Int.natAbs_mul];exact Nat.le_mul_of_pos_left _ (by have:=q.den_nz;lia)
  rw[e,Int.natAbs_mul,Nat.pow_add];exact bh (bG f.1) (aT U (bG b2))
 .rw[<-Nat.pow_add];exact aa AT AC
def u4{t:Tb}{m n:Nat}(o:t.Ok m)(hm:m<=40)(h:t.Fits n)(g:n*(m+m*m)<=570)(hn:n<=300):t.Wu:=by
 obtain⟨b1,b2,b3⟩:=Z6 h o;exact⟨m,n,1+n*(m+m*m),o,hm,h,by lia,We o hm h b1 b2 b3 AC,b2,by lia,b1,by lia⟩
open Classical in
noncomputable def a8(ds:yM):yQ:=match ds with
 |[x,.list ys]=>if x=Cz (tabOf x)/\(tabOf x).Wu/\ys=L2.BS ((EG ys).getD .nil)/\(∀u∈((EG ys).getD .nil).bs,u∈AH 5)/\ys.length<=1000 then some (Ak (((EG ys).getD .nil).bs.map (M3 (tabOf x)))) else none
 |_=>none
def qR{t:Tb}(h:t.Wu){ts:yc}(R:∀u∈ts,u∈AH 5)(T:ts.length<=1000):a8 [Cz t,vf ts]=some (Ak (ts.map (M3 t))):=by
 unfold a8;have e:(EG (L2.BS (Tr.of ts))).getD .nil=Tr.of ts:=by rw[Ju];rfl
 refine(if_pos ⟨by rw[Rq],by rw[Rq];exact h,by rw[e],fun u g=>R u (by rw[e,Tr.Qf]at g;exact g),by rw[G7,List.length_map];exact T⟩).trans ?_;rw[Rq,e,Tr.Qf]
def xK{P:FS}{w:IO}{K:Fg}{mg:yP}{base:Heap}{f:AD}{fd:Db}{k:Nat}{ps:yU}(F:AK P w K mg base Ag k f fd ps (oY (AH 5) 1000)):AK P w K mg base Ag k f fd ps (A6 a8) :=
 J6 F fun ds x hm G H vs Q E d e Y=>by
  unfold a8 at hm;split at hm
  .rename_i tx ys;split at hm
   .rename_i hc;obtain⟨c1,⟨m,n,kb,w1,w2,w3,w4,w5,w6,w7,w8,w9⟩,c3,c4,c5⟩:=hc;cases hm;generalize tabOf tx=t at c1 w1 w3 w5 w6 w8 Y;subst c1;generalize (EG ys).getD .nil=T at c3 c4 Y;subst c3;obtain⟨v1,v2,rfl,d1,d2⟩:=d.Ms;rw[Du]at d2;obtain⟨L,R,rfl,hL,U⟩:=d2;have ts:=(Gk U).same e;have g:R.length=T.bs.length:=ts.len;have Z:T.bs.length<=1000:=by
     rw[<-g,U.len];exact c5
    refine⟨v1,t,L,R,T.bs,m,n,kb,rfl,TC (ZN t) (d1.same e),w1,w2,w3,w4,w5,w6,w7,w8,e _ _ hL,g,Z,fun i x hx=>?_,fun D H' zs e' hD hD' dz=>?_⟩
    .obtain⟨u,hu,tu⟩:=ts.get hx;have hm:=c4 u (aO hu);have h6:=(kK u hm).2.2.1;exact⟨u,hu,tu,hm,by lia,Nat.le_trans (az _ h6) w9⟩
    .obtain⟨n1,n2,n3⟩:=Zr e e';refine Y ra _ H' n1 n2 n3 e' ?_;rw[Du];exact⟨D,zs,rfl,T4 hD' hD,LS dz⟩
   .cases hm
  .cases hm
abbrev OC:=Option Tr×List Tr
abbrev MY(c:OC):PD:=.tuple [Cp c.1,.list (c.2.map tD)]
def cf:PD->Option OC
 |.tuple [x,.list g]=>(keyOf x).bind fun k=>(EG g).map fun u=>(k,u.bs)
 |_=>none
def pE(u:Tr):L2.BS u=u.bs.map tD:=by
 have:=G7 u.bs
 rwa [Tr.T7]at this
def tY{d:PD}{c:OC}(h:cf d=some c):d=MY c:=by
 unfold cf at h;split at h
 .obtain⟨k,T,R⟩:=aB.mp h;obtain⟨u,g,rfl⟩:=aC.mp R;rw[MT T,Kc g,pE]
 .cases h
def allOf{α:Type}(f:PD->Option α):List PD->Option (List α)
 |[]=>some []
 |d::g=>(f d).bind fun x=>(allOf f g).map fun r=>x::r
def all_eq{α:Type}{f:PD->Option α}{g:α->PD}(R:∀ {d x},f d=some x->d=g x):∀ {ds:sw} {xs:lX},allOf f ds=some xs->ds=xs.map g
 |[],xs,h=>by cases h;rfl
 |d::ds,xs,h=>by
  rw[allOf]at h;obtain⟨x,Y,U⟩:=aB.mp h;obtain⟨r,T,rfl⟩:=aC.mp U;rw[R Y,all_eq R T];rfl
abbrev yA:MD:=CK (DM 9)
abbrev KG:MD:=Bs (B0 AY 9) yA
def listOf{α:Type}(f:PD->Option α)(m:MD)(t:Tr):Option (List α):=match m [tD t]with
 |some (.list g)=>allOf f g
 |_=>none
def fi{α:Type}{f:PD->Option α}{g:α->PD}(R:∀ {d x},f d=some x->d=g x){m:MD}{t:Tr}{xs:lX}(h:listOf f m t=some xs):m [tD t]=some (.list (xs.map g)):=by
 unfold listOf at h;split at h
 .rename_i T e;rw[e,all_eq R h]
 .cases h
def Dc(t:Tr):List OC:=(listOf cf KG t).getD []
def km(t:Tr):Bool:=match listOf cf KG t with
 |some as=>decide (as.length<=17)&&as.all fun c=>(match c.1 with|none=>true|some u=>decide (u∈AH 5)&&decide ((AH 5).idxOf u<=(AH 5).idxOf t))&&(c.2.all fun p=>decide (p∈AH 5)&&decide ((AH 5).idxOf p<=(AH 5).idxOf t))&&decide (c.2.length<=20)
 |_=>false
def nr:(AH 5).all km=true:=by decide +kernel
structure ur(t:Tr):Prop where
 a:KG [tD t]=some (.list ((Dc t).map MY))
 len:(Dc t).length<=17
 el:∀c∈Dc t,(∀u,c.1=some u->u∈AH 5/\(AH 5).idxOf u<=(AH 5).idxOf t)/\(∀p∈c.2,p∈AH 5/\(AH 5).idxOf p<=(AH 5).idxOf t)/\c.2.length<=20
def T6{t:Tr}(ht:zAY):ur t:=by
 have:=aL.mp nr t ht;unfold km at this;split at this
 .rename_i a T;have ea:Dc t=a:=by unfold Dc;rw[T];rfl
  simp only[Bool.and_eq_true,decide_eq_true_eq,List.all_eq_true]at this;obtain⟨h1,h4⟩:=this;refine⟨by rw[ea];exact fi tY T,by rw[ea];exact h1,fun c R=>?_⟩;rw[ea]at R;obtain⟨⟨g,Y⟩,U⟩:=h4 c R;refine⟨fun u Z=>?_,Y,U⟩;rw[Z]at g
  simpa using g
 .cases this
def P9:List Rat->Rat
 |[]=>1
 |q::l=>q*P9 l
def Dd(b:oN):Option Tr->Rat
 |none=>1
 |some t=>Aw b t
def Gd(a b:ya)(c:OC):Rat:=Dd b c.1*P9 zFz
def Ed(a b:ya)(t:Tr):Rat:=((Dc t).map zu).sum
def MB(p:Int×Int)(q:Rat):Int×Int:=(p.1*q.num,p.2*q.den)
def FN(b:Rat)(g:ya):Int×Int:=g.foldl MB (b.num,(b.den:Int))
def U3:∀(g:oN) (p:Int×Int),Rat.divInt (g.foldl MB p).1 (g.foldl MB p).2=Rat.divInt p.1 p.2*P9 g
 |[],p=>by rw[P9,Rat.mul_one];rfl
 |q::g,p=>by
  rw[List.foldl_cons,U3 g,P9,<-Rat.mul_assoc]
  congr 1
  show Rat.divInt (p.1*q.num) (p.2*q.den)=_
  conv=>rhs;rw[<-FM.Dg q,Rat.divInt_mul_divInt]
def Wx(b:Rat)(g:ya):Rat.divInt (FN b g).1 (FN b g).2=b*P9 g:=by
 unfold FN;rw[U3]
 congr 1
 exact FM.Dg b
def P6:∀(g:oN) (p:Int×Int),1<=p.2->1<=(g.foldl MB p).2
 |[],p,h=>h
 |q::g,p,h=>by
  rw[List.foldl_cons];refine P6 g _ ?_;have R:0<(q.den:Int):=by have:=q.den_nz;lia
  have:=Int.mul_pos (show 0<p.2 by lia) R;show 1<=p.2*q.den
  lia
def XJ{n:Nat}:∀(g:oN) (p:Int×Int) (m:Nat),(∀q∈g,FM.Fits q n)->p.1.natAbs<2^m->p.2.natAbs<2^m->(g.foldl MB p).1.natAbs<2^(m+n*g.length)/\(g.foldl MB p).2.natAbs<2^(m+n*g.length)
 |[],p,m,_,T,R=>⟨T,R⟩
 |q::g,p,m,U,T,R=>by
  have f:=U q GM;have:=XJ g (MB p q) (m+n) (fun x Y=>U x (.tail _ Y)) (FM.IK T f.1) (FM.IK R f.d);rw[List.foldl_cons,List.length_cons,show m+n*(g.length+1)=m+n+n*g.length by rw[Nat.mul_succ];lia];exact this
def K5:List (Option Tr):=(AH 5).map some++[none]
def su:(K5.all fun k=>(match k with|none=>true|some t=>decide (t.deep<8))&&K5.all fun q=>decide (TH.BJ q≠TH.BJ k)||decide (q=k))=true:=by decide +kernel
def eK{g:Option Tr->PD}{ks:QF}{k:LT}(h:∀q∈ks,q∈K5)(U:k∈K5):NF zCc k=true:=by
 have:=aL.mp su k U;rw[Bool.and_eq_true]at this;unfold NF;rw[Bool.and_eq_true];refine⟨this.1,List.all_eq_true.mpr fun q T=>?_⟩;obtain⟨u,R,rfl⟩:=aQ.mp T;exact aL.mp this.2 u (h u R)
def WD{g:Option Tr->PD}{k:LT}:∀ {ks:QF},k∈ks->look zCc k=some (g k)
 |u::ks,h=>by
  unfold look;rw[List.map_cons,List.find?_cons];by_cases z:u=k
  .subst z;simp
  .rw[show decide ((u,g u).1=k)=false from bF z];exact WD ((aM.mp h).resolve_left fun e=>z e.symm)
def YI{g:Option Tr->PD}{k:LT}{ks:QF}(h:k ∉ ks)(y:PD):UY zCc k y=zCc++[(k,y)]:=by
 unfold UY;have:(ks.map fun k=>(k,g k)).find? NE=none:=bj.mpr fun q T=>by
  obtain⟨u,R,rfl⟩:=aQ.mp T;have:u≠k:=fun e=>h (e ▸ R)
  simpa using this
 rw[this];rfl
abbrev CQ(b:oN)(ks:QF):List KD:=ks.map fun k=>(k,AX (Dd b k))
abbrev FJ(n:Nat):List (Option Tr):=(AH n).map some
def om:∀n,n<=5->cE (FJ n)=true:=by decide +kernel
def FX{n:Nat}(hn:n<=5){u:Tr}(g:u∈AH n):u∈AH 5:=by
 obtain⟨k,R⟩:=ai.mp g;exact aO (My hn R)
def Tg{n:Nat}(hn:n<=5):∀q∈FJ n,q∈K5:=fun q R=>by
 obtain⟨t,g,rfl⟩:=aQ.mp R;exact bQ _ (ay (FX hn g))
def WJ{n:Nat}(hn:n<=5){ws:ya}(U:zAX):(AH n).map (Aw ws)=ws:=by
 have T:=(Ea n hn).1;refine List.ext_getElem? fun i=>?_;rw[List.getElem?_map];by_cases h:i<(AH n).length
 .have R:(AH n)[i]? = some (AH n)[i]:=aH h;have g:ws[i]? = some (ws[i]' AC):=aH _;rw[R,g];show some (Aw ws (AH n)[i])=_;rw[T9 (My hn R) g]
 .rw[List.getElem?_eq_none AC,List.getElem?_eq_none AC];rfl
def Nv{n:Nat}(hn:n<=5):CT n<=17:=by rcases n with _|_|_|_|_|_|n<;>first|decide|lia
def cM{n:Nat}(hn:n<=5){ws:ya}(g:zAX):gb ge zCJ=some (CQ ws (FJ n)):=by
 have R:=(Ea n hn).1;have T:=Nv hn;have e:L2.BS (Tr.of (AH n))=(FJ n).map Cp:=by rw[G7,List.map_map];rfl
 show(keysOf kS).bind _=_;rw[e,Z3];have lk:(FJ n).length=CT n:=by rw[List.length_map,R]
 refine(if_pos ⟨om n hn,by rw[List.length_map,g,lk],by lia⟩).trans ?_
 congr 1
 conv=>lhs;rw[<-WJ hn g]
 rw[List.map_map,CQ,List.map_map,List.zip_map']
 rfl
def kE{i j:Int}{m:Nat}(R:i.natAbs<2^m)(hm:m<=9000)(g:j.natAbs<2^190):Ge pp (.int j)=some zCv:=Wr (by
 unfold N7;rw[Pq (n:=9000) (aI R (aa AT hm)),Pq (n:=9000) (aI g (aa AT AT))];simp)
def take_snoc{α:Type}{l:lX}{i:Nat}{x:α}(h:l[i]? = some x):l.take M2=l.take i++[x]:=by rw[List.take_succ,h];rfl
def WO{a b:ya}{c:OC}{R g:QF}(ha:∀q∈R,q∈K5)(hb:∀q∈g,q∈K5)(h1:c.1∈g)(h2:∀p∈c.2,some p∈R)(wa:∀t,FM.Fits (Aw a t) 190)(wb:FM.Fits SL 190)(hl:c.2.length<=20):A9 [MY c,Bg (CQ a R),Bg (CQ b g)]=some (Ji (FN SL zFz)):=by
 refine Cw rfl ?_;unfold RT;have g1:J7 (Bg (CQ b g)) (Cp c.1)=some (AX SL):=UT (eK hb (hb _ h1)) (WD h1);have e1:∀(Z Y T:L),Ai J7 zGE zHJ [.d (MY c),.d (Bg (CQ a R)),.d (Bg (CQ b g)),Z,Y,T]=some (AX SL):=fun _ _ _=>A0 (x:=Bg (CQ b g)) (y:=Cp c.1) rfl (A0 (x:=MY c) (y:=.int 0) rfl rfl rfl) g1;refine An (Ct (y:=.int (Dd b c.1).num) (A0 (x:=AX SL) (y:=.int 0) (e1 _ _ _) rfl rfl)) ?_;refine An (Ct (y:=.int zBb) (A0 (x:=AX SL) (y:=.int 1) (e1 _ _ _) rfl rfl)) ?_;refine OE (xs:=c.2.map tD) (fun i δ=>∃T,δ=[.d (MY c),.d (Bg (CQ a R)),.d (Bg (CQ b g)),.d (.int (FN SL xL).1),.d (.int (FN SL xL).2),T]) rfl ⟨.no,rfl⟩ (fun i x δ hx hI=>?_) fun δ' hI=>?_
 .obtain⟨T,rfl⟩:=hI;rw[List.getElem?_map]at hx;obtain⟨p,hp,rfl⟩:=aC.mp hx;have U:=h2 p (aO hp);have g2:J7 (Bg (CQ a R)) (tD p)=some (AX (Aw a p)):=UT (k:=some p) (eK ha (ha _ U)) (WD U);have e2:∀(Z Y:L),Ai J7 Kv (nm 5) [.d (MY c),.d (Bg (CQ a R)),.d (Bg (CQ b g)),Z,Y,.d (tD p)]=some (AX (Aw a p)):=fun _ _=>A0 (x:=Bg (CQ a R)) (y:=tD p) rfl rfl g2;have et:(c.2.take M2).map (Aw a)=(c.2.take i).map (Aw a)++[Aw a p]:=by rw[take_snoc hp,List.map_append];rfl
  have bd:=XJ xL ((Dd b c.1).num,zBb) 190 (fun q hq=>by obtain⟨t,_,rfl⟩:=aQ.mp hq;exact wa t) wb.1 wb.d;have hm:190+190*((c.2.take i).map (Aw a)).length<=9000:=by
   rw[List.length_map,List.length_take];have:min i c.2.length<=20:=by lia
   lia
  have es:FN SL ((c.2.take M2).map (Aw a))=MB (FN SL xL) (Aw a p):=by
   unfold FN;rw[et,List.foldl_append]
   rfl
  refine⟨_,rfl,lC (Ct (A0 (x:=.int (FN SL xL).1) (y:=.int (Aw a p).num) rfl (A0 (x:=AX (Aw a p)) (y:=.int 0) (e2 _ _) rfl rfl) (kE bd.1 hm (wa p).1))) ?_⟩;refine⟨_,Ct (A0 (x:=.int (FN SL xL).2) (y:=.int ((Aw a p).den:Int)) rfl (A0 (x:=AX (Aw a p)) (y:=.int 1) (e2 _ _) rfl rfl) (kE bd.2 hm (wa p).d)),.d (tD p),?_⟩;rw[es]
  rfl
 .obtain⟨T,rfl⟩:=hI;rw[List.length_map,List.take_length]
  rfl
structure Yh(a b:oN):Prop where
 wa:∀t,FM.Fits (Aw a t) 190
 wb:∀t,FM.Fits (Aw b t) 190
 sh:∀ {t:Tr},t∈AH 5->∀c∈Dc t,(FN SL zFz).1.natAbs<2^200/\(FN SL zFz).2.natAbs<2^200
def j7:FM.Fits 1 190:=⟨by decide,by decide⟩
def gf{a b:ya}(F:Yh a b)(k:LT):FM.Fits (Dd b k) 190:=by
 cases k with
 |none=>exact j7
 |some t=>exact F.wb t
def UN{n:Nat}(hn:n<=5){i:Nat}{t:Tr}(hi:(AH n)[i]? = some t):∀c∈Dc t,(c.1∈FJ n++[none])/\(∀p∈c.2,p∈AH n)/\c.2.length<=20:=by
 have g:=My hn hi;have hm:=aO g;have U:i<(AH n).length:=(aD.mp hi).1;have mem:∀u,u∈AH 5->(AH 5).idxOf u<=(AH 5).idxOf t->u∈AH n:=fun u T R=>by
  rw[Qh g]at R;exact iK hn (Nat.succ_le_of_lt U) (Ux T (Nat.lt_succ_of_le R))
 intro c Z;obtain⟨T,R,h3⟩:=(T6 hm).el c Z;refine⟨?_,fun p Y=>mem p (R p Y).1 (R p Y).2,h3⟩;cases e:c.1 with
 |none=>exact aV _ GM
 |some u=>exact bQ _ (ay (mem u (T u e).1 (T u e).2))
noncomputable abbrev oT(T R g:AD):List PD->Option Xr:=Bo A9 NC KG (Hv R) (Ez T) g
def nA(n:Nat):(none:LT) ∉ FJ n:=fun h=>by
 obtain⟨t,_,e⟩:=aQ.mp h;cases e
def ko{n:Nat}(hn:n<=5):∀q∈FJ n++[none],q∈K5:=fun q g=>by
 rcases bA.mp g with h|h
 .exact Tg hn q h
 .rw[List.mem_singleton.mp h];exact aV _ GM
def uw{n:Nat}(hn:n<=5){ws:ya}(g:zAX)(C:AD):good (Ez C) [Ak ws]=some Uf:=by unfold good;rw[Ly hn g C]
def tT{n:Nat}(hn:n<=5){a b:ya}(ha:zEF)(hb:zBM)(F:Yh a b)(C1 C2 C3:AD):HD A9 NC KG (Hv C2) (Ez C1) C3 [.d yX,.d (Ak b),.no,.no,.no,.no]=some (.inl (.rn (((AH n).map (Ed a b)).map AX))):=by
 have tl:=(Ea n hn).1;have h17:=Nv hn;unfold HD;refine J4 (OS (ds:=[Ak a]) rfl (Ly hn ha C1)) ?_;refine J4 (cw (Cu (x:=.int (n:Nat)) (y:=.int (n:Nat)) (Aj (xs:=[Ak b]) rfl (uw hn hb C1)) rfl (ne_self (Ok.int (n:=0)) AT)) rfl) ?_;refine J4 (OS (ds:=[.int (n:Nat)]) rfl (Qc hn C2)) ?_;refine Sw ?_;have z1:∀(R Y U:L),Wz 4 (AB sK Do) [.d yX,.d (Ak b),R,.d ge,Y,U]=some (.nx [.d yX,.d (Ak b),R,.d ge,.own (.GU ut),U]):=fun _ _ _=>by
  show(gb ge yX).map _=_;rw[cM hn ha];rfl
 have z2:∀(R Y U:L),Wz 5 (AB sK zFh) [.d yX,.d (Ak b),R,.d ge,Y,U]=some (.nx [.d yX,.d (Ak b),R,.d ge,Y,.own (.GU (CQ b (FJ n)))]):=fun _ _ _=>by
  show(gb ge (Ak b)).map _=_;rw[cM hn hb];rfl
 refine An (z1 _ _ _) (An (z2 _ _ _) ?_);refine An (δ':=[.d yX,.d (Ak b),.d Uf,.d ge,.own (.GU ut),.own (.GU zBC)]) ((ei (k:=none) (kvs:=CQ b (FJ n)) (y:=AX 1) rfl rfl rfl (eK (Tg hn) (aV _ GM)) (by rw[List.length_map,List.length_map,tl];lia)).trans ?_) ?_
 .rw[YI (nA n)];have:CQ b (FJ n++[none])=CQ b (FJ n)++[(none,AX 1)]:=by rw[CQ,List.map_append];rfl
  rw[this]
  rfl
 have c:CS zCS EX (AU NC (AB (Hh zCS EX zFq [none,none,some 2,some 3] (Dy (AU KG zFh))) AG)) [none,none,some 4,some 5] (Dy sK) [.d yX,.d (Ak b),.d Uf,.d ge,.d (Bg ut),.d (Bg zBC)]=some ((AH n).map fun t=>AX (Ed a b t)):=by
  refine QU (zs:=AH n) (a:=tD) ?_ (by rw[tl];unfold Dz;lia) fun t ht=>?_
  .show some kS=_;rw[G7]
  .obtain⟨i,hi⟩:=ai.mp ht;have t5:=FX hn ht;have T:=T6 t5;have el:=UN hn hi;have hl:=T.len;have e1:Hh zCS EX zFq [none,none,some 2,some 3] (Dy (AU KG zFh)) [.no,.d zBD,.d (Bg ut),.d (Bg zBC)]=some (.list (((Dc t).map fun c:OC=>FN SL zFz).map Ji)):=by
    show(CS _ _ _ _ _ _).map PyData.list=_;rw[QU (zs:=Dc t) (a:=MY) (g:=fun c:OC=>Ji (FN SL zFz)) zCz (by unfold Dz;lia) fun c Z=>?_]
    .rw[List.map_map];rfl
    .obtain⟨k1,k2,k3⟩:=el c Z;exact Aj (xs:=[MY c,Bg ut,Bg zBC]) rfl (WO (Tg hn) (ko hn) k1 (fun p hp=>ay (k2 p hp)) F.wa (gf F _) k3)
   refine Aj (xs:=[.list (((Dc t).map fun c:OC=>FN SL zFz).map Ji)]) (BI e1 rfl) ((Zj (by rw[List.length_map];lia) fun q hq=>?_).trans ?_)
   .obtain⟨c,Z,rfl⟩:=aQ.mp hq;have:=F.sh t5 c Z;exact⟨P6 _ _ zHI,this.1,this.2⟩
   .rw[List.map_map];unfold Ed
    congr 3
    refine aY fun c _=>?_;exact Wx _ _
 show(CS _ _ _ _ _ [.d yX,.d (Ak b),.d Uf,.d ge,.d (Bg ut),.d (Bg zBC)]).map _=_;rw[c,List.map_map]
 rfl
def sM{n:Nat}(hn:n<=5){a b:ya}(ha:zEF)(U:zBM)(F:Yh a b)(T R g:AD):oT T R g [Ak a,Ak b]=some (.inl (Ak ((AH n).map (Ed a b)))) :=
 UK rfl (tT hn ha U F T R g)
def S6(n:Nat):((120:Int)^n)≠0:=Int.pow_ne_zero AT
structure IL(a:oN):Prop where
 len:a.length<=17
 w:∀t∈AH 5,Dr (120^t.AI) (2^(30*t.AI)) (Aw a t)
def QV{t:Tr}(g:zAY):1<=t.AI/\t.AI<=5:=by
 have:=(Ea 5 AT).2 t g
 lia
def t9{a:ya}(T:a.length<=17){t:Tr}(R:t ∉ AH 5):Aw a t=0:=by
 have g:(AH 5).length=17:=(Ea 5 AT).1;unfold Aw;rw[List.idxOf_eq_length R,g,List.getD_eq_getElem?_getD,List.getElem?_eq_none T]
 rfl
def vF{k:Nat}(g:1<=k){q:Rat}(h:Dr (120^k) (2^(30*k)) q):FM.Fits q (31*k):=by
 refine h.fits (S6 _) (Nat.pow_lt_pow_right AT AC) ?_;rw[Int.natAbs_pow];have:Int.natAbs 120^k<=(2^30)^k:=Nat.pow_le_pow_left AT _;rw[<-Nat.pow_mul]at this;exact aW this (Nat.pow_lt_pow_right AT AC)
def eL(n:Nat):FM.Fits 0 (n+1):=by
 refine(Dr.zero (m:=1) (c:=0)).fits AT ?_ ?_
 .exact Nat.pow_pos AT
 .exact Nat.one_lt_two_pow AC
def IL.f{a:ya}(h:IL a){t:Tr}(g:zAY):FM.Fits (Aw a t) (31*t.AI):=vF (QV g).1 (h.w t g)
def IL.Wg{a:ya}(h:IL a)(t:Tr):FM.Fits (Aw a t) 190:=by
 by_cases g:t∈AH 5
 .exact(h.f g).mono (by have:=QV g;lia)
 .rw[t9 h.len g];exact eL 189
def Wf:Option Tr->Nat
 |none=>0
 |some t=>t.AI
def tK:((AH 5).all fun t=>((Dc t).all fun c=>decide (Wf c.1+(c.2.map Tr.AI).sum=t.AI)&&(c.2.all fun p=>decide (p∈AH 5))&&(match c.1 with|none=>true|some u=>decide (u∈AH 5))))=true:=by decide +kernel
def ik{t:Tr}(T:zAY){c:OC}(Y:c∈Dc t):Wf c.1+(c.2.map Tr.AI).sum=t.AI/\(∀p∈c.2,p∈AH 5)/\∀u,c.1=some u->u∈AH 5:=by
 have:=aL.mp (aL.mp tK t T) c Y;rw[Bool.and_eq_true,Bool.and_eq_true]at this;obtain⟨⟨h1,Z⟩,g⟩:=this;refine⟨aP h1,fun p U=>aP (aL.mp Z p U),fun u R=>?_⟩;rw[R]at g;exact aP g
def bw{a:oN}(ha:IL a):∀(ps:y8) (p:Int×Int) (m:Nat),(∀u∈ps,u∈AH 5)->p.1.natAbs<2^m->p.2.natAbs<2^m->((ps.map (Aw a)).foldl MB p).1.natAbs<2^(m+31*(ps.map Tr.AI).sum)/\((ps.map (Aw a)).foldl MB p).2.natAbs<2^(m+31*(ps.map Tr.AI).sum)
 |[],p,m,_,R,g=>⟨R,g⟩
 |u::ps,p,m,T,R,g=>by
  have f:=ha.f (T u GM);have:=bw ha ps (MB p (Aw a u)) (m+31*u.AI) (fun x U=>T x (.tail _ U)) (FM.IK R f.1) (FM.IK g f.d);rw[List.map_cons,List.map_cons,List.foldl_cons,List.sum_cons,show m+31*(u.AI+(ps.map Tr.AI).sum)=m+31*u.AI+31*(ps.map Tr.AI).sum by lia];exact this
def kZ{a:oN}(ha:IL a):∀(ps:y8),(∀u∈ps,u∈AH 5)->Dr (120^(ps.map Tr.AI).sum) (2^(30*(ps.map Tr.AI).sum)) (P9 (ps.map (Aw a)))
 |[],_=>⟨1,by kernel_rfl,by decide⟩
 |u::ps,g=>by
  have:=(ha.w u (g u GM)).mul (kZ ha ps fun x R=>g x (.tail _ R));rw[List.map_cons,List.map_cons,List.sum_cons,P9,Nat.mul_add,Nat.pow_add,Int.pow_add];exact this
def uJ{a b:ya}(ha:IL a)(U:IL b){t:Tr}(R:zAY){c:OC}(T:c∈Dc t):Dr (120^t.AI) (2^(30*t.AI)) (Gd a b c):=by
 obtain⟨h1,Z,Y⟩:=ik R T;have g:Dr (120^Wf c.1) (2^(30*Wf c.1)) SL:=by
  cases e:c.1 with
  |none=>exact⟨1,by kernel_rfl,by decide⟩
  |some u=>exact U.w u (Y u e)
 have:=g.mul (kZ ha c.2 Z);rw[<-Int.pow_add,<-Nat.pow_add,<-Nat.mul_add,h1]at this;exact this
def jS{a b:ya}(ha:IL a)(Z:IL b){t:Tr}(g:zAY){l:List OC}(T:l.length<=17)(h:∀c∈l,c∈Dc t):FM.Fits (l.map zu).sum 190:=by
 have U:=QV g;refine(Dr.sum (m:=120^t.AI) (c:=2^(30*t.AI)) (n:=17) (S6 _) (by rw[List.length_map];exact T) fun q R=>?_).fits (S6 _) ?_ ?_
 .obtain⟨c,Y,rfl⟩:=aQ.mp R;exact uJ ha Z g (h c Y)
 .have:2^(30*t.AI)<=2^150:=aa AT AC;have h2:17*2^(30*t.AI)<=17*2^150:=by lia
  exact aW h2 AT
 .rw[Int.natAbs_pow];exact aW (aa AT U.2) AT
def kj{a b:ya}(ha:IL a)(hb:IL b):Yh a b where
 wa:=ha.Wg
 wb:=hb.Wg
 sh:=fun {t} ht c hc=>by
  obtain⟨h1,h2,h3⟩:=ik ht hc;have hk:=QV ht;have hb1:FM.Fits SL (31*Wf c.1+1):=by
   cases e:c.1 with
   |none=>exact show FM.Fits 1 1 from⟨by decide,by decide⟩
   |some u=>exact(hb.f (h3 u e)).mono (Nat.le_succ _)
  have:=bw ha c.2 ((Dd b c.1).num,zBb) (31*Wf c.1+1) h2 hb1.1 hb1.d;have h4:2^(31*Wf c.1+1+31*(c.2.map Tr.AI).sum)<=2^200:=aa AT AC;exact⟨aI this.1 h4,Nat.lt_of_lt_of_le this.2 h4⟩
abbrev Mon:=List Nat
abbrev Di:=List (Mon×Int)
def D6(x:Tu):Mon->Rat
 |[]=>1
 |i::m=>x i*D6 x m
def Bt(x:Tu):Di->Rat
 |[]=>0
 |t::p=>(t.2:Rat)*D6 x t.1+Bt x p
def Uh(a:Nat):Mon->Mon
 |[]=>[a]
 |b::m=>if a<=b then a::b::m else b::Uh a m
def ZH(x:Tu)(a:Nat):∀m:Mon,D6 x (Uh a m)=x a*D6 x m
 |[]=>rfl
 |b::m=>by
  unfold Uh;split
  .rfl
  .show x b*D6 x (Uh a m)=x a*(x b*D6 x m);rw[ZH x a m,<-Rat.mul_assoc,<-Rat.mul_assoc,Rat.mul_comm (x b)]
def mulM:Mon->Mon->Mon
 |[],n=>n
 |a::m,n=>Uh a (mulM m n)
def ZJ(x:Tu):∀m n:Mon,D6 x (mulM m n)=D6 x m*D6 x n
 |[],n=>by show D6 x n=1*D6 x n;rw[Rat.one_mul]
 |a::m,n=>by
  show D6 x (Uh a (mulM m n))=x a*D6 x m*D6 x n;rw[ZH,ZJ x m n,Rat.mul_assoc]
def Nx(m:Mon)(c:Int):Di->Di
 |[]=>if c=0 then [] else [(m,c)]
 |(n,d)::p=>if m=n then(if c+d=0 then p else(n,c+d)::p) else(n,d)::Nx m c p
def Ye:((0:Int):Rat)=0:=rfl
def oE(a b:Int):((a+b:Int):Rat)=(a:Rat)+(b:Rat):=Rat.intCast_add a b
def nM(a b:Int):((a*b:Int):Rat)=(a:Rat)*(b:Rat):=Rat.intCast_mul a b
def SA(x:Tu)(m:Mon)(c:Int):∀p:Di,Bt x (Nx m c p)=(c:Rat)*D6 x m+Bt x p
 |[]=>by
  unfold Nx;split
  .rename_i e;subst e;show(0:Rat)=((0:Int):Rat)*_+0;rw[Ye,Rat.zero_mul,Rat.add_zero]
  .rfl
 |(n,d)::p=>by
  unfold Nx;split
  .rename_i e;subst e;have h:(c:Rat)*D6 x m+Bt x ((m,d)::p)=((c+d:Int):Rat)*D6 x m+Bt x p:=by
    show(c:Rat)*D6 x m+((d:Rat)*D6 x m+Bt x p)=_;rw[<-Rat.add_assoc,<-Rat.add_mul,oE]
   rw[h];split
   .rename_i e;rw[e,Ye,Rat.zero_mul,Rat.zero_add]
   .rfl
  .show(d:Rat)*D6 x n+Bt x (Nx m c p)=_;rw[SA x m c p];show _=(c:Rat)*D6 x m+((d:Rat)*D6 x n+Bt x p);rw[<-Rat.add_assoc,<-Rat.add_assoc,Rat.add_comm (_*_) (_*_)]
def Jm:Di->Di->Di
 |[],q=>q
 |t::p,q=>Nx t.1 t.2 (Jm p q)
def Ql(x:Tu):∀p q:Di,Bt x (Jm p q)=Bt x p+Bt x q
 |[],q=>by show Bt x q=0+_;rw[Rat.zero_add]
 |t::p,q=>by
  show Bt x (Nx t.1 t.2 (Jm p q))=(t.2:Rat)*D6 x t.1+Bt x p+Bt x q;rw[SA,Ql x p q,Rat.add_assoc]
def Ry(m:Mon)(c:Int):Di->Di
 |[]=>[]
 |t::p=>Nx (mulM m t.1) (c*t.2) (Ry m c p)
def QY(x:Tu)(m:Mon)(c:Int):∀p:Di,Bt x (Ry m c p)=(c:Rat)*D6 x m*Bt x p
 |[]=>by show(0:Rat)=_*0;rw[Rat.mul_zero]
 |t::p=>by
  show Bt x (Nx (mulM m t.1) (c*t.2) (Ry m c p))=_;rw[SA,QY x m c p,ZJ,nM];show _=(c:Rat)*D6 x m*zEf;rw[Rat.mul_add]
  congr 1
  rw[Rat.mul_assoc,Rat.mul_assoc,<-Rat.mul_assoc (t.2:Rat),Rat.mul_comm (t.2:Rat) (D6 x m),Rat.mul_assoc]
def Mv:Di->Di->Di
 |[],_=>[]
 |t::p,q=>Jm (Ry t.1 t.2 q) (Mv p q)
def UC(x:Tu):∀p q:Di,Bt x (Mv p q)=Bt x p*Bt x q
 |[],q=>by show(0:Rat)=0*_;rw[Rat.zero_mul]
 |t::p,q=>by
  show Bt x (Jm (Ry t.1 t.2 q) (Mv p q))=zEf*Bt x q;rw[Ql,QY,UC x p q,Rat.add_mul]
def eE(p:Di):Di:=Ry [] (-1) p
def oB(x:Tu)(p:Di):Bt x (eE p)=- Bt x p:=by
 unfold eE;rw[QY];show((-1:Int):Rat)*1*Bt x p=_;rw[Rat.mul_one,show((-1:Int):Rat)=-1 from rfl,Rat.neg_mul,Rat.one_mul]
def Qb:List Di->Di
 |[]=>[([],1)]
 |p::l=>Mv p (Qb l)
def WT(x:Tu):∀l:List Di,Bt x (Qb l)=P9 (l.map (Bt x))
 |[]=>by show((1:Int):Rat)*1+0=1;rw[Rat.mul_one,Rat.add_zero];rfl
 |p::l=>by
  show Bt x (Mv p (Qb l))=Bt x p*P9 (l.map (Bt x));rw[UC,WT x l]
def Wq:List Di->Di
 |[]=>[]
 |p::l=>Jm p (Wq l)
def b0(x:Tu):∀l:List Di,Bt x (Wq l)=(l.map (Bt x)).sum
 |[]=>rfl
 |p::l=>by
  show Bt x (Jm p (Wq l))=_;rw[Ql,b0 x l,List.map_cons,List.sum_cons]
abbrev Ps:=List Di
def HL(A:Ps)(t:Tr):Di:=A.getD ((AH 5).idxOf t) []
def bP(B:Ps):Option Tr->Di
 |none=>[([],1)]
 |some t=>HL B t
def OD(A B:Ps)(t:Tr):Di:=Wq ((Dc t).map fun c=>Mv (bP B c.1) (Qb (c.2.map (HL A))))
def b6(n:Nat)(x:Tu)(A:Ps)(a:ya):Prop:=∀t∈AH n,Aw a t=Bt x (HL A t)
def b6.b{n:Nat}{x:Tu}{B:Ps}{b:ya}(h:b6 n x B b){k:LT}(R:k∈FJ n++[none]):Dd b k=Bt x (bP B k):=by
 cases k with
 |none=>show(1:Rat)=((1:Int):Rat)*1+0;rw[Rat.mul_one,Rat.add_zero];rfl
 |some t=>
  refine h t ?_;rcases bA.mp R with z|z
  .obtain⟨u,g,e⟩:=aQ.mp z;cases e;exact g
  .simp at z
def ZO{n:Nat}(hn:n<=5){x:Tu}{A B:Ps}{a b:ya}(ha:b6 n x A a)(Z:b6 n x B b){t:Tr}(T:t∈AH n):Ed a b t=Bt x (OD A B t):=by
 obtain⟨i,hi⟩:=ai.mp T;unfold Ed OD;rw[b0,List.map_map]
 congr 1
 refine aY fun c Y=>?_;obtain⟨R,g,_⟩:=UN hn hi c Y;show Dd b c.1*P9 zFz=Bt x (Mv (bP B c.1) (Qb (c.2.map (HL A))));rw[UC,WT,<-Z.b R,List.map_map]
 congr 2
 exact aY fun p U=>ha p (g p U)
def A2(n:Nat)(x:Tu)(A:Ps):ya:=(AH n).map fun t=>Bt x (HL A t)
def SV{n:Nat}(hn:n<=5)(x:Tu)(A:Ps):b6 n x A (A2 n x A):=fun t g=>by
 obtain⟨i,hi⟩:=ai.mp g;refine T9 (My hn hi) ?_;unfold A2;rw[List.getElem?_map,hi]
 rfl
def cm{n:Nat}(hn:n<=5)(x:Tu)(A:Ps):(A2 n x A).length=CT n:=by unfold A2;rw[List.length_map,(Ea n hn).1]
def Il(i:Nat):Nat:=((AH 5).getD i .nil).AI
def kM:Mon->Nat
 |[]=>0
 |i::m=>Il i+kM m
structure UA(x:Tu):Prop where
 s:∀i,Dr (120^Il i) (2^(22*Il i)) (x i)
def VN{x:Tu}(g:UA x):∀m:Mon,Dr (120^kM m) (2^(22*kM m)) (D6 x m)
 |[]=>⟨1,by kernel_rfl,by decide⟩
 |i::m=>by
  have:=(g.s i).mul (VN g m);rw[D6,kM,Nat.mul_add,Nat.pow_add,Int.pow_add];exact this
def WC(p:Di):Nat:=(p.map fun t=>t.2.natAbs).sum
def VE{x:Tu}(g:UA x){k:Nat}:∀ {p:Di},(∀t∈p,kM t.1=k)->Dr (120^k) (WC p*2^(22*k)) (Bt x p)
 |[],_=>.zero
 |t::p,h=>by
  have T:=VN g t.1;rw[h t GM]at T;have Y:Dr 1 t.2.natAbs (t.2:Rat):=⟨t.2,(FM.Dg (t.2:Rat)).symm,Nat.le_refl _⟩;have R:=Y.mul T;rw[Int.one_mul]at R;have:=R.add (S6 _) (VE g (p:=p) fun u U=>h u (.tail _ U));show Dr (120^k) (WC (t::p)*2^(22*k)) zEf;refine this.mono (Nat.le_of_eq ?_);unfold WC;rw[List.map_cons,List.sum_cons,Nat.add_mul]
def Oq(p:Di)(k:Nat):Bool:=(p.all fun t=>decide (kM t.1=k))&&decide (WC p*2^(22*k)<=2^(30*k))
def Y9{p:Di}{k:Nat}(h:Oq p k=true):∀t∈p,kM t.1=k:=by
 unfold Oq at h;rw[Bool.and_eq_true]at h;exact fun t g=>aP (aL.mp h.1 t g)
def iA{x:Tu}(g:UA x){p:Di}{k:Nat}(h:Oq p k=true):Dr (120^k) (2^(30*k)) (Bt x p):=by
 have R:=Y9 h;unfold Oq at h;rw[Bool.and_eq_true]at h;exact(VE g R).mono (aP h.2)
def qh{n:Nat}(hn:n<=5){x:Tu}(T:UA x){A:Ps}(h:∀t∈AH 5,Oq (HL A t) t.AI=true):IL (A2 n x A):=by
 have U:=cm hn x A;have Y:=Nv hn;refine⟨by lia,fun t R=>?_⟩;by_cases z:t∈AH n
 .rw[SV hn x A t z];exact iA T (h t R)
 .have:Aw (A2 n x A) t=0:=by
   unfold Aw;have g:=bT.mpr R;have e:(AH 5)[(AH 5).idxOf t]? = some t:=by rw[List.getElem?_eq_getElem g,List.getElem_idxOf g]
   rw[List.getD_eq_getElem?_getD,List.getElem?_eq_none]
   .rfl
   .rw[U,<-(Ea n hn).1];refine Nat.le_of_not_lt fun y=>z ?_;exact iK hn RW (Ux R y)
  rw[this];exact .zero
def dJ(k:Nat):Ps:=(List.range 17).map fun i=>[([i+k],1)]
def vA(n:Nat){x:Tu}{k:Nat}{ws:ya}(R:ws.length<=17)(g:∀i,i<17->x (i+k)=ws.getD i 0):b6 n x (dJ k) ws:=fun t _=>by
 unfold Aw HL dJ;by_cases h:(AH 5).idxOf t<17
 .rw[List.getD_eq_getElem?_getD (l:=List.map _ _),List.getElem?_map,List.getElem?_range h];show _=((1:Int):Rat)*(x ((AH 5).idxOf t+k)*1)+0;rw[Rat.add_zero,Rat.mul_one,show((1:Int):Rat)=1 from rfl,Rat.one_mul,g _ h]
 .rw[List.getD_eq_getElem?_getD (l:=List.map _ _),List.getElem?_eq_none (by rw[List.length_map,List.length_range];lia),List.getD_eq_getElem?_getD,List.getElem?_eq_none AC]
  rfl
def Wh(f:Tr->Di):Ps:=(AH 5).map f
def eJ(f:Tr->Di){t:Tr}(R:zAY):HL (Wh f) t=f t:=by
 unfold HL Wh;have g:=bT.mpr R;rw[List.getD_eq_getElem?_getD,List.getElem?_map,List.getElem?_eq_getElem g,List.getElem_idxOf g]
 rfl
def cL(A B:Ps):Ps:=Wh (OD A B)
def sD{n:Nat}(hn:n<=5)(x:Tu)(A B:Ps):(AH n).map (Ed (A2 n x A) (A2 n x B))=A2 n x (cL A B) :=
 aY fun t g=>by
  rw[ZO hn (SV hn x A) (SV hn x B) g];show _=Bt x (HL (Wh (OD A B)) t);rw[eJ _ (FX hn g)]
def q9(p q:Di):Bool:=decide (Jm p (eE q)=[])
def uH{p q:Di}(h:q9 p q=true)(x:Tu):Bt x p=Bt x q:=by
 have e:=bJ (Bt x) (aP h);rw[Ql,oB]at e;have e:Bt x p + - Bt x q=0:=e;rw[<-Rat.sub_eq_add_neg]at e;have:=bJ (fun r=>r+Bt x q) e
 simpa[Rat.sub_add_cancel,Rat.zero_add]using this
def xG{n:Nat}(hn:n<=5){A B:Ps}(h:((AH 5).all fun t=>q9 (HL A t) (HL B t))=true)(x:Tu):A2 n x A=A2 n x B :=
 aY fun t g=>uH (aL.mp h t (FX hn g)) x
def hV{n:Nat}(hn:n<=5){A B:Ps}(h:((AH 5).all fun t=>decide (OD A B t=[]))=true)(x:Tu):∀t∈AH n,Ed (A2 n x A) (A2 n x B) t=0:=fun t g=>by
 rw[ZO hn (SV hn x A) (SV hn x B) g,of_decide_eq_true (aL.mp h t (FX hn g))]
 rfl
def xr(V U:Ps)(t:Tr):Di:=eE (Wq (((Dc t).filter fun c=>decide (c.1≠some t)).map fun c=>Mv (bP U c.1) (Qb (c.2.map (HL V)))))
def vG(V:Ps):Ps:=(AH 5).foldl (fun U t=>U++[xr V U t]) []
def XU{α:Type}{i:Nat}{f:yK}{R:yL}{fs:yJ}{δ:Dv}{fr:yg}{zs:lX}{a g:α->PD}{p:α->Bool}(hx:fs δ=some (zs.map a))(hl:zs.length<=Dz) (T:∀z∈zs,R lv=some (p z))(h:∀z∈zs,p z=true->f lv=some (g z)):CS (Ce i) R f fr fs δ=some ((zs.filter p).map g):=by
 unfold CS;rw[hx,Option.bind_some];have:∀zs:List α,(∀z∈zs,R lv=some (p z))->(∀z∈zs,p z=true->f lv=some (g z))->L2.collect (Gb (Ce i) R f zAj) (zs.map a)=some ((zs.filter p).map g):=fun zs=>by
  induction zs with
  |nil=>intro _ _;rfl
  |cons z zs Z=>
   intro T h;rw[List.map_cons];unfold L2.collect;rw[Z (fun y Y=>T y (.tail _ Y)) fun y Y=>h y (.tail _ Y)];cases U:p z with
   |true=>
    have e:Gb (Ce i) R f zAj (a z)=some (some (g z)):=by
     unfold Gb Ce;rw[Option.bind_some];show(R _).bind _=_;rw[T z GM,U,Option.bind_some,if_pos rfl,h z GM U]
     rfl
    rw[e,List.filter_cons_of_pos U];rfl
   |false=>
    have e:Gb (Ce i) R f zAj (a z)=some none:=by
     unfold Gb Ce;rw[Option.bind_some];show(R _).bind _=_;rw[T z GM,U,Option.bind_some,if_neg AT]
    rw[e,List.filter_cons_of_neg (by rw[U];decide)];rfl
 rw[this zs T h,Option.bind_some,Kz,if_pos (by rw[List.length_map];exact aT zEg hl)]
def sk:(K5.all fun k=>(AH 5).all fun t=>match EO true (Cp k) zBD with|some (.bool b)=>b==decide (k≠some t)|_=>false)=true:=by decide +kernel
def qC{k:LT}(R:k∈K5){t:Tr}(g:zAY):EO true (Cp k) zBD=some (.bool (decide (k≠some t))):=by
 have:=aL.mp (aL.mp sk k R) t g;split at this
 .rename_i b e;rw[e,eq_of_beq this]
 .cases this
def nh:((AH 5).all fun t=>decide ((Dc t).filter (fun c=>decide (c.1=some t))=[(some t,[])])&&(Dc t).all fun c=>match c.1 with|none=>true|some u=>decide ((AH 5).idxOf u<=(AH 5).idxOf t))=true:=by decide +kernel
def d9{t:Tr}(R:zAY):(Dc t).filter (fun c=>decide (c.1=some t))=[(some t,[])]/\∀c∈Dc t,∀u,c.1=some u->(AH 5).idxOf u<=(AH 5).idxOf t:=by
 have:=aL.mp nh t R;rw[Bool.and_eq_true]at this;refine⟨aP this.1,fun c T u g=>?_⟩;have:=aL.mp this.2 c T;rw[g]at this;exact aP this
def Oh{α:Type}(p:α->Bool)(f:α->Rat):∀l:List α,(l.map f).sum=((l.filter p).map f).sum+((l.filter fun x=>!p x).map f).sum
 |[]=>by show(0:Rat)=0+0;rw[Rat.add_zero]
 |x::l=>by
  rw[List.map_cons,List.sum_cons,Oh p f l];cases h:p x with
  |true=>rw[List.filter_cons_of_pos h,List.filter_cons_of_neg (by simp[h]),List.map_cons,List.sum_cons,Rat.add_assoc]
  |false=>rw[List.filter_cons_of_neg (by simp[h]),List.filter_cons_of_pos (by simp[h]),List.map_cons,List.sum_cons,<-Rat.add_assoc,<-Rat.add_assoc,Rat.add_comm (f x)]
abbrev rest(t:Tr):List OC:=(Dc t).filter fun c=>decide (c.1≠some t)
def jV(a b:ya){t:Tr}(g:zAY)(h:Ed a b t=0):((rest t).map zu).sum * -1=Aw b t:=by
 have e:=Oh (fun c:OC=>decide (c.1=some t)) zu (Dc t);rw[(d9 g).1]at e;have U:((Dc t).filter fun x=>!decide (x.1=some t))=rest t:=List.filter_congr fun c _=>by simp
 rw[U]at e;have T:(([(some t,[])]:List OC).map zu).sum=Aw b t:=by
  show Aw b t*1+0=_;rw[Rat.mul_one,Rat.add_zero]
 rw[T]at e;unfold Ed at h;rw[h]at e;generalize ((rest t).map zu).sum=s at e;have:s=- Aw b t:=by
  have R:s=(Aw b t+s)-Aw b t:=by rw[Rat.add_comm,Rat.add_sub_cancel]
  rw[R,<-e,Rat.sub_eq_add_neg,Rat.zero_add]
 rw[this,Rat.mul_neg,Rat.mul_one,Rat.neg_neg]
def Vr:∀L:List (Int×Int),Mq (L.map Ji)=true
 |[]=>rfl
 |q::L=>by rw[List.map_cons,Mq,Vr L];rfl
noncomputable abbrev eP(R g:AD):List PD->Option Xr:=CA A9 mT NC KG (Hv g) (Ez R)
def wH{n:Nat}(hn:n<=5){a b:ya}(ha:zEF)(hb:zBM)(F:Yh a b)(h0:zAv)(hs:∀t∈AH 5,FM.Fits ((rest t).map zu).sum 190)(C1 C2:AD):Hz A9 mT NC KG (Hv C2) (Ez C1) [.d yX,.no,.no,.no,.no,.no]=some (.inl (.rn (b.map AX))):=by
 have tl:=(Ea n hn).1;have h17:=Nv hn;unfold Hz;refine J4 (δ':=[.d yX,.d ge,.no,.no,.no,.no]) ?_ ?_
 .have e:CL (DV (CL zGY (Ez C1)) zDj) (Hv C2) [.d yX,.no,.no,.no,.no,.no]=some (.inl ge):=by
   have e1:CL zGY (Ez C1) [.d yX,.no,.no,.no,.no,.no]=some (.inl Uf):=Ly hn ha C1;have e2:DV (CL zGY (Ez C1)) zDj [.d yX,.no,.no,.no,.no,.no]=some (.inl [.int (n:Nat)]):=by unfold DV;rw[e1];rfl
   unfold CL at e2 ⊢;rw[e2];exact Qc hn C2
  show(CL _ _ _).map _=_;rw[e]
  rfl
 refine Sw ?_;have z1:∀(Z l3 l4 R:L),Wz 2 (AB Kv Do) [.d yX,.d ge,Z,l3,l4,R]=some (.nx [.d yX,.d ge,.own (.GU ut),l3,l4,R]):=fun _ _ _ _=>by
  show(gb ge yX).map _=_;rw[cM hn ha];rfl
 refine An (z1 _ _ _ _) ?_;refine An (δ':=[.d yX,.d ge,.own (.GU ut),.own (.GU (CQ b [none])),.no,.no]) rfl ?_;refine OE (xs:=(AH n).map tD) (fun i δ=>∃Z l4 R,δ=[.d yX,.d ge,Z,.own (.GU (CQ b QD)),l4,R]/\rA ut Z/\cW R=true) ?_ ⟨_,.no,.no,rfl,.inl rfl,rfl⟩ (fun i x δ hx hI=>?_) fun δ' hI=>?_
 .show some kS=_;rw[G7]
 .obtain⟨Z,l4,R,rfl,hh,hn5⟩:=hI;rw[List.getElem?_map]at hx;obtain⟨t,Y,rfl⟩:=aC.mp hx;have hi:i<(AH n).length:=(aD.mp Y).1;have ht5:=My hn Y;have hm:=aO ht5;have htn:=aO Y;have T:=T6 hm;have el:=UN hn Y;have hlen:=T.len;have U:∀q∈none::((AH n).take i).map some,q∈K5:=fun q hq=>by
   rcases aM.mp hq with rfl|hq
   .exact aV _ GM
   .obtain⟨u,hu,rfl⟩:=aQ.mp hq;exact bQ _ (ay (FX hn (bW hu)))
  have hrest:∀c∈Dc t,c.1≠some t->c.1∈none::((AH n).take i).map some:=fun c hc hne=>by
   cases e:c.1 with
   |none=>exact .head _
   |some u=>
    refine .tail _ (ay ?_);have h5:=(ik hm hc).2.2 u e;have hle:=(d9 hm).2 c hc u e;rw[Qh ht5]at hle;have hlt:(AH 5).idxOf u<i:=by
     rcases Nat.lt_or_ge ((AH 5).idxOf u) i with z|z
     .exact z
     .have hlu:=bT.mpr h5;have e2:(AH 5)[(AH 5).idxOf u]? = some u:=by rw[List.getElem?_eq_getElem hlu,List.getElem_idxOf hlu]
      rw[show(AH 5).idxOf u=i by lia,ht5]at e2;cases e2;exact absurd e hne
    obtain⟨us,hu⟩:=QI n (5-n);rw[show n+(5-n)=5 by lia]at hu;have:=Ux h5 hlt
    rwa [hu,List.take_append_of_le_length (bG hi)]at this
  refine⟨[.d yX,.d ge,Z,.own (.GU (CQ b QD)),.d zBD,R],rfl,?_⟩;have e5:SK 2 (CM 5 (WG 3 (Hh zCS (CO zBl (Ai DB Kv KM) zBw) zFq [none,none,some 2,some 3,some 4] (Dy (AU KG (AB zBw AG)))))) [.d yX,.d ge,Z,.own (.GU (CQ b QD)),.d zBD,R]
    = some (.nx [.d yX,.d ge,.d (Bg ut),.own (.GU (CQ b QD)),.d zBD,.d (.list NZ)]):=by
   show CM 5 _ (GD 2 _)=_;rw[iw hh];refine(Ct (y:=.list NZ) (lq (kvs:=CQ b QD) rfl ?_ (Vr _) ?_)).trans rfl
   .show(CS _ _ _ _ _ _).map PyData.list=_;rw[XU (zs:=Dc t) (a:=MY) (p:=fun c=>decide (c.1≠some t)) (g:=fun c:OC=>Ji (FN SL zFz)) zCz (by unfold Dz;lia) (fun c hc=>?_) fun c hc hp=>?_]
    .rw[List.map_map];rfl
    .exact Cu (x:=Cp c.1) (y:=tD t) (A0 (x:=MY c) (y:=.int 0) rfl rfl rfl) rfl (qC (ko hn _ (el c hc).1) hm)
    .obtain⟨k1,k2,k3⟩:=el c hc;exact Aj (xs:=[MY c,Bg ut,Bg (CQ b QD)]) rfl (WO (Tg hn) U (hrest c hc (aP hp)) (fun p hp=>ay (k2 p hp)) F.wa (gf F _) k3)
   .unfold alone;show(true&&(true&&(true&&(true&&(true&&(cW R&&true))))))=true;rw[hn5];rfl
  refine lC e5 ?_;have hnew:(some t:LT) ∉ none::((AH n).take i).map some:=fun z=>by
   rcases aM.mp z with z|z
   .cases z
   .obtain⟨u,hu,e⟩:=aQ.mp z;cases e;refine j6 ht5 ?_;obtain⟨us,hu'⟩:=QI n (5-n);rw[show n+(5-n)=5 by lia]at hu';rw[hu',List.take_append_of_le_length (bG hi)];exact hu
  have hrl:(rest t).length<=17:=aT zEg hlen;have tot:NC [.list NZ]=some (AX ((rest t).map zu).sum):=by
   refine(Zj (by rw[List.length_map];lia) fun q hq=>?_).trans ?_
   .obtain⟨c,hc,rfl⟩:=aQ.mp hq;have:=F.sh hm c (List.mem_filter.mp hc).1;exact⟨P6 _ _ zHI,this.1,this.2⟩
   .rw[List.map_map]
    congr 3
    exact aY fun c _=>Wx _ _
  have tm:mT [AX ((rest t).map zu).sum,AX (-1)]=some (AX (Aw b t)):=by
   refine(lM ((hs t hm).mono) ⟨by decide,by decide⟩).trans ?_;rw[jV a b hm (h0 t htn)]
  refine⟨[.d yX,.d ge,.d (Bg ut),.own (.GU (CQ b (none::((AH n).take M2).map some))),.d zBD,.d (.list NZ)],((ei (k:=some t) (kvs:=CQ b QD) (y:=AX (Aw b t)) (Aj (xs:=[AX ((rest t).map zu).sum,AX (-1)]) (BI (Aj (xs:=[.list NZ]) rfl tot) (BI rfl rfl)) tm) rfl rfl (eK U (bQ _ (ay hm))) (by rw[List.length_map,List.length_cons,List.length_map,List.length_take];lia)).trans ?_),_,_,_,rfl,.inr rfl,rfl⟩;rw[YI hnew];have:CQ b (none::((AH n).take M2).map some)=CQ b QD++[(some t,AX (Aw b t))]:=by
   rw[take_snoc Y,List.map_append,<-List.cons_append,CQ,List.map_append]
   rfl
  rw[this]
  rfl
 .obtain⟨Z,l4,R,rfl,hh,_⟩:=hI;rw[List.length_map,List.take_length];have U:∀q∈none::(AH n).map some,q∈K5:=fun q hq=>by
   rcases aM.mp hq with rfl|hq
   .exact aV _ GM
   .exact Tg hn q hq
  have c:CS zCS EX (Ai J7 zGE Kv) [none,none,some 3] (Dy Kv) [.d yX,.d ge,Z,.d (Bg zDc),l4,R]=some ((AH n).map fun t=>AX (Aw b t)):=by
   refine QU (zs:=AH n) (a:=tD) ?_ (by rw[tl];unfold Dz;lia) fun t ht=>?_
   .show some kS=_;rw[G7]
   .have hk:some t∈none::(AH n).map some:=.tail _ (ay ht);exact A0 (x:=Bg zDc) (y:=tD t) rfl rfl (UT (k:=some t) (eK U (U _ hk)) (WD hk))
  show(CS _ _ _ _ _ [.d yX,.d ge,Z,.d (Bg zDc),l4,R]).map _=_;rw[c,show((AH n).map fun t=>AX (Aw b t))=((AH n).map (Aw b)).map AX by rw[List.map_map];rfl,WJ hn hb]
  rfl
def tU{n:Nat}(hn:n<=5){a b:ya}(ha:zEF)(Z:zBM)(sa:IL a)(g:IL b)(h0:zAv)(U T:AD):eP U T [Ak a]=some (.inl (Ak b)) :=
 UK rfl (wH hn ha Z (kj sa g) h0 (fun t R=>jS sa g R (aT zEg (T6 R).len) fun c Y=>(List.mem_filter.mp Y).1) U T)
def XQ{p:Rat}{n:Nat}(h:FM.Fits p n):∀k:Nat,FM.Fits (p^k) (n*k+1)
 |0=>⟨by rw[Rat.num_pow,Int.pow_zero,Nat.mul_zero];decide,by rw[Rat.den_pow,Nat.pow_zero,Nat.mul_zero];decide⟩
 |k+1=>by
  rw[Rat.pow_succ];have:=(XQ h k).times h;rw[show n*RJ+1=n*k+1+n by rw[Nat.mul_succ];lia];exact this
def um{p:Rat}(g:FM.Fits p 10){k:Nat}(T:k<=10):CP YC [AX p,.int (k:Nat)]=some (AX (p^k)):=by
 refine Cw rfl ?_;unfold Pp;have e:∀b:Int,b.natAbs<2^10->YC [.int b,.int (k:Nat)]=some (.int (b^k)):=fun b R=>by
  refine(if_pos ⟨R,by lia,by lia⟩).trans ?_;rw[Int.toNat_natCast]
 refine F9 ((NW (BI (Aj (xs:=[.int p.num,.int (k:Nat)]) rfl (e _ g.1)) (BI (Aj (xs:=[.int (p.den:Int),.int (k:Nat)]) rfl (e _ g.d)) rfl)) zK).trans ?_);unfold AX;rw[Rat.num_pow,Rat.den_pow,Int.natCast_pow]
def yC:∀t∈AH 5,AW 9 [tD t]=some (.int (t.AI:Nat)):=by
 have h:((AH 5).all fun t=>match AW 9 [tD t]with|some (.int i)=>decide (i=(t.AI:Int))|_=>false)=true:=by decide +kernel
 intro t g;have:=aL.mp h t g;split at this
 .rename_i i e;rw[e,of_decide_eq_true this]
 .cases this
noncomputable abbrev fB(R g:AD):List PD->Option Xr:=Ay (CP YC) mT (AW 9) (Hv g) (Ez R)
def Mr(n:Nat)(ws:ya)(p:Rat):ya:=((AH n).zip ws).map fun z=>z.2*p^z.1.AI
def Vq{n:Nat}(hn:n<=5){ws:ya}(hl:zAX)(hw:∀q∈ws,FM.Fits q 300){p:Rat}(Z:FM.Fits p 10)(g R:AD):fB g R [Ak ws,AX p]=some (.inl (Ak (Mr n ws p))):=by
 refine UK rfl ?_;unfold K6;have h17:CT n<=17:=by rcases n with _|_|_|_|_|_|n<;>first|decide|lia
 refine J4 (δ':=[.d zCJ,.d (AX p),.d ge]) ?_ ?_
 .have e:CL (DV (CL zGY (Ez g)) zDj) (Hv R) [.d zCJ,.d (AX p),.no]=some (.inl ge):=by
   have e1:CL zGY (Ez g) [.d zCJ,.d (AX p),.no]=some (.inl Uf):=Ly hn hl g;have e2:DV (CL zGY (Ez g)) zDj [.d zCJ,.d (AX p),.no]=some (.inl [.int (n:Nat)]):=by unfold DV;rw[e1];rfl
   unfold CL at e2 ⊢;rw[e2];exact Qc hn R
  show(CL _ _ _).map _=_;rw[show CL (DV (CL zGY (Ez g)) zDj) (Hv R) (Ip zFF [Ak ws,AX p])=_ from e]
  rfl
 .have e:CS (Fo 1 2) EX zHQ [none,none,none,some 1] (HK zip2 (AB zGE Do)) [.d zCJ,.d (AX p),.d ge]=some (((AH n).zip ws).map fun z=>AX (z.2*p^z.1.AI)):=by
   refine eU (a:=fun z=>.tuple (L2.BS z.1)) (b:=fun z=>AX z.2) ?_ ?_ fun z U=>?_
   .show some (Rl kS zCb)=_;rw[G7,zip_map]
   .rw[List.length_zip];unfold Dz
    lia
   .have Y:=(List.of_mem_zip U).1;have T:=(List.of_mem_zip U).2;have hk:=(Ea n hn).2 _ Y;refine Aj (xs:=[AX z.2,AX (p^z.1.AI)]) (BI rfl (BI (Aj (xs:=[AX p,.int (z.1.AI:Nat)]) (BI rfl (BI (Aj (xs:=[.tuple (L2.BS z.1)]) rfl (yC _ (FX hn Y))) rfl)) (um Z AC)) rfl)) ?_;exact lM ((hw _ T).mono) ((XQ Z _).mono AC)
  have e':Ma (CS (Fo 1 2) EX zHQ [none,none,none,some 1] (HK zip2 (AB zGE Do))) [.d zCJ,.d (AX p),.d ge]=some (.rn ((Mr n ws p).map AX)):=by
   show(CS _ _ _ _ _ _).map _=_;rw[e];unfold Mr;rw[List.map_map];rfl
  exact Sw e'
def Ll(n:Nat)(ws:ya):ya:=Mr n ws (-1)
noncomputable abbrev kn(R g:AD):List PD->Option Xr:=Ba (fB R g) (eP R g)
def eY{n:Nat}(hn:n<=5){a b:ya}(ha:zEF)(U:zBM)(sa:IL a)(T:IL b)(h0:zAv)(R g:AD):kn R g [Ak a]=some (.inl (Ak (Ll n b))):=by
 refine Qa rfl ?_;unfold Je;have e1:CL zGY (eP R g) [.d yX]=some (.inl (Ak b)):=tU hn ha U sa T h0 R g;have Y:DV (CL zGY (eP R g)) (EM zHL) [.d yX]=some (.inl [Ak b,AX (-1)]):=by unfold DV;rw[e1];rfl
 have hf:∀q∈b,FM.Fits q 300:=fun q hq=>by
  obtain⟨i,hi⟩:=ai.mp hq;have hil:i<b.length:=(aD.mp hi).1;have h17:=Nv hn;have h5:(AH 5).length=17:=(Ea 5 AT).1;have Z:(AH 5)[i]? = some ((AH 5)[i]' AC):=aH _;rw[<-T9 Z hi];exact(T.Wg _).mono
 have e:CL (DV (CL zGY (eP R g)) (EM zHL)) (fB R g) [.d yX]=some (.inl (Ak (Ll n b))):=by
  unfold CL at Y ⊢;rw[Y];exact Vq hn U hf ⟨by decide,by decide⟩ R g
 show(CL _ _ [.d yX]).map _=_;rw[e]
 rfl
def mP(U:Ps):Ps:=Wh fun t=>Ry [] (if t.AI % 2=0 then 1 else -1) (HL U t)
def b8:∀k,k<=5->(-1:Rat)^k=(((if k % 2=0 then 1 else -1:Int)):Rat):=by
 intro k h;rcases k with _|_|_|_|_|_|k
 .kernel_rfl
 .kernel_rfl
 .kernel_rfl
 .kernel_rfl
 .kernel_rfl
 .kernel_rfl
 .lia
def lA{n:Nat}(hn:n<=5)(x:Tu)(U:Ps):Ll n (A2 n x U)=A2 n x (mP U):=by
 unfold Ll Mr A2;have:∀l:List Tr,l.zip (l.map fun t=>Bt x (HL U t))=l.map fun t=>(t,Bt x (HL U t)):=fun l=>by
  induction l with
  |nil=>rfl
  |cons t l R=>rw[List.map_cons,List.zip_cons_cons,R];rfl
 rw[this,List.map_map];refine aY fun t g=>?_;have T:=(Ea n hn).2 t g;show Bt x (HL U t)*(-1)^t.AI=Bt x (HL (mP U) t);unfold mP;rw[eJ _ (FX hn g),QY,b8 _ T.2.1];show _=_*1*_;rw[Rat.mul_one,Rat.mul_comm]
abbrev tJ:MD:=Ee fW
def pQ{p q:Rat}(R:FM.Fits p 190)(g:FM.Fits q 190):tJ [AX p,AX q]=some (AX (p+q)):=by
 refine Cw rfl ?_;unfold S8;refine F9 (Aj (xs:=[.int (p.num*q.den+q.num*p.den),.int ((p.den:Int)*q.den)]) (BI (A0 (x:=.int (p.num*q.den)) (y:=.int (q.num*p.den)) (A0 (x:=.int p.num) (y:=.int (q.den:Int)) rfl rfl (Xv R.1 g.d AT)) (A0 (x:=.int q.num) (y:=.int (p.den:Int)) rfl rfl (Xv g.1 R.d AT)) rfl) zGU) ?_);refine(fQ (FM.NP p q) (aI (FM.dd R g) (aa AT AT))).trans ?_;rw[FM.qK]
def jP(p q:Rat):PyData.eqv (AX p) (AX q)=decide (p=q):=by
 by_cases h:p=q
 .subst h;rw[decide_eq_true rfl];exact Nz _ (UP p)
 .rw[decide_eq_false h];refine bX.mpr fun z=>h ?_;unfold AX at z;simp[PyData.eqv,PyData.eqvAll]at z;exact FM.mW z.1 AC
def Zk(p q:Rat):EO true (AX p) (AX q)=some (.bool (!decide (p=q))):=by
 refine(if_pos ⟨(Sh p).shaped AT,(Sh q).shaped AT⟩).trans ?_;rw[jP];rfl
def So:Option Tr->PD
 |none=>.none
 |some t=>tD t
def MQ:List Tr->List Rat->List Rat->Option Tr
 |t::ts,w::g,v::vs=>if w=v then MQ ts g vs else some t
 |_,_,_=>none
def ZM:∀ {ts:y8} {ws vs:oN} {t:Tr},MQ ts ws vs=some t->t∈ts
 |[],_,_,_,h=>by cases h
 |_::_,[],[],_,h=>by cases h
 |_::_,[],_::_,_,h=>by cases h
 |_::_,_::_,[],_,h=>by cases h
 |s::ts,w::ws,v::vs,t,h=>by
  unfold MQ at h;split at h
  .exact .tail _ (ZM h)
  .cases h;exact .head _
abbrev NJ:DF:=GH (CO zBl zBw (nm 5)) (Bb sK) C7
abbrev a7(ts:y8)(ws vs:oN)(δ:Dv):Option Ou:=Lz (YZ 3 4 5) NJ (Mb (ts.map tD) zCb (vs.map AX)) δ
def Xj{t:Tr}{ts:yc}{w v:Rat}{ws vs:ya}(a b c d e f:L)(h:w=v):a7 (t::ts) (w::ws) (v::vs) [a,b,c,d,e,f]=a7 ts ws vs [a,b,c,.d zBD,.d (AX w),.d (AX v)]:=by
 have R:NJ [a,b,c,.d zBD,.d (AX w),.d (AX v)]=some (.nx [a,b,c,.d zBD,.d (AX w),.d (AX v)]):=C9 (Cu (x:=AX w) (y:=AX v) rfl rfl ((Zk w v).trans (by rw[decide_eq_true h];rfl))) rfl;show li=_;rw[R];rfl
def fF{t:Tr}{ts:yc}{w v:Rat}{ws vs:ya}(a b c d e f:L)(h:w≠v):a7 (t::ts) (w::ws) (v::vs) [a,b,c,d,e,f]=some (.rt zBD):=by
 have R:NJ [a,b,c,.d zBD,.d (AX w),.d (AX v)]=some (.rt zBD):=KN (Cu (x:=AX w) (y:=AX v) rfl rfl ((Zk w v).trans (by rw[decide_eq_false h];rfl))) rfl;show li=_;rw[R]
def Zx:∀ {ts:y8} {ws vs:oN} {t:Tr} (a b c d e f:L),MQ ts ws vs=some t->a7 ts ws vs [a,b,c,d,e,f]=some (.rt zBD)
 |[],_,_,_,_,_,_,_,_,_,h=>by cases h
 |_::_,[],[],_,_,_,_,_,_,_,h=>by cases h
 |_::_,[],_::_,_,_,_,_,_,_,_,h=>by cases h
 |_::_,_::_,[],_,_,_,_,_,_,_,h=>by cases h
 |s::ts,w::ws,v::vs,t,a,b,c,d,e,f,h=>by
  unfold MQ at h;split at h
  .rename_i z;rw[Xj a b c d e f z];exact Zx a b c _ _ _ h
  .rename_i z;cases h;exact fF a b c d e f z
def ZI:∀ {ts:y8} {ws vs:oN} (a b c d e f:L),MQ ts ws vs=none->∃δ',a7 ts ws vs [a,b,c,d,e,f]=some (.nx δ')
 |[],_,_,_,_,_,_,_,_,_=>⟨_,rfl⟩
 |_::_,[],[],_,_,_,_,_,_,_=>⟨_,rfl⟩
 |_::_,[],_::_,_,_,_,_,_,_,_=>⟨_,rfl⟩
 |_::_,_::_,[],_,_,_,_,_,_,_=>⟨_,rfl⟩
 |s::ts,w::ws,v::vs,a,b,c,d,e,f,h=>by
  unfold MQ at h;split at h
  .rename_i z;rw[Xj a b c d e f z];exact ZI a b c _ _ _ h
  .cases h
def first_is(n:Nat)(ws vs:ya):CY [Au n,Ak ws,Ak vs]=some (So (MQ (AH n) ws vs)):=by
 refine Cw rfl ?_;unfold NK;have T:HK Ug (AB zFn (AB Kv Qy)) [.d ge,.d zCJ,.d (Ak vs),.no,.no,.no]=some (Mb ((AH n).map tD) zCb (vs.map AX)):=by
  show some (Mb kS zCb (vs.map AX))=_;rw[G7]
 have g:Ex (HK Ug (AB zFn (AB Kv Qy))) (YZ 3 4 5) NJ [.d ge,.d zCJ,.d (Ak vs),.no,.no,.no]=a7 (AH n) ws vs [.d ge,.d zCJ,.d (Ak vs),.no,.no,.no]:=by
  show(HK Ug _ _).bind _=_;rw[T];rfl
 cases h:MQ (AH n) ws vs with
 |some t=>exact He (g.trans (Zx _ _ _ _ _ _ h))
 |none=>
  obtain⟨R,k⟩:=ZI (.d ge) (.d zCJ) (.d (Ak vs)) .no .no .no h;exact An (g.trans k) rfl
def t7{a b:yL}{δ:Dv}(h:a δ=some false):Wl a b δ=some false:=by show(a δ).bind _=_;rw[h];rfl
def rj{a b:yL}{δ:Dv}{q:Option Bool}(h:a δ=some true)(k:b δ=q):Wl a b δ=q:=by show(a δ).bind _=_;rw[h];exact k
abbrev sj:MD:=BO 9
abbrev rM:MD:=Bl sj 9
abbrev kT:MD:=AW 9
abbrev ZA:MD:=BU kT 9
def wq(t:Tr):Rat:=Rat.divInt 1 (t.Kq:Int)
def iG(t:Tr):Bool:=(match rM [tD t]with|some (.int a)=>decide (a=(t.Kq:Int))|_=>false)&&(match ZA [tD t]with|some (.int a)=>decide (a=(t.Kq:Int))|_=>false)&&(match sj [tD t]with|some (.int a)=>decide (a=(t.AI:Int))|_=>false)&&(match kT [tD t]with|some (.int a)=>decide (a=(t.AI:Int))|_=>false)&&decide ((wq t).num=1)&&decide ((wq t).den=t.Kq)&&decide (t.Kq<2^13)&&SeqAt.shaped WF&&PyData.eqv WF WF
def jq:(AH 5).all iG=true:=by decide +kernel
def isInt{o:yQ}{z:Int}(h:(match o with|some (.int a)=>decide (a=z)|_=>false)=true):o=some (.int z):=by
 split at h
 .rw[of_decide_eq_true h]
 .cases h
def LV{t:Tr}(h:zAY):rM [tD t]=some (.int (t.Kq:Int))/\ZA [tD t]=some (.int (t.Kq:Int))/\sj [tD t]=some (.int (t.AI:Int))/\kT [tD t]=some (.int (t.AI:Int))/\AX (wq t)=.tuple [.int 1,.int (t.Kq:Int)]/\FM.Fits (wq t) 13/\SeqAt.shaped WF=true/\PyData.eqv WF WF=true:=by
 have:=aL.mp jq t h;unfold iG at this;simp only[Bool.and_eq_true]at this;obtain⟨⟨⟨⟨⟨⟨⟨⟨h1,h2⟩,h3⟩,Z⟩,R⟩,g⟩,T⟩,Y⟩,U⟩:=this;have R:=aP R;have g:=aP g;have T:=aP T;refine⟨isInt h1,isInt h2,isInt h3,isInt Z,?_,⟨?_,?_⟩,Y,U⟩
 .unfold AX;rw[R,g]
 .rw[R];decide
 .rw[g];exact T
abbrev Mn(n:Nat):List Rat:=(AH n).map wq
def nU{n:Nat}(h:n<=5):(Mn n).length=CT n:=by rw[List.length_map,(Ea n h).1]
def oQ{n:Nat}(h:n<=5):CT n<=85:=by
 rcases n with _|_|_|_|_|_|_|_|n<;>first|decide|lia
def nB{m:MD}{n:Nat}(hn:n<=5)(hm:∀t∈AH 5,m [tD t]=some (.int (t.Kq:Int))){δ:Dv}{fs:yJ}(U:fs δ=some kS):CS zCS EX (BA zHN) [none,none] fs δ=some ((Mn n).map AX):=by
 have key:∀ts:List Tr,(∀t∈ts,t∈AH 5)->collect (Gb zCS EX (BA zHN) (B7 [none,none] δ)) (ts.map tD)=some ((ts.map wq).map AX):=by
  intro ts g
  induction ts with
  |nil=>rfl
  |cons t ts T=>
   have R:=g t GM;have Z:BA zHN ((B7 [none,none] δ).set 1 (.d zBD))=some (AX (wq t)):=by
    rw[(LV R).2.2.2.2.1];exact NW (BI rfl (BI (Aj (xs:=[tD t]) rfl (hm t R)) rfl)) zK
   have h1:Gb zCS EX (BA zHN) (B7 [none,none] δ) zBD=some (some (AX (wq t))):=by
    unfold Gb Ce;rw[Option.bind_some];show(some true).bind _=_;rw[Option.bind_some,if_pos rfl,Z]
    rfl
   rw[List.map_cons];unfold L2.collect;rw[h1,Option.bind_some,T fun u Y=>g u (.tail _ Y)]
   rfl
 unfold CS;rw[U,Option.bind_some,G7,key _ fun t R=>FX hn R,Option.bind_some,Kz,if_pos];rw[List.length_map,nU hn];have:=oQ hn;unfold Dz
 lia
def tV{n:Nat}(hn:n<=5):Bx ZA [Au n]=some (Ak (Mn n)):=by
 refine oA rfl ?_;unfold Nj;show(CS _ _ _ _ _ _).map _=_;have:=nB (δ:=Ip zCl [Au n]) (fs:=Dy zFn) hn (fun t h=>(LV h).2.1) rfl;rw[this]
 rfl
abbrev vZ(C:AD):List PD->Option Xr:=Cb (Hv C) (Bx ZA)
def tL{n:Nat}(hn:n<=5)(C:AD):vZ C [.int (n:Nat)]=some (.inl (Ak (Mn n))):=by
 refine Qa rfl ?_;unfold Mz;have T:CL zGY (Hv C) [.d Uf]=some (.inl ge):=Qc hn C;have R:DV (CL zGY (Hv C)) zDj [.d Uf]=some (.inl [Au n]):=by
  unfold DV;rw[T]
  rfl
 have g:CL (DV (CL zGY (Hv C)) zDj) (fun U=>(Bx ZA U).map .inl) [.d Uf]=some (.inl (Ak (Mn n))):=by
  show(match DV (CL zGY (Hv C)) zDj [.d Uf]with|some (.inl xs)=>_|some (.inr C)=>_|none=>_)=_;rw[R];show(Bx ZA [Au n]).map _=_;rw[tV hn]
  rfl
 show xE _ _ [.d Uf]=_;unfold xE;rw[g]
 rfl
def vh(n:Nat):Option Tr->PD
 |none=>.tuple [.int (n:Nat),.none]
 |some t=>.tuple [.int ((t.AI:Int)-1),tD t]
abbrev sR(R g:AD):MD:=Bm CY kT (Hv g) (vZ g) (Ez R)
def uZ{n:Nat}(hn:n<=5){ws:ya}(U:zAX)(R g:AD):sR R g [Ak ws]=some (vh n (MQ (AH n) ws (Mn n))):=by
 refine Cw rfl ?_;unfold L4;refine An (Ct (y:=.int (n:Nat)) (Aj (xs:=[Ak ws]) rfl (Ii (Ly hn U R)))) ?_;refine An (Ct (y:=So (MQ (AH n) ws (Mn n))) (Aj (xs:=[Au n,Ak ws,Ak (Mn n)]) (BI (Aj (xs:=[.int (n:Nat)]) rfl (Ii (Qc hn g))) (BI rfl (BI (Aj (xs:=[.int (n:Nat)]) rfl (Ii (tL hn g))) rfl))) (first_is n ws (Mn n)))) ?_;cases h:MQ (AH n) ws (Mn n) with
 |none=>exact He (KN (Cu (x:=.none) (y:=.none) rfl rfl rfl) rfl)
 |some t=>
  have T:=LV (FX hn (ZM h));refine An (C9 (Cu (x:=tD t) (y:=.none) rfl rfl rfl) rfl) ?_;exact F9 (NW (BI (A0 (x:=.int (t.AI:Int)) (y:=.int 1) (Aj (xs:=[tD t]) rfl T.2.2.2.1) rfl rfl) (BI rfl rfl)) zK)
def sg(u:Tr):Rat:=if u.AI % 2=0 then 1 else -1
def kO(u:Tr):sg u*sg u=1:=by
 unfold sg;split<;>grind
def pW{u:Tr}(h:u.AI<=5):(-1:Rat)^u.AI=sg u:=by
 rw[b8 _ h];unfold sg;split<;>rfl
def mid(t:Tr):List OC:=(rest t).filter fun c=>!decide (c.1=none)
def Z0:((AH 5).all fun t=>decide ((rest t).filter (fun c=>decide (c.1=none))=[(none,[t])])&&(mid t).all fun c=>(match c.1 with|none=>false|some u=>decide (u∈AH 5)&&decide (u.AI<t.AI))&&c.2.all fun p=>decide (p∈AH 5)&&decide (p.AI<t.AI))=true:=by decide +kernel
def Xo(a b:ya){t:Tr}(g:zAY):Ed a b t=Aw b t+(Aw a t+((mid t).map zu).sum):=by
 have e:=Oh (fun c:OC=>decide (c.1=some t)) zu (Dc t);rw[(d9 g).1]at e;have U:((Dc t).filter fun x=>!decide (x.1=some t))=rest t:=List.filter_congr fun c _=>by simp
 rw[U]at e;have f:=Oh (fun c:OC=>decide (c.1=none)) zu (rest t);have h:=aL.mp Z0 t g;rw[Bool.and_eq_true]at h;rw[of_decide_eq_true h.1]at f;have T:(([(some t,[])]:List OC).map zu).sum=Aw b t:=by
  show Aw b t*1+0=_;rw[Rat.mul_one,Rat.add_zero]
 have R:(([(none,[t])]:List OC).map zu).sum=Aw a t:=by
  show 1*(Aw a t*1)+0=_;rw[Rat.mul_one,Rat.add_zero,Rat.one_mul]
 rw[T,f,R]at e;exact e
def rC{t:Tr}(R:zAY){c:OC}(U:c∈mid t):(∃u,c.1=some u/\u∈AH 5/\u.AI<t.AI)/\∀p∈c.2,p∈AH 5/\p.AI<t.AI:=by
 have h:=aL.mp Z0 t R;rw[Bool.and_eq_true]at h;have g:=aL.mp h.2 c U;rw[Bool.and_eq_true]at g;refine⟨?_,fun p T=>?_⟩
 .cases e:c.1 with
  |none=>rw[e]at g;simp at g
  |some u=>
   rw[e]at g;have:=g.1;rw[Bool.and_eq_true,decide_eq_true_eq,decide_eq_true_eq]at this;exact⟨u,rfl,this⟩
 .have:=aL.mp g.2 p T
  rwa [Bool.and_eq_true,decide_eq_true_eq,decide_eq_true_eq]at this
def Ua:∀n,n<=5->(∀u∈AH n,u.AI<=n)/\(∀u∈AH 5,u.AI<=n->u∈AH n)/\(AH n).Pairwise fun u v=>u.AI<=v.AI:=by decide +kernel
def Qk{n:Nat}(hn:n<=5)(f:Tr->Rat){u:Tr}(g:u∈AH n):Aw ((AH n).map f) u=f u:=by
 obtain⟨i,hi⟩:=ai.mp g;exact T9 (My hn hi) (by rw[List.getElem?_map,hi];rfl)
abbrev rL:List Rat:=(AH 5).map fun u=>sg u*wq u
def tH:((AH 5).all fun t=>decide (Ed (Mn 5) rL t=0))=true:=by decide +kernel
def jw{a b c d:ya}{t:Tr}(Y:zAY)(ha:∀u∈AH 5,u.AI<t.AI->Aw a u=Aw c u)(Z:∀u∈AH 5,u.AI<t.AI->Aw b u=Aw d u):((mid t).map zu).sum=((mid t).map (Gd c d)).sum:=by
 congr 1
 refine aY fun z T=>?_;obtain⟨⟨u,U,h1,h2⟩,R⟩:=rC Y T;unfold Gd;rw[U];show Aw b u*_=Aw d u*_;rw[Z u h1 h2]
 congr 2
 exact aY fun p g=>ha p (R p g).1 (R p g).2
section
variable{n:Nat}(hn:n<=5){a b:ya}(h0:zAv)
include hn h0
def YR{k:Nat}(ha:∀u∈AH n,u.AI<k->Aw a u=wq u)(hb:∀u∈AH n,u.AI<k->Aw b u=sg u*wq u){t:Tr}(Y:t∈AH n)(hk:t.AI=k):Aw b t+Aw a t=sg t*wq t+wq t:=by
 have R:=FX hn Y;have c1:=Xo a b R;have Z:=Xo (Mn 5) rL R;rw[h0 t Y]at c1;rw[of_decide_eq_true (aL.mp tH t R)]at Z;have T:∀u∈AH 5,u.AI<t.AI->u∈AH n:=fun u g U=>(Ua n hn).2.1 u g (by have:=(Ua n hn).1 t Y;lia);rw[jw R (c:=Mn 5) (d:=rL) (fun u g U=>by rw[ha u (T u g U) AC,Qk AT _ g]) fun u g U=>by rw[hb u (T u g U) AC,Qk AT _ g]]at c1;rw[Qk AT _ R,Qk AT _ R]at Z
 grind
def VF:∀k,(∀u∈AH n,u.AI<k->Aw a u=wq u)->∀u∈AH n,u.AI<k->Aw b u=sg u*wq u
 |0,_,u,_,h=>absurd h zCr
 |k+1,ha,u,R,h=>by
  have g:∀v∈AH n,v.AI<k->Aw a v=wq v:=fun v U Y=>ha v U AC;have T:=VF k g;rcases Nat.lt_or_ge u.AI k with z|z
  .exact T u R z
  .have:=YR hn h0 g T R AC;rw[ha u R h]at this
   grind
def UB(T:zBM){t:Tr}(g:t∈AH n)(ha:∀u∈AH n,u.AI<t.AI->Aw a u=wq u):Aw (Ll n b) t-wq t=- sg t*(Aw a t-wq t):=by
 have e:=YR hn h0 ha (VF hn h0 _ ha) g rfl;have em:Aw (Ll n b) t=Aw b t*sg t:=by
  have hm:Ll n b=(AH n).map fun u=>Aw b u*(-1)^u.AI:=by
   unfold Ll Mr
   conv=>lhs;rw[<-WJ hn T]
   have:∀l:List Tr,(l.zip (l.map (Aw b))).map (fun z=>z.2*(-1)^z.1.AI)=l.map fun u=>Aw b u*(-1)^u.AI:=fun l=>by
    induction l with
    |nil=>rfl
    |cons u l R=>rw[List.map_cons,List.zip_cons_cons,List.map_cons,List.map_cons,R]
   exact this _
  rw[hm,Qk hn _ g,pW (by have:=(Ua n hn).1 t g;lia)]
 rw[em];have:=kO t
 grind
end
def gq{l:yc}{p q:Tr->Bool}(T:l.Pairwise fun u v=>u.AI<=v.AI)(h:∀t∈l,(∀u∈l,u.AI<t.AI->p u=false)->p t=q t):l.find? p=l.find? q:=by
 have go:∀(post pre:y8),l=pre++post->(∀u∈pre,p u=false)->post.find? p=post.find? q:=fun post=>by
  induction post with
  |nil=>intro _ _ _;rfl
  |cons t post Y=>
   intro pre e U;have hl:∀u∈l,u.AI<t.AI->p u=false:=fun u g hlt=>by
    rw[e]at g T;rcases bA.mp g with z|z
    .exact U u z
    .rcases aM.mp z with rfl|z
     .lia
     .have:=(bZ.mp (List.pairwise_append.mp T).2.1).1 u z
      lia
   have Z:=h t (by rw[e];exact aV _ GM) hl;rw[List.find?_cons,List.find?_cons,<-Z];cases R:p t with
   |true=>rfl
   |false=>
    refine Y (pre++[t]) (by rw[e,List.append_assoc];rfl) fun u g=>?_;rcases bA.mp g with z|z
    .exact U u z
    .rw[List.mem_singleton.mp z];exact R
 exact go l [] rfl fun u g=>nomatch g
def Xh{l:yc}{p:Tr->Bool}(R:l.Pairwise fun u v=>u.AI<=v.AI){t:Tr}(h:l.find? p=some t):p t=true/\t∈l/\∀u∈l,u.AI<t.AI->p u=false:=by
 obtain⟨Y,as,bs,e,U⟩:=List.find?_eq_some_iff_append.mp h;refine⟨Y,List.mem_of_find?_eq_some h,fun u g T=>?_⟩;rw[e]at g R;rcases bA.mp g with z|z
 .simpa using U u z
 .rcases aM.mp z with rfl|z
  .lia
  .have:=(bZ.mp (List.pairwise_append.mp R).2.1).1 u z
   lia
def Hx(a:ya)(u:Tr):Bool:=!decide (Aw a u=wq u)
def Wv{a:ya}{u:Tr}(h:Hx a u=false):Aw a u=wq u:=by
 unfold Hx at h
 simpa using h
def qP{a:ya}{u:Tr}(h:Hx a u=true):Aw a u≠wq u:=by
 unfold Hx at h
 simpa using h
def YS(f g:Tr->Rat):∀ts:List Tr,MQ ts (ts.map f) (ts.map g)=ts.find? fun u=>!decide (f u=g u)
 |[]=>rfl
 |u::ts=>by
  show(if f u=g u then MQ ts (ts.map f) (ts.map g) else some u)=_;rw[List.find?_cons,YS f g ts];by_cases h:f u=g u
  .rw[if_pos h,decide_eq_true h];rfl
  .rw[if_neg h,decide_eq_false h];rfl
def ou{n:Nat}(hn:n<=5){a:ya}(ha:zEF):MQ (AH n) a (Mn n)=(AH n).find? (Hx a):=by
 conv=>lhs;rw[<-WJ hn ha]
 exact YS _ _ _
def gX{n:Nat}(hn:n<=5){a b:ya}(h0:zAv)(Y:zBM):(AH n).find? (Hx (Ll n b))=(AH n).find? (Hx a):=by
 refine(gq (Ua n hn).2.2 fun t T U=>?_).symm;have:=UB hn h0 Y T fun u R g=>Wv (U u R g);have Z:=kO t;unfold Hx
 congr 1
 refine decide_eq_decide.mpr ⟨fun e=>?_,fun e=>?_⟩<;>rw[e]at this<;>grind
def lZ{c b:Int}(Y:1<=c)(Z:1<=b):FR c b=(Int.lcm c b:Int):=by
 have R:FM.gi c b≠0:=Int.ne_of_gt (FM.Ln AC);obtain⟨q,g⟩:=FM.ND c b;unfold FR;rw[FM.GZ R g];have h:=Int.gcd_mul_lcm c b;have U:zBX*(Int.lcm c b:Int)=c*b:=by
  have:((Int.gcd c b*Int.lcm c b:Nat):Int)=((c*b).natAbs:Int):=by rw[h,Int.natAbs_mul]
  rw[Int.natCast_mul,Int.natAbs_of_nonneg (Int.mul_nonneg AC AC)]at this;exact this
 have T:FM.gi c b*(q*b)=FM.gi c b*(Int.lcm c b:Int):=by
  rw[U,<-Int.mul_assoc,<-g]
 exact Int.eq_of_mul_eq_mul_left R T
def ZC{n:Nat}:∀(bs:zG) (c:Int),1<=c->c ∣ (n:Int)->(∀b∈bs,1<=b/\b ∣ (n:Int))->bs.foldl FR c ∣ (n:Int)
 |[],c,_,h,_=>h
 |b::bs,c,g,h,k=>by
  obtain⟨b1,b2⟩:=k b aX;obtain⟨s1,_,_,_⟩:=OH g b1;refine ZC bs (FR c b) s1 ?_ fun y R=>k y (aU _ R);rw[lZ g b1];exact Int.ofNat_dvd.mpr (Int.lcm_dvd h b2)
def v8{d:Nat}(h0:d≠0)(g:d<=6):(d:Int) ∣ ((60:Nat):Int):=by
 match d,h0,g with
 |1,_,_=>exact⟨60,by decide⟩
 |2,_,_=>exact⟨30,by decide⟩
 |3,_,_=>exact⟨20,by decide⟩
 |4,_,_=>exact⟨15,by decide⟩
 |5,_,_=>exact⟨12,by decide⟩
 |6,_,_=>exact⟨10,by decide⟩
def fits_of{t:Tb}(s:t.Sm):t.Fits 3:=⟨fun r R q g=>(s.1 r R q g).1,fun q g=>(s.2 q g).1⟩
def vE{t:Tb}(o:t.Ok 4)(s:t.Sm):t.Wu:=u4 o AT (fits_of s) AT AT
def ud{t:Tb}(s:t.Sm):Ef t ∣ 60:=by
 refine ZC (n:=60) (Hk t t.rs.length) 1 AT ⟨60,by decide⟩ fun b R=>?_;have T:∀q:Rat,YV q->1<=(q.den:Int)/\(q.den:Int) ∣ ((60:Nat):Int):=fun q g=>⟨by have:=q.den_nz;lia,v8 q.den_nz g.2⟩;unfold Hk F5 at R;rcases bA.mp R with h|h
 .obtain⟨q,g,rfl⟩:=aQ.mp h;exact T q (s.2 q g)
 .obtain⟨l,Y,R⟩:=List.mem_flatten.mp h;obtain⟨r,U,rfl⟩:=aQ.mp Y;obtain⟨q,g,rfl⟩:=aQ.mp R;exact T q (s.1 r (bW U) q g)
def jL{t:Tb}(o:t.Ok 4)(s:t.Sm)(u:Tr):Dr (60^u.AI) (2^(21*u.AI)) (M3 t u):=by
 obtain⟨b1,_,b3⟩:=Z6 (fits_of s) o;obtain⟨c,R⟩:=ud s;have hle:Ef t<=60:=Int.le_of_dvd AT ⟨c,R⟩;have Z:1<=c:=by
  rcases Int.lt_or_le 0 c with z|z
  .exact z
  .have:=Int.mul_nonpos_of_nonneg_of_nonpos (show 0<=Ef t by lia) z
   lia
 have T:c<=60:=Int.le_of_dvd AT ⟨Ef t,by rw[Int.mul_comm];exact R⟩;have U:KU (FH t) 15:=We (k:=6) o AT (fits_of s) b1 AC b3 AT;have sz:=bq U u;have Y:((FK (FH t) u).getLast?.getD 0).natAbs<=2^(15*u.AI):=by
  cases h:(FK (FH t) u).getLast? with
  |none=>exact aq _
  |some z=>exact sz z (List.mem_of_getLast? h)
 unfold M3;have g:c^u.AI≠0:=Int.pow_ne_zero AC;refine⟨(FK (FH t) u).getLast?.getD 0*c^u.AI,?_,?_⟩
 .rw[<-Rat.divInt_mul_right g,<-Int.mul_pow,<-R]
 .rw[Int.natAbs_mul,Int.natAbs_pow,show 21*u.AI=15*u.AI+6*u.AI by lia,Nat.pow_add];refine bh Y ?_;rw[Nat.pow_mul];exact Nat.pow_le_pow_left AC _
abbrev vg(t:Tb):List Rat:=(AH 5).map (M3 t)
def xW(t:Tb)(i:Nat):Rat:=(vg t).getD i 0
def yW(t:Tb)(i:Nat):Rat:=xW t i*Rat.divInt 1 2^Il i
def fJ:∀k:Nat,Dr (2^k) 1 (Rat.divInt 1 2^k)
 |0=>⟨1,by kernel_rfl,by decide⟩
 |k+1=>by
  rw[Rat.pow_succ,Int.pow_succ];exact(fJ k).mul (d:=1) ⟨1,rfl,by decide⟩
def YQ{t:Tb}(o:t.Ok 4)(s:t.Sm)(i:Nat):Dr (60^Il i) (2^(21*Il i)) (xW t i):=by
 unfold xW;rw[List.getD_eq_getElem?_getD,List.getElem?_map];cases h:(AH 5)[i]? with
 |none=>exact .zero
 |some u=>
  have e:Il i=u.AI:=by unfold Il;rw[List.getD_eq_getElem?_getD,h];rfl
  rw[e];exact jL o s u
def uz{t:Tb}(o:t.Ok 4)(s:t.Sm):UA (yW t):=⟨fun i=>by
 have:=(YQ o s i).mul (fJ (Il i));rw[<-Int.mul_pow]at this;refine this.mono ?_;rw[Nat.mul_one];exact aa AT AC⟩
def t8{t:Tb}(o:t.Ok 4)(s:t.Sm):UA (xW t):=⟨fun i=>by
 have:=(YQ o s i).up (k:=2^Il i) (Int.pow_ne_zero AT);rw[<-Int.mul_pow,Int.natAbs_pow]at this;refine this.mono ?_;show 2^(21*Il i)*2^Il i<=_;rw[<-Nat.pow_add];exact aa AT AC⟩
def W0(p:Rat)(a:Nat):∀b:Nat,p^(a+b)=p^a*p^b
 |0=>by rw[Nat.add_zero,Rat.pow_zero,Rat.mul_one]
 |b+1=>by rw[<-Nat.add_assoc,Rat.pow_succ,Rat.pow_succ,W0 p a b,Rat.mul_assoc]
def WQ(x:Tu)(p:Rat):∀m:Mon,D6 zBx m=D6 x m*p^kM m
 |[]=>by show(1:Rat)=1*p^0;rw[Rat.pow_zero,Rat.mul_one]
 |i::m=>by
  show x i*p^Il i*D6 zBx m=x i*D6 x m*p^(Il i+kM m);rw[WQ x p m,W0]
  grind
def XF(x:Tu)(p:Rat){k:Nat}:∀ {q:Di},(∀t∈q,kM t.1=k)->Bt zBx q=Bt x q*p^k
 |[],_=>by show(0:Rat)=0*_;rw[Rat.zero_mul]
 |t::q,h=>by
  show(t.2:Rat)*D6 zBx t.1+Bt zBx q=((t.2:Rat)*D6 x t.1+Bt x q)*p^k;rw[WQ,XF x p fun u g=>h u (.tail _ g),h t GM]
  grind
abbrev pR(P:Ps):Prop:=∀t∈AH 5,Oq (HL P t) t.AI=true
def qM{n:Nat}(hn:n<=5)(t:Tb){P:Ps}(h:pR P):Mr n (A2 n (xW t) P) (Rat.divInt 1 2)=A2 n (yW t) P:=by
 unfold Mr A2;have:∀l:List Tr,l.zip (l.map fun g=>Bt (xW t) (HL P g))=l.map fun g=>(g,Bt (xW t) (HL P g)):=fun l=>by
  induction l with
  |nil=>rfl
  |cons t l R=>rw[List.map_cons,List.zip_cons_cons,R];rfl
 rw[this,List.map_map];refine aY fun u T=>?_;exact(XF (xW t) (Rat.divInt 1 2) (Y9 (h u (FX hn T)))).symm
def wo{n:Nat}(hn:n<=5)(t:Tb):A2 n (xW t) (dJ 0)=(AH n).map (M3 t):=by
 have w:=vA n (x:=xW t) (k:=0) (ws:=vg t) (by rw[List.length_map,(Ea 5 AT).1];decide) fun i _=>rfl;refine aY fun u g=>?_;rw[<-w u g];exact Qk AT _ (FX hn g)
abbrev pX:Ps:=dJ 0
abbrev pU:Ps:=vG pX
abbrev pM:Ps:=mP pU
abbrev pB:Ps:=cL pX pM
abbrev pN:Ps:=mP pB
def xo:((AH 5).all fun t=>decide (OD pX pU t=[]))=true:=by decide +kernel
def xj:((AH 5).all fun t=>decide (OD pB pN t=[]))=true:=by decide +kernel
def xt:((AH 5).all fun t=>q9 (HL (mP pN) t) (HL pB t))=true:=by decide +kernel
def xD:([pX,pU,pM,pB,pN].all fun P=>(AH 5).all fun t=>Oq (HL P t) t.AI)=true:=by decide +kernel
def cN{P:Ps}(h:P∈[pX,pU,pM,pB,pN]):pR P:=fun t g=>aL.mp (aL.mp xD P h) t g
abbrev qN(C:AD):List PD->Option Xr:=CB oh C
def pq{t:Tb}{m:Nat}(o:t.Ok m)(hm:m<=40)(C:AD):qN C [Cz t]=some (.inl .none):=by
 refine ZV (δ:=[.d (Cz t)]) rfl ?_;unfold Kx;exact cw (LW (J3 (Aj (xs:=[Cz t]) rfl (pK o hm)))) rfl
noncomputable abbrev qg(R g:AD):List PD->Option Xr:=CN (qN R) (Hv g) a8
def uV{t:Tb}(o:t.Ok 4)(h:t.Wu){n:Nat}(hn:n<=5)(R g:AD):qg R g [Cz t,.int (n:Nat)]=some (.inl (Ak ((AH n).map (M3 t)))):=by
 refine Qa rfl ?_;unfold MC;refine J4 (OS (ds:=[Cz t]) rfl (pq o AT R)) (u9 (ZL (xs:=[Cz t,Au n]) (Xw rfl (Xw (ZL (xs:=[.int (n:Nat)]) rfl (Qc hn g)) rfl)) ?_));show(a8 [Cz t,vf (AH n)]).map _=_;rw[qR h (fun u T=>FX hn T) (by rw[(Ea n hn).1];have:=Nv hn;lia)]
 rfl
def mf{n:Nat}(hn:n<=5){b:ya}(Z:zBM)(g:IL b):∀q∈b,FM.Fits q 300:=fun q T=>by
 obtain⟨i,hi⟩:=ai.mp T;have U:i<b.length:=(aD.mp hi).1;have Y:=Nv hn;have h5:(AH 5).length=17:=(Ea 5 AT).1;have R:(AH 5)[i]? = some ((AH 5)[i]' AC):=aH _;rw[<-T9 R hi];exact(g.Wg _).mono
def qE:AX (Rat.divInt 1 2)=.tuple [.int 1,.int 2]:=by kernel_rfl
def fS{f:yK}{set:TM}{δ δ':Dv}{x:PD}(h:f δ=some x)(k:set x δ=some δ'):je f set δ=some (.nx δ'):=by
 show(f δ).bind _=_;rw[h];show(set x δ).map _=_;rw[k];rfl
def XR(n:Nat):Option Tr->Int
 |none=>n
 |some t=>(t.AI:Int)-1
def p7(n:Nat)(o:LT):vh n o=.tuple [.int (XR n o),So o]:=by cases o<;>rfl
abbrev uE:MD:=BV 9
abbrev mK:MD:=Bz uE 9
abbrev Yg:MD:=Dk mK
def iL:(List.range 6).map (fun n=>Yg [.int (n:Nat)])=(List.range 6).map fun n=>some ge:=by kernel_rfl
def iW{n:Nat}(hn:n<=5):Yg [.int (n:Nat)]=some ge:=List.map_inj_left.mp iL n (bV.mpr AC)
abbrev iq:MD:=EB tJ rM
def qc:((List.range 6).all fun n=>(AH n).all fun t=>match NX ge zBD with|some (.int i)=>decide (i=((AH 5).idxOf t:Nat))|_=>false)=true:=by decide +kernel
def uc{n:Nat}(hn:n<=5){t:Tr}(g:t∈AH n):NX ge zBD=some (.int ((AH 5).idxOf t:Nat)):=by
 have:=aL.mp (aL.mp qc n (bV.mpr AC)) t g;split at this
 .rename_i i e;rw[e,of_decide_eq_true this]
 .cases this
def lg:((AH 5).all fun t=>decide ((- wq t).num=-1)&&decide ((- wq t).den=t.Kq))=true:=by decide +kernel
def uG{t:Tr}(g:zAY):AX (- wq t)=.tuple [.int (-1),.int (t.Kq:Int)]:=by
 have:=aL.mp lg t g;rw[Bool.and_eq_true,decide_eq_true_eq,decide_eq_true_eq]at this;unfold AX;rw[this.1,this.2]
def gH{n:Nat}(hn:n<=5){ws:ya}(hl:zAX)(s:IL ws){t:Tr}(T:t∈AH n):iq [Ak ws,Au n,tD t]=some (AX (Aw ws t-wq t)):=by
 have U:=FX hn T;obtain⟨i,hi⟩:=ai.mp T;have Z:=Qh (My hn hi);have g:i<ws.length:=by rw[hl,<-(Ea n hn).1];exact(aD.mp hi).1
 have hw:ws[i]? = some (Aw ws t):=by rw[List.getElem?_eq_getElem g,T9 (My hn hi) (aH g)]
 refine Cw rfl ?_;unfold T5;refine An (Ct (A0 (x:=Au n) (y:=tD t) rfl rfl (uc hn T))) ?_;have Y:=(LV U).2.2.2.2.2.1;have R:FM.Fits (- wq t) 190:=by
  have:FM.Fits (- wq t) 13:=⟨by rw[Rat.neg_num,Int.natAbs_neg];exact Y.1,by rw[Rat.neg_den];exact Y.2⟩;exact this.mono
 refine F9 (Aj (xs:=[AX (Aw ws t),AX (- wq t)]) (BI (A0 (x:=Ak ws) (y:=.int ((AH 5).idxOf t:Nat)) rfl rfl (Ze ?_)) (BI ?_ rfl)) ?_)
 .rw[Z,List.getElem?_map,hw];rfl
 .rw[uG U];exact NW (xs:=[.int (-1),.int (t.Kq:Int)]) (BI rfl (BI (Aj (xs:=[tD t]) rfl (LV U).1) rfl)) zK
 .rw[Rat.sub_eq_add_neg];exact pQ (s.Wg t) R
abbrev jm:MD:=Eg fW
def qk{p q:Rat}(R:FM.Fits p 190)(g:FM.Fits q 190):jm [AX p,AX q]=some (AX (p*q)):=by
 refine Cw rfl ?_;unfold T8;refine F9 (Aj (xs:=[.int (p.num*q.num),.int ((p.den:Int)*q.den)]) (BI (A0 (x:=.int p.num) (y:=.int q.num) rfl rfl (Xv R.1 g.1 AT)) zGU) ?_);refine(fQ (FM.NP p q) (aI (FM.dd R g) (aa AT AT))).trans ?_;rw[FM.Rk]
def iH{u:Tr}(h:1<=u.AI):(zV % 2=0/\- sg u=1)\/(zV % 2=1/\- sg u=-1):=by
 unfold sg;by_cases z:u.AI % 2=0
 .rw[if_pos z];exact .inr ⟨by lia,rfl⟩
 .rw[if_neg z];exact .inl ⟨by lia,by grind⟩
noncomputable abbrev pC(R g U T:AD):MD:=k8 CV jm iq Ws Yg (qg T g) (oT R g U) (kn R g) (sR R g) (fB R g)
def tM(ns:yT)(T R C3 C4:AD):pC T R C3 C4 [FL ns]=some KQ:=by
 obtain⟨o,s⟩:=oj (FY ns 0) (FY ns 1) (most:=4) AT AT;have d0:=mR ns 0 4 AT AT;generalize Tw (FY ns 0) (FY ns 1) 4=t at o s d0;have wu:=vE o s;have hc2:=Xn ns 2;generalize FY ns 2=c2 at hc2;obtain⟨n,en⟩:∃n:Nat,1+c2 % 5=(n:Int):=⟨(1+c2 % 5).toNat,by lia⟩;have hn:n<=5:=by lia
 have U:=cm hn (xW t);have Y:=cm hn (yW t);have sX:∀P∈[pX,pU,pM,pB,pN],IL (A2 n (xW t) P):=fun P hP=>qh hn (t8 o s) (cN hP);have sY:∀P∈[pX,pU,pM,pB,pN],IL (A2 n (yW t) P):=fun P hP=>qh hn (uz o s) (cN hP);have mX:pX∈[pX,pU,pM,pB,pN]:=.head _;have mU:pU∈[pX,pU,pM,pB,pN]:=.tail _ GM;have mM:pM∈[pX,pU,pM,pB,pN]:=.tail _ zGP;have mB:pB∈[pX,pU,pM,pB,pN]:=.tail _ (.tail _ zGP);have mN:pN∈[pX,pU,pM,pB,pN]:=.tail _ (.tail _ (.tail _ zGP));have zX:∀u∈AH n,Ed Ow (A2 n (xW t) pU) u=0:=hV hn xo (xW t);have zB:∀u∈AH n,Ed ku (A2 n (yW t) pN) u=0:=hV hn xj (yW t);have eM:Ll n (A2 n (xW t) pU)=A2 n (xW t) pM:=lA hn (xW t) pU;have eB:Ll n (A2 n (yW t) pN)=A2 n (yW t) pB:=(lA hn (yW t) pN).trans (xG hn xt (yW t));have g1:good (qg C4 R) [Cz t,.int (n:Nat)]=some (Ak Ow):=Ii ((uV o wu hn C4 R).trans (by rw[wo hn t]));have g2:good (kn T R) [Ak Ow]=some (Ak zP):=Ii ((eY hn (U _) (U _) (sX _ mX) (sX _ mU) zX T R).trans (by rw[eM]));have g3:∀P∈[pX,pU,pM,pB,pN],good (fB T R) [Ak (A2 n (xW t) P),.tuple [.int 1,.int 2]]=some (Ak (A2 n (yW t) P)):=fun P hP=>by
  rw[<-qE];exact Ii ((Vq hn (U _) (mf hn (U _) (sX P hP)) ⟨by decide,by decide⟩ T R).trans (by rw[qM hn t (cN hP)]))
 have g4:good (oT T R C3) [Ak (A2 n (yW t) pX),Ak (A2 n (yW t) pM)]=some (Ak ku):=Ii ((sM hn (Y _) (Y _) (kj (sY _ mX) (sY _ mM)) T R C3).trans (by rw[sD hn]));have g5:good (kn T R) [Ak ku]=some (Ak ku):=Ii ((eY hn (Y _) (Y _) (sY _ mB) (sY _ mN) zB T R).trans (by rw[eB]));have g6:∀ws:List Rat,ws.length=CT n->sR T R [Ak ws]=some (.tuple [.int (XR n ((AH n).find? (Hx ws))),So ((AH n).find? (Hx ws))]):=fun ws Z=>(uZ hn Z T R).trans (by rw[ou hn Z,p7]);have f1:=gX hn zX (U _);rw[eM]at f1;have tw:∀(a b c d e f g h i:L),BA (AB CU (AB U9 AG)) [a,b,c,d,e,f,g,h,i]=some (.tuple [.int 1,.int 2]):=fun _ _ _ _ _ _ _ _ _=>rfl;refine Cw rfl ?_;unfold lS;refine An (Ct (Aj (xs:=[FL ns,.int 0,.int 4]) rfl d0)) ?_;refine An (Ct (y:=.int (n:Nat)) (A0 (x:=.int 1) (y:=.int (c2 % 5)) rfl (A0 (x:=.int c2) (y:=.int 5) (Aj (xs:=[FL ns,.int 2]) rfl hc2) rfl (mod_is AT)) (show some (PyData.int (1+c2 % 5))=_ by rw[en]))) ?_;refine An (Ct (Aj (xs:=[Cz t,.int (n:Nat)]) rfl g1)) ?_;refine An (Ct (Aj (xs:=[Ak Ow]) rfl g2)) ?_;refine An (Ct (Aj (xs:=[Ak (A2 n (yW t) pX),Ak (A2 n (yW t) pM)]) (BI (Aj (xs:=[Ak Ow,.tuple [.int 1,.int 2]]) rfl (g3 pX mX)) (BI (Aj (xs:=[Ak zP,.tuple [.int 1,.int 2]]) rfl (g3 pM mM)) rfl)) g4)) ?_;refine An (C9 (Cu (x:=Ak ku) (y:=Ak ku) (Aj (xs:=[Ak ku]) rfl g5) rfl (ne_self (tZ _) AT)) rfl) ?_;refine An (fS (Aj (xs:=[Ak ku]) rfl (g6 _ (Y _))) rfl) ?_;refine An (C9 ?_ rfl) ?_
 .cases hf:(AH n).find? (Hx ku) with
  |none=>exact t7 rfl
  |some u=>
   obtain⟨b1,b2,b3⟩:=Xh (Ua n hn).2.2 hf;have ho:=UB hn zB (Y _) b2 fun v hv Z=>Wv (b3 v hv Z);rw[eB]at ho;have hb:=qP b1;have hk:zV % 2=0:=by
    rcases iH (QV (FX hn b2)).1 with h|h
    .exact h.1
    .exact absurd (by have:=h.2;grind) hb
   refine rj rfl (Cu (x:=.int 0) (y:=.int 1) (A0 (x:=.int zV) (y:=.int 2) rfl rfl ((mod_is AT).trans (by rw[hk]))) rfl (Zo _ _))
 refine An (fS (Aj (xs:=[Ak Ow]) rfl (g6 _ (U _))) rfl) ?_;refine An (C9 (Cu (x:=.int (XR n zGo)) (y:=.int (XR n zGo)) (A0 (x:=.tuple [.int (XR n zGo),So zGo]) (y:=.int 0) (Aj (xs:=[Ak zP]) rfl ((g6 _ (U _)).trans (by rw[f1]))) rfl rfl) rfl (S5 _)) rfl) ?_;cases hf:(AH n).find? (Hx Ow) with
 |none=>exact He (KN (uR rfl) rfl)
 |some u=>
  obtain⟨b1,b2,b3⟩:=Xh (Ua n hn).2.2 hf;have ho:=UB hn zX (U _) b2 fun v hv Z=>Wv (b3 v hv Z);rw[eM]at ho;have h5:=FX hn b2;have hz:Mm (CO (U5 false) (nm 7) zDb) (CO yz (nm 6) KM) [.d (FL ns),.d (Cz t),.d Uf,.d (Ak Ow),.d (Ak zP),.d (Ak ku),.d (.int zV),.d (tD u),.no,.no]=some (decide ((u.AI:Int)-1=0)):=MW rfl (Cu (x:=.int zV) (y:=.int 0) rfl rfl (Zo _ _));by_cases z:(u.AI:Int)-1=0
  .rw[decide_eq_true z]at hz;exact He (KN hz rfl)
  .rw[decide_eq_false z]at hz;refine An (C9 hz rfl) ?_;refine An (Ct (Aj (xs:=[.int (n:Nat)]) rfl (iW hn))) ?_;refine An (Ct (Aj (xs:=[Ak Ow,Au n,tD u]) rfl (gH hn (U _) (sX _ mX) b2))) ?_;have fq:=(LV h5).2.2.2.2.2.1;have fa:=(sX _ mX).f h5;have hk:=QV h5;have fit:FM.Fits (Aw Ow u-wq u) 190:=(FM.Fits.less fa fq).mono AC;have key:∀(v:Rat),- sg u=v->FM.Fits v 190->∀(i:Int),zV % 2=i->Ht [PyData.int 1,.int (-1)] i=some (.int v.num)->v.den=1->Bb (Ai yz (AU iq (AB zBw zFG)) (AU jm (AB (nm 9) (AB (BA (AB zGx zFu)) AG)))) [.d (FL ns),.d (Cz t),.d Uf,.d (Ak Ow),.d (Ak zP),.d (Ak ku),.d (.int zV),.d (tD u),.d ge,.d (AX (Aw Ow u-wq u))]=some (.rt KQ):=fun v hv hfv i hi ha hd=>by
    refine F9 (A0 (x:=AX (Aw zP u-wq u)) (y:=AX (Aw zP u-wq u)) (Aj (xs:=[Ak zP,Au n,tD u]) rfl (gH hn (U _) (sX _ mM) b2)) (Aj (xs:=[AX (Aw Ow u-wq u),AX v]) (BI rfl (BI ?_ rfl)) ?_) (Yd (Sh _) AT))
    .unfold AX;rw[hd];exact NW (xs:=[.int v.num,.int 1]) (BI (A0 (x:=.list [.int 1,.int (-1)]) (y:=.int i) rfl (A0 (x:=.int zV) (y:=.int 2) rfl rfl ((mod_is AT).trans (by rw[hi]))) ha) (BI rfl rfl)) zK
    .rw[qk fit hfv,ho,hv,Rat.mul_comm]
   rcases iH hk.1 with h|h
   .exact key 1 h.2 ⟨by decide,by decide⟩ 0 h.1 rfl rfl
   .exact key (-1) h.2 ⟨by decide,by decide⟩ 1 h.1 rfl rfl
def lI(K:Fg)(a:AD)(ns:yT):Bool:=match K.lookup a with
 |some o=>(match o.cls with|.type n=>n == "tuple" |_=>false)&&o.dict.isNone&&(match o.data with
  |.seq g _=>decide (g.size<=1000)&&decide (g.toList.map XC=ns.map fun i=>some (V.int i))
  |_=>false)
 |none=>false
def Wk:∀ {ns:zG} {us:LY},us.map XC=ns.map (fun i=>some (V.int i))->Vals SC us
 |[],[],_=>.nil
 |[],u::us,h=>by simp at h
 |n::ns,[],h=>by simp at h
 |n::ns,u::us,h=>by
  rw[List.map_cons,List.map_cons,List.cons.injEq]at h;refine .cons ?_ (Wk h.2);cases u with
  |int i t=>
   have:=h.1;simp[XC]at this;subst this;exact⟨t,rfl⟩
  |_=>have:=h.1;simp[XC]at this
def p0{K:Fg}{a:AD}{ns:yT}(h:lI K a ns=true):Own K a ns:=by
 unfold lI at h;split at h
 .rename_i o e;rw[Bool.and_eq_true,Bool.and_eq_true]at h;obtain⟨⟨T,Z⟩,g⟩:=h;have Y:o.cls=.type "tuple" := by
   split at T
   .rename_i n U;rw[U,eq_of_beq T]
   .cases T
  have c2:o.dict=none:=by simpa using Z
  split at g
  .rename_i R n U;rw[Bool.and_eq_true,decide_eq_true_eq,decide_eq_true_eq]at g;exact⟨fun H=>.inr ⟨o,R,n,e,Y,U,Nat.le_trans g.1 Ku,Wk g.2⟩,o,e,Y,c2⟩
  .cases g
 .cases h
def cD(K:Fg):Sp:=fun vs H Q _=>∃(a:AD) (ns:zG),vs=[.ref a]/\Ax K H a SC/\ns.length<=63/\∀H',Q (.bl true) H'
def sJ{P:FS}{w:IO}{K:Fg}{mg:yP}{base:Heap}{f:AD}{fd:Db}{k:Nat}{Y U T R:AD}(hK:WK K=true)(F:AK P w K mg base Ag k f fd zx (A6 (pC Y U T R))):AK P w K mg base Ag k f fd zx (cD K) :=
 F.imp fun vs H Q E z=>by
  obtain⟨a,ns,rfl,Z,_,q⟩:=z;refine⟨[FL ns],.bool true,H,tM ns Y U T R,.cons (fX (oS hK Z)) .nil,.refl _,fun v G' H' _ _ _ _ g=>?_⟩;rw[Du]at g;subst g;exact q H'
def iD(n:Nat)(g:Tr->Nat):Sp:=fun vs H Q _=>∃v t,vs=[v]/\Tv H t v/\t.deep<n/\n<=60/\t.AI<=8/\∀H',AM H H'->Q (.int (g t)) H'
def jF{P:FS}{w:IO}{K:Fg}{mg:yP}{base:Heap}{CX:Iy}{k:Nat}{f:AD}{fd:Db}{ps:yU}{sp:Sp}(h:∀vs H Q E,¬sp vs H Q E):AK P w K mg base CX k f fd ps sp :=
 ⟨fun _ _ _ _ z=>(h _ _ _ _ z).elim,fun _ _ _ _ _ _ _ _ _ _ _ _ _ z=>(h _ _ _ _ z).elim⟩
section
variable{P:FS}{w:IO}{K:Fg}{mg:yP}{base:Heap}{f:AD}{fd:Db}
def Sd:Ad K0 K0 (AQ DK):=CG
def Mu(Z:Fn K mg "knots_within" DK K0 f fd)(FG:zEd):∀n,AK P w K mg base Ag n f fd K0 (iD n Tr.AI)
 |0=>jF fun _ _ _ _ ⟨_,_,_,_,h,_⟩=>absurd h zCr
 |n+1=>by
  have sc:=Sd;have A8:=Mu Z FG n;refine Z.F.ok (k:=n) sc Kj IS
  .obtain⟨v,t,rfl,_⟩:=h
   rfl
  obtain⟨v,t,rfl,⟨a,xs,rfl,ha,ht⟩,hd,hn,hk,q⟩:=h;refine⟨_,(A7 (Cf (BM QM Ar (D7 (Ob rfl) rfl FG bo (AN (HP [".0","bough"] 1 [none,none] (X0 zHW) ca (fun _ _ _ _ _=>(DY Z A8 hr rfl zAP))) Af))))),?_⟩;have g:=ht.len;have Y:xs.length<8:=by rw[g];have:=Tr.PU t;lia
  refine⟨_,rfl,a,rfl,⟨_,BL.of ha⟩,fun D hD=>Hn (n:=xs.length) (fun i ys H'=>AM H H'/\ys=(t.bs.take i).map fun c=>V.int (c.AI:Nat)) ?_ ?_ ?_⟩
  .exact⟨Ah hD _,by simp⟩
  .rintro i ys H0 hi ⟨T,rfl⟩ R;have hi':i<t.bs.length:=by lia
   refine⟨⟨xs,xs[i],BL.of (T _ _ ha),by simp[hi]⟩,?_,fun x H' y=>?_⟩
   .rw[List.length_map,List.length_take];exact aW (Nat.min_le_left _ _) (aI (bY hi Y) Ku)
   .obtain⟨rfl,y⟩:=y;have hx:=y xs (BL.of (T _ _ ha));obtain⟨c,hc,tc⟩:=ht.get hx;have U:c∈t.bs:=aO hc;have hcd:=Tr.SI U;have hck:=Tr.Mg U;unfold JY;refine Lh ⟨_,rfl,x,c,rfl,tc.same T,by lia,by lia,by lia,fun H2 e2=>⟨e2 _ _ R,FP hi ⟨?_,?_⟩⟩⟩
    .exact fun b o z=>by
      rw[AL (Aa z hD)];exact e2 _ _ (T _ _ z)
    .rw[List.take_succ,hc];simp
  .rintro ys H0 ⟨T,rfl⟩ R;refine⟨⟨xs,BL.of (T _ _ ha),Nat.le_refl _⟩,?_⟩;refine⟨D,t.bs.map fun c=>(c.AI:Int),rfl,Ax.of ?_,_,_,rfl,rfl,?_⟩
   .rw[R,g,List.take_length,List.map_map]
    rfl
   .show Q (.int (1+(t.bs.map fun c=>(c.AI:Int)).sum)) H0;rw[Tr.VP];exact q H0 T
end
def uh{P:FS}{w:IO}{K:Fg}{mg:yP}{base:Heap}{f:AD}{fd:Db}{k:Nat}{ps:yU}(F:AK P w K mg base Ag k f fd ps (iD 8 Tr.AI)):AK P w K mg base Ag k f fd ps qW :=
 F.imp fun vs H Q E z=>by
  obtain⟨v,u,rfl,g,hd,R,q⟩:=z;exact⟨v,u,rfl,g,hd,by decide,R,q⟩
section
open PySem.W
def fnX{w:IO}{mg:yP}{h:Heap}(X:(kH w.params).In h)(G:h.Ns mainGlobals mg)(n:zAG)(i:Nat)(m:zAG)(t c f:Nat)(ps:yU)
 (ha:nsIn EV mainGlobals zAR=some (some zBy):=by kernel_rfl)(g:(kH w.params).lookup f=some (fO n i m t c):=by kernel_rfl)(T:codeIn EV (.ref c) zAR=true:=by kernel_rfl)(R:keepIn EV zBy=true:=by kernel_rfl)
 (U:∀(kV doc pm:VL) (an:zDo) (cdv ct:VL) (us:yN),us.length=ps.length->bindArgs (fnOf zAR zAR (Ho (top i)) (Et (top i)) (AQ (top i)) .none kV doc pm an cdv ct) ⟨us,[]⟩=pure (ps.zip us):=by first|(exact fun _ _ _ _ _ _ us g=>match us,g with|[_],_=>rfl)|(exact fun _ _ _ _ _ _ us g=>match us,g with|[_,_],_=>rfl)|(exact fun _ _ _ _ _ _ us g=>match us,g with|[_,_,_],_=>rfl)|(exact fun _ _ _ _ _ _ us g=>match us,g with|[_,_,_,_],_=>rfl)|(exact fun _ _ _ _ _ _ us g=>match us,g with|[_,_,_,_,_],_=>rfl)|(exact fun _ _ _ _ _ _ us g=>match us,g with|[],_=>rfl)) :
  Fn EV mg zAR (top i) ps f (fnOf zAR zAR (Ho (top i)) (Et (top i)) (AQ (top i)) .none .none .none (.str (Str.ofString m) t) none (.ref c) .none) :=
 ⟨eQ g T R,(eQ (st:=top i) g T R).binds U,mg_of X G ha⟩
set_option maxHeartbeats 4000000 in
def wZ(w:IO)(mg:yP)(fa:AD)(h:Heap)(X:(kH w.params).In h)(G:h.Ns mainGlobals mg)(hfa:mg "law" = some (.ref fa)):∃fd:FuncData,(∀(s:SD) (v:VL),BindsTo s fd ⟨[v],[]⟩ [("_law_script",v)])/\∀base:Heap,(kH w.params).In base->base.Ns mainGlobals mg->AK Bw.prog w EV mg base Ag 24 fa fd zx (cD EV):=by
 have e:=hfa.symm.trans (mg_of X G (v:=.ref 453) IP);cases e;have GR:=fnX X G "is_tree" 10 "stepgrove.trees" 303 105 106 FB;have LQ:=fnX X G "trees_of" 11 "stepgrove.trees" 303 112 113 ["many"];have Bh:=fnX X G "trees_to" 12 "stepgrove.trees" 303 119 120 f8;have Gj:=fnX X G "refuse_no_tree" 13 "stepgrove.trees" 303 126 127 FB;have Bj:=fnX X G "in_falling_order" 14 "stepgrove.trees" 303 133 134 zAt;have Ap:=fnX X G "knots_within" 15 "stepgrove.trees" 303 138 139 K0;have Cj:=fnX X G "density_within" 16 "stepgrove.trees" 303 145 146 K0;have CJ:=fnX X G "trees_one_larger" 17 "stepgrove.trees" 303 152 153 K0;have Fq:=fnX X G "tree_cuts" 19 "stepgrove.cuts" 376 159 160 K0;have Dw:=fnX X G "cuts_within" 20 "stepgrove.cuts" 376 164 165 K0;have Ck:=fnX X G "fraction_of" 22 "stepgrove.fracs" 391 171 172 rk;have FA:=fnX X G "frac_times" 23 "stepgrove.fracs" 391 178 179 JU;have IV:=fnX X G "is_fraction" 24 "stepgrove.fracs" 391 185 186 FB;have CI:=fnX X G "are_fractions" 25 "stepgrove.fracs" 391 192 193 FB;have JI:=fnX X G "is_whole" 26 "stepgrove.fracs" 391 199 200 FB;have BD:=fnX X G "greatest_divisor" 27 "stepgrove.fracs" 391 206 207 JU;have Cs:=fnX X G "common_bottom" 28 "stepgrove.fracs" 391 213 214 zAo;have Eu:=fnX X G "frac_total" 29 "stepgrove.fracs" 391 218 219 ["some"];have Fh:=fnX X G "power_of" 30 "stepgrove.fracs" 391 225 226 zT;have LU:=fnX X G "is_table" 33 "stepgrove.tables" 469 232 233 FB;have Fy:=fnX X G "refuse_no_table" 34 "stepgrove.tables" 469 239 240 FB;have LN:=fnX X G "are_rows" 35 "stepgrove.tables" 469 246 247 FB;have KJ:=fnX X G "tops_over" 37 "stepgrove.wholes" 496 251 252 y9;have Hg:=fnX X G "table_bottom" 38 "stepgrove.wholes" 496 256 257 ["table"];have Gi:=fnX X G "table_weighing" 41 "stepgrove.weights" 510 264 265 yk;have HG:=fnX X G "true_weighing" 42 "stepgrove.weights" 510 271 272 f8;have BK:=fnX X G "weighing_reach" 43 "stepgrove.weights" 510 278 279 Iv;have El:=fnX X G "refuse_no_weighing" 44 "stepgrove.weights" 510 285 286 FB;have Hr:=fnX X G "true_weights" 45 "stepgrove.weights" 510 290 291 zCl;have HH:=fnX X G "weights_under" 46 "stepgrove.weights" 510 295 296 zBS;have Ff:=fnX X G "readings" 47 "stepgrove.weights" 510 300 301 zA;have Kh:=fnX X G "read_by" 48 "stepgrove.weights" 510 305 306 zAW;have FI:=fnX X G "weighing_composed" 50 "stepgrove.weighings" 574 310 311 JU;have F3:=fnX X G "weighing_undone" 51 "stepgrove.weighings" 574 315 316 Iv;have CZ:=fnX X G "weighing_turned" 52 "stepgrove.weighings" 574 320 321 me;have D4:=fnX X G "weighing_mirrored" 53 "stepgrove.weighings" 574 327 328 Iv;have Ft:=fnX X G "cut_share" 54 "stepgrove.weighings" 574 334 335 Tk
 have JT:=fnX X G "frac_power" 55 "stepgrove.weighings" 574 341 342 yl;have D9:=fnX X G "weighing_order" 57 "stepgrove.orders" 621 348 349 Iv;have Hl:=fnX X G "first_unlike" 58 "stepgrove.orders" 621 355 356 ss;have Eo:=fnX X G "_law_cell" 60 "law_stepgrove_k95_whole_mirrored_rules" 644 362 363 Tl;have Df:=fnX X G "_law_frac" 61 "law_stepgrove_k95_whole_mirrored_rules" 644 369 370 Pg;have LC:=fnX X G "_law_add" 62 "law_stepgrove_k95_whole_mirrored_rules" 644 376 377 IR;have LM:=fnX X G "_law_mul" 63 "law_stepgrove_k95_whole_mirrored_rules" 644 383 384 IR;have Dh:=fnX X G "_law_kept" 64 "law_stepgrove_k95_whole_mirrored_rules" 644 388 389 Ja;have Dx:=fnX X G "_law_longer" 65 "law_stepgrove_k95_whole_mirrored_rules" 644 393 394 Ja;have JE:=fnX X G "_law_trees" 66 "law_stepgrove_k95_whole_mirrored_rules" 644 400 401 zCT;have Dp:=fnX X G "_law_knots" 67 "law_stepgrove_k95_whole_mirrored_rules" 644 405 406 Ja;have DL:=fnX X G "_law_density" 68 "law_stepgrove_k95_whole_mirrored_rules" 644 412 413 Ja;have GN:=fnX X G "_law_entry" 69 "law_stepgrove_k95_whole_mirrored_rules" 644 419 420 SB;have JX:=fnX X G "_law_named" 70 "law_stepgrove_k95_whole_mirrored_rules" 644 426 427 SB;have Iz:=fnX X G "_law_table" 71 "law_stepgrove_k95_whole_mirrored_rules" 644 433 434 Tm;have Im:=fnX X G "_law_off" 73 "law_stepgrove_k95_whole_mirrored_rules" 644 445 446 MV;have uF:=fnX X G "law" 74 "law_stepgrove_k95_whole_mirrored_rules" 644 452 453 zx;have B6:mg "len" = none:=mg_none_of X G IP;have DD:mg "range" = none:=mg_none_of X G IP;have Ml:mg "abs" = none:=mg_none_of X G IP;have BH:mg "isinstance" = none:=mg_none_of X G IP;have dD:mg "int" = none:=mg_none_of X G IP;have XZ:mg "bool" = none:=mg_none_of X G IP;have DN:mg "tuple" = none:=mg_none_of X G IP;have Nq:mg "list" = none:=mg_none_of X G IP;have C5:mg "enumerate" = none:=mg_none_of X G IP;have FG:mg "sum" = none:=mg_none_of X G IP;have EU:mg "zip" = none:=mg_none_of X G IP;have Bv:mg "sorted" = none:=mg_none_of X G IP;have QZ:mg "set" = none:=mg_none_of X G IP;have L8:mg "dict" = none:=mg_none_of X G IP;have a_MR:nsIn EV mainGlobals "MOST_ROWS" = some (some (.int 40 471)):=by kernel_rfl
 have a_MK:nsIn EV mainGlobals "MOST_KNOTS" = some (some (.int 7 305)):=by kernel_rfl
 have a_WL:nsIn EV mainGlobals "WEIGHING_LENGTHS" = some (some (.ref 258)):=by kernel_rfl
 have Z:PySem.W.nsIn EV mainGlobals "GroveError" = some (some Tc):=by kernel_rfl
 have Y:PySem.W.nsIn EV mainGlobals "NoWeighing" = some (some zj):=by kernel_rfl
 have a_TooMany:PySem.W.nsIn EV mainGlobals "TooMany" = some (some zm):=by kernel_rfl
 have a_NoTable:PySem.W.nsIn EV mainGlobals "NoTable" = some (some zi):=by kernel_rfl
 have a_NotAlike:PySem.W.nsIn EV mainGlobals "NotAlike" = some (some zk):=by kernel_rfl
 have p8:=bp X G Z;have Wo:=bp X G Y;have fc:=bp X G a_TooMany;have fD:=bp X G a_NoTable;have dF:=bp X G a_NotAlike;have R:Exc EV mg "TooMany" 97:=⟨fc,by kernel_rfl⟩;have be_TooMany:Qe EV 97 24 true:=⟨by kernel_rfl,by kernel_rfl,by kernel_rfl,by kernel_rfl⟩;have xk_TooMany:cH EV 97:=⟨by kernel_rfl,by kernel_rfl,by kernel_rfl,by kernel_rfl,by kernel_rfl,by kernel_rfl,by kernel_rfl,by kernel_rfl⟩;have tV_TooMany:PySem.W.kitOne EV zm PF=some true:=by kernel_rfl
 have t_TooMany_GroveError:PySem.W.kitOne EV zm Tc=some true:=by kernel_rfl
 have t_TooMany_NoWeighing:PySem.W.kitOne EV zm zj=some false:=by kernel_rfl
 have t_TooMany_TooMany:PySem.W.kitOne EV zm zm=some true:=by kernel_rfl
 have t_TooMany_NoTable:PySem.W.kitOne EV zm zi=some false:=by kernel_rfl
 have t_TooMany_NotAlike:PySem.W.kitOne EV zm zk=some false:=by kernel_rfl
 have X_NoWeighing:Exc EV mg "NoWeighing" 73:=⟨Wo,by kernel_rfl⟩;have be_NoWeighing:Qe EV 73 24 true:=⟨by kernel_rfl,by kernel_rfl,by kernel_rfl,by kernel_rfl⟩;have xk_NoWeighing:cH EV 73:=⟨by kernel_rfl,by kernel_rfl,by kernel_rfl,by kernel_rfl,by kernel_rfl,by kernel_rfl,by kernel_rfl,by kernel_rfl⟩;have tV_NoWeighing:PySem.W.kitOne EV zj PF=some true:=by kernel_rfl
 have U:PySem.W.kitOne EV zj Tc=some true:=by kernel_rfl
 have T:PySem.W.kitOne EV zj zj=some true:=by kernel_rfl
 have t_NoWeighing_TooMany:PySem.W.kitOne EV zj zm=some false:=by kernel_rfl
 have t_NoWeighing_NoTable:PySem.W.kitOne EV zj zi=some false:=by kernel_rfl
 have t_NoWeighing_NotAlike:PySem.W.kitOne EV zj zk=some false:=by kernel_rfl
 have X_NoTable:Exc EV mg "NoTable" 61:=⟨fD,by kernel_rfl⟩;have be_NoTable:Qe EV 61 24 true:=⟨by kernel_rfl,by kernel_rfl,by kernel_rfl,by kernel_rfl⟩;have xk_NoTable:cH EV 61:=⟨by kernel_rfl,by kernel_rfl,by kernel_rfl,by kernel_rfl,by kernel_rfl,by kernel_rfl,by kernel_rfl,by kernel_rfl⟩;have tV_NoTable:PySem.W.kitOne EV zi PF=some true:=by kernel_rfl
 have t_NoTable_GroveError:PySem.W.kitOne EV zi Tc=some true:=by kernel_rfl
 have t_NoTable_NoWeighing:PySem.W.kitOne EV zi zj=some false:=by kernel_rfl
 have t_NoTable_TooMany:PySem.W.kitOne EV zi zm=some false:=by kernel_rfl
 have t_NoTable_NoTable:PySem.W.kitOne EV zi zi=some true:=by kernel_rfl
 have t_NoTable_NotAlike:PySem.W.kitOne EV zi zk=some false:=by kernel_rfl
 have X_NotAlike:Exc EV mg "NotAlike" 85:=⟨dF,by kernel_rfl⟩;have be_NotAlike:Qe EV 85 24 true:=⟨by kernel_rfl,by kernel_rfl,by kernel_rfl,by kernel_rfl⟩;have xk_NotAlike:cH EV 85:=⟨by kernel_rfl,by kernel_rfl,by kernel_rfl,by kernel_rfl,by kernel_rfl,by kernel_rfl,by kernel_rfl,by kernel_rfl⟩;have tV_NotAlike:PySem.W.kitOne EV zk PF=some true:=by kernel_rfl
 have t_NotAlike_GroveError:PySem.W.kitOne EV zk Tc=some true:=by kernel_rfl
 have t_NotAlike_NoWeighing:PySem.W.kitOne EV zk zj=some false:=by kernel_rfl
 have t_NotAlike_TooMany:PySem.W.kitOne EV zk zm=some false:=by kernel_rfl
 have t_NotAlike_NoTable:PySem.W.kitOne EV zk zi=some false:=by kernel_rfl
 have t_NotAlike_NotAlike:PySem.W.kitOne EV zk zk=some true:=by kernel_rfl
 have hK:WK EV=true:=by kernel_rfl
 refine⟨fnOf (Str.ofString "law") (Str.ofString "law") (Ho (top 74)) (Et (top 74)) (AQ (top 74)) .none .none .none (.str (Str.ofString "law_stepgrove_k95_whole_mirrored_rules") 644) none (.ref 452) .none,fun s v=>.of_eq rfl,fun base _ _=>?_⟩;have NB:=bp X G a_MR;have GB:=bp X G a_MK;have DQ:=bp X G a_WL;have g:Own EV 258 [0,1,2,4,8,17,37,85]:=p0 IP;have cF:=PK (P:=Bw.prog) (w:=w) (base:=base) BD Ml;have jc:=UQ Ck BD cF;have xZ:=Qq Cs BD cF;have wA:=S4 Hg Cs xZ;have vy:=X9 (P:=Bw.prog) (w:=w) (base:=base) KJ;have qe:=Y1 (P:=Bw.prog) (w:=w) (base:=base) Fh;have xf:=cC (P:=Bw.prog) (w:=w) (base:=base) Kh FG EU;have xI:=RL vU Ff Kh xf B6 EU 8;have xC:=uh (Mu (P:=Bw.prog) (w:=w) (base:=base) Ap FG 8);have xN:=Rb vU HH Hg KJ Ff Fh Ap Ck (wA.mono) (vy.mono) (xI.mono) (qe.mono) (xC.mono) (jc.mono);have JW:=xK xN;have B2:=xF cF;have GG:=toT (Vt FA Ck jc);have Hi:=wc qe;have wB:=V9 Eu Cs Ck (Rf Cs BD cF) (jc.mono) FG;have GF:=uk wB;have qU:=XW (P:=Bw.prog) (w:=w) (base:=base) Df Ml;have En:=wL qU;have wG:=V8 GN Df qU;have LI:=Yj (P:=Bw.prog) (w:=w) (base:=base) (k:=0) JI XZ dD BH;have Kp:=UJ (P:=Bw.prog) (w:=w) (base:=base) (k:=1) IV BD (B2.mono) JI (LI.mono) BH B6 DN;have Cc:=RU (P:=Bw.prog) (w:=w) (base:=base) (k:=2) CI IV (Kp.mono) BH Nq;have Oi:=Yw (P:=Bw.prog) (w:=w) (base:=base) (k:=3) LN CI (Cc.mono) C5 BH B6 Nq NB;have N9:=Y5 (P:=Bw.prog) (w:=w) (base:=base) (k:=4) LU CI (Cc.mono) LN (Oi.mono) BH B6 DN;have KY:=Sx (P:=Bw.prog) (w:=w) (base:=base) (k:=0) GR C5 BH DN 9;have IA:=Pj (P:=Bw.prog) (w:=w) (base:=base) (k:=5) Fy LU (N9.mono) X_NoTable;have IW:=Qn (P:=Bw.prog) (w:=w) (base:=base) (k:=10) Gj GR (KY.mono);have A8:=Me (P:=Bw.prog) (w:=w) (base:=base) (k:=0) Ap FG 9;have E9:=K4 (P:=Bw.prog) (w:=w) (base:=base) (k:=10) Cj Ap (A8.mono) 9;have BC:=PM (P:=Bw.prog) (w:=w) (base:=base) (k:=0) Bj Bv DN;have EL:=Jg (P:=Bw.prog) (w:=w) (base:=base) (k:=1) CJ Bj (BC.mono) C5 9;have OY:=Yr (P:=Bw.prog) (w:=w) (base:=base) (k:=11) LQ CJ (EL.mono) DD QZ Bv GB R;have Bq:=Yx (P:=Bw.prog) (w:=w) (base:=base) (k:=12) Bh LQ (OY.mono) DD GB R;have Gg:=NO (P:=Bw.prog) (w:=w) (base:=base) (k:=3) El CI (Cc.mono) B6 DQ g X_NoWeighing;have BR:=Qp (P:=Bw.prog) (w:=w) (base:=base) (k:=4) BK El (Gg.mono) B6 DQ g;have Jw:=Sy (P:=Bw.prog) (w:=w) (base:=base) (k:=20) Hr Cj (E9.mono);have JL:=Ru (P:=Bw.prog) (w:=w) (base:=base) (k:=21) HG Bh (Bq.mono) Hr (Jw.mono);have Ic:=Qs (P:=Bw.prog) (w:=w) (base:=base) (k:=13) Gi Fy (IA.mono) Bh (Bq.mono) HH (JW.mono);have Jv:=Ta (P:=Bw.prog) (w:=w) (base:=base) (k:=0) Hl EU;have Ew:=Qr (P:=Bw.prog) (w:=w) (base:=base) (k:=22) D9 Hl (Jv.mono) Ap (A8.mono) Bh (Bq.mono) HG (JL.mono) BK (BR.mono);have Gw:=NN (P:=Bw.prog) (w:=w) (base:=base) (k:=1) Dw Bj (BC.mono) Bv 9;have G5:=XA (P:=Bw.prog) (w:=w) (base:=base) (k:=11) Fq Dw (Gw.mono) Gj (IW.mono) Bv;have G6:=YG (P:=Bw.prog) (w:=w) (base:=base) (k:=0) Ft;have HB:=OO (P:=Bw.prog) (w:=w) (base:=base) (k:=13) FI Ft (G6.mono) Eu (GF.mono) Fq (G5.mono) Bh (Bq.mono) BK (BR.mono) L8 EU X_NotAlike
 have IC:=Pw (P:=Bw.prog) (w:=w) (base:=base) (k:=13) F3 Ft (G6.mono) FA (GG.mono) Eu (GF.mono) Fq (G5.mono) Bh (Bq.mono) BK (BR.mono) L8 EU;have MF:=V6 (P:=Bw.prog) (w:=w) (base:=base) (k:=4) JT Fh (Hi.mono);have Co:=Po (P:=Bw.prog) (w:=w) (base:=base) (k:=13) CZ JT (MF.mono) FA (GG.mono) Ap (A8.mono) Bh (Bq.mono) BK (BR.mono) EU;have FE:=N3 (P:=Bw.prog) (w:=w) (base:=base) (k:=14) D4 CZ (Co.mono) F3 (IC.mono);have Fs:=WY (P:=Bw.prog) (w:=w) (base:=base) (k:=0) Eo B6;have Lo:=V2 (P:=Bw.prog) (w:=w) (base:=base) (k:=0) JX;have L1:=jC (Vv Iz Eo GN JX ((l0 Fs).mono) (wG.mono) ((iV Lo).mono) DD B6);have ED:=Pb (P:=Bw.prog) (w:=w) (base:=base) (k:=0) Dh Bv DN 9;have Gm:=NR (P:=Bw.prog) (w:=w) (base:=base) (k:=10) Dx Dh (ED.mono) B6 DD 9;have ME:=V0 (P:=Bw.prog) (w:=w) (base:=base) (k:=20) JE Dx (Gm.mono) DD QZ Bv;have EI:=O1 (P:=Bw.prog) (w:=w) (base:=base) (k:=0) Dp FG 9;have GC:=Mw (P:=Bw.prog) (w:=w) (base:=base) (k:=10) DL Dp (EI.mono) 9;have N6:=Yz (P:=Bw.prog) (w:=w) (base:=base) (k:=1) LC Df (En.mono);have Om:=Yy (P:=Bw.prog) (w:=w) (base:=base) (k:=1) LM Df (En.mono);have LG:=Yo (P:=Bw.prog) (w:=w) (base:=base) (k:=20) Im LC (N6.mono) DL (GC.mono);have tj:=rP (P:=Bw.prog) (w:=w) (base:=base) (k:=23) uF Eo (Fs.mono) LM (Om.mono) Im (LG.mono) Iz (L1.mono) JE (ME.mono) Gi (Ic.mono) FI (HB.mono) D4 (FE.mono) D9 (Ew.mono) CZ (Co.mono);exact sJ hK tj
def walkX:WalkO qX [] (XL qX []) hX.says Bw.row.toRowW dX [] zBE :=
 L2.ng (l:=Bw) (n:=63) (k:=24) (x := "_law_script") (CX:=fun _=>Ag) (K:=kH) (sp:=fun w=>cD EV) rfl AT rfl ⟨rfl,by decide,by decide⟩ (fun w mg h X G H d e=>by rw[mg_none_of X G IP]at e;cases e) (fun w h Y=>kIn_of Y) wZ (fun _ _ a ns g _ R=>⟨a,ns,rfl,R,g,fun _=>rfl⟩) fun _ _ _ _ _ z=>z
end
end Q95
open PySem PySem.W PyProof.Rows
set_option maxRecDepth 100000 in
theorem PySem.Challenge.cw_stepgrove_k95_whole_mirrored_rules_holds : PySem.Challenge.rw_stepgrove_k95_whole_mirrored_rules.Holds := by
  refine Q95.openX ?hw Q95.walkX
  w_witness2
#print axioms PySem.Challenge.cw_stepgrove_k95_whole_mirrored_rules_holds
