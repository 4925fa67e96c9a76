import PyProof.Rows.All
import Wide.All
import OpenK.AllK
import Wide.FinOn
import Lean
import PyProof.EqAt
import PyProof.EqKinds
import PyProof.TupleCall
import PySem.Challenge.RW_stepgrove_k80_changes_as_texts
set_option Elab.async false
set_option linter.all false
set_option compiler.extract_closed false
set_option maxRecDepth 100000
abbrev BQ:=@List.getElem?_map
abbrev BG:=@List.length_map
abbrev Ct:=@List.getD_eq_getElem?_getD
abbrev BU:=@List.map_cons
abbrev B5:=@Option.bind_some
abbrev Cp:=@List.size_toArray
abbrev EB:=@List.length_append
abbrev Cu:=@List.map_map
abbrev FP:=@Int.toNat_natCast
abbrev Ft:=@Bool.and_eq_true
abbrev Fv:=@List.length_cons
abbrev HP:=@List.replicate_succ
abbrev GZ:=@List.append_nil
abbrev Hm:=@List.flatten_cons
abbrev Hl:=@List.length_drop
abbrev Ib:=@List.all_eq_true
abbrev Ja:=@List.map_append
abbrev Ms:=@List.append_assoc
abbrev Mb:=@List.length_take
abbrev KG:=@Bool.true_and
abbrev QY:=@List.filterMap_cons
abbrev Ni:=@List.lookup_cons
abbrev SV:=@Array.getElem?_toList
abbrev QZ:=@PySem.StrLaws.join_split
abbrev NU:=@Bool.eq_iff_iff
abbrev Nj:=@List.length_set
abbrev OA:=@Bool.false_and
abbrev Yt:=@Array.getD_eq_getD_getElem?
abbrev Ve:=@List.length_replicate
abbrev Uz:=@PySem.StrLaws.strSub_toList
abbrev SU:=@List.reverse_cons
abbrev Vg:=@Array.length_toList
abbrev U9:=@List.length_reverse
abbrev MD:=List PySem.PyData->Option PySem.PyData
abbrev Fg:=PySem.W.Frag
abbrev Wb:=@PySem.wpAny_bind
abbrev PD:=PySem.PyData
abbrev SD:=PySem.Shared
abbrev VL:=PySem.Value
abbrev AD:=PySem.Addr
abbrev aA:=@Option.bind_eq_some_iff
abbrev aB:=@PySem.wpAny_pure
abbrev aC:=@Option.map_eq_some_iff
abbrev aD:=@PySem.Heap.get?_push_of_some
abbrev aE:=@PySem.Heap.lt_size
abbrev aF:=@List.getElem?_eq_some_iff
abbrev aG:=@Nat.le_refl
abbrev aH:=@congrArg
abbrev aI:=@List.mem_cons
abbrev aJ:=@Nat.lt_of_lt_of_le
abbrev aK:=@Nat.le_trans
abbrev aL:=@Bool.false_ne_true
abbrev aM:=@PySem.wpAny_mono
abbrev aN:=@List.mem_map
abbrev aO:=@PySem.boot_len
abbrev aP:=@Nat.ne_of_lt
abbrev aQ:=@Option.some.inj
abbrev aR:=@List.mem_append_right
abbrev aT:=@List.mem_cons_of_mem
abbrev aU:=@of_decide_eq_true
abbrev aV:=@decide_eq_false
abbrev aW:=@Nat.zero_le
abbrev aX:=@decide_eq_true
abbrev aY:=@PySem.wpAny_newObj_type
abbrev aZ:=@PyProof.Rows.boot_isinstance
abbrev aa:=@PySem.Heap.get?_push_size
abbrev ae:=@List.mem_append
abbrev af:=@List.all_eq_true
abbrev ag:=@List.getElem_mem
abbrev ah:=@PySem.wpAny_standAt
abbrev ak:=@List.map_congr_left
abbrev ao:=@PySem.wpAny_holding
abbrev aq:=@PySem.PassesOwn.never
abbrev ar:=@List.mem_of_getElem?
abbrev au:=@PySem.wpAny_field
abbrev av:=@PySem.wpAny_callSpecial?_slot
abbrev ax:=@PySem.F.plainAttrs_list
abbrev ay:=@PySem.W.kia_one
abbrev az:=@List.mem_of_mem_drop
abbrev bA:=@PySem.wpAny_call_entry
abbrev bC:=@PySem.F.plainAttrs_str
abbrev bD:=@List.mem_range
abbrev bE:=@List.getElem?_eq_getElem
abbrev bF:=@PyProof.Rows.boot_tuple
abbrev bG:=@beq_iff_eq
abbrev bH:=@List.takeWhile_append_dropWhile
abbrev bI:=@Bool.eq_false_iff
abbrev bJ:=@Classical.byContradiction
abbrev bK:=@List.mem_cons_self
abbrev bL:=@PySem.lookup_relabel_local
abbrev bM:=@List.mem_of_mem_take
abbrev bN:=@Nat.pow_le_pow_right
abbrev bO:=@List.ext_getElem?
abbrev bP:=@PyProof.Rows.callWith_type1
abbrev bQ:=@PySem.W.hideAll_get
abbrev bR:=@PyProof.Rows.boot_list
abbrev bS:=@Nat.lt_of_le_of_lt
abbrev bT:=@of_decide_eq_false
abbrev bU:=@PyProof.Rows.boot_int
abbrev bV:=@List.mem_singleton
abbrev bW:=@List.mem_or_eq_of_mem_set
abbrev bX:=@PyProof.Rows.slot_tuple_getitem
abbrev bY:=@PySem.wpAny_of_eq
abbrev bZ:=@List.mem_filter
abbrev ba:=@PySem.wpAny_rule
abbrev bc:=@PyProof.Rows.KeyOrd.kle_refl
abbrev bf:=@beq_eq_false_iff_ne
abbrev bg:=@PySem.wpAny_seqItems
abbrev bh:=@List.pairwise_cons
abbrev bj:=@PyProof.Rows.boot_abs
set_option maxHeartbeats 0
abbrev vc:=List PD
abbrev vd:=List VL
abbrev ve:=VL->SD->Prop
abbrev vf:=PySem.Str->Option VL
abbrev vg:=Option PD
abbrev vi:=Array Nat
abbrev vj:=List Int
abbrev vo:=List PySem.Str
abbrev vp:=List PySem.Expr
abbrev vt:=Option Int
abbrev vv:=List Nat
abbrev vz:=List AD
abbrev v5:=List PySem.Stmt
abbrev v7:=List PySem.Env
abbrev v8:=List (Option Nat)
abbrev F0a:=PySem.FuncData
abbrev F0b:=PySem.Program
abbrev F0c:=PySem.World
abbrev F0d:=PySem.Around
set_option hygiene false
local macro_rules
|`(AC)=>`(by lia)
|`(AS)=>`(by decide)
|`(AT)=>`(model X.prog X.w)
|`(As)=>`((backTo cp (starEach [e] X.env)).all (fun x=>!x.1)&&(backToKw cp (keywordEach [] X.env)).all (fun x=>x.1.isSome) && decide (([e]:vp).length+([]:List Keyword).length+(if([]:List Keyword).isEmpty then 0 else 1)<30))
|`(A1)=>`(by simp)
|`(BY)=>`(Ag X scope cl N C s₀ H₀ fp)
|`(By)=>`(model prog w)
|`(B1)=>`(.ListComp elt [⟨.Name x px,iter,ifs,0⟩] scope pos)
|`(Ch)=>`((by have:=g.units;exact this))
|`(Cl)=>`(List (AD×Obj))
|`(Da)=>`(∀(D C:AD) (s':SD) (H':Hp) m,s'.heap.Ns C m->Q (.ref D) H'->(∀h',Heap.SameBut C s'.heap h'->Inv X pins σ H' { s' with heap:=h'})->C≠D->(∀b o,s2.heap.get? b=some o->b≠C)->H' C=none->s2.heap.objs.size<=C->RR (.ref D) C (.ok .next) s')
|`(Db)=>`(Inv X pins σ H s)
|`(Do)=>`(Or.inl rfl)
|`(EQ)=>`(.head _)
|`(EZ)=>`(AA (pv 0))
|`(Em)=>`(fC (.int 1))
|`(Ev)=>`((false,eval e X.env))
|`(FB)=>`(AA (pv 1))
|`(FS)=>`(fun _ _=>rfl)
|`(FY)=>`(Co (AR (B3 fun i j=>decide (j<i)) (AK DJ (AB (nm 0) AG)) (fC (.int 40))) (Co (AR (Ax true) (AF Ih (nm 0) (fC (.str (Str.ofString "0123456789")))) (fC (.str (Str.ofString "")))) (Lm (AR (Ax false) (AF A8 (nm 0) (fC (.int 0))) (fC (.str (Str.ofString "0")))) (AR (Ax true) (nm 0) (fC (.str (Str.ofString "0")))))))
|`(Fa)=>`({ s with heap:=((s.heap.update a (Obj.mapSeq fun _ => #[])).push (seqObj "tuple" us.toArray 0)).push (seqObj "list" #[] 0) })
|`(Fk)=>`(.Call (.Name x p) (e::es) [] pos)
|`(GC)=>`(AD->Option Bool)
|`(GE)=>`(x==("__debug__" : Str))
|`(GG)=>`(nm 0)
|`(GM)=>`(by rw[Du])
|`(GT)=>`(nm 1)
|`(Gf)=>`(Rw G0 H0 G H σ δ ts)
|`(Go)=>`(fC (.int 0))
|`(Hq)=>`(AA (pv 2))
|`(IF)=>`(.int ((k:Nat):Int))
|`(IG)=>`((forIn scope.names [] (fun(x:Str×NameKind) (r:List (Str×AD))=>do if(x.2==NameKind.free)=true then do let a <-cellOf X.env x.1;pure (ForInStep.yield ((x.1,a)::r)) else pure (ForInStep.yield r)):Sem (List (Str×AD)))>>=fun cs=>pure cs)
|`(IN)=>`(Ag X scope cl N U.objs.size s2 R fp)
|`(IO)=>`(B3 fun i j=>decide (j<i))
|`(IR)=>`(∀D,g D=none->∃W:Nat->Nat->List V->Hp->Prop,(∃m,W 0 m [] (upd g D (.lst []))) /\∀i m ys H,W i m ys H->H D=some (.lst ys)/\((J.stop i H/\Q (.ref D) H)\/(J.go i H/\ys.length<sizeLine/\∀x H',J.FE i H x H' ->tif ((carry fr σ).set ix (some x)) H' fun b g=>if b=true then te ((carry fr σ).set ix (some x)) g fun y H3=>H3 D=some (.lst ys)/\∃U,U<m/\W (i+1) U (ys++[y]) (upd H3 D (.lst (ys++[y]))) else ∃U,U<m/\W (i+1) U ys g)))
|`(IS)=>`(∀D,R D=none->∃W:Nat->Nat->List V->Hp->Prop,(∃m,W 0 m [] (upd R D (.lst []))) /\∀i m ys H,W i m ys H->H D=some (.lst ys)/\((J.stop i H/\Q (.ref D) H)\/(J.go i H/\ys.length<sizeLine/\∀x H',J.FE i H x H'->∀Z,Rv Z->g x Z H' fun σ6 H6=>Rv σ6 /\tif σ6 H6 fun b R=>if b=true then te σ6 R fun y H3=>H3 D=some (.lst ys)/\∃m',m'<m/\W (i+1) m' (ys++[y]) (upd H3 D (.lst (ys++[y]))) else ∃m',m'<m/\W (i+1) m' ys R)))
|`(Id)=>`(fun z=>nomatch z)
|`(Iv)=>`(Tx.sep c)
|`(Ix)=>`(EP X pins σ Q)
|`(JQ)=>`(["_law_script","_law_k"])
local macro_rules
|`(J9)=>`(Ax false)
|`(KB)=>`(∀D ys G' H',Rw G0 H0 G' H' σ δ ts->H' D=some (.lst ys)->G' D=none->H0 D=none->(∀(j:Nat) (us:Oc),δ[j]? = some (L.own us)->σ[j]?≠some (some (V.ref D)))->Aq G' zs ys->Q (.ref D) H')
|`(KM)=>`(.lst ys)
|`(LD)=>`(∀(δ:Dv) (xs:vc),fs δ=some xs->∀(G0 H0 G H:Hp) (σ:St) (ts:List (PD×V)) (R:It->Hp->Prop),Rw G0 H0 G H σ δ ts->(∀J G' H',Rw G0 H0 G' H' σ δ ts->KW J xs G'->R J H')->wi σ H R)
|`(LE)=>`(B3 fun i j=>decide (i<j))
|`(LT)=>`(nm 2)
|`(Lx)=>`(starEach es X.env)
|`(L0)=>`(.Name x np)
|`(L6)=>`(.str x)
|`(MF)=>`(fC (.int 16))
|`(My)=>`(Dv->Option PD)
|`(M0)=>`(Str.ofString "0123456789")
|`(M1)=>`(AA (pv 3))
|`(M2)=>`(["thing","unknowns"])
|`(M6)=>`(nm 3)
|`(NA)=>`(Ab _)
|`(NE)=>`(List (List Key×V))
|`(NR)=>`(newFunctionEnv scope X.env.globals cl [] X.env.qual none .none (some X.env))
|`(NX)=>`(fC (.int 2))
|`(Nb)=>`(Ax true)
|`(No)=>`(["_law_text"])
|`(N1)=>`(List Str)
|`(N2)=>`(ys.map .str)
|`(N7)=>`(.ref s.heap.objs.size)
|`(OF)=>`(envOfC qual scope s.heap.objs.size f cd)
|`(OK)=>`(AF Kv (fun δ=>((nm 1) δ).bind HJ) (fC (.str (Str.ofString " = "))))
|`(OL)=>`(.ref C)
|`(ON)=>`(fC (.str (Str.ofString "")))
|`(OP)=>`(∀b∈ch,(b∈X.ex\/X.s₀.heap.objs.size<=b)/\b≠X.env.locals/\(∀x c,X.env.cells.lookup x=some c->c≠b)/\∀p∈X.pn++pins,p.1≠b)
|`(OR)=>`((·.1))
|`(OZ)=>`(.type "tuple")
|`(Of)=>`(List (PD×V))
|`(On)=>`(["_law_lines","_law_number_here","_law_more"])
|`(Op)=>`((forIn scope.names [] (fun (x : Str×NameKind) (r : List (Str×AD)) => do if (x.2 == NameKind.free) = true then do let a <- cellOf X.env x.1; pure (ForInStep.yield ((x.1,a) :: r)) else pure (ForInStep.yield r)):Sem (List (Str×AD))) >>= fun cs => pure cs)
|`(Os)=>`(["_law_text","_law_number_here","_law_more"])
|`(PP)=>`(fC (.str (Str.ofString "xyzw")))
|`(PR)=>`(mg "len" = none)
|`(PV)=>`(∀x∈scope.names,x.2=NameKind.free->∃c,cl.lookup x.1=some c)
|`(PX)=>`(kH w.params)
|`(PZ)=>`(.ref a)
local macro_rules
|`(Pf)=>`(ha pins s σ H _ I h)
|`(Pg)=>`(he pins s σ H _ I h)
|`(Pi)=>`(i+1)
|`(Pl)=>`(fun cl C s₀ H₀ fp=>(he cl C s₀ H₀ fp).pe)
|`(Ps)=>`(fC .none)
|`(Pt)=>`(.tup xs)
|`(Pw)=>`(["_law_rest_here","_law_most","_law_deep"])
|`(P3)=>`(["word","figures"])
|`(RG)=>`(Dj N X.N scope X.env.scope fr 0=true)
|`(RQ)=>`(["thing"])
|`(RW)=>`(BZ items.size items.size hi-BZ items.size 0 lo)
|`(Re)=>`(K3 (X:=Ag X scope cl N U.objs.size s2 R fp) _ s8 _ H8 (.ref s2.heap.objs.size) [y] (.ref s2.heap.objs.size) [yv] (fun _ H9=>H9=upd H8 s2.heap.objs.size (.lst (ys++[y]))) I8 rfl (.cons r8 .nil) ⟨_,ys,y,rfl,rfl,hD8,hsz,rfl⟩)
|`(Rh)=>`(AA (pv 5))
|`(Rs)=>`(.int (many:Nat))
|`(SB)=>`(.lst xs)
|`(SL)=>`(aG _)
|`(ST)=>`(((n:Nat):Int))
|`(SZ)=>`(["_law_line_here","_law_k","_law_many"])
|`(Sc)=>`(List (List Key×PD))
|`(S0)=>`(List VL)
|`(TW)=>`(.builtin "object.__class__")
|`(Tj)=>`(fun vs H Q E h=>?_)
|`(Tk)=>`(AA (pv 4))
|`(Tl)=>`({s with heap:=h',toks:=tk})
|`(Tm)=>`(∀y∈scope.names,y.2=.free->X.env.scope.names.lookup y.1=some .cell\/X.env.scope.names.lookup y.1=some .free)
|`(To)=>`(∀vs H Q E,sp vs H Q E->vs.length=ps.length)
|`(Ty)=>`(CJ CX P w K mg base N qual scope f cdv A outer s H E)
|`(T0)=>`(Tx.sep 32)
|`(UF)=>`(List V)
|`(UV)=>`(∀x c,cl.lookup x=some c->X.env.cells.lookup x=some c)
|`(Uf)=>`(AB (nm 4) AG)
|`(WF)=>`(nm 5)
|`(WP)=>`(AQ rfl rfl)
|`(W1)=>`(((j:Nat):Int))
|`(XN)=>`(PD->Dv->Option Dv)
|`(XV)=>`(.bool true)
|`(ZB)=>`(X.A.units+64<cLine)
|`(am)=>`(List (List Bj))
|`(a6)=>`(by simpa using hi)
|`(bd)=>`(fun _ _ _ _ _=>EV)
local macro_rules
|`(bi)=>`(HT.BZ xs.length 0 lo=0/\HT.BZ xs.length xs.length hi=xs.length)
|`(bn)=>`(wpAny_attempt (av (name:=Str.ofString "__next__") g F.slot_dict_keyiterator_next (bA F.slot_dict_keyiterator_next g F.entry_dict_keyiterator_next ?_ (F.args_dict_keyiterator_next_1 _))))
|`(bv)=>`(.inl rfl)
|`(b6)=>`((false,eval a X.env))
|`(ce)=>`(.builtin "getset_descriptor.__get__")
|`(ci)=>`(PySem.W.fnOf name qual params g scope dV kV doc pm an cdv ct)
|`(cr)=>`(p.cps.toList.drop (if low=true then 1 else 0))
|`(cv)=>`(.int ((i:Nat):Int))
|`(dL)=>`({s with heap:=h'})
|`(dO)=>`(X.calm=true)
|`(db)=>`(.type "int")
|`(di)=>`(aP (aJ (aE e) I.ok.above))
|`(dk)=>`(fun cdv A outer s H vs Q E hr h=>?_)
|`(ef)=>`(Tx.sep 10)
|`(ft)=>`(.list (ls.map .str))
|`(fz)=>`(starEach [] X.env)
|`(f8)=>`(X.env.scope.kind==.class||(X.env.scope.kind==.module&&X.env.locals != X.env.globals))
|`(ge)=>`(do let v <- whole; standAt e.pos; holding [v] (truthy v))
|`(gl)=>`(.type "list")
|`(gv)=>`(.int n)
|`(iF)=>`(fC (.str (Str.ofString "*")))
|`(iN)=>`(Result->SD->Prop)
|`(iS)=>`(["_law_top","_law_bottom"])
|`(ii)=>`(k+1)
|`(im)=>`(Fc (Fl (Bv GD rfl AW aZ (Ac (pv 0) (Ac (GK (v:=.ty "tuple") rfl CC bF rfl) A3)))))
|`(io)=>`(Dv->Option (List PD))
|`(i0)=>`(PI X (.Name x px) iter wi)
|`(jl)=>`(.ListComp elt (⟨target,iter,g,0⟩::rest) scope pos)
|`(js)=>`(mg "isinstance" = none)
|`(jw)=>`(["_law_cell","_law_k"])
|`(kr)=>`(Dy P w)
|`(lb)=>`(seqObj "list" us.toArray 0)
|`(lc)=>`(["_law_rest_here","_law_most","_law_deep","_law_many","_law_change_here","_law_k","_law_terms","_law_count","_law_j","_law_powers","_law_turn","_law_part_here"])
|`(li)=>`(((boot_heap w.params).isNs mainGlobals&&(#[]:Array GenState).size==0,(boot_heap w.params).objs.size,(boot_heap w.params).nsMap mainGlobals "__annotations__"))
|`(ll)=>`(by simp;lia)
|`(lp)=>`(.error e)
|`(lr)=>`(aB ?_)
|`(lv)=>`({s3 with heap:=s3.heap.push { cls:=.type "slice",data:=.fields #[M,g,.none]} })
|`(l0)=>`(["change"])
|`(l4)=>`(((ls.map PyData.str).length:Nat))
local macro_rules
|`(l5)=>`(by simp only[List.size_toArray]<;>lia)
|`(mo)=>`(List Int)
|`(ms)=>`(PD->PD->Option PD)
|`(mt)=>`(HT.BZ xs.length xs.length hi-HT.BZ xs.length 0 lo)
|`(mu)=>`(.ListComp elt [⟨target,iter,ifs,0⟩] scope pos)
|`(nn)=>`(X.N.Nodup)
|`(nw)=>`(((ts.take i).map BM).map .str)
|`(nz)=>`(.type "ValueError")
|`(n0)=>`(ha pos pins s σ H _ I h)
|`(oF)=>`(by simpa using l)
|`(oR)=>`(s.heap.objs.size+1)
|`(o0)=>`(fun c=>?_)
|`(ph)=>`(.str (Str.ofString "\n"))
|`(ra)=>`(.list (I.map .str))
|`(rb)=>`(by simp[CJ])
|`(rc)=>`({cenv with scope:=relabel scope X.env})
|`(re)=>`(DE X a f)
|`(rs)=>`(.ref it)
|`(sK)=>`(fun _ _=>False)
|`(ss)=>`(.own (.Cf kvs))
|`(tO)=>`(fC (.str (Str.ofString "/")))
|`(tt)=>`(Str.ofString n)
|`(tz)=>`(some v)
|`(t7)=>`(PySem.W.fnOf x qual (GI st) (Cg st) (AO st) .none kV doc pm an cdv ct)
|`(t9)=>`(.ListComp elt [⟨tgE,iter,ifs,0⟩] scope pos)
|`(ul)=>`(((carry fr σ).set ix (some I)).set Y (some l))
|`(ut)=>`(.int 4)
|`(u0)=>`(.str w)
|`(vY)=>`(.list ((p::r).map .str))
|`(vh)=>`(["_law_word","_law_many"])
|`(vq)=>`(["_law_found","_law_due"])
|`(vw)=>`(aB ⟨_,rfl,wpAny_pure h⟩)
|`(vy)=>`(AO st)
|`(v3)=>`(.lst [])
|`(v6)=>`(ap.endLine==cp.line)
|`(wA)=>`(eval a X.env)
|`(wB)=>`(.type "bool")
|`(wC)=>`(ns.map V.int)
|`(wD)=>`(forIn ifs true fun c r=>if r=true then do let ok <-isTrue c env (eval c env);pure (ForInStep.yield ok) else pure (ForInStep.yield r))
|`(wE)=>`(UL.getD k 0)
local macro_rules
|`(wF)=>`(((a:Nat):Int))
|`(wG)=>`(VL->VL->Sem VL)
|`(wH)=>`(List Nat)
|`(wJ)=>`(Str.ofString "-")
|`(wK)=>`(Tx.s3 43)
|`(wL)=>`(tupI t.1)
|`(wM)=>`(Sd rfl ⟨by decide,by decide⟩)
|`(wN)=>`(.int i)
|`(wO)=>`((false,eval b X.env))
|`(wP)=>`(Hi wi fr ix tif te)
|`(wQ)=>`(A2 (hi pins s σ H _ I hw) fun v s1 h1=>A2 h1 fun itv s2 h2=>?_)
|`(wR)=>`(by with_unfolding_all rfl)
|`(wS)=>`(assign (.Name y py) X.env)
|`(wT)=>`(Str.ofString (toString i))
|`(wU)=>`(aE e)
|`(wV)=>`(List PD)
|`(wW)=>`(.Call (.Attribute a "split" ap) [e] [] cp)
|`(wX)=>`(.Name x pos)
|`(wY)=>`(I.ok.hd hc)
|`(wZ)=>`(δ.set i (.d y))
|`(wb)=>`(Bv EG rfl Ak aO (Ac (pv 0) A3))
|`(wc)=>`(.int (most:Nat))
|`(wd)=>`({s with heap:=h',toks:=t'})
|`(we)=>`(Loc X.env.scope x)
|`(wf)=>`(["_law_k","_law_some"])
|`(wg)=>`(Tx.sep 42)
|`(wh)=>`(Cr scope N x ix)
|`(wj)=>`((∀b∈fp,H' b=none))
|`(wk)=>`(BG)
|`(wo)=>`(onTheHeap (Value.ref C)&&Value.builtin "BaseException.__getattribute__" == Value.builtin "object.__getattribute__")
|`(wq)=>`(List α)
|`(wu)=>`(∀ y∈scope.names,y.2 = .free->X.env.scope.names.lookup y.1 = some .cell\/X.env.scope.names.lookup y.1 = some .free)
|`(wy)=>`(List Bj)
|`(wz)=>`(importedModules Ex.main.body)
|`(w4)=>`(by simpa using e)
|`(w5)=>`(∀b u,h.get? b=some u->h'.get? b=some u)
|`(w9)=>`(by simpa using h)
|`(xA)=>`(fC (.str (Str.ofString " ")))
|`(xB)=>`(["_law_script","_law_change_here","_law_lines","_law_handed","_law_told","_law_number_here","_law_more","_law_text"])
|`(xC)=>`(String)
local macro_rules
|`(xD)=>`(start N vs)
|`(xE)=>`(.ref s3.heap.objs.size)
|`(xF)=>`(fr.length=N.length)
|`(xG)=>`(V->Option Int->Option Int->Hp->VK->Prop)
|`(xH)=>`(fun b ob q=>aD _ q)
|`(xI)=>`(s.heap.objs.size+2)
|`(xJ)=>`(s.heap.objs.size+3)
|`(xK)=>`(ts.map BM)
|`(xL)=>`(FH (EO x))
|`(xM)=>`((Bp fr δ).set i (.d (a z)))
|`(xN)=>`(.int m)
|`(xO)=>`(Bool->Hp->Prop)
|`(xP)=>`(X.env.scope.names.lookup y=some .local)
|`(xQ)=>`({D with nx:=N,ct:=N,bk:=D.nx})
|`(xR)=>`(A.handled=none)
|`(xS)=>`(X.env.scope.names.lookup z=some .local)
|`(xT)=>`(DE X e f)
|`(xU)=>`(PySem.W.hideAll s.heap (X.stack.filterMap (·.frame)))
|`(xV)=>`(compEnvC scope cl U.objs.size X.env)
|`(xW)=>`(fpX [] H3 (fun _ z=>by cases z) fr3)
|`(xX)=>`(by kernel_rfl)
|`(xY)=>`(binaryOp .Add)
|`(xZ)=>`(BQ)
|`(xb)=>`(fun _ _ _ _ _=>(AA (pv 1)))
|`(xc)=>`(Str->Option Value)
|`(xf)=>`(BU)
|`(xg)=>`(by decide +kernel)
|`(xh)=>`(List.range us.length)
|`(xi)=>`(IsPair s.heap TI (.ref i1) (.ref i2))
|`(xj)=>`(List Key)
|`(xl)=>`(B3 fun i j=>decide (j<=i))
|`(xm)=>`(.str (Str.ofString " + "))
|`(xn)=>`(fun(k:Int) (j:Nat)=>List.replicate k.toNat (j:Int))
|`(xo)=>`({s with heap:=s.heap.push { cls:=.type "range",data:=.fields #[.int lo t,.int hi u,.int 1 v]},toks:=tk})
|`(xp)=>`(.builtin id)
|`(xq)=>`(Tx.sep 43)
|`(xr)=>`(.Cf (Et ds))
|`(xu)=>`(α->SD->Prop)
|`(xw)=>`(binaryOp .Mult)
|`(xx)=>`(.ref ea)
local macro_rules
|`(xy)=>`(List Key×AD×VL)
|`(xz)=>`(Tx.sep 0)
|`(x6)=>`(.int (c:Nat))
|`(x8)=>`((x.cps.toList.drop (r+1)).take 1)
|`(x9)=>`(.list (Hx.map .str))
|`(yA)=>`(DN P w H h)
|`(yB)=>`(Scope)
|`(yC)=>`((envOfC qual scope s.heap.objs.size f cd::outer))
|`(yD)=>`(a==sysModules)
|`(yE)=>`(["_law_text","_law_number_here","_law_more","_law_some","_law_sign","_law_at","_law_next_sign"])
|`(yF)=>`(boot_heap w.params)
|`(yG)=>`(Nat.lt_irrefl _)
|`(yH)=>`(model P w)
|`(yI)=>`(.ref p)
|`(yJ)=>`(Key key p (m-1))
|`(yK)=>`(DI X (.Name x px) iter fs)
|`(yL)=>`(Nat->Heap->Prop)
|`(yM)=>`(Dv->Option Bool)
|`(yN)=>`(["_law_script"])
|`(yO)=>`((·.frame))
|`(yP)=>`(.type "str")
|`(yQ)=>`(Ah P w K mg base CX k f fd ps sp)
|`(yR)=>`({s3 with heap:=s3.heap.push { cls:=.type "slice",data:=.fields #[.none,.none,.int (-1) g]} })
|`(yS)=>`(List (κ×V))
|`(yT)=>`(mg "tuple" = none)
|`(yU)=>`(["powers","part"])
|`(yV)=>`(fC (.int 5))
|`(yW)=>`((· == 45))
|`(yX)=>`(by rw[hC];exact Nat.le_succ _)
|`(yY)=>`(kvs.any fun g=>decide (g.1=k))
|`(yZ)=>`(VL->AD->Result->SD->Prop)
|`(yb)=>`(Fn X.K X.mg x st ps f fd)
|`(yc)=>`(fs δ=some xs)
|`(yd)=>`(["_law_some"])
|`(ye)=>`(["_law_lines","_law_number_here","_law_more","_law_at","_law_to","_law_words","_law_odd"])
|`(yf)=>`(((BZ items.size 0 lo:Nat):Int))
|`(yg)=>`(Na I5 hN hy (.inl hly) (v:=.ref D') rfl (fun s'' I6 ⟨a,hsb,ha⟩ => ?_) (.inr hly))
|`(yh)=>`(.type (NZ d))
|`(yk)=>`(.tup [.int (i:Nat),x])
|`(ym)=>`(Rw.start I Y)
local macro_rules
|`(yn)=>`(CT X.prog X.w X.K X.mg X.base CX k f fd ps sp)
|`(yo)=>`(.int b)
|`(yp)=>`(fC (.str (Str.ofString "=")))
|`(yq)=>`(Bw 1)
|`(yr)=>`(w.cps.toList.head? = some 45)
|`(yt)=>`(s3 c)
|`(yu)=>`((t.2.num,(t.2.den:Int)))
|`(yw)=>`(Bi t.2)
|`(yx)=>`(Option VL->SD->Prop)
|`(yy)=>`(by simp only[PyData.canLay0,Bool.and_eq_true]at c;first|exact c|exact c.2|exact c.1)
|`(yz)=>`(["_law_k","_law_some","_law_words","_law_powers","_law_part_here","_law_word","_law_j"])
|`(y3)=>`(Unit->SD->Prop)
|`(y6)=>`(Gl X x)
|`(y7)=>`(PE X a ta)
|`(y8)=>`(V->List V->Hp->VK->Prop)
|`(y9)=>`(List (Str×AD))
|`(zA)=>`(["term","names"])
|`(zB)=>`(["line","names"])
|`(zC)=>`(List (List TG))
|`(zD)=>`(fun b=>?_)
|`(zE)=>`((by have:=l.units;exact this))
|`(zF)=>`(.bool low)
|`(zG)=>`(ps.map Az)
|`(zH)=>`(ha pins s σ H Q I h)
|`(zI)=>`(ho pins s σ H _ I h)
|`(zJ)=>`(wpAny_newFunctionEnv S.cell (by intro y hy;simp at hy) (fun h₁ Y I=>?_) S.kind)
|`(zK)=>`(.list xs)
|`(zL)=>`(Fc (Fl (Bv GD rfl AW aZ (Ac (pv 0) (Ac (GK (v:=.ty "list") rfl EA bR rfl) A3)))))
|`(zM)=>`(fC (.bool false))
|`(zN)=>`(Tx.s3 61)
|`(zO)=>`(.int (0+(i:Nat)))
|`(zP)=>`(Az ts)
|`(zQ)=>`(.str (Tx.Bt [c]))
|`(zR)=>`(X.env.frame=some X.env.locals)
|`(zS)=>`(.ListComp elt [⟨.Tuple [.Name x px,.Name y py] tk tp,iter,ifs,0⟩] scope pos)
|`(zT)=>`(OsState)
|`(zU)=>`(.ref f)
|`(zV)=>`(VL->SD->Prop)
|`(zW)=>`(.Subscript e (.Slice lo hi none p2) pos)
|`(zX)=>`(h pins s σ H D (I.EU _) k)
local macro_rules
|`(zY)=>`(fun g ha=>HQ (FV ax PySem.F.slot_list_insert PySem.F.type_list_insert TV g ha))
|`(zZ)=>`(.str t)
|`(zb)=>`(optN (some n))
|`(zc)=>`(fun z=>some (PyData.str z))
|`(zd)=>`(fun z=>some (PyData.int z))
|`(ze)=>`(Str.empty++Tx.sep c++Str.ofString " = ")
|`(zf)=>`(.nx δ')
|`(zg)=>`(Ac pa A3 hs)
|`(zi)=>`((toString "invalid literal for int() with base " ++ toString 10++toString ": "))
|`(zk)=>`(.UnaryOp .Not a pos)
|`(zm)=>`((·.2))
|`(zn)=>`((∀c o,c≠z->c≠TO->c≠i1->c≠i2->s.heap.get? c=some o->h'.get? c=some o))
|`(zo)=>`(B5)
|`(zp)=>`(∀(i:Nat) (c:Oc),δ[i]?≠some (L.own c))
|`(zq)=>`(x.cps.toList.take k)
|`(zr)=>`(x.cps.toList.drop k)
|`(zu)=>`(fun b o hb e=>eb b o hb e)
|`(zv)=>`(Cv ps)
|`(zw)=>`(0+((k:Nat):Int))
|`(zx)=>`(k==NameKind.free&&X.env.scope.kind==.function&&X.env.kindOf m'==some .cell)
|`(zy)=>`(fun y hy hf=>I.ok.has y.1 (l y hy hf))
|`(z9)=>`(Nat->List V->Hp->Prop)
|`(zAA)=>`(T.self X.A 0 _ _ _ (T.keep _ _ _ st2 fun b _ o e=>old b o e) (loop _ rfl))
|`(zAB)=>`(∃rest,X.stack=X.env::rest)
|`(zAC)=>`(mg "range" = none)
|`(zAD)=>`(RR acc cenv.locals)
|`(zAE)=>`(.tail _ g)
|`(zAF)=>`(aP (show a<l from aJ (Nat.lt_succ_self a) (aK (Nat.le_max_right _ _) g)))
|`(zAG)=>`(AB (fC (.str (Str.ofString "0"))) AG)
|`(zAH)=>`(aH PyData.str (Tx.BL ?_))
|`(zAI)=>`(ts.map Dp)
|`(zAJ)=>`(.int ((r:Nat):Int))
|`(zAK)=>`(.int (k:Nat))
|`(zAL)=>`(∀(i:Nat) (xs:Oc),δ[i]? = some (L.own xs)->σ[i]?≠some (some (V.ref D)))
|`(zAM)=>`(i6 ha R I h fun v u s2 x y U T l g q=>M pins s2 σ U x y v u Q T l g q)
|`(zAN)=>`(Str->Option VL)
|`(zAO)=>`(X.env.scope.names.lookup n=some .local)
|`(zAP)=>`(IsZip s.heap z TI TO .none)
|`(zAQ)=>`(["_law_error"])
|`(zAR)=>`(["_law_line_here","_law_k","_law_many","_law_words","_law_found","_law_j"])
local macro_rules
|`(zAS)=>`(Af rfl rfl rfl)
|`(zAT)=>`(.Compare a [op] [b] pos)
|`(zAU)=>`(fun C=>CY (X:=Ag X scope cl N C s2 g fp) S.nd S.at_ (.inl Y) (.inr Y))
|`(zAV)=>`(Value.ref t==Value.none)
|`(zAW)=>`(Value.ref d==Value.none)
|`(zAX)=>`(List V->Hp->Prop)
|`(zAY)=>`(.builtin "sorted")
|`(zAZ)=>`(ys.map PyData.str)
|`(zAa)=>`(aM h4 (fun _ s5 ⟨xv,H5,I5,r5,y5,st5,fr5⟩=>?_) fun _ _ z=>z.elim)
|`(zAb)=>`(Apart z TI TO i1 i2 f1 f2)
|`(zAc)=>`(Value->Shared->Prop)
|`(zAd)=>`(fun b o hb e=>(sb.2 b hb).trans e)
|`(zAe)=>`(∀σ H,Pv xs.length σ H->D.nx σ H)
|`(zAf)=>`(fun h o k b ob q=>aD _ (k b ob q))
|`(zAg)=>`(ds.length=ps.length)
|`(zAh)=>`({cenv with scope:=relabel scope env})
|`(zAi)=>`((DB (g _ e)).trans (by rw[M];rfl))
|`(zAj)=>`(["_law_word","_law_many","_law_parts","_law_part_here","_law_places"])
|`(zAk)=>`(∀cl C s₀ H₀ fp,II BY ifs tif)
|`(zAl)=>`(notedBy By A env fun e s'=>R lp s')
|`(zAm)=>`(AB GT AG)
|`(zAn)=>`(∀cl C s₀ H₀ fp,PE BY elt te)
|`(zAo)=>`(AF A8 (nm 6) (AF A7 (AF CO LT (fC (.int 1000))) (fC (.int 26))))
|`(zAp)=>`(Bd I q A1)
|`(zAq)=>`((e::es))
|`(zAr)=>`(AB M6 AG)
|`(zAs)=>`(AB LT AG)
|`(zAt)=>`(∀(δ:Dv) (xs:vc),fs δ=some xs->∀(G0 H0 G H:Hp) (σ:St) (ts:Of) (R:It->Hp->Prop),Rw G0 H0 G H σ δ ts->(∀J g H',Rw G0 H0 g H' σ δ ts->KW J xs g->R J H')->T σ H R)
|`(zAu)=>`(R2.drop.drop.put GM)
|`(zAv)=>`(fC (.str (Str.ofString "0")))
|`(zAw)=>`(AF A7 GT MF)
|`(zAx)=>`(∀cl C s₀ H₀ fp,Tw BY ifs tif)
|`(zAy)=>`(fun r s'=>r=.ok (.ret XV)/\OldK g.heap s'.heap/\s'.os=g.os/\AllBare s'.gens)
|`(zAz)=>`(AB GG AG)
|`(zBA)=>`(.tail _ EQ)
|`(zBB)=>`((carry fr σ).set ix (some x))
|`(zBC)=>`(.Try [.Assign [.Name y py] Fk l] [.ExceptHandler (some (.Name cx np)) (some n) [.Assign [.Name z pz] (.Name n pn) g] I] [] [] tp)
|`(zBD)=>`(AF Av WF (AF I0 (AF Av iF (AF A8 PP (nm 6))) (AF A8 M6 (nm 6))))
|`(zBE)=>`(E1 Fi (pv 0) B9 FS)
|`(zBF)=>`(∀cl C s₀ H₀ fp,RE BY elt te)
local macro_rules
|`(zBG)=>`(Ai (Cz Ch) (AV BD FB AJ) AJ NA)
|`(zBH)=>`(AB (AF MZ (AF A7 GG (fC (.int 13))) (fC (.int 6))) (AB (AF Av Em (AF A7 (AF CO GG (fC (.int 13))) (fC (.int 6)))) AG))
|`(zBI)=>`(Wb (wpAny_typeNameOfWhole_keyiter g lr))
|`(zBJ)=>`(Ai (Cz (by have:=I.units;exact this)) (AV BD FB AJ) AJ NA)
|`(zBK)=>`(Eu rfl rfl AS)
|`(zBL)=>`(.lst (ys++[y]))
|`(zBM)=>`(.Assign [.Subscript L0 a sp] e pos)
|`(zBN)=>`(AE FB AL)
|`(zBO)=>`(PE X L0 (DV i))
|`(zBP)=>`(∀(i:Nat) (x:PD) (δ:Dv),xs[i]? = some x->I i δ->∃l,set x δ=some l/\∃g,F l=some (.nx g)/\I Pi g)
|`(zBQ)=>`(∀i x σ H,xs[i]? = some x->Pv i σ H->g x σ H fun l R=>T {D with nx:=Pv Pi,ct:=Pv Pi,bk:=D.nx} l R)
|`(zBR)=>`(.str (Str.ofString " = "))
|`(zBS)=>`(AE EZ AL)
|`(zBT)=>`(Bz yq (AR Nb GT (fC (.str (Str.ofString "+")))) GT [none,none] (Di (Qq M6 (fC (.int 3)) NX)))
|`(zBU)=>`(A.deeper (envOfC x vy s.heap.objs.size fA cdv))
|`(zBV)=>`(Co (GU (E6 (SJ En LT))) (AR Nb (Bz yq (GU (E6 (SJ Dk GT))) GT [none,none] (Di LT)) (Ce AG)))
|`(zBW)=>`(.lst N2)
|`(zBX)=>`(do let _ <- comprehension B1 scope X.env _ (newList []) false (eval iter X.env) (some wS))
|`(zBY)=>`(min ST (items.size:Int))
|`(zBZ)=>`(∀cl C s₀ H₀ fp,DE BY elt f)
|`(zBa)=>`(∀h' e m,Heap.MadeExcOf s.heap h' e nz [m]->E (.ref e) {s with heap:=h',toks:=s.toks+1+1})
|`(zBb)=>`(aP (aJ wU (I.ok.Vq x c Y T)))
|`(zBc)=>`((compTurn mu 0 it acc env).onRaise (fun x=>do noteFrame x env;theTreesLotGoes x))
|`(zBd)=>`(nm 4)
|`(zBe)=>`(us.map fun c=>PyData.str Iv)
|`(zBf)=>`((fun n s'=>∃i ys Z H',Inv IN [] Z H' s'/\Rv Z/\tn i s'.heap/\wj/\W i n ys H'))
|`(zBg)=>`(CI (Co (GU (E6 (AK UR (AB WF AG)))) (AR Nb (AK AZ (AB WF AG)) GG)) (A9 Ps) BH)
|`(zBh)=>`(AI rfl rfl (Ql I AC))
|`(zBi)=>`(Cn ES (AB (AF A7 GG (AF Av LT Em)) AG))
|`(zBj)=>`(Ym (fun δ=>(Cf 6 δ).bind HL) (WM Em))
|`(zBk)=>`(cT (NQ rfl (Er (CY (i:=3) sc.nd rfl Do) (Er (CY (i:=4) sc.nd rfl Do) L9))))
|`(zBl)=>`(AN (UT 9 (AF A7 (AF CO GG yV) M6) Em) (Am 0 (AF Av (AF CO GG M6) (nm 10))))
|`(zBm)=>`((∀I H',N I H'->∃U,U<m/\W Pi U I H'))
|`(zBn)=>`(I.Ay.fresh SL)
|`(zBo)=>`(List PD)
|`(zBp)=>`(Draws.list (prog:=X.prog) (w:=X.w) (A:=X.A.in1) wY it a hai its.toArray)
|`(zBq)=>`(AE M1 AL)
|`(zBr)=>`(AE Hq AL)
|`(zBs)=>`(AF CO LT (fC (.int 100)))
|`(zBt)=>`(ZT.MT (prog:=X.prog) (w:=X.w) (A:=X.A.in1) wY b1 i1 a1 us (e1 i1 A1))
local macro_rules
|`(zBu)=>`(ZT.MT (prog:=X.prog) (w:=X.w) (A:=X.A.in1) wY b2 i2 a2 vs (e2 i2 A1))
|`(zBv)=>`(BE Ci C7 g rfl (AE (BE Cq DQ g rfl (AE EZ (AE AJ AL))) (AE AJ AL)))
|`(zBw)=>`(yf==0&&(1:Int)==1&&RW==items.size)
|`(zBx)=>`(fun e s'=>R lp s')
|`(zBy)=>`(AK Be zAm)
|`(zBz)=>`(E4 (EJ 1 2) Dl (AK (Bc AZ) (AB GT zAs)) [.no,.no,.no])
|`(zCA)=>`(Co (AR J9 (AF A7 (AK Be zAr) NX) Go) (Co (AR Nb (AF A8 M6 Go) (AF A8 PP GT)) (AR Nb (AF A8 M6 Em) yp)))
|`(zCB)=>`(AB WF (AB (AF MZ (AK DJ zAz) Em) AG))
|`(zCC)=>`(Ie (AB (AF FG M6 (AF A8 (Ce (AB Em (AB (WM Em) AG))) (AK QJ zAs))) Uf))
|`(zCD)=>`(Bz yq (Co (AR LE GT Go) (AR xl GT LT)) GT [none,none,some 1] (Di zBd))
|`(zCE)=>`(AR VJ (AF A8 (AF A8 zBd WF) Go) (AF A8 (AF A8 zBd (AF MZ WF Em)) Go))
|`(zCF)=>`(Bz yq (AR Nb (AK DJ zAm) Em) GT [none,none] (Di (QU LT (Jr Em) Ju)))
namespace Opn
open PySem PySem.W PyProof.Rows PySem.Calls
noncomputable def q0:Pos:=⟨0,0,0,0⟩
noncomputable def tw:Obj:={ cls:=.type "tuple",data:=.seq #[]}
noncomputable def tY:Obj:={ cls:=.none,data:=.fields #[]}
noncomputable def uB:Obj:={ cls:=.type "code",data:=.fields #[.str (Str.ofString "<module>") 182,.str (Str.ofString "<module>") 183,.str (Str.ofString "/claim/cut.py") 184,.int 1 0,.int 0 0,.int 0 0,.int 0 0,.int 0 0,.ref 11,.bool false,.int 181 0,.ref 12,.none,.none,.none,.none,.int 185 0,.int 1 0,.str (Str.ofString "/claim/cut.py") 186]}
noncomputable def uG:Obj:={ cls:=.type "frame",slots:=#[some (.ref 13),some (.ref 3),some (.ref 3),none,some (.str (Str.ofString "__main__") 164),none,some (.ref 0)]}
noncomputable def sW(P:Params):List Obj:=(boot_heap P).objs.toList++[tw,tY,uB,uG]
noncomputable def nN(P:Params)(o:Params->Obj)(l r:BT):BT:=.node (o P) l r
noncomputable def lN(P:Params)(o:Params->Obj):BT:=.node (o P) .nil .nil
noncomputable def sv(P:Params):BT :=
 nN P boot_o_0 (nN P boot_o_1 (nN P boot_o_3 (lN P boot_o_7) (.node tw .nil .nil)) (nN P boot_o_5 (lN P boot_o_9) (.node uB .nil .nil)))
  (nN P boot_o_2 (nN P boot_o_4 (lN P boot_o_8) (.node tY .nil .nil)) (nN P boot_o_6 (lN P boot_o_10) (.node uG .nil .nil)))
noncomputable def jI:Life:=Life.mk [] [] [] 0 [] [] false #[] [] 0 false false false 0 [2000,10,10] false 0 true [] [] 0 false
noncomputable def sA(w:F0c)(os:zT):SD:=⟨⟨⟨sW w.params⟩,jI⟩,#[],boot_drawn,187,os⟩
noncomputable def sB(w:F0c)(os:zT):SharedT:=⟨sv w.params,15,jI,#[],boot_drawn,187,os⟩
noncomputable def QO(p:F0b):Env:={ scope:=p.main.scope,locals:=mainNs,globals:=mainNs,cells:=[],code:=.ref 13,frame:=some 14}
noncomputable def cB(p:F0b):Code:=.body (behindTheImports p) (QO p)
noncomputable abbrev JX:Option VL:=some (.ref 6)
noncomputable abbrev bB:List Frame:=[topFrame q0]
noncomputable def ZX(p:F0b)(M:Nat)(w:F0c)(os:zT):Option (Flow×SharedT×Code×Pos) :=
 PySem.W.Fast.tw10110043849684766642 PySem.W.Fast.tw14364793385576792824 p w 11 JX 1 M (sB w os) (piecesOf (behindTheImports p) (QO p) (cB p) q0 bB)
noncomputable def Za(p:F0b)(M:Nat)(w:F0c)(os:zT):SharedT:=match ZX p M w os with|some (_,s,_)=>s|none=>sB w os
def lR{p:F0b}{M:Nat}{w:F0c}{os:zT}{r:Option (Flow×SharedT×Code×Pos)}(h:ZX p M w os=r):segRunT treeTable p w 11 JX 1 M (sB w os) (piecesOf (behindTheImports p) (QO p) (cB p) q0 bB)=r:=by
 have e:segRunT treeTable=PySem.W.Fast.tw10110043849684766642 PySem.W.Fast.tw14364793385576792824:=congr PySem.W.Fast.te10110043849684766642 PySem.W.Fast.te14364793385576792824;rw[e];exact h
def rJ{p:F0b}{M I:Nat}{g:Pos}{w:F0c}{os:zT} (pre:topGo treeTable p w 11 JX 12 ⟨boot_heap w.params,#[],boot_drawn,boot_toks,os⟩ (topStub p)=some (sA w os,⟨denote treeTable (cB p),cB p,q0,bB⟩)) (l:segRun treeTable p w 11 JX 1 1 (sA w os) (blockOf (behindTheImports p) (QO p) (cB p) q0 bB)=some (.next,(sB w os).abs,cB p,q0)) (seg:ZX p M w os=some (.next,Za p M w os,cB p,g)) (fin:∀s,topRun treeTable p w 11 JX 2 s (restOf [] (QO p) (cB p) g bB)=some s)(R:I=12+(1+(M+2))):topRun treeTable p w 11 JX I ⟨boot_heap w.params,#[],boot_drawn,boot_toks,os⟩ (topStub p)=some (Za p M w os).abs:=by
 subst R;refine go_top pre (piece_block l ?_);have h:=piece_app (rest:=[]) (segRun_of (lR seg)) (fin _);rw[(GZ)]at h;exact h
def l9{p q:F0b}{loose:vo}{Xt:SD->Bool}{α:Type}{Yf:SD->α}{Ya:F0c->α}{N M:Nat}{S:F0c->OsState->SD} (g:∀w:F0c,(fencedOpening treeTable p w N).map (fun s=>(s.heap,s.gens,s.drawn,s.toks))=some (boot_heap w.params,#[],boot_drawn,boot_toks)) (size:∀w:F0c,li=(true,11,JX)) (run:∀w os,topRun treeTable p w 11 JX M ⟨boot_heap w.params,#[],boot_drawn,boot_toks,os⟩ (topStub p)=some (S w os))(le:Nat.ble M N=true) (ok:∀w os,(staticsOk (importedModules p.main.body) yF (S w os).heap&&namesBound p (S w os).heap&&gensDone (S w os)&&laidKept yF (S w os).heap)=true) (seen:∀w os,openSeen q loose (importedModules p.main.body) Xt true (S w os)=openGood q loose) (U:∀w os,Yf (S w os)=Ya w):LeftO p q loose Xt Yf Ya N:=fun w=>by
 obtain⟨⟨h,gs,d,k,os⟩,e,Y⟩:=aC.mp (g w);obtain⟨rfl,rfl,rfl,rfl⟩:h=boot_heap w.params/\gs=#[]/\d=boot_drawn/\k=boot_toks:=by simpa using Y
 obtain⟨R,I,l⟩:_/\_/\_:=by simpa only[Prod.mk.injEq]using size w
 have T:=ok w os;have r:=topRun_mono (N-M) _ _ _ _ (run w os);rw[show M+(N-M)=N by have:=Nat.le_of_ble_eq_true le;lia]at r;have t:topFrom treeTable p w N ⟨boot_heap w.params,#[],boot_drawn,boot_toks,os⟩=some (S w os):=by
  unfold topFrom;dsimp only;rw[R,I,l,r];show(match staticsOk (importedModules p.main.body) yF (S w os).heap&&namesBound p (S w os).heap&&gensDone (S w os)&&laidKept yF (S w os).heap with|true=>_|false=>_)=_;rw[T]
 unfold openEnds;rw[e];show(topFrom treeTable p w N _).map _=_;rw[t];exact aH some (Prod.ext (seen w os) (U w os))
def rQ(w:F0c):li=(true,11,JX):=by kernel_rfl
end Opn
namespace Q80
open PySem
def top(i:Nat):Stmt:=PySem.Challenge.pw_stepgrove_k80_changes_as_texts.main.body.getD i (.Pass ⟨0,0,0,0⟩)
end Q80
namespace L2
open PySem
def GI(s:Stmt):Arguments:=match s with
 |.FunctionDef _ a _ _ _ _ _ _ _ _=>a
 |_=>{ posonlyargs:=[],args:=[],vararg:=none,kwonlyargs:=[],kw_defaults:=[],kwarg:=none,defaults:=[]}
def Cg(s:Stmt):v5:=match s with
 |.FunctionDef _ _ b _ _ _ _ _ _ _=>b
 |_=>[]
def AO(s:Stmt):Scope:=match s with
 |.FunctionDef _ _ _ _ _ _ sc _ _ _=>sc
 |_=>{ kind:=.function,names:=[],isGenerator:=false,isCoroutine:=false}
end L2
namespace Q80
open PySem L2
section
open PySem.W PyProof.Rows PySem.Calls
abbrev Ex:F0b:=PySem.Challenge.pw_stepgrove_k80_changes_as_texts
abbrev Cc:OpenLaw:=PySem.Challenge.rw_stepgrove_k80_changes_as_texts
noncomputable abbrev dE(P:Params)(x:xC)(t:Nat)(v:VL):DictEntry:=⟨PyData.keyHash P (Str.ofString x),.str (Str.ofString x) t,v⟩
noncomputable abbrev sV(x:xC)(t:Nat):VL:=.str (Str.ofString x) t
noncomputable abbrev fO(n:xC)(i:Nat)(m:xC)(t c:Nat):Obj:=⟨.type "function",none,.func (fnOf n n (GI (top i)) (Cg (top i)) (AO (top i)) .none .none .none (.str (Str.ofString m) t) none (.ref c) .none),#[]⟩
noncomputable abbrev cO(n:xC)(t l a k r:Nat)(b:Bool)(T:Nat)(R M I v4:VL)(g:Nat):Obj:=⟨.type "code",none,.fields #[sV n t,sV n (t+1),sV "/claim/cut.py" (t+2),.int l 0,.int a 0,.int 0 0,.int 0 0,.int k 0,.ref r,.bool b,.int 181 0,.ref T,R,M,I,v4,.int g 0,.int l 0,sV "/claim/cut.py" (g+1)],#[]⟩
noncomputable abbrev Xv:String×Nat:=("stepgrove.fracs",399)
noncomputable abbrev XQ:String×Nat:=("stepgrove.polys",426)
noncomputable abbrev jz:String×Nat:=("stepgrove.changes",455)
noncomputable abbrev HZ:String×Nat:=("stepgrove.texts",472)
noncomputable abbrev Dd:String×Nat:=("law_stepgrove_k80_changes_as_texts",558)
noncomputable def oC(P:Params)(K:Frag):Nat->List String->Frag
 |_,[]=>K
 |k,x::xs=>(16+12*k,⟨.type "tuple",none,.seq #[.ref 24] 0,#[]⟩)::(23+12*k,⟨.type "tuple",none,.seq #[] 0,#[]⟩) ::
  (24+12*k,⟨.type "dict",none,.dict #[dE P "__module__" (198+16*k) (sV "stepgrove.errors" 187),dE P "__firstlineno__" (202+16*k) (.int (Int.ofNat (2+2*k)) (201+16*k)),dE P "__static_attributes__" (203+16*k) (.ref (23+12*k)),dE P "__doc__" (204+16*k) .none] 2,#[]⟩) ::
  (25+12*k,⟨.type "type",none,.cls ⟨Str.ofString x,[.ref 24],[.ref (25+12*k),.ref 24,.type "ValueError",.type "Exception",.type "BaseException",.type "object"],24+12*k,Str.ofString x,true,[],[],false,none,false⟩,#[some (.ref (16+12*k)),none,some (sV x (191+16*k)),some (sV x (199+16*k)),some (.builtin "ValueError.__new__"),some XV]⟩)::oC P K ii xs
noncomputable def oW(m:String×Nat)(n:xC)(t l a r g i:Nat)(K:Frag):Frag:=(r+5,cO n t l a 3 r true (r+1) .none (.ref (r+2)) (.ref (r+3)) (.ref (r+4)) g)::(r+6,fO n i m.1 m.2 (r+5))::K
noncomputable def oN(m:String×Nat)(n:xC)(t l a r g i:Nat)(K:Frag):Frag:=(r+3,cO n t l a 3 r true (r+1) .none .none .none (.ref (r+2)) g)::(r+4,fO n i m.1 m.2 (r+3))::K
def tf:Nat->List Nat->List Nat
 |_,[]=>[]
 |a,d::ds=>(a+d)::tf (a+d) ds
noncomputable abbrev dR(P:Params)(x:xC)(t a:Nat):DictEntry:=dE P x t PZ
noncomputable def kH:Params->Frag:=fun P=>
 (nat_lit 2,⟨.none,none,(.dict #[] 0),#[]⟩) ::
 (nat_lit 3,⟨(.type "dict"),none,(.dict #[dE P "__name__" 165 (sV "law_stepgrove_k80_changes_as_texts" 558),dE P "__doc__" 166 .none,dE P "__package__" 167 .none,dE P "__loader__" 168 (.builtin "__main__.__loader__#opaque"),dE P "__spec__" 169 .none,dR P "__annotations__" 170 6,dR P "__builtins__" 171 4,dE P "__file__" 173 (sV "/claim/cut.py" 172),dE P "__cached__" 174 .none,dR P "GroveError" 206 24,dR P "NoBottom" 222 37,dR P "NoTree" 238 49,dR P "NoChange" 254 61,dR P "NoStart" 270 73,dR P "NoTable" 286 85,dR P "NoName" 302 97,dR P "NoWeighing" 318 109,dR P "NotAlike" 334 121,dR P "NoParts" 350 133,dR P "TooMany" 366 145,dR P "NoText" 382 157,dR P "NoLine" 398 169,dR P "is_fraction" 407 178,dR P "is_whole" 414 185,dR P "greatest_divisor" 425 192,dR P "is_poly" 437 199,dR P "is_term" 445 206,dR P "are_powers" 454 213,dR P "is_change" 464 220,dR P "refuse_no_change" 471 227,dE P "MOST_FIGURES" 475 (.int 40 474),dR P "UNKNOWNS" 480 228,dR P "shown_change" 487 235,dR P "read_change" 493 240,dR P "fraction_text" 502 247,dR P "change_text" 508 252,dR P "poly_text" 514 257,dR P "term_text" 525 264,dR P "fraction_in" 537 271,dR P "whole_in" 545 278,dR P "poly_in" 551 283,dR P "term_in" 557 288,dR P "_law_cell_at" 567 295,dR P "_law_mixed" 576 302,dR P "_law_rest" 586 309,dR P "_law_ratio" 596 316,dR P "_law_sum" 604 323,dR P "_law_times" 612 330,dR P "_law_change" 618 335,dR P "_law_part" 625 342,dR P "_law_number" 634 349,dR P "_law_fraction" 645 356,dR P "_law_bent" 658 363,dR P "_law_bent_lines" 671 370,dR P "_law_alone" 677 375,dR P "_law_line" 690 382,dR P "_law_term" 696 387,dR P "_law_speed" 702 392,dR P "_law_reader" 708 397,dR P "_law_good" 714 402,dR P "_law_read" 725 409,dR P "law" 731 414] 62),#[]⟩) ::
 (nat_lit 15,⟨OZ,none,(.seq #[nz] 0),#[]⟩) ::
 (nat_lit 22,⟨OZ,none,(.seq #[] 0),#[]⟩) ::
 (nat_lit 23,⟨(.type "dict"),none,(.dict #[dE P "__module__" 196 (sV "stepgrove.errors" 187),dE P "__firstlineno__" 200 (.int 2 199),dR P "__static_attributes__" 201 22,dR P "__weakref__" 203 25,dE P "__doc__" 204 .none] 3),#[]⟩) ::
 (nat_lit 24,⟨(.type "type"),none,(.cls ⟨Str.ofString "GroveError",[nz],[(.ref 24),nz,(.type "Exception"),(.type "BaseException"),(.type "object")],23,Str.ofString "GroveError",true,[],[(.ref 37),(.ref 49),(.ref 61),(.ref 73),(.ref 85),(.ref 97),(.ref 109),(.ref 121),(.ref 133),(.ref 145),(.ref 157),(.ref 169)],false,none,false⟩),#[some (.ref 15),none,some (sV "GroveError" 189),some (sV "GroveError" 197),some (.builtin "ValueError.__new__"),some XV]⟩) ::
 (nat_lit 25,⟨(.type "getset_descriptor"),none,(.fields #[(sV "__weakref__" 202),(.ref 24),(.builtin "ExceptionGroup.__weakref__"),.none]),#[]⟩) ::
 oC P (
 oW Xv "is_fraction" 401 29 1 172 405 15 (
 oW Xv "is_whole" 408 35 1 179 412 16 (
 oW Xv "greatest_divisor" 415 37 2 186 423 17 (
 oW XQ "is_poly" 428 46 2 193 435 19 (
 oW XQ "is_term" 438 53 2 200 443 20 (
 oW XQ "are_powers" 446 57 2 207 452 21 (
 oW jz "is_change" 457 65 1 214 462 23 (
 oW jz "refuse_no_change" 465 72 1 221 469 24 (
 oW HZ "shown_change" 481 78 1 229 485 28 (
 oN HZ "read_change" 488 83 1 236 491 29 (
 oW HZ "fraction_text" 494 90 1 241 500 30 (
 oN HZ "change_text" 503 94 1 248 506 31 (
 oN HZ "poly_text" 509 96 1 253 512 32 (
 oW HZ "term_text" 515 100 2 258 523 33 (
 oW HZ "fraction_in" 526 105 2 265 535 34 (
 oW HZ "whole_in" 538 115 2 272 543 35 (
 oN HZ "poly_in" 546 122 2 279 549 36 (
 oN HZ "term_in" 552 127 2 284 555 37 (
 oW Dd "_law_cell_at" 560 132 2 289 565 39 (
 oW Dd "_law_mixed" 568 136 2 296 574 40 (
 oW Dd "_law_rest" 577 140 2 303 584 41 (
 oW Dd "_law_ratio" 587 146 2 310 594 42 (
 oN Dd "_law_change" 613 158 3 331 616 45 (
 oW Dd "_law_part" 619 178 1 336 623 46 (
 oW Dd "_law_number" 626 180 1 343 632 47 (
 oW Dd "_law_fraction" 635 187 1 350 643 48 (
 oW Dd "_law_bent" 646 201 3 357 656 49 (
 oW Dd "_law_bent_lines" 659 219 3 364 669 50 (
 oN Dd "_law_alone" 672 239 1 371 675 51 (
 oW Dd "_law_line" 678 247 2 376 688 52 (
 oN Dd "_law_term" 691 257 2 383 694 53 (
 oN Dd "_law_speed" 697 266 3 388 700 54 (
 oN Dd "_law_reader" 703 279 1 393 706 55 (
 oN Dd "_law_good" 709 285 2 398 712 56 (
 oW Dd "_law_read" 715 292 1 403 723 57 (
 oN Dd "law" 726 306 1 410 729 58 (
 []))))))))))))))))))))))))))))))))))))) 1 ["NoBottom","NoTree","NoChange","NoStart","NoTable","NoName","NoWeighing","NotAlike","NoParts","TooMany","NoText","NoLine"]
noncomputable def pD:vd:=[(sV "x" 476),(sV "y" 477),(sV "z" 478),(sV "w" 479)]
noncomputable def kF:Params->Frag:=fun P=>(nat_lit 228,⟨.type "tuple",none,.seq pD.toArray 0,#[]⟩)::kH P
abbrev qX:F0b:=view Ex [1,2,3,4,5,6,7,8,9,10,11,12,13,15,16,17,19,20,21,23,24,26,27,28,29,30,31,32,33,34,35,36,37,39,40,41,42,43,44,45,46,47,48,49,50,51,52,53,54,55,56,57,58]
noncomputable abbrev hX:Hook:=kHook kF (228::tf 0 [2,1,12,7,1,1,1,3,7,1,1,3,7,1,1,3,7,1,1,3,7,1,1,3,7,1,1,3,7,1,1,3,7,1,1,3,7,1,1,3,7,1,1,3,7,1,1,3,7,1,1,3,7,1,1,8,1,6,1,6,1,6,1,6,1,6,1,6,1,6,1,7,1,4,1,6,1,4,1,4,1,6,1,6,1,6,1,4,1,4,1,6,1,6,1,6,1,6,1,18,1,6,1,6,1,6,1,6,1,6,1,4,1,6,1,4,1,4,1,4,1,4,1,6,1,4,1]) (fun _=>by kernel_rfl)
noncomputable def dX:DefRec:=⟨Str.ofString "law",GI (top 58),Cg (top 58),AO (top 58),⟨306,0,320,31⟩⟩
def sq:Cc.wellSaid=true:=(congrFun PySem.W.Fast.te9446332074065402090 _).trans xX
def uV(w:F0c)(os:zT):topGo treeTable Ex w 11 Opn.JX 12 ⟨boot_heap w.params,#[],boot_drawn,boot_toks,os⟩ (topStub Ex)=some (Opn.sA w os,⟨denote treeTable (Opn.cB Ex),Opn.cB Ex,Opn.q0,Opn.bB⟩):=by kernel_rfl
def ub(w:F0c)(os:zT):segRun treeTable Ex w 11 Opn.JX 1 1 (Opn.sA w os) (blockOf (behindTheImports Ex) (Opn.QO Ex) (Opn.cB Ex) Opn.q0 Opn.bB)=some (.next,(Opn.sB w os).abs,Opn.cB Ex,Opn.q0):=by kernel_rfl
def ux(w:F0c)(s:SD):topRun treeTable Ex w 11 Opn.JX 2 s (restOf [] (Opn.QO Ex) (Opn.cB Ex) ⟨306,0,320,31⟩ Opn.bB)=some s:=by kernel_rfl
def ug(w:F0c)(os:zT):Opn.ZX Ex 3948 w os=some (.next,Opn.Za Ex 3948 w os,Opn.cB Ex,⟨306,0,320,31⟩):=by kernel_rfl
noncomputable abbrev sX(w:F0c)(os:zT):SD:=(Opn.Za Ex 3948 w os).abs
def uu(w:F0c)(os:zT):(staticsOk wz yF (sX w os).heap&&namesBound Ex (sX w os).heap&&gensDone (sX w os)&&laidKept yF (sX w os).heap)=true:=by kernel_rfl
def sD(w:F0c)(os:zT):hX.obs (sX w os)=hX.val w:=by kernel_rfl
noncomputable abbrev XE:SD->Bool:=fun s=>xlAt qX [] s&&recOk (RowW.records Cc.row.toRowW) s
def tE(w:F0c)(os:zT):(openSeen qX [] wz XE true (sX w os)).1=(openGood qX []).1:=by kernel_rfl
def rh(w:F0c)(os:zT):(openSeen qX [] wz XE true (sX w os)).2.1=(openGood qX []).2.1:=by kernel_rfl
def sh(w:F0c)(os:zT):(openSeen qX [] wz XE true (sX w os)).2.2=(openGood qX []).2.2:=by kernel_rfl
def sL(w:F0c)(os:zT):openSeen qX [] wz XE true (sX w os)=openGood qX []:=Prod.ext (tE w os) (Prod.ext (rh w os) (sh w os))
def sE(w:F0c):(fencedOpening treeTable Ex w 8020).map (fun s=>(s.heap,s.gens,s.drawn,s.toks))=some (boot_heap w.params,#[],boot_drawn,boot_toks):=boot_open (p:=Ex) (N:=8020) xX xX (fun _=>by kernel_rfl) w
def sd:LeftO Ex qX [] XE hX.obs hX.val 8020:=Opn.l9 (M:=3963) (S:=sX) sE Opn.rQ (fun w os=>Opn.rJ (uV w os) (ub w os) (ug w os) (ux w) xX) xX uu sL sD
def ue:defOf qX Cc.row.name=some (dX,[]):=by kernel_rfl
def uW:Ex.theDef Cc.row.name=some (dX.params,dX.body,dX.scope):=by kernel_rfl
def vI:kwWritten? dX.params.kwonlyargs dX.params.kw_defaults=some []:=by kernel_rfl
def uI:(chainsOk qX&&opensWell Cc.row.prog&&(frees Cc.row.toRowW&&Cc.row.within.isEmpty))=true:=by kernel_rfl
def sI:Ex.bare:=⟨rfl,rfl,rfl,rfl,rfl,by decide +kernel⟩
end
end Q80
namespace L2
open PySem PySem.Spec PyProof.Rows
abbrev Key:=Sum Int Str
def O4:Key->VL->Bool
 |.inl k,v=>Value.isInt k v
 |.inr x,v=>Value.isStrOf x v
def uo(w:F0c):Key->Int
 |.inl k=>hashInt k
 |.inr x=>hashStr w x
def Dg:∀ {k:Key} {v:VL},O4 k v=true->(∃i t,k=Sum.inl i/\v=Value.int i t)\/(∃x t,k=Sum.inr x/\v=Value.str x t)
 |.inl i,v,h=>by
  obtain⟨t,e⟩:=Value.isInt_shape (k:=i) (v:=v) h;exact .inl ⟨i,t,rfl,e⟩
 |.inr x,v,h=>by
  obtain⟨t,e⟩:=Value.isStrOf_shape (x:=x) (v:=v) h;exact .inr ⟨x,t,rfl,e⟩
def dM(i:Int)(t:Tok):O4 (.inl i) (.int i t)=true:=by simp[O4,Value.isInt]
def eD(x:Str)(t:Tok):O4 (.inr x) (.str x t)=true:=by simp[O4,Value.isStrOf]
def rB(a b:Int):decide ((Sum.inl a:Key)=Sum.inl b)=(a==b):=by
 by_cases e:a=b
 .subst e;simp
 .have h:¬(Sum.inl a:Key)=Sum.inl b:=fun q=>e (Sum.inl.inj q);rw[decide_eq_false h];exact(bf.mpr e).symm
def nU(a b:Str):decide ((Sum.inr a:Key)=Sum.inr b)=decide (a=b):=by
 by_cases e:a=b
 .subst e;simp
 .have h:¬(Sum.inr a:Key)=Sum.inr b:=fun q=>e (Sum.inr.inj q);rw[decide_eq_false h,decide_eq_false e]
def nL(a:Int)(b:Str):decide ((Sum.inl a:Key)=Sum.inr b)=false:=aV (fun q=>nomatch q)
def ox(a:Str)(b:Int):decide ((Sum.inr a:Key)=Sum.inl b)=false:=aV (fun q=>nomatch q)
def EE(prog:F0b)(w:F0c):PySem.KeyKind prog w Key where
 is:=O4
 hash:=uo w
 inj:=fun v a b ha hb=>by
  rcases Dg ha with ⟨i,t,rfl,rfl⟩|⟨x,t,rfl,rfl⟩
  .rcases Dg hb with ⟨j,u,rfl,e⟩|⟨y,u,rfl,e⟩
   .injection e with e1 _;rw[e1]
   .exact nomatch e
  .rcases Dg hb with ⟨j,u,rfl,e⟩|⟨y,u,rfl,e⟩
   .exact nomatch e
   .injection e with e1 _;rw[e1]
 byValue:=fun k v h=>by
  rcases Dg h with ⟨i,t,rfl,rfl⟩|⟨x,t,rfl,rfl⟩<;>rfl
 pyHash:=fun hv h=>by
  rcases Dg hv with ⟨i,t,rfl,rfl⟩|⟨x,t,rfl,rfl⟩
  .exact wpAny_pyHash_int h
  .exact wpAny_pyHash_str h
 eqBool:=fun hu hv h=>by
  rcases Dg hu with ⟨i,t,rfl,rfl⟩|⟨x,t,rfl,rfl⟩
  .rcases Dg hv with ⟨j,u,rfl,rfl⟩|⟨y,u,rfl,rfl⟩
   .rw[rB]at h;exact wpAny_eqBool_int h
   .rw[nL]at h;exact SeqAt.EqAt.int_str i t y u _ _ _ _ h
  .rcases Dg hv with ⟨j,u,rfl,rfl⟩|⟨y,u,rfl,rfl⟩
   .rw[ox]at h;exact SeqAt.EqAt.str_int x t j u _ _ _ _ h
   .rw[nU]at h;exact wpAny_eqBool_str h
 «strs»:=fun k x t v h=>by
  rcases Dg h with ⟨i,u,rfl,e⟩|⟨y,u,rfl,e⟩
  .exact nomatch e
  .injection e with e1 _
   subst e1;cases v<;>rfl
def W0(prog:F0b)(w:F0c)(i:Int)(t:Tok):(EE prog w).is (.inl i) (.int i t)=true:=dM i t
def Wk(prog:F0b)(w:F0c)(x:Str)(t:Tok):(EE prog w).is (.inr x) (.str x t)=true:=eD x t
inductive V where
 |BS|bl (b:Bool)|int (i:Int)|str (x:Str)|Nt (b:Array UInt8)|Xh (b:UInt64)|ref (a:Addr)|ty (n:xC)
 deriving DecidableEq
abbrev vx:=List V
def RelV:V->VL->Prop
 |.BS,u=>u=Value.none
 |.bl b,u=>u=Value.bool b
 |.int i,u=>∃t,u=Value.int i t
 |.str x,u=>∃t,u=Value.str x t
 |.Nt b,u=>∃t,u=Value.bytes b t
 |.Xh b,u=>∃t,u=Value.float b t
 |.ref a,u=>u=Value.ref a
 |.ty n,u=>u=Value.type n
abbrev Vals:List V->List VL->Prop:=Paired RelV
def Vals.length{xs:vx}{us:vd}(r:Vals xs us):xs.length=us.length:=Paired.length r
theorem Vals.get:∀ {xs:UF} {us:S0} {i:Nat} {x:V},Vals xs us->xs[i]? = some x->∃u,us[i]? = some u/\RelV x u
 |_,_,_,_,.nil,e=>by simp at e
 |_,_,0,_,.cons r _,e=>by simp at e;subst e;exact⟨_,rfl,r⟩
 |_,_,i+1,x,.cons _ t,e=>by
  obtain⟨u,l,g⟩:=Vals.get (i:=i) (x:=x) t w4;exact⟨u,by simpa using l,g⟩
theorem Vals.set{x:V}{u:VL}(r:RelV x u):∀ {xs:UF} {us:S0} (i:Nat),Vals xs us->Vals (xs.set i x) (us.set i u)
 |_,_,_,.nil=>.nil
 |_,_,0,.cons _ t=>.cons r t
 |_,_,i+1,.cons q t=>.cons q (Vals.set r i t)
theorem Vals.append:∀ {xs ys:UF} {us ws:S0},Vals xs us->Vals ys ws->Vals (xs++ys) (us++ws)
 |_,_,_,_,.nil,s=>s
 |_,_,_,_,.cons r t,s=>.cons r (Vals.append t s)
theorem Vals.take:∀ {xs:UF} {us:S0} (n:Nat),Vals xs us->Vals (xs.take n) (us.take n)
 |_,_,0,_=>.nil
 |_,_,_+1,.nil=>.nil
 |_,_,n+1,.cons r t=>.cons r (Vals.take n t)
theorem Vals.drop:∀ {xs:UF} {us:S0} (n:Nat),Vals xs us->Vals (xs.drop n) (us.drop n)
 |_,_,0,r=>r
 |_,_,_+1,.nil=>.nil
 |_,_,n+1,.cons _ t=>Vals.drop n t
def Kq:Option V->Option VL->Prop
 |some v,some u=>RelV v u
 |none,none=>True
 |_,_=>False
def KV{κ:Type}:List (κ×V)->List (κ×VL)->Prop:=Paired fun(p:κ×V) (q:κ×VL)=>p.1=q.1/\RelV p.2 q.2
def kV:Key->V
 |.inl i=>.int i
 |.inr x=>.str x
inductive HO where
 |lst (xs:UF)
 |tup (xs:UF)
 |dK (kvs:List (Key×V))|dT (kvs:NE)
 |set (S:Int->Bool) (n:Nat)
 |ins (C dx:Addr) (fs:List (Str×V))
 |own (x:Addr)
 |xd (fs:List (Str×V))
 |met (f x:Addr)
 |jM (lo hi:Int)
 |Ey (o:Obj) (u:HO)
 |PQ (ps:Array Value)
 |ext (φ:Heap->Prop)
abbrev Hp:=AD->Option HO
def upd(H:Hp)(a:AD)(o:HO):Hp:=fun b=>if b=a then some o else H b
def An{H:Hp}{a:AD}{o:HO}:upd H a o a=some o:=by unfold upd;rw[if_pos rfl]
def Ae{H:Hp}{a b:AD}{o:HO}(h:b≠a):upd H a o b=H b:=by unfold upd;rw[if_neg h]
def la{H:Hp}{a:AD}{o u:HO}:upd (upd H a o) a u=upd H a u:=by
 funext b;unfold upd;split<;>rfl
def sr{H:Hp}{a b:AD}{o u:HO}(h:H a=some o)(h':H b=some u)(d:o≠u):a≠b:=by
 intro e;subst e;rw[h]at h';exact d (aQ h')
def Bm{H:Hp}{a b:AD}{o:HO}(h:H a=some o)(h':H b=none):a≠b:=by
 intro e;subst e;rw[h]at h';cases h'
section
variable(P:F0b)(w:F0c)
def CB(H:Hp)(h:Heap)(a:AD):HO->Prop
 |.lst xs=>xs.length<=sizeLine/\∃(g:S0) (n:Nat),Vals xs g/\h.get? a=some { cls:=.type "list",data:=.seq g.toArray n}
 |.tup xs=>xs.length<=sizeLine/\∃g:List VL,Vals xs g/\IsTup h a g.toArray
 |.dK kvs=>kvs.length<=sizeLine/\yD=false/\∃vs,KV kvs vs/\h.DictOf (EE P w) a vs
 |.dT kvs=>kvs.length<=sizeLine/\yD=false/\∃xs:List xy,
   Paired (fun(p:List Key×V) (q:List Key×AD×VL)=>p.1=q.1/\H q.2.1=some (.tup (p.1.map kV))/\RelV p.2 q.2.2) kvs xs /\
   ∃o M R,h.get? a=some o/\o.ExactDict/\o.data=.dict M R/\M.toList=xs.map (entryOfKey (tupleKind (EE P w)))/\(xs.map OR).Nodup
 |.set S n=>h.SetOf (intKind P w) a S n
 |.ins C dx fs=>H dx=some (.own a)/\fs.length<=1000/\dx≠a/\h.get? a=some (PySem.W.instObj C dx) /\
   ∃mA,h.Ns1 dx mA/\(∀f,Kq (fs.lookup f) (mA f))/\PySem.Within mA (fs.map OR)
 |.own _=>∃o,h.get? a=some o
 |.xd fs=>∃mA,h.Ns1 a mA/\∀f,Kq (fs.lookup f) (mA f)
 |.jM lo hi=>∃t u v,h.get? a=some { cls:=.type "range",data:=.fields #[.int lo t,.int hi u,.int 1 v]}
 |.Ey o u=>h.get? a=some o/\CB H h a u
 |.PQ ps=>h.get? a=some { cls:=.none,data:=.fields ps}
 |.met f x=>h.get? a=some (PySem.W.methodObj zU (.ref x))
 |.ext φ=>φ h/\(∃o,h.get? a=some o)/\∀I l:Heap,φ I->(∀o,I.get? a=some o->l.get? a=some o)->φ l
def DN(H:Hp)(h:Heap):Prop:=∀a o,H a=some o->CB P w H h a o
end
section
variable{P:F0b}{w:F0c}{H H':Hp}{h h':Heap}{a:AD}{o:HO}
def CB.lt(x:CB P w H h a o):a<h.objs.size:=by
 cases o with
 |lst xs=>obtain⟨_,_,_,_,e⟩:=x;exact aE e
 |tup xs=>obtain⟨_,_,_,p⟩:=x;exact p.lt
 |dK kvs=>obtain⟨_,_,_,_,o,_,_,e,_⟩:=x;exact aE e
 |dT kvs=>obtain⟨_,_,_,_,o,_,_,e,_⟩:=x;exact aE e
 |set S n=>obtain⟨o,_,_,_,e,_⟩:=x;exact aE e
 |ins C dx fs=>obtain⟨_,_,_,e,_⟩:=x;exact aE e
 |own y=>obtain⟨_,e⟩:=x;exact aE e
 |xd fs=>obtain⟨_,⟨_,_,_,e,_⟩,_⟩:=x;exact aE e
 |jM lo hi=>obtain⟨_,_,_,e⟩:=x;exact aE e
 |Ey ob u=>obtain⟨e,_⟩:=x;exact aE e
 |PQ ps=>exact aE (show h.get? a=some _ from x)
 |met f y=>exact aE (show h.get? a=some _ from x)
 |ext φ=>obtain⟨_,⟨_,e⟩,_⟩:=x;exact aE e
theorem Paired.gV{α I:Type}{F G:α->I->Prop}:∀ {l:wq} {g:List I},Paired F l g->(∀a b,F a b->G a b)->Paired G l g
 |_,_,.nil,_=>.nil
 |_,_,.cons r t,f=>.cons (f _ _ r) (Paired.gV t f)
def CB.Hd(x:CB P w H h a o)(k:∀b u,(b=a\/H b=some (.own a))->h.get? b=some u->h'.get? b=some u) (T:∀b,H b=some (.own a)->H' b=some (.own a))(R:∀b xs,H b=some Pt->H' b=some Pt):CB P w H' h' a o:=by
 induction o with
 |lst xs=>obtain⟨z,I,n,r,e⟩:=x;exact⟨z,I,n,r,k _ _ bv e⟩
 |tup xs=>obtain⟨z,I,r,ob,e,c⟩:=x;exact⟨z,I,r,ob,k _ _ bv e,c⟩
 |dK kvs=>obtain⟨z,y,vs,r,ob,g,l,e,c⟩:=x;exact⟨z,y,vs,r,ob,g,l,k _ _ bv e,c⟩
 |dT kvs=>
  obtain⟨z,y,xs,r,ob,g,l,e,c⟩:=x;exact⟨z,y,xs,Paired.gV r fun p q z=>⟨z.1,R _ _ z.2.1,z.2.2⟩,ob,g,l,k _ _ bv e,c⟩
 |set S n=>obtain⟨ob,g,l,t,e,c⟩:=x;exact⟨ob,g,l,t,k _ _ bv e,c⟩
 |ins C dx fs=>
  obtain⟨d,z,ne,e,mA,⟨od,g,l,U,c⟩,r⟩:=x;exact⟨T _ d,z,ne,k _ _ bv e,mA,⟨od,g,l,k _ _ (.inr d) U,c⟩,r⟩
 |own y=>obtain⟨ob,e⟩:=x;exact⟨ob,k _ _ bv e⟩
 |xd fs=>obtain⟨mA,⟨od,g,l,e,c⟩,r⟩:=x;exact⟨mA,⟨od,g,l,k _ _ bv e,c⟩,r⟩
 |jM lo hi=>obtain⟨t,u,v,e⟩:=x;exact⟨t,u,v,k _ _ bv e⟩
 |Ey ob u M=>obtain⟨e,q⟩:=x;exact⟨k _ _ bv e,M q⟩
 |PQ ps=>
  have e:h.get? a=some { cls:=.none,data:=.fields ps}:=x;show h'.get? a=some { cls:=.none,data:=.fields ps};exact k a _ bv e
 |met f y=>
  have e:h.get? a=some (PySem.W.methodObj zU (.ref y)):=x;show h'.get? a=some (PySem.W.methodObj zU (.ref y));exact k a _ bv e
 |ext φ=>obtain⟨p,⟨o,e⟩,st⟩:=x;exact⟨st _ _ p fun o q=>k _ _ bv q,⟨o,k _ _ bv e⟩,st⟩
def DN.lt(x:yA)(e:H a=some o):a<h.objs.size:=(x a o e).lt
def DN.fresh(x:yA)(e:h.objs.size<=a):H a=none:=by
 cases q:H a with
 |none=>rfl
 |some u=>exact absurd (aJ (x.lt q) e) yG
def DN.kept(x:yA)(k:w5):DN P w H h':=fun a o e=>
 (x a o e).Hd (fun b u _ q=>k b u q) (fun _ q=>q) fun _ _ q=>q
def DN.laid(x:yA)(k:w5)(l:h.objs.size<=a)(new:CB P w (upd H a o) h' a o):DN P w (upd H a o) h':=fun b u e=>by
 have hn:=x.fresh l;by_cases g:b=a
 .subst g;rw[An]at e;cases e;exact new
 .rw[Ae g]at e;exact(x b u e).Hd (fun c v _ q=>k c v q) (fun c q=>by rw[Ae (Bm q hn)];exact q) fun c xs q=>by rw[Ae (Bm q hn)];exact q
end
def Rd(H:Hp)(a:AD)(u:HO):Prop:=H a=some u\/∃o,H a=some (.Ey o u)
def Rd.ok{P:F0b}{w:F0c}{H:Hp}{h:Heap}{a:AD}{u:HO}(r:Rd H a u)(x:yA):CB P w H h a u:=by
 rcases r with r|⟨o,r⟩
 .exact x a u r
 .obtain⟨_,q⟩:=x a _ r;exact q
def cZ:Option HO->Prop
 |some (.lst _)=>True
 |some (.dK _)=>True
 |some (.dT _)=>True
 |some (.set _ _)=>True
 |some (.ins _ _ _)=>True
 |some (.ext _)=>True
 |_=>False
section
variable{P:F0b}{w:F0c}{H:Hp}{h h':Heap}{x e:AD}{o':HO}
def DN.write(ok:yA)(I:cZ (H x))(he:e=x\/H e=some (.own x))(k:∀b u,b≠e->h.get? b=some u->h'.get? b=some u)(T:∃u,h'.get? e=some u) (new:CB P w (upd H x o') h' x o'):DN P w (upd H x o') h':=fun b u q=>by
 have l:∀c y,H c=some (.own y)->c≠x:=fun c y r z=>by subst z;rw[r]at I;exact I
 have P4:∀c xs,H c=some Pt->c≠x:=fun c xs r z=>by subst z;rw[r]at I;exact I
 by_cases R:b=x
 .subst R;rw[An]at q;cases q;exact new
 .rw[Ae R]at q;by_cases g:b=e
  .have U:H b=some (.own x):=by
    rcases he with z|z
    .exact absurd (g.trans z) R
    .rw[g];exact z
   rw[q]at U;cases U;obtain⟨v,Y⟩:=T;exact⟨v,by rw[g];exact Y⟩
  .refine(ok b u q).Hd (fun c v M r=>k c v ?_ r) (fun c r=>by rw[Ae (l c b r)];exact r) fun c xs r=>by rw[Ae (P4 c xs r)];exact r
   rcases M with rfl|M
   .exact g
   .rintro rfl;rcases he with z|z
    .exact l c b M z
    .rw[M]at z;cases z;exact R rfl
end
structure Un(fs ex:List Addr)(H H':Hp)(h h':Heap):Prop where
 keep:∀b o,h.get? b=some o->H b=none->b ∉ fs->b ∉ ex->h'.get? b=some o
 slot:∀b o,h.get? b=some o->H b=none->b∈fs->b ∉ ex->∃sl,h'.get? b=some {o with slots:=sl}
 free:∀b o,h.get? b=some o->H b=none->b ∉ ex->H' b=none
 there:∀b o,h.get? b=some o->b ∉ ex->∃o',h'.get? b=some o'
 CP:∀b xs,H b=some Pt->H' b=some Pt
 FN:∀b o u,H b=some (.Ey o u)->H' b=some (.Ey o u)
 F9:∀b ps,H b=some (.PQ ps)->∃more,H' b=some (.PQ (ps++more))
 Fu:∀b xs o,H b=some Pt->h.get? b=some o->b ∉ ex->h'.get? b=some o
section
variable{fs ex:vz}{H H1:Hp}{h h1 h':Heap}{a x e:AD}{o:HO}
def Un.any(u:Un fs ex H H1 h h1){b:AD}{ob:Obj}(q:h.get? b=some ob)(n:H b=none)(g:b ∉ ex):∃sl,h1.get? b=some {ob with slots:=sl}:=by
 by_cases l:b∈fs
 .exact u.slot b ob q n l g
 .exact⟨ob.slots,u.keep b ob q n l g⟩
def Un.kept(k:w5):Un fs ex H H h h' :=
 ⟨fun b ob q _ _ _=>k b ob q,fun b ob q _ _ _=>⟨ob.slots,k b ob q⟩,fun _ _ _ n _=>n,fun b ob q _=>⟨ob,k b ob q⟩,fun _ _ q=>q,fun _ _ _ q=>q,fun _ ps q=>⟨#[],by rw[q];simp⟩,fun _ _ ob _ e _=>k _ ob e⟩
def Un.refl:Un fs ex H H h h:=Un.kept fun _ _ q=>q
def Un.laid(k:w5)(hp:h.objs.size<=a)(hn:H a=none):Un fs ex H (upd H a o) h h' where
 keep:=fun b u q _ _ _=>k b u q
 slot:=fun b u q _ _ _=>⟨u.slots,k b u q⟩
 free:=fun b u q n _=>by rw[Ae (aP (aJ (aE q) hp))];exact n
 there:=fun b u q _=>⟨u,k b u q⟩
 CP:=fun b xs q=>by rw[Ae (Bm q hn)];exact q
 FN:=fun b u xs q=>by rw[Ae (Bm q hn)];exact q
 F9:=fun b ps q=>⟨#[],by rw[Ae (Bm q hn),q];simp⟩
 Fu:=fun b _ u _ e _=>k b u e
def Un.write(l:cZ (H x))(he:e=x\/H e=some (.own x))(k:∀b u,b≠e->h.get? b=some u->h'.get? b=some u)(I:∃u,h'.get? e=some u):Un fs ex H (upd H x o) h h':=by
 have M:∀b,H b=none->b≠x:=fun b n z=>by subst z;rw[n]at l;exact l
 have R:∀b,H b=none->b≠e:=fun b n z=>by
  subst z;rcases he with r|r
  .exact M b n r
  .rw[n]at r;cases r
 have hm:∀b u,H b=some u->¬cZ (some u)->b≠x:=fun b u q nm z=>by subst z;rw[q]at l;exact nm l
 refine⟨fun b u q n _ _=>k b u (R b n) q,fun b u q n _ _=>⟨u.slots,k b u (R b n) q⟩,fun b u q n _=>by rw[Ae (M b n)];exact n,fun b u q _=>?_,
  fun b xs q=>by rw[Ae (hm b _ q fun z=>z)];exact q,fun b u xs q=>by rw[Ae (hm b _ q fun z=>z)];exact q,fun b ps q=>⟨#[],by rw[Ae (hm b _ q fun z=>z),q];simp⟩,fun b xs u q e _=>k b u (fun z=>by
   rcases he with r|r
   .exact hm b _ q (fun z=>z) (z.trans r)
   .rw[<-z,q]at r;cases r) e⟩
 by_cases g:b=e
 .subst g;exact I
 .exact⟨u,k b u g q⟩
end
def Pu(h:Heap)(H:Hp):vz:=(List.range h.objs.size).filter fun a=>(H a).isSome
def N9(h:Heap)(H:Hp):Heap:=PySem.W.hideAll h (Pu h H)
def dm(h:Heap)(H:Hp):(N9 h H).objs.size=h.objs.size:=PySem.W.hideAll_size _ _
def VB{h:Heap}{H:Hp}{b:AD}{o:Obj}(e:h.get? b=some o)(n:H b=none):(N9 h H).get? b=some o :=
 bQ _ e fun hm=>by
  have q:(H b).isSome=true:=(bZ.mp hm).2;rw[n]at q;simp at q
def lJ{h:Heap}{H:Hp}{b:AD}{o:Obj}(e:(N9 h H).get? b=some o):h.get? b=some o/\H b=none:=by
 have g:h.get? b=some o:=PySem.W.of_hideAll (Pu h H) e;refine⟨g,?_⟩;cases q:H b with
 |none=>rfl
 |some x=>
  have hm:b∈Pu h H:=bZ.mpr ⟨bD.mpr (aE g),by simp[q]⟩;have z:(N9 h H).get? b=none:=PySem.W.hideAll_none (Pu h H) hm;rw[z]at e;cases e
structure Mod(K:Fg)(mg:xc)(base:Heap):Prop where
 Pk:K.In base
 glob:base.Ns mainGlobals mg
 blt:∃mb,base.Ns builtinsNs mb/\∀x:Str,x ≠ "__name__" -> mb x=bootBuiltins x
 nolimit:base.NoLimit
def vU(d:Nat):List vx:=[[],[.ref (d+1)],[.int 1,.int 1],[.ref (d+3)],[.ref (d+2),.ref (d+4)],[],[.int 1,.int 2],[.ref (d+7)],[.ref (d+6),.ref (d+8)],[.int 0,.int 1],[.int 1,.int 1],[.ref (d+10),.ref (d+11)],[.ref (d+9),.ref (d+12)],[],[.int 1,.int 1],[.ref (d+15)],[.ref (d+14),.ref (d+16)],[.int 1,.int 2],[.int 1,.int 2],[.ref (d+18),.ref (d+19)],[.ref (d+17),.ref (d+20)],[],[.int 1,.int 3],[.ref (d+23)],[.int 0,.int 1],[.int 2,.int 3],[.ref (d+25),.ref (d+26)],[.ref (d+22),.ref (d+24),.ref (d+27)],[.int 1,.int 4],[.int 0,.int 1],[.int 3,.int 4],[.ref (d+29),.ref (d+30),.ref (d+31)],[.ref (d+28),.ref (d+32)],[],[.int 1,.int 2],[.ref (d+35)],[.int 0,.int 1],[.int 1,.int 2],[.ref (d+37),.ref (d+38)],[.int 0,.int 1],[.int 0,.int 1],[.int 1,.int 1],[.ref (d+40),.ref (d+41),.ref (d+42)],[.ref (d+34),.ref (d+36),.ref (d+39),.ref (d+43)],[.int 1,.int 6],[.int 1,.int 3],[.int 1,.int 3],[.int 1,.int 6],[.ref (d+45),.ref (d+46),.ref (d+47),.ref (d+48)],[.ref (d+44),.ref (d+49)]]
def vT(d:Nat):List (Key×V):=[(.inr "plain",.ref (d+5)),(.inr "middle",.ref (d+13)),(.inr "heel",.ref (d+21)),(.inr "third",.ref (d+33)),(.inr "fourth",.ref (d+50))]
def Ji:vx:=[.str "x",.str "y",.str "z",.str "w"]
structure KTb(mg:xc)(H:Hp):Prop where
 vO:∀d:Addr,mg "NAMED_TABLES" = some (.ref d)->(∃o,H d=some (.Ey o (.dK (vT d))))/\∀j xs,(vU d)[j]? = some xs->H (d+1+j)=some Pt
 uE:∀d:Addr,mg "UNKNOWNS" = some (.ref d)->H d=some (.tup Ji)
def KTb.un{mg:vf}{fs ex:vz}{H H':Hp}{h h':Heap}(k:KTb mg H)(u:Un fs ex H H' h h'):KTb mg H':=⟨fun d e=>
 let⟨⟨o,l⟩,g⟩:=k.vO d e
 ⟨⟨o,u.FN _ _ _ l⟩,fun j xs q=>u.CP _ _ (g j xs q)⟩,fun d e=>u.CP _ _ (k.uE d e)⟩
structure Cx where
 prog:Program
 w:World
 K:Fg
 mg:Str->Option Value
 base:Heap
 A:Around
 N:List Str
 s₀:Shared
 H₀:Hp
 env:Env
 outer:List Env
 stack:List Env
 ex:List Addr
 fn:Str->Bool
 calm:Bool
 pn:List (Addr×Obj)
 xe:Value->Shared->Prop
def Fd(l:v7):vz:=l.filterMap yO
abbrev Cx.fs(X:Cx):List AD:=Fd X.outer
def oQ(sc:yB)(x:Str):Prop:=sc.names.lookup x=some .local\/sc.names.lookup x=some .cell\/sc.names.lookup x=some .free
def Loc(sc:yB)(x:Str):Prop:=sc.names.lookup x=some .local\/sc.names.lookup x=some .cell
def Look(env:Env)(h:Heap)(m:vf)(x:Str)(u:VL):Prop :=
 (env.kindOf x=some .local/\m x=some u)\/((env.kindOf x=some .cell\/env.kindOf x=some .free)/\∃c,env.cells.lookup x=some c/\h.IsCell c (some u))
structure Cx.Ok(X:Cx):Prop where
 mod:Mod X.K X.mg X.base
 kind:X.env.scope.kind=.function
 glob:X.env.globals=mainGlobals
 blt:X.env.builtins=builtinsNs
 above:X.s₀.heap.objs.size<=X.env.locals
 inj:∀x y c,X.env.cells.lookup x=some c->X.env.cells.lookup y=some c->x=y
 has:∀x,(X.env.kindOf x=some .cell\/X.env.kindOf x=some .free)->∃c,X.env.cells.lookup x=some c
 Vq:∀x c,X.fn x=true->X.env.cells.lookup x=some c->X.s₀.heap.objs.size<=c
 hd:X.calm=true->X.A.handled=none
 frames:X.A.frames=some X.stack
 cI:X.stack=X.outer\/(X.stack=X.env::X.outer/\X.env.frame=some X.env.locals)
 oI:∀b∈X.ex,b≠X.env.locals/\∀x c,X.env.cells.lookup x=some c->c≠b
 bs:∀b o,X.base.get? b=some o->X.s₀.heap.get? b=some o/\X.H₀ b=none
 OH:X.base.objs.size<=X.s₀.heap.objs.size
 Qa:∀b o,X.base.get? b=some o->b ∉ X.ex
 P9:∀b∈X.ex,b ∉ X.fs
 Hz:X.s₀.heap.FunFrames X.base X.outer
 Q5:∀b∈X.fs,X.H₀ b=none
 kt:KTb X.mg X.H₀
structure Inv(X:Cx)(pins:List (Addr×Obj))(σ:List (Option V))(H:Hp)(s:Shared):Prop where
 ok:X.Ok
 os:s.os=X.s₀.os
 bare:AllBare s.gens
 base:Un X.fs X.ex X.H₀ H X.s₀.heap s.heap
 loc:∃m,s.heap.Ns X.env.locals m/\∀(i:Nat) (x:Str) (v:V),X.N[i]? = some x->σ[i]? = some tz->oQ X.env.scope x->∃u,RelV v u/\Look X.env s.heap m x u
 cell:∀x c,X.env.cells.lookup x=some c->∃v,s.heap.IsCell c v
 free:H X.env.locals=none
 FK:∀x c,X.env.cells.lookup x=some c->H c=none
 pin:∀p∈X.pn++pins,s.heap.get? p.1=some p.2/\H p.1=none/\p.1≠X.env.locals/\p.1 ∉ X.fs/\∀v,p.2.data≠.cell v
 Ay:DN X.prog X.w H s.heap
 len:σ.length=X.N.length
def Inv.kt{X:Cx}{pins:Cl}{σ:List (Option V)}{H:Hp}{s:SD}(I:Db):KTb X.mg H:=I.ok.kt.un I.base
section
variable{X:Cx}{pins:Cl}{σ:List (Option V)}{H H':Hp}{s:SD}{h':Heap}
def Cx.Ok.uq(ok:X.Ok){b:AD}{o:Obj}(e:X.base.get? b=some o):b ∉ X.fs:=fun g=>by
 have:=(ok.Hz.mem g).1;rw[e]at this;cases this
def Inv.bs(I:Db):∀b o,X.base.get? b=some o->s.heap.get? b=some o/\H b=none:=fun b o e=>
 ⟨I.base.keep b o (I.ok.bs b o e).1 (I.ok.bs b o e).2 (I.ok.uq e) (I.ok.Qa b o e),I.base.free b o (I.ok.bs b o e).1 (I.ok.bs b o e).2 (I.ok.Qa b o e)⟩
def Inv.bk(I:Db):∀b o,X.base.get? b=some o->s.heap.get? b=some o:=fun b o e=>(I.bs b o e).1
def Inv.mod(I:Db):Mod X.K X.mg X.base:=I.ok.mod
def Inv.Gp(I:Db):X.K.In s.heap:=I.ok.mod.Pk.keeps I.bk
def Inv.lt(I:Db):X.env.locals<s.heap.objs.size:=let⟨_,hn,_⟩:=I.loc;hn.lt
def Inv.sz(I:Db):X.s₀.heap.objs.size<=s.heap.objs.size:=aK I.ok.above (Nat.le_of_lt I.lt)
def Inv.vD(I:Db){a:AD}(h:s.heap.objs.size<=a):a ∉ X.fs:=fun l=>by
 obtain⟨_,o,g,_⟩:=I.ok.Hz.mem l;exact absurd (aJ (aE g) (aK I.sz h)) yG
def Inv.RB(I:Db):∀x c,X.env.cells.lookup x=some c->c≠X.env.locals:=fun x c e z=>by
 obtain⟨v,o,M,hd⟩:=I.cell x c e;obtain⟨m,⟨o',R,T,g,l,_⟩,_⟩:=I.loc;rw[z,g]at M;cases M;rw[l]at hd;cases hd
def Inv.Hz(I:Db):s.heap.FunFrames X.base X.outer:=by
 have all:∀(l:List Env),(∀b∈Fd l,b∈X.fs)->X.s₀.heap.FunFrames X.base l->s.heap.FunFrames X.base l:=by
  intro l
  induction l with
  |nil=>intro _ _;trivial
  |cons env r U=>
   intro T hl;obtain⟨hk,⟨L,o,g,hn,Z,hd⟩,Y⟩:=hl;have R:L∈X.fs:=T L (by unfold Fd;rw[(QY),g];exact bK);obtain⟨sl,e⟩:=I.base.slot L o Z (I.ok.Q5 L R) R fun z=>I.ok.P9 L z R;exact⟨hk,⟨L,_,g,hn,e,hd⟩,U (fun b M=>T b (by unfold Fd;rw[(QY),g];exact aT _ M)) Y⟩
 exact all X.outer (fun _ M=>M) I.ok.Hz
def Inv.stack(I:Db):s.heap.FunFrames X.base X.stack:=by
 rcases I.ok.cI with e|⟨e,g⟩
 .rw[e];exact I.Hz
 .rw[e];obtain⟨m,hn,_⟩:=I.loc;refine .cons (by rw[I.ok.kind];decide) g hn ?_ I.Hz;exact Heap.get?_none_of_le (aK I.ok.OH I.ok.above)
def Inv.MP(I:Db):∀b∈Fd X.stack,b∈X.env.locals::X.fs:=fun b g=>by
 rcases I.ok.cI with e|⟨e,l⟩
 .rw[e]at g;exact aT _ g
 .rw[e]at g;unfold Fd at g;rw[(QY),l]at g;exact g
def Inv.L3(I:Db):∀b∈Fd X.stack,H b=none:=fun b g=>by
 rcases aI.mp (I.MP b g) with e|g
 .rw[e];exact I.free
 .obtain⟨_,o,l,_⟩:=I.ok.Hz.mem g;exact I.base.free b o l (I.ok.Q5 b g) fun z=>I.ok.P9 b z g
def Inv.step{g':Array GenState}{t':Nat}{d':Drawn}{ch:vz}(I:Db) (T:OP) (keep:∀b o,b≠X.env.locals->b ∉ X.fs->b ∉ ch->s.heap.get? b=some o->H b=none->h'.get? b=some o) (slot:∀b o,b≠X.env.locals->b∈X.fs->b ∉ ch->s.heap.get? b=some o->H b=none->∃sl,h'.get? b=some {o with slots:=sl})(free:∀b o,b ∉ ch->s.heap.get? b=some o->H b=none->H' b=none) (there:∀b o,b ∉ ch->s.heap.get? b=some o->∃o',h'.get? b=some o') (CP:∀b xs,H b=some Pt->H' b=some Pt)(FN:∀b o u,H b=some (.Ey o u)->H' b=some (.Ey o u))(F9:∀b ps,H b=some (.PQ ps)->∃more,H' b=some (.PQ (ps++more))) (Fu:∀b xs o,b ∉ ch->H b=some Pt->s.heap.get? b=some o->h'.get? b=some o) (ns:∀m,s.heap.Ns X.env.locals m->h'.Ns X.env.locals m)(Ay:DN X.prog X.w H' h')(hg:AllBare g'):Inv X pins σ H' {s with heap:=h',gens:=g',drawn:=d',toks:=t'}:=by
 have neL:∀b o,X.s₀.heap.get? b=some o->b≠X.env.locals:=fun b o e=>aP (aJ wU I.ok.above);have M:∀b o,X.s₀.heap.get? b=some o->b ∉ X.ex->b ∉ ch:=fun b o e g Y=>by
  rcases(T b Y).1 with z|z
  .exact g z
  .exact absurd (aJ wU z) yG
 have cellK:∀x c,X.env.cells.lookup x=some c->∀v,s.heap.IsCell c v->h'.IsCell c v:=fun x c e v ⟨o,Z,hd⟩=>by
  have R:c ∉ ch:=fun z=>(T c z).2.2.1 x c e rfl;by_cases hc:c∈X.fs
  .obtain⟨sl,q⟩:=slot c o (I.RB x c e) hc R Z (I.FK x c e);exact⟨_,q,hd⟩
  .exact⟨o,keep c o (I.RB x c e) hc R Z (I.FK x c e),hd⟩
 refine⟨I.ok,I.os,hg,⟨fun b o e n Y g=>?_,fun b o e n Y g=>?_,fun b o e n g=>?_,fun b o e g=>?_,fun b xs e=>CP b xs (I.base.CP b xs e),fun b o xs e=>FN b o xs (I.base.FN b o xs e),fun b ps e=>?_,fun b xs o q e g=>Fu b xs o (M b o e g) (I.base.CP b xs q) (I.base.Fu b xs o q e g)⟩,?_,fun x c e=>?_,?_,fun x c e=>?_,fun p hp=>?_,Ay,I.len⟩
 .exact keep b o (neL b o e) Y (M b o e g) (I.base.keep b o e n Y g) (I.base.free b o e n g)
 .obtain⟨sl,U⟩:=I.base.slot b o e n Y g;obtain⟨sl',e2⟩:=slot b _ (neL b o e) Y (M b o e g) U (I.base.free b o e n g);exact⟨sl',e2⟩
 .obtain⟨o',U⟩:=I.base.there b o e g;exact free b o' (M b o e g) U (I.base.free b o e n g)
 .obtain⟨o',U⟩:=I.base.there b o e g;exact there b o' (M b o e g) U
 .obtain⟨m1,U⟩:=I.base.F9 b ps e;obtain⟨m2,e2⟩:=F9 b _ U;exact⟨m1++m2,by rw[e2,Array.append_assoc]⟩
 .obtain⟨m,hn,hl⟩:=I.loc;refine⟨m,ns m hn,fun i x v U e2 e3=>?_⟩;obtain⟨u,r,l⟩:=hl i x v U e2 e3;refine⟨u,r,?_⟩;rcases l with l|⟨k,c,e,z⟩
  .exact .inl l
  .exact .inr ⟨k,c,e,cellK x c e _ z⟩
 .obtain⟨v,z⟩:=I.cell x c e;exact⟨v,cellK x c e v z⟩
 .obtain⟨m,⟨o,_,_,Z,_⟩,_⟩:=I.loc;exact free _ o (fun z=>(T _ z).2.1 rfl) Z I.free
 .obtain⟨v,o,Z,hd⟩:=I.cell x c e;exact free c o (fun z=>(T c z).2.2.1 x c e rfl) Z (I.FK x c e)
 .obtain⟨e,n,ne,nf,d⟩:=I.pin p hp;have R:p.1 ∉ ch:=fun z=>(T p.1 z).2.2.2 p hp rfl;exact⟨keep p.1 p.2 ne nf R e n,free p.1 p.2 R e n,ne,nf,d⟩
def Inv.un{t':Nat}(I:Db)(u:Un X.fs [] H H' s.heap h')(Ay:DN X.prog X.w H' h'):Inv X pins σ H' wd:=by
 obtain⟨m,⟨o,es,ep,T,r⟩,_⟩:=id I.loc;obtain⟨sl,Y⟩:=u.any T I.free A1;exact I.step (g':=s.gens) (d':=s.drawn) (ch:=[]) (fun _ z=>nomatch z) (fun b o _ l _ e n=>u.keep b o e n l A1) (fun b o _ l _ e n=>u.slot b o e n l A1) (fun b o _ e n=>u.free b o e n A1) (fun b o _ e=>u.there b o e A1) u.CP u.FN u.F9 (fun b xs o _ q e=>u.Fu b xs o q e A1) (fun Z hm=>by
  obtain⟨o',M,R,g,U⟩:=hm;rw[T]at g;cases g;exact⟨_,M,R,Y,U⟩) Ay I.bare
def Inv.call{g':Array GenState}{t':Nat}{d':Drawn}{ch:vz}(I:Db)(u:Un (Fd X.stack) ch H H' s.heap h')(Ay:DN X.prog X.w H' h')(hg:AllBare g') (M:OP):Inv X pins σ H' {s with heap:=h',gens:=g',drawn:=d',toks:=t'}:=by
 obtain⟨m,⟨o,es,ep,Y,r⟩,_⟩:=id I.loc;obtain⟨sl,R⟩:=u.any Y I.free fun z=>(M _ z).2.1 rfl;exact I.step (ch:=ch) M (fun b o R hb g e n=>u.keep b o e n (fun z=>(aI.mp (I.MP b z)).elim R hb) g) (fun b o _ _ g e n=>u.any e n g) (fun b o g e n=>u.free b o e n g) (fun b o g e=>u.there b o e g) u.CP u.FN u.F9 (fun b xs o g q e=>u.Fu b xs o q e g) (fun m' hm=>by
  obtain⟨o',T,U,l,Z⟩:=hm;rw[Y]at l;cases l;exact⟨_,T,U,R,Z⟩) Ay hg
def Inv.turned{t':Nat}{it:AD}(I:Db)(k:∀b o,b≠it->s.heap.get? b=some o->h'.get? b=some o)(hn:H it=none)(M:it≠X.env.locals) (Z:it∈X.ex\/X.s₀.heap.objs.size<=it)(Y:∀x c,X.env.cells.lookup x=some c->c≠it)(U:∀p∈X.pn++pins,p.1≠it):Inv X pins σ H wd:=by
 have l:∀b u,H b=some u->b≠it:=fun b u e z=>by rw[z,hn]at e;cases e
 refine I.step (g':=s.gens) (d':=s.drawn) (ch:=[it]) (fun b T=>?_) (fun b o _ _ g e _=>k b o (fun z=>g (by simp[z])) e) (fun b o _ _ g e _=>⟨o.slots,k b o (fun z=>g (by simp[z])) e⟩) (fun _ _ _ _ n=>n)
  (fun b o g e=>⟨o,k b o (fun z=>g (by simp[z])) e⟩) (fun _ _ e=>e) (fun _ _ _ e=>e) (fun b ps e=>⟨#[],by rw[e];simp⟩) (fun b xs o g _ e=>k b o (fun z=>g (by simp[z])) e) (fun m hm=>?_) (fun b u e=>?_) I.bare
 .have e:b=it:=by simpa using T
  subst e;exact⟨Z,M,Y,U⟩
 .obtain⟨o,es,ep,R,r⟩:=hm;exact⟨o,es,ep,k _ o (Ne.symm M) R,r⟩
 .refine(I.Ay b u e).Hd (fun c v g q=>k c v ?_ q) (fun _ q=>q) fun _ _ q=>q;rcases g with z|z
  .rw[z];exact l b u e
  .exact l c _ z
def Inv.tok(I:Db)(t:Nat):Inv X pins σ H {s with toks:=t}:=I.un (h':=s.heap) (t':=t) Un.refl I.Ay
def Inv.kept{t':Nat}(I:Db)(k:∀b u,s.heap.get? b=some u->h'.get? b=some u):Inv X pins σ H wd:=I.un (Un.kept k) (I.Ay.kept k)
def Inv.laid{a:AD}{o:HO}{t':Nat}(I:Db)(k:∀b u,s.heap.get? b=some u->h'.get? b=some u)(g:s.heap.objs.size<=a)(new:CB X.prog X.w (upd H a o) h' a o):Inv X pins σ (upd H a o) wd:=I.un (Un.laid k g (I.Ay.fresh g)) (I.Ay.laid k g new)
def Inv.write{x e:AD}{o:HO}{t':Nat}(I:Db)(l:cZ (H x))(he:e=x\/H e=some (.own x))(k:∀b u,b≠e->s.heap.get? b=some u->h'.get? b=some u)(g:∃u,h'.get? e=some u) (new:CB X.prog X.w (upd H x o) h' x o):Inv X pins σ (upd H x o) wd:=I.un (Un.write l he k g) (I.Ay.write l he k g new)
def Inv.XG{g:Cl}(I:Db)(h:∀p∈g,s.heap.get? p.1=some p.2/\H p.1=none/\p.1≠X.env.locals/\p.1 ∉ X.fs/\∀v,p.2.data≠.cell v):Inv X g σ H s :=
 ⟨I.ok,I.os,I.bare,I.base,I.loc,I.cell,I.free,I.FK,fun p l=>(ae.mp l).elim (fun z=>I.pin p (List.mem_append_left _ z)) (h p),I.Ay,I.len⟩
def QT{N:vo}(g:N.Nodup){i j:Nat}{x:Str}(a:N[i]? = some x)(b:N[j]? = some x):i=j:=by
 obtain⟨R,I⟩:=aF.mp a;obtain⟨M,l⟩:=aF.mp b;exact(List.getElem_inj g).mp (I.trans l.symm)
def Na{M:Model}{A:F0d}{E:ve}{i:Nat}{x:Str}{v:V}{u:VL}{Q:y3}(I:Db)(hN:nn)(hi:X.N[i]? = some x)(l:we)(r:RelV v u) (h:∀s',Inv X pins (σ.set i tz) H s'->(∃a,Heap.SameBut a s.heap s'.heap/\(a=X.env.locals\/X.env.cells.lookup x=some a))->Q () s')(hf:X.fn x=true\/X.env.scope.names.lookup x=some .local:=by first|exact .inl rfl|exact .inr rfl|assumption):wpAny M A (storeName X.env x u) Q E s:=by
 obtain⟨m,hn,hl⟩:=id I.loc;have hcls:f8=false:=by rw[I.ok.kind];rfl
 have hiσ:i<σ.length:=by rw[I.len];exact(aF.mp hi).1
 have RB:=I.RB;have tracked:∀ {a:AD} {h':Heap},(∃o,s.heap.get? a=some o/\H a=none)->Heap.SameBut a s.heap h'->DN X.prog X.w H h':=fun {a h'} ha g b ob e=>by
  obtain⟨_,_,U⟩:=ha;refine(I.Ay b ob e).Hd (fun c w' T q=>(g.2 c ?_).trans q) (fun _ q=>q) fun _ _ q=>q;rintro rfl;rcases T with rfl|T
  .rw[U]at e;cases e
  .rw[U]at T;cases T
 rcases l with hk|hk
 .refine wpAny_storeName_local hk hn (fun h' hn' g=>?_) hcls;obtain⟨oL,_,_,hoL,_⟩:=id hn;refine h _ ⟨I.ok,I.os,I.bare,⟨fun b o e n hb l=>?_,fun b o e n hb l=>?_,I.base.free,fun b o e l=>?_,I.base.CP,I.base.FN,I.base.F9,fun b xs o q e l=>(g.2 b di).trans (I.base.Fu b xs o q e l)⟩,⟨_,hn',fun j y v' R Z e3=>?_⟩,fun y c e=>?_,I.free,I.FK,fun p hp=>?_,tracked ⟨oL,hoL,I.free⟩ g,by simpa using I.len⟩ ⟨_,g,.inl rfl⟩
  .exact(g.2 b di).trans (I.base.keep b o e n hb l)
  .obtain⟨sl,R⟩:=I.base.slot b o e n hb l;exact⟨sl,(g.2 b di).trans R⟩
  .obtain⟨o',R⟩:=I.base.there b o e l;exact⟨o',(g.2 b di).trans R⟩
  .by_cases hj:j=i
   .subst hj;rw[hi]at R;cases R;rw[List.getElem?_set_self hiσ]at Z;cases Z;exact⟨u,r,.inl ⟨hk,by simp⟩⟩
   .rw[List.getElem?_set_ne (Ne.symm hj)]at Z;obtain⟨u',r',q⟩:=hl j y v' R Z e3;refine⟨u',r',?_⟩;rcases q with ⟨k,e⟩|⟨k,c,e,z⟩
    .refine .inl ⟨k,?_⟩;have:y≠x:=fun e=>hj (QT hN R (e ▸ hi));simp[this,e]
    .exact .inr ⟨k,c,e,z.sameBut g (RB y c e)⟩
  .obtain⟨w',z⟩:=I.cell y c e;exact⟨w',z.sameBut g (RB y c e)⟩
  .obtain⟨e,n,ne,nf,d⟩:=I.pin p hp;exact⟨(g.2 p.1 ne).trans e,n,ne,nf,d⟩
 .have Y:X.fn x=true:=by
   rcases hf with z|z
   .exact z
   .rw[z]at hk;cases hk
  obtain⟨c,T⟩:=I.ok.has x (.inl hk);obtain⟨w',z⟩:=I.cell x c T;refine wpAny_storeName_cell I.ok.kind hk T z (fun h' hc' g=>?_);obtain⟨oc,hoc,hocd⟩:=id z;refine h dL ⟨I.ok,I.os,I.bare,⟨fun b o e n hb l=>?_,fun b o e n hb l=>?_,I.base.free,fun b o e l=>?_,I.base.CP,I.base.FN,I.base.F9,fun b xs o q e l=>(g.2 b zBb).trans (I.base.Fu b xs o q e l)⟩,⟨m,hn.sameBut g (Ne.symm (RB x c T)),fun j y v' R Z e3=>?_⟩,fun y c' e=>?_,I.free,I.FK,fun p hp=>?_,tracked ⟨oc,hoc,I.FK x c T⟩ g,by simpa using I.len⟩ ⟨c,g,.inr T⟩
  .exact(g.2 b zBb).trans (I.base.keep b o e n hb l)
  .obtain⟨sl,R⟩:=I.base.slot b o e n hb l;exact⟨sl,(g.2 b zBb).trans R⟩
  .obtain⟨o',R⟩:=I.base.there b o e l;exact⟨o',(g.2 b zBb).trans R⟩
  .by_cases hj:j=i
   .subst hj;rw[hi]at R;cases R;rw[List.getElem?_set_self hiσ]at Z;cases Z;exact⟨u,r,.inr ⟨.inl hk,c,T,hc'⟩⟩
   .rw[List.getElem?_set_ne (Ne.symm hj)]at Z;obtain⟨u',r',q⟩:=hl j y v' R Z e3;refine⟨u',r',?_⟩;rcases q with q|⟨k,c',e,z'⟩
    .exact .inl q
    .refine .inr ⟨k,c',e,z'.sameBut g ?_⟩;rintro rfl;exact hj (QT hN R (I.ok.inj _ _ _ e T ▸ hi))
  .by_cases hcc:c'=c
   .subst hcc;exact⟨_,hc'⟩
   .obtain⟨w2,z2⟩:=I.cell y c' e;exact⟨w2,z2.sameBut g hcc⟩
  .obtain⟨e,n,ne,nf,d⟩:=I.pin p hp;refine⟨(g.2 p.1 ?_).trans e,n,ne,nf,d⟩;intro q;rw[q,hoc]at e;have q':oc=p.2:=aQ e;exact d w' (by rw[<-q'];exact hocd)
def HG{M:Model}{A:F0d}{E:ve}{i:Nat}{x:Str}{v:V}{u:VL}{Q:y3}(I:Db)(R:nn)(hi:X.N[i]? = some x)(g:we)(r:RelV v u) (h:∀s',Inv X pins (σ.set i tz) H s'->Q () s')(l:X.fn x=true\/X.env.scope.names.lookup x=some .local:=by first|exact .inl rfl|exact .inr rfl|assumption):wpAny M A (storeName X.env x u) Q E s :=
 Na I R hi g r (fun s' T _=>h s' T) l
def Inv.Zb{s':SD}{ch:vz}(I:Db)(T:s'.os=s.os)(u:Un (Fd X.stack) ch H H' s.heap s'.heap)(Ay:DN X.prog X.w H' s'.heap)(U:AllBare s'.gens) (g:OP):Inv X pins σ H' s':=by
 obtain⟨h',M,R,l,o'⟩:=s';have e:o'=s.os:=T;subst e;exact I.call (g':=M) (t':=l) (d':=R) u Ay U g
end
abbrev XK:=VL->Option AD->Hp->Prop
abbrev St:=List (Option V)
abbrev VK:=V->Hp->Prop
abbrev TE:=St->Hp->VK->Prop
abbrev TT:=St->Hp->(Bool->Hp->Prop)->Prop
abbrev TA:=St->Hp->(List V->Hp->Prop)->Prop
structure Ends where
 nx:St->Hp->Prop
 rt:VK
 bk:St->Hp->Prop:=fun _ _=>False
 ct:St->Hp->Prop:=fun _ _=>False
abbrev TS:=Ends->St->Hp->Prop
def EP(X:Cx)(pins:Cl)(σ:St)(Q:VK)(u:VL)(s':SD):Prop:=∃v H',Inv X pins σ H' s'/\RelV v u/\Q v H'
def TP(X:Cx)(pins:Cl)(σ:St)(Q:xO)(b:Bool)(s':SD):Prop:=∃H',Inv X pins σ H' s'/\Q b H'
def AP(X:Cx)(pins:Cl)(σ:St)(Q:zAX)(us:vd)(s':SD):Prop:=∃vs H',Inv X pins σ H' s'/\Vals vs us/\Q vs H'
def SP(X:Cx)(pins:Cl)(D:Ends)(f:Flow)(s':SD):Prop :=
 match f with
 |.next=>∃g H',Inv X pins g H' s'/\D.nx g H'
 |.brk=>∃g H',Inv X pins g H' s'/\D.bk g H'
 |.cont=>∃g H',Inv X pins g H' s'/\D.ct g H'
 |.ret u=>∃v g H',Inv X pins g H' s'/\RelV v u/\D.rt v H'
def PE(X:Cx)(e:Expr)(t:TE):Prop :=
 ∀(pins:Cl) (s:SD) (σ:St) (H:Hp) (Q:VK),Inv X pins σ H s->t σ H Q->wpAny AT X.A (eval e X.env) Ix X.xe s
def PT(X:Cx)(e:Expr)(t:TT):Prop :=
 ∀(pins:Cl) (s:SD) (σ:St) (H:Hp) (Q:xO),Inv X pins σ H s->t σ H Q->wpAny AT X.A (isTrue e X.env (eval e X.env)) (TP X pins σ Q) X.xe s
def PW(X:Cx)(e:Expr)(t:TT):Prop :=
 ∀(whole:Sem VL) (pins:Cl) (s:SD) (σ:St) (H:Hp) (Q:xO),Inv X pins σ H s->t σ H Q->wpAny AT X.A (isTrue e X.env whole) (TP X pins σ Q) X.xe s
def PW.pt{X:Cx}{e:Expr}{t:TT}(h:PW X e t):PT X e t:=h _
def PA(X:Cx)(g:vp)(t:TA):Prop :=
 ∀(pos:Pos) (pins:Cl) (s:SD) (σ:St) (H:Hp) (Q:zAX),Inv X pins σ H s->t σ H Q->wpAny AT X.A (spliced (backTo pos (starEach g X.env))) (AP X pins σ Q) X.xe s
def PS(X:Cx)(st:Stmt)(t:TS):Prop :=
 ∀(pins:Cl) (s:SD) (σ:St) (H:Hp) (D:Ends),Inv X pins σ H s->t D σ H->wpAny AT X.A (exec st X.env) (SP X pins D) X.xe s
def HY(X:Cx)(st:v5)(t:TS):Prop :=
 ∀(pins:Cl) (s:SD) (σ:St) (H:Hp) (D:Ends),Inv X pins σ H s->t D σ H->wpAny AT X.A (execs st X.env) (SP X pins D) X.xe s
def A2{α:Type}{t:Sem α}{Q Q':xu}{M:Model}{A:F0d}{E:ve}{s:SD}(h:wpAny M A t Q E s)(g:∀a s,Q a s->Q' a s):wpAny M A t Q' E s:=aM h g fun _ _ x=>x
section
variable{X:Cx}
def DV(i:Nat):TE:=fun σ H Q=>∃v,σ[i]? = some tz/\Q v H
def tC(v:V):TE:=fun _ H Q=>Q v H
def Wf{i:Nat}{x:Str}{pos:Pos}(Z:X.N[i]? = some x)(U:oQ X.env.scope x)(hd:GE=false:=by decide)(R:(x==("__classdict__" : Str))=false:=by decide):PE X wX (DV i):=by
 intro pins s σ H Q I h;obtain⟨v,e,h⟩:=h;obtain⟨m,hn,Y⟩:=I.loc;obtain⟨u,r,l⟩:=Y i x v Z e U;have fin:EP X pins σ Q u s:=⟨v,H,I,r,h⟩;rcases l with ⟨M,hm⟩|⟨M,c,T,g⟩
 .exact wpAny_Name (wpAny_loadName_local I.ok.kind M hn hm fin) hd
 .rcases M with M|M
  .exact wpAny_Name (wpAny_loadName_cell I.ok.kind M T g fin) hd
  .exact wpAny_Name (wpAny_loadName_free I.ok.kind M T g fin R) hd
def B9{i j pos}:PE X (.Constant wN j pos) (tC wN):=fun _ _ _ H _ I h=>wpAny_Constant_int ⟨.int i,H,I.tok _,⟨_,rfl⟩,h⟩
def GO{b j pos}:PE X (.Constant (.bool b) j pos) (tC (.bl b)):=fun _ _ _ H _ I h=>Constant_bool ⟨.bl b,H,I,rfl,h⟩
def nS{j pos}:PE X (.Constant .none j pos) (tC .BS):=fun _ _ _ H _ I h=>Constant_none ⟨.BS,H,I,rfl,h⟩
def qd{x j pos}:PE X (.Constant L6 j pos) (tC L6):=fun _ _ _ H _ I h=>Calls.Constant_str ⟨.str x,H,I.tok _,⟨_,rfl⟩,h⟩
def Gl(X:Cx)(x:Str):Prop:=X.env.kindOf x=some .globalImplicit
def MK{E:ve}{pins:Cl}{s:SD}{σ:St}{H:Hp}{x:Str}{u:VL}{pos:Pos}{Q:ve}(I:Db)(g:y6)(hm:X.mg x=some u)(h:Q u s) (hd:GE=false:=by decide):wpAny AT X.A (eval wX X.env) Q E s :=
 Calls.Name_function_global I.ok.kind g (Calls.loadGlobal_global (by rw[I.ok.glob];exact I.mod.glob.keeps I.bk) hm h) hd
def Hs{E:ve}{pins:Cl}{s:SD}{σ:St}{H:Hp}{x:Str}{u:VL}{pos:Pos}{Q:ve}(I:Db)(l:y6)(hm:X.mg x=none)(g:bootBuiltins x=some u)(h:Q u s) (hn:x ≠ "__name__":=by decide)(hd:GE=false:=by decide):wpAny AT X.A (eval wX X.env) Q E s:=by
 obtain⟨mb,R,M⟩:=I.mod.blt;exact Calls.Name_function_global I.ok.kind l (Calls.loadGlobal_builtin (by rw[I.ok.glob];exact I.mod.glob.keeps I.bk) hm (by rw[I.ok.blt];exact R.keeps I.bk) ((M x hn).trans g) h) hd
def DZ{x:Str}{v:V}{u:VL}{pos:Pos}(g:y6)(hm:X.mg x=some u)(r:RelV v u)(hd:GE=false:=by decide):PE X wX (tC v) :=
 fun _ _ _ H _ I h=>MK I g hm ⟨v,H,I,r,h⟩ hd
def GK{x:Str}{v:V}{u:VL}{pos:Pos}(l:y6)(hm:X.mg x=none)(g:bootBuiltins x=some u)(r:RelV v u)(hn:x ≠ "__name__":=by decide)(hd:GE=false:=by decide):PE X wX (tC v) :=
 fun _ _ _ H _ I h=>Hs I l hm g ⟨v,H,I,r,h⟩ hn hd
variable{a b:Expr}{ta tb:TE}{pos:Pos}
def tB(t:TE):TT:=fun σ H Q=>t σ H fun x g=>∃c,x=.bl c/\Q c g
def Fl{e : Expr}{t : TE}(h : PE X e t)(he : ∀ whole,isTrue e X.env whole = ge:=by intro _; rfl):PT X e (tB t):=by
  intro pins s σ H Q I hw
  refine isTrue_plain (A2 (h pins s σ H _ I hw) fun v s1 ⟨x,H1,I1,r1,q1⟩ => ?_) (he _)
  obtain ⟨d,rfl,q⟩:=q1
  cases r1
  exact wpAny_truthy_bool ⟨H1,I1,q⟩
variable{tA tB':TT}{rest:vp}
def uS(t u:TT):TT:=fun σ H Q=>t σ H fun c g=>if c=true then u σ g Q else Q false g
def tZ(t u:TT):TT:=fun σ H Q=>t σ H fun c g=>if c=true then Q true g else u σ g Q
def qN(t:TT):TT:=fun σ H Q=>t σ H fun c g=>Q (!c) g
def XU(ha:PT X a tA):PW X (.BoolOp .And [a] pos) tA:=by
 intro g pins s σ H Q I h;refine isTrue_and (A2 zH fun c s1 e=>?_);cases c with
 |true=>exact isTrue_and_nil e
 |false=>exact e
def JJ(ha:PT X a tA):PW X (.BoolOp .Or [a] pos) tA:=by
 intro g pins s σ H Q I h;refine isTrue_or (A2 zH fun c s1 e=>?_);cases c with
 |false=>exact isTrue_or_nil e
 |true=>exact e
def bx(ha:PT X a tA)(T:PW X (.BoolOp .And (b::rest) pos) tB'):PW X (.BoolOp .And (a::b::rest) pos) (uS tA tB'):=by
 intro R pins s σ H Q I h;refine isTrue_and (A2 Pf fun c s1 ⟨M,l,g⟩=>?_);cases c with
 |true=>exact T R pins s1 σ M Q l g
 |false=>exact⟨M,l,g⟩
def Jt(ha:PT X a tA)(T:PW X (.BoolOp .Or (b::rest) pos) tB'):PW X (.BoolOp .Or (a::b::rest) pos) (tZ tA tB'):=by
 intro R pins s σ H Q I h;refine isTrue_or (A2 Pf fun c s1 ⟨M,l,g⟩=>?_);cases c with
 |true=>exact⟨M,l,g⟩
 |false=>exact T R pins s1 σ M Q l g
def Fc(ha:PT X a tA):PT X zk (qN tA):=by
 intro pins s σ H Q I h;exact isTrue_not (ha pins s σ H (fun c g=>Q (!c) g) I h)
def tH(ta tb:TE):TE:=fun σ H Q=>ta σ H fun x g=>∃c,x=.bl c/\if c=true then tb σ g Q else Q (.bl false) g
def rV(ta:TE):TE:=fun σ H Q=>ta σ H fun x g=>∃c,x=.bl c/\Q (.bl (!c)) g
def Vc{op}{t:TE}(h:PE X a t):PE X (.BoolOp op [a] pos) t:=fun pins s σ H Q I g=>BoolOp_one (h pins s σ H Q I g)
def WY(ha:y7)(T:PE X (.BoolOp .And (b::rest) pos) tb):PE X (.BoolOp .And (a::b::rest) pos) (tH ta tb):=by
 intro pins s σ H Q I h;refine BoolOp_and (A2 Pf fun v s1 ⟨x,M,l,R,g⟩=>?_);obtain⟨c,rfl,g⟩:=g;cases R;refine wpAny_truthy_bool ?_;cases c with
 |true=>exact T pins s1 σ M Q l g
 |false=>exact⟨.bl false,M,l,rfl,g⟩
def nv(ha:y7):PE X zk (rV ta):=by
 intro pins s σ H Q I h;refine UnaryOp_ (A2 Pf fun v s1 ⟨x,R,M,l,g⟩=>?_);obtain⟨c,rfl,g⟩:=g;cases l;exact not_of (wpAny_truthy_bool ⟨.bl (!c),R,M,rfl,g⟩)
def vG(t:TT)(ta tb:TE):TE:=fun σ H Q=>t σ H fun c g=>if c=true then ta σ g Q else tb σ g Q
def i5{c:Expr}(R:PT X c tA)(ha:y7)(T:PE X b tb):PE X (.IfExp c a b pos) (vG tA ta tb):=by
 intro pins s σ H Q I h;refine wpAny_IfExp (A2 (R pins s σ H _ I h) fun d s1 ⟨M,l,g⟩=>?_);cases d with
 |true=>exact ha pins s1 σ M Q l g
 |false=>exact T pins s1 σ M Q l g
end
def BR(K:Fg)(H:Hp)(a:AD)(xs:vx):Prop :=
 Rd H a SB \/
  ∃(o:Obj) (g:Array VL) (n:Nat),K.lookup a=some o/\o.cls=.type "list" /\ o.dict=none/\o.data=.seq g n/\g.size<=sizeLine/\Vals xs g.toList
def B2(K:Fg)(H:Hp)(a:AD)(xs:vx):Prop :=
 Rd H a Pt \/
  ∃(o:Obj) (g:Array VL) (n:Nat),K.lookup a=some o/\o.cls=.type "tuple" /\ o.data=.seq g n/\g.size<=sizeLine/\Vals xs g.toList
def R8:VL->Option V
 |.none=>some .BS
 |.bool b=>some (.bl b)
 |.int i _=>some wN
 |.str x _=>some L6
 |.bytes b _=>some (.Nt b)
 |.float b _=>some (.Xh b)
 |.ref a=>some PZ
 |.type n=>some (.ty n)
 |_=>none
def RelV.abs{x:V}{u:VL}(r:RelV x u):R8 u=some x:=by
 cases x with
 |BS=>cases r;rfl
 |bl _=>cases r;rfl
 |int _=>obtain⟨t,rfl⟩:=r;rfl
 |str _=>obtain⟨t,rfl⟩:=r;rfl
 |Nt _=>obtain⟨t,rfl⟩:=r;rfl
 |Xh _=>obtain⟨t,rfl⟩:=r;rfl
 |ref _=>cases r;rfl
 |ty _=>cases r;rfl
def RelV.inj{x y:V}{u:VL}(r:RelV x u)(q:RelV y u):x=y:=aQ (r.abs.symm.trans q.abs)
theorem Vals.inj:∀ {xs ys:UF} {us:S0},Vals xs us->Vals ys us->xs=ys
 |_,_,_,.nil,.nil=>rfl
 |_,_,_,.cons r t,.cons l g=>by rw[r.inj l,Vals.inj t g]
section
variable{X:Cx}{pins:Cl}{σ:St}{H:Hp}{s:SD}{a:AD}{xs ys:vx}
def BR.of{K:Fg}(h:H a=some SB):BR K H a xs:=.inl (.inl h)
def B2.of{K:Fg}(h:H a=some Pt):B2 K H a xs:=.inl (.inl h)
def Inv.list(I:Db)(h:BR X.K H a xs):∃its:vd,Vals xs its/\PlainL s.heap a its.toArray/\xs.length<=sizeLine:=by
 rcases h with h|⟨o,its,n,l,M,hd,g,R,r⟩
 .obtain⟨z,its,n,r,e⟩:=h.ok I.Ay;exact⟨its,r,⟨_,n,e,rfl,rfl,rfl⟩,z⟩
 .refine⟨its.toList,r,⟨o,n,I.Gp a o l,M,hd,by simpa using g⟩,?_⟩;have e:=r.length;simp only[Array.length_toList]at e
  lia
def Inv.tuple(I:Db)(h:B2 X.K H a xs):∃its:vd,Vals xs its/\IsTup s.heap a its.toArray/\xs.length<=sizeLine:=by
 rcases h with h|⟨o,its,n,l,M,g,R,r⟩
 .obtain⟨z,its,r,p⟩:=h.ok I.Ay;exact⟨its,r,p,z⟩
 .refine⟨its.toList,r,⟨o,I.Gp a o l,M,n,by simpa using g⟩,?_⟩;have e:=r.length;simp only[Array.length_toList]at e
  lia
def Inv.Ue(I:Db)(h:BR X.K H a xs)(h':BR X.K H a ys):xs=ys:=by
 obtain⟨l,r,⟨o,n,e,_,_,d⟩,_⟩:=I.list h;obtain⟨g,T,⟨o',Y,M,_,_,R⟩,_⟩:=I.list h';rw[e]at M;cases M;rw[d]at R
 injection R with U _
 have:l=g:=by simpa using aH Array.toList U
 subst this;exact r.inj T
def Inv.d7(I:Db)(h:B2 X.K H a xs)(h':B2 X.K H a ys):xs=ys:=by
 obtain⟨l,r,⟨o,e,_,n,d⟩,_⟩:=I.tuple h;obtain⟨g,T,⟨o',M,_,Y,R⟩,_⟩:=I.tuple h';rw[e]at M;cases M;rw[d]at R
 injection R with U _
 have:l=g:=by simpa using aH Array.toList U
 subst this;exact r.inj T
end
abbrev Cx.EU(X:Cx)(E:zV):Cx:={X with xe:=E}
abbrev Cx.EN(X:Cx):Cx:=X.EU fun _ _=>False
def Cx.Ok.EU{X:Cx}(ok:X.Ok)(E:ve):(X.EU E).Ok :=
 ⟨ok.mod,ok.kind,ok.glob,ok.blt,ok.above,ok.inj,ok.has,ok.Vq,ok.hd,ok.frames,ok.cI,ok.oI,ok.bs,ok.OH,ok.Qa,ok.P9,ok.Hz,ok.Q5,ok.kt⟩
def Cx.Ok.DM{X:Cx}{E:ve}(ok:(X.EU E).Ok):X.Ok :=
 ⟨ok.mod,ok.kind,ok.glob,ok.blt,ok.above,ok.inj,ok.has,ok.Vq,ok.hd,ok.frames,ok.cI,ok.oI,ok.bs,ok.OH,ok.Qa,ok.P9,ok.Hz,ok.Q5,ok.kt⟩
section
variable{X:Cx}{pins:Cl}{σ:St}{H:Hp}{s:SD}{E:ve}
def Inv.EU(I:Db)(E:ve):Inv (X.EU E) pins σ H s:=⟨I.ok.EU E,I.os,I.bare,I.base,I.loc,I.cell,I.free,I.FK,I.pin,I.Ay,I.len⟩
def Inv.DM(I:Inv (X.EU E) pins σ H s):Inv X pins σ H s:=⟨I.ok.DM,I.os,I.bare,I.base,I.loc,I.cell,I.free,I.FK,I.pin,I.Ay,I.len⟩
def SP.DM{D:Ends}{f:Flow}{s':SD}(h:SP (X.EU E) pins D f s'):SP X pins D f s':=by
 cases f with
 |next=>obtain⟨g,H',I,q⟩:=h;exact⟨g,H',I.DM,q⟩
 |brk=>obtain⟨g,H',I,q⟩:=h;exact⟨g,H',I.DM,q⟩
 |cont=>obtain⟨g,H',I,q⟩:=h;exact⟨g,H',I.DM,q⟩
 |ret u=>obtain⟨v,g,H',I,r,q⟩:=h;exact⟨v,g,H',I.DM,r,q⟩
def HY.EN{st:v5}{t:TS}(h:HY X.EN st t):HY X st t:=fun pins s σ H D I g=>
 aM (h pins s σ H D (I.EU _) g) (fun _ _ q=>q.DM) fun _ _ z=>False.elim z
end
section
variable{X:Cx}{st:Stmt}{rest:v5}{t u:TS}{e:Expr}{te:TE}{pos:Pos}
def sY:TS:=fun D σ H=>D.nx σ H
def iD(t u:TS):TS:=fun D σ H=>t {D with nx:=u D} σ H
def Dq:HY X [] sY:=fun _ _ σ H _ I h=>wpAny_execs_nil ⟨σ,H,I,h⟩
def B0(M:PS X st t)(l:HY X rest u):HY X (st::rest) (iD t u):=by
 intro pins s σ H D I h;refine wpAny_execs_cons (A2 (M pins s σ H {D with nx:=u D} I h) fun f s1 q=>?_);cases f with
 |next=>
  obtain⟨g,H',R,q⟩:=q;exact l pins s1 g H' D R q
 |ret v=>exact q
 |brk=>exact q
 |cont=>exact q
def Bf(g:PS X st t):HY X [st] t:=by
 intro pins s σ H D I h;refine wpAny_execs_cons (A2 (g pins s σ H D I h) fun f s1 q=>?_);cases f with
 |next=>exact wpAny_execs_nil q
 |ret v=>exact q
 |brk=>exact q
 |cont=>exact q
def Inv.quiet{pins:Cl}{σ:St}{H:Hp}{s:SD}(I:Db):interactive X.env=false:=by simp[interactive,I.ok.kind]
def Ml(te:TE):TS:=fun D σ H=>te σ H fun _ g=>D.nx σ g
def HQ(he:PE X e te)(hs:swapsWith e none pos.line X.env=pure false:=by rfl):PS X (.Expr e pos) (Ml te):=by
 intro pins s σ H D I h;exact wpAny_Expr_any (A2 Pg fun v s1 ⟨x,M,l,R,g⟩=>⟨σ,M,l,g⟩) I.quiet hs
def oX(te:TE):TS:=fun D σ H=>te σ H D.rt
def C8(he:PE X e te):PS X (.Return (some e) pos) (oX te):=by
 intro pins s σ H D I h;exact wpAny_Return_some (A2 Pg fun v s1 ⟨x,R,M,g,l⟩=>⟨x,σ,R,M,g,l⟩)
def pG(c:TT)(t u:TS):TS:=fun D σ H=>c σ H fun b g=>if b=true then t D σ g else u D σ g
def Fx{c:Expr}{a b:v5}{g:TT}(T:PT X c g)(ha:HY X a t)(U:HY X b u):PS X (.If c a b pos) (pG g t u):=by
 intro pins s σ H D I h;refine wpAny_If (A2 (T pins s σ H _ I h) fun d s1 ⟨R,M,l⟩=>?_);cases d with
 |true=>exact ha pins s1 σ R D M l
 |false=>exact U pins s1 σ R D M l
end
abbrev TG:=V->St->Hp->(St->Hp->Prop)->Prop
abbrev Vx:=List V->St->Hp->(St->Hp->Prop)->Prop
def PG(X:Cx)(target:Expr)(t:TG):Prop :=
 ∀(pins:Cl) (s:SD) (σ:St) (H:Hp) (v:V) (u:VL) (Q:St->Hp->Prop),Inv X pins σ H s->RelV v u->t v σ H Q ->
  wpAny AT X.A (assign target X.env u) (fun _ s'=>∃g H',Inv X pins g H' s'/\Q g H') X.xe s
def jr(X:Cx)(ts:vp)(t:Vx):Prop :=
 ∀(pins:Cl) (s:SD) (σ:St) (H:Hp) (vs:UF) (us:S0) (Q:St->Hp->Prop),Inv X pins σ H s->Vals vs us->t vs σ H Q ->
  wpAny AT X.A (assignInOrder ((assignEach ts X.env).map zm) us) (fun _ s'=>∃g H',Inv X pins g H' s'/\Q g H') X.xe s
abbrev VA:=V->V->V->Hp->(Hp->Prop)->Prop
def gG(X:Cx)(t:VA):Prop :=
 ∀(pins:Cl) (s:SD) (σ:St) (H:Hp) (o i v:V) (g l u:VL) (Q:Hp->Prop),Inv X pins σ H s->RelV o g->RelV i l->RelV v u->t o i v H Q ->
  wpAny AT X.A (setItem g l u) (fun _ s'=>∃H',Inv X pins σ H' s'/\Q H') X.xe s
abbrev jn:=V->V->Hp->VK->Prop
def uD(X:Cx)(op:Operator)(t:jn):Prop :=
 ∀(pins:Cl) (s:SD) (σ:St) (H:Hp) (x y:V) (v u:VL) (Q:VK),Inv X pins σ H s->RelV x v->RelV y u->t x y H Q ->
  wpAny AT X.A (inplaceOp op v u) Ix X.xe s
section
variable{X:Cx}{pos:Pos}
def Ef(i:Nat):TG:=fun v σ H Q=>Q (σ.set i tz) H
def CY{i:Nat}{x:Str}(M:nn)(hi:X.N[i]? = some x)(g:we)(l:X.fn x=true\/X.env.scope.names.lookup x=some .local:=by first|exact .inl rfl|exact .inr rfl|assumption):PG X wX (Ef i):=by
 intro pins s σ H v u Q I r h;exact wpAny_assign_Name (HG I M hi g r (fun s' R=>⟨_,H,R,h⟩) l)
def Y6:Vx:=fun vs σ H Q=>vs=[]/\Q σ H
def Ma(t:TG)(u:Vx):Vx:=fun vs σ H Q=>∃v r,vs=v::r/\t v σ H fun g H'=>u r g H' Q
def L9:jr X [] Y6:=by
 intro pins s σ H vs us Q I r h;obtain⟨e,h⟩:=h;subst e;cases r;exact assignInOrder_nil ⟨σ,H,I,h⟩
def Er{e:Expr}{g:vp}{t:TG}{u:Vx}(U:PG X e t)(T:jr X g u) (hs:(assignEach (e::g) X.env).map zm=assign e X.env::(assignEach g X.env).map zm:=by rfl):jr X (e::g) (Ma t u):=by
 intro pins s σ H vs us Q I r h;obtain⟨v,vr,Y,h⟩:=h;subst Y;cases r with
 |cons r M=>
  rw[hs];refine assignInOrder_cons (A2 (U pins s σ H _ _ _ I r h) fun _ s1 ⟨l,H1,Z,R⟩=>?_);exact T pins s1 l H1 _ _ Q Z M R
def ZQ(K:Fg)(n:Nat)(t:Vx):TG:=fun v σ H Q=>∃a xs,v=.ref a/\B2 K H a xs/\xs.length=n/\t xs σ H Q
def NQ{g:vp}{k:Nat}{t:Vx}{n:Nat}(hc:dO)(h:jr X g t) (hn:(assignEach g X.env).length=n:=by rfl)(M:(assignEach g X.env).findIdx? OR=none:=by rfl):PG X (.Tuple g k pos) (ZQ X.K n t):=by
 intro pins s σ H v u Q I r l;obtain⟨a,xs,e1,Z,hl,l⟩:=l;subst e1;cases r;obtain⟨T,R,Y,hz⟩:=I.tuple Z;refine assign_Tuple_tuple wY Y (by simp[hn,<-hl,R.length]) M fun h' U=>?_;have I1:Inv X pins σ H dL:=I.kept (t':=s.toks) fun b o e=>U b o (aP (aE e)) e;exact h pins _ σ H xs _ Q I1 (by simpa using R) l
def YS(g l:TE)(t:VA):TG:=fun v σ H Q=>g σ H fun o R=>l σ R fun i M=>t o i v M fun I=>Q σ I
def RL{o i:Expr}{to ti:TE}{t:VA}(ho:PE X o to)(hi:PE X i ti)(hs:gG X t)
 (ha:∀v,assign (.Subscript o i pos) X.env v=(do
      let ov <-holding [v] (eval o X.env)
      let iv <-holding [v,ov] (eval i X.env)
      standAt pos
      holding [v,ov,iv] (setItem ov iv v)
      release [v,ov,iv] []):=by intro _;rfl):PG X (.Subscript o i pos) (YS to ti t):=by
  intro pins s σ H v u Q I r h
  rw[ha]
  refine Wb (ao (A2 zI fun ov s1 ⟨x,H1,I1,r1,q1⟩=>?_))
  refine Wb (ao (A2 (hi pins s1 σ H1 _ I1 q1) fun iv s2 ⟨y,H2,I2,r2,q2⟩=>?_))
  refine Wb (ah (Wb (ao (A2 (hs pins s2 σ H2 x y v ov iv u _ I2 r1 r2 r q2) fun _ s3 ⟨H3,I3,q3⟩=>?_))))
  exact wpAny_release ⟨σ,H3,I3,q3⟩
def J8(l:TE)(g:TG):TS:=fun D σ H=>l σ H fun x I=>g x σ I D.nx
def Vy{tg e:Expr}{l:TE}{g:TG}(he:PE X e l)(U:PG X tg g)(hs:swapsWithSole [tg] e pos.line X.env=pure false:=by rfl)(T:swappedStores [tg] e X.env=pure none:=by rfl) (Y:(assignEach [tg] X.env).map zm=[assign tg X.env]:=by rfl):PS X (.Assign [tg] e pos) (J8 l g):=by
 intro pins s σ H D I h;refine wpAny_Assign_stores (A2 Pg fun v s1 ⟨x,H1,Z,M,R⟩=>?_) hs T;rw[Y];exact A2 (U pins s1 σ H1 x v _ Z M R) fun _ s2 q=>q
def D9{i:Nat}{x:Str}{e:Expr}{l:TE}{g:Pos}(Y:nn)(hi:X.N[i]? = some x)(T:we)(he:PE X e l)(hs:swapsWith e (some (.Name x g)) pos.line X.env=pure false:=by rfl)(U:X.fn x=true\/X.env.scope.names.lookup x=some .local:=by first|exact .inl rfl|exact .inr rfl|assumption):PS X (.Assign [.Name x g] e pos) (J8 l (Ef i)):=by
 intro pins s σ H D I h;refine wpAny_Assign_Name (A2 Pg fun v s1 ⟨y,H1,I1,M,R⟩=>?_) hs;exact HG I1 Y hi T M (fun s2 Z=>⟨_,H1,Z,R⟩) U
def uR(i j:Nat)(g:TA):TS:=fun D σ H=>g σ H fun vs l=>∃v w,vs=[v,w]/\D.nx ((σ.set i tz).set j (some w)) l
def m9{i j:Nat}{x y:Str}{a b:Expr}{ta:TA}{Z Y pt:Pos}{kt k2 l}(hc:dO)(hN:nn)(hi:X.N[i]? = some x)(hj:X.N[j]? = some y)(hij:i≠j) (hx:X.env.scope.names.lookup x=some .local)(hy:xP)(ha:PA X [a,b] ta) (hw:swappedStores [.Tuple [.Name x Z,.Name y Y] kt pt] (.Tuple [a,b] k2 l) X.env=pure (some [x,y])) (hs:swapsWithSole [.Tuple [.Name x Z,.Name y Y] kt pt] (.Tuple [a,b] k2 l) pos.line X.env=pure false:=by rfl):PS X (.Assign [.Tuple [.Name x Z,.Name y Y] kt pt] (.Tuple [a,b] k2 l) pos) (uR i j ta):=by
 intro pins s σ H D I h;rw[exec_Assign_arm];refine Wb (ah ?_);rw[hs];refine Wb lr;rw[if_neg AS];refine Wb (Tuple_ (A2 (ha _ pins s σ H _ I h) fun us s1 ⟨vs,H1,I1,r1,U⟩=>?_));obtain⟨v,w,e1,U⟩:=U;subst e1;obtain⟨R,M,rfl,rv,T⟩:∃R M,us=[R,M]/\RelV v R/\RelV w M:=by
  cases r1 with
  |cons p q=>
   cases q with
   |cons p' q'=>
    cases q';exact⟨_,_,rfl,p,p'⟩
 refine aY ?_ (by show 2<=sizeLine;decide);have I2:Inv X pins σ H1 {s1 with heap:=s1.heap.push { cls:=.type "tuple",data:=.seq [R,M].toArray} }:=I1.kept (t':=s1.toks) fun b o e=>aD _ e;rw[hw];refine Wb lr;show wpAny AT X.A (do rule "assign.swapped-stores"; let g <-unpackItems (.ref s1.heap.objs.size) 2 none;assignInOrder [fun v=>bindName X.env y v,fun v=>bindName X.env x v] g.reverse;pure Flow.next) _ _ _;refine Wb (ba (Wb (unpackItems_tuple (items:=#[R,M]) wY (IsTup.new s1.heap _) fun h' hx'=>?_)));have I3:=I2.kept (h':=h') (t':=s1.toks) fun b o e=>hx' b o (aP wU) e;show wpAny _ _ (assignInOrder [fun v=>bindName X.env y v,fun v=>bindName X.env x v] [M,R]>>=fun _=>pure Flow.next) _ _ _;refine Wb (assignInOrder_cons (wpAny_bindName (HG I3 hN hj (.inl hy) T (fun s2 I4=>?_) (.inr hy))));refine assignInOrder_cons (wpAny_bindName (HG I4 hN hi (.inl hx) rv (fun s3 I5=>assignInOrder_nil lr) (.inr hx)));rw[List.set_comm _ _ (Ne.symm hij)]at I5;exact⟨_,H1,I5,U⟩
def tT(M R T:TE)(l:V->V->Hp->VK->Prop)(I:jn)(g:VA):TS:=fun D σ H=>M σ H fun o H1=>R σ H1 fun i H2=>l o i H2 fun x H3=>T σ H3 fun y Z=>I x y Z fun z Y=>g o i z Y fun U=>D.nx σ U
def pQ(X:Cx)(t:V->V->Hp->VK->Prop):Prop :=
 ∀(pins:Cl) (s:SD) (σ:St) (H:Hp) (o i:V) (g l:VL) (Q:VK),Inv X pins σ H s->RelV o g->RelV i l->t o i H Q ->
  wpAny AT X.A (getItem g l) Ix X.xe s
def kN{o i e:Expr}{to ti te:TE}{l:V->V->Hp->VK->Prop}{U:jn}{g:VA}{op:Operator}{T:Pos}(ho:PE X o to)(hi:PE X i ti)(hg:pQ X l)(he:PE X e te)(hp:uD X op U)(hs:gG X g)
 (ha:∀M R new,augStore i M R new=(do holding [new,M,R] (setItem M R new);release [new,M,R] [];pure .next):=by intros;rfl):PS X (.AugAssign (.Subscript o i T) op e pos) (tT to ti te l U g):=by
 intro pins s σ H D I h;refine wpAny_AugAssign_SubscriptAny (A2 zI fun M s1 ⟨Z,H1,I1,r1,q1⟩=>?_) ha;refine A2 (hi pins s1 σ H1 _ I1 q1) fun R s2 ⟨Y,H2,I2,r2,q2⟩=>?_;refine A2 (hg pins s2 σ H2 Z Y M R _ I2 r1 r2 q2) fun old s3 ⟨x3,H3,I3,r3,q3⟩=>?_;refine A2 (he pins s3 σ H3 _ I3 q3) fun v s4 ⟨x4,H4,I4,r4,q4⟩=>?_;refine A2 (hp pins s4 σ H4 x3 x4 old v _ I4 r3 r4 q4) fun new s5 ⟨x5,H5,I5,r5,q5⟩=>?_;exact A2 (hs pins s5 σ H5 Z Y x5 M R new _ I5 r1 r2 r5 q5) fun _ s6 ⟨H6,I6,q6⟩=>⟨σ,H6,I6,q6⟩
def vJ(f:Int->Int->Int):jn:=fun x y H Q=>∃i j,x=.int i/\y=.int j/\Q (.int (f i j)) H
def pO:uD X .Add (vJ fun i j=>i+j):=by
 intro pins s σ H x y v u Q I l g h;obtain⟨i,j,R,M,q⟩:=h;subst R;subst M;obtain⟨t,rfl⟩:=l;obtain⟨T,rfl⟩:=g;exact iadd_int ⟨.int _,H,I.tok _,⟨_,rfl⟩,q⟩
end
section
variable{X:Cx}{pos:Pos}
def Zw(c:TT)(M:TS):TS:=fun D σ H=>∃W:Nat->St->Hp->Prop,(∃m,W m σ H)/\∀m σ H,W m σ H ->
 c σ H fun b I=>if b=true then ∃N:St->Hp->Prop,(∀g H',N g H'->∃l,l<m/\W l g H')/\M xQ σ I else D.nx σ I
def Us{c:Expr}{M:v5}{tc:TT}{tb:TS}(hp:PassesOwn AT X.A X.env X.xe)(hc:PT X c tc)(hb:HY X M tb):PS X (.While c M [] pos) (Zw tc tb):=by
 intro pins s σ H D I h;obtain⟨W,⟨m0,w0⟩,turn⟩:=h;refine wpAny_While (codeAny_whileLoop (fun n s'=>∃R H',Inv X pins R H' s'/\W n R H') ?_ m0 ⟨σ,H,I,w0⟩);rintro n s1 ⟨l,H1,I1,w1⟩;refine wpAny_passesOwn hp (A2 (hc pins s1 l H1 _ I1 (turn n l H1 w1)) fun b s2 ⟨H2,I2,Y⟩=>?_);cases b with
 |true=>
  obtain⟨N,hN,Y⟩:=Y;rw[if_pos rfl];refine wpAny_passesOwn hp (A2 (hb pins s2 l H2 _ I2 Y) fun f s3 U=>?_);cases f with
  |next=>
   obtain⟨g,T,I3,n3⟩:=U;obtain⟨m',hm,Z⟩:=hN g T n3;exact⟨m',hm,g,T,I3,Z⟩
  |cont=>
   obtain⟨g,T,I3,n3⟩:=U;obtain⟨m',hm,Z⟩:=hN g T n3;exact⟨m',hm,g,T,I3,Z⟩
  |brk=>exact U
  |ret v=>exact U
 |false=>
  rw[if_neg aL];exact wpAny_execs_nil ⟨l,H2,I2,Y⟩
end
structure It where
 go:Nat->Hp->Prop
 FE:Nat->Hp->V->Hp->Prop
 stop:Nat->Hp->Prop
def HB(X:Cx)(pins:Cl)(H:Hp)(b:AD):Prop :=
 H b=none/\b≠X.env.locals/\b ∉ X.fs/\(b∈X.ex\/X.s₀.heap.objs.size<=b)/\(∀x c,X.env.cells.lookup x=some c->c≠b)/\∀p∈X.pn++pins,p.1≠b
def Inv.SH{X:Cx}{pins:Cl}{σ:St}{H H':Hp}{s:SD}{b:AD}(I:Db)(g:s.heap.objs.size<=b)(hn:H' b=none):HB X pins H' b:=by
 refine⟨hn,Nat.ne_of_gt (aJ I.lt g),I.vD g,.inr (aK I.sz g),fun x c e z=>?_,fun p l z=>?_⟩
 .obtain⟨v,q⟩:=I.cell x c e;exact absurd (aJ q.lt (by rw[z];exact g)) yG
 .exact absurd (aJ (aE (I.pin p l).1) (by rw[z];exact g)) yG
structure Turn(P:Program)(w:World)(K:Fg)(tg:Expr)(J:It)(fp:List Addr)(it:Addr)(tn:yL):Prop where
 mem:it∈fp
 obj:∀i h,tn i h->∀b∈fp,∃o,h.get? b=some o/\∀v,o.data≠.cell v
 keep:∀i h h',tn i h->(∀b∈fp,∀o,h.get? b=some o->h'.get? b=some o)->tn i h'
 item:∀(X:Cx),X.prog=P->X.w=w->X.K=K->X.calm=true->∀(i:Nat) (pins:List (Addr×Obj)) (s:Shared) (σ:St) (H:Hp) (E:zAc),Inv X pins σ H s->(∀b∈fp,HB X pins H b)->tn i s.heap->J.go i H ->
  wpAny yH X.A (pyNext rs) (fun r s1=>∃u,r=some u /\
   wpAny yH X.A (letOwnedTupleGo tg rs u) (fun _ s2=>∃x H',Inv X pins σ H' s2/\RelV x u/\J.FE i H x H'/\tn Pi s2.heap/\∀b∈fp,H' b=none) E s1) E s
 done:∀(X:Cx),X.prog=P->X.w=w->X.K=K->X.calm=true->∀(i:Nat) (pins:List (Addr×Obj)) (s:Shared) (σ:St) (H:Hp) (E:zAc),Inv X pins σ H s->(∀b∈fp,HB X pins H b)->tn i s.heap->J.stop i H ->
  wpAny yH X.A (pyNext rs) (fun r s1=>r=none/\Inv X pins σ H s1) E s
 self:∀(A:Around) (i:Nat) (s:Shared) (Q:zAc) (E:zAc),tn i s.heap->Q rs s->wpAny yH A (pyIter rs) Q E s
abbrev TI:=St->Hp->(It->Hp->Prop)->Prop
def uF(X:Cx)(pins:Cl)(σ:St)(tg:Expr)(R:It->Hp->Prop)(g:VL)(s2:SD):Prop :=
 ∃(it:AD) (fp:List AD) (tn:yL) (J:It) (H':Hp),g=.ref it/\Inv X pins σ H' s2/\Turn X.prog X.w X.K tg J fp it tn/\tn 0 s2.heap/\(∀b∈fp,HB X pins H' b)/\R J H'
def PI(X:Cx)(tg iter:Expr)(g:TI):Prop :=
 ∀(pins:Cl) (s:SD) (σ:St) (H:Hp) (R:It->Hp->Prop),Inv X pins σ H s->g σ H R ->
  wpAny AT X.A (eval iter X.env) (fun v s1=>wpAny AT X.A (pyIter v) (uF X pins σ tg R) X.xe s1) X.xe s
def UO{M:Model}{A:F0d}{E:ve}{s:SD}{tg:Expr}{it:AD}{u:VL}{o:Obj}{n:xC}{vs:Array VL}{Q:y3}(l:s.heap.get? it=some o)(I:o.cls=.type n)(hd:o.data=.fields vs) (hn:["enumerate","zip","dict_itemiterator","dict_reverseitemiterator","odict_iterator","itertools.zip_longest","itertools.pairwise"].contains n=false)(g:Q () s):wpAny M A (letOwnedTupleGo tg rs u) Q E s:=by
 unfold letOwnedTupleGo;cases tg<;>first
  |exact aB g
  |(cases u<;>first
    |exact aB g
    |(refine Wb (wpAny_load l ?_)
      rw[I,hd];show wpAny M A (if(["enumerate","zip","dict_itemiterator","dict_reverseitemiterator","odict_iterator","itertools.zip_longest","itertools.pairwise"].contains n&&vs[0]? == some (rawInt _))=true then _ else _) Q E s;rw[if_neg (by intro h;rw[hn,(OA)]at h;cases h)];exact aB g))
def Xd(K:Fg)(a:AD):It :=
 ⟨fun i H=>∃xs x,BR K H a xs/\xs[i]? = some x,fun i H x H'=>H'=H/\∀xs,BR K H a xs->xs[i]? = some x,fun i H=>∃xs,BR K H a xs/\xs.length<=i⟩
def Xe(K:Fg)(a:AD):It :=
 ⟨fun i H=>∃xs x,B2 K H a xs/\xs[i]? = some x,fun i H x H'=>H'=H/\∀xs,B2 K H a xs->xs[i]? = some x,fun i H=>∃xs,B2 K H a xs/\xs.length<=i⟩
def eO(lo:Int)(n:Nat):It:=⟨fun i _=>i<n,fun i H x H'=>H'=H/\x=.int (lo+i),fun i _=>n<=i⟩
def eM{P:F0b}{w:F0c}{K:Fg}{tg:Expr}(a it:AD):Turn P w K tg (Xd K a) [it] it (fun i h=>h.IsListIter it a i) where
 mem:=by simp
 obj:=fun i h st b hb=>by
  have e:b=it:=by simpa using hb
  subst e;obtain⟨o,e,c,d⟩:=st;exact⟨o,e,fun v z=>by rw[d]at z;cases z⟩
 keep:=fun i h h' st k=>st.at fun o e=>k it A1 o e
 item:=by
  intro X hP hw hK hc i pins s σ H E I hf st hg;subst hP hw hK;obtain⟨xs,x,hq,hx⟩:=hg;obtain⟨its,rv,p,hz⟩:=I.list hq;obtain⟨u,hu,ru⟩:=rv.get hx;obtain⟨f0,f1,f2,f3,f4,f5⟩:=hf it A1;refine wpAny_pyNext_list_item st p.isList (x:=u) (by simpa using hu) fun h' st' sb=>?_;have I1:Inv X pins σ H dL:=I.turned (t':=s.toks) zAd f0 f1 f3 f4 f5;obtain⟨o,e,c,d⟩:=id st';exact⟨u,rfl,UO (s:={s with heap:=h'}) e c d AS ⟨x,H,I1,ru,⟨rfl,fun ys hy=>by rw[I.Ue hy hq];exact hx⟩,st',fun b hb=>(hf b hb).1⟩⟩
 done:=by
  intro X hP hw hK hc i pins s σ H E I hf st hg;subst hP hw hK;obtain⟨xs,hq,hx⟩:=hg;obtain⟨its,rv,p,hz⟩:=I.list hq;obtain⟨f0,f1,f2,f3,f4,f5⟩:=hf it A1;have hl:=rv.length;exact wpAny_pyNext_list_end wY st p.isList ll fun h' eb=>⟨rfl,I.turned (t':=s.toks) zu f0 f1 f3 f4 f5⟩
 self:=fun _ _ _ _ _ st h=>wpAny_pyIter_listiter st h
def Zf{P:F0b}{w:F0c}{K:Fg}{tg:Expr}(a it:AD):Turn P w K tg (Xe K a) [it] it (fun i h=>h.IsTupleIter it a i) where
 mem:=by simp
 obj:=fun i h st b hb=>by
  have e:b=it:=by simpa using hb
  subst e;obtain⟨o,e,c,d⟩:=st;exact⟨o,e,fun v z=>by rw[d]at z;cases z⟩
 keep:=fun i h h' st k=>st.at fun o e=>k it A1 o e
 item:=by
  intro X hP hw hK hc i pins s σ H E I hf st hg;subst hP hw hK;obtain⟨xs,x,hq,hx⟩:=hg;obtain⟨its,rv,p,hz⟩:=I.tuple hq;obtain⟨u,hu,ru⟩:=rv.get hx;obtain⟨f0,f1,f2,f3,f4,f5⟩:=hf it A1;refine wpAny_pyNext_tuple_item st (show s.heap.IsTuple a its.toArray from p) (x:=u) (by simpa using hu) fun h' st' sb=>?_;have I1:Inv X pins σ H dL:=I.turned (t':=s.toks) zAd f0 f1 f3 f4 f5;obtain⟨o,e,c,d⟩:=id st';exact⟨u,rfl,UO (s:={s with heap:=h'}) e c d AS ⟨x,H,I1,ru,⟨rfl,fun ys hy=>by rw[I.d7 hy hq];exact hx⟩,st',fun b hb=>(hf b hb).1⟩⟩
 done:=by
  intro X hP hw hK hc i pins s σ H E I hf st hg;subst hP hw hK;obtain⟨xs,hq,hx⟩:=hg;obtain⟨its,rv,p,hz⟩:=I.tuple hq;obtain⟨f0,f1,f2,f3,f4,f5⟩:=hf it A1;have hl:=rv.length;exact wpAny_pyNext_tuple_end wY st (show s.heap.IsTuple a its.toArray from p) ll fun h' eb=>⟨rfl,I.turned (t':=s.toks) zu f0 f1 f3 f4 f5⟩
 self:=fun _ _ _ _ _ st h=>wpAny_pyIter_tupleiter st h
def YX{P:F0b}{w:F0c}{K:Fg}{tg:Expr}(it:AD)(lo:Int)(n:Nat):Turn P w K tg (eO lo n) [it] it (fun i h=>IsRangeIter h it (lo+(i:Nat)*1) ((n:Int)-(i:Nat)) 1) where
 mem:=by simp
 obj:=fun i h st b hb=>by
  have e:b=it:=by simpa using hb
  subst e;exact⟨_,st,fun v z=>by
   have z':Data.fields _=Data.cell v:=z;cases z'⟩
 keep:=fun i h h' st k=>k it A1 _ st
 item:=by
  intro X hP hw hK hc i pins s σ H E I hf st hg;subst hP hw hK;obtain⟨f0,f1,f2,f3,f4,f5⟩:=hf it A1;have W:=Walks.range (prog:=X.prog) (w:=X.w) wY it lo 1 n;refine W.item i s _ _ hg st fun v h' tk hv st' kk=>?_;obtain⟨t,rfl⟩:=hv;have I1:Inv X pins σ H Tl:=I.turned (fun b o hb e=>kk b o (by simpa using hb) e) f0 f1 f3 f4 f5;refine⟨_,rfl,UO (s:={s with heap:=h',toks:=tk}) (n := "range_iterator") st' rfl rfl AS ⟨.int (lo+i),H,I1,⟨t,?_⟩,⟨rfl,rfl⟩,st',fun b hb=>(hf b hb).1⟩⟩;rw[Int.mul_one]
 done:=by
  intro X hP hw hK hc i pins s σ H E I hf st hg;subst hP hw hK;obtain⟨f0,f1,f2,f3,f4,f5⟩:=hf it A1;exact wpAny_pyNext_range_end wY st (by have:n<=i:=hg;lia) fun h' eb=>⟨rfl,I.turned (t':=s.toks) zu f0 f1 f3 f4 f5⟩
 self:=fun _ _ _ _ _ st h=>wpAny_pyIter_rangeiter st h
section
variable{X:Cx}{tg:Expr}
def sk(K:Fg)(l:TE):TI:=fun σ H R=>l σ H fun x g=>∃a,x=.ref a/\(∃xs,BR K g a xs)/\R (Xd K a) g
def vC(K:Fg)(l:TE):TI:=fun σ H R=>l σ H fun x g=>∃a,x=.ref a/\(∃xs,B2 K g a xs)/\R (Xe K a) g
def XJ{l:Expr}{M:TE}(hl:PE X l M):PI X tg l (sk X.K M):=by
 intro pins s σ H R I h;refine A2 (hl pins s σ H _ I h) fun v s1 ⟨x,H1,g,T,U⟩=>?_;obtain⟨a,e,⟨xs,Z⟩,q⟩:=U;subst e;cases T;obtain⟨Y,rv,p,hz⟩:=g.list Z;refine wpAny_pyIter_list p.isList ?_;refine⟨s1.heap.objs.size,[s1.heap.objs.size],_,_,H1,rfl,g.kept (t':=s1.toks) fun b o e=>aD _ e,eM a _,⟨_,Heap.get?_push_size _ rfl,rfl,rfl⟩,fun b hb=>?_,q⟩;have e:b=s1.heap.objs.size:=by simpa using hb
 subst e;exact g.SH SL (g.Ay.fresh SL)
def dZ{l:Expr}{T:TE}(hl:PE X l T):PI X tg l (vC X.K T):=by
 intro pins s σ H R I h;refine A2 (hl pins s σ H _ I h) fun v s1 ⟨x,H1,g,U,Y⟩=>?_;obtain⟨a,e,⟨xs,Z⟩,q⟩:=Y;subst e;cases U;obtain⟨M,rv,p,hz⟩:=g.tuple Z;refine wpAny_pyIter_tuple (show s1.heap.IsTuple a M.toArray from p) ?_;refine⟨s1.heap.objs.size,[s1.heap.objs.size],_,_,H1,rfl,g.kept (t':=s1.toks) fun b o e=>aD _ e,Zf a _,⟨_,Heap.get?_push_size _ rfl,rfl,rfl⟩,fun b hb=>?_,q⟩;have e:b=s1.heap.objs.size:=by simpa using hb
 subst e;exact g.SH SL (g.Ay.fresh SL)
def Ud{pins:Cl}{σ:St}{H:Hp}{s:SD}{R:It->Hp->Prop}{E:ve}{lo hi:Int}{t u v:Tok}{tk:Nat}(I:Db)(Y:-(2^62)<=lo)(U:lo<2^62)(T:-(2^62)<=hi)(M:hi<2^62) (q:R (eO lo (hi-lo).toNat) H):wpAny AT X.A (pyIter N7) (uF X pins σ tg R) E xo:=by
 refine wpAny_pyIter_range (IsRange.new ..) (small_one Y U T M) ?_;have g:Inv X pins σ H xo:=I.kept fun b o e=>aD _ e;refine⟨(s.heap.push { cls:=.type "range",data:=.fields #[.int lo t,.int hi u,.int 1 v]}).objs.size,[(s.heap.push { cls:=.type "range",data:=.fields #[.int lo t,.int hi u,.int 1 v]}).objs.size],_,_,H,rfl,
  g.kept (t':=tk) fun b o e=>aD _ e,YX _ lo (hi-lo).toNat,?_,fun b l=>?_,q⟩
 .have e1:lo+((0:Nat):Int)*1=lo:=by simp
  have Z:(((hi-lo).toNat:Nat):Int)-((0:Nat):Int)=Builtin.Range.rangeSize lo hi 1:=by rw[rangeSize_one];split<;>lia
  show IsRangeIter _ _ (lo+((0:Nat):Int)*1) ((((hi-lo).toNat:Nat):Int)-((0:Nat):Int)) 1;rw[e1,Z];exact aa _ rfl
 .have e:b=(s.heap.push { cls:=.type "range",data:=.fields #[.int lo t,.int hi u,.int 1 v]}).objs.size:=by simpa using l
  subst e;exact g.SH SL (g.Ay.fresh SL)
def rk(g:TA):TI:=fun σ H R=>g σ H fun vs l=>∃j:Int,vs=[.int j]/\-(2^62)<=j/\j<2^62/\R (eO 0 j.toNat) l
def rY(g:TA):TI:=fun σ H R=>g σ H fun vs l=>∃i j:Int,vs=[.int i,.int j]/\(-(2^62)<=i/\i<2^62/\-(2^62)<=j/\j<2^62)/\R (eO i (j-i).toNat) l
def eS{a:Expr}{l:TA}{p pos:Pos}(Y:Gl X "range")(hm:X.mg "range" = none)(ha:PA X [a] l)(hs:starEach [a] X.env=[b6]:=by rfl):PI X tg (.Call (.Name "range" p) [a] [] pos) (rk l):=by
 intro pins s σ H R I h;refine Call_ (Hs I Y hm boot_range (bP (A2 n0 fun us s1 ⟨vs,H1,Z,T,g⟩=>?_) hs rfl));obtain⟨j,e,g,U,q⟩:=g;subst e;cases T with
 |cons r M=>
  cases M;obtain⟨t,rfl⟩:=r;exact call_range_1 (Ud Z AC AC g U (by simpa using q))
def cf{a b:Expr}{T:TA}{p pos:Pos}(hg:Gl X "range")(hm:X.mg "range" = none)(ha:PA X [a,b] T)(hs:starEach [a,b] X.env=[b6,wO]:=by rfl)(g:starEach [b] X.env=[wO]:=by rfl):PI X tg (.Call (.Name "range" p) [a,b] [] pos) (rY T):=by
 intro pins s σ H R I h;refine Call_ (Hs I hg hm boot_range (bP (A2 n0 fun us s1 ⟨vs,H1,I1,U,M⟩=>?_) (by rw[hs,g]) (by rw[g];rfl)));obtain⟨i,j,e,⟨M,q2,q3,Z⟩,q⟩:=M;subst e;cases U with
 |cons r l=>
  cases l with
  |cons Y l=>
   cases l;obtain⟨t,rfl⟩:=r;obtain⟨t',rfl⟩:=Y;exact call_range_2 (Ud I1 M q2 q3 Z q)
def uy(R:TI)(g:TG)(T:TS):TS:=fun D σ H=>R σ H fun J Y=>∃W:Nat->Nat->St->Hp->Prop,(∃m,W 0 m σ Y)/\∀i m σ H,W i m σ H ->
 (J.stop i H/\D.nx σ H)\/(J.go i H/\∃N:St->Hp->Prop,(∀l H',N l H'->∃M,M<m/\W Pi M l H')/\∀x H',J.FE i H x H'->g x σ H' fun I U=>T xQ I U)
def MN(fp:vz)(h:Heap):List (AD×Obj):=fp.filterMap fun b=>(h.get? b).map fun o=>(b,o)
def GP{fp:vz}{h:Heap}{b:AD}{o:Obj}(g:b∈fp)(e:h.get? b=some o):(b,o)∈MN fp h:=List.mem_filterMap.mpr ⟨b,g,by rw[e];rfl⟩
def cu{fp:vz}{h:Heap}{p:AD×Obj}(g:p∈MN fp h):p.1∈fp/\h.get? p.1=some p.2:=by
 obtain⟨b,l,e⟩:=List.mem_filterMap.mp g;cases q:h.get? b with
 |none=>rw[q]at e;cases e
 |some o=>
  rw[q]at e;have I:(b,o)=p:=aQ e;subst I;exact⟨l,q⟩
def Inv.pinned{pins:Cl}{σ:St}{H:Hp}{s:SD}{fp:vz}(I:Db)(T:∀b∈fp,HB X pins H b)(R:∀b∈fp,∃o,s.heap.get? b=some o/\∀v,o.data≠.cell v):Inv X (pins++MN fp s.heap) σ H s :=
 I.XG fun p M=>(ae.mp M).elim (fun z=>I.pin p (aR _ z)) fun z=>by
  obtain⟨g,e⟩:=cu z;obtain⟨U,f1,f2,_⟩:=T p.1 g;obtain⟨o,l,d⟩:=R p.1 g;rw[e]at l;cases l;exact⟨e,U,f1,f2,d⟩
def Inv.Kc{pins g:Cl}{σ:St}{H:Hp}{s:SD}(I:Inv X (pins++g) σ H s):Inv X pins σ H s:=I.XG fun p l=>I.pin p (aR _ (List.mem_append_left _ l))
def Qu{iter:Expr}{body:v5}{wi:TI}{g:TG}{tb:TS}{pos:Pos}(hp:PassesOwn AT X.A X.env X.xe)(hc:dO)(hi:PI X tg iter wi)(hg:PG X tg g)(Y:HY X body tb) (hs:∀x,foldedSetIterable iter X.env x=pure x:=by intro _;rfl):PS X (.For tg iter body [] pos) (uy wi g tb):=by
 intro pins s σ H D I h;refine wpAny_For (A2 (hi pins s σ H _ I h) fun v s1 h1=>A2 h1 fun itv s2 h2=>?_) hs;obtain⟨it,fp,tn,J,H2,e,I2,T,st2,f2,W,⟨m0,w0⟩,turn⟩:=h2;subst e;have U:∀ {H':Hp},wj->∀b∈fp,HB X pins H' b:=fun hn b Y=>⟨hn b Y,(f2 b Y).2⟩;refine codeAny_forLoop_any (fun n s'=>∃i R H',Inv X pins R H' s'/\tn i s'.heap/\wj/\W i n R H') ?_ m0 ⟨0,σ,H2,I2,st2,fun b Y=>(f2 b Y).1,w0⟩;rintro n s3 ⟨i,M,H3,I3,st3,fr3,w3⟩;rcases turn i n M H3 w3 with ⟨stop,qn⟩|⟨go,N,hN,step⟩
 .refine wpAny_passesOwn hp (A2 (T.done X rfl rfl rfl hc i pins s3 M H3 X.xe I3 (U fr3) st3 stop) fun r s4 ⟨hr,I4⟩=>?_);subst hr;exact wpAny_execs_nil ⟨M,H3,I4,qn⟩
 .refine wpAny_passesOwn hp (A2 (T.item X rfl rfl rfl hc i pins s3 M H3 X.xe I3 (U fr3) st3 go) fun r s4 ⟨u,hr,h4⟩=>?_);subst hr;refine wpAny_passesOwn hp (A2 h4 fun _ s5 ⟨x,H5,I5,r5,y5,st5,fr5⟩=>?_);have I5':=I5.pinned (U fr5) (T.obj _ _ st5);refine wpAny_passesOwn hp (A2 (hg _ s5 M H5 x u _ I5' r5 (step x H5 y5)) fun _ s6 ⟨σ6,H6,I6,q6⟩=>?_);refine wpAny_passesOwn hp (A2 (Y _ s6 σ6 H6 _ I6 q6) fun f s7 q7=>?_);have again:∀ {l:St} {H7:Hp},Inv X (pins++MN fp s5.heap) l H7 s7->N l H7->∃m,m<n/\∃i R H',Inv X pins R H' s7/\tn i s7.heap/\wj/\W i m R H':=fun {l H7} Z n7=>by
   obtain⟨m',hm,w7⟩:=hN l H7 n7;refine⟨m',hm,i+1,l,H7,Z.Kc,T.keep _ _ _ st5 fun b Y o e=>(Z.pin (b,o) (aR _ (aR _ (GP Y e)))).1,fun b Y=>?_,w7⟩;obtain⟨o,e,d⟩:=T.obj _ _ st5 b Y;exact(Z.pin (b,o) (aR _ (aR _ (GP Y e)))).2.1
  cases f with
  |next=>obtain⟨l,H7,Z,n7⟩:=q7;exact again Z n7
  |cont=>obtain⟨l,H7,Z,n7⟩:=q7;exact again Z n7
  |brk=>obtain⟨l,H7,Z,q7⟩:=q7;exact⟨l,H7,Z.Kc,q7⟩
  |ret v=>obtain⟨x7,l,H7,Z,r7,q7⟩:=q7;exact⟨x7,l,H7,Z.Kc,r7,q7⟩
end
def gY{K:Fg}{a:AD}{xs:vx}{g:TG}{T:TS}{D:Ends}{σ:St}{H:Hp}(Pv:Nat->St->Hp->Prop)(h0:Pv 0 σ H)(Z:∀i σ H,i<=xs.length->Pv i σ H->BR K H a xs) (hs:zBQ)(hd:zAe):∃W:Nat->Nat->St->Hp->Prop,(∃m,W 0 m σ H)/\∀i m σ H,W i m σ H ->((Xd K a).stop i H/\D.nx σ H)\/((Xd K a).go i H/\∃N:St->Hp->Prop,zBm/\∀x H',(Xd K a).FE i H x H'->g x σ H' fun l R=>T xQ l R):=by
 refine⟨fun i m σ H=>m=xs.length-i/\i<=xs.length/\Pv i σ H,⟨xs.length,by simp,Nat.zero_le _,h0⟩,?_⟩;rintro i m σ H ⟨rfl,hi,p⟩;have q:=Z i σ H hi p;by_cases M:i<xs.length
 .refine .inr ⟨⟨xs,xs[i],q,by simp[M]⟩,Pv Pi,fun I H' Y=>⟨xs.length-Pi,by lia,rfl,M,Y⟩,fun x H' y=>?_⟩;obtain⟨e,y⟩:=y;subst e;exact hs i x σ _ (y xs q) p
 .have e:i=xs.length:=by lia
  subst e;exact .inl ⟨⟨xs,q,Nat.le_refl _⟩,hd σ H p⟩
def mU{K:Fg}{a:AD}{xs:vx}{g:TG}{T:TS}{D:Ends}{σ:St}{H:Hp}(Pv:Nat->St->Hp->Prop)(h0:Pv 0 σ H)(Z:∀i σ H,i<=xs.length->Pv i σ H->B2 K H a xs) (hs:zBQ)(hd:zAe):∃W:Nat->Nat->St->Hp->Prop,(∃m,W 0 m σ H)/\∀i m σ H,W i m σ H ->((Xe K a).stop i H/\D.nx σ H)\/((Xe K a).go i H/\∃N:St->Hp->Prop,zBm/\∀x H',(Xe K a).FE i H x H'->g x σ H' fun l R=>T xQ l R):=by
 refine⟨fun i m σ H=>m=xs.length-i/\i<=xs.length/\Pv i σ H,⟨xs.length,by simp,Nat.zero_le _,h0⟩,?_⟩;rintro i m σ H ⟨rfl,hi,p⟩;have q:=Z i σ H hi p;by_cases M:i<xs.length
 .refine .inr ⟨⟨xs,xs[i],q,by simp[M]⟩,Pv Pi,fun I H' Y=>⟨xs.length-Pi,by lia,rfl,M,Y⟩,fun x H' y=>?_⟩;obtain⟨e,y⟩:=y;subst e;exact hs i x σ _ (y xs q) p
 .have e:i=xs.length:=by lia
  subst e;exact .inl ⟨⟨xs,q,Nat.le_refl _⟩,hd σ H p⟩
def WG{c:TT}{R:TS}{D:Ends}{σ:St}{H:Hp}(Pv:St->Hp->Prop)(M:St->Hp->Nat)(h0:Pv σ H) (hs:∀σ H,Pv σ H->c σ H fun b I=>if b=true then R {D with nx:=fun g H'=>Pv g H'/\M g H'<M σ H,ct:=fun g H'=>Pv g H'/\M g H'<M σ H,bk:=D.nx} σ I else D.nx σ I) (mono:∀σ H Q Q',(∀b I,Q b I->Q' b I)->c σ H Q->c σ H Q'):Zw c R D σ H:=by
 refine⟨fun m σ H=>m=M σ H/\Pv σ H,⟨_,rfl,h0⟩,?_⟩;rintro m σ H ⟨rfl,p⟩;refine mono σ H _ _ (fun b I q=>?_) (hs σ H p);cases b with
 |true=>exact⟨_,fun g H' ⟨T,l⟩=>⟨_,l,rfl,T⟩,q⟩
 |false=>exact q
abbrev R2:=V->V->Hp->VK->Prop
def DC(X:Cx)(f:wG)(r:R2):Prop :=
 ∀(pins:Cl) (s:SD) (σ:St) (H:Hp) (x y:V) (v u:VL) (Q:VK),Inv X pins σ H s->RelV x v->RelV y u->r x y H Q ->
  wpAny AT X.A (f v u) Ix X.xe s
def qq(X:Cx)(f:VL->Sem VL)(r:V->Hp->VK->Prop):Prop :=
 ∀(pins:Cl) (s:SD) (σ:St) (H:Hp) (x:V) (v:VL) (Q:VK),Inv X pins σ H s->RelV x v->r x H Q ->
  wpAny AT X.A (f v) Ix X.xe s
def FO(X:Cx)(f:VL)(r:List V->Hp->VK->Prop):Prop :=
 ∀(pins:Cl) (s:SD) (σ:St) (H:Hp) (xs:UF) (us:S0) (Q:VK),Inv X pins σ H s->Vals xs us->r xs H Q ->
  wpAny AT X.A (call f us) Ix X.xe s
def Xj(r:R2)(l g:TE):TE:=fun σ H Q=>l σ H fun x M=>g σ M fun y I=>r x y I Q
def vM(r:V->Hp->VK->Prop)(g:TE):TE:=fun σ H Q=>g σ H fun x l=>r x l Q
def rI(C:Int->Int->Prop)(g:Int->Int->V):R2:=fun x y H Q=>∃i j,x=.int i/\y=.int j/\C i j/\Q (g i j) H
def Sy(g:Int->Int->V):R2:=fun x y H Q=>∃i j,x=.int i/\y=.int j/\Q (g i j) H
def rU(g:Int->V):V->Hp->VK->Prop:=fun x H Q=>∃i,x=.int i/\Q (g i) H
section
variable{X:Cx}{a b:Expr}{ta tb:TE}{pos:Pos}
def i6(ha:y7)(hb:PE X b tb){pins:Cl}{s:SD}{σ:St}{H:Hp}{R:V->V->Hp->Prop}(I:Db) (h:ta σ H fun x T=>tb σ T fun y g=>R x y g){Q:ve}{f:wG} (hf:∀v u s2 x y g,Inv X pins σ g s2->RelV x v->RelV y u->R x y g->wpAny AT X.A (f v u) Q X.xe s2):wpAny AT X.A wA (fun v M=>wpAny AT X.A (eval b X.env) (fun u l=>wpAny AT X.A (f v u) Q X.xe l) X.xe M) X.xe s:=by
 refine A2 Pf fun v s1 ⟨x,T,I1,Y,q1⟩=>?_;refine A2 (hb pins s1 σ T _ I1 q1) fun u s2 ⟨y,g,I2,U,Z⟩=>?_;exact hf v u s2 x y g I2 Y U Z
def K1{op:Operator}{r:R2}(M:DC X (binaryOp op) r)(ha:y7)(R:PE X b tb):PE X (.BinOp a op b pos) (Xj r ta tb):=by
 intro pins s σ H Q I h;exact wpAny_BinOp zAM
def sF{op:UnaryOp}{r:V->Hp->VK->Prop}(M:qq X (unaryOp op) r)(ha:y7):PE X (.UnaryOp op a pos) (vM r ta):=by
 intro pins s σ H Q I h;exact UnaryOp_ (A2 Pf fun v s1 ⟨x,T,R,g,l⟩=>M pins s1 σ T x v Q R g l)
def jY{f:wG}{C:Int->Int->Prop}{g:Int->Int->Int} (rule:∀(i j:Int) (t u:Tok) (s:SD) (Q:ve) (E:ve),C i j->Q (.int (g i j) s.toks) {s with toks:=s.toks+1}->wpAny AT X.A (f (.int i t) (.int j u)) Q E s):DC X f (rI C fun i j=>.int (g i j)):=by
 intro pins s σ H x y v u Q I R M h;obtain⟨i,j,rfl,rfl,T,q⟩:=h;obtain⟨t,rfl⟩:=R;obtain⟨l,rfl⟩:=M;exact rule i j t l s _ _ T ⟨.int (g i j),H,I.tok _,⟨_,rfl⟩,q⟩
def nY{f:wG}{g:Int->Int->Int} (rule:∀(i j:Int) (t u:Tok) (s:SD) (Q:ve) (E:ve),Q (.int (g i j) s.toks) {s with toks:=s.toks+1}->wpAny AT X.A (f (.int i t) (.int j u)) Q E s):DC X f (Sy fun i j=>.int (g i j)):=by
 intro pins s σ H x y v u Q I R M h;obtain⟨i,j,rfl,rfl,q⟩:=h;obtain⟨t,rfl⟩:=R;obtain⟨l,rfl⟩:=M;exact rule i j t l s _ _ ⟨.int (g i j),H,I.tok _,⟨_,rfl⟩,q⟩
def gf{f:wG}{g:Int->Int->Bool} (rule:∀(i j:Int) (t u:Tok) (s:SD) (Q:ve) (E:ve),Q (.bool (g i j)) s->wpAny AT X.A (f (.int i t) (.int j u)) Q E s):DC X f (Sy fun i j=>.bl (g i j)):=by
 intro pins s σ H x y v u Q I R M h;obtain⟨i,j,rfl,rfl,q⟩:=h;obtain⟨t,rfl⟩:=R;obtain⟨l,rfl⟩:=M;exact rule i j t l s _ _ ⟨.bl (g i j),H,I,rfl,q⟩
def um(i j:Int):Prop:=0<=j/\j<=1000000/\i.natAbs<2^64
def fZ(i j:Int):Prop:=(-(2^64)<i/\i<2^64)\/(-(2^64)<j/\j<2^64)
def fZ.ok{i j:Int}(h:fZ i j):IntMulOk i j:=by
 rcases h with ⟨l,g⟩|⟨l,g⟩
 .exact .of_left (intBits_le_64 l g)
 .exact .of_right (intBits_le_64 l g)
def nH:DC X xY (Sy fun i j=>.int (i+j)):=nY fun _ _ _ _ _ _ _ q=>add_int q
def VI:DC X (binaryOp .Sub) (Sy fun i j=>.int (i-j)):=nY fun _ _ _ _ _ _ _ q=>sub_int q
def SK:DC X (binaryOp .Mod) (rI (fun _ j=>j≠0) fun i j=>.int (i.fmod j)):=jY fun _ _ _ _ _ _ _ g q=>mod_int' g q
def pA:DC X (binaryOp .Pow) (rI um fun i j=>.int (i^j.toNat)):=jY fun _ _ _ _ _ _ _ g q=>pow_int_small g.1 g.2.1 g.2.2 q
def vV{f:VL->Sem VL}{g:Int->Int} (rule:∀(i:Int) (t:Tok) (s:SD) (Q:ve) (E:ve),Q (.int (g i) s.toks) {s with toks:=s.toks+1}->wpAny AT X.A (f (.int i t)) Q E s):qq X f (rU fun i=>.int (g i)):=by
 intro pins s σ H x v Q I l h;obtain⟨i,rfl,q⟩:=h;obtain⟨t,rfl⟩:=l;exact rule i t s _ _ ⟨.int (g i),H,I.tok _,⟨_,rfl⟩,q⟩
def pW:qq X (unaryOp .USub) (rU fun i=>.int (-i)):=vV fun _ _ _ _ _ q=>neg_int q
end
def pM:V->V->Bool
 |.BS,.BS=>true|.BS,.int _=>true|.int _,.BS=>true|.BS,.bl _=>true|.bl _,.BS=>true|.BS,.str _=>true|.str _,.BS=>true
 |.int _,.int _=>true|.bl _,.bl _=>true|.str _,.str _=>true|.Nt _,.Nt _=>true
 |.int _,.str _=>true|.str _,.int _=>true|.bl _,.str _=>true|.str _,.bl _=>true
 |_,_=>false
def vS:R2:=fun x y H Q=>pM x y=true/\Q (.bl (decide (x=y))) H
def vR:R2:=fun x y H Q=>pM x y=true/\Q (.bl (!decide (x=y))) H
def YJ{i j:Int}:decide (V.int i=V.int j)=(i==j):=by
 rw[(NU)];simp
def cF{i j:Bool}:decide (V.bl i=V.bl j)=(i==j):=by
 rw[(NU)];simp
def Xa{i j:Str}:decide (V.str i=V.str j)=(i==j):=by
 rw[(NU)];simp
def XZ{i j:Array UInt8}:decide (V.Nt i=V.Nt j)=(i.toList==j.toList):=by
 rw[(NU)];cases i;cases j;simp
section
variable{X:Cx}{a b c:Expr}{ta tb:TE}{pos:Pos}
def Bd{pins:Cl}{σ:St}{H:Hp}{s:SD}{Q:VK}{k g:Bool}(I:Db)(q:Q (.bl k) H)(e:k=g):EP X pins σ Q (.bool g) s:=by
 subst e;exact⟨.bl k,H,I,rfl,q⟩
def jN:DC X (compareOp .Eq) vS:=by
 intro pins s σ H x y v u Q I R g h;obtain⟨M,q⟩:=h;cases x with
 |BS=>
  cases R;cases y with
  |BS=>cases g;exact PySem.EqNone.eq_none_none zAp
  |bl j=>cases g;exact PySem.EqNone.eq_none_bool zAp
  |int j=>obtain⟨l,rfl⟩:=g;exact PySem.EqNone.eq_none_int zAp
  |str j=>obtain⟨l,rfl⟩:=g;exact PySem.EqNone.eq_none_str zAp
  |_=>exact absurd (show false=true from M) aL
 |bl i=>
  cases R;cases y with
  |BS=>cases g;exact PySem.EqNone.eq_bool_none zAp
  |bl j=>cases g;exact eq_bool (Bd I q cF)
  |str j=>obtain⟨l,rfl⟩:=g;exact PySem.EqMixed.eq_bool_str zAp
  |_=>exact absurd (show false=true from M) aL
 |int i=>
  obtain⟨t,rfl⟩:=R;cases y with
  |BS=>cases g;exact PySem.EqNone.eq_int_none zAp
  |int j=>obtain⟨l,rfl⟩:=g;exact eq_int (Bd I q YJ)
  |str j=>obtain⟨l,rfl⟩:=g;exact PySem.EqMixed.eq_int_str zAp
  |_=>exact absurd (show false=true from M) aL
 |str i=>
  obtain⟨t,rfl⟩:=R;cases y with
  |BS=>cases g;exact PySem.EqNone.eq_str_none zAp
  |bl j=>cases g;exact PySem.EqMixed.eq_str_bool zAp
  |int j=>obtain⟨l,rfl⟩:=g;exact PySem.EqMixed.eq_str_int zAp
  |str j=>obtain⟨l,rfl⟩:=g;exact eq_str (Bd I q Xa)
  |_=>exact absurd (show false=true from M) aL
 |Nt i=>
  obtain⟨t,rfl⟩:=R;cases y with
  |Nt j=>obtain⟨l,rfl⟩:=g;exact PySem.W.eq_bytes (Bd I q XZ)
  |_=>exact absurd (show false=true from M) aL
 |_=>cases y<;>exact absurd (show false=true from M) aL
def Q4:DC X (compareOp .NotEq) vR:=by
 intro pins s σ H x y v u Q I R g h;obtain⟨M,q⟩:=h;cases x with
 |BS=>
  cases R;cases y with
  |BS=>cases g;exact PySem.EqNone.ne_none_none zAp
  |bl j=>cases g;exact PySem.EqNone.ne_none_bool zAp
  |int j=>obtain⟨l,rfl⟩:=g;exact PySem.EqNone.ne_none_int zAp
  |str j=>obtain⟨l,rfl⟩:=g;exact PySem.EqNone.ne_none_str zAp
  |_=>exact absurd (show false=true from M) aL
 |bl i=>
  cases R;cases y with
  |BS=>cases g;exact PySem.EqNone.ne_bool_none zAp
  |bl j=>cases g;exact ne_bool (Bd I q (aH not cF))
  |str j=>obtain⟨l,rfl⟩:=g;exact PySem.EqMixed.ne_bool_str zAp
  |_=>exact absurd (show false=true from M) aL
 |int i=>
  obtain⟨t,rfl⟩:=R;cases y with
  |BS=>cases g;exact PySem.EqNone.ne_int_none zAp
  |int j=>obtain⟨l,rfl⟩:=g;exact ne_int (Bd I q (aH not YJ))
  |str j=>obtain⟨l,rfl⟩:=g;exact PySem.EqMixed.ne_int_str zAp
  |_=>exact absurd (show false=true from M) aL
 |str i=>
  obtain⟨t,rfl⟩:=R;cases y with
  |BS=>cases g;exact PySem.EqNone.ne_str_none zAp
  |bl j=>cases g;exact PySem.EqMixed.ne_str_bool zAp
  |int j=>obtain⟨l,rfl⟩:=g;exact PySem.EqMixed.ne_str_int zAp
  |str j=>obtain⟨l,rfl⟩:=g;exact ne_str (Bd I q (aH not Xa))
  |_=>exact absurd (show false=true from M) aL
 |Nt i=>
  obtain⟨t,rfl⟩:=R;cases y with
  |Nt j=>obtain⟨l,rfl⟩:=g;exact PySem.W.ne_bytes (Bd I q (aH not XZ))
  |_=>exact absurd (show false=true from M) aL
 |_=>cases y<;>exact absurd (show false=true from M) aL
def Zc:DC X (compareOp .Lt) (Sy fun i j=>.bl (decide (i<j))):=gf fun _ _ _ _ _ _ _ q=>lt_int q
def Yy:DC X (compareOp .Gt) (Sy fun i j=>.bl (decide (j<i))):=gf fun _ _ _ _ _ _ _ q=>gt_int q
def jb:DC X (compareOp .GtE) (Sy fun i j=>.bl (decide (j<=i))):=gf fun _ _ _ _ _ _ _ q=>ge_int q
def nh:DC X (compareOp .Is) (fun x y H Q=>y=.BS/\Q (.bl (decide (x=.BS))) H):=by
 intro pins s σ H x y v u Q I g l h;obtain⟨rfl,q⟩:=h;cases l;refine is_none_gen (Bd I q ?_);cases x<;>first
  |(cases g;rfl)
  |(obtain⟨t,rfl⟩:=g;rfl)
def lq:DC X (compareOp .IsNot) (fun x y H Q=>y=.BS/\Q (.bl (!decide (x=.BS))) H):=by
 intro pins s σ H x y v u Q I g l h;obtain⟨rfl,q⟩:=h;cases l;refine isnot_none_gen (Bd I q ?_);cases x<;>first
  |(cases g;rfl)
  |(obtain⟨t,rfl⟩:=g;rfl)
def DC.or{f:wG}{r M:R2}(h:DC X f r)(h':DC X f M):DC X f (fun x y H Q=>r x y H Q\/M x y H Q):=by
 intro pins s σ H x y v u Q I l g q;rcases q with q|q
 .exact h pins s σ H x y v u Q I l g q
 .exact h' pins s σ H x y v u Q I l g q
def Ab(b:Expr){op:CmpOp}(h:op≠.In:=by decide)(g:op≠.NotIn:=by decide):behindInMarks op b=false:=by
 have I:(op==CmpOp.In)=false:=by cases op<;>first|rfl|exact absurd rfl h
 have l:(op==CmpOp.NotIn)=false:=by cases op<;>first|rfl|exact absurd rfl g
 cases b<;>simp[behindInMarks,I,l]
def PH{op:CmpOp}{r:R2}(M:DC X (compareOp op) r)(ha:y7)(R:PE X b tb)(hm:behindInMarks op b=false):PE X zAT (Xj r ta tb):=by
 intro pins s σ H Q I h;exact wpAny_Compare1 zAM hm
def sR(t:TE):TT:=fun σ H Q=>t σ H fun x H'=>∃k,x=.bl k/\Q k H'
def E8{op:CmpOp}{r:R2}(Y:DC X (compareOp op) r)(ha:y7)(Z:PE X b tb)(hm:behindInMarks op b=false):PT X zAT (sR (Xj r ta tb)):=by
 intro pins s σ H Q I h;refine wpAny_isTrue_Compare1 (A2 Pf fun v s1 ⟨x,H1,I1,M,U⟩=>A2 (Z pins s1 σ H1 _ I1 U) fun u s2 ⟨y,H2,I2,l,T⟩=>
  A2 (Y pins s2 σ H2 x y v u _ I2 M l T) fun c s3 ⟨z,H3,I3,g,k,e,R⟩=>?_) hm
 subst e;cases g;exact wpAny_truthy_bool ⟨H3,I3,R⟩
def KL:(sizeLine:Nat)<2^63:=by rw[sizeLine_eq];decide
def Yv:DC X xY (fun x y H Q=>∃i j,x=.str i/\y=.str j/\i.length+j.length<=sizeLine/\Q (.str (i++j)) H):=by
 intro pins s σ H x y v u Q I M l h;obtain⟨i,j,rfl,rfl,R,q⟩:=h;obtain⟨t,rfl⟩:=M;obtain⟨g,rfl⟩:=l;exact add_str (fun g tk=>⟨.str (i++j),H,I.tok _,⟨_,rfl⟩,q⟩) R
def vals1{x:V}{us:vd}(r:Vals [x] us):∃u,us=[u]/\RelV x u:=by
 cases r with
 |cons l g=>cases g;exact⟨_,rfl,l⟩
def vals2{x y:V}{us:vd}(r:Vals [x,y] us):∃u g,us=[u,g]/\RelV x u/\RelV y g:=by
 cases r with
 |cons R M=>
  cases M with
  |cons I l=>cases l;exact⟨_,_,rfl,R,I⟩
def KD:FO X (.builtin "abs") (fun xs H Q=>∃i,xs=[.int i]/\Q (.int (if i<0 then -i else i)) H):=by
 intro pins s σ H xs us Q I r h;obtain⟨i,rfl,q⟩:=h;obtain⟨u,rfl,t,rfl⟩:=vals1 r;exact call_abs_int fun u tk=>⟨.int (if i<0 then -i else i),H,I.tok _,⟨_,rfl⟩,q⟩
def cz(l:dO):FO X (.builtin "min") (fun xs H Q=>∃i j,xs=[.int i,.int j]/\Q (.int (if j<i then j else i)) H):=by
 intro pins s σ H xs us Q I r h;obtain⟨i,j,rfl,q⟩:=h;obtain⟨u,M,rfl,⟨t,rfl⟩,⟨R,rfl⟩⟩:=vals2 r;refine min_two_ints (I.ok.hd l) fun h' tk k=>⟨_,H,I.kept k,?_,q⟩;by_cases g:j<i
 .rw[if_pos g,if_pos g];exact⟨_,rfl⟩
 .rw[if_neg g,if_neg g];exact⟨_,rfl⟩
def cG:FO X db (fun xs H Q=>(∃i,xs=[.int i]/\Q wN H)\/∃k,xs=[.bl k]/\Q (.int (if k then 1 else 0)) H):=by
 intro pins s σ H xs us Q I r h;rcases h with ⟨i,rfl,q⟩|⟨k,rfl,q⟩
 .obtain⟨u,rfl,t,rfl⟩:=vals1 r;exact call_int_int ⟨.int i,H,I,⟨_,rfl⟩,q⟩
 .obtain⟨u,rfl,g⟩:=vals1 r;cases g;exact call_int_bool ⟨.int (if k then 1 else 0),H,I.tok _,⟨_,rfl⟩,q⟩
end
structure gu(h:Heap)(x dx C:Addr)(mA:xc):Prop where
 obj:h.get? x=some (PySem.W.instObj C dx)
 ns:h.Ns1 dx mA
 ne:dx≠x
def eX{h:Heap}{dx:AD}{mA:vf}(n:h.Ns1 dx mA):∃od,h.get? dx=some od/\∀name,PySem.W.lookIn name od=some (mA name):=by
 obtain⟨o,l,U,M,hd,R,_,hm⟩:=n;refine⟨o,M,fun name=>?_⟩;have e:=hm name;unfold nsFind findBy at e;rw[<-Array.find?_toList]at e;unfold PySem.W.lookIn;rw[hd];dsimp only;split
 .rename_i y q;rw[q]at e;exact aH some e
 .rename_i q;rw[q]at e;have a:l.toList.any (·.refKey)=false:=by
   rw[List.any_eq_false];intro y I;obtain⟨z,t,g⟩:=R y (Array.mem_toList_iff.mp I);simp[DictEntry.refKey,g]
  have T:¬l.toList.any (·.refKey)=true:=by rw[a];exact aL
  rw[if_neg T];exact aH some e
def gu.look{h:Heap}{x dx C:AD}{mA:vf}(I:gu h x dx C mA):∃od,PySem.W.InstAt h x (PySem.W.instObj C dx) C (some od)/\∀name,PySem.W.lookIn name od=some (mA name) :=
 let⟨od,g,l⟩:=eX I.ns
 ⟨od,⟨I.obj,rfl,rfl,g⟩,l⟩
def Kq.some_of{v:V}{o:Option VL}(r:Kq tz o):∃u,o=some u/\RelV v u:=by
 cases o with
 |none=>exact(show False from r).elim
 |some u=>exact⟨u,rfl,r⟩
section
variable{P:F0b}{w:F0c}{H:Hp}{h:Heap}{a C dx:AD}{fs:List (Str×V)}
def mz(Ay:yA)(e:H a=some (.ins C dx fs)):∃mA,gu h a dx C mA/\(∀f,Kq (fs.lookup f) (mA f))/\PySem.Within mA (fs.map OR)/\fs.length<=1000/\H dx=some (.own a):=by
 obtain⟨d,z,ne,ob,mA,n,r,q⟩:=(show CB P w H h a (.ins C dx fs) from Ay a _ e);exact⟨mA,⟨ob,n,ne⟩,r,q,z,d⟩
end
structure nq(K:Fg)(C:Addr):Prop where
 pg:PySem.W.plainGet K C Str.empty=true
 hd:PySem.W.hasDictIn K C=true
 po:PySem.W.plainOver K C=true
 sa:PySem.W.findIn K OL "__setattr__" = some (some (.builtin "object.__setattr__"))
def nq.get{K:Fg}{C:AD}(c:nq K C)(f:Str):PySem.W.plainGet K C f=true:=c.pg
section
variable{X:Cx}{pins:Cl}{σ:St}{H:Hp}{s:SD}{A:F0d}{E:ve}{Q:ve}{c:VL}{b:Bool}
inductive HE(K:Fg)(H:Hp):V->Value->Prop where
 |BS:HE K H .BS (.type "NoneType")
 |bl (x:Bool):HE K H (.bl x) wB
 |int (i:Int):HE K H wN db
 |str (x:Str):HE K H L6 yP
 |Xh (x:UInt64):HE K H (.Xh x) (.type "float")
 |lst {a:Addr} {xs:UF} (e:H a=some SB):HE K H PZ gl
 |Ey {a:Addr} {o:Obj} {xs:UF} (e:H a=some (.Ey o SB)):HE K H PZ gl
 |tup {a:Addr} {xs:UF} (e:H a=some Pt):HE K H PZ OZ
 |dK {a:Addr} {kvs:List (Key×V)} (e:H a=some (.dK kvs)):HE K H PZ (.type "dict")
 |dT {a:Addr} {kvs:NE} (e:H a=some (.dT kvs)):HE K H PZ (.type "dict")
 |ins {a C dx:Addr} {fs:List (Str×V)} (e:H a=some (.ins C dx fs)) (cl:nq K C) (ha:PySem.W.findIn K OL "__class__" = some (some TW))
   (hn:PySem.W.specialIn K TW "__get__" = some (some ce)) (htk:PySem.W.takesIn K TW=some true)
   (hm:PySem.W.mroIn K C (.type "object")=some true):HE K H PZ OL
def df{x:V}{u t:VL}(I:Db)(g:RelV x u)(ty:HE X.K H x t)(e:PySem.W.kitOne X.K t c=some b)(h:∀tk,Q (.bool b) {s with toks:=tk}):wpAny AT A (call (.builtin "isinstance") [u,c]) Q E s:=by
 cases ty with
 |BS=>cases (show u=Value.none from g);exact ay PySem.W.kitx_none I.Gp True.intro e Id h
 |bl y=>cases (show u=Value.bool y from g);exact ay PySem.W.kitx_bool I.Gp True.intro e Id h
 |int i=>obtain⟨t,q⟩:=(show ∃t,u=Value.int i t from g);cases q;exact ay PySem.W.kitx_int I.Gp True.intro e Id h
 |str y=>obtain⟨t,q⟩:=(show ∃t,u=Value.str y t from g);cases q;exact ay PySem.W.kitx_str I.Gp True.intro e Id h
 |Xh y=>obtain⟨t,q⟩:=(show ∃t,u=Value.float y t from g);cases q;exact ay PySem.W.kitx_float I.Gp True.intro e Id h
 | @lst a xs ea=>
  cases (show u=Value.ref a from g);obtain⟨_,_,n,_,l⟩:=(show CB X.prog X.w H s.heap a SB from I.Ay a _ ea);exact ay PySem.W.kitx_list I.Gp ⟨_,l,rfl⟩ e Id h
 | @Ey a ob xs ea=>
  cases (show u=Value.ref a from g);obtain⟨_,_,_,n,_,l⟩:=(show CB X.prog X.w H s.heap a (.Ey ob SB) from I.Ay a _ ea);exact ay PySem.W.kitx_list I.Gp ⟨_,l,rfl⟩ e Id h
 | @tup a xs ea=>
  cases (show u=Value.ref a from g);obtain⟨_,_,_,p⟩:=(show CB X.prog X.w H s.heap a Pt from I.Ay a _ ea);obtain⟨o,l,M,_⟩:=p;exact ay PySem.W.kitx_tuple I.Gp ⟨o,l,M⟩ e Id h
 | @dK a kvs ea=>
  cases (show u=Value.ref a from g);obtain⟨_,_,vs,_,p⟩:=(show CB X.prog X.w H s.heap a (.dK kvs) from I.Ay a _ ea);obtain⟨o,R,T,l,M,_⟩:=p;exact ay PySem.W.kitx_dict I.Gp ⟨o,l,M.1⟩ e Id h
 | @dT a kvs ea=>
  cases (show u=Value.ref a from g);obtain⟨_,_,xs,_,o,R,T,l,M,_⟩:=(show CB X.prog X.w H s.heap a (.dT kvs) from I.Ay a _ ea);exact ay PySem.W.kitx_dict I.Gp ⟨o,l,M.1⟩ e Id h
 | @ins a C dx fs ea cl ha hn htk hm=>
  cases (show u=Value.ref a from g);obtain⟨mA,O,_⟩:=mz I.Ay ea;obtain⟨od,J,_⟩:=O.look;exact ay (PySem.W.kitx_own (cl.get _) cl.hd ha hn htk hm) I.Gp J e Id h
end
structure CM(k:Nat)(A:Around):Prop where
 hd:A.handled=none
 dp:A.depth+3*k+5<recursionLimit
 un:A.units+16*k+200<cLine
def CM.mono{j k:Nat}{A:F0d}(r:CM k A)(h:j<=k:=by decide):CM j A:=⟨r.hd,by have:=r.dp;lia,by have:=r.un;lia⟩
def CM.deeper{k:Nat}{A:F0d}(r:CM ii A)(env:Env):CM k (A.deeper env) :=
 ⟨r.hd,by have:=r.dp;show A.depth+1+3*k+5<_;lia,by have:=r.un;show A.units+3+16*k+200<_;lia⟩
def CM.depth{k:Nat}{A:F0d}(r:CM k A):A.depth<recursionLimit:=by have:=r.dp;lia
def CM.units{k:Nat}{A:F0d}(r:CM k A):A.units+64<cLine:=by have:=r.un;lia
def WW:TA:=fun _ H Q=>Q [] H
def Mo(l:TE)(g:TA):TA:=fun σ H Q=>l σ H fun x M=>g σ M fun xs I=>Q (x::xs) I
section
variable{X:Cx}{e:Expr}{es:vp}{te:TE}{t:TA}{pos:Pos}
def A3:PA X [] WW:=fun _ _ _ _ H Q I h=>Calls.spliced_nil ⟨[],H,I,.nil,h⟩
def Ac(ha:PE X e te)(T:PA X es t)(hs:starEach zAq X.env=Ev::starEach es X.env:=by rfl):PA X zAq (Mo te t):=by
 intro pos pins s σ H Q I h;rw[hs];show wpAny _ _ (spliced (Ev::backTo pos Lx)) _ _ s;refine Calls.spliced_cons (A2 Pf fun u s1 ⟨x,H1,Y,l,R⟩=>?_);exact A2 (T pos pins s1 σ H1 _ Y R) fun us s2 ⟨xs,Z,U,g,M⟩=>⟨x::xs,Z,U,.cons l g,M⟩
def gS(t:TA):TE:=fun σ H Q=>t σ H fun xs g=>xs.length<=sizeLine/\∀p,g p=none->Q yI (upd g p Pt)
def uL(t:TA):TE:=fun σ H Q=>t σ H fun xs g=>xs.length<=sizeLine/\∀p,g p=none->Q yI (upd g p SB)
def VH{M}(h:PA X es t):PE X (.Tuple es M pos) (gS t):=by
 intro pins s σ H Q I R;refine wpAny_Tuple_spliced (A2 (h pos pins s σ H _ I R) fun us s1 ⟨xs,l,g,r,z,q⟩=>⟨by rw[<-r.length];exact z,?_⟩);have T:l s1.heap.objs.size=none:=g.Ay.fresh SL;refine⟨.ref s1.heap.objs.size,upd l s1.heap.objs.size Pt,g.laid (t':=s1.toks) (fun b u e=>aD _ e) SL ?_,rfl,q _ T⟩;exact⟨z,us,r,⟨_,Heap.get?_push_size _ rfl,rfl,_,rfl⟩⟩
def eF(h:PA X es t):PE X (.List es pos) (uL t):=by
 intro pins s σ H Q I M;refine wpAny_List_spliced (A2 (h pos pins s σ H _ I M) fun us s1 ⟨xs,l,g,r,z,q⟩=>⟨by rw[<-r.length];exact z,?_⟩);have R:l s1.heap.objs.size=none:=g.Ay.fresh SL;refine⟨.ref s1.heap.objs.size,upd l s1.heap.objs.size SB,g.laid (t':=s1.toks) (fun b u e=>aD _ e) SL ?_,rfl,q _ R⟩;exact⟨z,us,0,r,Heap.get?_push_size _ rfl⟩
end
abbrev Sp:=List V->Hp->VK->XK->Prop
abbrev Gh:=List Env->Hp->SD->XK->VL->SD->Prop
structure VN(P:Program)(w:World)(K:Fg)(mg:xc)(base:Heap)(A:Around)(outer:List Env)(s:Shared)(H:Hp):Prop where
 frames:A.frames=some outer
 mod:Mod K mg base
 bs:∀b o,base.get? b=some o->s.heap.get? b=some o/\H b=none
 OH:base.objs.size<=s.heap.objs.size
 Hz:s.heap.FunFrames base outer
 Q5:∀b∈Fd outer,H b=none
 Ay:DN P w H s.heap
 bare:AllBare s.gens
 kt:KTb mg H
def CE(outer:v7)(P:F0b)(w:F0c)(H:Hp)(s:SD)(Q:VK)(u:VL)(s':SD):Prop :=
 ∃v H',s'.os=s.os/\AllBare s'.gens/\Un (Fd outer) [] H H' s.heap s'.heap/\DN P w H' s'.heap/\RelV v u/\Q v H'
def CR(CX:Gh)(outer:v7)(P:F0b)(w:F0c)(H:Hp)(s:SD)(Q:VK)(E:XK)(r:Result)(s':SD):Prop :=
 match r with
 |.ok (.ret u)=>CE outer P w H s Q u s'
 |.ok _=>False
 |.error e=>CX outer H s E e s'
structure Ah(P:Program)(w:World)(K:Fg)(mg:xc)(base:Heap)(CX:Gh)(k:Nat)(f:Addr)(fd:FuncData)(ps:N1)(sp:Sp):Prop where
 len:∀vs H Q E,sp vs H Q E->vs.length=ps.length
 run:∀(A:Around) (outer:List Env) (s:Shared) (H:Hp) (args:Args) (us:List Value) (vs:UF) (Q:VK) (E:XK),CM k A->VN P w K mg base A outer s H->BindsTo s fd args (ps.zip us)->Vals vs us->sp vs H Q E ->
  codeAny yH A (.call zU args) (CR CX outer P w H s Q E) s
def Ah.mono{P:F0b}{w:F0c}{K:Fg}{mg:vf}{base:Heap}{CX:Gh}{j k:Nat}{f:AD}{fd:F0a}{ps:vo}{sp:Sp}(F:Ah P w K mg base CX j f fd ps sp)(h:j<=k:=by decide):Ah P w K mg base CX k f fd ps sp:=⟨F.len,fun A outer s H args us vs Q E g=>F.run A outer s H args us vs Q E (g.mono h)⟩
def Ah.imp{P:F0b}{w:F0c}{K:Fg}{mg:vf}{base:Heap}{CX:Gh}{k:Nat}{f:AD}{fd:F0a}{ps:vo}{sp g:Sp}(F:yQ) (h:∀vs H Q E,g vs H Q E->sp vs H Q E):Ah P w K mg base CX k f fd ps g :=
 ⟨fun vs H Q E q=>F.len vs H Q E (h _ _ _ _ q),fun A outer s H args us vs Q E M R T l I=>F.run A outer s H args us vs Q E M R T l (h _ _ _ _ I)⟩
section
variable{X:Cx}{pins:Cl}{σ:St}{H:Hp}{s s':SD}
def Inv.nR(I:Db):VN X.prog X.w X.K X.mg X.base X.A X.stack s H :=
 ⟨I.ok.frames,I.ok.mod,I.bs,Nat.le_trans I.ok.OH I.sz,I.stack,I.L3,I.Ay,I.bare,I.kt⟩
def Inv.after{Q:VK}{u:VL}(I:Db)(h:CE X.stack X.prog X.w H s Q u s'):EP X pins σ Q u s':=by
 obtain⟨v,H',os,bare,un,Ay,r,q⟩:=h;obtain⟨M,g,d,t,l⟩:=s';obtain rfl:l=s.os:=os;exact⟨v,H',I.call (h':=M) (g':=g) (d':=d) (t':=t) (ch:=[]) un Ay bare (fun b z=>absurd z A1),r,q⟩
end
def Mg(sp:Sp)(g:vx)(E:XK)(t:TA):TE:=fun σ H Q=>t σ H fun vs l=>sp (vs++g) l Q E
def Binds(K:Fg)(fd:F0a)(ps:vo)(ds:vd):Prop :=
 ∀(s:SD) (us:S0),K.In s.heap->(us++ds).length=ps.length->BindsTo s fd ⟨us,[]⟩ (ps.zip (us++ds))
def Binds.all{K:Fg}{fd:F0a}{ps:vo}(h:∀us:vd,us.length=ps.length->bindArgs fd ⟨us,[]⟩=pure (ps.zip us)):Binds K fd ps []:=fun s us _ g=>by
 rw[(GZ)]at g ⊢;exact .of_eq (h us g)
def Passes(CX:Gh)(X:Cx)(E:XK):Prop:=∀(pins:Cl) (σ:St) (H:Hp) (s:SD) (e:VL) (s':SD),Inv X pins σ H s->CX X.stack H s E e s'->X.xe e s'
section
variable{X:Cx}{CX:Gh}{k:Nat}{f:AD}{fd:F0a}{ps:vo}{sp:Sp}{dvs:vx}{ds:vd}{E:XK}{x:Str}{p pos:Pos}{e:Expr}{es:vp}{t:TA}
def pY{pins:Cl}{σ:St}{H:Hp}{s:SD}{Q:VK}{us:vd}{vs:vx}(F:Ah X.prog X.w X.K X.mg X.base CX k f fd ps sp)(R:CM k X.A)(U:Binds X.K fd ps ds)(hd:Vals dvs ds)(M:Passes CX X E) (I:Db)(r:Vals vs us)(h:sp (vs++dvs) H Q E):wpAny AT X.A (call zU us) Ix X.xe s:=by
 have l:Vals (vs++dvs) (us++ds):=r.append hd;have T:(us++ds).length=ps.length:=by rw[<-l.length];exact F.len _ _ _ _ h
 refine wpAny_call (codeAny_mono (F.run X.A X.stack s H ⟨us,[]⟩ (us++ds) (vs++dvs) Q E R I.nR (U s us I.Gp T) l h) fun r s' g=>?_);cases r with
 |error e=>exact M pins σ H s e s' I g
 |ok Y=>
  cases Y with
  |ret u=>exact I.after g
  |next=>exact False.elim g
  |brk=>exact False.elim g
  |cont=>exact False.elim g
def XB(F:Ah X.prog X.w X.K X.mg X.base CX k f fd ps sp)(R:CM k X.A)(U:y6)(hm:X.mg x=some zU)(T:PySem.W.keepIn X.K zU=true)(Y:Binds X.K fd ps ds)(hd:Vals dvs ds)(M:Passes CX X E) (ha:PA X zAq t)(g:GE=false:=by decide)(he:starEach zAq X.env=Ev::starEach es X.env:=by rfl)(hpl:(backTo pos Lx).any OR=false:=by rfl):PE X Fk (Mg sp dvs E t):=by
 intro pins s σ H Q I h;refine wpAny_Call_Name_kw (MK I U hm ?_ g);refine PySem.W.callWith_K (h₀:=X.base) I.ok.mod.Pk T (A2 n0 fun us s1 ⟨vs,Z,l,r,q⟩=>⟨l.Gp,?_⟩) he hpl;exact pY F R Y hd M l r q
end
structure Ap(N P:N1)(sc:yB):Prop where
 kind:sc.kind=.function
 co:sc.isCoroutine=false
 gen:sc.isGenerator=false
 nd:N.Nodup
 pre:N.take P.length=P
 par:∀x∈P,sc.names.lookup x=some .local\/sc.names.lookup x=some .cell
 ot:∀y∈sc.names,y.2≠.free
theorem Tu{kindOf:Str->Option NameKind}{x:Str}:∀ {binds:List (Str×VL)} {m:zAN},(∀v,(x,v) ∉ binds)->bindL kindOf binds m x=m x
 |[],_,_=>rfl
 |(n,v)::r,m,h=>by
  unfold bindL;rw[Tu fun w g=>h w (aT _ g)];split
  .have:x≠n:=by rintro rfl;exact h v bK
   simp[this]
  .rfl
theorem Tn{kindOf:Str->Option NameKind}{x:Str}:∀ {binds:List (Str×VL)} {m:zAN},(∀v,(x,v) ∉ binds)->bindC kindOf binds m x=m x
 |[],_,_=>rfl
 |(n,v)::r,m,h=>by
  unfold bindC;rw[Tn fun w g=>h w (aT _ g)];split
  .rfl
  .have:x≠n:=by rintro rfl;exact h v bK
   simp[this]
theorem S6{kindOf:Str->Option NameKind}{x:Str}{v:VL}:∀ {P:N1} {vs:S0} {i:Nat} {m:zAN},P.Nodup->P[i]? = some x->vs[i]? = some v->kindOf x=some .local ->
  bindL kindOf (P.zip vs) m x=some v
 |[],_,_,_,_,h,_,_=>by simp at h
 |_::_,[],_,_,_,_,h,_=>by simp at h
 |p::P,w::vs,0,m,nd,l,g,I=>by
  simp at l g;subst l;subst g;show bindL kindOf ((p,w)::P.zip vs) m p=_;unfold bindL;rw[Tu fun v M=>(List.nodup_cons.mp nd).1 (List.of_mem_zip M).1,if_pos I];simp
 |p::P,w::vs,i+1,m,nd,l,g,I=>by
  show bindL kindOf ((p,w)::P.zip vs) m x=_;unfold bindL;exact S6 (i:=i) (List.nodup_cons.mp nd).2 oF (by simpa using g) I
theorem TQ{kindOf:Str->Option NameKind}{x:Str}{v:VL}:∀ {P:N1} {vs:S0} {i:Nat} {m:zAN},P.Nodup->P[i]? = some x->vs[i]? = some v->kindOf x≠some .local ->
  bindC kindOf (P.zip vs) m x=some v
 |[],_,_,_,_,h,_,_=>by simp at h
 |_::_,[],_,_,_,_,h,_=>by simp at h
 |p::P,w::vs,0,m,nd,l,g,I=>by
  simp at l g;subst l;subst g;show bindC kindOf ((p,w)::P.zip vs) m p=_;unfold bindC;rw[Tn fun v M=>(List.nodup_cons.mp nd).1 (List.of_mem_zip M).1,if_neg I];simp
 |p::P,w::vs,i+1,m,nd,l,g,I=>by
  show bindC kindOf ((p,w)::P.zip vs) m x=_;unfold bindC;exact TQ (i:=i) (List.nodup_cons.mp nd).2 oF (by simpa using g) I
def start(N:vo)(vs:vx):St:=vs.map some++List.replicate (N.length-vs.length) none
def CJ(CX:Gh)(P:F0b)(w:F0c)(K:Fg)(mg:vf)(base:Heap)(N:vo)(qual:Str)(scope:yB)(f:AD)(cd:VL)(A:F0d)(outer:v7)(s:SD)(H:Hp)(E:XK):Cx where
 prog:=P
 w:=w
 K:=K
 mg:=mg
 base:=base
 A:=A.deeper OF
 N:=N
 s₀:=s
 H₀:=H
 env:=envOfC qual scope s.heap.objs.size f cd
 outer:=outer
 stack:=envOfC qual scope s.heap.objs.size f cd::outer
 ex:=[]
 calm:=true
 fn:=fun _=>true
 pn:=[]
 xe:=fun e s'=>wpAny yH (A.deeper OF) (leaving OF e) (fun _ s''=>CX outer H s E e s'') (fun e' s''=>CX outer H s E e' s'') s'
def Uv{sc:yB}{n:Nat}{x:Str}(h:sc.names.lookup x=some .cell):∃c,(cellsFrom n sc.names []).lookup x=some c:=by
 have q:=PySem.W.cellsFrom_some sc.names n [] (.inl h);exact Option.isSome_iff_exists.mp q
def TR{CX:Gh}{P:F0b}{w:F0c}{K:Fg}{mg:vf}{base:Heap}{N ps:vo}{qual:Str}{scope:yB}{f:AD}{Y:VL}{A:F0d}{outer:v7}{s s1:SD}{H:Hp}{E:XK}{us:vd}{vs:vx} (S:Ap N ps scope)(hd:xR)(l:VN P w K mg base A outer s H)(hl:vs.length=ps.length)(r:Vals vs us) (x:InCallC s s.heap.objs.size (bindL (envOfC qual scope s.heap.objs.size f Y).kindOf (ps.zip us) fun _=>none) (cellsFrom oR scope.names []) (bindC (envOfC qual scope s.heap.objs.size f Y).kindOf (ps.zip us) fun _=>none) s1):Inv (CJ CX P w K mg base N qual scope f Y A outer s H E) [] xD H s1:=by
 have hpl:ps.length<=N.length:=by have:=aH List.length S.pre;rw[(Mb)]at this;lia
 obtain⟨U,tk,rfl,hk⟩:=x.done;have I:∀b:AD,b ∉ (CJ CX P w K mg base N qual scope f Y A outer s H E).ex:=fun b z=>absurd (show b∈([]:List AD) from z) A1;refine⟨⟨l.mod,S.kind,rfl,rfl,Nat.le_refl _,fun y z c U g=>?_,fun y M=>?_,fun y c _ h=>?_,fun _=>hd,Around.frames_deeper l.frames,.inr ⟨rfl,rfl⟩,fun b z=>absurd z (I b),l.bs,l.OH,fun b _ _=>I b,fun b z=>absurd z (I b),l.Hz,l.Q5,l.kt⟩,
  rfl,l.bare,Un.kept hk,⟨_,x.toInCall.ns,fun i y v U g h3=>?_⟩,fun y c h=>⟨_,x.cell y c h⟩,l.Ay.fresh SL,fun y c h=>?_,fun p T=>absurd (show p∈([]:List (AD×Obj)) from T) A1,l.Ay.kept hk,?_⟩
 .exact name_of_addr x.apart (PySem.mem_of_lookup U) (PySem.mem_of_lookup g)
 .have M:scope.names.lookup y=some .cell\/scope.names.lookup y=some .free:=M;rcases M with M|M
  .exact Uv M
  .exact absurd rfl (S.ot _ (PySem.mem_of_lookup M))
 .exact Nat.le_of_lt (x.above y c (PySem.mem_of_lookup h))
 .have hi:i<vs.length:=by
   unfold start at g;by_cases hi:i<vs.length
   .exact hi
   .rw[List.getElem?_append_right a6]at g;rw[List.getElem?_replicate]at g;split at g<;>cases g
  have ha:vs[i]? = some v:=by
   unfold start at g;rw[List.getElem?_append_left a6,xZ]at g;cases e:vs[i]? with
   |none=>rw[e]at g;cases g
   |some a=>rw[e]at g;cases g;rfl
  obtain⟨u,Z,rv⟩:=r.get ha;have T:ps[i]? = some y:=by
   rw[<-S.pre,List.getElem?_take_of_lt AC];exact U
  have R:ps.Nodup:=by rw[<-S.pre];exact S.nd.sublist (List.take_sublist _ _)
  refine⟨u,rv,?_⟩;rcases S.par y (ar T) with k|k
  .exact .inl ⟨k,S6 R T Z k⟩
  .obtain⟨c,e⟩:=Uv (n:=s.heap.objs.size+1) k;refine .inr ⟨.inl k,c,e,?_⟩;have q:=x.cell y c e;rw[TQ R T Z (by show scope.names.lookup y≠_;rw[k];decide)]at q;exact q
 .exact l.Ay.fresh (Nat.le_of_lt (x.above y c (PySem.mem_of_lookup h)))
 .unfold start;show _=N.length;rw[(EB),wk,(Ve)]
  lia
def jE{CX:Gh}{P:F0b}{w:F0c}{K:Fg}{mg:vf}{base:Heap}{k:Nat}{f:AD}{name qual:Str}{params:Arguments}{g:v5}{scope:yB}{dV kV doc pm cdv ct oc:VL}{an od:Option AD} {osl:Array (Option VL)}{N ps:vo}{sp:Sp}(lk:K.lookup f=some ⟨oc,od,.func ci,osl⟩)(hcd:PySem.W.codeIn K cdv qual=true)(S:Ap N ps scope) (len:To) (R:∀(A:F0d) (outer:v7) (s:SD) (H:Hp) (vs:vx) (Q:VK) (E:XK),CM k (A.deeper (envOfC qual scope s.heap.objs.size f cdv))->sp vs H Q E ->∃t,HY Ty g t/\t { nx:=fun _ H'=>Q .BS H',rt:=Q} xD H):Ah P w K mg base CX ii f ci ps sp:=by
 refine⟨len,fun A outer s H args us vs Q E hr Y hb r U=>?_⟩;have hl:=len _ _ _ _ U;have KX:K.In s.heap:=Y.mod.Pk.keeps fun b o e=>(Y.bs b o e).1;have lim:s.heap.NoLimit:=Y.mod.nolimit.keeps fun b o e=>(Y.bs b o e).1;have M:∀y∈ps.zip us,scope.names.lookup y.1=some .local\/(scope.names.lookup y.1=some .cell/\((cellsFrom oR scope.names []).lookup y.1).isSome=true):=fun⟨n,v⟩ hy=>by
  rcases S.par n (List.of_mem_zip hy).1 with q|q
  .exact .inl q
  .exact .inr ⟨q,PySem.W.cellsFrom_some _ _ _ (.inl q)⟩
 refine codeAny_call_function hr.depth (KX _ _ lk) rfl S.co S.gen rfl (PySem.W.codeRec_of KX hcd) (hb _ _ _ _ ?_);refine wpAny_newFunctionEnv_cells S.kind M fun env he s1 x=>?_;subst he;refine⟨lim.keeps x.toInCall.keep,codeAny_func ?_⟩;obtain⟨t,ht,hq⟩:=R A outer s H vs Q E (hr.deeper _) U;have I:Inv Ty [] xD H s1:=TR S hr.hd Y hl r x;refine aM (ht [] s1 xD H _ I hq) (fun fl s' T=>?_) fun e s' T=>T;have fin:∀ {l:St} {H':Hp} {v:V} {u:VL},Inv Ty [] l H' s'->RelV v u->Q v H'->CE outer P w H s Q u s' :=
  fun {l H' v u} J Z q=>⟨v,H',J.os,J.bare,J.base,J.Ay,Z,q⟩
 cases fl with
 |ret u=>
  obtain⟨v,l,H',J,Z,q⟩:=T;exact fin J Z q
 |next=>
  obtain⟨l,H',J,q⟩:=T;exact fin (v:=V.BS) (u:=Value.none) J rfl q
 |brk=>
  obtain⟨_,_,_,q⟩:=T;exact False.elim q
 |cont=>
  obtain⟨_,_,_,q⟩:=T;exact False.elim q
section
variable{X:Cx}{x:Str}{p pos:Pos}{e:Expr}{es:vp}{t:TA}{id T:xC}{r:List V->Hp->VK->Prop}
def tj(r:List V->Hp->VK->Prop)(t:TA):TE:=fun σ H Q=>t σ H fun vs g=>r vs g Q
def Bv(Y:FO X xp r)(U:y6)(hm:X.mg x=none)(R:bootBuiltins x=some xp)(ha:PA X zAq t)(hn:x ≠ "__name__":=by decide)(g:GE=false:=by decide) (he:starEach zAq X.env=Ev::starEach es X.env:=by rfl)(hpl:(backTo pos Lx).any OR=false:=by rfl):PE X Fk (tj r t):=by
 intro pins s σ H Q I h;refine wpAny_Call_Name_kw (Hs I U hm R ?_ hn g);exact PyProof.Rows.callWith_builtin1 (A2 n0 fun us s1 ⟨vs,H1,Z,l,M⟩=>Y pins s1 σ H1 vs us Q Z l M) he hpl
def Tf(Y:FO X (.type T) r)(U:y6)(hm:X.mg x=none)(R:bootBuiltins x=some (.type T))(ha:PA X zAq t)(hn:x ≠ "__name__":=by decide)(g:GE=false:=by decide) (he:starEach zAq X.env=Ev::starEach es X.env:=by rfl)(hpl:(backTo pos Lx).any OR=false:=by rfl):PE X Fk (tj r t):=by
 intro pins s σ H Q I h;refine wpAny_Call_Name_kw (Hs I U hm R ?_ hn g);exact bP (A2 n0 fun us s1 ⟨vs,H1,Z,l,M⟩=>Y pins s1 σ H1 vs us Q Z l M) he hpl
end
end L2
namespace HT
open PySem PyProof.Rows
section
variable{prog:F0b}{w:F0c}{A:F0d}{E:ve}{s:SD}
def mW{t b:AD}{vs ws:vd}{Q:ve}(ht:IsTup s.heap t vs.toArray)(hb:IsTup s.heap b ws.toArray)(Z:vs≠[]) (h1:ws=[]->Q (.ref t) s)(h2:ws≠[]->Q N7 {s with heap:=s.heap.push { cls:=.type "tuple",data:=.seq (vs++ws).toArray} }) (hsz:vs.length+ws.length<=sizeLine):wpAny By A (binaryOp .Add (.ref t) (.ref b)) Q E s:=by
 obtain⟨⟨cls,dd,data,sl⟩,U,hc,n,hd⟩:=id ht;obtain⟨⟨cls2,R,data2,l⟩,g,M,Y,I⟩:=id hb;simp only at hc hd M I;subst hc hd M I;have e:vs.toArray++ws.toArray=(vs++ws).toArray:=by simp
 by_cases T:ws=[]
 .exact concat_meets ⟨_,U,rfl⟩ ⟨_,g,rfl⟩ noFill_tuple_add seq_tuple_add PySem.F.slot_tuple_add PySem.F.entry_tuple_add (PySem.F.args_tuple_add_2 _ _)
   (tuple_addW1 t b vs.toArray ws.toArray n Y dd R sl l (by simpa using Z) (by simp[T])) ⟨U,g,h1 T⟩
 .refine concat_meets ⟨_,U,rfl⟩ ⟨_,g,rfl⟩ noFill_tuple_add seq_tuple_add PySem.F.slot_tuple_add PySem.F.entry_tuple_add (PySem.F.args_tuple_add_2 _ _)
   (tuple_addW2 t b vs.toArray ws.toArray n Y dd R sl l (by simpa using Z) (by simpa using T) (by rw[(Cp),(Cp)];exact hsz)) ⟨U,g,?_⟩
  rw[e];exact h2 T
def BZ(n d:Nat):Option Int->Nat
 |none=>d
 |some v=>if v<0 then(v+(n:Int)).toNat else min v.toNat n
def WC(n d:Nat):BZ n d none=d:=rfl
def XR(n d k:Nat):BZ n d (some (k:Int))=min k n:=by
 show(if(k:Int)<0 then((k:Int)+(n:Int)).toNat else min (k:Int).toNat n)=min k n;rw[if_neg AC,(FP)]
def nO(n d:Nat)(hd:d<=n)(o:vt):BZ n d o<=n:=by
 cases o with
 |none=>exact hd
 |some v=>
  show(if v<0 then(v+(n:Int)).toNat else min v.toNat n)<=n;by_cases g:v<0
  .rw[if_pos g];lia
  .rw[if_neg g];exact Nat.min_le_right _ _
def XO(v:Int)(n d:Nat):(if v<0 then max (v+(n:Int)) 0 else min v (n:Int))=((BZ n d tz:Nat):Int):=by
 show(if v<0 then max (v+(n:Int)) 0 else min v (n:Int))=(((if v<0 then(v+(n:Int)).toNat else min v.toNat n):Nat):Int);by_cases g:v<0
 .simp only[if_pos g];lia
 .simp only[if_neg g];lia
def YR(lo hi:vt)(n:Nat):Builtin.Slice.sliceAdjust lo hi 1 (n:Int)=(((BZ n 0 lo:Nat):Int),((BZ n n hi:Nat):Int)):=by
 have g:¬((1:Int)<0):=by lia
 unfold Builtin.Slice.sliceAdjust;simp only[g,if_false];refine Prod.ext ?_ ?_
 .cases lo with
  |none=>rfl
  |some v=>exact XO v n 0
 .cases hi with
  |none=>rfl
  |some v=>exact XO v n n
def Y9(i j:Nat):Builtin.Slice.slicePlaces (i:Int) (j:Int) 1=j-i:=by
 unfold Builtin.Slice.slicePlaces;have g:(1:Int) > 0:=by lia
 simp only[g,if_true,Int.ediv_one];split<;>lia
def Q8{v:VL}{o:vt}{Q:Option Int->SD->Prop}(p:IsPart v o)(h:Q o s):wpAny By A (Builtin.Slice.slicePartIndex v) Q E s:=by
 cases p with
 |none=>exact slicePart_none h
 |int i t=>exact slicePart_int h
def Ks{sl:AD}{M I:VL}{lo hi:vt}{n:Nat}{Q:Int×Int×Nat->SD->Prop}(hs:s.heap.IsSliceOf sl M I .none)(T:IsPart M lo)(R:IsPart I hi) (h:Q (((BZ n 0 lo:Nat):Int),1,BZ n n hi-BZ n 0 lo) s):wpAny By A (Builtin.Slice.sliceApplied (.ref sl) (pure (n:Int))) Q E s:=by
 obtain⟨os,g,U,l⟩:=id hs;unfold Builtin.Slice.sliceApplied Builtin.Slice.sliceFields;refine Wb (Wb (au g l (x:=M) rfl (Wb (au g l (x:=I) rfl (Wb (au g l (x:=.none) rfl lr))))));refine Wb (slicePart_none ?_);show wpAny _ _ (if((1:Int)==0)=true then _ else _) _ _ s;rw[if_neg AS];refine Wb (Q8 T (Wb (Q8 R (Wb lr))));show wpAny _ _ (match Builtin.Slice.sliceAdjust lo hi 1 (n:Int) with|(lo,hi)=>pure (lo,(1:Int),Builtin.Slice.slicePlaces lo hi 1)) _ _ s;rw[YR lo hi n];show wpAny _ _ (pure (((BZ n 0 lo:Nat):Int),(1:Int),Builtin.Slice.slicePlaces ((BZ n 0 lo:Nat):Int) ((BZ n n hi:Nat):Int) 1)) _ _ s;rw[Y9];exact aB h
def ie(xs:Array VL)(i k:Nat):((List.range k).filterMap fun(m:Nat)=>xs[((i:Int)+(m:Int)*1).toNat]?).toArray=((xs.toList.drop i).take k).toArray:=by
 have e:(fun(m:Nat)=>xs[((i:Int)+(m:Int)*1).toNat]?)=fun m=>xs[i+m]? := by
  funext m
  have:((i:Int)+(m:Int)*1).toNat=i+m:=by lia
  rw[this]
 rw[e];have:=pick_run xs i k;rw[List.filterMap_map]at this;have g:((fun x=>xs[x]?) ∘ fun x=>i+x)=fun m=>xs[i+m]?:=rfl;rw[g]at this;rw[this]
def PK{t sl:AD}{items:Array VL}{Y U:VL}{lo hi:vt}{Q:ve}(l:IsTup s.heap t items)(hs:s.heap.IsSliceOf sl Y U .none)(pl:IsPart Y lo)(Z:IsPart U hi) (hw:¬(BZ items.size 0 lo=0/\BZ items.size items.size hi=items.size)) (h:Q N7 {s with heap:=s.heap.push { cls:=.type "tuple",data:=.seq ((items.toList.drop (BZ items.size 0 lo)).take RW).toArray} }) (hsz:items.size<=sizeLine):wpAny By A (getItem (.ref t) (.ref sl)) Q E s:=by
 have g:sizeOk (.seq ((items.toList.drop (BZ items.size 0 lo)).take RW).toArray):=by
  show((items.toList.drop (BZ items.size 0 lo)).take RW).toArray.size<=sizeLine;rw[(Cp),(Mb),(Hl),(Vg)]
  lia
 have hj:BZ items.size items.size hi<=items.size:=nO _ _ SL hi;obtain⟨os,I,R,hds⟩:=id hs;have T:s.TypeIs (.ref sl) "slice" := ⟨os,I,R⟩;unfold getItem
 try with_reducible refine ao ?_
 first|refine Wb lr|skip
 refine Wb (wpAny_sequenceKey l.typeIs AS ?_);refine Wb (av (name:=Str.ofString "__getitem__") l.typeIs bX
  (bA bX l.typeIs entry_tuple_getitem ?_ (args_tuple_getitem _ _)))
 show wpAny _ _ (Builtin.Tuple.tupleItemsOf (.ref t)>>=_) _ _ s;refine Wb (tupleItemsOf_ l ?_);refine Wb (wpAny_typeOf T ?_);rw[if_pos AS];refine Wb (Ks hs pl Z ?_);have M:¬(zBw=true):=by
  intro q;rw[(Ft),(Ft)]at q;have q1:yf=0:=eq_of_beq q.1.1;have q2:BZ items.size items.size hi-BZ items.size 0 lo=items.size:=eq_of_beq q.2;exact hw ⟨by lia,by lia⟩
 show wpAny _ _ (if zBw=true then _ else _) _ _ s;rw[if_neg M,ie]
 first
  |exact Wb (m:=Builtin.Tuple.tupleExact _) (aY vw g)
  |exact Wb (m:=Builtin.Tuple.tupleExact _) (aY (Wb (aB vw)) g)
  |exact Wb (Wb (m:=Builtin.Tuple.tupleExact _) (aY (aB vw) g))
  |exact Wb (Wb (m:=Builtin.Tuple.tupleExact _) (aY vw g))
end
end HT
namespace L2
open PySem PySem.Spec PyProof.Rows
abbrev TO:=St->Hp->(Option Int->Hp->Prop)->Prop
def PO(X:Cx)(e:Option Expr)(t:TO):Prop :=
 ∀(pins:Cl) (s:SD) (σ:St) (H:Hp) (Q:Option Int->Hp->Prop),Inv X pins σ H s->t σ H Q ->
  wpAny AT X.A (evalPart e X.env) (fun u s'=>∃o H',Inv X pins σ H' s'/\IsPart u o/\Q o H') X.xe s
def lW:TO:=fun _ H Q=>Q none H
def tN(t:TE):TO:=fun σ H Q=>t σ H fun x g=>∃i,x=.int i/\Q (some i) g
def intsAre_of{ns:vj}:∀ {us:vd},Vals wC us->IntsAre us ns:=by
 induction ns with
 |nil=>intro us r;rw[List.map_nil]at r;cases r;exact .nil
 |cons n ns I=>
  intro us r;rw[xf]at r;cases r with
  |cons l g=>
   obtain⟨t,e⟩:=l;subst e;exact .cons n t (I g)
section
variable{X:Cx}{e:Expr}{te:TE}{lo hi:Option Expr}{tl th:TO}{pos p2:Pos}
def kq:PO X none lW:=by
 intro pins s σ H Q I h;rw[evalPart_none];exact aB ⟨none,H,I,.none,h⟩
def md(h:PE X e te):PO X (some e) (tN te):=by
 intro pins s σ H Q I M;rw[evalPart_some];refine A2 (h pins s σ H _ I M) fun u s1 ⟨x,T,R,g,l⟩=>?_;obtain⟨i,rfl,q⟩:=l;obtain⟨t,rfl⟩:=g;exact⟨some i,T,R,.int i t,q⟩
def T4(X:Cx)(r:xG):Prop :=
 ∀(pins:Cl) (s:SD) (σ:St) (H:Hp) (x:V) (v l g:VL) (lo hi:Option Int) (sl:AD) (Q:VK),Inv X pins σ H s->RelV x v->s.heap.IsSliceOf sl l g .none->IsPart l lo->IsPart g hi->r x lo hi H Q ->
  ∃T id,typeLookup (.type T) "__getitem__" = pure (some xp)/\s.TypeIs v T/\wpAny AT X.A (getItem v (.ref sl)) Ix X.xe s
def T4.or{r R:xG}(h:T4 X r)(h':T4 X R):T4 X (fun x lo hi H Q=>r x lo hi H Q\/R x lo hi H Q):=by
 intro pins s σ H x v l g lo hi sl Q I M Y U T q;rcases q with q|q
 .exact h pins s σ H x v l g lo hi sl Q I M Y U T q
 .exact h' pins s σ H x v l g lo hi sl Q I M Y U T q
def vN(r:xG)(te:TE)(tl th:TO):TE:=fun σ H Q=>te σ H fun x M=>tl σ M fun l I=>th σ I fun u g=>r x l u g Q
def Vp{r:xG}(hr:T4 X r)(he:PE X e te)(hl:PO X lo tl)(hu:PO X hi th):PE X zW (vN r te tl th):=by
 intro pins s σ H Q I h;refine Subscript_ (A2 Pg fun v s1 ⟨x,H1,I1,U,q1⟩=>?_);refine wpAny_Slice (A2 (hl pins s1 σ H1 _ I1 q1) fun M s2 ⟨l,H2,I2,pl,Z⟩=>A2 (hu pins s2 σ H2 _ I2 Z) fun g s3 ⟨u,R,I3,pu,Y⟩=>?_);rw[evalPart_none];refine aB ?_;have I4:Inv X pins σ R lv:=I3.kept (t':=s3.toks) fun b ob q=>aD _ q;obtain⟨T,id,hT,ht,hg⟩:=hr pins lv σ R x v M g l u s3.heap.objs.size Q I4 U (Heap.IsSliceOf.new ..) pl pu Y;show wpAny AT X.A (subscriptTail e (.Slice lo hi none p2) v xE) Ix X.xe lv;exact tail_any (ops:=[.ref s3.heap.objs.size,v]) ht hT hg wR
def Md(xs:vx)(lo hi:vt):vx:=(xs.drop (HT.BZ xs.length 0 lo)).take mt
def Pa(xs:vx)(lo hi:vt):(Md xs lo hi).length<=xs.length:=by
 unfold Md;rw[(Mb),(Hl)]
 lia
def u7(K:Fg):V->Option Int->Option Int->Hp->VK->Prop:=fun x lo hi H Q=>∃a xs,x=.ref a/\B2 K H a xs /\
 ¬bi/\∀p,H p=none->Q yI (upd H p (.tup (Md xs lo hi)))
def cQ:T4 X (u7 X.K):=by
 intro pins s σ H x v vl vu lo hi sl Q I T hs Y U h;obtain⟨a,xs,rfl,Z,hw,q⟩:=h;cases T;obtain⟨l,r,R,M⟩:=I.tuple Z;have g:l.toArray.size=xs.length:=by rw[(Cp)];exact r.length.symm
 refine⟨"tuple",_,PyProof.Rows.slot_tuple_getitem.lookup,R.typeIs,?_⟩;refine HT.PK R hs Y U (by rw[g];exact hw) ?_ (by rw[g];exact M);rw[g];refine⟨.ref s.heap.objs.size,_,I.laid (t':=s.toks) (o:=.tup (Md xs lo hi)) xH SL ?_,rfl,q _ zBn⟩;exact⟨aK (Pa xs lo hi) M,_,(r.drop (HT.BZ xs.length 0 lo)).take mt,IsTup.new _ _⟩
def Vals.Xi{xs:vx}{us:vd}(r:Vals xs us):us=[] ↔ xs=[]:=by
 cases r with
 |nil=>simp
 |cons _ _=>simp
end
def IC(n:Nat)(i:Int):Option Nat:=if 0<=i then(if i<n then some i.toNat else none) else if -(n:Int)<=i then some (i+n).toNat else none
def D8{α:Type}(xs:wq)(i:Int):Option α:=(IC xs.length i).bind fun j=>xs[j]?
def Xn{n:Nat}{i:Int}{j:Nat}(h:IC n i=some j):seqIndex? i n=some j/\j<n/\-(n:Int)<=i/\i<n:=by
 unfold IC at h;by_cases h0:0<=i
 .rw[if_pos h0]at h;by_cases g:i<n
  .rw[if_pos g]at h;have e:i.toNat=j:=aQ h;exact⟨by rw[seqIndex_of h0 g,e],by lia,by lia,g⟩
  .rw[if_neg g]at h;cases h
 .rw[if_neg h0]at h;by_cases g:-(n:Int)<=i
  .rw[if_pos g]at h;have e:(i+n).toNat=j:=aQ h;exact⟨by rw[seqIndex_neg AC g,e],by lia,g,by lia⟩
  .rw[if_neg g]at h;cases h
def Rp{α:Type}{xs:wq}{i:Int}{v:α}(h:D8 xs i=some v):∃j,seqIndex? i xs.length=some j/\xs[j]? = some v/\j<xs.length/\-(xs.length:Int)<=i/\i<xs.length:=by
 unfold D8 at h;cases e:IC xs.length i with
 |none=>rw[e]at h;cases h
 |some j=>
  rw[e]at h;obtain⟨M,I,l,g⟩:=Xn e;exact⟨j,M,h,I,l,g⟩
def X5{α:Type}{xs:wq}{j:Nat}{v:α}(h:xs[j]? = some v):D8 xs (j:Int)=some v:=by
 have g:j<xs.length:=(aF.mp h).1;have e:IC xs.length (j:Int)=some j:=by
  unfold IC;rw[if_pos AC,if_pos AC];simp
 unfold D8;rw[e];exact h
def SI(b:Expr):Prop:=∀o i,subscripted b false o i=operate [o,i] (getItem o i)
def Q0(X:Cx)(r:R2):Prop :=
 ∀(value slice:Expr) (pins:Cl) (s:SD) (σ:St) (H:Hp) (x y:V) (v u:VL) (Q:VK),Inv X pins σ H s->RelV x v->RelV y u->r x y H Q ->
  subscripted slice false v u=operate [v,u] (getItem v u)->wpAny AT X.A (subscriptTail value slice v u) Ix X.xe s
def Pr(X:Cx)(id:xC)(r:y8):Prop :=
 ∀(pins:Cl) (s:SD) (σ:St) (H:Hp) (x:V) (xs:UF) (v:VL) (us:S0) (Q:VK),Inv X pins σ H s->RelV x v->Vals xs us->r x xs H Q ->
  wpAny AT X.A (call xp (v::us)) Ix X.xe s
section
variable{X:Cx}{a b:Expr}{ta tb:TE}{pos:Pos}
def Q0.or{r M:R2}(h:Q0 X r)(h':Q0 X M):Q0 X (fun x y H Q=>r x y H Q\/M x y H Q):=by
 intro value slice pins s σ H x y v u Q I l g q R;rcases q with q|q
 .exact h value slice pins s σ H x y v u Q I l g q R
 .exact h' value slice pins s σ H x y v u Q I l g q R
def E1{r:R2}(M:Q0 X r)(ha:y7)(R:PE X b tb)(hs:SI b):PE X (.Subscript a b pos) (Xj r ta tb):=by
 intro pins s σ H Q I h;exact Subscript_ (i6 ha R I h fun v u s2 x y U T l g q=>M a b pins s2 σ U x y v u Q T l g q (hs _ _))
def Yn(K:Fg):R2:=fun x y H Q=>∃p xs i v,x=.ref p/\y=.int i/\BR K H p xs/\D8 xs i=some v/\Q v H
def qP(K:Fg):R2:=fun x y H Q=>∃p xs i v,x=.ref p/\y=.int i/\B2 K H p xs/\D8 xs i=some v/\Q v H
def pE:R2:=fun x y H Q=>∃z i c,x=.str z/\y=.int i/\z.length<=sizeLine/\D8 z.cps.toList i=some c/\Q (.str ⟨#[c]⟩) H
def L5:Q0 X (Yn X.K):=by
 intro value slice pins s σ H x y v u Q I rx Z h U;obtain⟨p,xs,i,z,rfl,rfl,hq,he,q⟩:=h;cases rx;obtain⟨t,rfl⟩:=Z;obtain⟨R,r,M,hz⟩:=I.list hq;obtain⟨j,g,h2,h3,h4,h5⟩:=Rp he;obtain⟨w,Y,l⟩:=r.get h2;have hl:=r.length;have hn:=KL;have fin:EP X pins σ Q w s:=⟨z,H,I,l,q⟩;by_cases h0:0<=i
 .have T:i.toNat=j:=by
   rw[seqIndex_of h0 h5]at g;exact aQ g
  exact item_listR M.isList h0 AC (by rw[T];simpa using Y) fin U
 .have T:(i+(R.toArray.size:Int)).toNat=j:=by
   rw[seqIndex_neg AC h4]at g;rw[(Cp),<-hl];exact aQ g
  exact subscriptTail_builtinR (x:=w) M.isList.typeIs slot_list_getitem.lookup
   (wpAny_getItem_list_neg (Q:=fun r s'=>r=w/\EP X pins σ Q r s') M.isList AC (by rw[(Cp)]<;>lia) AC (by rw[T];simpa using Y) ⟨rfl,fin⟩) U
def Fi:Q0 X (qP X.K):=by
 intro value slice pins s σ H x y v u Q I R M h U;obtain⟨p,xs,i,z,rfl,rfl,Y,he,q⟩:=h;cases R;obtain⟨t,rfl⟩:=M;obtain⟨T,r,l,hz⟩:=I.tuple Y;obtain⟨j,h1,h2,h3,h4,h5⟩:=Rp he;obtain⟨w,ew,g⟩:=r.get h2;have Z:=r.length;have hn:=KL;have fin:EP X pins σ Q w s:=⟨z,H,I,g,q⟩;exact subscriptTail_builtinR (x:=w) l.typeIs slot_tuple_getitem.lookup
  (getItem_tuple (j:=j) (Q:=fun r s'=>r=w/\EP X pins σ Q r s') l AC AC (by rw[(Cp),<-Z];exact h1) (by simpa using ew) ⟨rfl,fin⟩) U
def oP:Q0 X pE:=by
 intro value slice pins s σ H x y v u Q I M l h R;obtain⟨z,i,c,rfl,rfl,hz,U,q⟩:=h;obtain⟨t,rfl⟩:=M;obtain⟨t',rfl⟩:=l;obtain⟨j,g,h2,h3,Z,Y⟩:=Rp U;have T:z.cps.toList.length=z.length:=by simp[Str.length]
 rw[T]at g Z Y;have hn:=KL;exact tail_any (typeIs_str s z t) slot_str_getitem.lookup (getItem_str (c:=c) (by
  have e1:decide (i < -(2^63:Int))=false:=aV AC;have e2:decide (i >= 2^63)=false:=aV AC;rw[e1,e2,Bool.or_false]) (by rw[g];simpa using h2) ⟨.str ⟨#[c]⟩,H,I.tok _,⟨_,rfl⟩,q⟩) R
def vK(K:Fg):R2:=fun x y H Q=>Yn K x y H Q\/qP K x y H Q\/pE x y H Q
def qz:Q0 X (vK X.K):=L5.or (Fi.or oP)
def ZR(its:vd)(n j:Nat)(u:VL):Obj.mapSeq (·.setIfInBounds j u) { cls:=.type "list",data:=.seq its.toArray n}={ cls:=.type "list",data:=.seq (its.set j u).toArray n}:=by
 simp[Obj.mapSeq]
def Inv.lst{pins:Cl}{σ:St}{H:Hp}{s:SD}{p:AD}{xs:vx}(I:Db)(h:H p=some SB):∃(its:vd) (n:Nat),Vals xs its/\s.heap.get? p=some { cls:=.type "list",data:=.seq its.toArray n}/\xs.length<=sizeLine:=by
 obtain⟨z,its,n,r,e⟩:=I.Ay p _ h;exact⟨its,n,r,e,z⟩
def Inv.oh{pins:Cl}{σ:St}{H:Hp}{s:SD}{p:AD}{xs ys:vx}{its its':vd}{n g:Nat}{f:Obj->Obj}(I:Db)(h:H p=some SB) (R:s.heap.get? p=some { cls:=.type "list",data:=.seq its.toArray n})(l:f { cls:=.type "list",data:=.seq its.toArray n}={ cls:=.type "list",data:=.seq its'.toArray g})(r:Vals ys its')(M:ys.length<=sizeLine)(t:Nat):Inv X pins σ (upd H p KM) {s with heap:=s.heap.update p f,toks:=t}:=by
 have e:(s.heap.update p f).get? p=some { cls:=.type "list",data:=.seq its'.toArray g}:=by
  rw[Heap.get?_update_self f R (by rw[l]<;>rfl),l]
 refine I.write (x:=p) (e:=p) (by rw[h];trivial) bv (fun b u T q=>(Heap.get?_update_other _ _ (Ne.symm T)).trans q) ⟨_,e⟩ ?_;exact⟨M,its',g,r,e⟩
def UG:V->V->V->Hp->(Hp->Prop)->Prop:=fun o i v H Q=>∃p xs k j,o=.ref p/\i=.int k/\H p=some SB/\IC xs.length k=some j/\Q (upd H p (.lst (xs.set j v)))
def set_list:gG X UG:=by
 intro pins s σ H o i v ov iv u Q I ro ri rv h;obtain⟨p,xs,k,j,rfl,rfl,U,hj,q⟩:=h;cases ro;obtain⟨t,rfl⟩:=ri;obtain⟨g,n,r,M,hz⟩:=I.lst U;obtain⟨l,h2,Z,Y⟩:=Xn hj;have R:=r.length;have hn:=KL;have I':Inv X pins σ (upd H p (.lst (xs.set j v))) {s with heap:=s.heap.update p (Obj.mapSeq (·.setIfInBounds j u))} :=
  I.oh U M (ZR g n j u) (r.set rv j) (by rw[(Nj)];exact hz) s.toks
 by_cases h0:0<=k
 .have T:k.toNat=j:=by
   rw[seqIndex_of h0 Y]at l;exact aQ l
  exact PySem.W.ki_setAt M h0 AC (by rw[(Cp),<-R];exact Y) (by rw[T];exact⟨_,I',q⟩)
 .have T:(k+(g.toArray.size:Int)).toNat=j:=by
   rw[seqIndex_neg AC Z]at l;rw[(Cp),<-R];exact aQ l
  exact PySem.W.ki_setBack M AC (by rw[(Cp),<-R];exact Z) AC (by rw[T];exact⟨_,I',q⟩)
def Vo(lo hi:vt)(n:Nat):(sliceBounds lo hi none n).1=((HT.BZ n 0 lo:Nat):Int)/\(sliceBounds lo hi none n).2.1=((HT.BZ n n hi:Nat):Int)/\(sliceBounds lo hi none n).2.2=1:=by
 refine⟨?_,?_,rfl⟩
 .cases lo with
  |none=>simp[sliceBounds,HT.BZ]
  |some i=>
   simp only[sliceBounds,HT.BZ,Option.getD_none,show(1:Int) > 0 by decide,if_true];by_cases h:i<0
   .simp only[h,if_true]<;>lia
   .simp only[h,if_false]<;>lia
 .cases hi with
  |none=>simp[sliceBounds,HT.BZ]
  |some i=>
   simp only[sliceBounds,HT.BZ,Option.getD_none,show(1:Int) > 0 by decide,if_true];by_cases h:i<0
   .simp only[h,if_true]<;>lia
   .simp only[h,if_false]<;>lia
def T7(its:vd)(lo hi:vt):slicePick its.toArray lo hi none=((its.drop (HT.BZ its.length 0 lo)).take (HT.BZ its.length its.length hi-HT.BZ its.length 0 lo)).toArray:=by
 obtain⟨I,l,g⟩:=Vo lo hi its.toArray.size;unfold slicePick;rw[I,l,g];simp only[sliceRange_one,pick_run,List.size_toArray]<;>rfl
def uK(K:Fg):V->Option Int->Option Int->Hp->VK->Prop:=fun x lo hi H Q=>∃a xs,x=.ref a/\BR K H a xs/\∀p,H p=none->Q yI (upd H p (.lst (Md xs lo hi)))
def mE:T4 X (uK X.K):=by
 intro pins s σ H x v vl vu lo hi sl Q I M hs T R h;obtain⟨a,xs,rfl,Z,q⟩:=h;cases M;obtain⟨U,r,l,Y⟩:=I.list Z;have g:=r.length;refine⟨"list",_,slot_list_getitem.lookup,l.isList.typeIs,?_⟩;refine wpAny_getItem_list_slice l.isList hs T R .none A1 ?_ (by rw[(Cp)]<;>lia);rw[T7,<-g];refine⟨.ref s.heap.objs.size,_,I.laid (t':=s.toks) (o:=.lst (Md xs lo hi)) xH SL ?_,rfl,q _ zBn⟩;exact⟨aK (Pa xs lo hi) Y,_,0,(r.drop (HT.BZ xs.length 0 lo)).take mt,Heap.get?_push_size _ rfl⟩
def EG:FO X (.builtin "len") (fun xs H Q=>∃p ys,xs=[.ref p]/\(BR X.K H p ys\/B2 X.K H p ys)/\Q (.int ys.length) H):=by
 intro pins s σ H xs us Q I r h;obtain⟨p,ys,rfl,l,q⟩:=h;obtain⟨u,rfl,U⟩:=vals1 r;cases U;have hn:=KL;rcases l with l|l
 .obtain⟨T,M,R,Y⟩:=I.list l;have g:=M.length;exact Calls.call_len_list R.isList l5 ⟨.int ys.length,H,I.tok _,⟨s.toks+1,by rw[(Cp),g]⟩,q⟩
 .obtain⟨T,M,R,Y⟩:=I.tuple l;have g:=M.length;exact len_tuple R l5 ⟨.int ys.length,H,I.tok _,⟨s.toks+1,by rw[(Cp),g]⟩,q⟩
def VX:FO X (.builtin "len") (fun xs H Q=>∃z,xs=[.str z]/\z.length<=sizeLine/\Q (.int z.length) H):=by
 intro pins s σ H xs us Q I r h;obtain⟨z,rfl,g,q⟩:=h;obtain⟨u,rfl,t,rfl⟩:=vals1 r;have hn:=KL;exact len_str AC ⟨.int z.length,H,I.tok _,⟨_,rfl⟩,q⟩
def Np:FO X gl (fun xs H Q=>∃p ys,xs=[.ref p]/\(BR X.K H p ys\/B2 X.K H p ys)/\∀l,H l=none->Q (.ref l) (upd H l KM)):=by
 intro pins s σ H xs us Q I r h;obtain⟨p,ys,rfl,U,q⟩:=h;obtain⟨u,rfl,rx⟩:=vals1 r;cases rx;have fin:∀(g:S0),Vals ys g->ys.length<=sizeLine->∀(h':Heap) (R:Nat),(∀b o',s.heap.get? b=some o'->h'.get? b=some o') ->
   h'.get? s.heap.objs.size=some { cls:=.type "list",dict:=none,data:=.seq g.toArray R,slots:=#[]}->EP X pins σ Q N7 dL:=fun g M T h' R kp e=>
  ⟨.ref s.heap.objs.size,_,I.laid (t':=s.toks) kp SL (show CB X.prog X.w _ h' _ KM from⟨T,g,R,M,e⟩),rfl,q _ zBn⟩
 rcases U with U|U
 .obtain⟨g,M,Z,T⟩:=I.list U;have Y:=M.length;obtain⟨o,ho,hc,n,hd⟩:=Z.isList;exact call_list_seq p bv ho hc hd (fun h' R kp e=>fin g M T h' R kp e) l5
 .obtain⟨g,M,Z,T⟩:=I.tuple U;have Y:=M.length;obtain⟨o,ho,hc,n,hd⟩:=Z;exact call_list_seq p (.inr rfl) ho hc hd (fun h' R kp e=>fin g M T h' R kp e) l5
def UD:FO X OZ (fun xs H Q=>∃p ys,xs=[.ref p]/\((BR X.K H p ys/\∀l,H l=none->Q (.ref l) (upd H l (.tup ys)))\/(B2 X.K H p ys/\Q yI H))):=by
 intro pins s σ H xs us Q I r h;obtain⟨p,ys,rfl,h⟩:=h;obtain⟨u,rfl,rx⟩:=vals1 r;cases rx;rcases h with ⟨T,q⟩|⟨T,q⟩
 .obtain⟨g,M,R,U⟩:=I.list T;have Y:=M.length;refine call_tuple_list R.isList (fun h' kp=>?_) l5;have Z:Inv X pins σ H dL:=I.kept (t':=s.toks) kp;have I2:Inv X pins σ (upd H h'.objs.size (.tup ys)) {s with heap:=h'.push { cls:=.type "tuple",data:=.seq g.toArray} } :=
   Z.laid (t':=s.toks) (fun b o e=>aD _ e) SL (show CB X.prog X.w _ _ _ (.tup ys) from⟨U,g,M,IsTup.new _ _⟩)
  exact⟨.ref h'.objs.size,_,I2,rfl,q _ (Z.Ay.fresh SL)⟩
 .obtain⟨g,M,R,U⟩:=I.tuple T;exact call_tuple_same R ⟨.ref p,H,I,rfl,q⟩
def pS(K:Fg)(T:xC)(x:V)(H:Hp):Prop:=match x with
 |.str _=>T = "str"
 |.int _=>T = "int"
 |.ref p=>(T = "list" /\ ∃xs,BR K H p xs)\/(T = "tuple" /\ ∃o,K.lookup p=some o/\o.cls=.type "tuple" /\ o.dict=none) \/
   (T = "dict" /\((∃kvs,H p=some (.dK kvs))\/∃kvs,H p=some (.dT kvs)))\/(T = "set" /\ ∃S n,H p=some (.set S n))
 |_=>False
def eK{pins:Cl}{σ:St}{H:Hp}{s:SD}{T:xC}{x:V}{v:VL}(I:Db)(r:RelV x v)(ty:pS X.K T x H):s.TypeIs v T/\∀a,v=.ref a->∃ob,s.heap.get? a=some ob/\ob.dict=none:=by
 cases x with
 |str z=>
  obtain⟨t,rfl⟩:=r;cases (show T = "str" from ty);exact⟨typeIs_str s z t,fun _ e=>nomatch e⟩
 |int i=>
  obtain⟨t,rfl⟩:=r;cases (show T = "int" from ty);exact⟨typeIs_int s i t,fun _ e=>nomatch e⟩
 |ref p=>
  cases r;rcases ty with ⟨rfl,xs,U⟩|⟨rfl,o,g,Y,hd⟩|⟨rfl,g⟩|⟨rfl,S,n,g⟩
  .obtain⟨R,_,M,_⟩:=I.list U;refine⟨M.isList.typeIs,fun a e=>?_⟩;cases e;obtain⟨o,n,e,c,hd,_⟩:=M;exact⟨o,e,hd⟩
  .refine⟨⟨o,I.Gp p o g,Y⟩,fun a e=>?_⟩;cases e;exact⟨o,I.Gp _ o g,hd⟩
  .have z:∃o,s.heap.get? p=some o/\o.ExactDict:=by
    rcases g with ⟨kvs,g⟩|⟨kvs,g⟩
    .obtain⟨_,_,_,_,o,_,_,e,ex,_⟩:=I.Ay p _ g;exact⟨o,e,ex⟩
    .obtain⟨_,_,_,_,o,_,_,e,ex,_⟩:=I.Ay p _ g;exact⟨o,e,ex⟩
   obtain⟨o,e,ex⟩:=z;refine⟨⟨o,e,ex.1⟩,fun a l=>?_⟩;cases l;exact⟨o,e,ex.2.1⟩
  .obtain⟨o,_,_,_,e,ex,_⟩:=I.Ay p _ g;refine⟨⟨o,e,ex.1⟩,fun a l=>?_⟩;cases l;exact⟨o,e,ex.2.1⟩
 |_=>exact False.elim ty
def pC(K:Fg)(T:xC)(r:y8)(l:TE):TE:=fun σ H Q=>l σ H fun x g=>pS K T x g/\r x [] g Q
def Xg(K:Fg)(T:xC)(r:y8)(l:TE)(t:TA):TE:=fun σ H Q=>l σ H fun x g=>pS K T x g/\t σ g fun xs I=>r x xs I Q
variable{o e:Expr}{es:vp}{to:TE}{t:TA}{name:Str}{apos cpos:Pos}{T id:xC}{r:y8}
def pX(Z:PlainAttrs T)(slot:Slot T name id)(M:typeOf xp=pure (.type "method_descriptor"))(hm:Pr X id r)(ho:PE X o to) (l:attributeBase o name X.env (eval o X.env)=eval o X.env:=by rfl)(g:(apos.endLine==cpos.line)=true:=by rfl):PE X (.Call (.Attribute o name apos) [] [] cpos) (pC X.K T r to):=by
 intro pins s σ H Q I h;refine wpAny_Call_method0_late l g (A2 zI fun v s1 ⟨x,H1,U,R,ty,Y⟩=>?_);obtain⟨h1,h2⟩:=eK U R ty;exact⟨T,id,Z,slot,M,h1,h2,Calls.callWith_builtin rfl (PySem.evalArgs_none (hm pins s1 σ H1 x [] v [] Q U R .nil Y))⟩
def FV(pa:PlainAttrs T)(slot:Slot T name id)(U:typeOf xp=pure (.type "method_descriptor"))(hm:Pr X id r)(ho:PE X o to)(ha:PA X zAq t) (M:attributeBase o name X.env (eval o X.env)=eval o X.env:=by rfl) (R:((backTo cpos (starEach zAq X.env)).all (fun x=>!x.1)&&(backToKw cpos (keywordEach [] X.env)).all (fun x=>x.1.isSome) && decide ((e::es).length+([]:List Keyword).length+(if([]:List Keyword).isEmpty then 0 else 1)<30))=true:=by rfl) (l:(apos.endLine==cpos.line)=true:=by rfl)(hs:starEach zAq X.env=Ev::starEach es X.env:=by rfl)(g:(backTo cpos Lx).any OR=false:=by rfl):PE X (.Call (.Attribute o name apos) zAq [] cpos) (Xg X.K T r to t):=by
 intro pins s σ H Q I h;refine wpAny_Call_method_late M R l rfl (A2 zI fun v s1 ⟨x,H1,I1,Y,ty,q1⟩=>?_);obtain⟨h1,h2⟩:=eK I1 Y ty;refine⟨T,id,pa,slot,U,h1,h2,?_⟩;have Z:=ha cpos pins s1 σ H1 _ I1 q1;rw[hs]at Z ⊢;refine Calls.callWith_builtin (by show(false||(backTo cpos Lx).any OR)=false;rw[g]<;>rfl) (Calls.evalArgs_plain ?_);exact A2 Z fun us s2 ⟨vs,H2,I2,r2,q2⟩=>hm pins s2 σ H2 x vs v us Q I2 Y r2 q2
end
def bw(X:Cx)(id:xC)(r:y8):Prop :=
 ∀(pins:Cl) (s:SD) (σ:St) (H:Hp) (x:V) (xs:UF) (v:VL) (us:S0) (Q:VK),Inv X pins σ H s->RelV x v->Vals xs us->r x xs H Q ->
  wpAny AT X.A (call xp (v::us)) Ix X.xe s
def Vals.one:∀ {x:V} {us:S0},Vals [x] us->∃u,us=[u]/\RelV x u
 |_,_,.cons r .nil=>⟨_,rfl,r⟩
def Vals.two:∀ {x y:V} {us:S0},Vals [x,y] us->∃u v,us=[u,v]/\RelV x u/\RelV y v
 |_,_,_,.cons r (.cons q .nil)=>⟨_,_,rfl,r,q⟩
def Vals.zero:∀ {us:S0},Vals [] us->us=[]
 |_,.nil=>rfl
theorem Vals.eraseIdx:∀ {xs:UF} {us:S0} (i:Nat),Vals xs us->Vals (xs.eraseIdx i) (us.eraseIdx i)
 |_,_,_,.nil=>.nil
 |_,_,0,.cons _ t=>t
 |_,_,i+1,.cons r t=>.cons r (Vals.eraseIdx i t)
def Vals.reverse{xs:vx}{us:vd}(h:Vals xs us):Vals xs.reverse us.reverse:=by
 induction h with
 |nil=>exact .nil
 |cons r t g=>rw[(SU),(SU)];exact Vals.append g (.cons r .nil)
theorem Vals.rep{xs:UF}{us:S0}(h:Vals xs us):∀k:Nat,Vals (List.replicate k xs).flatten (List.replicate k us).flatten
 |0=>.nil
 |k+1=>by
  rw[(HP),(HP),(Hm),(Hm)];exact Vals.append h (Vals.rep h k)
theorem Ti{α:Type}:∀(l:wq) (i:Nat),(l.eraseIdx i).length<=l.length
 |[],_=>aG _
 |_::_,0=>Nat.le_succ _
 |_::r,i+1=>Nat.succ_le_succ (Ti r i)
theorem foldl_rep(its:S0):∀(k:Nat) (g:S0),
  List.foldl (fun I l=>I++l) g.toArray (List.replicate k its.toArray)=(g++(List.replicate k its).flatten).toArray
 |0,g=>by simp
 |k+1,g=>by
  have e:g.toArray++its.toArray=(g++its).toArray:=by simp
  have M:(g++its)++(List.replicate k its).flatten=g++(List.replicate ii its).flatten:=by
   rw[(HP),(Hm),(Ms)]
  rw[<-M,<-foldl_rep its k (g++its),<-e,(HP),List.foldl_cons]
section
variable{X:Cx}{pins:Cl}{σ:St}{H:Hp}{s:SD}{l:AD}{xs ys:vx}
def Inv.VC{its its':vd}{n:Nat}{f:Array VL->Array VL}{t':Nat}(I:Db)(Y:H l=some SB) (e:s.heap.get? l=some { cls:=.type "list",data:=.seq its.toArray n})(T:f its.toArray=its'.toArray)(M:Vals ys its')(g:ys.length<=sizeLine):Inv X pins σ (upd H l KM) {s with heap:=s.heap.update l (Obj.mapSeq f),toks:=t'}:=by
 have q:=PySem.IsL.update e f;rw[T]at q;refine I.write (x:=l) (e:=l) (by rw[Y];exact trivial) bv (fun Z u U R=>(Heap.get?_update_other s.heap (Obj.mapSeq f) (Ne.symm U)).trans R) ⟨_,q⟩ ?_;exact⟨g,its',_,M,q⟩
def Inv.nt{its:vd}{t':Nat}(I:Db)(M:Vals ys its)(g:ys.length<=sizeLine):Inv X pins σ (upd H s.heap.objs.size KM) {s with heap:=s.heap.push { cls:=.type "list",data:=.seq its.toArray},toks:=t'} :=
 I.laid (fun _ _ q=>aD _ q) SL ⟨g,its,0,M,Heap.get?_push_size _ rfl⟩
def Inv.fresh(I:Db):H s.heap.objs.size=none:=I.Ay.fresh SL
def Inv.MW(I:Db)(g:H l=some SB):xs.length<=sizeLine/\∃(its:vd) (n:Nat),Vals xs its/\xs.length=its.length/\s.heap.get? l=some { cls:=.type "list",data:=.seq its.toArray n}:=by
 obtain⟨z,its,n,r,e⟩:=I.Ay l _ g;exact⟨z,its,n,r,r.length,e⟩
def U7{n:Nat}(h:n<=sizeLine):Builtin.List.listTooLong n=false:=by
 unfold Builtin.List.listTooLong;exact aV AC
end
section
variable{X:Cx}
def YB:V->List V->Hp->VK->Prop:=fun x vs H Q=>∃l xs y,x=.ref l/\vs=[y]/\H l=some SB/\xs.length<sizeLine/\Q .BS (upd H l (.lst (xs++[y])))
def K3:bw X "list.append" YB:=by
 intro pins s σ H x vs v us Q I T U h;obtain⟨l,xs,y,rfl,rfl,R,Z,q⟩:=h;cases T;obtain⟨u,rfl,Y⟩:=U.one;obtain⟨z,g,n,r,hl,e⟩:=I.MW R;refine call_meets F.slot_list_append ⟨_,e,rfl⟩ F.entry_list_append (F.args_list_append_2 _ _) (PySem.list_append l g.toArray n u (by rw[(Cp)];lia)) ⟨e,?_⟩;refine⟨.BS,_,I.VC (its':=g++[u]) R e A1 (r.append (.cons Y .nil)) ?_,rfl,q⟩;rw[(EB),List.length_singleton]
 lia
def Xm:V->List V->Hp->VK->Prop:=fun x vs H Q=>∃l b xs g,x=.ref l/\vs=[.ref b]/\H l=some SB/\H b=some (.lst g)/\xs.length+g.length<=sizeLine/\Q .BS (upd H l (.lst (xs++g)))
def Zy:bw X "list.extend" Xm:=by
 intro pins s σ H x vs v us Q I Z rv h;obtain⟨l,b,xs,zs,rfl,rfl,Y,hB,hz,q⟩:=h;cases Z;obtain⟨u,rfl,ru⟩:=rv.one;cases ru;obtain⟨z,M,n,r,hl,e⟩:=I.MW Y;obtain⟨z2,g,n2,r2,hl2,e2⟩:=I.MW hB;have T:M.toArray.size+g.toArray.size<=sizeLine:=by rw[(Cp),(Cp)];lia
 have R:¬(!M.toArray.isEmpty&&Builtin.List.listTooLong (M.toArray.size+g.toArray.size))=true:=by
  rw[U7 T,Bool.and_false];exact aL
 refine call_meets F.slot_list_extend ⟨_,e,rfl⟩ F.entry_list_extend (F.args_list_extend_2 _ _)
  (AutoSeq1.list_extend_list_list_0 l M.toArray n b g.toArray n2 R (by rw[(Cp)];lia) AC) ⟨e,e2,?_⟩
 refine⟨.BS,_,I.VC (its':=M++g) Y e A1 (r.append r2) ?_,rfl,q⟩;rw[(EB)]
 lia
def dD:V->List V->Hp->VK->Prop:=fun x vs H Q=>∃l xs i k y,x=.ref l/\vs=[.int i]/\H l=some SB/\-(2^63)<=i/\i<2^63/\seqIndex? i xs.length=some k/\xs[k]? = some y/\Q y (upd H l (.lst (xs.eraseIdx k)))
def fk:bw X "list.pop" dD:=by
 intro pins s σ H x vs v us Q I U Y h;obtain⟨l,xs,i,k,y,rfl,rfl,T,h1,h2,hk,hy,q⟩:=h;cases U;obtain⟨u,rfl,Z⟩:=Y.one;obtain⟨t,rfl⟩:=Z;obtain⟨z,g,n,r,hl,e⟩:=I.MW T;obtain⟨w,hw,M⟩:=r.get hy;refine call_meets F.slot_list_pop ⟨_,e,rfl⟩ F.entry_list_pop (F.args_list_pop_2 _ _)
  (MeetsSeq.list_pop_at l g.toArray n i t k w (fitsIndex_both h1 h2) (by rw[(Cp),<-hl];exact hk) (by rw[<-(SV)];exact hw) (by rw[(Cp)];lia)) ⟨e,?_⟩
 refine⟨y,_,I.VC (its':=g.eraseIdx k) T e ?_ (r.eraseIdx k) ?_,M,q⟩
 .show g.toArray.eraseIdxIfInBounds k=(g.eraseIdx k).toArray;rw[List.eraseIdxIfInBounds_toArray]
 .have:=Ti xs k
  lia
def cV:V->List V->Hp->VK->Prop:=fun x vs H Q=>∃l xs,x=.ref l/\vs=[]/\H l=some SB/\Q .BS (upd H l v3)
def gy:bw X "list.clear" cV:=by
 intro pins s σ H x vs v us Q I U Y h;obtain⟨l,xs,rfl,rfl,T,q⟩:=h;cases U;have M:=Y.zero;subst M;obtain⟨z,g,n,r,Z,e⟩:=I.MW T;refine call_meets F.slot_list_clear ⟨_,e,rfl⟩ F.entry_list_clear (F.args_list_clear_1 _) (AutoSeq1.list_clear_list_0 l g.toArray n (by rw[(Cp)];lia)) ⟨e,?_⟩;exact⟨.BS,_,I.VC (its':=[]) (ys:=[]) T e rfl .nil (aW _),rfl,q⟩
def uP:R2:=fun x y H Q=>∃l b xs g,x=.ref l/\y=.ref b/\H l=some SB/\H b=some (.lst g)/\xs.length+g.length<=sizeLine/\∀p,H p=none->Q yI (upd H p (.lst (xs++g)))
def qg:DC X xY uP:=by
 intro pins s σ H x y v u Q I T R h;obtain⟨l,b,xs,zs,rfl,rfl,Z,hB,hz,q⟩:=h;cases T;cases R;obtain⟨z,M,n,r,hl,e⟩:=I.MW Z;obtain⟨z2,g,n2,U,Y,e2⟩:=I.MW hB;refine PySem.P.add_list e e2 ?_ (by rw[(Cp),(Cp)];lia);have ea:M.toArray++g.toArray=(M++g).toArray:=by simp
 rw[ea];exact⟨.ref _,_,I.nt (t':=s.toks) (r.append U) (by rw[(EB)];lia),rfl,q _ I.fresh⟩
def ud:R2:=fun x y H Q=>∃l k xs,x=.ref l/\y=.int k/\H l=some SB/\-(2^63)<=k/\k<2^63/\xs.length*k.toNat<=sizeLine /\
 ∀p,H p=none->Q yI (upd H p (.lst (List.replicate k.toNat xs).flatten))
def len_rep{α:Type}(xs:wq)(k:Nat):(List.replicate k xs).flatten.length=k*xs.length:=by
 induction k with
 |zero=>simp
 |succ k g=>rw[(HP),(Hm),(EB),g,Nat.succ_mul,Nat.add_comm]
def Z8:DC X xw ud:=by
 intro pins s σ H x y v u Q I rx ry h;obtain⟨l,k,xs,rfl,rfl,hH,h1,h2,hz,q⟩:=h;cases rx;obtain⟨t,rfl⟩:=ry;obtain⟨z,g,n,r,hl,e⟩:=I.MW hH;have Y:g.toArray.size*k.toNat<=sizeLine:=by rw[(Cp),<-hl];exact hz
 have hcap:¬g.toArray.size*k.toNat > (2^63-1) / 8:=by
  have:(sizeLine:Nat)<=(2^63-1) / 8:=by decide
  lia
 have Z:¬(!Builtin.List.listFitsIndex k)=true:=by
  rw[fitsIndex_both h1 h2];exact aL
 have M:¬Builtin.List.listTooLong (g.toArray.size*k.toNat)=true:=by
  rw[U7 Y];exact aL
 have R:List.foldl (fun x1 x2=>x1++x2) #[] (List.replicate (if g.toArray.isEmpty=true then 0 else k.toNat) g.toArray)=(List.replicate k.toNat g).flatten.toArray:=by
  have f0:∀m:Nat,List.foldl (fun x1 x2=>x1++x2) #[] (List.replicate m g.toArray)=(List.replicate m g).flatten.toArray:=fun m=>by
   have:=foldl_rep g m [];rw[List.nil_append]at this;exact this
  rw[f0];cases g with
  |nil=>simp
  |cons a r'=>rw[if_neg A1]
 refine wpAny_binaryOp_repeat_ref (T := "list") (U := "int") AS ⟨_,e,rfl⟩ (fun s'=>typeIs_int s' k t) noFill_list_mul F.fills_int_mul F.slot_int_rmul repeat_list F.slot_int_index.lookup
  (call_meets F.slot_int_rmul (typeIs_int s k t) F.entry_int_rmul (F.args_int_rmul_2 _ _) (int___rmul___int_list k t l g.toArray n)
   ⟨e,rfl,⟨_,e,rfl⟩,call_meets F.slot_list_mul ⟨_,e,rfl⟩ F.entry_list_mul (F.args_list_mul_2 _ _) (AutoListH.list___mul___list_int_3 l g.toArray n k t Z hcap M) ⟨e,?_⟩⟩)
 rw[R];exact⟨.ref _,_,I.nt (t':=s.toks) (r.rep k.toNat) (by rw[len_rep,Nat.mul_comm];exact hz),rfl,q _ I.fresh⟩
end
end L2
namespace Att
open PySem PySem.W PySem.Calls PyProof.Rows
def RK{P:Params}{h:Heap}:∀(ns:vj) (vs:vd),WellAll P h vs (ns.map WData.int)->IntsAre vs ns:=by
 intro ns
 induction ns with
 |nil=>
  intro vs w;rw[List.map_nil]at w;cases w;exact .nil
 |cons n ns g=>
  intro vs w;rw[xf]at w;cases w with
  |cons a b=>
   cases a;exact .cons _ _ (g _ b)
def dc{l:OpenLaw}{n:Nat}(hn:l.most=some n){P:Params}{h:Heap}{args:List WData}{vals:vd} (g:l.row.toRowW.claim.pre args=true)(U:WellAll P h vals args):∃a vs ns,vals=[Value.ref a]/\args=[WData.list (ns.map WData.int)]/\h.get? a=some { cls:=.type "list",data:=.seq vs.toArray}/\IntsAre vs ns/\ns.length<=n:=by
 have Y:WShape.hasAll [] args [.list .int]=true:=(pre_splitW g).1;have Z:l.pre.holds [] { args:=args}=true:=(pre_splitW g).2;obtain⟨d,r,rfl,h1,h2⟩:=hasAllW_cons Y;obtain rfl:=hasAllW_nil h2;obtain⟨xs,rfl,h3⟩:=hasW_list h1;obtain⟨ns,rfl⟩:=items_int h3;have I:ns.length<=n:=by
  unfold OpenLaw.pre at Z;have T:(WTm.not (.lt (.lit (.int (n:Int))) (.len (.arg 0)))).holds [] { args:=[.list (ns.map .int)]}=true:=by
   have T:=(holds_andW Z).1;rw[hn]at T;exact T
  have R:=condW_of T (w_not (w_lt w_lit (w_len_list (w_arg rfl))));rw[wk]at R;refine Nat.le_of_not_lt fun q=>?_;have q':(n:Int)<((ns.length:Nat):Int):=by lia
  first
   |(rw[decide_eq_true q']at R;exact absurd R AS)
   |(simp at R;lia)
 cases U with
 |cons w1 w2=>
  cases w2;cases w1 with
  |list ho M=>exact⟨_,_,ns,rfl,rfl,ho,RK ns _ M,I⟩
def b7(l:OpenLaw)(args:List WData):l.row.toRowW.claim.post args XV args=true :=
 postW_of (r:=l.row.toRowW) (X:=(true==true))
  (show WShape.has [] XV .bool=true by first|rfl|decide|simp[WShape.has,WShape.arms,WShape.armsAll])
  (show(WTm.eq .res (.lit XV)).value [] { args:=args,res:=some XV,after:=args}=some (.bool (true==true)) from w_eq_bool (w_res rfl) w_lit) rfl
end Att
namespace L2
open PySem PySem.Spec PyProof.Rows
theorem S8:∀ {vs:S0} {ns:mo},IntsAre vs ns->Vals wC vs
 |_,_,.nil=>.nil
 |_,_,.cons n t h=>.cons ⟨t,rfl⟩ (S8 h)
abbrev A4:Gh:=fun _ _ _ _ _ _=>False
abbrev E0:XK:=fun _ _ _=>False
def i8{X:Cx}:Passes A4 X E0:=fun _ _ _ _ _ _ _ h=>h.elim
structure M8(K:Fg)(x qual:Str)(st:Stmt)(f:Addr)(fd:FuncData):Prop where
 ex:∃(oc:Value) (od:Option Addr) (kV doc pm:Value) (an:Option Addr) (cdv ct:Value) (osl:Array (Option Value)),
  fd=PySem.W.fnOf x qual (GI st) (Cg st) vy .none kV doc pm an cdv ct/\K.lookup f=some ⟨oc,od,.func fd,osl⟩/\PySem.W.codeIn K cdv qual=true
 kp:PySem.W.keepIn K zU=true
section
variable{P:F0b}{w:F0c}{K:Fg}{mg:vf}{base:Heap}
def M8.ok{x qual:Str}{st:Stmt}{f:AD}{fd:F0a}{N ps:vo}{k:Nat}{sp:Sp}(F:M8 K x qual st f fd)(S:Ap N ps vy)(len:To) (g:∀(cdv:VL) (A:F0d) (outer:v7) (s:SD) (H:Hp) (vs:vx) (Q:VK) (E:XK),CM k (A.deeper (envOfC qual vy s.heap.objs.size f cdv))->sp vs H Q E ->∃t,HY (CJ A4 P w K mg base N qual vy f cdv A outer s H E).EN (Cg st) t/\t { nx:=fun _ H'=>Q .BS H',rt:=Q} xD H):Ah P w K mg base A4 ii f fd ps sp:=by
 obtain⟨oc,od,kV,doc,pm,an,cdv,ct,osl,rfl,lk,I⟩:=F.ex;refine jE lk I S len fun A outer s H vs Q E M l=>?_;obtain⟨t,h,q⟩:=g cdv A outer s H vs Q E M l;exact⟨t,h.EN,q⟩
def M8.binds{x qual:Str}{st:Stmt}{f:AD}{fd:F0a}{ps:vo}(F:M8 K x qual st f fd) (h:∀(kV doc pm:VL) (an:Option AD) (cdv ct:VL) (us:vd),us.length=ps.length->bindArgs t7 ⟨us,[]⟩=pure (ps.zip us)):Binds K fd ps []:=by
 obtain⟨oc,od,kV,doc,pm,an,cdv,ct,osl,rfl,lk,g⟩:=F.ex;exact .all (h kV doc pm an cdv ct)
def fI{x qual:Str}{st:Stmt}{f:AD}{oc:VL}{od an:Option AD}{osl:Array (Option VL)}{kV doc pm cdv ct:VL}(l:K.lookup f=some ⟨oc,od,.func t7,osl⟩) (c:PySem.W.codeIn K cdv qual=true)(k:PySem.W.keepIn K zU=true):M8 K x qual st f t7:=⟨⟨oc,od,kV,doc,pm,an,cdv,ct,osl,rfl,l,c⟩,k⟩
end
def TY{n:Nat}(h:n<=1000):n<sizeLine:=bS h AS
section
variable{X:Cx}
def pv(i:Nat){x:Str}{pos:Pos}(I:X.N[i]? = some x:=by rfl)(l:oQ X.env.scope x:=by first|exact Or.inl rfl|exact Or.inr Do|exact Or.inr (Or.inr rfl))(hd:GE=false:=by decide) (g:(x==("__classdict__" : Str))=false:=by decide):PE X wX (DV i):=Wf I l hd g
end
def SG{A B:Prop}(h:B):if false=true then A else B:=by
 rw[if_neg aL];exact h
def Jb{A B:Prop}(h:A):if true=true then A else B:=by
 rw[if_pos rfl];exact h
def FQ{c A B:Prop}[Decidable c](l:c->A)(g:¬c->B):if c then A else B:=by
 by_cases h:c
 .rw[if_pos h];exact l h
 .rw[if_neg h];exact g h
def AY(H H':Hp):Prop:=∀b o,H b=some o->H' b=some o
def AY.refl(H:Hp):AY H H:=fun _ _ h=>h
def AY.trans{H l g:Hp}(a:AY H l)(b:AY l g):AY H g:=fun c o h=>b c o (a c o h)
section
variable{X:Cx}
def ZC(i j:Int):Prop:=∃m:Nat,m<=1000000/\i.natAbs<2^m/\j.natAbs<2^m
def ZC.ok{i j:Int}(h:ZC i j):IntMulOk i j:=by
 obtain⟨m,hm,l,g⟩:=h;exact IntMulOk.of_le (intBits_le_iff.mpr l) (intBits_le_iff.mpr g) AC
def lX:DC X xw (rI (fun i j=>fZ i j\/ZC i j) fun i j=>.int (i*j)) :=
 jY fun _ _ _ _ _ _ _ g q=>mul_int q (g.elim (fun z=>z.ok) fun z=>z.ok)
def tP(_i j:Int):Prop:=j≠0/\∃m:Nat,m<=9000/\j.natAbs<2^m
def QI:DC X (binaryOp .FloorDiv) (rI tP fun i j=>.int (i.fdiv j)):=jY fun i j _ _ _ _ _ l q=>by
 obtain⟨h0,m,hm,I⟩:=l;refine floordiv_int h0 q (.inl (PyProof.noPylong_of_log2 ?_));have g:j.natAbs≠0:=by lia
 have:j.natAbs.log2<m:=(Nat.log2_lt g).mpr I
 lia
mutual
def Br(K:Fg)(H:Hp):PD->V->Prop
 |.none,v=>v=.BS
 |.bool b,v=>v=.bl b
 |.int i,v=>v=.int i
 |.str x,v=>v=.str x
 |.tuple ds,v=>∃a xs,v=.ref a/\B2 K H a xs/\GN K H ds xs
 |.list ds,v=>∃a xs,v=.ref a/\BR K H a xs/\GN K H ds xs
 |.dict _,_=>False
def GN(K:Fg)(H:Hp):List PD->List V->Prop
 |[],xs=>xs=[]
 |d::ds,xs=>∃x r,xs=x::r/\Br K H d x/\GN K H ds r
end
mutual
theorem Br.reads{pins:Cl}{σ:St}{H:Hp}{s:SD}(I:Db):∀ {d:PD} {v:V} {u:VL},Br X.K H d v->RelV v u->∃as,Reads s.heap u d as
 |.none,_,u,h,r=>by rw[Br]at h;subst h;cases r;exact⟨_,.none⟩
 |.bool b,_,u,h,r=>by rw[Br]at h;subst h;cases r;exact⟨_,.bool b⟩
 |.int i,_,u,h,r=>by rw[Br]at h;subst h;obtain⟨t,rfl⟩:=r;exact⟨_,.int i t⟩
 |.str x,_,u,h,r=>by rw[Br]at h;subst h;obtain⟨t,rfl⟩:=r;exact⟨_,.str x t⟩
 |.tuple ds,_,u,h,r=>by
  rw[Br]at h;obtain⟨a,xs,U,T,R⟩:=h;subst U;cases r;obtain⟨M,g,⟨o,e,c,n,hd⟩,_⟩:=I.tuple T;obtain⟨as,l⟩:=GN.reads I R g;exact⟨_,.tuple e c hd oF⟩
 |.list ds,_,u,h,r=>by
  rw[Br]at h;obtain⟨a,xs,U,T,R⟩:=h;subst U;cases r;obtain⟨M,g,⟨o,n,e,c,_,hd⟩,_⟩:=I.list T;obtain⟨as,l⟩:=GN.reads I R g;exact⟨_,.list e c hd oF⟩
 |.dict _,_,_,h,_=>by rw[Br]at h;exact h.elim
theorem GN.reads{pins:Cl}{σ:St}{H:Hp}{s:SD}(I:Db):∀ {ds:wV} {xs:UF} {us:S0},GN X.K H ds xs->Vals xs us->∃as,ReadsAll s.heap us ds as
 |[],_,us,h,r=>by rw[GN]at h;subst h;cases r;exact⟨_,.nil⟩
 |_::_,_,us,h,r=>by
  rw[GN]at h;obtain⟨x,q,Y,U,T⟩:=h;subst Y;cases r with
  |cons R M=>
   obtain⟨as,l⟩:=Br.reads I U R;obtain⟨bs,g⟩:=GN.reads I T M;exact⟨_,.cons l g⟩
end
def iT(K:Fg)(neg:Bool):R2:=fun x y H Q=>∃d e,Br K H d x/\Br K H e y/\SeqAt.shaped d=true/\SeqAt.shaped e=true/\Q (.bl (if neg then !PyData.eqv d e else PyData.eqv d e)) H
def pf(T:ZB):DC X (compareOp .Eq) (iT X.K false):=by
 intro pins s σ H x y v u Q I l g h;obtain⟨d,e,Y,U,s1,s2,q⟩:=h;obtain⟨as,R⟩:=Br.reads I Y l;obtain⟨bs,M⟩:=Br.reads I U g;exact eq_dataH R M s1 s2 T ⟨.bl _,H,I,rfl,q⟩
def nr(T:ZB):DC X (compareOp .NotEq) (iT X.K true):=by
 intro pins s σ H x y v u Q I l g h;obtain⟨d,e,Y,U,s1,s2,q⟩:=h;obtain⟨as,R⟩:=Br.reads I Y l;obtain⟨bs,M⟩:=Br.reads I U g;exact ne_dataH R M s1 s2 T ⟨.bl _,H,I,rfl,q⟩
end
def II(X:Cx)(g:vp)(t:TT):Prop :=
 ∀(pins:Cl) (s:SD) (σ:St) (H:Hp) (Q:xO),Inv X pins σ H s->t σ H Q ->
  wpAny AT X.A (forIn g true fun c r=>if r=true then do let ok <-isTrue c X.env (eval c X.env);pure (ForInStep.yield ok) else pure (ForInStep.yield r)) (TP X pins σ Q) X.xe s
def rT:TT:=fun _ H Q=>Q true H
def lU{X:Cx}:II X [] rT:=fun _ _ σ H _ I h=>wpAny_tests_nil ⟨H,I,h⟩
def mv{X:Cx}{c:Expr}{t:TT}(h:PT X c t):II X [c] t:=by
 intro pins s σ H Q I g;simp only[List.forIn_cons,List.forIn_nil,if_true];refine Wb (Wb (A2 (h pins s σ H Q I g) fun b s1 q=>?_));exact aB (aB q)
def Dj(N l:N1)(sc g:yB):List (Option Nat)->Nat->Bool
 |[],_=>true
 |none::r,i=>Dj N l sc g r Pi
 |some j::r,i=>(match N[i]?,l[j]? with
   |some n,some m=>n==m&&sc.names.lookup n==some .free&&g.names.lookup n==some .cell
   |_,_=>false)&&Dj N l sc g r Pi
theorem Mq{N M:N1}{sc g:yB}:∀ {fr:List (Option Nat)} {k:Nat},Dj N M sc g fr k=true->∀ {i j:Nat},fr[i]? = some (some j) ->
  ∃n,N[k+i]? = some n/\M[j]? = some n/\sc.names.lookup n=some .free/\g.names.lookup n=some .cell
 |[],_,_,i,j,e=>by simp at e
 |none::r,k,h,0,j,e=>by simp at e
 |none::r,k,h,i+1,j,e=>by
  have q:=Mq (fr:=r) (k:=k+1) h (i:=i) (j:=j) w4;have z:k+Pi=k+1+i:=by lia
  rw[z];exact q
 |some I::r,k,h,0,j,e=>by
  have U:I=j:=by simpa using e
  subst U;rw[Dj,(Ft)]at h;have l:=h.1;split at l
  .rename_i n m hn hm;simp only[Bool.and_eq_true,beq_iff_eq]at l;obtain⟨⟨rfl,T⟩,R⟩:=l;exact⟨n,by simpa using hn,hm,T,R⟩
  .cases l
 |some I::r,k,h,i+1,j,e=>by
  rw[Dj,(Ft)]at h;have q:=Mq (fr:=r) (k:=k+1) h.2 (i:=i) (j:=j) w4;have z:k+Pi=k+1+i:=by lia
  rw[z];exact q
def carry(fr:v8)(σ:St):St:=fr.map fun o=>match o with
 |some j=>(σ[j]?).join
 |none=>none
def TM{fr:v8}{σ:St}{i:Nat}{v:V}(h:(carry fr σ)[i]? = some tz):∃j,fr[i]? = some (some j)/\σ[j]? = some tz:=by
 unfold carry at h;rw[xZ]at h;cases e:fr[i]? with
 |none=>rw[e]at h;cases h
 |some o=>
  rw[e]at h;cases o with
  |none=>simp at h
  |some j=>
   refine⟨j,rfl,?_⟩;simp only[Option.map_some,Option.some.injEq]at h;cases q:σ[j]? with
   |none=>rw[q]at h;cases h
   |some w=>rw[q]at h;simp at h;rw[h]
theorem FR{env:Env}:∀(names:List (Str×NameKind)) (cs:y9),(∀x∈names,x.2=NameKind.free->∃c,env.cells.lookup x.1=some c)->(∀x c,cs.lookup x=some c->env.cells.lookup x=some c) ->
  ∃cl,(forIn names cs (fun(x:Str×NameKind) (r:List (Str×AD))=>do if(x.2==NameKind.free)=true then do let a <-cellOf env x.1;pure (ForInStep.yield ((x.1,a)::r)) else pure (ForInStep.yield r)):Sem (List (Str×AD)))=pure cl /\
   (∀x c,cl.lookup x=some c->env.cells.lookup x=some c)/\(∀x,(∃c,cs.lookup x=some c)->∃c,cl.lookup x=some c)/\∀x∈names,x.2=NameKind.free->∃c,cl.lookup x.1=some c
 |[],cs,_,T=>⟨cs,rfl,T,fun _ q=>q,fun _ z=>(by cases z)⟩
 |(n,k)::r,cs,h1,T=>by
  rw[List.forIn_cons];by_cases M:(k==NameKind.free)=true
  .obtain⟨c,hc⟩:=h1 (n,k) bK (by simpa using M);have h2':∀x l,((n,c)::cs).lookup x=some l->env.cells.lookup x=some l:=fun x l e=>by
    rw[(Ni)]at e;cases g:x==n with
    |true=>rw[g]at e;have:=bG.mp g;subst this;simp at e;rw[<-e];exact hc
    |false=>rw[g]at e;exact T x l e
   obtain⟨cl,Z,Y,I,U⟩:=FR r ((n,c)::cs) (fun x g=>h1 x (aT _ g)) h2';have hn:∃l,cl.lookup n=some l:=I n ⟨c,by rw[(Ni),beq_self_eq_true]⟩;refine⟨cl,?_,Y,fun x g=>?_,fun x g R=>?_⟩
   .simp only[M,if_true];unfold cellOf;rw[hc];exact Z
   .refine I x ?_;rw[(Ni)];cases hxn:x==n with
    |true=>exact⟨c,rfl⟩
    |false=>exact g
   .rcases aI.mp g with e|g
    .subst e;exact hn
    .exact U x g R
  .obtain⟨cl,Z,Y,I,U⟩:=FR r cs (fun x g=>h1 x (aT _ g)) T;refine⟨cl,?_,Y,I,fun x g R=>?_⟩
   .simp only[M];exact Z
   .rcases aI.mp g with e|g
    .subst e;exact absurd (by simpa using R) M
    .exact U x g R
def Ag(X:Cx)(scope:yB)(cl:y9)(N:vo)(C:AD)(s₀:SD)(H₀:Hp)(fp:vz):Cx where
 prog:=X.prog
 w:=X.w
 K:=X.K
 mg:=X.mg
 base:=X.base
 A:=X.A
 N:=N
 s₀:=s₀
 H₀:=H₀
 env:=compEnvC scope cl C X.env
 outer:=X.stack
 stack:=X.stack
 ex:=fp
 fn:=fun _=>false
 calm:=X.calm
 pn:=[]
 xe:=fun _ _=>False
def Hi(T:TI)(fr:v8)(ix:Nat)(l:TT)(U:TE):TE:=fun σ H Q=>T σ H fun J R=>∀D,R D=none->∃W:Nat->Nat->List V->Hp->Prop,(∃m,W 0 m [] (upd R D v3)) /\
 ∀i m ys H,W i m ys H->H D=some KM/\((J.stop i H/\Q (.ref D) H)\/(J.go i H/\ys.length<sizeLine/\∀x H',J.FE i H x H' ->
  l zBB H' fun b M=>if b=true then U zBB M fun y I=>I D=some KM/\∃g,g<m/\W Pi g (ys++[y]) (upd I D zBL)
   else ∃g,g<m/\W Pi g ys M))
structure Cr(scope:yB)(N:N1)(x:Str)(ix:Nat):Prop where
 kind:scope.kind=.function
 cell:∀y∈scope.names,y.2≠.cell
 names:∀y∈scope.names,y.2=.local->scope.names.lookup y.1=some .local
 free:∀y∈scope.names,y.2=.free->scope.names.lookup y.1=some .free
 loc:scope.names.lookup x=some .local
 nd:N.Nodup
 at_:N[ix]? = some x
def lookup_mem{names:List (Str×NameKind)}{n:Str}{k:NameKind}:names.lookup n=some k->(n,k)∈names:=by
 induction names with
 |nil=>intro h;cases h
 |cons y r g=>
  intro h;obtain⟨m,j⟩:=y;rw[(Ni)]at h;cases e:n==m with
  |true=>rw[e]at h;have:=bG.mp e;subst this;simp at h;subst h;exact bK
  |false=>rw[e]at h;exact aT _ (g h)
def Nz{scope:yB}{env:Env}(U:∀y∈scope.names,y.2≠.cell){n:Str}(h:(relabel scope env).names.lookup n=some .cell\/(relabel scope env).names.lookup n=some .free):∃k,(n,k)∈scope.names/\k=NameKind.free:=by
 have key:∀l,(relabel scope env).names.lookup n=some l->(l=.cell\/l=.free)->∃k,(n,k)∈scope.names/\k=NameKind.free:=fun l h T=>by
  have hm:=lookup_mem h;unfold relabel at hm;obtain⟨⟨m,k⟩,I,e⟩:=aN.mp hm;dsimp only at e;by_cases g:(k==NameKind.free&&env.scope.kind==.function&&env.kindOf m==some .cell)=true
  .rw[if_pos g]at e
   injection e with M R
   subst M;refine⟨k,I,?_⟩;simp only[Bool.and_eq_true,beq_iff_eq]at g;exact g.1.1
  .rw[if_neg g]at e
   injection e with M R
   subst M R;rcases T with rfl|rfl
   .exact absurd rfl (U _ I)
   .exact⟨_,I,rfl⟩
 rcases h with h|h
 .exact key _ h bv
 .exact key _ h (.inr rfl)
section
variable{X:Cx}{elt iter:Expr}{x:Str}{px pos:Pos}{ifs:vp}{scope:yB}{wi:TI}{fr:v8}{ix:Nat}{tif:TT}{te:TE}{N:vo}
def Ku{prog:F0b}{w:F0c}{A:F0d}{R:iN}{s:SD}{elt target iter:Expr}{ifs:vp}{scope:yB}{pos:Pos}{it acc:VL}{env:Env}(I:Nat->SD->Prop)
 (turn:∀n s,I n s->wpAny By A (pyNext it) (fun r g=>match r with
   |none=>R (.ok .next) g
   |some v=>wpAny By A (letOwnedTupleGo target it v>>=fun _=>assign target env v) (fun _ U=>
     wpAny By A wD (fun ok l=>
      if ok=true then wpAny By A (eval elt env) (fun x T=>
       wpAny By A (call (.builtin "list.append") [acc,x]) (fun _ M=>∃m,m<n/\I m M) zAl T) zAl l
      else ∃m,m<n/\I m l) zAl U) zAl g) zAl s)
 (n:Nat)(h:I n s) :
  codeAny By A (.compLoop mu 0 it acc env) R s:=by
 refine codeAny_loop rfl I (fun n s hI=>?_) n h;show wpAny _ A zBc _ _ s;refine wpAny_noted ?_;rw[compTurn_list];refine Wb (ah (Wb (aM (turn n s hI) (fun r g Z=>?_) fun _ _ h'=>h')));cases r with
 |none=>exact aB Z
 |some v=>
  show wpAny By A (letOwnedTupleGo target it v>>=fun _=>assign target env v>>=_) _ _ g;rw[<-bind_assoc];refine Wb (aM Z (fun _ U h₂=>Wb (aM h₂ (fun ok l Y=>?_) fun _ _ h'=>h')) fun _ _ h'=>h');cases ok with
  |false=>exact aB ⟨rfl,Y⟩
  |true=>
   exact Wb (Wb (aM Y (fun x T h₄=>Wb (aM h₄ (fun _ M h₅=>aB (aB ⟨rfl,h₅⟩)) fun _ _ h'=>h')) fun _ _ h'=>h'))
def Pb{pins:Cl}{σ:St}{R:Hp}{s2:SD}{Q:VK}{it:AD}{fp:vz}{tn:yL}{J:It}{cl:y9}{E:ve}{RR:yZ} (S:wh)(hcalm:dO){tgE:Expr}{g:TG}(Rv:St->Prop)(r0:Rv (carry fr σ))(hpg:∀C,PG (Ag X scope cl N C s2 R fp) tgE g)(hfr:RG)(hlen:xF) (hif:zAk)(he:zAn) (M:Inv X pins σ R s2)(T:Turn X.prog X.w X.K tgE J fp it tn)(st2:tn 0 s2.heap)(f2:∀b∈fp,HB X pins R b) (c1:UV)(c2:PV) (W:IS) (fin:Da):wpAny AT X.A (newList []) (fun acc s₃=>wpAny AT X.A NR (fun cenv s₄ => codeAny AT X.A (.compStart t9 0 rs acc rc) zAD s₄) E s₃) E s2:=by
 refine aY zJ;dsimp only at Y I ⊢;generalize hHp:s2.heap.push { cls:=.type "list",dict:=none,data:=.seq ([]:List VL).toArray}=U at Y I ⊢;have hC:U.objs.size=s2.heap.objs.size+1:=by rw[<-hHp,Heap.size_push]
 have hDC:s2.heap.objs.size≠U.objs.size:=by rw[hC];exact aP (Nat.lt_succ_self _)
 have below:∀b,b<s2.heap.objs.size->b≠U.objs.size/\b≠s2.heap.objs.size:=fun b l=>⟨by rw[hC];exact aP (Nat.lt_succ_of_lt l),Nat.ne_of_lt l⟩;have old:∀b o,s2.heap.get? b=some o->h₁.get? b=some o:=fun b o e=>I.extBut b o (below b wU).1 (aD _ (hHp ▸ aD _ e));have hacc:h₁.get? s2.heap.objs.size=some { cls:=.type "list",data:=.seq ([]:List VL).toArray}:=I.extBut _ _ hDC (aD _ (hHp ▸ aa _ rfl));have hD2:R s2.heap.objs.size=none:=M.Ay.fresh SL;have hC2:R U.objs.size=none:=M.Ay.fresh yX;have fpo:∀b∈fp,b<s2.heap.objs.size:=fun b l=>by
  obtain⟨o,e,_⟩:=T.obj _ _ st2 b l;exact aE e
 obtain⟨W,⟨m0,w0⟩,turn⟩:=W s2.heap.objs.size hD2;have ok:(Ag X scope cl N U.objs.size s2 R fp).Ok:=by
  refine⟨M.ok.mod,S.kind,M.ok.glob,M.ok.blt,by show s2.heap.objs.size<=U.objs.size;rw[hC];exact Nat.le_succ _,?_,?_,?_,fun _=>M.ok.hd hcalm,M.ok.frames,.inl rfl,?_,M.bs,Nat.le_trans M.ok.OH M.sz,?_,?_,M.stack,M.L3,M.kt⟩
  .exact fun a b c h1 h2=>M.ok.inj a b c (c1 _ _ h1) (c1 _ _ h2)
  .intro y hy;obtain⟨k,hm,rfl⟩:=Nz S.cell hy;exact c2 _ hm rfl
  .intro y c hf;cases hf
  .intro b l;refine⟨(below b (fpo b l)).1,fun y c e=>?_⟩;obtain⟨_,_,_,_,f5,_⟩:=f2 b l;exact f5 y c (c1 _ _ e)
  .intro b o e l;obtain⟨_,_,_,f4,_,_⟩:=f2 b l;rcases f4 with z|z
   .exact M.ok.Qa b o e z
   .exact absurd (aJ wU (aK M.ok.OH z)) yG
  .intro b l hs;obtain⟨_,f1,f3,_⟩:=f2 b l;rcases aI.mp (M.MP b hs) with z|z
   .exact f1 z
   .exact f3 z
 have I4:Inv IN [] (carry fr σ) (upd R s2.heap.objs.size v3) {s2 with heap:=h₁,toks:=s2.toks+([]:List (Str×VL)).length}:=by
  refine⟨ok,rfl,M.bare,Un.laid old SL hD2,⟨_,Y,fun i y v h1 h2 h3=>?_⟩,fun y c e=>?_,?_,fun y c e=>?_,fun p hp=>(by cases hp),M.Ay.laid old SL ⟨aW _,[],0,.nil,hacc⟩,?_⟩
  .obtain⟨j,e1,e2⟩:=TM h2;obtain⟨n,n1,n2,n3,n4⟩:=Mq hfr e1;rw[Nat.zero_add]at n1;have:y=n:=by
    have h1':N[i]? = some y:=h1;rw[h1']at n1;exact aQ n1
   subst this;obtain⟨m,hn,hl⟩:=M.loc;obtain⟨u,ru,lk⟩:=hl j y v n2 e2 (.inr (.inl n4));refine⟨u,ru,?_⟩;obtain⟨c,hc⟩:=c2 _ (lookup_mem n3) rfl;rcases lk with ⟨k1,_⟩|⟨_,c',hc',hcell⟩
   .have k1':X.env.scope.names.lookup y=some .local:=k1;rw[n4]at k1';cases k1'
   .have:=c1 _ _ hc;rw[hc']at this;cases this;refine .inr ⟨?_,c,hc,hcell.keeps old⟩;rcases h3 with z|z|z
    .obtain⟨k,hm⟩:∃k,(y,k)∈scope.names/\k=NameKind.local:=by
      have hm:=lookup_mem z;have hm':(y,NameKind.local)∈(relabel scope X.env).names:=hm;unfold relabel at hm';obtain⟨⟨m',k⟩,hy,e⟩:=aN.mp hm';dsimp only at e;by_cases hcond:zx=true
      .rw[if_pos hcond]at e;injection e with _ e2';cases e2'
      .rw[if_neg hcond]at e;injection e with e1' e2';subst e1' e2';exact⟨_,hy,rfl⟩
     obtain⟨hm,rfl⟩:=hm;have:=S.names _ hm rfl;rw[n3]at this;cases this
    .exact .inl z
    .exact .inr z
  .obtain⟨v,z⟩:=M.cell y c (c1 _ _ e);exact⟨v,z.keeps old⟩
  .show upd R s2.heap.objs.size _ U.objs.size=none;rw[Ae (Ne.symm hDC)];exact hC2
  .obtain⟨v,o,ho,_⟩:=M.cell y c (c1 _ _ e);rw[Ae (below c (aE ho)).2];exact M.FK y c (c1 _ _ e)
  .show(carry fr σ).length=N.length;unfold carry;rw[wk];exact hlen
 have fpX:∀(p:Cl) (H':Hp),(∀q∈p,q.1∈fp->False)->(∀b∈fp,H' b=none)->∀b∈fp,HB IN p H' b:=fun p H' hp hn b l=>by
  obtain⟨_,f1,f3,f4,f5,_⟩:=f2 b l;refine⟨hn b l,(below b (fpo b l)).1,fun hs=>ok.P9 b l hs,.inl l,fun y c e=>f5 y c (c1 _ _ e),fun q hq e=>?_⟩;exact hp q hq (e ▸ l)
 have hxv:(relabel scope X.env).names.lookup x=some .local:=bL S.loc;have loop:∀s₃:SD,s₃={s2 with heap:=h₁,toks:=s2.toks+([]:List (Str×VL)).length} ->
   codeAny AT X.A (.compLoop t9 0 rs (.ref s2.heap.objs.size) xV) (RR (.ref s2.heap.objs.size) U.objs.size) s₃:=by
  rintro s₃ rfl;refine Ku zBf ?_ m0
   ⟨0,[],carry fr σ,_,I4,r0,T.keep _ _ _ st2 fun b _ o e=>old b o e,fun b l=>by rw[Ae (below b (fpo b l)).2];exact(f2 b l).1,w0⟩
  rintro n s3 ⟨i,ys,σ3,H3,I3,hσ,st3,fr3,w3⟩;obtain⟨hD3,way⟩:=turn i n ys H3 w3;rcases way with ⟨stop,qn⟩|⟨go,hsz,step⟩
  .refine aM (T.done IN rfl rfl rfl hcalm i [] s3 σ3 H3 sK I3 xW st3 stop) (fun r s4 ⟨hr,I5⟩=>?_) fun _ _ z=>z.elim;subst hr;obtain⟨m,hn,_⟩:=id I5.loc;refine fin _ _ s4 H3 m hn qn (fun h' hs'=>?_) (Ne.symm hDC) (fun b o e=>(below b wU).1) I5.free yX;have nC:∀b u,H3 b=some u->b≠U.objs.size:=fun b u e z=>by
    have:=I5.free;rw[show(Ag X scope cl N U.objs.size s2 R fp).env.locals=U.objs.size from rfl,<-z,e]at this;cases this
   have keepU:Un (Fd X.stack) fp R H3 s2.heap h':=by
    have u:=I5.base;refine⟨fun b o e n l hx=>?_,fun b o e n l hx=>?_,fun b o e n hx=>u.free b o e n hx,fun b o e hx=>?_,u.CP,u.FN,u.F9,fun b xs o q e hx=>(hs'.2 b (below b wU).1).trans (u.Fu b xs o q e hx)⟩
    .exact(hs'.2 b (below b wU).1).trans (u.keep b o e n l hx)
    .obtain⟨sl,e1⟩:=u.slot b o e n l hx;exact⟨sl,(hs'.2 b (below b wU).1).trans e1⟩
    .obtain⟨o',e1⟩:=u.there b o e hx;exact⟨o',(hs'.2 b (below b wU).1).trans e1⟩
   have hok':DN X.prog X.w H3 h':=fun b u e=>(I5.Ay b u e).Hd (fun c v hc q=>(hs'.2 c (by
    rcases hc with rfl|hc
    .exact nC _ _ e
    .exact nC _ _ hc)).trans q) (fun _ q=>q) fun _ _ q=>q
   refine M.Zb (s':={s4 with heap:=h'}) (ch:=fp) I5.os keepU hok' I5.bare fun b l=>?_;obtain⟨_,f1,_,f4,f5,f6⟩:=f2 b l;exact⟨f4,f1,f5,f6⟩
  .refine aM (T.item IN rfl rfl rfl hcalm i [] s3 σ3 H3 sK I3 xW st3 go) (fun r s4 ⟨u,hr,h4⟩=>?_) fun _ _ z=>z.elim;subst hr;show wpAny AT X.A (letOwnedTupleGo tgE rs u>>=fun _=>assign tgE xV u) _ _ s4;refine Wb zAa;have I5':=I5.pinned (fpX [] H5 (fun _ z=>by cases z) fr5) (T.obj _ _ st5);refine aM (hpg _ _ s5 σ3 H5 xv u _ I5' r5 (step xv H5 y5 σ3 hσ)) (fun _ s6 ⟨σ6,H6,I6,rv6,step5⟩=>?_) fun _ _ z=>z.elim;refine aM (hif _ _ _ _ _ _ s6 _ H6 _ I6 step5) (fun b s7 ⟨H7,I7,q7⟩=>?_) fun _ _ z=>z.elim;have again:∀ {s8:SD} {H8:Hp} {k:Nat} {zs:UF},Inv IN ([]++MN fp s5.heap) σ6 H8 s8->W Pi k zs H8->k<n ->
     ∃m,m<n/\∃i ys Z H',Inv IN [] Z H' s8/\Rv Z/\tn i s8.heap/\wj/\W i m ys H':=fun {s8 H8 k zs} I8 w8 hk=>by
    refine⟨k,hk,i+1,zs,_,H8,I8.Kc,rv6,T.keep _ _ _ st5 fun b l o e=>(I8.pin (b,o) (aR _ (aR _ (GP l e)))).1,fun b l=>?_,w8⟩;obtain⟨o,e,d⟩:=T.obj _ _ st5 b l;exact(I8.pin (b,o) (aR _ (aR _ (GP l e)))).2.1
   cases b with
   |false=>
    rw[if_neg aL]at q7 ⊢;obtain⟨k,hk,w7⟩:=q7;exact again I7 w7 hk
   |true=>
    rw[if_pos rfl]at q7 ⊢;refine aM (he _ _ _ _ _ _ s7 _ H7 _ I7 q7) (fun yv s8 ⟨y,H8,I8,r8,hD8,k,hk,w8⟩=>?_) fun _ _ z=>z.elim;refine aM Re (fun _ s9 ⟨_,H9,I9,_,e9⟩=>?_) fun _ _ z=>z.elim;subst e9;exact again I9 w8 hk
 exact codeAny_compStart_list (loop _ rfl) zAA
def RD{pins:Cl}{σ:St}{g:Hp}{s2:SD}{Q:VK}{it:AD}{fp:vz}{tn:yL}{J:It}{cl:y9}{E:ve}{RR:yZ} (S:wh)(l:dO)(hfr:RG)(Z:xF) (hif:zAk)(he:zAn) (I2:Inv X pins σ g s2)(T:Turn X.prog X.w X.K (.Name x px) J fp it tn)(st2:tn 0 s2.heap)(f2:∀b∈fp,HB X pins g b) (c1:UV)(c2:PV) (W:IR) (fin:Da):wpAny AT X.A (newList []) (fun acc R=>wpAny AT X.A NR (fun cenv M => codeAny AT X.A (.compStart B1 0 rs acc rc) zAD M) E R) E s2:=by
 have Y:(relabel scope X.env).names.lookup x=some .local:=bL S.loc;refine Pb S l (fun I=>∀v,I.set ix v=(carry fr σ).set ix v) (fun _=>rfl) zAU hfr Z hif he I2 T st2 f2 c1 c2 (fun D hD=>?_) fin;obtain⟨W,w0,st⟩:=W D hD;refine⟨W,w0,fun i m ys H w=>?_⟩;obtain⟨h1,h2|⟨h2,h3,h4⟩⟩:=st i m ys H w
 .exact⟨h1,.inl h2⟩
 .refine⟨h1,.inr ⟨h2,h3,fun x H' hy I hr=>?_⟩⟩;have:=h4 x H' hy;rw[<-hr]at this;exact⟨fun v=>by rw[List.set_set,hr],this⟩
def mT(S:wh)(R:dO)(hfr:RG)(U:xF)(l:Tm) (hi:i0)(hif:zAk)(he:zAn) (hs:∀x,foldedSetIterable iter X.env x=pure x:=by intro _;rfl):PE X B1 wP:=by
 intro pins s σ H Q I hw;obtain⟨cl,M,c1,_,c2⟩:=FR (env:=X.env) scope.names [] zy (fun y c z=>by cases z);have g:closureFor scope X.env=pure cl:=by
  have e:closureFor scope X.env=IG:=rfl;rw[e,M]
  rfl
 rw[eval_ListComp];refine wpAny_comprehension_free (use:=none) rfl hs g S.kind S.names wQ;obtain⟨it,fp,tn,J,H2,e,I2,T,Y,f2,W⟩:=h2;subst e;refine RD (RR:=fun acc C=>compPost AT X.A X.xe none Ix acc C) S R hfr U hif he I2 T Y f2 c1 c2 W ?_;intro D C s' H' m hn q hI _ _ _ _;exact⟨m,hn,fun h' Z=>⟨.ref D,H',hI h' Z,rfl,q⟩⟩
def ZN{i : Nat}{y : Str}{py spos : Pos}(hN : nn)(hy : X.N[i]? = some y)(hly : X.env.scope.names.lookup y = some .local)(S : wh)(hcalm : X.calm = true)(hfr : Dj N X.N scope X.env.scope fr 0 = true)(hlen : fr.length = N.length) (hfree : wu) (hi : i0)(hif : ∀ cl C s₀ H₀ fp,II BY ifs tif)(he : ∀ cl C s₀ H₀ fp,PE BY elt te) (hsw : swapsWith B1 (some (.Name y py)) spos.line X.env = pure true:=by rfl) (hs : ∀ x,foldedSetIterable iter X.env x = pure x:=by intro _; rfl):PS X (.Assign [.Name y py] B1 spos) (J8 wP (Ef i)):=by
  intro pins s σ H D I hw
  obtain ⟨cl,hclos,c1,_,c2⟩:=FR (env:=X.env) scope.names [] (fun y hy hf => I.ok.has y.1 (hfree y hy hf)) (fun y c z => by cases z)
  have hclos' : closureFor scope X.env = pure cl:=by
    have e : closureFor scope X.env = Op:=rfl
    rw [e,hclos]
    rfl
  rw [exec_Assign_Name_used _ _ _ _ hsw]
  refine Wb (ah (Wb ?_))
  show wpAny _ X.A zBX _ _ s
  refine Wb (aM (wpAny_comprehension_free (use:=some wS) (Q:=fun _ s' => SP X pins D .next s') rfl hs hclos' S.kind S.names
    (A2 (hi pins s σ H _ I hw) fun v s1 h1 => A2 h1 fun itv s2 h2 => ?_)) (fun _ s' hq => aB (aB hq)) fun _ _ e => e)
  obtain ⟨it,fp,tn,J,H2,e,I2,T,st2,f2,W⟩:=h2
  subst e
  refine RD (Q:=fun x H1 => Ef i x σ H1 D.nx) (RR:=fun acc C => compPost AT X.A X.xe (some wS) (fun _ s' => SP X pins D .next s') acc C) S hcalm hfr hlen hif he I2 T st2 f2 c1 c2 W ?_
  intro D' C s' H' m hn q hI hCD hold hfreeC hsz
  have I5 : Inv X pins σ H' s':=hI s'.heap (Heap.SameBut.refl ..)
  refine wpAny_assign_Name yg
  have hL : C≠X.env.locals:=fun z => by
    obtain ⟨_,⟨o,_,_,e,_⟩,_⟩:=I2.loc
    exact hold _ _ e z.symm
  have hcl : ∀ z c,X.env.cells.lookup z = some c->c≠C:=fun z c e => by
    obtain ⟨_,o,ho,_⟩:=I2.cell z c e
    exact hold _ _ ho
  have hCa : C≠a:=by
    rcases ha with z | z
    . rw [z]; exact hL
    . exact Ne.symm (hcl _ _ z)
  refine ⟨m,hn.sameBut hsb hCa,fun h' hs' => ⟨_,H',I6.turned (t':=s''.toks) (it:=C) (fun b o hb e => (hs'.2 b hb).trans e) hfreeC hL (.inr (aK I2.sz hsz)) hcl fun p hp => ?_,q⟩⟩
  obtain ⟨e,_⟩:=I2.pin p hp
  exact hold _ _ e
end
end L2
namespace FM
def gi(a b:Int):Int:=(Int.gcd a b:Int)
def WO(a b:Int):Int.gcd b (a.fmod b)=Int.gcd a b:=by
 have e:a.fmod b=a-b*a.fdiv b:=Int.fmod_def a b;rw[e,Int.gcd_comm a b];exact Int.gcd_sub_mul_left_right b a (a.fdiv b)
def TF(a b:Int)(g:b≠0):(a.fmod b).natAbs<b.natAbs:=by
 rcases Int.lt_or_gt_of_ne g with h|h
 .have M:-(a.fmod b)=(-a).fmod (-b):=by
   rw[Int.fmod_def,Int.fmod_def,Int.neg_fdiv_neg];have:-b*a.fdiv b=-(b*a.fdiv b):=Int.neg_mul _ _
   lia
  have I:=Int.fmod_nonneg_of_pos (-a) (show 0 < -b by lia);have l:=Int.fmod_lt_of_pos (-a) (show 0 < -b by lia)
  lia
 .have I:=Int.fmod_nonneg_of_pos a h;have l:=Int.fmod_lt_of_pos a h
  lia
def Q6{a b:Int}(g:b≠0):0<gi a b:=by
 have:0<Int.gcd a b:=Int.gcd_pos_of_ne_zero_right a g;unfold gi;lia
def rP{a b:Int}(l:b≠0):(gi a b).natAbs<=b.natAbs:=by
 have h:Int.gcd a b ∣ b.natAbs:=by
  have:=Int.gcd_dvd_right a b;exact Int.natAbs_dvd_natAbs.mpr this
 have g:0<b.natAbs:=by lia
 have:=Nat.le_of_dvd g h;unfold gi;lia
def gs(t b:Int):Int:=if b<0 then -gi t b else gi t b
def sf{t b:Int}(g:b≠0):gs t b≠0:=by
 have:=Q6 (a:=t) g;unfold gs;split<;>lia
def su{t b:Int}(g:b≠0):(gs t b).natAbs<=b.natAbs:=by
 have:=rP (a:=t) g;unfold gs;split<;>lia
def Jy{g x k:Int}(l:g≠0)(e:x=g*k):x.fdiv g=k:=by
 subst e;exact Int.mul_fdiv_cancel_left k l
def Wm(a b:Int):gi a b ∣ a:=Int.gcd_dvd_left a b
def WV(a b:Int):gi a b ∣ b:=Int.gcd_dvd_right a b
def ql{t b:Int}(I:b≠0):t.fdiv (gs t b)=(Rat.divInt t b).num:=by
 have M:=Q6 (a:=t) I;obtain⟨k,l⟩:=Wm t b;rw[Rat.num_divInt,Int.gcd_comm b t];show t.fdiv (gs t b)=b.sign*t / gi t b;unfold gs;generalize gi t b=g at M l ⊢;rcases Int.lt_or_gt_of_ne I with h|h
 .rw[if_pos h,Int.sign_eq_neg_one_of_neg h,Jy (k:=-k) AC (by rw[l];simp[Int.mul_neg,Int.neg_mul])];have:-1*t=g*(-k):=by rw[l];simp[Int.mul_neg]
  rw[this,Int.mul_ediv_cancel_left _ AC]
 .rw[if_neg AC,Int.sign_eq_one_of_pos h,Jy (k:=k) AC l,Int.one_mul,l,Int.mul_ediv_cancel_left _ AC]
def qy{t b:Int}(I:b≠0):b.fdiv (gs t b)=((Rat.divInt t b).den:Int):=by
 have M:=Q6 (a:=t) I;obtain⟨k,l⟩:=WV t b;rw[Rat.den_divInt,if_neg I,Int.gcd_comm b t];have e:(((b.natAbs / Int.gcd t b:Nat)):Int)=(b.natAbs:Int) / gi t b:=by unfold gi;simp
 rw[e];unfold gs;generalize gi t b=g at M l ⊢;rcases Int.lt_or_gt_of_ne I with h|h
 .rw[if_pos h,Jy (k:=-k) AC (by rw[Int.neg_mul_neg];exact l)];have:(b.natAbs:Int)=g*(-k):=by rw[Int.mul_neg,<-l];lia
  rw[this,Int.mul_ediv_cancel_left _ AC]
 .rw[if_neg AC,Jy (k:=k) AC l];have:(b.natAbs:Int)=g*k:=by rw[<-l];lia
  rw[this,Int.mul_ediv_cancel_left _ AC]
def Wi(p:Rat):Rat.divInt p.num p.den=p:=Rat.num_divInt_den p
def XM(a b:Int):Int.gcd (if a<0 then -a else a) (if b<0 then -b else b)=Int.gcd a b:=by
 split<;>split<;>simp[Int.gcd_neg,Int.neg_gcd]
def abs_nonneg(a:Int):0<=(if a<0 then -a else a):=by split<;>lia
def dJ{g a b:Int}(h:Int.gcd g 0=Int.gcd a b)(h0:0<=g):g=gi a b:=by
 unfold gi;rw[<-h,Int.gcd_zero_right]
 lia
def fmod_nonneg{g l:Int}(I:l≠0)(h:0<=l):0<=g.fmod l:=Int.fmod_nonneg_of_pos g AC
end FM
namespace L2
open PySem PySem.Spec PyProof.Rows
structure Fn(K:Fg)(mg:xc)(x:Str)(st:Stmt)(ps:N1)(f:Addr)(fd:FuncData):Prop where
 F:M8 K x x st f fd
 b:Binds K fd ps []
 m:mg x=some zU
section
variable{X:Cx}{k:Nat}{f:AD}{fd:F0a}{ps:vo}{sp:Sp}{x:Str}{st:Stmt}{p pos:Pos}{e:Expr}{es:vp}{t:TA}
def JC(T:yb)(G:Ah X.prog X.w X.K X.mg X.base A4 k f fd ps sp)(l:CM k X.A)(I:y6)(ha:PA X zAq t) (g:GE=false:=by decide)(he:starEach zAq X.env=Ev::starEach es X.env:=by rfl)(hpl:(backTo pos Lx).any OR=false:=by rfl):PE X Fk (Mg sp [] E0 t):=XB G l I T.m T.F.kp T.b .nil i8 ha g he hpl
end
def fi{t u:TS}{D:Ends}{σ:St}{H:Hp}(P:St->Hp->Prop)(I:∀nx:St->Hp->Prop,(∀g H',P g H'->nx g H')->t {D with nx:=nx} σ H)(l:∀g H',P g H'->u D g H'):iD t u D σ H:=I _ l
def oU:2<=sizeLine:=by decide
def B7{H:Hp}{p:AD}(h:H p=none)(o:HO):AY H (upd H p o):=fun b u q=>by rw[Ae (Bm q h)];exact q
def SameBut(l:AD)(H H':Hp):Prop:=∀b o,b≠l->H b=some o->H' b=some o
def SameBut.of{l:AD}{H H':Hp}(h:AY H H'):SameBut l H H':=fun b o _ q=>h b o q
def uk(p:Rat):vx:=[.int p.num,.int (p.den:Int)]
def Bi(p:Rat):PD:=.tuple [.int p.num,.int (p.den:Int)]
def CB.get{P:F0b}{w:F0c}{H:Hp}{h:Heap}{a:AD}{o:HO}(x:CB P w H h a o):∃u,h.get? a=some u:=by
 cases o with
 |lst xs=>obtain⟨_,_,_,_,e⟩:=x;exact⟨_,e⟩
 |tup xs=>obtain⟨_,_,_,o,e,_⟩:=x;exact⟨o,e⟩
 |dK kvs=>obtain⟨_,_,_,_,o,_,_,e,_⟩:=x;exact⟨o,e⟩
 |dT kvs=>obtain⟨_,_,_,_,o,_,_,e,_⟩:=x;exact⟨o,e⟩
 |set S n=>obtain⟨o,_,_,_,e,_⟩:=x;exact⟨o,e⟩
 |ins C dx fs=>obtain⟨_,_,_,e,_⟩:=x;exact⟨_,e⟩
 |own y=>obtain⟨o,e⟩:=x;exact⟨o,e⟩
 |xd fs=>obtain⟨_,⟨o,_,_,e,_⟩,_⟩:=x;exact⟨o,e⟩
 |jM lo hi=>obtain⟨_,_,_,e⟩:=x;exact⟨_,e⟩
 |Ey ob u=>obtain⟨e,_⟩:=x;exact⟨_,e⟩
 |PQ ps=>exact⟨_,(show h.get? a=some _ from x)⟩
 |met f y=>exact⟨_,(show h.get? a=some _ from x)⟩
 |ext φ=>obtain⟨_,⟨o,e⟩,_⟩:=x;exact⟨o,e⟩
structure ZF(P:Program)(w:World)(outer:List Env)(H:Hp)(s:Shared)(ea:Addr)(cls a0:Value)(H':Hp)(s':Shared)(B:Heap):Prop where
 os:s'.os=s.os
 bare:AllBare s'.gens
 qS:Heap.FlyingW B outer ea cls a0 s'.heap
 keep:∀b o,s.heap.get? b=some o->H b=none->b ∉ Fd outer->B.get? b=some o
 there:∀b o,s.heap.get? b=some o->b ∉ Fd outer->∃o',B.get? b=some o'
 slot:∀b o,s.heap.get? b=some o->b∈Fd outer->∃sl,s'.heap.get? b=some {o with slots:=sl}
 free:∀b o,s.heap.get? b=some o->H b=none->H' b=none
 CP:∀b xs,H b=some Pt->H' b=some Pt
 FN:∀b o u,H b=some (.Ey o u)->H' b=some (.Ey o u)
 F9:∀b ps,H b=some (.PQ ps)->∃more,H' b=some (.PQ (ps++more))
 Fu:∀b xs o,H b=some Pt->s.heap.get? b=some o->B.get? b=some o
 Ay:DN P w H' B
 new:s.heap.get? ea=none
def Dy(P:F0b)(w:F0c):Gh:=fun outer H s E e s'=>∃ea cls a0 H' B,e=.ref ea/\ZF P w outer H s ea cls a0 H' s' B/\E cls none H'
def Mw{base h:Heap}{l:v7}(F:h.FunFrames base l){b:AD}(g:b∈Fd l):∃o,h.get? b=some o/\∀vs,o.data≠.fields vs:=(F.mem g).2
section
variable{P:F0b}{w:F0c}{K:Fg}{mg:vf}{base:Heap}{N:vo}{qual:Str}{scope:yB}{f:AD}{cd:VL}{A:F0d}{outer:v7}{s:SD}{H:Hp}{E:XK}
def ky{pins:Cl}{σ:St}{U:Hp}{s1:SD}{h':Heap}{ea:AD}{cls:VL}{args:vd}(I:Inv (CJ kr P w K mg base N qual scope f cd A outer s H E) pins σ U s1) (Z:Heap.MadeExcOf s1.heap h' ea cls args)(hE:E cls none U):(CJ kr P w K mg base N qual scope f cd A outer s H E).xe xx {s1 with heap:=h'}:=by
 show wpAny yH (A.deeper OF) (leaving OF xx) _ _ _;have FF:=I.stack;have hfr:(A.deeper OF).frames=some yC:=I.ok.frames;have hin:∀env∈yC,∀b,env.frame=some b->b∈(envOfC qual scope s.heap.objs.size f cd::outer).filterMap yO:=fun env he b l=>List.mem_filterMap.mpr ⟨env,he,l⟩;have M:∀b o,s.heap.get? b=some o->b≠s.heap.objs.size:=fun b o e=>aP wU;have out:∀b,b≠s.heap.objs.size->b ∉ Fd outer->b ∉ (envOfC qual scope s.heap.objs.size f cd::outer).filterMap yO:=fun b h1 h2 hm=>by
  rcases aI.mp (I.MP b hm) with z|z
  .exact h1 z
  .exact h2 z
 have g:∀b u,U b=some u->b ∉ (envOfC qual scope s.heap.objs.size f cd::outer).filterMap yO:=fun b u e hm=>by
  have:=I.L3 b hm;rw[e]at this;cases this
 refine wpAny_leaves_madeW (base:=PySem.W.hideAll s1.heap ((envOfC qual scope s.heap.objs.size f cd::outer).filterMap yO)) hfr rfl (fun b o q=>PySem.W.of_hideAll _ q) (PySem.W.funFrames_hide FF hin) Z fun h2 t fl _ _ up=>?_;have T:DN P w U (PySem.W.hideAll s1.heap ((envOfC qual scope s.heap.objs.size f cd::outer).filterMap yO)):=fun b u e=>
  (I.Ay b u e).Hd (fun c v hc q=>bQ _ q (by
   rcases hc with rfl|hc
   .exact g _ _ e
   .exact g _ _ hc)) (fun _ q=>q) fun _ _ q=>q
 refine⟨ea,cls,.ref t,U,_,rfl,⟨I.os,I.bare,fl,fun b o e n l=>?_,fun b o e l=>?_,fun b o e l=>?_,fun b o e n=>I.base.free b o e n rb,I.base.CP,I.base.FN,I.base.F9,fun b xs o q e=>bQ _ (I.base.Fu b xs o q e rb) (g b _ (I.base.CP b xs q)),T,?_⟩,hE⟩
 .exact bQ _ (I.base.keep b o e n l rb) (out b (M b o e) l)
 .obtain⟨o',R⟩:=I.base.there b o e rb;exact⟨o',PySem.W.hideAll_get _ R (out b (M b o e) l)⟩
 .obtain⟨sl,R⟩:=I.base.slot b o e (I.ok.Q5 b l) l rb;obtain⟨o',e2,hd⟩:=Mw I.Hz l;rw[R]at e2;cases e2;obtain⟨Y,e3⟩:=up b _ (Z.keeps _ _ R) hd;exact⟨Y,e3⟩
 .cases q:s.heap.get? ea with
  |none=>rfl
  |some o=>
   obtain⟨o',R⟩:=I.base.there ea o q rb;have:=Z.new;rw[R]at this;cases this
def tM{Z:XK}(hE:∀c a H',Z c a H'->E c a H'):Passes kr (CJ kr P w K mg base N qual scope f cd A outer s H E) Z:=by
 intro pins σ H1 s1 e s2 I ⟨ea,cls,a0,H2,B,ee,F,hq⟩;subst ee;show wpAny yH (A.deeper OF) (leaving OF xx) _ _ _;have M:∀b o,s.heap.get? b=some o->b≠s.heap.objs.size:=fun b o e=>aP wU;have out:∀b,b≠s.heap.objs.size->b ∉ Fd outer->b ∉ Fd (CJ kr P w K mg base N qual scope f cd A outer s H E).stack:=fun b h1 h2 hm=>by
  rcases aI.mp (I.MP b hm) with z|z
  .exact h1 z
  .exact h2 z
 refine wpAny_leaves_onW I.ok.frames rfl F.qS fun h3 fl up=>?_;refine⟨ea,cls,a0,H2,B,rfl,⟨F.os.trans I.os,F.bare,fl,fun b o e n l=>?_,fun b o e l=>?_,fun b o e l=>?_,fun b o e n=>?_,fun b xs q=>F.CP b xs (I.base.CP b xs q),fun b o u q=>F.FN b o u (I.base.FN b o u q),fun b ps q=>?_,fun b xs o q e=>F.Fu b xs o (I.base.CP b xs q) (I.base.Fu b xs o q e rb),F.Ay,?_⟩,hE _ _ _ hq⟩
 .exact F.keep b o (I.base.keep b o e n l rb) (I.base.free b o e n rb) (out b (M b o e) l)
 .obtain⟨o',g⟩:=I.base.there b o e rb;exact F.there b o' g (out b (M b o e) l)
 .obtain⟨sl,g⟩:=I.base.slot b o e (I.ok.Q5 b l) l rb;have T:b∈Fd (CJ kr P w K mg base N qual scope f cd A outer s H E).stack:=by
   show b∈Fd yC;unfold Fd;rw[(QY)];exact aT _ l
  obtain⟨sl2,U⟩:=F.slot b _ g T;obtain⟨o',Y,hd⟩:=Mw I.Hz l;rw[g]at Y;cases Y;obtain⟨R,e4⟩:=up b _ U hd;exact⟨R,e4⟩
 .obtain⟨o',g⟩:=I.base.there b o e rb;exact F.free b o' g (I.base.free b o e n rb)
 .obtain⟨m1,g⟩:=I.base.F9 b ps q;obtain⟨m2,U⟩:=F.F9 b _ g;exact⟨m1++m2,by rw[U,Array.append_assoc]⟩
 .cases q:s.heap.get? ea with
  |none=>rfl
  |some o=>
   obtain⟨o',g⟩:=I.base.there ea o q rb;have:=F.new;rw[g]at this;cases this
def M8.vL{x:Str}{st:Stmt}{fd:F0a}{ps:vo}{k:Nat}{sp:Sp}(F:M8 K x x st f fd)(S:Ap N ps vy)(len:To) (g:∀(cdv:VL) (A:F0d) (outer:v7) (s:SD) (H:Hp) (vs:vx) (Q:VK) (E:XK),CM k (A.deeper (envOfC x vy s.heap.objs.size f cdv))->sp vs H Q E ->∃t,HY (CJ kr P w K mg base N x vy f cdv A outer s H E) (Cg st) t/\t { nx:=fun _ H'=>Q .BS H',rt:=Q} xD H):Ah P w K mg base kr ii f fd ps sp:=by
 obtain⟨oc,od,kV,doc,pm,an,cdv,ct,osl,rfl,lk,I⟩:=F.ex;exact jE lk I S len fun A outer s H vs Q E M l=>g cdv A outer s H vs Q E M l
end
structure Exc(K:Fg)(mg:xc)(x:Str)(C:Addr):Prop where
 m:mg x=some OL
 q:PySem.W.excIn K C [.type "ValueError",.type "Exception",.type "BaseException",.type "object"] "ValueError.__new__" = true
def lM{K:Fg}{h:Heap}{C:AD}{bB:vd}{I:xC}(Pk:K.In h)(g:PySem.W.excIn K C bB I=true):∃M N nm T bs hd sn sub ab col dd k0 k1 k2 k3 k5 mN,h.get? C=some (excClassObj nm T C N bs M hd sn sub ab col dd k0 k1 k2 k3 k5 I)/\h.Ns N mN/\mN "__init__" = none/\OwnTail h bB M:=by
 unfold PySem.W.excIn at g;split at g
 .rename_i dd cd sl lk;split at g
  .rename_i C1 M k0 k1 k2 k3 n1 k5 e1 Z;simp only[Bool.and_eq_true,beq_iff_eq,Bool.not_eq_true']at g;obtain⟨⟨⟨⟨⟨y1,y2⟩,Y⟩,y4⟩,R⟩,U⟩:=g;subst y1 y2;obtain⟨nm,bs,mro,N,T,hd,sn,sub,ab,col,del⟩:=cd;dsimp only at e1 Y R U;subst e1 Y;have e3:sl=#[k0,k1,k2,k3,some (.builtin n1),k5]:=by
    cases sl with
    |mk l=>simp only at Z;rw[Z]
   subst e3;exact⟨M,N,nm,T,bs,hd,sn,sub,ab,col,dd,k0,k1,k2,k3,k5,_,Pk _ _ lk,.of_isNs (PySem.W.isNs_of_in Pk R),PySem.W.nsMap_none_of_in Pk R U,PySem.W.tail_of_in Pk y4⟩
  .cases g
 .cases g
section
variable{X:Cx}{x:Str}{C:AD}{np cpos pos:Pos}{e:Expr}{te:TE}{E:XK}
def Lets(X:Cx)(E:XK):Prop:=∀(pins:Cl) (σ:St) (H:Hp) (s:SD) (h':Heap) (ea:AD) (cls:VL) (args:S0),Inv X pins σ H s->Heap.MadeExcOf s.heap h' ea cls args->E cls none H->X.xe xx dL
def rC(C:AD)(E:XK)(te:TE):TS:=fun _ σ H=>te σ H fun _ g=>E OL none g
def iP(T:Exc X.K X.mg x C)(hL:Lets X E)(l:dO)(hg:y6)(he:PE X e te)(hd:GE=false:=by decide) (M:starEach [e] X.env=[Ev]:=by rfl):PS X (.Raise (some (.Call L0 [e] [] cpos)) none pos) (rC C E te):=by
 intro pins s σ H D I h;obtain⟨tl,N,nm,qn,bs,g,sn,sub,ab,col,dd,k0,k1,k2,k3,Z,Y,hC,hN,U,TL⟩:=lM I.ok.mod.Pk T.q;refine wpAny_Raise_call_subT (C:=C) (nm:=nm) (q:=qn) (N:=N) (bs:=bs) (bm:=tl) (hdct:=g) (sn:=sn) (sub:=sub) (ab:=ab) (col:=col) (dd:=dd) (k0:=k0) (k1:=k1) (k2:=k2) (k3:=k3) (k5:=Z)
  PySem.F.excBase_ValueError (mN:=Y) (TL.hasType AS) (I.ok.hd l) (by rw[M];rfl) U (MK I hg T.m ⟨rfl,?_⟩ hd)
 rw[M];refine Calls.evalArgs_plain (Calls.spliced_cons (A2 Pg fun u s1 ⟨v,H1,R,r1,q1⟩=>Calls.spliced_nil ?_));exact⟨rfl,by show 1<=sizeLine;decide,R.bk _ _ hC,hN.keeps R.bk,TL.keeps R.bk,fun h' ea hm=>hL pins σ H1 s1 h' ea _ _ R hm q1⟩
end
def Q7(X:Cx)(pins:Cl)(σ:St)(E:XK)(e:VL)(s':SD):Prop:=∃H0 s0,Inv X pins σ H0 s0/\Dy X.prog X.w X.stack H0 s0 E e s'
abbrev TX:=St->Hp->VK->XK->Prop
section
variable{sp:Sp}{t:TA}
def qY(sp:Sp)(t:TA):TX:=fun σ H Q E=>t σ H fun vs g=>sp (vs++[]) g Q E
end
def land{X:Cx}{pins:Cl}{σ:St}{H0 H':Hp}{s0 s':SD}{ea:AD}{cls a0:VL}{B:Heap}(I:Inv X pins σ H0 s0)(F:ZF X.prog X.w X.stack H0 s0 ea cls a0 H' s' B) {h':Heap}{tk:Nat}(st:B.StaysIn h')(up:s'.heap.UpToSlots h'):Inv X pins σ H' { s' with heap:=h',toks:=tk}:=by
 have l:∀b o,s0.heap.get? b=some o->b∈Fd X.stack->∃sl,h'.get? b=some {o with slots:=sl}:=fun b o e g=>by
  obtain⟨sl,M⟩:=F.slot b o e g;obtain⟨o',T,hd⟩:=Mw I.stack g;rw[e]at T;cases T;obtain⟨R,U⟩:=up b _ M hd;exact⟨R,U⟩
 refine I.Zb (s':={ s' with heap:=h',toks:=tk}) (ch:=[]) F.os ⟨fun b o e n g _=>st b o (F.keep b o e n g),fun b o e n g _=>l b o e g,fun b o e n _=>F.free b o e n,fun b o e _=>?_,F.CP,F.FN,F.F9,fun b xs o q e _=>st b o (F.Fu b xs o q e)⟩ (F.Ay.kept st) F.bare fun b z=>absurd z A1;by_cases g:b∈Fd X.stack
 .obtain⟨sl,M⟩:=l b o e g;exact⟨_,M⟩
 .obtain⟨o',M⟩:=F.there b o e g;exact⟨o',st _ _ M⟩
def LR(ea:AD)(cls:VL):HO:=.ext fun h=>∃o vs,h.get? ea=some o/\o.cls=cls/\o.data=.fields vs
def sZ{X:Cx}{pins:Cl}{σ:St}{H0 H':Hp}{s0 s' s6:SD}{ea:AD}{cls a0:VL}{B:Heap}(I:Inv X pins σ H0 s0)(F:ZF X.prog X.w X.stack H0 s0 ea cls a0 H' s' B) (g:Inv X pins σ H' s6)(ho:∃o vs,s6.heap.get? ea=some o/\o.cls=cls/\o.data=.fields vs):H' ea=none/\Inv X pins σ (upd H' ea (LR ea cls)) s6:=by
 have hn:H' ea=none:=by
  cases q:H' ea with
  |none=>rfl
  |some u=>
   obtain⟨o,e⟩:=(F.Ay ea u q).get;rw[F.qS.2.1]at e;cases e
 have ne:∀b o,s0.heap.get? b=some o->b≠ea:=fun b o e z=>by rw[z,F.new]at e;cases e
 have up:∀b,b≠ea->upd H' ea (LR ea cls) b=H' b:=fun b z=>Ae z;have neT:∀b u,H' b=some u->b≠ea:=fun b u e z=>by rw[z,hn]at e;cases e
 refine⟨hn,g.ok,g.os,g.bare,⟨g.base.keep,g.base.slot,fun b o e n U=>?_,g.base.there,fun b xs e=>?_,fun b o u e=>?_,fun b ps e=>?_,g.base.Fu⟩,g.loc,g.cell,?_,fun y c e=>?_,fun p Y=>?_,fun b u e=>?_,g.len⟩
 .obtain⟨o',l⟩:=I.base.there b o e U;rw[up b (ne b o' l)];exact g.base.free b o e n U
 .have:=g.base.CP b xs e;rw[up b (neT _ _ this)];exact this
 .have:=g.base.FN b o u e;rw[up b (neT _ _ this)];exact this
 .obtain⟨m,l⟩:=g.base.F9 b ps e;exact⟨m,by rw[up b (neT _ _ l)];exact l⟩
 .obtain⟨m,⟨o,_,_,e,_⟩,_⟩:=I.loc;rw[up _ (ne _ o e)];exact g.free
 .obtain⟨v,o,l,_⟩:=I.cell y c e;rw[up _ (ne _ o l)];exact g.FK y c e
 .obtain⟨l,T,R⟩:=g.pin p Y;have e0:=(I.pin p Y).1;exact⟨l,by rw[up _ (ne _ _ e0)];exact T,R⟩
 .by_cases Z:b=ea
  .subst Z;rw[An]at e;cases e;obtain⟨o,vs,l,T,R⟩:=ho;exact⟨⟨o,vs,l,T,R⟩,⟨o,l⟩,fun h1 h2 ⟨o1,M,q1,q2⟩ k=>⟨o1,M,k _ q1,q2⟩⟩
  .rw[up b Z]at e;exact(g.Ay b u e).Hd (fun c v _ q=>q) (fun c q=>by rw[up c (neT _ _ q)];exact q) fun c xs q=>by rw[up c (neT _ _ q)];exact q
structure Fo(K:Fg)(C G:Addr)(b:Bool):Prop where
 cl:(PySem.W.clsIn K G).isSome=true
 ty:PySem.W.typeIn K (.ref G)=some (.type "type")
 ex:PySem.W.subIn K (.ref G) (.type "BaseException")=some true
 sub:PySem.W.subIn K OL (.ref G)=some b
def gB{M:Model}{A:F0d}{E:ve}{s:SD}{K:Fg}{e C G:AD}{l:Obj}{b:Bool}{Q:Bool->SD->Prop}(X:K.In s.heap)(he:s.heap.get? e=some l)(hc:l.cls=.ref C)(B:Fo K C G b) (h:Q b s):wpAny M A (excMatches (.ref e) (.ref G)) Q E s:=by
 have Z:PySem.W.Looks M s.heap (isInstance (.ref G) OZ) false:=(PySem.W.looks_typeIn X B.ty).andThen (PySem.W.Looks.of_pure tc_notTuple);have Y:PySem.W.Looks M s.heap (isType (.ref G)) true:=by
  have z:=B.cl;unfold PySem.W.clsIn at z;split at z
  .rename_i c' d' cd' I ho;intro A' Q' E' s' k q;unfold isType loadHead;exact Wb (wpAny_loadPart (k _ _ (X _ _ ho)) (aB q))
  .cases z
 have U:PySem.W.Looks M s.heap (isSubtype (.ref G) (.type "BaseException")) true:=PySem.W.looks_subIn X B.ex;have T:PySem.W.Looks M s.heap (typeOf (.ref e)) OL:=hc ▸ (PySem.W.Looks.ld he).andThen .now
 have R:PySem.W.Looks M s.heap (isSubtype OL (.ref G)) b:=PySem.W.looks_subIn X B.sub;obtain⟨hp,g,d,tk,os⟩:=s;unfold excMatches isExcClass;refine Wb (Z.at ?_);simp only[Bool.false_eq_true,if_false];refine Wb lr;simp only[List.forIn_cons,List.forIn_nil];refine Wb (Wb (Wb (Wb (Y.at ?_))));simp only[if_true];refine U.at ?_;simp only[Bool.not_true,Bool.false_eq_true,if_false];refine aB (aB (Wb (T.at (Wb (Wb (Wb (R.at ?_)))))));cases b with
 |true=>
  simp only[if_true];exact aB (aB (aB h))
 |false=>
  simp only[Bool.false_eq_true,if_false];exact aB (aB (aB h))
def Cx.held(X:Cx)(ea:AD):Cx:={X with A:=X.A.mark (some xx),calm:=false,xe:=fun _ _=>False}
def Inv.held{X:Cx}{pins:Cl}{σ:St}{H:Hp}{s:SD}(I:Db)(ea:AD):Inv (X.held ea) pins σ H s :=
 ⟨⟨I.ok.mod,I.ok.kind,I.ok.glob,I.ok.blt,I.ok.above,I.ok.inj,I.ok.has,I.ok.Vq,fun z=>(by cases z),I.ok.frames,I.ok.cI,I.ok.oI,I.ok.bs,I.ok.OH,I.ok.Qa,I.ok.P9,I.ok.Hz,I.ok.Q5,I.ok.kt⟩,I.os,I.bare,I.base,I.loc,I.cell,I.free,I.FK,I.pin,I.Ay,I.len⟩
def Inv.nP{X:Cx}{pins:Cl}{σ:St}{H:Hp}{s:SD}{ea:AD}(ok:X.Ok)(I:Inv (X.held ea) pins σ H s):Inv X pins σ H s :=
 ⟨ok,I.os,I.bare,I.base,I.loc,I.cell,I.free,I.FK,I.pin,I.Ay,I.len⟩
def uJ{X:Cx}{pins:Cl}{σ:St}{H:Hp}{s:SD}{M:Model}{A:F0d}{E:ve}{i:Nat}{n:Str}{pos:Pos}{Q:y3}(I:Db)(hN:nn)(hi:X.N[i]? = some n)
 (hl:zAO)(h:∀s',Inv X pins (σ.set i none) H s'->Q () s'):wpAny M A (do bindName X.env n .none;unbindBehindTheSuite X.env n pos) Q E s:=by
 obtain⟨m,hn,hlk⟩:=id I.loc;have U:f8=false:=by rw[I.ok.kind];rfl
 refine wpAny_nameGoes_keeps hl hn U fun h' v Z g=>h _ ?_;have hiS:i<σ.length:=by rw[I.len];exact(aF.mp hi).1
 obtain⟨oL,_,_,hoL,_⟩:=id hn;have tr:DN X.prog X.w H h':=fun b ob e=>(I.Ay b ob e).Hd (fun c w' R q=>(g.2 c (by
  rintro rfl;rcases R with R|R
  .rw[<-R,I.free]at e;cases e
  .rw[I.free]at R;cases R)).trans q) (fun _ q=>q) fun _ _ q=>q
 refine⟨I.ok,I.os,I.bare,⟨fun b o e n hb l=>?_,fun b o e n hb l=>?_,I.base.free,fun b o e l=>?_,I.base.CP,I.base.FN,I.base.F9,fun b xs o q e l=>(g.2 b di).trans (I.base.Fu b xs o q e l)⟩,⟨_,Z,fun j y v' T Y e3=>?_⟩,fun y c e=>?_,I.free,I.FK,fun p hp=>?_,tr,by simpa using I.len⟩
 .exact(g.2 b di).trans (I.base.keep b o e n hb l)
 .obtain⟨sl,T⟩:=I.base.slot b o e n hb l;exact⟨sl,(g.2 b di).trans T⟩
 .obtain⟨o',T⟩:=I.base.there b o e l;exact⟨o',(g.2 b di).trans T⟩
 .by_cases hj:j=i
  .subst hj;rw[List.getElem?_set_self hiS]at Y;cases Y
  .rw[List.getElem?_set_ne (Ne.symm hj)]at Y;obtain⟨u',r',q⟩:=hlk j y v' T Y e3;refine⟨u',r',?_⟩;rcases q with ⟨k,e⟩|⟨k,c,e,z⟩
   .refine .inl ⟨k,?_⟩;have:y≠n:=fun e=>hj (QT hN T (e ▸ hi));simp[this,e]
   .exact .inr ⟨k,c,e,z.sameBut g (I.RB y c e)⟩
 .obtain⟨w',z⟩:=I.cell y c e;exact⟨w',z.sameBut g (I.RB y c e)⟩
 .obtain⟨e,n',ne,nf,d⟩:=I.pin p hp;exact⟨(g.2 p.1 ne).trans e,n',ne,nf,d⟩
section
variable{X:Cx}{t:TX}{x z n:Str}{G:AD}{pz pn np tpos hpos:Pos}{i j k:Nat}
def cH(K:Fg)(G:AD)(t:TX)(i j k:Nat):TS:=fun D σ H=>t σ H (fun v g=>D.nx (σ.set i tz) g) fun cls _ H'=>∃C,cls=.ref C/\Fo K C G true /\
 ∀ea,H' ea=none->D.nx (((σ.set k (some xx)).set j (some xx)).set k none) (upd H' ea (LR ea cls))
def rD{pins:Cl}{σ:St}{D:Ends}{ev:VL}{s1:SD}(hN:nn)(hcalm:dO)(hj:X.N[j]? = some z)(hk:X.N[k]? = some n)(hlz:xS)(l:zAO) (hg:y6)(hm:X.mg x=some (.ref G))(hkj:k≠j)(hstk:zAB)(hfr:zR) (hf:Q7 X pins σ (fun cls _ H'=>∃C,cls=.ref C/\Fo X.K C G true/\∀ea,H' ea=none->D.nx (((σ.set k (some xx)).set j (some xx)).set k none) (upd H' ea (LR ea cls))) ev s1) (hd:GE=false)(hsw:swapsWith (.Name n pn) (some (.Name z pz)) tpos.line X.env=pure false)(hdn:(n==("__debug__" : Str))=false)(hcn:(n==("__classdict__" : Str))=false):wpAny AT X.A (noteFrame ev X.env) (fun _ s₂=>wpAny AT X.A (setFlight ev none) (fun _ Z=>wpAny AT X.A (handleBy ev X.env [.ExceptHandler (some L0) (some n) [.Assign [.Name z pz] (.Name n pn) tpos] hpos]) (SP X pins D) X.xe Z) X.xe s₂) X.xe s1:=by
 obtain⟨H0,s0,I,ea,cls,a0,H',B,ee,F,C,hc,hB,q⟩:=hf;subst ee hc;obtain⟨rest,g⟩:=hstk;have F1:=F.qS;rw[g]at F1;have hfrm:X.A.frames=some (X.env::rest):=by rw[<-g];exact I.ok.frames
 refine wpAny_looks_onW hfrm hfr F1 fun h4 T up4=>?_;refine wpAny_landsW T fun h5 Y up5=>?_;have M:=up4.trans up5;have I5:Inv X pins σ H' {s1 with heap:=h5,toks:=s1.toks}:=land I F Y.1 M;obtain⟨ob,hob,hobc⟩:=Y.there;have hcls:f8=false:=by rw[I.ok.kind];rfl
 refine wpAny_handleBy_cons (codeAny_handlers_test (MK (I5.held ea) hg hm ?_ hd)) (by intro q;cases q);refine gB (K:=X.K) I5.Gp hob hobc hB (codeAny_handlers_suite_as ?_);refine lands_againW Y fun h6 fl6 up6=>?_;have I6:Inv X pins σ H' {s1 with heap:=h6,toks:=s1.toks}:=land I F fl6.1 (M.trans up6);obtain⟨oe,ws,e1,e2,e3,_⟩:=fl6.first
 obtain⟨R,I7⟩:=sZ I F I6 ⟨oe,ws,e1,e2,e3⟩;refine HG (X:=X.held ea) (I7.held ea) hN hk (.inl l) (v:=.ref ea) rfl (fun s8 I8=>?_) (.inr l);have U:HY (X.held ea) [.Assign [.Name z pz] (.Name n pn) tpos] (J8 (DV k) (Ef j)):=Bf (D9 (X:=X.held ea) hN hj (.inl hlz) (Wf hk (.inl l) hdn hcn) hsw (.inr hlz));have hkl:k<(σ.set k (some (V.ref ea))).length:=by
  rw[(Nj)];have:=(aF.mp hk).1;rw[I.len];exact this
 refine aM (U pins s8 _ _ { nx:=fun σ' H2=>σ'=(σ.set k (some xx)).set j (some xx)/\H2=upd H' ea (LR ea OL),rt:=fun _ _=>False} I8 ⟨.ref ea,?_,rfl,rfl⟩) (fun fl s9 h9=>?_) fun _ _ z=>z.elim
 .rw[List.getElem?_set_self (by rw[(Nj)]at hkl;exact hkl)]
 .cases fl with
  |next=>
   obtain⟨σ9,H9,I9,e9,eH⟩:=h9;subst e9 eH;exact uJ (I9.nP I.ok) hN hk l fun s' I'=>⟨_,_,I',q ea R⟩
  |brk=>obtain⟨_,_,_,z⟩:=h9;exact z.elim
  |cont=>obtain⟨_,_,_,z⟩:=h9;exact z.elim
  |ret v=>obtain⟨_,_,_,_,_,z⟩:=h9;exact z.elim
end
open PySem PySem.Spec PyProof.Rows PySem.Builtin.ObjectAttr PySem.Builtin.Getset_descriptor
structure C0(K:Fg)(C:Addr):Prop where
 cl:(PySem.W.clsIn K C).isSome=true
 ga:PySem.W.findIn K OL "__getattribute__" = some (some (.builtin "BaseException.__getattribute__"))
 gh:PySem.W.findIn K OL "__getattr__" = some none
 at_:PySem.W.findIn K OL "__class__" = some (some TW)
 gt:PySem.W.specialIn K TW "__get__" = some (some ce)
 tk:PySem.W.takesIn K TW=some true
 ob:PySem.W.mroIn K C (.type "object")=some true
 be:PySem.W.mroIn K C (.type "BaseException")=some true
def excAt(x C:AD)(h:Heap):Prop:=∃o vs,h.get? x=some o/\o.cls=.ref C/\o.data=.fields vs
def excAt.ty{x C:AD}{h:Heap}(p:excAt x C h)(M:Model):PySem.W.Looks M h (typeOf (.ref x)) OL:=by
 obtain⟨o,_,e,c,_⟩:=p;exact c ▸ (PySem.W.Looks.ld e).andThen .now
def ig{K:Fg}{C:AD}{h:Heap}(X:K.In h)(z:(PySem.W.clsIn K C).isSome=true)(M:Model):PySem.W.Looks M h (isType OL) true:=by
 unfold PySem.W.clsIn at z;split at z
 .rename_i T R I g l;intro Z U Y s' k q;exact Wb (wpAny_loadPart (k _ _ (X _ _ l)) (aB q))
 .cases z
section
variable{prog:F0b}{w:F0c}{A:F0d}{E:ve}{K:Fg}{x C:AD}{h:Heap}{g:Array GenState}{d:Drawn}{t:Nat}{os:zT}
def g6(X:K.In h)(F:C0 K C)(M:Model):PySem.W.Looks M h (find (.ref x) OL "__class__") (.bind ce TW):=by
 have a1:=PySem.W.looks_findIn (M:=M) X F.at_;have a2:PySem.W.Looks M h (getOf (some TW)) (some ce):=PySem.W.looks_specialIn X F.gt;have a3:=PySem.W.looks_takesIn (M:=M) X F.tk;exact a1.andThen (a2.andThen ((show PySem.W.Looks M h (dataDescriptor? (some TW) (some ce)) (some (.builtin "getset_descriptor.__get__",.builtin "object.__class__")) from a3.andThen .now).andThen (PySem.W.Looks.tag .now)))
def mI{l:VL}{R:iN}(X:K.In h)(F:C0 K C)(p:excAt x C h)(I:R (.ok (.ret OL)) ⟨h,g,d,t,os⟩):codeAny By A (.call ce ⟨[.builtin "object.__class__",.ref x,l],[]⟩) R ⟨h,g,d,t,os⟩:=by
 have T:=p.ty By;have b1:=PySem.W.looks_mroIn (M:=model prog w) X F.ob;refine codeAny_call_builtin PySem.W.KF.slot_gs.plain PySem.W.KF.entry_gs ?_;refine PySem.W.KF.slot_gs.check _ _ _ _ _ _ _ _ PySem.W.KF.type_class (PySem.W.KF.args_gs _ _ _) ?_;unfold Builtin.«getset_descriptor.__get__» descrGet;rw[PySem.W.dga_obj];refine Wb lr;unfold descrGetter descrCheckInstance descrNameAndClass isInstance;simp only[PySem.W.KF.owner_class]
 repeat lk
 refine⟨Code.quiet_builtin _ xg,codeAny_builtin PySem.W.KF.entry_class ?_⟩;unfold Builtin.«object.__class__» shownTypeOf
 repeat lk
 exact I
def Z4{tk:Tok}{Q:Fin->SD->Prop}(X:K.In h)(F:C0 K C)(p:excAt x C h)(l:Q (.done (.ret OL)) ⟨h,g,d,t,os⟩):wpAny By A (Builtin.«object.__getattribute__» ⟨[.ref x,.str "__class__" tk],[]⟩) Q E ⟨h,g,d,t,os⟩:=by
 have I:=p.ty By;have b1:=g6 (x:=x) X F By;unfold Builtin.«object.__getattribute__»
 repeat lk
 refine wpAny_run (mI X F p ?_);exact aB (aB l)
def eP{l:VL}{Q:y3}(X:K.In h)(F:C0 K C)(p:excAt x C h)(I:Q () ⟨h,g,d,t,os⟩):wpAny By A (checkBuiltinCall "BaseException.__getattribute__" ⟨[.ref x,l],[]⟩) Q E ⟨h,g,d,t,os⟩:=by
 have T:builtinKind "BaseException.__getattribute__" = some .slot:=by decide +kernel
 have R:splitId "BaseException.__getattribute__" = some ("BaseException","__getattribute__"):=by decide +kernel
 have U:=PySem.F.args_bexc_ga (.ref x) l;have Y:=p.ty By;have b1:=PySem.W.looks_mroIn (M:=model prog w) X F.be;simp only[checkBuiltinCall,T,R];refine Wb ?_;unfold isInstance
 repeat lk
 exact I
def fQ{Q:yx}(X:K.In h)(F:C0 K C)(p:excAt x C h)(l:Q (some OL) ⟨h,g,d,t+1,os⟩):wpAny By A (getAttr? (.ref x) "__class__") Q E ⟨h,g,d,t,os⟩:=by
 have U:=p.ty By;have b1:=PySem.W.looks_findIn (M:=model prog w) X F.ga;have b2:=PySem.W.looks_findIn (M:=model prog w) X F.gh;unfold getAttr? getAttrBy? getAttrBy;refine Wb (wpAny_mkText (Wb (wpAny_attempt (ao (Wb (U.at (Wb (b1.at ?_))))))));have R:(Value.builtin "BaseException.__getattribute__" == Value.builtin "object.__getattribute__")=false:=by decide +kernel
 have T:¬(wo=true):=by rw[R,Bool.and_false];exact aL
 show wpAny _ _ (if wo=true then _ else _) _ _ _;rw[if_neg T];unfold getAttrByItsOwn;refine Wb (show wpAny _ _ (typeLookup (Value.ref C) "__getattr__") _ _ _ from b2.at ?_);refine Wb (wpAny_attempt (ao ?_));show wpAny _ _ (boundAndCalled _ _ _) _ _ _;unfold boundAndCalled;have I:=(PySem.F.excAttr_ValueError).ga.bind (.ref x);refine Wb (bY I ?_);refine wpAny_call (codeAny_call_builtin (PySem.F.excAttr_ValueError).ga.plain PySem.F.entry_bexc_ga (eP X F p (Z4 X F p ?_)));exact aB (aB l)
end
def iz{K:Fg}{x C:AD}(F:C0 K C):PySem.W.KitX K (.ref x) OL (excAt x C) where
 ty:=fun M h _ p=>p.ty M
 it:=fun M h X _=>ig X F.cl M
 ne:=fun h tp dd its n sl X htp=>by
  have z:=F.cl;refine bI.mpr fun q=>?_;have e:C=tp:=Value.ref.inj (bG.mp q);subst e;unfold PySem.W.clsIn at z;split at z
  .rename_i c' d' cd' sl' ho;have y:=(X _ _ ho).symm.trans htp;cases y
  .cases z
 ca:=fun {prog w A E Q s} X p k=>by
  obtain⟨h,g,d,t,os⟩:=s;exact fQ X F p k
def DD:V->VL
 |.ref C=>.ref C
 |.ty n=>.type n
 |_=>.none
def XH{c:V}{u:VL}(r:RelV c u)(h:DD c≠.none):u=DD c:=by
 cases c with
 |ref C=>exact r
 |ty n=>exact r
 |_=>exact absurd rfl h
section
variable{X:Cx}
def u6(K:Fg):List V->Hp->VK->Prop:=fun xs H Q=>∃x c t b,xs=[x,c]/\DD c≠.none/\HE K H x t/\PySem.W.kitOne K t (DD c)=some b/\Q (.bl b) H
def GD:FO X (.builtin "isinstance") (u6 X.K):=by
 intro pins s σ H xs us Q I r h;obtain⟨x,c,t,b,rfl,M,ty,e,q⟩:=h;obtain⟨u,v,rfl,l,g⟩:=r.two;rw[XH g M];exact df I l ty e fun tk=>⟨.bl b,H,I.tok tk,rfl,q⟩
def rj(K:Fg):List V->Hp->VK->Prop:=fun xs H Q=>∃ea C c b,xs=[.ref ea,c]/\DD c≠.none/\H ea=some (LR ea OL)/\C0 K C/\PySem.W.kitOne K OL (DD c)=some b/\Q (.bl b) H
def dj:FO X (.builtin "isinstance") (rj X.K):=by
 intro pins s σ H xs us Q I r h;obtain⟨ea,C,c,b,rfl,R,M,F,e,q⟩:=h;obtain⟨u,v,rfl,l,g⟩:=r.two;rw[XH g R];cases (show u=Value.ref ea from l);obtain⟨p,_,_⟩:=(show CB X.prog X.w H s.heap ea (LR ea OL) from I.Ay ea _ M);exact ay (iz F) I.Gp p e Id fun tk=>⟨.bl b,H,I.tok tk,rfl,q⟩
end
def nW(K:Fg):PySem.W.kitOne K OZ OZ=some true:=rfl
def qc(K:Fg):PySem.W.kitOne K db db=some true:=rfl
def nI(K:Fg):PySem.W.kitOne K wB wB=some true:=rfl
def qW(K:Fg):PySem.W.kitOne K db wB=some false:=by kernel_rfl
def nE(K:Fg):PySem.W.kitOne K wB db=some true:=by kernel_rfl
def pK(K:Fg):PySem.W.kitOne K gl OZ=some false:=by kernel_rfl
def pZ(K:Fg):PySem.W.kitOne K OZ gl=some false:=by kernel_rfl
def oV(K:Fg):PySem.W.kitOne K gl gl=some true:=rfl
def rO(K:Fg):PySem.W.kitOne K db OZ=some false:=by kernel_rfl
def nB(K:Fg):PySem.W.kitOne K wB OZ=some false:=by kernel_rfl
def qF(K:Fg):PySem.W.kitOne K (.type "NoneType") OZ=some false:=by kernel_rfl
def nk(K:Fg):PySem.W.kitOne K yP OZ=some false:=by kernel_rfl
def nV(K:Fg):PySem.W.kitOne K OZ db=some false:=by kernel_rfl
def qm(K:Fg):PySem.W.kitOne K gl db=some false:=by kernel_rfl
def oM(K:Fg):PySem.W.kitOne K (.type "NoneType") db=some false:=by kernel_rfl
def q9(K:Fg):PySem.W.kitOne K yP db=some false:=by kernel_rfl
def qt(K:Fg):PySem.W.kitOne K db gl=some false:=by kernel_rfl
def rH(K:Fg):PySem.W.kitOne K wB gl=some false:=by kernel_rfl
def nT(K:Fg):PySem.W.kitOne K (.type "NoneType") gl=some false:=by kernel_rfl
def oj(K:Fg):PySem.W.kitOne K yP gl=some false:=by kernel_rfl
def freeOk(g:yB)(names:List (Str×NameKind)):Bool:=names.all fun y=>y.2 != .free||g.names.lookup y.1==some .cell||g.names.lookup y.1==some .free
def JK{g:yB}{names:List (Str×NameKind)}(h:freeOk g names=true):∀y∈names,y.2=.free->g.names.lookup y.1=some .cell\/g.names.lookup y.1=some .free:=fun y l I=>by
 have q:=af.mp h y l;rw[I]at q;simp only[bne_self_eq_false,Bool.false_or,Bool.or_eq_true,beq_iff_eq]at q;exact q
def Bu(scope:yB)(N:vo)(x:Str)(ix:Nat):Bool :=
 scope.kind==.function&&(scope.names.all fun y=>y.2 != .cell&&(y.2 != .local||scope.names.lookup y.1==some .local)&&(y.2 != .free||scope.names.lookup y.1==some .free))&&scope.names.lookup x==some .local&&decide N.Nodup&&N[ix]? == some x
def FD{scope:yB}{N:vo}{x:Str}{ix:Nat}(h:Bu scope N x ix=true):Cr scope N x ix:=by
 unfold Bu at h;simp only[Bool.and_eq_true,beq_iff_eq,decide_eq_true_eq,List.all_eq_true,bne_iff_ne,Bool.or_eq_true]at h;obtain⟨⟨⟨⟨U,I⟩,T⟩,R⟩,M⟩:=h;exact⟨U,fun y g=>(I y g).1.1,fun y g l=>(I y g).1.2.resolve_left fun z=>z l,fun y g l=>(I y g).2.resolve_left fun z=>z l,T,R,M⟩
section
variable{X:Cx}{elt iter:Expr}{x:Str}{px pos:Pos}{ifs:vp}{scope:yB}{wi:TI}{tif:TT}{te:TE}
def WZ(N:vo)(ix:Nat)(fr:v8)(hi:i0)(g:zAk)(he:zAn) (T:Bu scope N x ix=true:=by decide +kernel)(R:X.calm=true:=by rfl)(M:Dj N X.N scope X.env.scope fr 0=true:=by rfl)(I:fr.length=N.length:=by rfl)(l:freeOk X.env.scope scope.names=true:=by rfl) (hs:∀x,foldedSetIterable iter X.env x=pure x:=by intro _;rfl):PE X B1 wP :=
 mT (FD T) R M I (JK l) hi g he hs
def Wy{i:Nat}{y:Str}{R g:Pos}(N:vo)(ix:Nat)(fr:v8)(U:nn)(T:X.N[i]? = some y)(I:xP) (hi:i0)(M:zAk)(he:zAn) (h1:Bu scope N x ix=true:=by decide +kernel)(h2:X.calm=true:=by rfl)(h3:Dj N X.N scope X.env.scope fr 0=true:=by rfl)(Z:fr.length=N.length:=by rfl)(Y:freeOk X.env.scope scope.names=true:=by rfl) (l:swapsWith B1 (some (.Name y R)) g.line X.env=pure true:=by rfl) (hs:∀x,foldedSetIterable iter X.env x=pure x:=by intro _;rfl):PS X (.Assign [.Name y R] B1 g) (J8 wP (Ef i)) :=
 ZN U T I (FD h1) h2 h3 Z (JK Y) hi M he l hs
end
section
variable{X:Cx}{k:Nat}{f:AD}{fd:F0a}{ps:vo}{sp:Sp}{x:Str}{st:Stmt}{p pos:Pos}{e:Expr}{es:vp}{t:TA}{E:XK}
def nQ(T:yb)(G:Ah X.prog X.w X.K X.mg X.base (Dy X.prog X.w) k f fd ps sp)(l:CM k X.A)(I:y6)(M:Passes (Dy X.prog X.w) X E)(ha:PA X zAq t) (g:GE=false:=by decide)(he:starEach zAq X.env=Ev::starEach es X.env:=by rfl)(hpl:(backTo pos Lx).any OR=false:=by rfl):PE X Fk (Mg sp [] E t):=XB G l I T.m T.F.kp T.b .nil M ha g he hpl
end
end L2
inductive Tr where
 |nil
 |cons (b r:Tr)
 deriving DecidableEq
namespace Tr
def deep:Tr->Nat
 |.nil=>0
 |.cons b r=>max (b.deep+1) r.deep
end Tr
namespace SM
open PySem.W PyProof.Rows
def Wp{α:Type}(lt:Nat->Nat->Bool)(n:Nat):KasT α->(α->Prop)->Prop
 |.ret a,Q=>Q a
 |.ask i j k,Q=>i<n/\j<n/\Wp lt n (k (lt i j)) Q
theorem Wp.mono{α:Type}{lt:Nat->Nat->Bool}{n:Nat}{Q Q':α->Prop}(g:∀a,Q a->Q' a):∀t:KasT α,Wp lt n t Q->Wp lt n t Q'
 |.ret a,h=>g a h
 |.ask i j k,h=>⟨h.1,h.2.1,Wp.mono g (k (lt i j)) h.2.2⟩
theorem Wp.bind{α g:Type}{lt:Nat->Nat->Bool}{n:Nat}{f:α->KasT g}{Q:g->Prop}:∀t:KasT α,Wp lt n t (fun a=>Wp lt n (f a) Q)->Wp lt n (t.bind f) Q
 |.ret _,h=>h
 |.ask i j k,h=>⟨h.1,h.2.1,Wp.bind (k (lt i j)) h.2.2⟩
def Kf{p:vi}{i j:Nat}(g:j<=p.size)(k:Nat):(kas_rev p i j).getD k 0=if i<=k/\k<j then p.getD (i+j-1-k) 0 else p.getD k 0:=by
 have e:=getElem?_mirror_all (i:=i) g k;unfold kas_rev;rw[(Yt),(Yt),(Yt),e];split<;>rfl
def Wo{p:vi}{src d:Nat}(hs:src<p.size)(hd:d<=src)(k:Nat):(bubble p src d).getD k 0=if k=src-d then p.getD src 0 else if src-d<k/\k<=src then p.getD (k-1) 0 else p.getD k 0:=by
 have e:=getElem?_bubble hs d hd k;simp only[Array.getD_eq_getD_getElem?,e];split
 .rfl
 .split<;>rfl
section
variable{O:KeyOrd}{key:Nat->O.α}{n:Nat}
def Key(key:Nat->O.α)(p:vi)(i:Nat):O.α:=key (p.getD i 0)
def Up(key:Nat->O.α)(p:vi)(m:Nat):Prop:=∀i j,i<=j->j<m->O.kle (Key key p i) (Key key p j)
def Dn(key:Nat->O.α)(p:vi)(m:Nat):Prop:=∀i j,i<=j->j<m->O.kle (Key key p j) (Key key p i)
structure Pm(n:Nat)(p:Array Nat):Prop where
 perm:p.Perm (List.toArray (List.range n))
 pos:0<n
def Pm.size{p:vi}(h:Pm n p):p.size=n:=by rw[h.perm.size_eq];simp
def Pm.lt{p:vi}(h:Pm n p)(i:Nat):p.getD i 0<n:=by
 rw[(Yt)];by_cases hi:i<p.size
 .rw[Array.getElem?_eq_getElem hi];have hm:p[i]∈p:=Array.getElem_mem hi;have:=(h.perm.mem_iff).mp hm
  simpa using this
 .rw[Array.getElem?_eq_none AC];exact h.pos
def Pm.rev{p:vi}(h:Pm n p)(i j:Nat):Pm n (kas_rev p i j):=⟨(mirror_perm _ _ _ _).trans h.perm,h.pos⟩
theorem Pm.bubble{p:vi}(h:Pm n p)(i j:Nat):Pm n (bubble p i j):=⟨(bubble_perm _ _ _).trans h.perm,h.pos⟩
abbrev HI(key:Nat->O.α):Nat->Nat->Bool:=fun i j=>O.blt (key i) (key j)
def Up.one{p:vi}:Up key p 1:=fun i j l g=>by
 have:i=j:=by lia
 subst this;exact bc _
def Up.more{p:vi}{m:Nat}(h:Up key p m)(R:1<=m)(l:O.kle yJ (Key key p m)):Up key p (m+1):=fun i j g M=>by
 by_cases e:j=m
 .subst e;by_cases I:i=j
  .subst I;exact bc _
  .exact KeyOrd.kle_trans (h i (j-1) AC AC) l
 .exact h i j g AC
def Dn.more{p:vi}{m:Nat}(h:Dn key p m)(R:1<=m)(l:O.kle (Key key p m) yJ):Dn key p (m+1):=fun i j g M=>by
 by_cases e:j=m
 .subst e;by_cases I:i=j
  .subst I;exact bc _
  .exact KeyOrd.kle_trans l (h i (j-1) AC AC)
 .exact h i j g AC
theorem asc{p:Array Nat}(g:Pm n p):∀(f m:Nat),1<=m->Up key p m->Wp (HI key) n (kas_asc p f m) fun r=>m<=r/\r<=m+f/\Up key p r/\(r=m+f\/O.klt (Key key p r) (Key key p (r-1)))
 |0,m,_,h=>⟨aG _,Nat.le_refl _,h,.inl rfl⟩
 |f+1,m,I,h=>by
  refine⟨g.lt _,g.lt _,?_⟩;cases c:HI key (p.getD m 0) (p.getD (m-1) 0) with
  |true=>exact⟨aG _,by lia,h,.inr c⟩
  |false=>
   simp only[Bool.false_eq_true,if_false];refine Wp.mono (fun r l=>?_) _ (asc g f (m+1) AC (h.more I c));exact⟨by lia,by lia,l.2.2.1,l.2.2.2.elim (fun z=>.inl AC) .inr⟩
def Eq(key:Nat->O.α)(p:vi)(m q:Nat):Prop:=q<m/\∀k,m-(q+1)<=k->k<m->Key key p k=Key key p (m-1)
def rev_eq{p:vi}{m q:Nat}(h:Eq key p m q)(hm:m<=p.size)(k:Nat):Key key (kas_rev p (m-(q+1)) m) k=Key key p k:=by
 unfold Key;rw[Kf hm];split
 .have a:=h.2 (m-(q+1)+m-1-k) (by have:=h.1;lia) (by have:=h.1;lia);have b:=h.2 k AC AC;exact a.trans b.symm
 .rfl
theorem desc:∀(f:Nat) (p:Array Nat) (m q:Nat),Pm n p->1<=m->m+f<=n->Dn key p m->Eq key p m q->Wp (HI key) n (kas_desc f p m q) fun r=>Pm n r.1/\m<=r.2.1/\r.2.1<=m+f/\Dn key r.1 r.2.1/\Eq key r.1 r.2.1 r.2.2
 |0,p,m,q,g,_,_,h,e=>⟨g,Nat.le_refl _,Nat.le_refl _,h,e⟩
 |f+1,p,m,q,g,T,hf,h,e=>by
  refine⟨g.lt _,g.lt _,?_⟩;have hm:m<=p.size:=by rw[g.size];lia
  cases c:HI key (p.getD m 0) (p.getD (m-1) 0) with
  |true=>
   have ck:O.klt (Key key p m) yJ:=c;simp only[if_true];have fin:∀l:Array Nat,Pm n l->(∀k,Key key l k=Key key p k)->Wp (HI key) n (kas_desc f l (m+1) 0) fun r=>Pm n r.1/\m<=r.2.1/\r.2.1<=m+(f+1)/\Dn key r.1 r.2.1/\Eq key r.1 r.2.1 r.2.2:=fun l M Y=>by
    have hd:Dn key l (m+1):=fun i j R Z=>by rw[Y,Y];exact h.more T (KeyOrd.kle_of_klt ck) i j R Z
    have he:Eq key l (m+1) 0:=⟨by lia,fun k T h2=>by rw[show k=m+1-1 by lia]⟩;exact Wp.mono (fun r I=>⟨I.1,by lia,by lia,I.2.2.2.1,I.2.2.2.2⟩) _ (desc f l (m+1) 0 M AC AC hd he)
   split
   .exact fin _ (g.rev _ _) (rev_eq e hm)
   .exact fin _ g fun _=>rfl
  |false=>
   simp only[Bool.false_eq_true,if_false];refine⟨g.lt _,g.lt _,?_⟩;cases d:HI key (p.getD (m-1) 0) (p.getD m 0) with
   |true=>
    simp only[if_true];exact⟨g,Nat.le_refl _,Nat.le_add_right _ _,h,e⟩
   |false=>
    simp only[Bool.false_eq_true,if_false];have U:Key key p m=Key key p (m-1):=KeyOrd.kle_antisymm (show O.kle (Key key p m) yJ from d) (show O.kle yJ (Key key p m) from c);refine Wp.mono (fun r I=>⟨I.1,by lia,by lia,I.2.2.2.1,I.2.2.2.2⟩) _ (desc f p (m+1) (q+1) g AC AC (h.more T (by rw[U];exact bc _)) ⟨by have:=e.1;lia,fun k h2 h3=>?_⟩);rw[show m+1-1=m by lia,U];by_cases z:k=m
    .rw[z,U]
    .exact e.2 k AC AC
def qJ{p:vi}{m:Nat}(h:Dn key p m)(hm:m<=p.size):Up key (kas_rev p 0 m) m:=fun i j g l=>by
 unfold Key;rw[Kf hm,Kf hm,if_pos ⟨aW _,by lia⟩,if_pos ⟨aW _,by lia⟩];exact h (0+m-1-j) (0+m-1-i) AC AC
def tail3{p:vi}{m:Nat}(g:Pm n p)(I:1<=m)(hm:m<=n)(h:Dn key p m):Wp (HI key) n (kas_tail3 m n p) fun r=>Pm n r.2/\1<=r.1/\r.1<=n/\Up key r.2 r.1:=by
 unfold kas_tail3;refine Wp.bind _ (Wp.mono (fun r l=>?_) _ (asc (g.rev 0 m) (n-m) m I (qJ h (by rw[g.size];exact hm))));exact⟨g.rev 0 m,by lia,by lia,l.2.2.1⟩
def descPart{p:vi}{m:Nat}(M:Pm n p)(T:1<=m)(hm:m+1<=n)(h:Dn key p (m+1)):Wp (HI key) n (kas_descPart m n p) fun r=>Pm n r.2/\1<=r.1/\r.1<=n/\Up key r.2 r.1:=by
 unfold kas_descPart;refine Wp.bind _ (Wp.mono (fun r I=>?_) _ (desc (n-(m+1)) p (m+1) 0 M AC AC h ⟨by lia,fun k T U=>by rw[show k=m+1-1 by lia]⟩));obtain⟨a,b,c,d,e⟩:=I;have l:r.2.1<=r.1.size:=by rw[a.size];lia
 split
 .refine tail3 (a.rev _ _) AC AC fun i j g R=>?_;rw[rev_eq e l,rev_eq e l];exact d i j g R
 .exact tail3 a AC AC d
def count{p:vi}(g:Pm n p):Wp (HI key) n (kas_count n p) fun r=>Pm n r.2/\1<=r.1/\r.1<=n/\Up key r.2 r.1:=by
 have hn:=g.pos;unfold kas_count;refine Wp.bind _ (Wp.mono (fun m hm=>?_) _ (asc g (n-1) 1 SL Up.one));obtain⟨R,h2,M,h4⟩:=hm;split
 .exact⟨g,R,by lia,M⟩
 .rename_i T;have I:m≠n:=by simpa using T
  have Z:O.klt (Key key p m) yJ:=by
   rcases h4 with z|z
   .exact absurd AC I
   .exact z
  have Y:m<=p.size:=by rw[g.size];lia
  split
  .refine⟨g.lt _,g.lt _,?_⟩;cases c:HI key (p.getD 0 0) (p.getD (m-1) 0) with
   |true=>simp only[if_true];exact⟨g,R,by lia,M⟩
   |false=>
    simp only[Bool.false_eq_true,if_false];have all:∀k,k<m->Key key p k=Key key p (m-1):=fun k l=>KeyOrd.kle_antisymm (M k (m-1) AC AC) (KeyOrd.kle_trans (show O.kle yJ (Key key p 0) from c) (M 0 k AC l));have ek:∀k,Key key (kas_rev p 0 m) k=Key key p k:=fun k=>by
     by_cases l:k<m
     .have:Key key (kas_rev p 0 m) k=Key key p (0+m-1-k):=by
       unfold Key;rw[Kf Y,if_pos ⟨aW _,l⟩]
      rw[this,all _ AC,all k l]
     .unfold Key;rw[Kf Y,if_neg AC]
    refine descPart (g.rev _ _) R AC fun i j U hj=>?_;rw[ek,ek];by_cases e:j=m
    .subst e;by_cases e2:i=j
     .subst e2;exact bc _
     .rw[all i AC];exact KeyOrd.kle_of_klt Z
    .rw[all i AC,all j AC];exact bc _
  .have:m=1:=by lia
   subst this;refine descPart g R AC fun i j U hj=>?_;by_cases e:i=j
   .subst e;exact bc _
   .rw[show i=0 by lia,show j=1 by lia];exact KeyOrd.kle_of_klt Z
theorem place{p:Array Nat}{k:Nat}(g:Pm n p)(hs:Up key p k):∀(f l r:Nat),l<=r->r<=k->r-l<=f->(∀i,i<l->O.kle (Key key p i) (Key key p k))->(∀i,r<=i->i<k->O.klt (Key key p k) (Key key p i)) ->
  Wp (HI key) n (kas_place p k f l r) fun x=>x<=k/\(∀i,i<x->O.kle (Key key p i) (Key key p k))/\∀i,x<=i->i<k->O.klt (Key key p k) (Key key p i)
 |0,l,r,U,I,T,a,b=>by
  have:l=r:=by lia
  subst this;exact⟨I,a,b⟩
 |f+1,l,r,U,I,T,a,b=>by
  unfold kas_place;split
  .have:l=r:=by lia
   subst this;exact⟨I,a,b⟩
  .refine⟨g.lt _,g.lt _,?_⟩;cases c:HI key (p.getD k 0) (p.getD ((l+r) / 2) 0) with
   |true=>
    simp only[if_true];exact place g hs f l ((l+r) / 2) AC AC AC a fun i M R=>KeyOrd.klt_of_klt_of_kle (show O.klt (Key key p k) (Key key p ((l+r) / 2)) from c) (hs _ _ M R)
   |false=>
    simp only[Bool.false_eq_true,if_false];exact place g hs f ((l+r) / 2+1) r AC I AC (fun i M=>KeyOrd.kle_trans (hs i ((l+r) / 2) AC AC) (show O.kle (Key key p ((l+r) / 2)) (Key key p k) from c)) b
theorem bin:∀(f:Nat) (p:Array Nat) (k:Nat),Pm n p->1<=k->k+f=n->Up key p k->Wp (HI key) n (kas_bin f p k) fun r=>Pm n r/\Up key r n
 |0,p,k,g,_,hk,h=>by
  have:k=n:=by lia
  subst this;exact⟨g,h⟩
 |f+1,p,k,g,h1,hk,h=>by
  have M:k<p.size:=by rw[g.size];lia
  refine Wp.bind _ (Wp.mono (fun l Z=>?_) _ (place g h k 0 k (aW _) SL AC (fun i z=>absurd z AC) fun i U z2=>absurd U AC));obtain⟨Y,I,R⟩:=Z;refine bin f _ ii (g.bubble _ _) AC AC fun i j hij hj=>?_;have T:∀x,Key key (PyProof.Rows.bubble p k (k-l)) x=if x=l then Key key p k else if l<x/\x<=k then Key key p (x-1) else Key key p x:=fun x=>by
   unfold Key;rw[Wo M AC,show k-(k-l)=l by lia];split
   .rfl
   .split<;>rfl
  rw[T,T]
  repeat' split
  all_goals first
   |(exfalso;lia)
   |exact bc _
   |exact I _ AC
   |exact KeyOrd.kle_of_klt (R _ AC AC)
   |exact h _ _ AC AC
def sort(hn:0<n):Wp (HI key) n (kas_sort n) fun p=>Pm n p/\Up key p n:=by
 have l:Pm n (List.toArray (List.range n)):=⟨Array.Perm.refl _,hn⟩;unfold kas_sort;refine Wp.bind _ (Wp.mono (fun r g=>?_) _ (count l));obtain⟨a,b,c,d⟩:=g;split
 .rw[show max r.1 1=r.1 by lia];exact bin _ _ _ a b AC d
 .have:r.1=n:=by lia
  rw[this]at d;exact⟨a,d⟩
end
end SM
namespace TH
open PySem PySem.W PyProof.Rows PySem.SeqAt
section
variable{A:F0d}{E:ve}{s:SD}{a:AD}{Q:Bool->SD->Prop}
def Ws{M:Model}{h:Heap}{a:AD}{x:Array VL}(I:h.IsTuple a x):Looks M h (typeOf PZ) OZ:=by
 obtain⟨o,g,l,_⟩:=I;exact l ▸ (Looks.ld g).andThen .now
def j4{M:Model}{vs:vd}{Q:yx}(R:∀v∈vs,Looks M s.heap (typeOf v) OZ)(h0:vs=[]->Q none s)(T:Q (some OZ) s):wpAny M A (oneTypeOnly' vs.toArray) Q E s:=by
 rw[oneTypeOnly'_eq,List.mapM_toArray,map_eq_pure_bind];refine Wb (Wb (kas_mapM (r:=Value.type "tuple") _ (fun v l Y I=>(R v l).here I) lr));cases vs with
 |nil=>exact aB (h0 rfl)
 |cons f r=>
  have g:((List.map (fun _=>Value.type "tuple") (f::r)).toArray.all fun x=>x==Value.type "tuple")=true:=by
   simp only[List.all_toArray,List.all_map,List.all_eq_true];intro _ _
   rfl
  have U:(List.map (fun _=>Value.type "tuple") (f::r)).toArray[0]? = some (Value.type "tuple"):=by simp
  rw[U];simp only[g,if_true];exact aB T
theorem Uo{α:Type}{cmp:Nat->Nat->(Bool->SD->Prop)->SD->Prop}{lt:Nat->Nat->Bool}{n:Nat}{Q':α->Prop}(g:∀i j C,i<n->j<n->C (lt i j) s->cmp i j C s):∀T:KasT α,SM.Wp lt n T Q'->T.kasWp cmp (fun a s'=>s'=s/\Q' a) s
 |.ret a,h=>⟨rfl,h⟩
 |.ask i j k,h=>g i j _ h.1 h.2.1 (Uo g (k (lt i j)) h.2.2)
end
def map_getD{α:Type}(d:α)(l:wq):(List.range l.length).map (fun i=>l.getD i d)=l:=by
 refine List.ext_getElem A1 fun i I g=>?_;simp[g]
section
def fL(b:Bool)(us:vd)(g:us.length<2):(if b=true then((if b=true then(us.toArray.zip us.toArray).reverse else us.toArray.zip us.toArray).map zm).reverse else(if b=true then(us.toArray.zip us.toArray).reverse else us.toArray.zip us.toArray).map zm)=us.toArray:=by
 match us,g with
 |[],_=>cases b<;>simp
 |[x],_=>cases b<;>simp
end
end TH
namespace ET
open PySem
section
variable{prog:F0b}{w:F0c}{A:F0d}{E:ve}{s:SD}
def next_item{it t:AD}{i:Nat}{items}{x:VL}{Q:ve}(hit:s.heap.IsTupleIter it t i)(R:s.heap.IsTuple t items)(M:items[i]? = some x) (U:∀h',h'.IsTupleIter it t Pi->Heap.SameBut it s.heap h'->Q x dL):wpAny By A (Builtin.SmallTypes.nextOf rs) Q E s:=by
 obtain⟨o,g,T,hd⟩:=id hit;obtain⟨ol,l,_,nl,I⟩:=R;unfold Builtin.SmallTypes.nextOf;refine Wb (av (name:=Str.ofString "__next__") hit.typeIs F.slot_tuple_iterator_next
  (bA F.slot_tuple_iterator_next hit.typeIs F.entry_tuple_iterator_next ?_ (F.args_tuple_iterator_next_1 _)))
 show wpAny _ _ (field rs 0>>=_) _ _ s;refine Wb (au g hd (x:=.ref t) rfl ?_);show wpAny _ _ (if zAV=true then _ else _) _ _ s;rw[if_neg (show ¬(zAV=true) from aL)];show wpAny _ _ (field rs 1>>=_) _ _ s;refine Wb (au g hd (x:=.int i 0) rfl ?_);show wpAny _ _ (seqItems? (.ref t)>>=_) _ _ s;refine Wb (bg l I ?_);simp only[Int.toNat_natCast,M];refine Wb (wpAny_setField g hd A1 (aB ⟨x,rfl,wpAny_pure (U _ ?_ (Heap.SameBut.update ..))⟩));exact⟨_,Heap.get?_update_self _ g (Obj.isFreed_of_fields (Obj.data_mapFields hd _)),(Obj.cls_mapFields ..).trans T,by
  rw[Obj.data_mapFields hd];simp[rawInt]⟩
def next_end{it t:AD}{i:Nat}{items}{Q:ve}(M:xR)(hit:s.heap.IsTupleIter it t i)(T:s.heap.IsTuple t items)(R:items[i]? = none) (U:∀h' e,Heap.ExtBut it s.heap h'->(∃o,h'.get? e=some o/\o.cls=.type "StopIteration")->E (.ref e) dL):wpAny By A (Builtin.SmallTypes.nextOf rs) Q E s:=by
 obtain⟨o,l,Y,hd⟩:=id hit;obtain⟨ol,g,_,nl,I⟩:=T;unfold Builtin.SmallTypes.nextOf;refine Wb (av (name:=Str.ofString "__next__") hit.typeIs F.slot_tuple_iterator_next
  (bA F.slot_tuple_iterator_next hit.typeIs F.entry_tuple_iterator_next ?_ (F.args_tuple_iterator_next_1 _)))
 show wpAny _ _ (field rs 0>>=_) _ _ s;refine Wb (au l hd (x:=.ref t) rfl ?_);show wpAny _ _ (if zAV=true then _ else _) _ _ s;rw[if_neg (show ¬(zAV=true) from aL)];show wpAny _ _ (field rs 1>>=_) _ _ s;refine Wb (au l hd (x:=.int i 0) rfl ?_);show wpAny _ _ (seqItems? (.ref t)>>=_) _ _ s;refine Wb (bg g I ?_);simp only[Int.toNat_natCast,R];refine Wb (ba (Wb (wpAny_setField l hd A1 ?_)));show wpAny _ _ (newExc (.type "StopIteration") []>>=_) _ _ _;refine Wb ?_;simp only[newExc,newTuple];refine Wb (aY ?_ (by size_fits));refine Wb (m:=firstArgMember _ _) (bY (a:=Value.none) (by first|rfl|(simp only[firstArgMember];rfl)) ?_);refine aY ?_ (by size_fits);simp only[raiseNew];refine Wb (wpAny_handled ?_)
 first|rw[show A.in1.handled=none from M]|rw[M]
 refine Wb (aB (wpAny_throw ?_));exact U _ _ (((Heap.SameBut.update ..).extBut.push _).push _) ⟨_,Heap.get?_push_size _ rfl,rfl⟩
end
def draws{prog:F0b}{w:F0c}{A:F0d}(hh:xR)(it a:AD)(its:vd)(hne:a≠it) :
  Draws prog w A it [it,a] its.length (fun i x=>its[i]? = some x) (fun i h=>h.IsTupleIter it a i/\h.IsTuple a its.toArray) where
 live:=fun i h st=>let⟨o,e,_⟩:=st.1;⟨o,e⟩
 frame:=fun i h h' st k=>by
  obtain⟨⟨o,e,r⟩,o2,e2,r2⟩:=st;exact⟨⟨o,k it A1 o e,r⟩,o2,k a A1 o2 e2,r2⟩
 item:=fun i s Q E hi st hQ=>next_item st.1 st.2 (x:=its[i]) (by simp[hi]) fun h' st' sb=>
  hQ _ h' s.toks (by simp[hi]) ⟨st',let⟨o,e,r⟩:=st.2;⟨o,(sb.2 a hne).trans e,r⟩⟩ sb
 done:=fun s Q E st hE=>next_end hh st.1 st.2 A1 hE
end ET
namespace L2
open PySem PySem.Spec PyProof.Rows
section
variable{X:Cx}{pins:Cl}{σ:St}{H:Hp}{s:SD}{h':Heap}{tk:Nat}{ch:vz}
def Inv.turn(I:Db)(M:∀b∈ch,HB X pins H b)(keep:∀b o,b ∉ ch->s.heap.get? b=some o->h'.get? b=some o):Inv X pins σ H Tl:=by
 have Pu:∀b o,H b=some o->b ∉ ch:=fun b o q l=>by rw[(M b l).1]at q;cases q
 show Inv X pins σ _ {s with heap:=h',gens:=s.gens,drawn:=s.drawn,toks:=tk};refine I.step (h':=h') (g':=s.gens) (d':=s.drawn) (t':=tk) (ch:=ch) (fun b l=>?_) (fun b o _ _ g q _=>keep b o g q) (fun b o _ _ g q _=>⟨o.slots,keep b o g q⟩)
  (fun b o _ q n=>n) (fun b o g q=>⟨o,keep b o g q⟩) (fun b ys q=>q) (fun b o u q=>q)
  (fun b ps q=>⟨#[],by rw[q];simp⟩) (fun b _ o g _ q=>keep b o g q) (fun m hm=>?_) (fun b o q=>?_) I.bare
 .obtain⟨_,f1,_,Y,U,T⟩:=M b l;exact⟨Y,f1,U,T⟩
 .obtain⟨o,Z,ep,R,r⟩:=hm;exact⟨o,Z,ep,keep _ o (fun l=>(M _ l).2.1 rfl) R,r⟩
 .refine(I.Ay b o q).Hd (fun c w g r=>keep c w ?_ r) (fun c r=>r) fun c ys r=>r;rcases g with rfl|g
  .exact Pu _ _ q
  .exact Pu _ _ g
def Inv.e8(I:Db)(R:∀b∈ch,HB X pins H b)(keep:∀b o,b ∉ ch->s.heap.get? b=some o->h'.get? b=some o){xs:vx}{us:vd}(U:xs.length<=sizeLine)(T:Vals xs us) (Z:h'.get? s.heap.objs.size=some { cls:=.type "tuple",data:=.seq us.toArray}):Inv X pins σ (upd H s.heap.objs.size Pt) Tl:=by
 have l:H s.heap.objs.size=none:=I.Ay.fresh SL;have neT:∀b o,s.heap.get? b=some o->b≠s.heap.objs.size:=fun b o q=>aP (aE q);have Pu:∀b o,H b=some o->b ∉ ch:=fun b o q M=>by rw[(R b M).1]at q;cases q
 show Inv X pins σ _ {s with heap:=h',gens:=s.gens,drawn:=s.drawn,toks:=tk};refine I.step (h':=h') (g':=s.gens) (d':=s.drawn) (t':=tk) (ch:=ch) (fun b M=>?_) (fun b o _ _ g q _=>keep b o g q) (fun b o _ _ g q _=>⟨o.slots,keep b o g q⟩)
  (fun b o _ q n=>by rw[Ae (neT b o q)];exact n) (fun b o g q=>⟨o,keep b o g q⟩) (fun b ys q=>by rw[Ae (Bm q l)];exact q) (fun b o u q=>by rw[Ae (Bm q l)];exact q)
  (fun b ps q=>⟨#[],by rw[Ae (Bm q l),q];simp⟩) (fun b _ o g _ q=>keep b o g q) (fun m hm=>?_) (fun b o q=>?_) I.bare
 .obtain⟨_,f1,_,f3,f4,f5⟩:=R b M;exact⟨f3,f1,f4,f5⟩
 .obtain⟨o,es,ep,Y,r⟩:=hm;exact⟨o,es,ep,keep _ o (fun M=>(R _ M).2.1 rfl) Y,r⟩
 .by_cases M:b=s.heap.objs.size
  .subst M;rw[An]at q;cases q;exact⟨U,us,T,_,Z,rfl,_,rfl⟩
  .rw[Ae M]at q;refine(I.Ay b o q).Hd (fun c w g r=>keep c w ?_ r) (fun c r=>by rw[Ae (Bm r l)];exact r) fun c ys r=>by rw[Ae (Bm r l)];exact r
   rcases g with rfl|g
   .exact Pu _ _ q
   .exact Pu _ _ g
end
def Ts(H:Hp):Tr->List V->Prop
 |.nil,xs=>xs=[]
 |.cons b r,xs=>∃(a:AD) (ys g:UF),xs=.ref a::g/\H a=some (.tup ys)/\Ts H b ys/\Ts H r g
def Tv(H:Hp)(t:Tr)(v:V):Prop:=∃(a:AD) (ys:UF),v=.ref a/\H a=some (.tup ys)/\Ts H t ys
def Ts.same{H H':Hp}(e:AY H H'):∀ {t:Tr} {xs:UF},Ts H t xs->Ts H' t xs
 |.nil,xs,h=>by rw[Ts]at h ⊢;exact h
 |.cons b r,xs,h=>by
  rw[Ts]at h ⊢;obtain⟨a,ys,g,R,M,I,l⟩:=h;exact⟨a,ys,g,R,e _ _ M,I.same e,l.same e⟩
def Tv.same{H H':Hp}{t:Tr}{v:V}(h:Tv H t v)(e:AY H H'):Tv H' t v:=let⟨a,ys,I,l,g⟩:=h;⟨a,ys,I,e _ _ l,g.same e⟩
end L2
namespace TH
open PySem PySem.W PyProof.Rows PySem.SeqAt
section
def SR(a:AD):Builtin.«list.sort» ⟨[.ref a],[]⟩=Builtin.«list.sort» ⟨[.ref a],[(Str.ofString "reverse",.bool false)]⟩:=by
 rw[list_sort_rev,list_sort_plain]
 rfl
end
end TH
namespace Tim
open PySem PyProof.Rows
section pure
end pure
section
section pure
end pure
section pure
end pure
end
end Tim
namespace GS
open PySem PySem.W PyProof.Rows PySem.SeqAt
abbrev Ext(h0 h:Heap):Prop:=∀c o,h0.get? c=some o->h.get? c=some o
def Rq(O:KeyOrd)(prog:F0b)(w:F0c)(κ:SortKind)(A:F0d)(s:SD)(ks:List O.α)(us:vd):Prop :=
 ∀(E:zV) (i j:Nat) (x y:O.α) (u v:VL) (Q:Bool->SD->Prop),us[i]? = some u->us[j]? = some v->ks[i]? = some x->ks[j]? = some y->Q (O.blt x y) s->wpAny By A (keyLt' κ u v) Q E s
structure XW(O:KeyOrd)(prog:Program)(w:World)(h0:Heap)(r:Nat)(ks:List O.α)(us:List Value):Prop where
 len:us.length=ks.length
 go:∃ok:SortKind->Prop,(∀(A:Around) (E:zAc) (s:Shared) (Q:SortKind->Shared->Prop),Ext h0 s.heap->(∀κ,ok κ->Q κ s)->wpAny By A (keyKind' us.toArray) Q E s) /\
  ∀(A:Around) (s:Shared) (κ:SortKind),Ext h0 s.heap->A.units+r<cLine->ok κ->Rq O prog w κ A s ks us
def Runs(O:KeyOrd)(prog:F0b)(w:F0c)(ks:List O.α):Prop :=
 ∀(d:O.α) (A:F0d) (E:zV) (s:SD) (κ:SortKind) (g:S0),g.length=ks.length->2<=g.length->Rq O prog w κ A s ks g ->
  wpAny By A ((sortRuns').run (SortSt.mk' κ (g.toArray.zip g.toArray) #[] 7 none)) (fun r s'=>s'=s/\failedOf r.2=none/\∃ix:List Nat,ix.Perm (List.range g.length) /\
   (arrOf r.2).map zm=(ix.map fun i=>g.getD i Value.none).toArray/\(ix.map fun i=>ks.getD i d).Pairwise O.kle) E s
def Rb{O:KeyOrd}{prog:F0b}{w:F0c}{ks:List O.α}(R:ks.length<64):Runs O prog w ks:=by
 intro d A E s κ g hl h2 ask;have R:g.length<64:=by lia
 refine kat_run (Q:=fun l s'=>s'=s/\failedOf l=none/\∃ix:List Nat,ix.Perm (List.range g.length)/\(arrOf l).map zm=(ix.map fun i=>g.getD i Value.none).toArray/\(ix.map fun i=>ks.getD i d).Pairwise O.kle)
  (G:=fun p s'=>s'=s/\SM.Pm g.length p/\SM.Up (O:=O) (fun i=>ks.getD i d) p g.length) rfl h2 R (fun p l s' hp Z hf hG=>?_)
  (TH.Uo (lt:=SM.HI (O:=O) fun i=>ks.getD i d) (n:=g.length) (fun i j C hi M T=>?_) _ (SM.sort AC))
 .obtain⟨rfl,Y,U⟩:=hG;have h1:p.toList.Perm (List.range g.length):=by simpa using Array.perm_iff_toList_perm.mp Y.perm
  refine⟨rfl,hf,p.toList,h1,kat_snds rfl Z,?_⟩;refine List.pairwise_iff_getElem.mpr fun i j hi M hij=>?_;rw[wk,(Vg),hp]at hi M;have:=U i j AC M;have e1:∀k,k<g.length->∀I,(p.toList.map fun i=>ks.getD i d)[k]' I=ks.getD (p.getD k 0) d:=fun k I hk'=>by
   rw[List.getElem_map,Array.getElem_toList,Array.getD,dif_pos AC]
   rfl
  rw[e1 i hi,e1 j M];exact this
 .have gi:∀k,k<g.length->∃u x,g[k]? = some u/\ks[k]? = some x/\g.getD k Value.none=u/\ks.getD k d=x:=fun k I=>by
   refine⟨g[k],ks[k]' AC,List.getElem?_eq_getElem I,List.getElem?_eq_getElem AC,?_,?_⟩
   .rw[(Ct),List.getElem?_eq_getElem I];rfl
   .rw[(Ct),List.getElem?_eq_getElem AC];rfl
  obtain⟨u,x,q1,q2,q3,q4⟩:=gi i hi;obtain⟨v,y,r1,r2,r3,r4⟩:=gi j M;unfold kas_ask;rw[q3,r3];refine ask _ i j x y u v C q1 r1 q2 r2 ?_;have T:C (O.blt (ks.getD i d) (ks.getD j d)) s:=T;rw[q4,r4]at T;exact T
section
variable{O:KeyOrd}{prog:F0b}{w:F0c}{A:F0d}{E:ve}{s:SD}{h0:Heap}{r:Nat}{ks:List O.α}{us:vd}
def Rq.rev{κ:SortKind}(R:us.length=ks.length)(a:Rq O prog w κ A s ks us):Rq O prog w κ A s ks.reverse us.reverse:=fun E i j x y u v Q M I l g q=>by
 have b1:=(aF.mp M).1;have b2:=(aF.mp I).1;rw[(U9)]at b1 b2;rw[List.getElem?_reverse AC]at M I l g;rw[<-R]at l g;exact a E _ _ x y u v Q M I l g q
def gC{α:Type}{R:α->α->Prop}:∀ {l:wq},l.length<2->l.Pairwise R
 |[],_=>.nil
 |[_],_=>List.pairwise_singleton ..
 |_::_::_,h=>by simp at h;lia
def cg(d : O.α){a : AD}{n : Nat}{b : Bool}{P : PySem.Fin->SD->Prop}(C : XW O prog w h0 r ks us)(hx : Ext h0 s.heap)(ha0 : h0.objs.size<=a)(ho : s.heap.get? a = some (seqObj "list" us.toArray n))(hsz : us.length<=1000)(hr : Runs O prog w (if b then ks.reverse else ks))(hu : A.units + r < cLine) (h : ∀ ix : vv,ix.Perm xh->(ix.map fun i => ks.getD i d).Pairwise (fun x y => if b = true then O.kle y x else O.kle x y)->P (.done (.ret .none)) { s with heap:=sortedHeap s.heap a us (ix.map fun i => us.getD i Value.none).toArray }):wpAny By A (Builtin.«list.sort» ⟨[.ref a],[(Str.ofString "reverse",.bool b)]⟩) P E s:=by
  rw [list_sort_rev]
  have ha : a < s.heap.objs.size:=aE ho
  refine Wb (listItems_at ho rfl ?_)
  refine Wb (listUpdate_at ho rfl ?_ (by rw [(Cp),sizeLine_eq]; lia) (aW _))
  obtain ⟨e1,ho1⟩ : ∃ e1,(s.heap.update a (Obj.mapSeq fun _ => #[])).get? a = some (seqObj "list" #[] e1):=⟨_,get?_update_seq ho (fun _ => #[])⟩
  refine Wb (seqEpoch_at ho1 rfl ?_)
  refine Wb (wpAny_newTuple ?_ (by show us.length<=_; rw [sizeLine_eq]; lia))
  refine Wb (wpAny_newList ?_ (aW _))
  refine ao ?_
  have ho6 : (((s.heap.update a (Obj.mapSeq fun _ => #[])).push (seqObj "tuple" us.toArray 0)).push (seqObj "list" #[] 0)).get? a = some (seqObj "list" #[] e1):=by
    rw [Heap.get?_push_ne _ _ _ (by rw [size_push',Heap.size_update]; exact aP (Nat.lt_succ_of_lt ha)),Heap.get?_push_ne _ _ _ (by rw [Heap.size_update]; exact aP ha)]
    exact ho1
  have keep : Ext h0 (((s.heap.update a (Obj.mapSeq fun _ => #[])).push (seqObj "tuple" us.toArray 0)).push (seqObj "list" #[] 0)):=fun c o hc => by
    have hlt : c < h0.objs.size:=aE hc
    have hne : c≠a:=fun z => Nat.not_lt.mpr ha0 (z ▸ hlt)
    refine aD _ (aD _ ?_)
    rw [Heap.get?_update_ne _ _ _ _ hne]
    exact hx c o hc
  show wpAny By A _ P E Fa
  dsimp only
  have step : ∀ T : Sem PySem.Fin,wpAny By A T P E Fa ->
      wpAny By A (if b = true then (do let _ <- rule "list.sort.reverse"; T) else T) P E Fa:=by
    intro T hT
    split
    . exact Wb (ba hT)
    . exact hT
  refine step _ ?_
  obtain ⟨ok,hkind,hask⟩:=C.go
  have hl:=C.len
  by_cases h2 : us.toArray.size < 2
  . rw [if_pos h2,if_pos h2]
    refine Wb lr
    rw [StateT.run_pure]
    refine Wb lr
    dsimp only
    have hz : us.length < 2:=by simpa using h2
    have hout:=TH.fL b us hz
    refine Wb (seqEpoch_at ho6 rfl ?_)
    refine Wb (listUpdate_at ho6 rfl ?_ (aW _) (by
      refine aK (Nat.le_of_eq (aH Array.size hout)) ?_
      rw [(Cp),sizeLine_eq]; lia))
    simp only [bne_self_eq_false,Bool.false_eq_true,if_false]
    have fin:=h xh (.refl _) (gC (by simpa using hz))
    rw [TH.map_getD] at fin
    rw [<- hout] at fin
    exact aB fin
  . rw [if_neg h2,if_neg h2]
    have hz : 2<=us.length:=by simpa using h2
    refine Wb (hkind A E Fa _ keep fun κ hκ => ?_)
    have ask:=hask A Fa κ keep hu hκ
    obtain ⟨ws,kw,aw,hwl,hwk,hws,hrw,pick⟩ : ∃ (ws : List VL) (kw : List O.α),Rq O prog w κ A { s with heap:=((s.heap.update a (Obj.mapSeq fun _ => #[])).push (seqObj "tuple" us.toArray 0)).push (seqObj "list" #[] 0) } kw ws/\ws.length = us.length/\ws.length = kw.length /\
        (if b = true then (us.toArray.zip us.toArray).reverse else us.toArray.zip us.toArray) = ws.toArray.zip ws.toArray/\Runs O prog w kw /\
        ∀ ix : List Nat,ix.Perm (List.range ws.length)->(ix.map fun i => kw.getD i d).Pairwise O.kle->∃ iy : List Nat,iy.Perm xh/\(iy.map fun i => ks.getD i d).Pairwise (fun x y => if b = true then O.kle y x else O.kle x y) /\
          (if b = true then ((ix.map fun i => ws.getD i Value.none).toArray).reverse else (ix.map fun i => ws.getD i Value.none).toArray) = (iy.map fun i => us.getD i Value.none).toArray:=by
      cases b with
      | false => exact ⟨us,ks,ask,rfl,hl,rfl,hr,fun ix h1 h2 => ⟨ix,h1,by simpa using h2,rfl⟩⟩
      | true=>
        refine ⟨us.reverse,ks.reverse,ask.rev hl,by simp,by simp [hl],kat_pairs (ks:=us) (vs:=us) true rfl,hr,fun ix h1 h2 => ⟨(ix.map fun i => us.length - 1 - i).reverse,?_,?_,?_⟩⟩
        . rw [(U9)] at h1
          refine (List.reverse_perm _).trans ((h1.map fun i => us.length - 1 - i).trans ?_)
          have : (List.range us.length).map (fun i => us.length - 1 - i) = (List.range us.length).reverse:=by
            refine List.ext_getElem A1 fun i a1 a2 => ?_
            simp
          rw [this]
          exact List.reverse_perm _
        . have hb : ∀ i∈ix,i < us.length:=fun i hi => by simpa using h1.mem_iff.mp hi
          have e : ((ix.map fun i => us.length - 1 - i).reverse.map fun i => ks.getD i d) = (ix.map fun i => ks.reverse.getD i d).reverse:=by
            rw [List.map_reverse,(Cu)]
            congr 1
            exact ak fun i hi => by
              have:=hb i hi
              show ks.getD (us.length - 1 - i) d = _
              rw [(Ct),(Ct),List.getElem?_reverse AC,hl]
          rw [e,List.pairwise_reverse]
          simpa using h2
        . have hb : ∀ i∈ix,i < us.length:=fun i hi => by simpa using h1.mem_iff.mp hi
          rw [if_pos rfl,List.map_reverse,(Cu),List.reverse_toArray]
          congr 2
          exact ak fun i hi => by
            have:=hb i hi
            show us.reverse.getD i Value.none = us.getD (us.length - 1 - i) Value.none
            rw [(Ct),(Ct),List.getElem?_reverse AC]
    rw [hws]
    refine Wb (aM (hrw d A E Fa κ ws hwk AC aw) ?_ fun _ _ z => z)
    rintro ⟨⟨⟩,st'⟩ s' ⟨rfl,hf,ix,hix,hout,hst⟩
    dsimp only
    refine Wb (seqEpoch_at ho6 rfl ?_)
    obtain ⟨iy,y1,y2,hfin⟩ : ∃ iy : List Nat,iy.Perm (List.range us.length)/\(iy.map fun i => ks.getD i d).Pairwise (fun x y => if b = true then O.kle y x else O.kle x y) /\
        (if b = true then ((arrOf st').map (·.2)).reverse else (arrOf st').map (·.2)) = (iy.map fun i => us.getD i Value.none).toArray:=by
      rw [show (arrOf st').map zm = _ from hout]
      exact pick ix hix hst
    refine Wb (listUpdate_at ho6 rfl ?_ (aW _) (by
      refine aK (Nat.le_of_eq (aH Array.size hfin)) ?_
      have:=y1.length_eq
      rw [List.length_range] at this
      rw [(Cp),wk,this,sizeLine_eq]; lia))
    rw [show failedOf st' = none from hf]
    simp only [bne_self_eq_false,Bool.false_eq_true,if_false]
    have fin:=h iy y1 y2
    rw [<- hfin] at fin
    exact aB fin
def SE(prog:F0b)(w:F0c)(A:F0d)(E:ve)(s:SD)(v:VL)(us:vd):Prop :=
 ∀Q:List VL->SD->Prop,(∀(g:Heap) (tk:Nat),Ext s.heap g->s.heap.objs.size<=g.objs.size->Q us {s with heap:=g,toks:=tk})->wpAny By A (collect v) Q E s
def Vj{l:AD}(I:s.heap.IsList l us.toArray)(M:us.length<=1000):SE prog w A E s (.ref l) us:=fun Q h=>by
 refine collect_list I (h _ _ (fun c o q=>?_) ?_) (by rw[sizeLine_eq];lia)
 .have g:c<s.heap.objs.size:=aE q;rw[Heap.get?_update_ne _ _ _ _ (aP g),Heap.get?_push_ne _ _ _ (aP g)];exact q
 .rw[Heap.size_update,size_push']
  lia
def Wt(d:O.α){b:Bool}{Q:ve}{g:Heap}{tk:Nat}{T:Sem PySem.Fin}(C:XW O prog w s.heap r ks us)(hsz:us.length<=1000)(hr:Runs O prog w (if b then ks.reverse else ks))(l:Ext s.heap g)(Y:s.heap.objs.size<=g.objs.size) (h:∀(h':Heap) (D tk:Nat) (ix:vv) (M:Nat),s.heap.objs.size<=D->Ext s.heap h'->h'.get? D=some (seqObj "list" (ix.map fun i=>us.getD i Value.none).toArray M)->ix.Perm xh->(ix.map fun i=>ks.getD i d).Pairwise (fun x y=>if b=true then O.kle y x else O.kle x y)->Q (.ref D) Tl):(g.push lb).get? g.objs.size=some lb/\Ext s.heap (g.push lb) /\∀ix:vv,ix.Perm xh->(ix.map fun i=>ks.getD i d).Pairwise (fun x y=>if b=true then O.kle y x else O.kle x y)->Q (.ref g.objs.size) {s with heap:=sortedHeap (g.push lb) g.objs.size us (ix.map fun i=>us.getD i Value.none).toArray,toks:=tk}:=by
 have U:(g.push lb).get? g.objs.size=some lb:=aa _ rfl;refine⟨U,fun b u e=>aD _ (l b u e),fun ix p1 Z=>?_⟩;obtain⟨M,I⟩:=sortedHeap_at (vs:=us) (out:=(ix.map fun i=>us.getD i Value.none).toArray) U;refine h _ g.objs.size tk ix M Y (fun b u e=>?_) I p1 Z;have R:b<g.objs.size:=aE (l b u e);rw[sortedHeap_old (aP R) (by rw[Heap.size_push];exact Nat.lt_succ_of_lt R)];exact aD _ (l b u e)
def Vn(d:O.α){v:VL}{Q:ve}(G:SE prog w A.in1 E s v us)(C:XW O prog w s.heap r ks us)(hsz:us.length<=1000)(I:Runs O prog w ks)(hu:A.units+2+r<cLine) (h:∀(h':Heap) (D tk:Nat) (ix:vv) (g:Nat),s.heap.objs.size<=D->Ext s.heap h'->h'.get? D=some (seqObj "list" (ix.map fun i=>us.getD i Value.none).toArray g)->ix.Perm xh->(ix.map fun i=>ks.getD i d).Pairwise O.kle->Q (.ref D) Tl):wpAny By A (call zAY [v]) Q E s:=by
 refine Calls.call_function_entry kind_sorted plain_sorted entry_sorted (args_sorted1 _) ?_;unfold Builtin.«sorted»;refine Wb (m:=checkCount "sorted" 1 1 _) lr;refine Wb (G _ fun h1 tk U l=>?_);refine Wb (wpAny_newList ?_ (by rw[sizeLine_eq];lia));obtain⟨M,R,fin⟩:=Wt (T:=pure (.done (.ret .none))) (tk:=tk) (b:=false) d C hsz (by simpa using I) U l (fun h' D tk ix g a1 a2 a3 a4 a5=>h h' D tk ix g a1 a2 a3 a4 (by simpa using a5));refine Wb (ao (bA slot_list_sort ⟨_,M,rfl⟩ entry_list_sort ?_ (args_list_sort _)));rw[TH.SR];refine cg (s:={s with heap:=h1.push lb,toks:=tk}) d C R l M hsz (by simpa using I) (by rw[show A.in1.in1.units=A.units+2 from rfl];lia) fun ix Z Y=>⟨_,rfl,?_⟩;exact aB ⟨_,rfl,fin ix Z Y⟩
end
end GS
namespace L2
open PySem PySem.Spec PyProof.Rows
theorem Vals.pick{xs:UF}{us:S0}(r:Vals xs us):∀ix:List Nat,(∀i∈ix,i<xs.length)->Vals (ix.map fun i=>xs.getD i .BS) (ix.map fun i=>us.getD i Value.none)
 |[],_=>.nil
 |i::ix,h=>by
  refine .cons ?_ (Vals.pick r ix fun k g=>h k (aT _ g));have hi:=h i bK;obtain⟨u,I,l⟩:=r.get (i:=i) (x:=xs[i]) (by simp[hi]);show RelV (xs.getD i .BS) (us.getD i Value.none);rw[(Ct),(Ct),I,List.getElem?_eq_getElem hi];exact l
section
variable{X:Cx}
def ou{e k:Expr}{Y tk:TE}{pos p2:Pos}(he:PE X e Y)(hk:PE X k tk):PE X (.Subscript e (.Slice none none (some k) p2) pos) (fun σ H Q=>Y σ H fun x U=>tk σ U fun z R=>∃(a:AD) (xs:vx),x=.ref a/\z=.int (-1)/\BR X.K R a xs/\∀p,R p=none->Q yI (upd R p (.lst xs.reverse))):=by
 intro pins s σ H Q I h;refine Subscript_ (A2 Pg fun v s1 ⟨x,U,I1,r1,q1⟩=>?_);refine wpAny_Slice ?_;rw[evalPart_none];refine aB ?_;refine aB ?_;rw[evalPart_some];refine A2 (hk pins s1 σ U _ I1 q1) fun vk s3 ⟨z,H3,I3,r3,q3⟩=>?_;obtain⟨a,xs,rfl,rfl,hq,q⟩:=q3;cases r1;obtain⟨g,rfl⟩:=r3;have M:Inv X pins σ H3 yR:=I3.kept (t':=s3.toks) fun b ob q=>aD _ q;obtain⟨l,Z,pl,hz⟩:=M.list hq;have hlen:=Z.length;show wpAny AT X.A (subscriptTail e (.Slice none none (some k) p2) PZ xE) Ix X.xe yR;refine tail_any (ops:=[.ref a,.ref s3.heap.objs.size]) (T := "list") pl.isList.typeIs slot_list_getitem.lookup ?_ wR;refine wpAny_getItem_list_slice pl.isList (Heap.IsSliceOf.new ..) .none .none (.int (-1) g) AS ?_ (by rw[(Cp)]<;>lia);rw[PySem.W.krv_pick];refine⟨.ref _,_,M.laid (t':=s3.toks) (o:=.lst xs.reverse) xH SL ?_,rfl,q _ (M.Ay.fresh SL)⟩;exact⟨by rw[(U9)];exact hz,l.reverse,0,Z.reverse,Heap.get?_push_size _ rfl⟩
end
def CW(Pv:z9)(n:Nat)(D:AD):Nat->Nat->List V->Hp->Prop:=fun i m ys H=>m=n-i/\i<=n/\H D=some KM/\Pv i ys H
def Sj{Pv:z9}{n i:Nat}{D:AD}{ys:vx}{y:V}{H:Hp}(hi:i<n)(p:Pv Pi (ys++[y]) (upd H D zBL)):∃g,g<n-i/\CW Pv n D Pi g (ys++[y]) (upd H D zBL) :=
 ⟨n-Pi,by lia,rfl,hi,An,p⟩
def SF{Pv:z9}{n i:Nat}{D:AD}{ys:vx}{H:Hp}(hi:i<n)(l:H D=some KM)(p:Pv Pi ys H):∃g,g<n-i/\CW Pv n D Pi g ys H:=⟨n-Pi,by lia,rfl,hi,l,p⟩
def XS{J:It}{n:Nat}{D:AD}{H1:Hp}{fr:v8}{σ:St}{ix:Nat}{I:TT}{Z:TE}{G:Hp->Prop}(Pv:z9)(h0:Pv 0 [] (upd H1 D v3)) (U:∀i ys H,i<n->Pv i ys H->H D=some KM->J.go i H/\ys.length<sizeLine/\∀x H',J.FE i H x H' ->I zBB H' fun b R=>if b=true then Z zBB R fun y M=>M D=some KM/\∃g,g<n-i/\CW Pv n D Pi g (ys++[y]) (upd M D zBL) else ∃g,g<n-i/\CW Pv n D Pi g ys R) (l:∀ys H,Pv n ys H->H D=some KM->J.stop n H/\G H):∃W:Nat->Nat->List V->Hp->Prop,(∃m,W 0 m [] (upd H1 D v3)) /\∀i m ys H,W i m ys H->H D=some KM/\((J.stop i H/\G H)\/(J.go i H/\ys.length<sizeLine/\∀x H',J.FE i H x H' ->I zBB H' fun b R=>if b=true then Z zBB R fun y M=>M D=some KM/\∃g,g<m/\W Pi g (ys++[y]) (upd M D zBL) else ∃g,g<m/\W Pi g ys R)):=by
 refine⟨CW Pv n D,⟨n,by simp,Nat.zero_le _,An,h0⟩,?_⟩;rintro i m ys H ⟨rfl,hi,Y,p⟩;refine⟨Y,?_⟩;by_cases T:i<n
 .exact .inr (U i ys H T p Y)
 .have e:i=n:=by lia
  subst e;exact .inl (l ys H p Y)
mutual
def Dt(l:AD)(H:Hp):PD->V->Prop
 |.none,v=>v=.BS
 |.bool b,v=>v=.bl b
 |.int i,v=>v=.int i
 |.str x,v=>v=.str x
 |.tuple ds,v=>∃(a:AD) (xs:UF),v=.ref a/\a≠l/\H a=some Pt/\BK l H ds xs
 |.list ds,v=>∃(a:AD) (xs:UF),v=.ref a/\a≠l/\H a=some SB/\BK l H ds xs
 |.dict _,_=>False
def BK(l:AD)(H:Hp):List PD->List V->Prop
 |[],xs=>xs=[]
 |d::ds,xs=>∃x r,xs=x::r/\Dt l H d x/\BK l H ds r
end
mutual
theorem Dt.but{l:AD}{H H':Hp}(e:SameBut l H H'):∀ {d:PD} {v:V},Dt l H d v->Dt l H' d v
 |.none,_,h=>by rw[Dt]at h ⊢;exact h
 |.bool _,_,h=>by rw[Dt]at h ⊢;exact h
 |.int _,_,h=>by rw[Dt]at h ⊢;exact h
 |.str _,_,h=>by rw[Dt]at h ⊢;exact h
 |.tuple _,_,h=>by
  rw[Dt]at h ⊢;obtain⟨a,xs,M,n,I,g⟩:=h;exact⟨a,xs,M,n,e _ _ n I,BK.but e g⟩
 |.list _,_,h=>by
  rw[Dt]at h ⊢;obtain⟨a,xs,M,n,I,g⟩:=h;exact⟨a,xs,M,n,e _ _ n I,BK.but e g⟩
 |.dict _,_,h=>by rw[Dt]at h;exact h.elim
theorem BK.but{l:AD}{H H':Hp}(e:SameBut l H H'):∀ {ds:wV} {xs:UF},BK l H ds xs->BK l H' ds xs
 |[],_,h=>by rw[BK]at h ⊢;exact h
 |_::_,_,h=>by
  rw[BK]at h ⊢;obtain⟨x,r,M,I,g⟩:=h;exact⟨x,r,M,Dt.but e I,BK.but e g⟩
end
def Dt.same{l:AD}{H H':Hp}{d:PD}{v:V}(h:Dt l H d v)(e:AY H H'):Dt l H' d v:=Dt.but (.of e) h
theorem BK.len{l:AD}{H:Hp}:∀ {ds:wV} {xs:UF},BK l H ds xs->xs.length=ds.length
 |[],_,h=>by rw[BK]at h;rw[h];rfl
 |_::_,_,h=>by
  rw[BK]at h;obtain⟨x,r,rfl,_,g⟩:=h;rw[(Fv),(Fv),BK.len g]
def BK.get{l:AD}{H:Hp}:∀ {ds:wV} {xs:UF} {i:Nat} {v:V},BK l H ds xs->xs[i]? = some v->∃d,ds[i]? = some d/\Dt l H d v
 |[],_,i,v,h,e=>by rw[BK]at h;subst h;simp at e
 |d::ds,_,i,v,h,e=>by
  rw[BK]at h;obtain⟨x,r,rfl,R,M⟩:=h;cases i with
  |zero=>simp at e;subst e;exact⟨d,rfl,R⟩
  |succ i=>
   obtain⟨c,I,g⟩:=M.get (i:=i) (v:=v) w4;exact⟨c,by simpa using I,g⟩
def BK.nil{l:AD}{H:Hp}:BK l H [] []:=by rw[BK]
def BK.cons{l:AD}{H:Hp}{d:PD}{ds:vc}{x:V}{xs:vx}(h:Dt l H d x)(k:BK l H ds xs):BK l H (d::ds) (x::xs):=by
 rw[BK];exact⟨x,xs,rfl,h,k⟩
def Dt.int{l:AD}{H:Hp}{i:Int}:Dt l H wN wN:=by rw[Dt]
def Dt.bool{l:AD}{H:Hp}{b:Bool}:Dt l H (.bool b) (.bl b):=by rw[Dt]
def Dt.BS{l:AD}{H:Hp}:Dt l H .none .BS:=by rw[Dt]
def Dt.str{l:AD}{H:Hp}{x:Str}:Dt l H L6 L6:=by rw[Dt]
def Dt.tup{l a:AD}{H:Hp}{ds:vc}{xs:vx}(n:a≠l)(h:H a=some Pt)(k:BK l H ds xs):Dt l H (.tuple ds) PZ:=by rw[Dt];exact⟨a,xs,rfl,n,h,k⟩
def Dt.lst{l a:AD}{H:Hp}{ds:vc}{xs:vx}(n:a≠l)(h:H a=some SB)(k:BK l H ds xs):Dt l H (.list ds) PZ:=by rw[Dt];exact⟨a,xs,rfl,n,h,k⟩
mutual
theorem WX:∀d:PD,d.canLay0=true->PyData.eqv d d=true
 |.none,_=>by simp[PyData.eqv]
 |.bool _,_=>by simp[PyData.eqv]
 |.int _,_=>by simp[PyData.eqv]
 |.str _,_=>by simp[PyData.eqv]
 |.tuple ds,h=>by simp only[PyData.eqv];exact Lb ds (by simpa only[PyData.canLay0]using h)
 |.list ds,h=>by simp only[PyData.eqv];exact Lb ds (by simpa only[PyData.canLay0]using h)
 |.dict _,h=>by simp[PyData.canLay0]at h
theorem Lb:∀ds:List PD,PyData.canLayAll0 ds=true->PyData.eqvAll ds ds=true
 |[],_=>by simp[PyData.eqvAll]
 |d::ds,h=>by
  simp only[PyData.canLayAll0,Bool.and_eq_true]at h;simp only[PyData.eqvAll,WX d h.1,Lb ds h.2,Bool.and_self]
end
def NZ:PD->String
 |.none => "NoneType"
 |.bool _ => "bool"
 |.int _ => "int"
 |.str _ => "str"
 |.tuple _ => "tuple"
 |.list _ => "list"
 |.dict _ => "dict"
def Dt.ty{K:Fg}{l:AD}{H:Hp}:∀ {d:PD} {v:V},Dt l H d v->HE K H v yh
 |.none,_,h=>by rw[Dt]at h;subst h;exact .BS
 |.bool _,_,h=>by rw[Dt]at h;subst h;exact .bl _
 |.int _,_,h=>by rw[Dt]at h;subst h;exact .int _
 |.str _,_,h=>by rw[Dt]at h;subst h;exact .str _
 |.tuple _,_,h=>by rw[Dt]at h;obtain⟨a,xs,rfl,_,g,_⟩:=h;exact .tup g
 |.list _,_,h=>by rw[Dt]at h;obtain⟨a,xs,rfl,_,g,_⟩:=h;exact .lst g
 |.dict _,_,h=>by rw[Dt]at h;exact h.elim
def Dk:PD->Bool
 |.tuple _=>true
 |_=>false
def En:PD->Bool
 |.list _=>true
 |_=>false
def JH:PD->Bool
 |.int _=>true
 |.bool _=>true
 |_=>false
def HS:PD->Bool
 |.bool _=>true
 |_=>false
def Me(K:Fg):∀d:PD,(∀g,d≠.dict g)->PySem.W.kitOne K yh OZ=some (Dk d)
 |.none,_=>qF K
 |.bool _,_=>nB K
 |.int _,_=>rO K
 |.str _,_=>nk K
 |.tuple _,_=>nW K
 |.list _,_=>pK K
 |.dict g,h=>absurd rfl (h g)
def MS(K:Fg):∀d:PD,(∀g,d≠.dict g)->PySem.W.kitOne K yh gl=some (En d)
 |.none,_=>nT K
 |.bool _,_=>rH K
 |.int _,_=>qt K
 |.str _,_=>oj K
 |.tuple _,_=>pZ K
 |.list _,_=>oV K
 |.dict g,h=>absurd rfl (h g)
def pF(K:Fg):PySem.W.kitOne K (.type "NoneType") wB=some false:=by kernel_rfl
def qp(K:Fg):PySem.W.kitOne K yP wB=some false:=by kernel_rfl
def nc(K:Fg):PySem.W.kitOne K OZ wB=some false:=by kernel_rfl
def qT(K:Fg):PySem.W.kitOne K gl wB=some false:=by kernel_rfl
def fj(K:Fg):∀d:PD,(∀g,d≠.dict g)->PySem.W.kitOne K yh db=some (JH d)
 |.none,_=>oM K
 |.bool _,_=>nE K
 |.int _,_=>qc K
 |.str _,_=>q9 K
 |.tuple _,_=>nV K
 |.list _,_=>qm K
 |.dict g,h=>absurd rfl (h g)
def dz(K:Fg):∀d:PD,(∀g,d≠.dict g)->PySem.W.kitOne K yh wB=some (HS d)
 |.none,_=>pF K
 |.bool _,_=>nI K
 |.int _,_=>qW K
 |.str _,_=>qp K
 |.tuple _,_=>nc K
 |.list _,_=>qT K
 |.dict g,h=>absurd rfl (h g)
def Dt.nodict{l:AD}{H:Hp}{d:PD}{v:V}(h:Dt l H d v):∀g,d≠.dict g:=fun g z=>by subst z;rw[Dt]at h;exact h
def ZI{X:Cx}{e lo:Expr}{M l:TE}{pos U:Pos}(he:PE X e M)(hl:PE X lo l):PE X (.Subscript e (.Slice (some lo) none none U) pos) (fun σ H Q=>M σ H fun x g=>l σ g fun z H2=>∃(y:Str) (i:Int),x=.str y/\z=.int i/\y.length<=sizeLine/\Q (.str (Txt.slice y (some i) none)) H2):=by
 intro pins s σ H Q I h;refine Subscript_ (A2 Pg fun v s1 ⟨x,g,I1,Z,q1⟩=>?_);refine wpAny_Slice ?_;rw[evalPart_some];refine A2 (hl pins s1 σ g _ I1 q1) fun vk s3 ⟨z,H3,I3,Y,q3⟩=>?_;rw[evalPart_none];refine aB ?_;refine aB ?_;obtain⟨y,i,rfl,rfl,hz,q⟩:=q3;obtain⟨t1,rfl⟩:=Z;obtain⟨t3,rfl⟩:=Y;show wpAny AT X.A (subscriptTail e (.Slice (some lo) none none U) (.str y t1) xE) Ix X.xe {s3 with heap:=s3.heap.push { cls:=.type "slice",data:=.fields #[.int i t3,.none,.none]} };obtain⟨T,id,hT,ht,hg⟩:=SBH.sliceItem_sn (prog:=X.prog) (w:=X.w) (A:=X.A) (E:=X.xe) (s:=s3) (x:=y) (t:=t1) (ui:=t3) (P:=fun h'=>∀b o,s3.heap.get? b=some o->h'.get? b=some o) (Q:=EP X pins σ Q) zAf (fun _ _ q=>q)
  (fun h' R k kk=>⟨.str (Txt.slice y (some i) none),H3,I3.kept (t':=k) kk,⟨R,rfl⟩,q⟩) hz
 exact tail_any (ops:=[.ref s3.heap.objs.size,.str y t1]) ht hT hg wR
section
variable{X:Cx}
def X4:V->List V->Hp->VK->Prop:=fun x vs H Q=>∃l xs y,∃i:Int,∃k:Nat,x=.ref l/\vs=[.int i,y]/\i=(k:Int)/\H l=some SB/\k<=xs.length/\xs.length<1000/\Q .BS (upd H l (.lst (xs.take k++y::xs.drop k)))
def TV:bw X "list.insert" X4:=by
 intro pins s σ H x vs v us Q I rx rv h;obtain⟨l,xs,y,i,k,rfl,rfl,hi,hH,hk,hz,q⟩:=h;subst hi;cases rx;obtain⟨u,T,rfl,ru,U⟩:=rv.two;obtain⟨t,rfl⟩:=ru;obtain⟨z,g,n,r,hl,e⟩:=I.MW hH;have hf:Builtin.List.listFitsIndex (k:Int)=true:=by
  unfold Builtin.List.listFitsIndex;simp only[Bool.and_eq_true,decide_eq_true_eq]
  lia
 have Y:g.toArray.size<=sizeLine:=by rw[(Cp)];lia
 have R:¬(!Builtin.List.listFitsIndex (k:Int))=true:=by rw[hf];decide
 generalize hx:(k:Int)=x at hf R;have M:=PySem.AutoSeq1.list_insert_list_int_val_1 l g.toArray n x t T R Y;refine call_meets F.slot_list_insert ⟨_,e,rfl⟩ F.entry_list_insert (F.args_list_insert_3 (.ref l) (.int x t) T) M ⟨e,?_⟩;subst hx;refine⟨.BS,_,I.VC (ys:=xs.take k++y::xs.drop k) (its':=g.take k++T::g.drop k) hH e ?_ ((r.take k).append (.cons U (r.drop k))) ?_,rfl,q⟩
 .have h0:¬((k:Int)<0):=by lia
  have hm:min k g.length=k:=by lia
  simp only[h0,if_false,Int.toNat_natCast,List.size_toArray,hm];simp[List.extract];rw[List.take_of_length_le A1]
 .rw[(EB),(Fv),(Mb),(Hl)];have:1000<sizeLine:=by rw[sizeLine_eq];decide
  lia
def sy:R2:=fun x y H Q=>∃a b xs ys,x=.ref a/\y=.ref b/\H a=some Pt/\H b=some (.tup ys)/\xs.length+ys.length<=sizeLine/\∀p H',AY H H'->H' p=some (.tup (xs++ys))->Q yI H'
def mm:DC X xY sy:=by
 intro pins s σ H x y v u Q I rx ry h;obtain⟨a,b,xs,ys,rfl,rfl,ha,hb,hz,q⟩:=h;cases rx;cases ry;obtain⟨Y,U,p1,_⟩:=I.tuple (B2.of (K:=X.K) ha);obtain⟨its2,T,p2,_⟩:=I.tuple (B2.of (K:=X.K) hb);by_cases Z:Y=[]
 .have hx:=U.Xi.mp Z;subst Z hx;obtain⟨⟨cls,dd,data,sl⟩,ho,hc,n,hd⟩:=id p1;obtain⟨⟨cls2,dd2,data2,R⟩,g,M,n2,l⟩:=id p2;simp only at hc hd M l;subst hc hd M l;exact concat_meets ⟨_,ho,rfl⟩ ⟨_,g,rfl⟩ noFill_tuple_add seq_tuple_add PySem.F.slot_tuple_add PySem.F.entry_tuple_add (PySem.F.args_tuple_add_2 _ _)
   (tuple_addW0 a b _ _ n n2 dd dd2 sl R A1) ⟨ho,g,⟨.ref b,H,I,rfl,q b H (.refl H) (by simpa using hb)⟩⟩
 .refine HT.mW p1 p2 Z (fun z=>?_) (fun z=>?_) (by rw[<-U.length,<-T.length];exact hz)
  .have hy:=T.Xi.mp z;subst hy;exact⟨.ref a,H,I,rfl,q a H (.refl H) (by simpa using ha)⟩
  .refine⟨.ref s.heap.objs.size,_,I.laid (t':=s.toks) (o:=.tup (xs++ys)) xH SL ?_,rfl,q _ _ (B7 zBn _) An⟩;exact⟨by rw[(EB)];exact hz,_,U.append T,IsTup.new _ _⟩
end
end L2
namespace TH
open PySem PySem.W PyProof.Rows PySem.SeqAt
def k9{h h':Heap}(k:GS.Ext h h'){a:AD}{x:Array VL}(e:h.IsTuple a x):h'.IsTuple a x:=let⟨o,g,c,n,d⟩:=e;⟨o,k _ _ g,c,n,d⟩
section
open PySem.MeetsSeq PySem.MeetsSeq2 PySem.MeetsSeq3
variable{A:F0d}{E:ve}{s:SD}
def Z1(h:Heap)(v:VL):Prop:=∃(a b:AD) (xs:Array VL) (g:S0),v=.ref a/\h.IsTuple a ((.ref b::g).toArray)/\h.IsTuple b xs
theorem S3{M:Model}:∀(us:S0) {Q:List (Option VL)->SD->Prop},(∀v∈us,Z1 s.heap v)->(∀fs:List VL,fs.length=us.length->(∀v∈fs,Looks M s.heap (typeOf v) OZ)->Q (fs.map some) s)->wpAny M A (us.mapM firstOfTuple') Q E s
 |[],Q,_,h=>by
  rw[List.mapM_nil];exact aB (h [] rfl fun _ z=>by cases z)
 |v::us,Q,e,h=>by
  obtain⟨a,b,xs,l,rfl,Z,Y⟩:=e v bK;obtain⟨o,R,U,n,hd⟩:=id Z;rw[List.mapM_cons];refine Wb ?_;rw[kas_first_eq];refine Wb (Looks.here (show Looks M s.heap (typeOf PZ) o.cls from(Looks.ld R).andThen .now) ?_);rw[U,if_neg (by first|decide|simp)];refine Wb (listItems_at R hd (aB ?_));refine Wb (S3 us (Q:=fun bs s'=>wpAny M A (pure ((.ref b::l).toArray[0]? :: bs)) Q E s') (fun v g=>e v (aT _ g)) fun fs T I=>aB ?_);have:=h (.ref b::fs) (by simp[T]) fun v g=>by
   rcases aI.mp g with rfl|g
   .exact Ws Y
   .exact I v g
  simpa using this
def XT{M:Model}{us:vd}{Q:SortKind->SD->Prop}(e:∀v∈us,Z1 s.heap v)(h:Q (tuples' false) s):wpAny M A (keyKind' us.toArray) Q E s:=by
 rw[kat_kind_eq,List.mapM_toArray,map_eq_pure_bind];refine Wb (Wb (S3 us e fun fs I g=>aB ?_));rw[if_pos A1];refine Wb (ba ?_);have l:((fs.map some).toArray.filterMap id)=fs.toArray:=by simp
 rw[l];exact Wb (j4 g (fun _=>aB h) (aB h))
end
end TH
namespace L2
open PySem PySem.Spec PyProof.Rows
abbrev d9(x y:Str)(I l:Pos)(tk:Nat)(g:Pos):Expr:=.Tuple [.Name x I,.Name y l] tk g
def lY{ix g:Nat}(h:ix≠g)(σ:St)(a b c d:Option V):((((σ.set ix a).set g b).set ix c).set g d)=(σ.set ix c).set g d:=by
 rw[List.set_comm _ _ h.symm,List.set_set,List.set_set]
def RY(K:Fg)(Z:TI)(fr:v8)(ix R:Nat)(M:TT)(te:TE):TE:=fun σ H Q=>Z σ H fun J Y=>∀D,Y D=none->∃W:Nat->Nat->List V->Hp->Prop,(∃m,W 0 m [] (upd Y D v3)) /\
 ∀i m ys H,W i m ys H->H D=some KM/\((J.stop i H/\Q (.ref D) H)\/(J.go i H/\ys.length<sizeLine/\∀x H',J.FE i H x H'->∃a I l,x=.ref a/\B2 K H' a [I,l] /\
  M (((carry fr σ).set ix (some I)).set R (some l)) H' fun b U=>if b=true then te (((carry fr σ).set ix (some I)).set R (some l)) U fun y T=>T D=some KM/\∃g,g<m/\W Pi g (ys++[y]) (upd T D zBL)
   else ∃g,g<m/\W Pi g ys U))
section
variable{X:Cx}{elt iter:Expr}{x y:Str}{px py tp pos:Pos}{tk:Nat}{ifs:vp}{scope:yB}{wi:TI}{fr:v8}{ix iy:Nat}{tif:TT}{te:TE}{N:vo}
def Wu{pins:Cl}{σ:St}{I:Hp}{s2:SD}{Q:VK}{it:AD}{fp:vz}{tn:yL}{J:It}{cl:y9}{E:ve}{RR:yZ} (S:wh)(S2:Cr scope N y iy)(hxy:ix≠iy)(l:dO)(hfr:RG)(hlen:xF) (hif:zAk)(he:zAn) (I2:Inv X pins σ I s2)(T:Turn X.prog X.w X.K (d9 x y px py tk tp) J fp it tn)(st2:tn 0 s2.heap)(f2:∀b∈fp,HB X pins I b) (c1:UV)(c2:PV) (W:∀D,I D=none->∃W:Nat->Nat->List V->Hp->Prop,(∃m,W 0 m [] (upd I D v3)) /\∀i m ys H,W i m ys H->H D=some KM/\((J.stop i H/\Q (.ref D) H)\/(J.go i H/\ys.length<sizeLine/\∀x H',J.FE i H x H'->∃a R M,x=.ref a/\B2 X.K H' a [R,M] /\tif (((carry fr σ).set ix (some R)).set iy (some M)) H' fun b I=>if b=true then te (((carry fr σ).set ix (some R)).set iy (some M)) I fun y H3=>H3 D=some KM/\∃m',m'<m/\W Pi m' (ys++[y]) (upd H3 D zBL) else ∃m',m'<m/\W Pi m' ys I))) (fin:Da):wpAny AT X.A (newList []) (fun acc Z=>wpAny AT X.A NR (fun cenv Y => codeAny AT X.A (.compStart (.ListComp elt [⟨d9 x y px py tk tp,iter,ifs,0⟩] scope pos) 0 rs acc rc) zAD Y) E Z) E s2:=by
 have hxv:(relabel scope X.env).names.lookup x=some .local:=bL S.loc;have hyv:(relabel scope X.env).names.lookup y=some .local:=bL S2.loc;refine Pb (g:=ZQ X.K 2 (Ma (Ef ix) (Ma (Ef iy) Y6))) S l (fun U=>∀v w,(U.set ix v).set iy w=((carry fr σ).set ix v).set iy w) FS (fun C=>NQ (X:=Ag X scope cl N C s2 I fp) l (Er (CY (X:=Ag X scope cl N C s2 I fp) S.nd S.at_ (.inl hxv) (.inr hxv)) (Er (CY (X:=Ag X scope cl N C s2 I fp) S2.nd S2.at_ (.inl hyv) (.inr hyv)) L9))) hfr hlen hif he I2 T st2 f2 c1 c2 (fun D hD=>?_) fin;obtain⟨W,w0,st⟩:=W D hD;refine⟨W,w0,fun i m ys H w=>?_⟩;obtain⟨h1,h2|⟨h2,h3,h4⟩⟩:=st i m ys H w
 .exact⟨h1,.inl h2⟩
 .refine⟨h1,.inr ⟨h2,h3,fun x H' hy U hr=>?_⟩⟩;obtain⟨a,R,M,rfl,hs,q⟩:=h4 x H' hy;rw[<-hr]at q;exact⟨a,[R,M],rfl,hs,rfl,R,[M],rfl,M,[],rfl,rfl,fun v w=>by rw[lY hxy,hr],q⟩
def gT(S:wh)(S2:Cr scope N y iy)(Z:ix≠iy)(R:dO)(hfr:RG)(U:xF)(l:Tm) (hi:PI X (d9 x y px py tk tp) iter wi)(hif:zAk)(he:zAn) (hs:∀x,foldedSetIterable iter X.env x=pure x:=by intro _;rfl):PE X (.ListComp elt [⟨d9 x y px py tk tp,iter,ifs,0⟩] scope pos) (RY X.K wi fr ix iy tif te):=by
 intro pins s σ H Q I hw;obtain⟨cl,M,c1,_,c2⟩:=FR (env:=X.env) scope.names [] zy (fun y c z=>by cases z);have g:closureFor scope X.env=pure cl:=by
  have e:closureFor scope X.env=IG:=rfl;rw[e,M]
  rfl
 rw[eval_ListComp];refine wpAny_comprehension_free (use:=none) rfl hs g S.kind S.names wQ;obtain⟨it,fp,tn,J,H2,e,I2,T,Y,f2,W⟩:=h2;subst e;refine Wu (RR:=fun acc C=>compPost AT X.A X.xe none Ix acc C) S S2 Z R hfr U hif he I2 T Y f2 c1 c2 W ?_;intro D C s' H' m hn q hI _ _ _ _;exact⟨m,hn,fun h' hs'=>⟨.ref D,H',hI h' hs',rfl,q⟩⟩
end
section
variable{X:Cx}{elt iter:Expr}{x y:Str}{px py tp pos:Pos}{tk:Nat}{ifs:vp}{scope:yB}{wi:TI}{tif:TT}{te:TE}
def eN(N:vo)(ix g:Nat)(fr:v8)(hi:PI X (d9 x y px py tk tp) iter wi)(I:zAk)(he:zAn) (Z:Bu scope N x ix=true:=by decide +kernel)(M:Bu scope N y g=true:=by decide +kernel)(l:ix≠g:=by decide)(Y:X.calm=true:=by rfl)(U:Dj N X.N scope X.env.scope fr 0=true:=by rfl)(T:fr.length=N.length:=by rfl)(R:freeOk X.env.scope scope.names=true:=by rfl) (hs:∀x,foldedSetIterable iter X.env x=pure x:=by intro _;rfl):PE X zS (RY X.K wi fr ix g tif te) :=
 gT (FD Z) (FD M) l Y U T (JK R) hi I he hs
end
def iu{K:Fg}{J:It}{n:Nat}{D:AD}{H1:Hp}{fr:v8}{σ:St}{ix Y:Nat}{R:TT}{te:TE}{G:Hp->Prop}(Pv:z9)(h0:Pv 0 [] (upd H1 D v3)) (hgo:∀i ys H,i<n->Pv i ys H->H D=some KM->J.go i H/\ys.length<sizeLine/\∀x H',J.FE i H x H'->∃a I l,x=.ref a/\B2 K H' a [I,l] /\R ul H' fun b U=>if b=true then te ul U fun y T=>T D=some KM/\∃g,g<n-i/\CW Pv n D Pi g (ys++[y]) (upd T D zBL) else ∃g,g<n-i/\CW Pv n D Pi g ys U) (M:∀ys H,Pv n ys H->H D=some KM->J.stop n H/\G H):∃W:Nat->Nat->List V->Hp->Prop,(∃m,W 0 m [] (upd H1 D v3)) /\∀i m ys H,W i m ys H->H D=some KM/\((J.stop i H/\G H)\/(J.go i H/\ys.length<sizeLine/\∀x H',J.FE i H x H'->∃a I l,x=.ref a/\B2 K H' a [I,l] /\R ul H' fun b U=>if b=true then te ul U fun y T=>T D=some KM/\∃g,g<m/\W Pi g (ys++[y]) (upd T D zBL) else ∃g,g<m/\W Pi g ys U)):=by
 refine⟨CW Pv n D,⟨n,by simp,Nat.zero_le _,An,h0⟩,?_⟩;rintro i m ys H ⟨rfl,hi,hH,p⟩;refine⟨hH,?_⟩;by_cases Z:i<n
 .exact .inr (hgo i ys H Z p hH)
 .have:i=n:=by lia
  subst this;exact .inl (M ys H p hH)
end L2
namespace ZT
open PySem PyProof.Rows
structure Apart(z TI TO i1 i2:Addr)(f1 f2:List Addr):Prop where
 a1:TI≠z/\TI≠TO/\TI≠i1/\TI≠i2
 a2:TO≠z/\TO≠i1/\TO≠i2
 a3:i1≠z/\i2≠z/\i1≠i2
 b1:z ∉ f1/\TO ∉ f1/\i2 ∉ f1
 b2:z ∉ f2/\TO ∉ f2/\i1 ∉ f2
section
variable{prog:F0b}{w:F0c}{A:F0d}{E:ve}{s:SD}{z TI TO i1 i2:AD}{f1 f2:vz}{n1 n2 k:Nat}{P1 P2:Nat->VL->Prop}{S1 S2:yL}{a b:VL}
def EX{f:vz}{x:AD}{h h':Heap}(g:x ∉ f)(e:Heap.SameBut x h h'):∀c∈f,∀o,h.get? c=some o->h'.get? c=some o:=fun c l o q=>(e.2 c fun y=>g (y ▸ l)).trans q
def item{Q:ve}(Z:Draws prog w A i1 f1 n1 P1 S1)(Y:Draws prog w A i2 f2 n2 P2 S2)(ap:zAb)(hz:zAP)(hI:xi)(hO:IsPair s.heap TO a b) (t1:S1 k s.heap)(t2:S2 k s.heap)(l1:k<n1)(l2:k<n2) (q:∀x y h' tk,P1 k x->P2 k y->IsZip h' z TI TO (rawInt s.heap.objs.size)->IsPair h' TO x y->S1 ii h'->S2 ii h'->IsPair h' s.heap.objs.size x y->h'.objs.size=s.heap.objs.size+1 ->(∀c o,c≠z->c≠TO->c≠i1->c≠i2->s.heap.get? c=some o->h'.get? c=some o)->Q N7 Tl):wpAny By A (Builtin.«zip.__next__» ⟨[.ref z],[]⟩) (fun fin s'=>∃v,fin=.done (.ret v)/\Q v s') E s:=by
 obtain⟨⟨c1,c2,c3,c4⟩,⟨c5,c6,c7⟩,⟨c8,c9,c10⟩,⟨d1,d2,d3⟩,d4,d5,d6⟩:=ap;show wpAny _ _ (field (.ref z) 2>>=_) _ _ _;refine Wb (au hz rfl (x:=.bool false) rfl ?_);show wpAny _ _ (field (.ref z) 3>>=_) _ _ _;refine Wb (au hz rfl (x:=.ref TI) rfl (Wb (bg hI rfl ?_)));show wpAny _ _ (Builtin.SmallTypes.ownedTupleIsFree (.ref z)>>=_) _ _ _;unfold Builtin.SmallTypes.ownedTupleIsFree;refine Wb (Wb (au hz rfl (x:=.none) rfl lr));simp only[if_true];refine Wb (ba (Wb (au hz rfl (x:=.ref TO) rfl (Wb (wpAny_setField_rec hz A1 fun g1 z1 T=>Wb ?_)))));have T:Heap.SameBut z s.heap g1:=T;have z1:IsZip g1 z TI TO .ellipsis:=z1;simp only[List.zipIdx_cons,List.zipIdx_nil,List.forIn_cons,List.forIn_nil];refine Wb (Wb (wpAny_onRaise ?_));show wpAny _ _ (Builtin.SmallTypes.nextOf (.ref i1)>>=_) _ _ _;refine Wb (Z.item k _ _ _ l1 (Z.frame _ _ _ t1 (EX d1 T)) fun x g2 tk2 p1 u1 R=>aB ?_);have o2:IsPair g2 TO a b:=(R.2 _ c6).trans ((T.2 _ c5).trans hO);refine Wb (bg o2 rfl (Wb (wpAny_updateSeq_pair o2 fun g3 o3 M=>Wb (wpAny_letGo lr))));have o3:IsPair g3 TO x b:=o3;have t2':S2 k g3:=Y.frame _ _ _ (Y.frame _ _ _ (Y.frame _ _ _ t2 (EX d4 T)) (EX d6 R)) (EX d5 M);refine Wb (Wb (wpAny_onRaise ?_));show wpAny _ _ (Builtin.SmallTypes.nextOf (.ref i2)>>=_) _ _ _;refine Wb (Y.item k _ _ _ l2 t2' fun y g4 tk4 p2 u2 I=>aB ?_);have M:Heap.SameBut TO g2 g3:=M;have I:Heap.SameBut i2 g3 g4:=I;have o4:IsPair g4 TO x b:=(I.2 _ c7).trans o3;refine Wb (bg o4 rfl (Wb (wpAny_updateSeq_pair o4 fun g o5 l=>Wb (wpAny_letGo (aB lr)))));have l:Heap.SameBut TO g4 g:=l;have o5:IsPair g TO x y:=o5;refine Wb (bg o5 rfl (Wb (wpAny_newTuple ?_)));have R:Heap.SameBut i1 g1 g2:=R;have sz:g.objs.size=s.heap.objs.size:=by rw[l.1,I.1,M.1,R.1,T.1]
 have z5:IsZip g z TI TO .ellipsis:=(l.2 _ c5.symm).trans ((I.2 _ c9.symm).trans ((M.2 _ c5.symm).trans ((R.2 _ c8.symm).trans z1)));have kp:∀c o,c≠z->c≠TO->c≠i1->c≠i2->s.heap.get? c=some o->g.get? c=some o:=fun c o U e2 e3 e4 e=>(l.2 _ e2).trans ((I.2 _ e4).trans ((M.2 _ e2).trans ((R.2 _ e3).trans ((T.2 _ U).trans e))));have v1:S1 ii g:=Z.frame _ _ _ (Z.frame _ _ _ (Z.frame _ _ _ u1 (EX d2 M)) (EX d3 I)) (EX d2 l);have v2:S2 ii g:=Y.frame _ _ _ u2 (EX d5 l);show wpAny _ _ (Builtin.SmallTypes.ownedTupleHandOut (.ref z) (.ref g.objs.size)>>=_) _ _ _;unfold Builtin.SmallTypes.ownedTupleHandOut;have z6:IsZip (g.push { cls:=.type "tuple",data:=.seq #[x,y]}) z TI TO .ellipsis:=aD _ z5;refine Wb (Wb (wpAny_setField_rec z6 A1 fun g7 z7 m7=>wpAny_setField_rec (show IsZip g7 z TI TO (rawInt g.objs.size) from z7) A1 fun g8 z8 m8=>?_));have z8:IsZip g8 z TI TO (rawInt g.objs.size):=z8;have up:∀c o,c≠z->(g.push { cls:=.type "tuple",data:=.seq #[x,y]}).get? c=some o->g8.get? c=some o:=fun c o U e=>(m8.2 _ U).trans ((m7.2 _ U).trans e);have zl:z<g.objs.size:=aE z5;refine aB ⟨_,rfl,?_⟩;show Q (.ref g.objs.size) _;have fin:=q x y g8 tk4 p1 p2 (by rw[<-sz];exact z8) (up _ _ c5 (aD _ o5)) (Z.frame _ _ _ v1 fun c hc o e=>up c o (fun y=>d1 (y ▸ hc)) (aD _ e)) (Y.frame _ _ _ v2 fun c hc o e=>up c o (fun y=>d4 (y ▸ hc)) (aD _ e))
  (by rw[<-sz];exact up _ _ (Nat.ne_of_gt zl) (aa _ rfl)) (by rw[<-sz,m8.1,m7.1,Heap.size_push]) fun c o U e2 e3 e4 e=>up c o U (aD _ (kp c o U e2 e3 e4 e))
 rw[sz];exact fin
def ended{Q:Fin->SD->Prop}(D1:Draws prog w A i1 f1 n1 P1 S1)(D2:Draws prog w A i2 f2 n2 P2 S2)(ap:zAb)(U:zAP)(hI:xi)(hO:IsPair s.heap TO a b) (t1:S1 k s.heap)(t2:S2 k s.heap)(he:k=n1\/(k<n1/\k=n2)) (q:∀h' e tk,zn->(∃o,h'.get? e=some o/\o.cls=.type "StopIteration")->E (.ref e) Tl):wpAny By A (Builtin.«zip.__next__» ⟨[.ref z],[]⟩) Q E s:=by
 obtain⟨⟨c1,c2,c3,c4⟩,⟨c5,c6,c7⟩,⟨c8,c9,c10⟩,⟨d1,d2,d3⟩,d4,d5,d6⟩:=ap;show wpAny _ _ (field (.ref z) 2>>=_) _ _ _;refine Wb (au U rfl (x:=.bool false) rfl ?_);show wpAny _ _ (field (.ref z) 3>>=_) _ _ _;refine Wb (au U rfl (x:=.ref TI) rfl (Wb (bg hI rfl ?_)));show wpAny _ _ (Builtin.SmallTypes.ownedTupleIsFree (.ref z)>>=_) _ _ _;unfold Builtin.SmallTypes.ownedTupleIsFree;refine Wb (Wb (au U rfl (x:=.none) rfl lr));simp only[if_true];refine Wb (ba (Wb (au U rfl (x:=.ref TO) rfl (Wb (wpAny_setField_rec U A1 fun g1 z1 R=>Wb ?_)))));have R:Heap.SameBut z s.heap g1:=R;have z1:IsZip g1 z TI TO .ellipsis:=z1;simp only[List.zipIdx_cons,List.zipIdx_nil,List.forIn_cons,List.forIn_nil];refine Wb (Wb (wpAny_onRaise ?_));show wpAny _ _ (Builtin.SmallTypes.nextOf (.ref i1)>>=_) _ _ _;have M:=D1.frame _ _ _ t1 (EX d1 R);rcases he with he|⟨he1,he2⟩
 .rw[he]at M;refine Wb (D1.done _ _ _ M fun Z e l g=>?_);obtain⟨o,g,Y⟩:=g;have z2:IsZip Z z TI TO .ellipsis:=l _ _ c8.symm z1;have ez:e≠z:=fun y=>by subst y;rw[z2]at g;cases g;simp at Y
  exact wpAny_setField_rec z2 A1 fun g3 _ I=>q g3 e _ (fun c o e1 e2 e3 e4 y=>(I.2 _ e1).trans (l _ _ e3 ((R.2 _ e1).trans y))) ⟨o,(I.2 _ ez).trans g,Y⟩
 .refine Wb (D1.item k _ _ _ he1 M fun x Z tk2 p1 u1 l=>aB ?_);have o2:IsPair Z TO a b:=(l.2 _ c6).trans ((R.2 _ c5).trans hO);refine Wb (bg o2 rfl (Wb (wpAny_updateSeq_pair o2 fun g3 o3 I=>Wb (wpAny_letGo lr))));have T:S2 k g3:=D2.frame _ _ _ (D2.frame _ _ _ (D2.frame _ _ _ t2 (EX d4 R)) (EX d6 l)) (EX d5 I);rw[he2]at T;have l:Heap.SameBut i1 g1 Z:=l;have I:Heap.SameBut TO Z g3:=I;refine Wb (Wb (wpAny_onRaise ?_));show wpAny _ _ (Builtin.SmallTypes.nextOf (.ref i2)>>=_) _ _ _;refine Wb (D2.done _ _ _ T fun g4 e m4 g=>?_);obtain⟨o,g,Y⟩:=g;have z4:IsZip g4 z TI TO .ellipsis:=m4 _ _ c9.symm ((I.2 _ c5.symm).trans ((l.2 _ c8.symm).trans z1));have ez:e≠z:=fun y=>by subst y;rw[z4]at g;cases g;simp at Y
  exact wpAny_setField_rec z4 A1 fun g5 _ m5=>q g5 e _ (fun c o e1 e2 e3 e4 y=>(m5.2 _ e1).trans (m4 _ _ e4 ((I.2 _ e2).trans ((l.2 _ e3).trans ((R.2 _ e1).trans y))))) ⟨o,(m5.2 _ ez).trans g,Y⟩
def next_item{Q:yx}(D1:Draws prog w A.in1 i1 f1 n1 P1 S1)(D2:Draws prog w A.in1 i2 f2 n2 P2 S2)(ap:zAb)(g:zAP)(hI:xi)(hO:IsPair s.heap TO a b) (t1:S1 k s.heap)(I:S2 k s.heap)(l1:k<n1)(l2:k<n2) (q:∀x y h' tk,P1 k x->P2 k y->IsZip h' z TI TO (rawInt s.heap.objs.size)->IsPair h' TO x y->S1 ii h'->S2 ii h'->IsPair h' s.heap.objs.size x y->h'.objs.size=s.heap.objs.size+1 ->(∀c o,c≠z->c≠TO->c≠i1->c≠i2->s.heap.get? c=some o->h'.get? c=some o)->Q (some N7) Tl):wpAny By A (pyNext (.ref z)) Q E s:=by
 have l:s.TypeIs (.ref z) "zip" := ⟨_,g,rfl⟩;unfold pyNext;exact Wb (wpAny_attempt (av (name:=Str.ofString "__next__") l F.slot_zip_next
  (bA F.slot_zip_next l F.entry_zip_next (item D1 D2 ap g hI hO t1 I l1 l2 fun x y h' tk r1 r2 r3 Z Y U T R M=>aB (q x y h' tk r1 r2 r3 Z Y U T R M)) (F.args_zip_next_1 _))))
def next_end{Q:yx}(D1:Draws prog w A.in1 i1 f1 n1 P1 S1)(Z:Draws prog w A.in1 i2 f2 n2 P2 S2)(ap:zAb)(l:zAP)(Y:xi)(U:IsPair s.heap TO a b) (t1:S1 k s.heap)(M:S2 k s.heap)(he:k=n1\/(k<n1/\k=n2)) (q:∀h' tk,zn->Q none Tl):wpAny By A (pyNext (.ref z)) Q E s:=by
 have I:s.TypeIs (.ref z) "zip" := ⟨_,l,rfl⟩;unfold pyNext;refine Wb (wpAny_attempt (av (name:=Str.ofString "__next__") I F.slot_zip_next
  (bA F.slot_zip_next I F.entry_zip_next (ended D1 Z ap l Y U t1 M he fun h' e tk kp g=>?_) (F.args_zip_next_1 _))))
 obtain⟨o,g,R⟩:=g;exact Wb (wpAny_isInstance (T := "StopIteration") (b:=true) ⟨o,g,R⟩ isSubtype_stop (aB (q _ _ kp)))
end
def Sq(b:Bool)(h:Heap)(l:AD)(xs:vd):Prop:=if b then h.IsTuple l xs.toArray else h.IsList l xs.toArray
def FI(b:Bool)(l:AD):Obj:=if b then { cls:=.type "tuple_iterator",data:=.fields #[.ref l,.int 0 0]} else { cls:=.type "list_iterator",data:=.fields #[.ref l,.int 0 0]}
def Qh(b:Bool)(h:Heap)(it l:AD)(k:Nat):Prop:=if b then h.IsTupleIter it l k else h.IsListIter it l k
def Sq.push{b:Bool}{h:Heap}{l:AD}{xs:vd}(o:Obj)(x:Sq b h l xs):Sq b (h.push o) l xs:=by
 cases b with
 |true=>obtain⟨u,e,r⟩:=(show h.IsTuple l xs.toArray from x);exact(show(h.push o).IsTuple l xs.toArray from⟨u,Heap.get?_push_of_some _ e,r⟩)
 |false=>obtain⟨u,e,r⟩:=(show h.IsList l xs.toArray from x);exact(show(h.push o).IsList l xs.toArray from⟨u,Heap.get?_push_of_some _ e,r⟩)
section
variable{prog:F0b}{w:F0c}{A:F0d}{E:ve}{s:SD}
def X2{b:Bool}{l:AD}{xs:vd}{Q:ve}(x:Sq b s.heap l xs)(h:Q N7 {s with heap:=s.heap.push (FI b l)}):wpAny By A (pyIter (.ref l)) Q E s:=by
 cases b with
 |true=>exact wpAny_pyIter_tuple x h
 |false=>exact wpAny_pyIter_list x h
def MT(I:xR)(b:Bool)(it l:AD)(xs:vd)(g:l≠it):Draws prog w A it [it,l] xs.length (fun i v=>xs[i]? = some v) (fun i h=>Qh b h it l i/\Sq b h l xs):=by
 cases b with
 |true=>exact ET.draws I it l xs g
 |false=>
  have:=Draws.list (prog:=prog) (w:=w) I it l g xs.toArray
  simpa[Qh,Sq]using this
def zh(b1 b2:Bool)(h:Heap)(g l:AD):Heap :=
 ((((h.push (FI b1 g)).push (FI b2 l)).push { cls:=.type "tuple",data:=.seq #[.ref h.objs.size,.ref (h.push (FI b1 g)).objs.size]}).push { cls:=.type "tuple",data:=.seq #[.none,.none]}).push
  { cls:=.type "zip",data:=.fields #[.none,.bool false,.bool false,.ref ((h.push (FI b1 g)).push (FI b2 l)).objs.size,.ref (((h.push (FI b1 g)).push (FI b2 l)).push { cls:=.type "tuple",data:=.seq #[.ref h.objs.size,.ref (h.push (FI b1 g)).objs.size]}).objs.size]}
def me(b1 b2:Bool)(l M:AD)(xs ys:vd):Meets (Builtin.«zip.__new__» ⟨[.type "zip",.ref l,.ref M],[]⟩) (fun _ R s=>Sq b1 s.heap l xs/\Sq b2 s.heap M ys /\R (.ok (.ret (.ref ((((s.heap.push (FI b1 l)).push (FI b2 M)).push { cls:=.type "tuple",data:=.seq #[.ref s.heap.objs.size,.ref (s.heap.push (FI b1 l)).objs.size]}).push { cls:=.type "tuple",data:=.seq #[.none,.none]}).objs.size)) ) {s with heap:=zh b1 b2 s.heap l M}) :=
 .of_wp fun prog w A R s h=>by
  obtain⟨I,g,d,tk,os⟩:=s;obtain⟨Y,U,h⟩:=h;have T:=sub_zip;have i1:∀(A:F0d) (E:zV) (Q:zV),Q (.ref I.objs.size) ⟨I.push (FI b1 l),g,d,tk,os⟩->wpAny By A (pyIter (.ref l)) Q E ⟨I,g,d,tk,os⟩:=fun A E Q q=>X2 (s:=⟨I,g,d,tk,os⟩) Y q;have i2:∀(A:F0d) (E:zV) (Q:zV),Q (.ref (I.push (FI b1 l)).objs.size) ⟨(I.push (FI b1 l)).push (FI b2 M),g,d,tk,os⟩->wpAny By A (pyIter (.ref M)) Q E ⟨I.push (FI b1 l),g,d,tk,os⟩:=fun A E Q q=>X2 (s:=⟨I.push (FI b1 l),g,d,tk,os⟩) (U.push _) q
  wp_walk using i1,i2
  exact⟨_,rfl,h⟩
def gx{b1 b2:Bool}{I l:AD}{xs ys:vd}{Q:ve}(h1:Sq b1 s.heap I xs)(h2:Sq b2 s.heap l ys) (h:∀h',IsZip h' (s.heap.objs.size+4) xI xJ .none->IsPair h' xI N7 (.ref oR)->IsPair h' xJ .none .none ->Qh b1 h' s.heap.objs.size I 0->Qh b2 h' oR l 0->(∀c o,s.heap.get? c=some o->h'.get? c=some o)->Q (.ref (s.heap.objs.size+4)) dL):wpAny By A (call (.type "zip") [.ref I,.ref l]) Q E s:=by
 refine callType_new F.called_zip AS (F.typeCall_zip_2 _ _) (F.newCall_zip_2 _ _) (fun obj=>F.args_object_init_3 obj _ _) F.entry_zip_new (me b1 b2 I l xs ys) ⟨h1,h2,?_⟩;have T:(s.heap.push (FI b1 I)).objs.size=s.heap.objs.size+1:=Heap.size_push ..;have up:∀(g:Heap) (o:Obj) (c:AD) (u:Obj),g.get? c=some u->(g.push o).get? c=some u:=fun g o c u e=>aD _ e;have a0:(s.heap.push (FI b1 I)).get? s.heap.objs.size=some (FI b1 I):=aa _ (by cases b1<;>rfl);generalize Z:s.heap.push (FI b1 I)=g1 at T a0;have k1:∀c o,s.heap.get? c=some o->g1.get? c=some o:=fun c o e=>by rw[<-Z];exact up _ _ _ _ e
 have n2:(g1.push (FI b2 l)).objs.size=s.heap.objs.size+2:=by rw[Heap.size_push,T]
 have a1:(g1.push (FI b2 l)).get? oR=some (FI b2 l):=by rw[<-T];exact aa _ (by cases b2<;>rfl)
 generalize Y:g1.push (FI b2 l)=g2 at n2 a1;have k2:∀c o,g1.get? c=some o->g2.get? c=some o:=fun c o e=>by rw[<-Y];exact up _ _ _ _ e
 have n3:(g2.push { cls:=.type "tuple",data:=.seq #[.ref s.heap.objs.size,.ref oR]}).objs.size=s.heap.objs.size+3:=by rw[Heap.size_push,n2]
 have a2:IsPair (g2.push { cls:=.type "tuple",data:=.seq #[.ref s.heap.objs.size,.ref oR]}) xI N7 (.ref oR):=by rw[<-n2];exact aa _ rfl
 generalize R:g2.push { cls:=.type "tuple",data:=.seq #[.ref s.heap.objs.size,.ref oR]}=g3 at n3 a2;have k3:∀c o,g2.get? c=some o->g3.get? c=some o:=fun c o e=>by rw[<-R];exact up _ _ _ _ e
 have n4:(g3.push { cls:=.type "tuple",data:=.seq #[.none,.none]}).objs.size=s.heap.objs.size+4:=by rw[Heap.size_push,n3]
 have a3:IsPair (g3.push { cls:=.type "tuple",data:=.seq #[.none,.none]}) xJ .none .none:=by rw[<-n3];exact aa _ rfl
 generalize M:g3.push { cls:=.type "tuple",data:=.seq #[.none,.none]}=g4 at n4 a3;have k4:∀c o,g3.get? c=some o->g4.get? c=some o:=fun c o e=>by rw[<-M];exact up _ _ _ _ e
 have ez:zh b1 b2 s.heap I l=g4.push { cls:=.type "zip",data:=.fields #[.none,.bool false,.bool false,.ref xI,.ref xJ]}:=by
  unfold zh;rw[Z,Y,T,R,M,n2,n3]
 have a4:IsZip (g4.push { cls:=.type "zip",data:=.fields #[.none,.bool false,.bool false,.ref xI,.ref xJ]}) (s.heap.objs.size+4) xI xJ .none:=by rw[<-n4];exact aa _ rfl
 rw[T,R,M,n4,ez];show _/\_;have U:∀c o,g4.get? c=some o->(g4.push { cls:=.type "zip",data:=.fields #[.none,.bool false,.bool false,.ref xI,.ref xJ]}).get? c=some o:=fun c o e=>up _ _ _ _ e;refine⟨⟨_,a4,rfl⟩,h _ a4 (U _ _ (k4 _ _ a2)) (U _ _ a3) ?_ ?_ fun c o e=>U _ _ (k4 _ _ (k3 _ _ (k2 _ _ (k1 _ _ e))))⟩
 .have:=U _ _ (k4 _ _ (k3 _ _ (k2 _ _ a0)));cases b1 with
  |true=>exact⟨_,this,rfl,rfl⟩
  |false=>exact⟨_,this,rfl,rfl⟩
 .have:=U _ _ (k4 _ _ (k3 _ _ a1));cases b2 with
  |true=>exact⟨_,this,rfl,rfl⟩
  |false=>exact⟨_,this,rfl,rfl⟩
end
end ZT
namespace L2
open PySem PySem.Spec PyProof.Rows
def F7(b:Bool)(H:Hp)(a:AD)(xs:vx):Prop:=if b then H a=some Pt else H a=some SB
def F7.inj{b:Bool}{H:Hp}{a:AD}{xs ys:vx}(h:F7 b H a xs)(k:F7 b H a ys):xs=ys:=by
 cases b with
 |true=>have h:H a=some Pt:=h;have k:H a=some (.tup ys):=k;rw[h]at k;cases k;rfl
 |false=>have h:H a=some SB:=h;have k:H a=some KM:=k;rw[h]at k;cases k;rfl
theorem F7.none{b:Bool}{H:Hp}{a c:AD}{xs:vx}(h:F7 b H a xs)(k:H c=none):a≠c:=fun z=>by
 subst z;cases b with
 |true=>have h:H a=some Pt:=h;rw[k]at h;cases h
 |false=>have h:H a=some SB:=h;rw[k]at h;cases h
def F7.raw{X:Cx}{pins:Cl}{σ:St}{H:Hp}{s:SD}(I:Db){b:Bool}{a:AD}{xs:vx}(h:F7 b H a xs):∃its,Vals xs its/\ZT.Sq b s.heap a its:=by
 cases b with
 |true=>
  obtain⟨its,g,p,_⟩:=I.tuple (B2.of (K:=X.K) (show H a=some Pt from h));exact⟨its,g,p⟩
 |false=>
  obtain⟨its,g,p,_⟩:=I.list (BR.of (K:=X.K) (show H a=some SB from h));exact⟨its,g,p.isList⟩
def oZ(b1 b2:Bool)(a1 a2:AD):It :=
 ⟨fun i H=>∃xs x ys y,F7 b1 H a1 xs/\F7 b2 H a2 ys/\xs[i]? = some x/\ys[i]? = some y,
  fun i H v H'=>∃p x y,v=.ref p/\H p=none/\H'=upd H p (.tup [x,y])/\(∀xs,F7 b1 H a1 xs->xs[i]? = some x)/\∀ys,F7 b2 H a2 ys->ys[i]? = some y,
  fun i H=>∃xs ys,F7 b1 H a1 xs/\F7 b2 H a2 ys/\(i=xs.length\/(i<xs.length/\i=ys.length))⟩
def vQ(b1 b2:Bool)(a1 a2 z TI TO i1 i2:AD):Nat->Heap->Prop:=fun i h=>IsZip h z TI TO .none/\IsPair h TI (.ref i1) (.ref i2)/\(∃a b,IsPair h TO a b)/\ZT.Qh b1 h i1 a1 i/\ZT.Qh b2 h i2 a2 i
def Ov{b:Bool}{h:Heap}{it l:AD}{k:Nat}(x:ZT.Qh b h it l k):∃o,h.get? it=some o/\∀v,o.data≠.cell v:=by
 cases b with
 |true=>obtain⟨o,e,_,d⟩:=(show h.IsTupleIter it l k from x);exact⟨o,e,fun v z=>by rw[d]at z;cases z⟩
 |false=>obtain⟨o,e,_,d⟩:=(show h.IsListIter it l k from x);exact⟨o,e,fun v z=>by rw[d]at z;cases z⟩
def Mx{b:Bool}{h h':Heap}{it l:AD}{k:Nat}(x:ZT.Qh b h it l k)(e:∀o,h.get? it=some o->h'.get? it=some o):ZT.Qh b h' it l k:=by
 cases b with
 |true=>obtain⟨o,q,r⟩:=(show h.IsTupleIter it l k from x);exact(show h'.IsTupleIter it l k from⟨o,e _ q,r⟩)
 |false=>obtain⟨o,q,r⟩:=(show h.IsListIter it l k from x);exact(show h'.IsListIter it l k from⟨o,e _ q,r⟩)
def iA{P:F0b}{w:F0c}{K:Fg}{elts:vp}{x1}{pos:Pos}{b1 b2:Bool}{a1 a2 z TI TO i1 i2:AD}(ne:[z,TI,TO,i1,i2].Nodup) :
  Turn P w K (.Tuple elts x1 pos) (oZ b1 b2 a1 a2) [z,TI,TO,i1,i2] z (vQ b1 b2 a1 a2 z TI TO i1 i2) where
 mem:=by simp
 obj:=fun i h st b hb=>by
  obtain⟨h1,h2,⟨u,v,h3⟩,h4,h5⟩:=st;have hb:b=z\/b=TI\/b=TO\/b=i1\/b=i2:=by simpa using hb
  rcases hb with rfl|rfl|rfl|rfl|rfl
  .exact⟨_,h1,fun v y=>by cases y⟩
  .exact⟨_,h2,fun v y=>by cases y⟩
  .exact⟨_,h3,fun v y=>by cases y⟩
  .exact Ov h4
  .exact Ov h5
 keep:=fun i h h' st k=>by
  obtain⟨h1,h2,⟨u,v,h3⟩,h4,h5⟩:=st;exact⟨k z A1 _ h1,k TI A1 _ h2,⟨u,v,k TO A1 _ h3⟩,Mx h4 fun o e=>k i1 A1 o e,Mx h5 fun o e=>k i2 A1 o e⟩
 item:=by
  intro X hP hw hK hc i pins s σ H E I hf st hg;subst hP hw hK;obtain⟨xs,x,ys,y,q1,q2,hx,hy⟩:=hg;obtain⟨us,rv1,p1⟩:=q1.raw I;obtain⟨vs,rv2,p2⟩:=q2.raw I;obtain⟨u,hu,ru⟩:=rv1.get hx;obtain⟨v,hv,rv⟩:=rv2.get hy;obtain⟨t1,t2,⟨ta,tb,t3⟩,t4,t5⟩:=st;have e1:∀b∈[z,TI,TO,i1,i2],a1≠b:=fun b hb=>q1.none (hf b hb).1;have e2:∀b∈[z,TI,TO,i1,i2],a2≠b:=fun b hb=>q2.none (hf b hb).1;simp only[List.nodup_cons,List.mem_cons,List.not_mem_nil,or_false,not_or]at ne;obtain⟨⟨n1,n2,n3,n4⟩,⟨n5,n6,n7⟩,⟨n8,n9⟩,n10,_⟩:=ne;have ap:ZT.Apart z TI TO i1 i2 [i1,a1] [i2,a2]:=⟨⟨Ne.symm n1,n5,n6,n7⟩,⟨Ne.symm n2,n8,n9⟩,⟨Ne.symm n3,Ne.symm n4,n10⟩,
   ⟨by simp[n3,Ne.symm (e1 z A1)],by simp[n8,Ne.symm (e1 TO A1)],by simp[Ne.symm n10,Ne.symm (e1 i2 A1)]⟩,⟨by simp[n4,Ne.symm (e2 z A1)],by simp[n9,Ne.symm (e2 TO A1)],by simp[n10,Ne.symm (e2 i1 A1)]⟩⟩
  refine ZT.next_item zBt zBu ap t1 t2 t3 ⟨t4,p1⟩ ⟨t5,p2⟩ (aF.mp hu).1 (aF.mp hv).1
   fun u' v' h' tk r1 r2 r3 r4 r5 r6 r7 r8 r9=>⟨_,rfl,wpAny_letOwnedTupleGo_zip (s:={s with heap:=h',toks:=tk}) r3 fun h'' z'' sb=>?_⟩
  rw[hu]at r1;rw[hv]at r2;cases r1;cases r2;have keep:∀b o,b ∉ [z,TI,TO,i1,i2]->s.heap.get? b=some o->h''.get? b=some o:=fun b o hb q=>by
   simp only[List.mem_cons,List.not_mem_nil,or_false,not_or]at hb;exact(sb.2 b hb.1).trans (r9 b o hb.1 hb.2.2.1 hb.2.2.2.1 hb.2.2.2.2 q)
  have lt:∀b∈[z,TI,TO,i1,i2],b<s.heap.objs.size:=fun b hb=>by
   have hb:b=z\/b=TI\/b=TO\/b=i1\/b=i2:=by simpa using hb
   rcases hb with rfl|rfl|rfl|rfl|rfl
   .exact aE t1
   .exact aE t2
   .exact aE t3
   .obtain⟨o,e,_⟩:=Ov t4;exact aE e
   .obtain⟨o,e,_⟩:=Ov t5;exact aE e
  have hTn:H s.heap.objs.size=none:=I.Ay.fresh SL;have hT'':h''.get? s.heap.objs.size=some { cls:=.type "tuple",data:=.seq #[u,v]}:=(sb.2 _ (Nat.ne_of_gt (lt z A1))).trans r7;refine⟨.ref s.heap.objs.size,upd H s.heap.objs.size (.tup [x,y]),?_,rfl,⟨_,x,y,rfl,hTn,rfl,fun zs hz=>by rw[hz.inj q1];exact hx,fun zs hz=>by rw[hz.inj q2];exact hy⟩,⟨z'',?_,⟨u,v,?_⟩,?_,?_⟩,fun b hb=>?_⟩
  .exact I.e8 hf keep oU (.cons ru (.cons rv .nil)) hT''
  .exact(sb.2 _ (Ne.symm n1)).trans (r9 _ _ (Ne.symm n1) n5 n6 n7 t2)
  .exact(sb.2 _ (Ne.symm n2)).trans r4
  .exact Mx r5.1 fun o e=>(sb.2 _ (Ne.symm n3)).trans e
  .exact Mx r6.1 fun o e=>(sb.2 _ (Ne.symm n4)).trans e
  .rw[Ae (aP (lt b hb))];exact(hf b hb).1
 done:=by
  intro X hP hw hK hc i pins s σ H E I hf st hg;subst hP hw hK;obtain⟨xs,ys,q1,q2,he⟩:=hg;obtain⟨us,rv1,p1⟩:=q1.raw I;obtain⟨vs,rv2,p2⟩:=q2.raw I;obtain⟨t1,t2,⟨ta,tb,t3⟩,t4,t5⟩:=st;have e1:∀b∈[z,TI,TO,i1,i2],a1≠b:=fun b hb=>q1.none (hf b hb).1;have e2:∀b∈[z,TI,TO,i1,i2],a2≠b:=fun b hb=>q2.none (hf b hb).1;simp only[List.nodup_cons,List.mem_cons,List.not_mem_nil,or_false,not_or]at ne;obtain⟨⟨n1,n2,n3,n4⟩,⟨n5,n6,n7⟩,⟨n8,n9⟩,n10,_⟩:=ne;have ap:ZT.Apart z TI TO i1 i2 [i1,a1] [i2,a2]:=⟨⟨Ne.symm n1,n5,n6,n7⟩,⟨Ne.symm n2,n8,n9⟩,⟨Ne.symm n3,Ne.symm n4,n10⟩,
   ⟨by simp[n3,Ne.symm (e1 z A1)],by simp[n8,Ne.symm (e1 TO A1)],by simp[Ne.symm n10,Ne.symm (e1 i2 A1)]⟩,⟨by simp[n4,Ne.symm (e2 z A1)],by simp[n9,Ne.symm (e2 TO A1)],by simp[n10,Ne.symm (e2 i1 A1)]⟩⟩
  have he':i=us.length\/(i<us.length/\i=vs.length):=by rw[<-rv1.length,<-rv2.length];exact he
  refine ZT.next_end zBt zBu ap t1 t2 t3 ⟨t4,p1⟩ ⟨t5,p2⟩ he' fun h' tk kp=>⟨rfl,?_⟩;have keep:∀b o,b ∉ [z,TI,TO,i1,i2]->s.heap.get? b=some o->h'.get? b=some o:=fun b o hb q=>by
   simp only[List.mem_cons,List.not_mem_nil,or_false,not_or]at hb;exact kp b o hb.1 hb.2.2.1 hb.2.2.2.1 hb.2.2.2.2 q
  exact I.turn hf keep
 self:=fun _ _ _ _ _ st h=>wpAny_pyIter_zip st.1 h
def uv(l:TA):TI:=fun σ H R=>l σ H fun vs g=>∃(b1 b2:Bool) (a1 a2:AD),vs=[.ref a1,.ref a2]/\(∃xs,F7 b1 g a1 xs)/\(∃ys,F7 b2 g a2 ys)/\R (oZ b1 b2 a1 a2) g
def rG{X:Cx}{elts:vp}{x1}{g:Pos}{a b:Expr}{ta:TA}{p pos:Pos}(hg:Gl X "zip")(hm:X.mg "zip" = none)(ha:PA X [a,b] ta)(hs:starEach [a,b] X.env=[b6,wO]:=by rfl)(l:starEach [b] X.env=[wO]:=by rfl):PI X (.Tuple elts x1 g) (.Call (.Name "zip" p) [a,b] [] pos) (uv ta):=by
 intro pins s σ H R I h;refine Call_ (Hs I hg hm boot_zip (bP (A2 n0 fun us s1 ⟨vs,H1,T,r1,q1⟩=>?_) (by rw[hs,l]) (by rw[l];rfl)));obtain⟨b1,b2,l1,l2,e,⟨xs,h1⟩,⟨ys,h2⟩,q⟩:=q1;subst e;cases r1 with
 |cons r U=>
  cases U with
  |cons r' U=>
   cases U;cases r;cases r';obtain⟨us,_,p1⟩:=h1.raw T;obtain⟨vs,_,p2⟩:=h2.raw T;refine ZT.gx p1 p2 fun h' Z z2 z3 z4 z5 hk=>wpAny_pyIter_zip Z ?_;have I2:Inv X pins σ H1 {s1 with heap:=h'}:=T.kept (t':=s1.toks) hk;refine⟨_,[s1.heap.objs.size+4,s1.heap.objs.size+2,s1.heap.objs.size+3,s1.heap.objs.size,s1.heap.objs.size+1],_,_,H1,rfl,I2,iA ?_,⟨Z,z2,⟨_,_,z3⟩,z4,z5⟩,fun b hb=>?_,q⟩
   .simp
   have M:s1.heap.objs.size<=b:=by
    have Y:b=s1.heap.objs.size+4\/b=s1.heap.objs.size+2\/b=s1.heap.objs.size+3\/b=s1.heap.objs.size\/b=s1.heap.objs.size+1:=by simpa using hb
    rcases Y with h|h|h|h|h<;>rw[h]<;>first|exact aG _|exact Nat.le_add_right _ _
   exact T.SH M (T.Ay.fresh M)
def d8(K:Fg)(a:AD):It :=
 ⟨fun i H=>∃xs x,BR K H a xs/\xs[i]? = some x,fun i H v H'=>∃p x,v=.ref p/\H p=none/\H'=upd H p (.tup [.int i,x])/\∀xs,BR K H a xs->xs[i]? = some x,fun i H=>∃xs,BR K H a xs/\xs.length=i⟩
def Y8{P:F0b}{w:F0c}{K:Fg}{elts:vp}{x1}{pos:Pos}(a e it:AD)(hne:e≠it) :
  Turn P w K (.Tuple elts x1 pos) (d8 K a) [e,it] e (fun i h=>(∃old,IsEnum h e it (i:Nat) old)/\h.IsListIter it a i) where
 mem:=by simp
 obj:=fun i h st b hb=>by
  rcases aI.mp hb with rfl|hb
  .obtain⟨⟨old,q⟩,_⟩:=st;exact⟨_,q,fun v z=>by cases z⟩
  .have e2:b=it:=by simpa using hb
   subst e2;obtain⟨_,o,q,c,d⟩:=st;exact⟨o,q,fun v z=>by rw[d]at z;cases z⟩
 keep:=fun i h h' st k=>by
  obtain⟨⟨old,q⟩,o,q2,r⟩:=st;exact⟨⟨old,k e A1 _ q⟩,o,k it A1 _ q2,r⟩
 item:=by
  intro X hP hw hK hc i pins s σ H E I hf st hg;subst hP hw hK;obtain⟨xs,x,hq,hx⟩:=hg;obtain⟨its,rv,pL,hz⟩:=I.list hq;have p:=pL.isList;obtain⟨u,hu,ru⟩:=rv.get hx;obtain⟨⟨old,he⟩,hit⟩:=st;have hai:a≠it:=fun z=>by
   obtain⟨o,e1,c1,_⟩:=p;obtain⟨o2,e2,c2,_⟩:=hit;rw[z,e2]at e1;cases e1;rw[c1]at c2;exact absurd c2 AS
  have hae:a≠e:=fun z=>by
   obtain⟨o,e1,c1,_⟩:=p;rw[z,he]at e1;cases e1;exact absurd (show Value.type "enumerate" = Value.type "list" from c1) AS
  have hlt:i<its.length:=(aF.mp hu).1;have hE0:=hf e A1;have hI0:=hf it A1;refine wpAny_pyNext_enum_itemD zBp he ⟨hit,p⟩ (by simpa using hlt) hne (by simp[hne,Ne.symm hae]) fun y h' tk hy ho hs' hT hsz hk=>⟨_,rfl,wpAny_letOwnedTupleGo_enum (s:={s with heap:=h',toks:=tk+1}) ho fun h'' he'' sb=>?_⟩;have hyu:y=u:=by
   have hy:its[i]? = some y:=by simpa using hy
   rw[hu]at hy;exact(aQ hy).symm
  subst hyu;have keep:∀b o,b≠e->b≠it->s.heap.get? b=some o->h''.get? b=some o:=fun b o h1 h2 q=>(sb.2 b h1).trans (hk b o h1 h2 q);have hTe:s.heap.objs.size≠e:=Nat.ne_of_gt (aE he);have hTi:s.heap.objs.size≠it:=let⟨_,q,_⟩:=hit;Nat.ne_of_gt (aE q);have hT'':h''.get? s.heap.objs.size=some { cls:=.type "tuple",data:=.seq #[.int i tk,y]}:=(sb.2 _ hTe).trans hT;have hTn:H s.heap.objs.size=none:=I.Ay.fresh SL;refine⟨.ref s.heap.objs.size,upd H s.heap.objs.size (.tup [.int i,x]),?_,rfl,⟨_,x,rfl,hTn,rfl,fun ys hy=>by rw[I.Ue hy hq];exact hx⟩,⟨⟨_,by simpa using he''⟩,?_⟩,fun b hb=>?_⟩
  .exact I.e8 (ch:=[e,it]) hf (fun b o hb q=>keep b o (fun z=>hb (by simp[z])) (fun z=>hb (by simp[z])) q) oU (.cons ⟨tk,rfl⟩ (.cons ru .nil)) hT''
  .obtain⟨⟨o,q,r⟩,_⟩:=hs';exact⟨o,(sb.2 it (Ne.symm hne)).trans q,r⟩
  .rcases aI.mp hb with rfl|hb
   .rw[Ae (Ne.symm hTe)];exact hE0.1
   .have e2:b=it:=by simpa using hb
    subst e2;rw[Ae (Ne.symm hTi)];exact hI0.1
 done:=by
  intro X hP hw hK hc i pins s σ H E I hf st hg;subst hP hw hK;obtain⟨xs,hq,hx⟩:=hg;obtain⟨its,rv,pL,hz⟩:=I.list hq;have p:=pL.isList;obtain⟨⟨old,he⟩,hit⟩:=st;have hai:a≠it:=fun z=>by
   obtain⟨o,e1,c1,_⟩:=p;obtain⟨o2,e2,c2,_⟩:=hit;rw[z,e2]at e1;cases e1;rw[c1]at c2;exact absurd c2 AS
  have hl:its.length=i:=by rw[<-rv.length];exact hx
  subst hl;obtain⟨f0,f1,f2,f3,f4,f5⟩:=hf it A1;exact wpAny_pyNext_enum_endD zBp he ⟨hit,p⟩ fun h' eb=>⟨rfl,I.turned (t':=s.toks) (fun b o hb q=>eb b o hb q) f0 f1 f3 f4 f5⟩
 self:=fun _ _ _ _ _ st h=>by
  obtain⟨⟨old,he⟩,_⟩:=st;exact wpAny_pyIter_enum he h
def oS(K:Fg)(l:TA):TI:=fun σ H R=>l σ H fun vs g=>∃a,vs=[.ref a]/\(∃xs,BR K g a xs)/\R (d8 K a) g
def f9{X:Cx}{elts:vp}{x1}{g:Pos}{a:Expr}{Y:TA}{p pos:Pos}(hg:Gl X "enumerate")(hm:X.mg "enumerate" = none)(ha:PA X [a] Y)(hs:starEach [a] X.env=[b6]:=by rfl):PI X (.Tuple elts x1 g) (.Call (.Name "enumerate" p) [a] [] pos) (oS X.K Y):=by
 intro pins s σ H R I h;refine Call_ (Hs I hg hm boot_enumerate (bP (A2 n0 fun us s1 ⟨vs,H1,M,r1,q1⟩=>?_) hs rfl));obtain⟨t,e,⟨xs,hq⟩,q⟩:=q1;subst e;cases r1 with
 |cons r rr=>
  cases rr;cases r;obtain⟨T,rv,p',hz⟩:=M.list hq;refine call_enumerate_list (show s1.heap.IsList t T.toArray from p'.isList) fun h' Z hit hsz hk=>wpAny_pyIter_enum Z ?_;have I2:Inv X pins σ H1 {s1 with heap:=h'}:=M.kept (t':=s1.toks) hk;have hn:s1.heap.objs.size+1≠s1.heap.objs.size:=by lia
  refine⟨s1.heap.objs.size+1,[s1.heap.objs.size+1,s1.heap.objs.size],_,_,H1,rfl,I2,Y8 t _ _ hn,⟨⟨_,Z⟩,hit⟩,fun b hb=>?_,q⟩;have l:s1.heap.objs.size<=b:=by
   have U:b=s1.heap.objs.size+1\/b=s1.heap.objs.size:=by simpa using hb
   rcases U with z|z
   .rw[z];exact Nat.le_succ _
   .rw[z];exact aG _
  exact M.SH l (M.Ay.fresh l)
def Zx{K:Fg}{a:AD}{xs:vx}{g:TG}{T:TS}{D:Ends}{σ:St}{H:Hp}(Pv:Nat->St->Hp->Prop)(h0:Pv 0 σ H)(hl:∀i σ H,i<=xs.length->Pv i σ H->BR K H a xs) (hs:∀i x σ H,xs[i]? = some x->Pv i σ H->∀p,H p=none->g yI σ (upd H p yk) fun l R=>T {D with nx:=Pv Pi,ct:=Pv Pi,bk:=D.nx} l R)(hd:zAe):∃W:Nat->Nat->St->Hp->Prop,(∃m,W 0 m σ H)/\∀i m σ H,W i m σ H ->((d8 K a).stop i H/\D.nx σ H)\/((d8 K a).go i H/\∃N:St->Hp->Prop,zBm/\∀x H',(d8 K a).FE i H x H'->g x σ H' fun l R=>T xQ l R):=by
 refine⟨fun i m σ H=>m=xs.length-i/\i<=xs.length/\Pv i σ H,⟨xs.length,by simp,Nat.zero_le _,h0⟩,?_⟩;rintro i m σ H ⟨rfl,hi,p⟩;have q:=hl i σ H hi p;by_cases M:i<xs.length
 .refine .inr ⟨⟨xs,xs[i],q,by simp[M]⟩,Pv Pi,fun I H' Z=>⟨xs.length-Pi,by lia,rfl,M,Z⟩,fun x H' y=>?_⟩;obtain⟨pp,Y,rfl,hn,rfl,y⟩:=y;exact hs i Y σ _ (y xs q) p pp hn
 .have e:i=xs.length:=by lia
  subst e;exact .inl ⟨⟨xs,q,rfl⟩,hd σ H p⟩
section
variable{κ:Type}[DecidableEq κ]
def Ht(kvs:yS)(k:κ):Option V:=(kvs.find? fun g=>decide (g.1=k)).map zm
def putK(kvs:yS)(k:κ)(v:V):List (κ×V) :=
 if yY=true then kvs.map (fun g=>if g.1=k then(g.1,v) else g) else kvs++[(k,v)]
def QF{p:κ×V}{r:yS}{k:κ}(e:p.1=k):Ht (p::r) k=some p.2:=by simp[Ht,List.find?_cons,e]
def Pz{p:κ×V}{r:yS}{k:κ}(e:¬p.1=k):Ht (p::r) k=Ht r k:=by simp[Ht,List.find?_cons,e]
theorem U4(k:κ):∀kvs:List (κ×V),yY=(Ht kvs k).isSome
 |[]=>rfl
 |p::r=>by
  rw[List.any_cons];by_cases e:p.1=k
  .simp only[QF e,decide_eq_true e,Bool.true_or,Option.isSome_some]
  .rw[Pz e,decide_eq_false e,Bool.false_or];exact U4 k r
def Py(kvs:yS)(k:κ)(v:V):(putK kvs k v).length<=kvs.length+1:=by
 unfold putK;split
 .rw[wk];lia
 .rw[(EB),(Fv),List.length_nil];lia
def Kq.Z9{o:Option V}{u:Option VL}(r:Kq o u):o.isSome=u.isSome:=by
 cases o with
 |none=>cases u with
  |none=>rfl
  |some _=>exact(show False from r).elim
 |some _=>cases u with
  |none=>exact(show False from r).elim
  |some _=>rfl
def KV.val{kvs:yS}{vs:List (κ×VL)}(r:KV kvs vs)(k:κ):Kq (Ht kvs k) (valueAt vs k):=by
 unfold KV at r
 induction r with
 |nil=>exact True.intro
 | @cons p q ps g h t M=>
  obtain⟨I,R⟩:=h;by_cases e:p.1=k
  .have l:q.1=k:=I.symm.trans e;have b:valueAt (q::g) k=some q.2:=by simp[valueAt,List.find?_cons,l]
   rw[QF e,b];exact R
  .have l:¬q.1=k:=fun z=>e (I.trans z);have b:valueAt (q::g) k=valueAt g k:=by simp[valueAt,List.find?_cons,l]
   rw[Pz e,b];exact M
def KV.any{kvs:yS}{vs:List (κ×VL)}(r:KV kvs vs)(k:κ):yY=vs.any fun g=>decide (g.1=k):=by
 unfold KV at r
 induction r with
 |nil=>rfl
 |cons h t l=>rw[List.any_cons,List.any_cons,l,h.1]
def KV.gN{kvs:yS}{vs:List (κ×VL)}(r:KV kvs vs)(k:κ){y:V}{u:VL}(I:RelV y u):KV (kvs.map fun g=>if g.1=k then(g.1,y) else g) (vs.map fun g=>if g.1=k then(g.1,u) else g):=by
 unfold KV at r ⊢
 induction r with
 |nil=>exact .nil
 | @cons p q ps T h t M=>
  rw[xf,xf];refine .cons ?_ M;obtain⟨l,R⟩:=h;by_cases e:p.1=k
  .rw[if_pos e,if_pos (l.symm.trans e)];exact⟨l,I⟩
  .rw[if_neg e,if_neg (fun z=>e (l.trans z))];exact⟨l,R⟩
def KV.put{kvs:yS}{vs:List (κ×VL)}(r:KV kvs vs)(k:κ){y:V}{u:VL}(g:RelV y u):KV (putK kvs k y) (stored vs k u):=by
 unfold putK stored;rw[r.any k];by_cases e:(vs.any fun l=>decide (l.1=k))=true
 .rw[if_pos e,if_pos e];exact r.gN k g
 .rw[if_neg e,if_neg e];exact Paired.snoc r ⟨rfl,g⟩
def KV.length{kvs:yS}{vs:List (κ×VL)}(r:KV kvs vs):kvs.length=vs.length:=Paired.length r
end
def Yo{P:F0b}{w:F0c}{k:Key}{u:VL}(r:RelV (kV k) u):(EE P w).is k u=true:=by
 cases k with
 |inl i=>obtain⟨t,e⟩:=(show ∃t,u=Value.int i t from r);subst e;exact W0 P w i t
 |inr x=>obtain⟨t,e⟩:=(show ∃t,u=Value.str x t from r);subst e;exact Wk P w x t
theorem Tq{P:F0b}{w:F0c}:∀ {ks:xj} {us:S0},Vals (ks.map kV) us->ItemsAre (EE P w) ks us
 |[],_,r=>by rw[List.map_nil]at r;cases r;exact .nil
 |k::ks,_,r=>by
  rw[xf]at r;cases r with
  |cons h t=>exact .cons (Yo h) (Tq t)
abbrev KT(H:Hp):List (List Key×V)->List xy->Prop:=Paired fun p q=>p.1=q.1/\H q.2.1=some (.tup (p.1.map kV))/\RelV p.2 q.2.2
def KT.val{H:Hp}{kvs:NE}{xs:List xy}(r:KT H kvs xs)(k:xj):Kq (Ht kvs k) ((atKey xs k).map zm):=by
 induction r with
 |nil=>exact True.intro
 | @cons p q ps g h t M=>
  obtain⟨I,_,R⟩:=h;by_cases e:p.1=k
  .have l:q.1=k:=I.symm.trans e;have b:atKey (q::g) k=some q.2:=by simp[atKey,List.find?_cons,l]
   rw[QF e,b];exact R
  .have l:¬q.1=k:=fun z=>e (I.trans z);have b:atKey (q::g) k=atKey g k:=by simp[atKey,List.find?_cons,l]
   rw[Pz e,b];exact M
def KT.gN{H:Hp}{kvs:NE}{xs:List xy}(r:KT H kvs xs)(k:xj){y:V}{u:VL}(M:RelV y u):KT H (kvs.map fun l=>if l.1=k then(l.1,y) else l) (xs.map (putAt k u)):=by
 induction r with
 |nil=>exact .nil
 | @cons p q ps U h t R=>
  rw[xf,xf];refine .cons ?_ R;obtain⟨g,I,T⟩:=h;unfold putAt;by_cases e:p.1=k
  .rw[if_pos e,if_pos (g.symm.trans e)];exact⟨g,I,M⟩
  .rw[if_neg e,if_neg (fun z=>e (g.trans z))];exact⟨g,I,T⟩
def KT.put{H:Hp}{kvs:NE}{xs:List xy}(r:KT H kvs xs)(k:xj){b:AD}{y:V}{u:VL}(I:H b=some (.tup (k.map kV)))(g:RelV y u):KT H (putK kvs k y) (storedH xs k b u):=by
 have e:(kvs.any fun l=>decide (l.1=k))=(atKey xs k).isSome:=by
  rw[U4,(r.val k).Z9,Option.isSome_map]
 unfold putK storedH;rw[e];by_cases q:(atKey xs k).isSome=true
 .rw[if_pos q,if_pos q];exact r.gN k g
 .rw[if_neg q,if_neg q];exact Paired.snoc r ⟨rfl,I,g⟩
def KT.keeps{H H':Hp}{kvs:NE}{xs:List xy}(r:KT H kvs xs)(g:∀b ys,H b=some (.tup ys)->H' b=some (.tup ys)):KT H' kvs xs :=
 Paired.gV r fun _ _ z=>⟨z.1,g _ _ z.2.1,z.2.2⟩
section
variable{P:F0b}{w:F0c}{H:Hp}{h:Heap}{a:AD}
def jT{u:HO}(ok:yA)(e:Rd H a u):CB P w H h a u:=e.ok ok
def ZZ{kvs:List (Key×V)}(ok:yA)(e:Rd H a (.dK kvs)):kvs.length<=sizeLine/\yD=false/\∃vs,KV kvs vs/\h.DictOf (EE P w) a vs :=
 show CB P w H h a (.dK kvs) from jT ok e
def sx{kvs:List (Key×V)}(ok:yA)(e:H a=some (.dK kvs)):kvs.length<=sizeLine/\yD=false/\∃vs,KV kvs vs/\h.DictOf (EE P w) a vs:=ZZ ok (.inl e)
def Vm{ks:xj}(ok:yA)(e:H a=some (.tup (ks.map kV))):(tupleKind (EE P w)).is h ks a:=by
 obtain⟨_,g,r,o,M,I,n,l⟩:=(show CB P w H h a (.tup (ks.map kV)) from ok a _ e);exact⟨o,g.toArray,n,M,I,l,by simpa using Tq r⟩
def Yc{kvs:NE}(ok:yA)(e:Rd H a (.dT kvs)):kvs.length<=sizeLine/\yD=false /\∃xs,KT H kvs xs/\h.DictOfH (tupleKind (EE P w)) a xs:=by
 obtain⟨z,y,xs,r,o,es,ep,Z,Y,U,T,R⟩:=(show CB P w H h a (.dT kvs) from jT ok e);refine⟨z,y,xs,r,o,es,ep,Z,Y,U,T,fun x g=>?_,R⟩;have all:∀ {l:NE} {m:List xy},KT H l m->∀x∈m,(tupleKind (EE P w)).is h x.1 x.2.1:=by
  intro l m q
  induction q with
  |nil=>intro x g;exact nomatch g
  | @cons p q ps qs I t M=>
   intro x g;rcases aI.mp g with e|g
   .subst e;exact Vm ok (by rw[<-I.1];exact I.2.1)
   .exact M x g
 exact all r x g
def i9{kvs:NE}(ok:yA)(e:H a=some (.dT kvs)):kvs.length<=sizeLine/\yD=false /\∃xs,KT H kvs xs/\h.DictOfH (tupleKind (EE P w)) a xs:=Yc ok (.inl e)
end
def SW(H:Hp)(a:AD)(y:V)(r:Option V):Prop :=
 (∃kvs k,Rd H a (.dK kvs)/\y=kV k/\r=Ht kvs k)\/∃kvs k b,Rd H a (.dT kvs)/\y=.ref b/\H b=some (.tup (k.map kV))/\r=Ht kvs k
def Vu(H:Hp)(a:AD)(y v:V)(H':Hp):Prop :=
 (∃kvs k,H a=some (.dK kvs)/\y=kV k/\kvs.length<sizeLine/\H'=upd H a (.dK (putK kvs k v))) \/
 ∃kvs k b,H a=some (.dT kvs)/\y=.ref b/\H b=some (.tup (k.map kV))/\kvs.length<sizeLine/\H'=upd H a (.dT (putK kvs k v))
def SW.t{H:Hp}{a b:AD}{kvs:NE}{k:xj}(e:H a=some (.dT kvs))(g:H b=some (.tup (k.map kV))):SW H a (.ref b) (Ht kvs k):=.inr ⟨kvs,k,b,.inl e,rfl,g,rfl⟩
def Vu.t{H:Hp}{a b:AD}{kvs:NE}{k:xj}{v:V}(e:H a=some (.dT kvs))(l:H b=some (.tup (k.map kV)))(g:kvs.length<sizeLine):Vu H a (.ref b) v (upd H a (.dT (putK kvs k v))):=.inr ⟨kvs,k,b,e,rfl,l,g,rfl⟩
section
variable{X:Cx}{pins:Cl}{σ:St}{H:Hp}{s:SD}{a:AD}{y v:V}{u r:VL}{o:Option V}{A:F0d}{E:ve}
def Inv.big(I:Db):sysModules<s.heap.objs.size:=by
 have h:mainGlobals<s.heap.objs.size:=(I.mod.glob.keeps I.bk).lt;exact Nat.lt_trans AS h
def fT{Q:ve}(hu:A.units+1<cLine)(I:Db)(g:SW H a y tz)(ry:RelV y u)(h:∀R s',Inv X pins σ H s'->RelV v R->Q R s'):wpAny AT A (getItem PZ u) Q E s:=by
 rcases g with ⟨kvs,k,e,Y,l⟩|⟨kvs,k,b,e,Y,eb,l⟩
 .subst Y;obtain⟨z,hd,vs,rel,Z⟩:=ZZ I.Ay e;obtain⟨R,T,M⟩:=Kq.some_of (v:=v) (o:=valueAt vs k) (by rw[l];exact rel.val k);exact wpAny_getItem_of (Yo ry) Z.mapOf T (h R _ (I.tok _) M)
 .subst Y;cases (show u=Value.ref b from ry);obtain⟨z,hd,xs,rel,Z⟩:=Yc I.Ay e;obtain⟨R,T,M⟩:=Kq.some_of (v:=v) (o:=(atKey xs k).map zm) (by rw[l];exact rel.val k);obtain⟨p,hp,U⟩:=aC.mp T;refine wpAny_getItem_heap (tupleKind_room_in1 hu) (Vm I.Ay eb) Z hp ?_;rw[U];exact h R _ (I.tok _) M
def YA{h':Heap}{t':Nat}{ob:HO}(I:Db)(g:cZ (H a))(hs:Heap.SameBut a s.heap h')(he:∃q,h'.get? a=some q)(new:CB X.prog X.w (upd H a ob) h' a ob):Inv X pins σ (upd H a ob) wd :=
 I.write (x:=a) (e:=a) g bv (fun b q l z=>(hs.2 b l).trans z) he new
def qV{P:F0b}{w:F0c}{H':Hp}{h':Heap}{kvs:List (Key×V)}{vs:List (Key×VL)}(z:kvs.length<=sizeLine)(hd:yD=false)(rel:KV kvs vs)(dd:h'.DictOf (EE P w) a vs):CB P w H' h' a (.dK kvs):=⟨z,hd,vs,rel,dd⟩
def Zz{H':Hp}{Q:y3}(hu:A.units+1<cLine)(I:Db)(g:Vu H a y v H')(ry:RelV y u)(rv:RelV v r)(h:∀s',Inv X pins σ H' s'->Q () s'):wpAny AT A (setItem PZ u r) Q E s:=by
 rcases g with ⟨kvs,k,e,ey,l,eH⟩|⟨kvs,k,b,e,ey,eb,l,eH⟩
 .subst ey eH;obtain⟨z,hd,vs,rel,dd⟩:=sx I.Ay e;have T:vs.length<=sizeLine:=by rw[<-rel.length];exact z
  have Z:(putK kvs k v).length<=sizeLine:=by have:=Py kvs k v;lia
  refine wpAny_setItem_pairs (hsz:=T) (Yo ry) dd fun h' M Y=>h _ ?_;have he:∃q,h'.get? a=some q:=let⟨q,_,_,R,_⟩:=M;⟨q,R⟩;exact YA I (by rw[e];exact True.intro) Y he (qV Z hd (rel.put k rv) M)
 .subst ey eH;cases (show u=Value.ref b from ry);obtain⟨z,hd,xs,rel,dd⟩:=i9 I.Ay e;have T:xs.length<=sizeLine:=by rw[<-Paired.length rel];exact z
  have Z:(putK kvs k v).length<=sizeLine:=by have:=Py kvs k v;lia
  refine wpAny_setItem_heap (hsz:=T) (tupleKind_room_in1 hu) (Vm I.Ay eb) dd fun h' M Y=>h _ ?_;obtain⟨q,es,ep,R,h2,h3,h4,_,h5⟩:=M;refine YA I (by rw[e];exact True.intro) Y ⟨q,R⟩ ⟨Z,hd,_,(rel.put k eb rv).keeps fun c ys ec=>?_,q,es,ep,R,h2,h3,h4,h5⟩;rw[Ae (sr ec e Id)];exact ec
end
def gJ(i:Expr):Prop:=∀g l,subscripted i false g l=operate [g,l] (getItem g l)
def kZ{prog:F0b}{w:F0c}{A:F0d}{E:ve}{s:SD}{env:Env}{value slice:Expr}{pos:Pos}{T id:xC}{Q:ve} (Z:typeLookup (.type T) "__getitem__" = pure (some xp))(hs:gJ slice) (h:wpAny By A (eval value env) (fun o M=>wpAny By A (eval slice env) (fun i g=>g.TypeIs o T/\wpAny By A (getItem o i) Q E g) E M) E s):wpAny By A (eval (.Subscript value slice pos) env) Q E s:=by
 refine Subscript_ (aM h (fun o M U=>aM U (fun i g l=>?_) fun _ _ x=>x) fun _ _ x=>x);obtain⟨Y,l⟩:=l;unfold subscriptTail;refine Wb ?_;rw[getitemInPython_of_ne Y.not_modules];refine Wb (wpAny_specialOf Y Z ?_);have fin:wpAny By A (subscripted slice false o i) (fun r I=>wpAny By A (letTemporaryGo value o r>>=fun _=>pure r) Q E I) E g:=by
  rw[hs o i];exact wpAny_operating (aM l (fun r I R=>Wb (wpAny_letTemporaryGo (aB R))) fun _ _ x=>x)
 first
  |exact aB (Wb fin)
  |exact Wb (aB (Wb fin))
  |exact Wb fin
def Wl{X:Cx}{pins:Cl}{σ:St}{H:Hp}{s:SD}{a:AD}{y:V}{o:Option V}(I:Db)(g:SW H a y o):s.TypeIs PZ "dict" := by
 rcases g with ⟨kvs,k,e,_,_⟩|⟨kvs,k,b,e,_,_,_⟩
 .obtain⟨_,_,vs,_,l⟩:=ZZ I.Ay e;exact l.typeIs
 .obtain⟨_,_,xs,_,l⟩:=Yc I.Ay e;exact l.typeIs
def tF(l ty:TE):TE:=fun σ H Q=>l σ H fun x I=>ty σ I fun y g=>∃a v,x=.ref a/\SW g a y tz/\Q v g
def jk(I ty l:TE):TS:=fun D σ H=>l σ H fun v T=>I σ T fun x R=>ty σ R fun y M=>∃a g,x=.ref a/\Vu M a y v g/\D.nx σ g
section
variable{X:Cx}{o i value:Expr}{pos pos':Pos}{td ty tv:TE}
def kJ(Z:X.A.units+1<cLine)(ho:PE X o td)(hi:PE X i ty)(hs:gJ i):PE X (.Subscript o i pos) (tF td ty):=by
 intro pins s σ H Q I h;refine kZ PySem.F.slot_dict_getitem.lookup hs (A2 zI fun u s1 ⟨x,H1,I1,T,Y⟩=>A2 (hi pins s1 σ H1 _ I1 Y) fun iv s2 ⟨y,H2,M,R,a,v,ex,g,U⟩=>?_);subst ex;obtain rfl:u=Value.ref a:=T;exact⟨Wl M g,fT Z M g R fun w' s3 I3 l=>⟨v,H2,I3,l,U⟩⟩
def lO(hu:X.A.units+1<cLine)(ho:PE X o td)(hi:PE X i ty)(Z:PE X value tv)(hs:swapsWith value (some (.Subscript o i pos')) pos.line X.env=pure false):PS X (.Assign [.Subscript o i pos'] value pos) (jk td ty tv):=by
 intro pins s σ H D I h;refine wpAny_Assign_Subscript (A2 (Z pins s σ H _ I h) fun r s1 ⟨v,H1,I1,R,Y⟩=>A2 (ho pins s1 σ H1 _ I1 Y) fun u s2 ⟨x,H2,I2,M,U⟩=>A2 (hi pins s2 σ H2 _ I2 U) fun iv s3 ⟨y,H3,I3,l,a,H4,ex,g,T⟩=>?_) hs;subst ex;obtain rfl:u=Value.ref a:=M;exact Zz hu I3 g l R fun s4 I4=>⟨σ,H4,I4,T⟩
end
def iq{P:F0b}{w:F0c}{H:Hp}(h:Heap)(g:sysModules<h.objs.size):CB P w H (h.push { cls:=.type "dict",data:=.dict #[]}) h.objs.size (.dT []) :=
 ⟨aW _,beq_eq_false_iff_ne.mpr (Ne.symm (aP g)),[],.nil,_,#[],0,Heap.get?_push_size _ rfl,⟨rfl,rfl,rfl⟩,rfl,rfl,List.nodup_nil⟩
def o6:TE:=fun _ H Q=>∀p,H p=none->Q yI (upd H p (.dT []))
section
variable{X:Cx}{pos:Pos}
def gA:PE X (.Dict [] [] pos) o6:=fun pins s σ H Q I h=>
 wpAny_Dict_empty ⟨.ref s.heap.objs.size,_,I.laid (a:=s.heap.objs.size) (o:=.dT []) (t':=s.toks) (fun _ _ q=>aD _ q) SL (iq s.heap I.big),rfl,h _ zBn⟩
end
end L2
namespace IT
open PySem PySem.W PyProof.Rows PySem.SeqAt
def lt:List Int->List Int->Bool
 |[],[]=>false
 |[],_::_=>true
 |_::_,[]=>false
 |a::r,b::q=>if a=b then lt r q else decide (a<b)
theorem lt_irrefl:∀a,lt a a=false
 |[]=>rfl
 |a::r=>by rw[lt,if_pos rfl,lt_irrefl r]
theorem lt_trans:∀a b c,lt a b=true->lt b c=true->lt a c=true
 |[],[],_,h,_=>by cases h
 |[],_::_,[],_,h=>by cases h
 |[],_::_,_::_,_,_=>rfl
 |_::_,[],_,h,_=>by cases h
 |_::_,_::_,[],_,h=>by cases h
 |a::r,b::q,c::p,h,k=>by
  rw[lt]at h k ⊢;by_cases l:a=b
  .subst l;rw[if_pos rfl]at h;by_cases g:a=c
   .rw[if_pos g]at k ⊢;exact lt_trans r q p h k
   .rw[if_neg g]at k ⊢;exact k
  .rw[if_neg l]at h;have h:=aU h;by_cases g:b=c
   .subst g;rw[if_neg l];exact aX h
   .rw[if_neg g]at k;have k:=aU k;rw[if_neg AC];exact aX AC
theorem Kg:∀a b,lt a b=false->lt b a=false->a=b
 |[],[],_,_=>rfl
 |[],_::_,h,_=>by cases h
 |_::_,[],_,h=>by cases h
 |a::r,b::q,h,k=>by
  rw[lt]at h k;by_cases e:a=b
  .subst e;rw[if_pos rfl]at h k;rw[Kg r q h k]
  .rw[if_neg e]at h;rw[if_neg (Ne.symm e)]at k;have h:=bT h;have k:=bT k
   lia
def Wv(a b c:vj)(h:lt a c=true):lt a b=true\/lt b c=true:=by
 cases k:lt a b with
 |true=>exact .inl rfl
 |false=>
  right
  cases m:lt b c with
  |true=>rfl
  |false=>
   cases n:lt b a with
   |true=>have:=lt_trans b a c n h;rw[m]at this;cases this
   |false=>have:=Kg a b k n;subst this;rw[m]at h;cases h
def ord:KeyOrd where
 α:=List Int
 blt:=lt
 irrefl:=lt_irrefl
 trans:=lt_trans
 negTrans:=Wv
 total:=Kg
def Is:List Int->List VL->Prop
 |[],us=>us=[]
 |k::r,us=>∃t rest,us=.int k t::rest/\Is r rest
theorem Is.length:∀ {ks:mo} {us:S0},Is ks us->us.length=ks.length
 |[],us,h=>by rw[Is]at h;subst h;rfl
 |k::r,us,h=>by
  rw[Is]at h;obtain⟨t,rest,rfl,h⟩:=h;rw[(Fv),(Fv),Is.length h]
end IT
namespace L2
open PySem PySem.Spec PyProof.Rows
theorem US:∀ {ps:mo} {us:S0},Vals (ps.map V.int) us->IT.Is ps us
 |[],_,r=>by rw[List.map_nil]at r;cases r;rw[IT.Is]
 |p::ps,_,r=>by
  rw[xf]at r;cases r with
  |cons h t=>
   obtain⟨tk,rfl⟩:=h;rw[IT.Is];exact⟨tk,_,rfl,US t⟩
def qR(ps:vj):(ps.map (Sum.inl:Int->Key)).map kV=ps.map V.int:=by rw[(Cu)];rfl
theorem Te{α g:Type}{F:α->g->Prop}:∀ {xs:wq} {ys:List g} {j:Nat} {x:α} {y:g},Paired F xs ys->xs[j]? = some x->ys[j]? = some y->F x y
 |_,_,j,x,y,.nil,h,_=>by simp at h
 |_,_,0,x,y,.cons f _,h,k=>by simp at h k;subst h k;exact f
 |_,_,j+1,x,y,.cons _ r,h,k=>Te r w9 (by simpa using k)
theorem S9:∀as:List AD,Vals (as.map V.ref) (as.map Value.ref)
 |[]=>.nil
 |a::as=>.cons rfl (S9 as)
end L2
namespace IT
open PySem PySem.W PyProof.Rows PySem.SeqAt
section
open PySem.AutoSeq1 (wpAny_loadPart')
open PySem.MeetsSeq PySem.MeetsSeq2 PySem.MeetsSeq3
def fv(l b:AD)(items I:Array VL)(n n2:Nat)(dd dd2:Option AD)(sl sl2:Array (Option VL))(t u:vj):Meets (Builtin.«tuple.__ge__» ⟨[.ref l,.ref b],[]⟩) (fun A R s=>s.heap.get? l=some { cls:=.type "tuple",dict:=dd,data:=.seq items n,slots:=sl}/\s.heap.get? b=some { cls:=.type "tuple",dict:=dd2,data:=.seq I n2,slots:=sl2} /\Is t items.toList/\Is u I.toList/\A.units<cLine/\R (.ok (.ret (.bool (!lt t u)))) s) :=
 .of_wp fun prog w A R s h=>by
  obtain⟨hp,g,d,tk,os⟩:=s;obtain⟨hl,hb,hi,hj,hun,h⟩:=h;have f2:=AutoSeq1.sub_tuple_tuple;have z1:items.size=t.length:=by rw[<-Is.length hi];simp
  have z2:I.size=u.length:=by rw[<-Is.length hj];simp
  wp_walk using wpAny_loadPart' hl,wpAny_loadPart' hb,wpAny_forIn_list _ (fun rest b s'=>b.1=none/\s'=⟨hp,g,d,tk,os⟩/\∃(vs ws:S0) (t' Y:mo),rest=vs.zip ws /\
   Is t' vs/\Is Y ws/\t'.length+I.size=Y.length+items.size/\R (.ok (.ret (.bool (!lt t' Y)))) ⟨hp,g,d,tk,os⟩) _
  case turn=>
   rintro⟨y,x⟩ rest b s' ⟨hb',rfl,vs,ws,t',Y,Z,U,T,M,hR⟩;cases t' with
   |nil=>rw[Is]at U;subst U;rw[List.zip_nil_left]at Z;cases Z
   |cons bt rt=>
    cases Y with
    |nil=>rw[Is]at T;subst T;rw[List.zip_nil_right]at Z;cases Z
    |cons bu ru=>
     rw[Is]at U T;obtain⟨a1,v1,rfl,p3⟩:=U;obtain⟨a2,v2,rfl,q3⟩:=T;rw[List.zip_cons_cons]at Z
     injection Z with hyx hrest
     injection hyx with hy hx
     subst hy hx;rw[lt]at hR;simp only[List.length_cons]at M;have he:=EqAt.int_int (A:=A.in1) (s:=⟨hp,g,d,tk,os⟩) bt a1 bu a2;refine Wb (he prog w _ _ ?_);by_cases hc:bt=bu
     .rw[if_pos hc]at hR;rw[beq_iff_eq.mpr hc]
      wp_walk
      exact⟨rfl,rfl,_,_,_,_,hrest,p3,q3,by lia,hR⟩
     .rw[if_neg hc]at hR;rw[beq_eq_false_iff_ne.mpr hc];have hri:∀(E:zV) (Q:zV),Q (.bool (decide (bu<=bt))) ⟨hp,g,d,tk,os⟩->wpAny By A.in1 (richCompare .GtE (.int bt a1) (.int bu a2)) Q E ⟨hp,g,d,tk,os⟩:=fun E Q h=>PyProof.Rows.ge_int h;have e:(!decide (bt<bu))=decide (bu<=bt):=by rw[(NU)];simp
      rw[e]at hR
      wp_walk using hri
      exact⟨_,rfl,by simpa using hR⟩
  case fin=>
   rintro⟨b1,b2⟩ s' ⟨hb',rfl,vs,ws,t',Y,Z,U,T,M,hR⟩;simp only at hb';subst hb';have hv:lt t' Y=decide (items.size<I.size):=by
    cases t' with
    |nil=>
     cases Y with
     |nil=>
      simp only[List.length_nil]at M;exact(aV AC).symm
     |cons c q=>
      simp only[List.length_cons,List.length_nil]at M;exact(aX AC).symm
    |cons bt rt=>
     cases Y with
     |nil=>
      simp only[List.length_cons,List.length_nil]at M;exact(aV AC).symm
     |cons c q=>
      rw[Is]at U T;obtain⟨_,_,rfl,_⟩:=U;obtain⟨_,_,rfl,_⟩:=T;rw[List.zip_cons_cons]at Z;cases Z
   have e:(!decide (items.size<I.size))=decide (I.size<=items.size):=by rw[(NU)];simp
   rw[hv,e]at hR
   wp_walk
   exact⟨_,rfl,by simpa[Builtin.Tuple.tupleCompareSizes]using hR⟩
  case h=>
   exact⟨rfl,rfl,items.toList,I.toList,t,u,rfl,hi,hj,by lia,h⟩
end
section
open PySem.MeetsSeq PySem.MeetsSeq2 PySem.MeetsSeq3
variable{prog:F0b}{w:F0c}{A:F0d}{E:ve}{s:SD}{t u:vj}{a b:AD}{its its':vd}
def sC{Q:ve}(h1:s.heap.IsTuple a its.toArray)(k1:Is t its)(h2:s.heap.IsTuple b its'.toArray)(k2:Is u its')(hu:A.units+1<cLine)(h:Q (.bool (!lt t u)) s):wpAny By A (richCompare .GtE PZ (.ref b)) Q E s:=by
 obtain⟨⟨cls,dd,data,sl⟩,U,Y,n,I⟩:=id h1;obtain⟨⟨Z,T,data2,R⟩,l,M,n2,g⟩:=id h2;simp only at Y I M g;subst Y I M g;exact richCompare_meets_room (op:=.GtE) ⟨_,U,rfl⟩ ⟨_,l,rfl⟩ PySem.F.slot_tuple_ge PySem.F.entry_tuple_ge (PySem.F.args_tuple_ge_2 _ _) (fv a b its.toArray its'.toArray n n2 dd T sl R t u)
  ⟨U,l,by simpa using k1,by simpa using k2,by lia,show Value.bool (!lt t u)≠Value.notImplemented/\Q (.bool (!lt t u)) s from⟨(fun x=>nomatch x),h⟩⟩ AC
end
end IT
namespace L2
open PySem PySem.Spec PyProof.Rows
def cn{X:Cx}(hu:ZB):DC X (compareOp .GtE) (fun x y H Q=>∃(a b:AD) (ps qs:vj),x=.ref a/\y=.ref b/\H a=some (.tup (ps.map V.int))/\H b=some (.tup (qs.map V.int))/\Q (.bl (!IT.lt ps qs)) H):=by
 intro pins s σ H x y v Z Q I R M h;obtain⟨a,b,ps,qs,rfl,rfl,ha,Y,q⟩:=h;cases R;cases M;obtain⟨i1,l,U,_⟩:=I.tuple (B2.of (K:=X.K) ha);obtain⟨i2,g,T,_⟩:=I.tuple (B2.of (K:=X.K) Y);exact IT.sC U (US l) T (US g) AC ⟨.bl _,H,I,rfl,q⟩
end L2
namespace TH
open PySem PyProof.Rows PySem.SeqAt
def Yz:Tr->List Int
 |.nil=>[]
 |.cons b r=>reduceHash (Builtin.Tuple.tupleHashOf (Yz b))::Yz r
def tG(t:Tr):Int:=reduceHash (Builtin.Tuple.tupleHashOf (Yz t))
section
variable{prog:F0b}{w:F0c}{A:F0d}{E:ve}{s:SD}
def gather{T:xC}{r d:AD}{n:Nat}{P:Nat->VL->Prop}{U:Heap->Prop}{R:List VL->SD->Prop}(K:PySem.W.KdlSrc prog w T r d n P U)(Z:xR)(Ay:U s.heap)(hn:n<=sizeLine) (k:∀(l:Heap) (tk:Nat) (g:Array VL),s.heap.objs.size<l.objs.size->(∀b u,s.heap.get? b=some u->l.get? b=some u)->ItemsOf P g n->R g.toList {s with heap:=l,toks:=tk}):wpAny By A (collect (.ref r)) R E s:=by
 obtain⟨Y,ld⟩:=K.there _ Ay;unfold collect;refine Wb (wpAny_runValue (codeAny_builtin entry_proto_collect' ?_));rw[Around.under_plainId PySem.F.plain_proto_collect _];show wpAny _ A.in1 (newList []>>=fun v=>again (.builtin "list.__iadd__" ⟨[v,.ref r],[]⟩)) _ _ s;refine Wb (aY (aB ⟨plainId_quiet PySem.F.plain_list_iadd _,codeAny_builtin entry_list_iadd' ?_⟩));rw[Around.under_plainId PySem.F.plain_list_iadd _];have g0:(s.heap.push { cls:=.type "list",data:=.seq ([]:List VL).toArray}).get? s.heap.objs.size=some { cls:=.type "list",data:=.seq #[]}:=aa _ rfl;have main:=PySem.W.kdl_extend (A:=A) (s:={s with heap:=s.heap.push { cls:=.type "list",data:=.seq ([]:List VL).toArray} }) K Z
  (K.keep _ _ Ay fun _ _ _ e=>aD _ e) s.heap.objs.size (Nat.ne_of_gt Y) (Nat.ne_of_gt ld) N7 0 g0
  (R:=fun q s1=>∃l tk g c,q=.ok (.ret N7)/\s1={s with heap:=l,toks:=tk}/\(∀b u,s.heap.get? b=some u->l.get? b=some u)/\l.get? s.heap.objs.size=some { cls:=.type "list",dict:=none,data:=.seq g c,slots:=#[]}/\ItemsOf P g n)
  (fun l tk g c M I ha=>⟨l,tk,g,c,rfl,rfl,fun b u e=>M b u (aP wU) (aD _ e),I,ha⟩) hn
 refine aM main (fun fin s1 x=>?_) fun e s1 x=>?_
 .cases fin with
  |done f=>
   obtain⟨l,tk,g,c,e,rfl,M,I,ha⟩:=x;cases e;show wpAny _ A (load s.heap.objs.size>>=_) _ _ _;exact Wb (wpAny_load I (aB (k l tk g (aE I) M ha)))
  |again c1=>
   refine⟨x.1,codeAny_mono x.2 fun q s2 y=>?_⟩;obtain⟨l,tk,g,c,rfl,rfl,M,I,ha⟩:=y;show wpAny _ A (load s.heap.objs.size>>=_) _ _ _;exact Wb (wpAny_load I (aB (k l tk g (aE I) M ha)))
 .obtain⟨_,_,_,_,z,_⟩:=x;cases z
end
end TH
namespace TH
open PySem PyProof.Rows
def sO:Option Tr->Int
 |none=>4238894112
 |some t=>tG t
abbrev KE:=Option Tr×VL×VL
def uw(x:KE):DictEntry:=⟨sO x.1,x.2.1,x.2.2⟩
end TH
namespace L2
open PySem PySem.Spec PyProof.Rows
abbrev KR:=Option Tr×V×V
def uf(q:KR)(x:TH.KE):Prop:=x.1=q.1/\RelV q.2.1 x.2.1/\RelV q.2.2 x.2.2
def dN(d:AD)(r:List KR):HO:=.ext fun h=>(d==sysModules)=false/\∃o g l xs,h.get? d=some o/\o.ExactDict/\o.data=.dict g l/\g.toList=xs.map TH.uw/\PySem.Paired uf r xs
def Yq(H:Hp):Option Tr->V->Prop
 |none,v=>v=.BS
 |some t,v=>t.deep<8/\Tv H t v
def Yq.same{H H':Hp}{k:Option Tr}{v:V}(h:Yq H k v)(e:AY H H'):Yq H' k v:=by
 cases k with
 |none=>exact h
 |some t=>exact⟨h.1,h.2.same e⟩
def Rd.same{H H':Hp}{a:AD}{u:HO}(e:AY H H')(h:Rd H a u):Rd H' a u:=by
 rcases h with h|⟨o,h⟩
 .exact .inl (e _ _ h)
 .exact .inr ⟨o,e _ _ h⟩
def gb:Tr->List PD
 |.nil=>[]
 |.cons b r=>.tuple (gb b)::gb r
def qf:Option Tr->PD
 |none=>.none
 |some t=>.tuple (gb t)
mutual
def Du(H:Hp):PD->V->Prop
 |.none,v=>v=.BS
 |.bool b,v=>v=.bl b
 |.int i,v=>v=.int i
 |.str x,v=>v=.str x
 |.tuple ds,v=>∃a xs,v=.ref a/\H a=some Pt/\Aq H ds xs
 |.list ds,v=>∃a xs,v=.ref a/\H a=some SB/\Aq H ds xs
 |.dict g,v=>(∃ea C:AD,g=[(.int (C:Nat),.none)]/\v=.ref ea/\H ea=some (LR ea OL))\/(∃(a:AD) (ns:mo),g=[(.none,.list (ns.map .int))]/\v=.ref a/\Rd H a (.lst wC))\/LC H g v
def Aq(H:Hp):List PD->List V->Prop
 |[],xs=>xs=[]
 |d::ds,xs=>∃x r,xs=x::r/\Du H d x/\Aq H ds r
def LC(H:Hp):List (PD×PD)->V->Prop
 |[],_=>False
 |(g,l)::t,v=>g=.bool true/\l=.none/\∃a r,v=.ref a/\H a=some (dN a r)/\(r.map OR).Nodup/\L8 H t r
def L8(H:Hp):List (PD×PD)->List KR->Prop
 |[],r=>r=[]
 |(k,d)::t,r=>∃q g,r=q::g/\k=qf q.1/\Yq H q.1 q.2.1/\Du H d q.2.2/\L8 H t g
end
mutual
theorem Du.same{H H':Hp}(e:AY H H'):∀ {d:PD} {v:V},Du H d v->Du H' d v
 |.none,_,h=>by rw[Du]at h ⊢;exact h
 |.bool _,_,h=>by rw[Du]at h ⊢;exact h
 |.int _,_,h=>by rw[Du]at h ⊢;exact h
 |.str _,_,h=>by rw[Du]at h ⊢;exact h
 |.tuple _,_,h=>by
  rw[Du]at h ⊢;obtain⟨a,xs,l,g,I⟩:=h;exact⟨a,xs,l,e _ _ g,Aq.same e I⟩
 |.list _,_,h=>by
  rw[Du]at h ⊢;obtain⟨a,xs,l,g,I⟩:=h;exact⟨a,xs,l,e _ _ g,Aq.same e I⟩
 |.dict _,_,h=>by
  rw[Du]at h ⊢;rcases h with ⟨ea,C,l,M,g⟩|⟨a,ns,l,M,g⟩|h
  .exact .inl ⟨ea,C,l,M,e _ _ g⟩
  .exact .inr (.inl ⟨a,ns,l,M,g.same e⟩)
  .exact .inr (.inr (LC.same e h))
theorem Aq.same{H H':Hp}(e:AY H H'):∀ {ds:wV} {xs:UF},Aq H ds xs->Aq H' ds xs
 |[],_,h=>by rw[Aq]at h ⊢;exact h
 |_::_,_,h=>by
  rw[Aq]at h ⊢;obtain⟨x,r,I,l,g⟩:=h;exact⟨x,r,I,Du.same e l,Aq.same e g⟩
theorem LC.same{H H':Hp}(e:AY H H'):∀ {g:List (PD×PD)} {v:V},LC H g v->LC H' g v
 |[],_,h=>by rw[LC]at h;exact h.elim
 |(_,_)::_,_,h=>by
  rw[LC]at h ⊢;obtain⟨U,T,a,r,R,M,I,l⟩:=h;exact⟨U,T,a,r,R,e _ _ M,I,L8.same e l⟩
theorem L8.same{H H':Hp}(e:AY H H'):∀ {g:List (PD×PD)} {r:List KR},L8 H g r->L8 H' g r
 |[],_,h=>by rw[L8]at h ⊢;exact h
 |(_,_)::_,_,h=>by
  rw[L8]at h ⊢;obtain⟨q,l,U,T,R,M,I⟩:=h;exact⟨q,l,U,T,R.same e,Du.same e M,L8.same e I⟩
end
mutual
theorem Du.br{K:Fg}{H:Hp}:∀ {d:PD} {v:V},d.canLay0=true->Du H d v->Br K H d v
 |.none,_,_,h=>by rw[Du]at h;rw[Br];exact h
 |.bool _,_,_,h=>by rw[Du]at h;rw[Br];exact h
 |.int _,_,_,h=>by rw[Du]at h;rw[Br];exact h
 |.str _,_,_,h=>by rw[Du]at h;rw[Br];exact h
 |.tuple _,_,c,h=>by
  rw[Du]at h;rw[Br];obtain⟨a,xs,I,l,g⟩:=h;exact⟨a,xs,I,B2.of l,Aq.br yy g⟩
 |.list _,_,c,h=>by
  rw[Du]at h;rw[Br];obtain⟨a,xs,I,l,g⟩:=h;exact⟨a,xs,I,BR.of l,Aq.br yy g⟩
 |.dict _,_,c,h=>by simp[PyData.canLay0]at c
theorem Aq.br{K:Fg}{H:Hp}:∀ {ds:wV} {xs:UF},PyData.canLayAll0 ds=true->Aq H ds xs->GN K H ds xs
 |[],_,_,h=>by rw[Aq]at h;rw[GN];exact h
 |_::_,_,c,h=>by
  rw[Aq]at h;rw[GN];obtain⟨x,r,I,l,g⟩:=h;simp only[PyData.canLayAll0,Bool.and_eq_true]at c;exact⟨x,r,I,Du.br c.1 l,Aq.br c.2 g⟩
end
def Aq.nil{H:Hp}:Aq H [] []:=by rw[Aq]
def Aq.cons{H:Hp}{d:PD}{ds:vc}{x:V}{xs:vx}(h:Du H d x)(k:Aq H ds xs):Aq H (d::ds) (x::xs):=by rw[Aq];exact⟨x,xs,rfl,h,k⟩
def Aq.un{H:Hp}{d:PD}{ds:vc}{xs:vx}(h:Aq H (d::ds) xs):∃x r,xs=x::r/\Du H d x/\Aq H ds r:=by rw[Aq]at h;exact h
def Aq.nil_eq{H:Hp}{xs:vx}(h:Aq H [] xs):xs=[]:=by rw[Aq]at h;exact h
def Aq.len{H:Hp}:∀ {ds:wV} {xs:UF},Aq H ds xs->xs.length=ds.length
 |[],_,h=>by rw[h.nil_eq];rfl
 |_::_,_,h=>by obtain⟨x,r,rfl,_,g⟩:=h.un;simp[g.len]
def Aq.get{H:Hp}:∀ {ds:wV} {xs:UF} {i:Nat} {d:PD},Aq H ds xs->ds[i]? = some d->∃v,xs[i]? = some v/\Du H d v
 |[],_,i,_,_,e=>by simp at e
 |_::_,_,0,_,h,e=>by
  obtain⟨x,r,rfl,M,_⟩:=h.un;simp at e;subst e;exact⟨x,rfl,M⟩
 |_::_,_,i+1,_,h,e=>by
  obtain⟨x,r,rfl,_,I⟩:=h.un;obtain⟨v,l,g⟩:=I.get (i:=i) w4;exact⟨v,by simpa using l,g⟩
def Aq.back{H:Hp}{ds:vc}{xs:vx}{i:Nat}{v:V}(h:Aq H ds xs)(e:xs[i]? = some v):∃d,ds[i]? = some d/\Du H d v:=by
 have I:=h.len;have hi:i<ds.length:=by rw[<-I];exact(aF.mp e).1
 have hd:ds[i]? = some ds[i]:=by simp[hi]
 obtain⟨w,g,l⟩:=h.get hd;rw[e]at g;cases g;exact⟨_,hd,l⟩
def Aq.app{H:Hp}:∀ {ds g:wV} {xs ys:UF},Aq H ds xs->Aq H g ys->Aq H (ds++g) (xs++ys)
 |[],_,_,_,h,k=>by rw[h.nil_eq];exact k
 |_::_,_,_,_,h,k=>by obtain⟨x,r,rfl,I,l⟩:=h.un;exact .cons I (l.app k)
def Aq.take{H:Hp}:∀ {ds:wV} {xs:UF} (i:Nat),Aq H ds xs->Aq H (ds.take i) (xs.take i)
 |_,_,0,_=>by rw[List.take_zero,List.take_zero];exact .nil
 |[],_,i+1,h=>by rw[h.nil_eq];exact .nil
 |_::_,_,i+1,h=>by obtain⟨x,r,rfl,l,g⟩:=h.un;exact .cons l (g.take i)
def Aq.drop{H:Hp}:∀ {ds:wV} {xs:UF} (i:Nat),Aq H ds xs->Aq H (ds.drop i) (xs.drop i)
 |_,_,0,h=>h
 |[],_,i+1,h=>by rw[h.nil_eq];exact .nil
 |_::_,_,i+1,h=>by obtain⟨x,r,rfl,l,g⟩:=h.un;exact g.drop i
def Aq.rev{H:Hp}:∀ {ds:wV} {xs:UF},Aq H ds xs->Aq H ds.reverse xs.reverse
 |[],_,h=>by rw[h.nil_eq];exact .nil
 |_::_,_,h=>by
  obtain⟨x,r,rfl,l,g⟩:=h.un;rw[(SU),(SU)];exact g.rev.app (.cons l .nil)
inductive Oc where
 |lst (xs:List PyData)|Cf (kvs:List (List Key×PyData))|Vb (kvs:List (Option Tr×PyData))
inductive L where
 |no|d (x:PyData)|own (c:Oc)
abbrev Dv:=List L
abbrev vZ:=Dv->Option zBo
abbrev va:=Dv->Option PD
abbrev vb:=Dv->Option Bool
def Cb(G:Hp):List (List Key×PD)->List (List Key×V)->Prop
 |[],r=>r=[]
 |q::t,r=>∃v g,r=(q.1,v)::g/\Du G q.2 v/\Cb G t g
theorem Cb.same{G g:Hp}(e:AY G g):∀ {t:Sc} {r:NE},Cb G t r->Cb g t r
 |[],r,h=>h
 |q::t,r,h=>by
  obtain⟨v,l,rfl,M,I⟩:=h;exact⟨v,l,rfl,M.same e,Cb.same e I⟩
abbrev j0(kvs:List (Option Tr×PD)):List (PD×PD):=kvs.map fun q=>(qf q.1,q.2)
abbrev UI(kvs:List (Option Tr×PD)):PD:=.dict ((.bool true,.none)::j0 kvs)
def JS(G:Hp)(a:AD):Oc->HO->Prop
 |.lst xs,o=>∃ys,o=.lst ys/\Aq G xs ys
 |.Cf kvs,o=>∃r,o=.dT r/\Cb G kvs r
 |.Vb kvs,o=>∃r,o=dN a r/\(r.map OR).Nodup/\L8 G (j0 kvs) r
def JS.same{G I:Hp}{a:AD}{c:Oc}{o:HO}(h:JS G a c o)(e:AY G I):JS I a c o:=by
 cases c with
 |Vb kvs=>obtain⟨r,l,g,M⟩:=h;exact⟨r,l,g,L8.same e M⟩
 |lst xs=>obtain⟨ys,l,g⟩:=h;exact⟨ys,l,g.same e⟩
 |Cf kvs=>obtain⟨ys,l,g⟩:=h;exact⟨ys,l,g.same e⟩
def JS.P4{G:Hp}{a:AD}{c:Oc}{xs:vx}(h:JS G a c Pt):False:=by
 cases c with
 |Vb kvs=>obtain⟨r,g,l,I⟩:=h;unfold dN at g;cases g
 |lst xs=>obtain⟨ys,g,l⟩:=h;cases g
 |Cf kvs=>obtain⟨ys,g,l⟩:=h;cases g
def Nw(G0 H0 G:Hp):Prop:=∀a o,G a=some o->G0 a=some o\/H0 a=none\/∃xs,o=HO.tup xs
structure Rw(G0 H0 G H:Hp)(σ:St)(δ:Dv)(ts:List (PyData×V)):Prop where
 ext:AY G0 G
 new:Nw G0 H0 G
 ins:AY G H
 keep:AY H0 H
 len:σ.length=δ.length
 dat:∀(i:Nat) (x:PyData),δ[i]? = some (L.d x)->∃v,σ[i]? = some tz/\Du G x v
 own:∀(i:Nat) (xs:Oc),δ[i]? = some (L.own xs)->∃(a:Addr) (ys:HO),σ[i]? = some (some (V.ref a))/\G a=none/\H0 a=none/\H a=some ys/\JS G a xs ys
 apart:∀(i j:Nat) (xs ys:Oc),i≠j->δ[i]? = some (L.own xs)->δ[j]? = some (L.own ys)->σ[i]?≠σ[j]?
 Aw:∀p∈ts,Du G p.1 p.2
def DE(X:Cx)(e:Expr)(f:va):Prop:=∃t,PE X e t/\∀δ x,f δ=some x->∀G0 H0 G H σ ts (Q:VK),Rw G0 H0 G H σ δ ts->(∀v g H',Rw G0 H0 g H' σ δ ((x,v)::ts)->Q v H')->t σ H Q
def DA(X:Cx)(g:vp)(f:vZ):Prop:=∃t,PA X g t/\∀δ xs,f δ=some xs->∀G0 H0 G H σ ts (Q:zAX),Rw G0 H0 G H σ δ ts->(∀vs l H',Rw G0 H0 l H' σ δ (xs.zip vs++ts)->vs.length=xs.length->Q vs H')->t σ H Q
def DT(X:Cx)(e:Expr)(f:vb):Prop:=∃t,PT X e t/\∀δ b,f δ=some b->∀G0 H0 G H σ ts (Q:xO),Rw G0 H0 G H σ δ ts->(∀g H',Rw G0 H0 g H' σ δ ts->Q b H')->t σ H Q
section
variable{G0 H0 G H:Hp}{σ:St}{δ:Dv}{ts:Of}
def Rw.drop{p:PD×V}(r:Rw G0 H0 G H σ δ (p::ts)):Rw G0 H0 G H σ δ ts:={r with Aw:=fun q g=>r.Aw q zAE}
def Rw.less{us:Of}(r:Gf)(h:∀p∈us,p∈ts):Rw G0 H0 G H σ δ us:={r with Aw:=fun q g=>r.Aw q (h q g)}
def Rw.put{x:PD}{v:V}(r:Gf)(h:Du G x v):Rw G0 H0 G H σ δ ((x,v)::ts):={r with Aw:=fun q g=>by rcases aI.mp g with rfl|g;exact h;exact r.Aw q g}
def Rw.newObj{p:AD}{o:HO}(r:Gf)(g:H p=none):Rw G0 H0 (upd G p o) (upd H p o) σ δ ts:=by
 have Y:G p=none:=by
  cases q:G p with
  |none=>rfl
  |some u=>rw[r.ins _ _ q]at g;cases g
 have h0:H0 p=none:=by
  cases q:H0 p with
  |none=>rfl
  |some u=>rw[r.keep _ _ q]at g;cases g
 have e:AY G (upd G p o):=B7 Y o;refine⟨r.ext.trans e,fun a u h=>?_,fun a u h=>?_,r.keep.trans (B7 g o),r.len,fun i x h=>?_,fun i xs h=>?_,r.apart,fun q U=>(r.Aw q U).same e⟩
 .by_cases ha:a=p
  .subst ha;exact .inr (.inl h0)
  .rw[Ae ha]at h;exact r.new _ _ h
 .by_cases ha:a=p
  .subst ha;rw[An]at h ⊢;exact h
  .rw[Ae ha]at h ⊢;exact r.ins _ _ h
 .obtain⟨v,I,l⟩:=r.dat i x h;exact⟨v,I,l.same e⟩
 .obtain⟨a,ys,I,l,T,M,R⟩:=r.own i xs h;have ha:a≠p:=fun z=>by subst z;rw[M]at g;cases g
  exact⟨a,ys,I,by rw[Ae ha];exact l,T,by rw[Ae ha];exact M,R.same e⟩
def Rw.p9{p:AD}{xs:vx}{H':Hp}(r:Gf)(e:AY H H')(g:H' p=some Pt):Rw G0 H0 (upd G p Pt) H' σ δ ts:=by
 have l:AY G (upd G p Pt):=fun a o h=>by
  by_cases ha:a=p
  .subst ha;have:=e _ _ (r.ins _ _ h);rw[g]at this;rw[An];exact this
  .rw[Ae ha];exact h
 refine⟨r.ext.trans l,fun a u h=>?_,fun a u h=>?_,r.keep.trans e,r.len,fun i x h=>?_,fun i xs h=>?_,r.apart,fun q Y=>(r.Aw q Y).same l⟩
 .by_cases ha:a=p
  .subst ha;rw[An]at h;cases h;exact .inr (.inr ⟨_,rfl⟩)
  .rw[Ae ha]at h;exact r.new _ _ h
 .by_cases ha:a=p
  .subst ha;rw[An]at h;rw[g];exact h
  .rw[Ae ha]at h;exact e _ _ (r.ins _ _ h)
 .obtain⟨v,M,I⟩:=r.dat i x h;exact⟨v,M,I.same l⟩
 .obtain⟨a,ys,M,I,U,T,R⟩:=r.own i xs h;have ha:a≠p:=fun z=>by subst z;rw[e _ _ T]at g;cases g;exact R.P4
  exact⟨a,ys,M,by rw[Ae ha];exact I,U,e _ _ T,R.same l⟩
def Rw.lift{g H':Hp}(r:Gf)(l:AY G g)(Z:Nw G H g)(Y:AY g H')(T:AY H H'):Rw G0 H0 g H' σ δ ts:=by
 refine⟨r.ext.trans l,fun a o h=>?_,Y,r.keep.trans T,r.len,fun i x h=>?_,fun i xs h=>?_,r.apart,fun q hq=>(r.Aw q hq).same l⟩
 .rcases Z a o h with k|k|k
  .exact r.new a o k
  .right;left
   cases q:H0 a with
   |none=>rfl
   |some u=>rw[r.keep _ _ q]at k;cases k
  .exact .inr (.inr k)
 .obtain⟨v,R,M⟩:=r.dat i x h;exact⟨v,R,M.same l⟩
 .obtain⟨a,ys,R,M,k3,I,U⟩:=r.own i xs h;refine⟨a,ys,R,?_,k3,T _ _ I,U.same l⟩;cases q:g a with
  |none=>rfl
  |some u=>
   rcases Z a u q with z|z|⟨xs',z⟩
   .rw[M]at z;cases z
   .rw[I]at z;cases z
   .have:=Y _ _ q;rw[T _ _ I,z]at this;cases this;exact U.P4.elim
end
section
variable{X:Cx}{a b e:Expr}{f g h:va}{pos:Pos}
def AJ{i j pos}:DE X (.Constant wN j pos) (fun _=>some wN):=⟨_,B9,fun δ x h G0 H0 G H σ ts Q r k=>by cases h;exact k _ _ _ (r.put GM)⟩
def Ox{i j pos}:DE X (.Constant (.bool i) j pos) (fun _=>some (.bool i)):=⟨_,GO,fun δ x h G0 H0 G H σ ts Q r k=>by cases h;exact k _ _ _ (r.put GM)⟩
def Cd{j pos}:DE X (.Constant .none j pos) (fun _=>some .none):=⟨_,nS,fun δ x h G0 H0 G H σ ts Q r k=>by cases h;exact k _ _ _ (r.put GM)⟩
def Ad{i j pos}:DE X (.Constant (.str i) j pos) (fun _=>some (.str i)):=⟨_,qd,fun δ x h G0 H0 G H σ ts Q r k=>by cases h;exact k _ _ _ (r.put GM)⟩
def nm(i:Nat)(δ:Dv):vg:=match δ[i]? with|some (.d x)=>some x|_=>none
def UP{i:Nat}{δ:Dv}{x:PD}(h:nm i δ=some x):δ[i]? = some (.d x):=by
 unfold nm at h;split at h
 .rename_i y e;cases h;exact e
 .cases h
def AA{i:Nat}{x:Str}(h:PE X wX (DV i)):DE X wX (nm i):=⟨_,h,fun δ y l G0 H0 G H σ ts Q r k=>by
 obtain⟨v,M,I⟩:=r.dat _ _ (UP l);exact⟨v,M,k _ _ _ (r.put I)⟩⟩
def AF(o:ms)(f g:va)(δ:Dv):vg:=(f δ).bind fun x=>(g δ).bind fun y=>o x y
def Dw(X:Cx)(m:wG)(o:ms):Prop:=∃r:R2,DC X m r/\∀x y z,o x y=some z->∀G0 H0 G H σ δ ts u v (Q:VK),Rw G0 H0 G H σ δ ts->Du G x u->Du G y v->(∀w l H',Rw G0 H0 l H' σ δ ((z,w)::ts)->Q w H')->r u v H Q
def two{x y:PD}{f g:va}{δ:Dv}{o:ms}{z:PD}(h:AF o f g δ=some z):∃x y,f δ=some x/\g δ=some y/\o x y=some z:=by
 unfold AF at h;obtain⟨x,R,M⟩:=aA.mp h;obtain⟨y,I,l⟩:=aA.mp M;exact⟨x,y,R,I,l⟩
def AV{op:Operator}{o:ms}(Z:Dw X (binaryOp op) o)(ha:re)(hb:DE X b g):DE X (.BinOp a op b pos) (AF o f g):=by
 obtain⟨r,Y,M⟩:=Z;obtain⟨ta,I,T⟩:=ha;obtain⟨tb,l,R⟩:=hb;refine⟨_,K1 Y I l,fun δ z U G0 H0 G H σ ts Q R0 k=>?_⟩;obtain⟨x,y,h1,h2,h3⟩:=two (x:=.none) (y:=.none) U;refine T δ x h1 G0 H0 G H σ ts _ R0 fun u G1 H1 R1=>?_;refine R δ y h2 G0 H0 G1 H1 σ _ _ R1 fun v G2 H2 R2=>?_;exact M x y z h3 G0 H0 G2 H2 σ δ ts u v Q (R2.drop.drop) (R2.Aw (x,u) zBA) (R2.Aw (y,v) EQ) k
def Qj{op:CmpOp}{o:ms}(Z:Dw X (compareOp op) o)(ha:re)(hb:DE X b g)(hm:behindInMarks op b=false):DE X zAT (AF o f g):=by
 obtain⟨r,Y,M⟩:=Z;obtain⟨ta,I,T⟩:=ha;obtain⟨tb,l,R⟩:=hb;refine⟨_,PH Y I l hm,fun δ z U G0 H0 G H σ ts Q R0 k=>?_⟩;obtain⟨x,y,h1,h2,h3⟩:=two (x:=.none) (y:=.none) U;refine T δ x h1 G0 H0 G H σ ts _ R0 fun u G1 H1 R1=>?_;refine R δ y h2 G0 H0 G1 H1 σ _ _ R1 fun v G2 H2 R2=>?_;exact M x y z h3 G0 H0 G2 H2 σ δ ts u v Q (R2.drop.drop) (R2.Aw (x,u) zBA) (R2.Aw (y,v) EQ) k
end
section
variable{X:Cx}
def HX(o o':ms)(x y:PD):vg:=match o x y with|some z=>some z|none=>o' x y
def Dw.or{m:wG}{o o':ms}(h:Dw X m o)(h':Dw X m o'):Dw X m (HX o o'):=by
 obtain⟨r,Y,U⟩:=h;obtain⟨r',I,l⟩:=h';refine⟨_,DC.or Y I,fun x y z g G0 H0 G H σ δ ts u v Q T R M k=>?_⟩;unfold HX at g;split at g
 .rename_i Z e;cases g;exact .inl (U x y z e G0 H0 G H σ δ ts u v Q T R M k)
 .exact .inr (l x y z g G0 H0 G H σ δ ts u v Q T R M k)
def Oz{m:wG}{C:Int->Int->Prop}{l:Int->Int->V}{o:Int->Int->Option PD}(R:DC X m (rI C l))(T:∀i j z,o i j=some z->C i j/\∀H,Du H z (l i j)) :
  Dw X m (fun x y=>match x,y with|.int i,.int j=>o i j|_,_=>none):=by
 refine⟨_,R,fun x y z g G0 H0 G H σ δ ts u v Q Z M I k=>?_⟩;dsimp only at g;split at g
 .rename_i i j;rw[Du]at M I;obtain⟨Y,U⟩:=T i j z g;exact⟨i,j,M,I,Y,k _ _ _ (Z.put (U _))⟩
 .cases g
def Kp{m:wG}{l:Int->Int->V}{o:Int->Int->PD}(R:DC X m (Sy l))(T:∀i j H,Du H (o i j) (l i j)) :
  Dw X m (fun x y=>match x,y with|.int i,.int j=>some (o i j)|_,_=>none):=by
 refine⟨_,R,fun x y z g G0 H0 G H σ δ ts u v Q U M I k=>?_⟩;dsimp only at g;split at g
 .rename_i i j;cases g;rw[Du]at M I;exact⟨i,j,M,I,k _ _ _ (U.put (T _ _ _))⟩
 .cases g
def CQ:Nat:=1000
def ML{n:Nat}(h:n<=CQ):n<sizeLine:=TY h
def DR{n:Nat}(h:n<=CQ):n<=sizeLine:=Nat.le_of_lt (TY h)
def WE:PD->PD->Option PD:=fun x y=>match x,y with|.int i,.int j=>some (.int (i+j))|_,_=>none
def MZ:PD->PD->Option PD:=fun x y=>match x,y with|.int i,.int j=>some (.int (i-j))|_,_=>none
def Ij(n:Nat)(i:Int):Bool:=decide (i.natAbs<2^n)
def Qw(i j:Int):Bool:=Ij 64 i||Ij 64 j||(Ij 9000 i&&Ij 9000 j)
def ZJ:PD->PD->Option PD:=fun x y=>match x,y with|.int i,.int j=>(if Qw i j=true then some (.int (i*j)) else none)|_,_=>none
def CO:PD->PD->Option PD:=fun x y=>match x,y with|.int i,.int j=>(if j≠0/\Ij 9000 j=true then some (.int (i.fdiv j)) else none)|_,_=>none
def A7:PD->PD->Option PD:=fun x y=>match x,y with|.int i,.int j=>(if j≠0 then some (.int (i.fmod j)) else none)|_,_=>none
def VY:PD->PD->Option PD:=fun x y=>match x,y with|.int i,.int j=>(if 0<=j/\j<=1000/\Ij 64 i=true then some (.int (i^j.toNat)) else none)|_,_=>none
def lj:Dw X xY WE:=Kp nH fun _ _ _=>by rw[Du]
def Ss:Dw X (binaryOp .Sub) MZ:=Kp VI fun _ _ _=>by rw[Du]
def jy{i:Int}(h:Ij 64 i=true):-(2^64)<i/\i<2^64:=by
 have:=aU h
 lia
def j5:Dw X xw ZJ:=Oz (o:=fun i j=>if Qw i j=true then some (.int (i*j)) else none) lX fun i j z h=>by
 split at h
 .rename_i q;cases h;refine⟨?_,fun _=>by rw[Du]⟩;unfold Qw at q;rw[Bool.or_eq_true,Bool.or_eq_true,(Ft)]at q;rcases q with (q|q)|q
  .exact .inl (.inl (jy q))
  .exact .inl (.inr (jy q))
  .exact .inr ⟨9000,by decide,of_decide_eq_true q.1,of_decide_eq_true q.2⟩
 .cases h
def Dx:Dw X (binaryOp .FloorDiv) CO:=Oz (o:=fun i j=>if j≠0/\Ij 9000 j=true then some (.int (i.fdiv j)) else none) QI fun i j z h=>by
 split at h
 .rename_i q;cases h;exact⟨⟨q.1,9000,Nat.le_refl _,of_decide_eq_true q.2⟩,fun _=>by rw[Du]⟩
 .cases h
def BD:Dw X (binaryOp .Mod) A7:=Oz (o:=fun i j=>if j≠0 then some (.int (i.fmod j)) else none) SK fun i j z h=>by
 split at h
 .rename_i q;cases h;exact⟨q,fun _=>by rw[Du]⟩
 .cases h
def lS:Dw X (binaryOp .Pow) VY:=Oz (o:=fun i j=>if 0<=j/\j<=1000/\Ij 64 i=true then some (.int (i^j.toNat)) else none) pA fun i j z h=>by
 split at h
 .rename_i q;cases h;exact⟨⟨q.1,by lia,of_decide_eq_true q.2.2⟩,fun _=>by rw[Du]⟩
 .cases h
def B3(p:Int->Int->Bool):PD->PD->Option PD:=fun x y=>match x,y with|.int i,.int j=>some (.bool (p i j))|_,_=>none
def MX:Dw X (compareOp .Lt) LE:=Kp (o:=fun i j=>.bool (decide (i<j))) Zc fun _ _ _=>by rw[Du]
def Jw:Dw X (compareOp .Gt) IO:=Kp (o:=fun i j=>.bool (decide (j<i))) Yy fun _ _ _=>by rw[Du]
def jD:Dw X (compareOp .GtE) xl:=Kp (o:=fun i j=>.bool (decide (j<=i))) jb fun _ _ _=>by rw[Du]
def ZM:PD->PD->Option PD:=fun x y=>match x,y with|.list a,.list b=>(if a.length+b.length<=CQ then some (.list (a++b)) else none)|_,_=>none
def kQ:Dw X xY ZM:=by
 refine⟨_,qg,fun x y z g G0 H0 G H σ δ ts u v Q M Y U k=>?_⟩;unfold ZM at g;split at g
 .rename_i a b;split at g
  .rename_i Z;cases g;rw[Du]at Y U;obtain⟨p,xs,rfl,h1,T⟩:=Y;obtain⟨q,ys,rfl,h3,R⟩:=U;refine⟨p,q,xs,ys,rfl,rfl,M.ins _ _ h1,M.ins _ _ h3,DR (by rw[T.len,R.len];exact Z),fun l I=>?_⟩;have R1:=M.newObj (o:=.lst (xs++ys)) I;refine k _ _ _ (R1.put ?_);rw[Du];have e:AY G (upd G l (.lst (xs++ys))):=fun a o h=>by
    have:=M.ins _ _ h;rw[Ae (Bm this I)];exact h
   exact⟨l,xs++ys,rfl,An,(T.same e).app (R.same e)⟩
  .cases g
 .cases g
def Oi:PD->PD->Option PD:=fun x y=>match x,y with|.tuple a,.tuple b=>(if a.length+b.length<=CQ then some (.tuple (a++b)) else none)|_,_=>none
def mK:Dw X xY Oi:=by
 refine⟨_,mm,fun x y z g G0 H0 G H σ δ ts u v Q I Z Y k=>?_⟩;unfold Oi at g;split at g
 .rename_i a b;split at g
  .rename_i hl;cases g;rw[Du]at Z Y;obtain⟨p,xs,rfl,h1,T⟩:=Z;obtain⟨q,ys,rfl,h3,R⟩:=Y;refine⟨p,q,xs,ys,rfl,rfl,I.ins _ _ h1,I.ins _ _ h3,DR (by rw[T.len,R.len];exact hl),fun l H' e M=>?_⟩;have R1:=I.p9 e M;refine k _ _ _ (R1.put ?_);rw[Du];have U:AY G (upd G l (.tup (xs++ys))):=fun a o h=>by
    by_cases ha:a=l
    .subst ha;have:=e _ _ (I.ins _ _ h);rw[M]at this;rw[An];exact this
    .rw[Ae ha];exact h
   exact⟨l,xs++ys,rfl,An,(T.same U).app (R.same U)⟩
  .cases g
 .cases g
def Nh:PD->PD->Option PD:=fun x y=>match x,y with|.str a,.str b=>(if a.length+b.length<=CQ then some (.str (a++b)) else none)|_,_=>none
def lh:Dw X xY Nh:=by
 refine⟨_,Yv,fun x y z g G0 H0 G H σ δ ts u v Q R I l k=>?_⟩;unfold Nh at g;split at g
 .rename_i a b;split at g
  .rename_i M;cases g;rw[Du]at I l;exact⟨a,b,I,l,DR M,k _ _ _ (R.put GM)⟩
  .cases g
 .cases g
def Av:PD->PD->Option PD:=HX WE (HX ZM (HX Oi Nh))
def BB:Dw X xY Av:=lj.or (kQ.or (mK.or lh))
def Lc:PD->PD->Option PD:=fun x y=>match x,y with|.list a,.int k=>(if a.length*k.toNat<=CQ/\-1000000<=k/\k<=1000000 then some (.list (List.replicate k.toNat a).flatten) else none)|_,_=>none
def Aq.rep{H:Hp}{ds:wV}{xs:UF}(h:Aq H ds xs):∀n,Aq H (List.replicate n ds).flatten (List.replicate n xs).flatten
 |0=>.nil
 |n+1=>by rw[(HP),(HP),(Hm),(Hm)];exact h.app (h.rep n)
def kU:Dw X xw Lc:=by
 refine⟨_,Z8,fun x y z g G0 H0 G H σ δ ts u v Q M U T k=>?_⟩;unfold Lc at g;split at g
 .rename_i a n;split at g
  .rename_i Y;cases g;rw[Du]at U;rw[Du]at T;obtain⟨p,xs,rfl,Z,R⟩:=U;subst T;refine⟨p,n,xs,rfl,rfl,M.ins _ _ Z,by lia,by lia,DR (by rw[R.len];exact Y.1),fun l I=>?_⟩;have R1:=M.newObj (o:=.lst (List.replicate n.toNat xs).flatten) I;refine k _ _ _ (R1.put ?_);rw[Du];have e:AY G (upd G l (.lst (List.replicate n.toNat xs).flatten)):=fun a o h=>by
    have:=M.ins _ _ h;rw[Ae (Bm this I)];exact h
   exact⟨l,_,rfl,An,(R.same e).rep _⟩
  .cases g
 .cases g
def FG:PD->PD->Option PD:=HX ZJ Lc
def GH:Dw X xw FG:=j5.or kU
def Ky{d:PD}(h:SeqAt.shaped d=true):d.canLay0=true:=by unfold SeqAt.shaped at h;rw[(Ft)]at h;exact h.1
def Ax(neg:Bool):PD->PD->Option PD:=fun x y=>if SeqAt.shaped x=true/\SeqAt.shaped y=true then some (.bool (if neg then !PyData.eqv x y else PyData.eqv x y)) else none
def dS{m:wG}{neg:Bool}(M:DC X m (iT X.K neg)):Dw X m (Ax neg):=by
 refine⟨_,M,fun x y z g G0 H0 G H σ δ ts u v Q I T R k=>?_⟩;unfold Ax at g;split at g
 .rename_i l;cases g;exact⟨x,y,(T.same I.ins).br (Ky l.1),(R.same I.ins).br (Ky l.2),l.1,l.2,k _ _ _ (I.put GM)⟩
 .cases g
def Cz(g:ZB):Dw X (compareOp .Eq) J9:=dS (pf g)
def EK(g:ZB):Dw X (compareOp .NotEq) Nb:=dS (nr g)
def PyData.fY:PD->Bool
 |.none=>true
 |_=>false
def cE{H:Hp}:∀ {x:PD} {u:V},Du H x u->decide (u=.BS)=PyData.fY x
 |.none,u,h=>by rw[Du]at h;subst h;rfl
 |.bool _,u,h=>by rw[Du]at h;subst h;rfl
 |.int _,u,h=>by rw[Du]at h;subst h;rfl
 |.str _,u,h=>by rw[Du]at h;subst h;rfl
 |.tuple _,u,h=>by rw[Du]at h;obtain⟨a,xs,rfl,_⟩:=h;rfl
 |.list _,u,h=>by rw[Du]at h;obtain⟨a,xs,rfl,_⟩:=h;rfl
 |.dict [],u,h=>by rw[Du,LC]at h;rcases h with ⟨ea,C,_,rfl,_⟩|⟨a,ns,_,rfl,_⟩|h;rfl;rfl;exact h.elim
 |.dict ((_,_)::_),u,h=>by rw[Du,LC]at h;rcases h with ⟨ea,C,_,rfl,_⟩|⟨a,ns,_,rfl,_⟩|⟨_,_,a,r,rfl,_⟩<;>rfl
def N5(neg:Bool):PD->PD->Option PD:=fun x y=>match y with
 |.none=>some (.bool (if neg then !PyData.fY x else PyData.fY x))
 |_=>none
def Ua:Dw X (compareOp .Is) (N5 false):=by
 refine⟨_,nh,fun x y z g G0 H0 G H σ δ ts u v Q M I l k=>?_⟩;unfold N5 at g;split at g
 .cases g;rw[Du]at l;refine⟨l,?_⟩;rw[cE I];exact k _ _ _ (M.put (by rw[Du];rfl))
 .cases g
def iB:Dw X (compareOp .IsNot) (N5 true):=by
 refine⟨_,lq,fun x y z g G0 H0 G H σ δ ts u v Q M I l k=>?_⟩;unfold N5 at g;split at g
 .cases g;rw[Du]at l;refine⟨l,?_⟩;rw[cE I];exact k _ _ _ (M.put (by rw[Du];rfl))
 .cases g
end
section
variable{X:Cx}{a b c e:Expr}{es:vp}{f g h:va}{pos p:Pos}
def Nf:PD->Option Bool
 |.bool b=>some b
 |_=>none
def MH:PD->Option Int
 |.int b=>some b
 |_=>none
def VQ{x:PD}{b:Bool}(h:Nf x=some b):x=.bool b:=by
 unfold Nf at h;split at h
 .cases h;rfl
 .cases h
def Ke{x:PD}{b:Int}(h:MH x=some b):x=.int b:=by
 unfold MH at h;split at h
 .cases h;rfl
 .cases h
def dC(ha:re):DE X (.UnaryOp .USub a pos) (fun δ=>(f δ).bind fun x=>(MH x).map fun i=>.int (-i)):=by
 obtain⟨ta,I,M⟩:=ha;refine⟨_,sF pW I,fun δ z R G0 H0 G H σ ts Q Z k=>?_⟩;obtain⟨x,Y,U⟩:=aA.mp R;obtain⟨i,T,rfl⟩:=aC.mp U;have:=Ke T;subst this;refine M δ _ Y G0 H0 G H σ ts _ Z fun u G1 H1 l=>?_;have:=l.Aw _ EQ;rw[Du]at this;exact⟨i,this,k _ _ _ (l.drop.put GM)⟩
variable{fa fb:vb}
def DW(X:Cx)(e:Expr)(f:vb):Prop:=∃t,PW X e t/\∀δ b,f δ=some b->∀G0 H0 G H σ ts (Q:xO),Rw G0 H0 G H σ δ ts->(∀l H',Rw G0 H0 l H' σ δ ts->Q b H')->t σ H Q
def DW.dt(h:DW X e fa):DT X e fa:=let⟨t,p,k⟩:=h;⟨t,p.pt,k⟩
def Ai{op:CmpOp}{o:ms}(ho:Dw X (compareOp op) o)(ha:re)(hb:DE X b g)(hm:behindInMarks op b=false):DT X zAT (fun δ=>(AF o f g δ).bind Nf):=by
 obtain⟨r,hr,T⟩:=ho;obtain⟨ta,R,Y⟩:=ha;obtain⟨tb,M,U⟩:=hb;refine⟨_,E8 hr R M hm,fun δ z Z G0 H0 G H σ ts Q R0 k=>?_⟩;obtain⟨q,h0,h4⟩:=aA.mp Z;have:=VQ h4;subst this;obtain⟨x,y,h1,h2,h3⟩:=two (x:=.none) (y:=.none) h0;refine Y δ x h1 G0 H0 G H σ ts _ R0 fun u G1 H1 R1=>?_;refine U δ y h2 G0 H0 G1 H1 σ _ _ R1 fun v G2 H2 R2=>?_;refine T x y _ h3 G0 H0 G2 H2 σ δ ts u v _ (R2.drop.drop) (R2.Aw (x,u) zBA) (R2.Aw (y,v) EQ) fun w G3 H3 I=>?_;have l:=I.Aw _ EQ;rw[Du]at l;exact⟨z,l,k _ _ I.drop⟩
def FX(ha : xT)(he : ∀ whole,isTrue e X.env whole = ge:=by intro _; rfl):DT X e (fun δ => (f δ).bind Nf):=by
  obtain ⟨ta,pa,ka⟩:=ha
  refine ⟨_,Fl pa he,fun δ z hz G0 H0 G H σ ts Q R0 k => ?_⟩
  obtain ⟨q,h0,h4⟩:=aA.mp hz
  have:=VQ h4; subst this
  refine ka δ _ h0 G0 H0 G H σ ts _ R0 fun u G1 H1 R1 => ?_
  have hu:=R1.Aw _ EQ
  rw [Du] at hu
  exact ⟨z,hu,k _ _ R1.drop⟩
def Gi(ha:DT X a fa):DT X zk (fun δ=>(fa δ).map fun c=>!c):=by
 obtain⟨Y,l,I⟩:=ha;refine⟨_,Fc l,fun δ z M G0 H0 G H σ ts Q U k=>?_⟩;obtain⟨i,R,rfl⟩:=aC.mp M;exact I δ _ R G0 H0 G H σ ts _ U fun G1 Z T=>k _ _ T
def DL{op:BoolOp}(ha:DT X a fa):DW X (.BoolOp op [a] pos) fa:=by
 obtain⟨M,l,I⟩:=ha;cases op
 .exact⟨_,XU l,I⟩
 .exact⟨_,JJ l,I⟩
def V0{rest:vp}(ha:DT X a fa)(hb:DW X (.BoolOp .And (b::rest) pos) fb):DW X (.BoolOp .And (a::b::rest) pos) (fun δ=>(fa δ).bind fun c=>if c=true then fb δ else some false):=by
 obtain⟨ta,T,Y⟩:=ha;obtain⟨tb,R,U⟩:=hb;refine⟨_,bx T R,fun δ z Z G0 H0 G H σ ts Q R0 k=>?_⟩;obtain⟨i,h3,l⟩:=aA.mp Z;refine Y δ _ h3 G0 H0 G H σ ts _ R0 fun G1 H1 M=>?_;split
 .rename_i I;rw[if_pos I]at l;exact U δ z l G0 H0 G1 H1 σ ts Q M k
 .rename_i I;rw[if_neg I]at l;cases l;exact k _ _ M
def DH{rest:vp}(ha:DT X a fa)(hb:DW X (.BoolOp .Or (b::rest) pos) fb):DW X (.BoolOp .Or (a::b::rest) pos) (fun δ=>(fa δ).bind fun c=>if c=true then some true else fb δ):=by
 obtain⟨ta,T,Y⟩:=ha;obtain⟨tb,R,U⟩:=hb;refine⟨_,Jt T R,fun δ z Z G0 H0 G H σ ts Q R0 k=>?_⟩;obtain⟨i,h3,l⟩:=aA.mp Z;refine Y δ _ h3 G0 H0 G H σ ts _ R0 fun G1 H1 M=>?_;split
 .rename_i I;rw[if_pos I]at l;cases l;exact k _ _ M
 .rename_i I;rw[if_neg I]at l;exact U δ z l G0 H0 G1 H1 σ ts Q M k
def se(l:DT X c fa)(ha:re)(hb:DE X b g):DE X (.IfExp c a b pos) (fun δ=>(fa δ).bind fun c=>if c=true then f δ else g δ):=by
 obtain⟨tc,pc,Z⟩:=l;obtain⟨ta,Y,ka⟩:=ha;obtain⟨tb,U,kb⟩:=hb;refine⟨_,i5 pc Y U,fun δ z hz G0 H0 G H σ ts Q R0 k=>?_⟩;obtain⟨i,h3,I⟩:=aA.mp hz;refine Z δ _ h3 G0 H0 G H σ ts _ R0 fun T R M=>?_;split
 .rename_i l;rw[if_pos l]at I;exact ka δ z I G0 H0 T R σ ts Q M k
 .rename_i l;rw[if_neg l]at I;exact kb δ z I G0 H0 T R σ ts Q M k
variable{fs:vZ}
def AL:DA X [] (fun _=>some []):=⟨_,A3,fun δ xs h G0 H0 G H σ ts Q l k=>by cases h;exact k [] G H oF rfl⟩
def AE(ha:xT)(U:DA X es fs)(hs:starEach zAq X.env=Ev::starEach es X.env:=by rfl):DA X zAq (fun δ=>(f δ).bind fun x=>(fs δ).map fun xs=>x::xs):=by
 obtain⟨ta,I,R⟩:=ha;obtain⟨tr,pr,M⟩:=U;refine⟨_,Ac I pr hs,fun δ z T G0 H0 G H σ ts Q R0 k=>?_⟩;obtain⟨x,h1,h2⟩:=aA.mp T;obtain⟨xs,Z,rfl⟩:=aC.mp h2;refine R δ x h1 G0 H0 G H σ ts _ R0 fun u G1 H1 R1=>?_;refine M δ xs Z G0 H0 G1 H1 σ _ _ R1 fun vs G2 H2 R2 Y=>?_;refine k (u::vs) G2 H2 (R2.less fun q l=>?_) (by simp[Y]);simp only[List.zip_cons_cons,List.cons_append,List.mem_cons,List.mem_append]at l ⊢;rcases l with h|h|h
 .exact .inr (.inl h)
 .exact .inl h
 .exact .inr (.inr h)
theorem Zv{G:Hp}:∀ {xs:wV} {vs:UF},vs.length=xs.length->(∀q∈xs.zip vs,Du G q.1 q.2)->Aq G xs vs
 |[],vs,l,_=>by rw[List.eq_nil_of_length_eq_zero l];exact .nil
 |x::xs,[],l,_=>by simp at l
 |x::xs,v::vs,l,h=>.cons (h (x,v) A1) (Zv oF fun q I=>h q (by simp[I]))
def Rw.args{G0 H0 G H:Hp}{σ:St}{δ:Dv}{ts:Of}{xs:vc}{vs:vx}(r:Rw G0 H0 G H σ δ (xs.zip vs++ts))(I:vs.length=xs.length):Aq G xs vs/\Rw G0 H0 G H σ δ ts :=
 ⟨Zv I fun q l=>r.Aw q (List.mem_append_left _ l),r.less fun q l=>aR _ l⟩
def Rw.JW{G0 H0 G H:Hp}{σ:St}{δ:Dv}{ts:Of}{xs:vc}{vs:vx}{p:AD}(r:Gf)(d:Aq G xs vs)(l:H p=none):Rw G0 H0 (upd G p (.lst vs)) (upd H p (.lst vs)) σ δ ((.list xs,.ref p)::ts):=by
 refine(r.newObj l).put ?_;have e:AY G (upd G p (.lst vs)):=fun a o h=>by rw[Ae (Bm (r.ins _ _ h) l)];exact h
 rw[Du];exact⟨p,vs,rfl,An,d.same e⟩
def Rw.SY{G0 H0 G H:Hp}{σ:St}{δ:Dv}{ts:Of}{xs:vc}{vs:vx}{p:AD}(r:Gf)(d:Aq G xs vs)(l:H p=none):Rw G0 H0 (upd G p (.tup vs)) (upd H p (.tup vs)) σ δ ((.tuple xs,.ref p)::ts):=by
 refine(r.newObj l).put ?_;have e:AY G (upd G p (.tup vs)):=fun a o h=>by rw[Ae (Bm (r.ins _ _ h) l)];exact h
 rw[Du];exact⟨p,vs,rfl,An,d.same e⟩
def CH(xs:vc):Option vc:=if xs.length<=CQ then some xs else none
def KI{xs ys:vc}(h:CH xs=some ys):xs=ys/\xs.length<=CQ:=by
 unfold CH at h;split at h
 .rename_i q;cases h;exact⟨rfl,q⟩
 .cases h
def Ng{I}(ha:DA X es fs):DE X (.Tuple es I pos) (fun δ=>((fs δ).bind CH).map .tuple):=by
 obtain⟨ta,M,R⟩:=ha;refine⟨_,VH M,fun δ z T G0 H0 G H σ ts Q R0 k=>?_⟩;obtain⟨ys,h1,rfl⟩:=aC.mp T;obtain⟨xs,h2,Z⟩:=aA.mp h1;obtain⟨rfl,Y⟩:=KI Z;refine R δ _ h2 G0 H0 G H σ ts _ R0 fun vs G1 H1 R1 l=>?_;obtain⟨d,R2⟩:=R1.args l;exact⟨DR (by rw[l];exact Y),fun q U=>k _ _ _ (R2.SY d U)⟩
def C9(ha:DA X es fs):DE X (.List es pos) (fun δ=>((fs δ).bind CH).map .list):=by
 obtain⟨ta,I,M⟩:=ha;refine⟨_,eF I,fun δ z R G0 H0 G H σ ts Q R0 k=>?_⟩;obtain⟨ys,h1,rfl⟩:=aC.mp R;obtain⟨xs,Z,Y⟩:=aA.mp h1;obtain⟨rfl,U⟩:=KI Y;refine M δ _ Z G0 H0 G H σ ts _ R0 fun vs G1 H1 R1 l=>?_;obtain⟨d,R2⟩:=R1.args l;exact⟨DR (by rw[l];exact U),fun q T=>k _ _ _ (R2.JW d T)⟩
theorem Aq.D8{H:Hp}{ds:vc}{xs:vx}{i:Int}{d:PD}(h:Aq H ds xs)(e:D8 ds i=some d):∃v,D8 xs i=some v/\Du H d v:=by
 unfold L2.D8 at e ⊢;rw[h.len];obtain⟨j,R,M⟩:=aA.mp e;obtain⟨v,I,l⟩:=h.get M;exact⟨v,by rw[R];exact I,l⟩
theorem Od{G:Hp}:∀ns:List Int,Aq G (ns.map .int) wC
 |[]=>.nil
 |n::ns=>.cons GM (Od ns)
def A8:PD->PD->Option PD:=fun x y=>match x,y with
 |.list xs,.int i=>D8 xs i
 |.tuple xs,.int i=>D8 xs i
 |.dict [(.none,.list xs)],.int i=>D8 xs i
 |.str z,.int i=>if z.length<=CQ then(D8 z.cps.toList i).map fun c=>.str ⟨#[c]⟩ else none
 |_,_=>none
def Bn(ha:re)(hb:DE X b g)(hs:SI b):DE X (.Subscript a b pos) (AF A8 f g):=by
 obtain⟨ta,pa,ka⟩:=ha;obtain⟨tb,pb,kb⟩:=hb;refine⟨_,E1 qz pa pb hs,fun δ z hz G0 H0 G H σ ts Q R0 k=>?_⟩;obtain⟨x,y,h1,h2,l⟩:=two (x:=.none) (y:=.none) hz;refine ka δ x h1 G0 H0 G H σ ts _ R0 fun u G1 H1 R1=>?_;refine kb δ y h2 G0 H0 G1 H1 σ _ _ R1 fun v G2 H2 R2=>?_;have M:=R2.Aw (x,u) zBA;have I:=R2.Aw (y,v) EQ;unfold A8 at l;split at l
 .rw[Du]at M;rw[Du]at I;obtain⟨p,xs,rfl,U,Y⟩:=M;obtain⟨w,R,T⟩:=Y.D8 l;exact .inl ⟨p,xs,_,w,rfl,I,BR.of (R2.ins _ _ U),R,k _ _ _ (R2.drop.drop.put T)⟩
 .rw[Du]at M;rw[Du]at I;obtain⟨p,xs,rfl,U,Y⟩:=M;obtain⟨w,R,T⟩:=Y.D8 l;exact .inr (.inl ⟨p,xs,_,w,rfl,I,B2.of (R2.ins _ _ U),R,k _ _ _ (R2.drop.drop.put T)⟩)
 .rw[Du]at M;rw[Du]at I;rcases M with ⟨ea,C,Z,_⟩|⟨p,ns,Z,rfl,U⟩|z
  rotate_left 2
  .rw[LC]at z;cases z.1
  .simp at Z
  .obtain rfl:_=ns.map PyData.int:=by simpa using Z
   obtain⟨w,R,T⟩:=(Od (G:=_) ns).D8 l;exact .inl ⟨p,_,_,w,rfl,I,.inl (U.same R2.ins),R,k _ _ _ (R2.drop.drop.put T)⟩
 .rw[Du]at M;rw[Du]at I;split at l
  .rename_i hl;obtain⟨ch,R,rfl⟩:=aC.mp l;exact .inr (.inr ⟨_,_,ch,M,I,DR hl,R,k _ _ _ zAu⟩)
  .cases l
 .cases l
end
def BV(g:MD):Sp:=fun vs H Q _=>∃ds x G,g ds=some x/\Aq G ds vs/\AY G H/\∀v l H',AY G l->Nw G H l->AY l H'->AY H H'->Du l x v->Q v H'
section
variable{X:Cx}{a e:Expr}{es:vp}{f h:va}{fs:vZ}{pos p:Pos}
def BE{k:Nat}{l:AD}{fd:F0a}{ps:vo}{m:MD}{x:Str}{st:Stmt}(T:Fn X.K X.mg x st ps l fd)(F:Ah X.prog X.w X.K X.mg X.base A4 k l fd ps (BV m))(Y:CM k X.A)(Z:y6)(ha:DA X zAq fs) (g:GE=false:=by decide)(he:starEach zAq X.env=Ev::starEach es X.env:=by rfl)(hpl:(backTo pos Lx).any OR=false:=by rfl):DE X Fk (fun δ=>(fs δ).bind m):=by
 obtain⟨ta,I,M⟩:=ha;refine⟨_,JC T F Y Z I g he hpl,fun δ z R G0 H0 G H σ ts Q R0 k=>?_⟩;obtain⟨xs,h1,h2⟩:=aA.mp R;refine M δ _ h1 G0 H0 G H σ ts _ R0 fun vs G1 H1 R1 U=>?_;obtain⟨d,R2⟩:=R1.args U;refine⟨xs,z,G1,h2,by rw[(GZ)];exact d,R2.ins,fun v G' H' h3 h4 h5 h6 h7=>?_⟩;exact k _ _ _ ((R2.lift h3 h4 h5 h6).put h7)
def Hk(X:Cx)(v:VL)(o:MD):Prop:=∃r,FO X v r/\∀xs z,o xs=some z->∀G0 H0 G H σ δ ts us (Q:VK),Rw G0 H0 G H σ δ ts->Aq G xs us->(∀w g H',Rw G0 H0 g H' σ δ ((z,w)::ts)->Q w H')->r us H Q
def BJ{x:Str}{id:xC}{o:MD}(Z:Hk X xp o)(Y:y6)(hm:X.mg x=none)(g:bootBuiltins x=some xp)(ha:DA X zAq fs)(hn:x ≠ "__name__":=by decide)(l:GE=false:=by decide) (he:starEach zAq X.env=Ev::starEach es X.env:=by rfl)(hpl:(backTo pos Lx).any OR=false:=by rfl):DE X Fk (fun δ=>(fs δ).bind o):=by
 obtain⟨r,U,M⟩:=Z;obtain⟨ta,I,R⟩:=ha;refine⟨_,Bv U Y hm g I hn l he hpl,fun δ z T G0 H0 G H σ ts Q R0 k=>?_⟩;obtain⟨xs,h1,h2⟩:=aA.mp T;refine R δ _ h1 G0 H0 G H σ ts _ R0 fun vs G1 H1 R1 g=>?_;obtain⟨d,R2⟩:=R1.args g;exact M xs z h2 G0 H0 G1 H1 σ δ ts vs Q R2 d k
def EC{x:Str}{T:xC}{o:MD}(hc:Hk X (.type T) o)(Z:y6)(hm:X.mg x=none)(g:bootBuiltins x=some (.type T))(ha:DA X zAq fs)(hn:x ≠ "__name__":=by decide)(l:GE=false:=by decide) (he:starEach zAq X.env=Ev::starEach es X.env:=by rfl)(hpl:(backTo pos Lx).any OR=false:=by rfl):DE X Fk (fun δ=>(fs δ).bind o):=by
 obtain⟨r,Y,M⟩:=hc;obtain⟨ta,I,R⟩:=ha;refine⟨_,Tf Y Z hm g I hn l he hpl,fun δ z U G0 H0 G H σ ts Q R0 k=>?_⟩;obtain⟨xs,h1,h2⟩:=aA.mp U;refine R δ _ h1 G0 H0 G H σ ts _ R0 fun vs G1 H1 R1 g=>?_;obtain⟨d,R2⟩:=R1.args g;exact M xs z h2 G0 H0 G1 H1 σ δ ts vs Q R2 d k
def Aq.JM{H:Hp}{d:PD}{xs:vx}(h:Aq H [d] xs):∃x,xs=[x]/\Du H d x:=by
 obtain⟨x,r,rfl,l,g⟩:=h.un;rw[g.nil_eq];exact⟨x,rfl,l⟩
def Aq.YF{H:Hp}{d e:PD}{xs:vx}(h:Aq H [d,e] xs):∃x y,xs=[x,y]/\Du H d x/\Du H e y:=by
 obtain⟨x,r,rfl,I,l⟩:=h.un;obtain⟨y,rfl,g⟩:=l.JM;exact⟨x,y,rfl,I,g⟩
def Be:MD
 |[.list xs]=>some (.int xs.length)
 |[.tuple xs]=>some (.int xs.length)
 |[.dict [(.none,.list xs)]]=>some (.int xs.length)
 |_=>none
def C6:Hk X (.builtin "len") Be:=by
 refine⟨_,EG,fun xs z l G0 H0 G H σ δ ts us Q I d k=>?_⟩;unfold Be at l;split at l
 .cases l;obtain⟨u,rfl,g⟩:=d.JM;rw[Du]at g;obtain⟨p,ys,rfl,M,R⟩:=g;refine⟨p,ys,rfl,.inl (BR.of (I.ins _ _ M)),?_⟩;rw[R.len];exact k _ _ _ (I.put GM)
 .cases l;obtain⟨u,rfl,g⟩:=d.JM;rw[Du]at g;obtain⟨p,ys,rfl,M,R⟩:=g;refine⟨p,ys,rfl,.inr (B2.of (I.ins _ _ M)),?_⟩;rw[R.len];exact k _ _ _ (I.put GM)
 .cases l;obtain⟨u,rfl,g⟩:=d.JM;rw[Du]at g;rcases g with ⟨ea,C,T,_⟩|⟨p,ns,T,rfl,M⟩|z
  rotate_left 2
  .rw[LC]at z;cases z.1
  .simp at T
  .obtain rfl:_=ns.map PyData.int:=by simpa using T
   refine⟨p,_,rfl,.inl (.inl (M.same I.ins)),?_⟩;rw[wk]at k ⊢;exact k _ _ _ (I.put GM)
 .cases l
def Wc:MD
 |[.int i]=>some (.int (if i<0 then -i else i))
 |_=>none
def oJ:Hk X (.builtin "abs") Wc:=by
 refine⟨_,KD,fun xs z g G0 H0 G H σ δ ts us Q I d k=>?_⟩;unfold Wc at g;split at g
 .cases g;obtain⟨u,rfl,l⟩:=d.JM;rw[Du]at l;subst l;exact⟨_,rfl,k _ _ _ (I.put GM)⟩
 .cases g
def IK:MD
 |[.list xs]=>some (.tuple xs)
 |[.tuple xs]=>some (.tuple xs)
 |_=>none
def QB:Hk X OZ IK:=by
 refine⟨_,UD,fun xs z I G0 H0 G H σ δ ts us Q M d k=>?_⟩;unfold IK at I;split at I
 .cases I;obtain⟨u,rfl,g⟩:=d.JM;rw[Du]at g;obtain⟨p,ys,rfl,R,U⟩:=g;exact⟨p,ys,rfl,.inl ⟨BR.of (M.ins _ _ R),fun l Y=>k _ _ _ (M.SY U Y)⟩⟩
 .cases I;obtain⟨u,rfl,g⟩:=d.JM;have T:=g;rw[Du]at g;obtain⟨p,ys,rfl,R,U⟩:=g;exact⟨p,ys,rfl,.inr ⟨B2.of (M.ins _ _ R),k _ _ _ (M.put T)⟩⟩
 .cases I
def J3:MD
 |[.list xs]=>some zK
 |[.tuple xs]=>some zK
 |_=>none
def mY:Hk X gl J3:=by
 refine⟨_,Np,fun xs z g G0 H0 G H σ δ ts us Q M d k=>?_⟩;unfold J3 at g;split at g
 .cases g;obtain⟨u,rfl,I⟩:=d.JM;rw[Du]at I;obtain⟨p,ys,rfl,U,T⟩:=I;exact⟨p,ys,rfl,.inl (BR.of (M.ins _ _ U)),fun l R=>k _ _ _ (M.JW T R)⟩
 .cases g;obtain⟨u,rfl,I⟩:=d.JM;rw[Du]at I;obtain⟨p,ys,rfl,U,T⟩:=I;exact⟨p,ys,rfl,.inr (B2.of (M.ins _ _ U)),fun l R=>k _ _ _ (M.JW T R)⟩
 .cases g
def Du.ty{K:Fg}{H:Hp}:∀ {d:PD} {v:V},(∀g,d≠.dict g)->Du H d v->HE K H v yh/\∀g,d≠.dict g
 |.none,_,_,h=>by rw[Du]at h;subst h;exact⟨.BS,by simp⟩
 |.bool _,_,_,h=>by rw[Du]at h;subst h;exact⟨.bl _,by simp⟩
 |.int _,_,_,h=>by rw[Du]at h;subst h;exact⟨.int _,by simp⟩
 |.str _,_,_,h=>by rw[Du]at h;subst h;exact⟨.str _,by simp⟩
 |.tuple _,_,_,h=>by rw[Du]at h;obtain⟨a,xs,rfl,l,_⟩:=h;exact⟨.tup l,by simp⟩
 |.list _,_,_,h=>by rw[Du]at h;obtain⟨a,xs,rfl,l,_⟩:=h;exact⟨.lst l,by simp⟩
 |.dict _,_,n,h=>absurd rfl (n _)
def ZS(q:PD->Bool):PD->Option PD
 |.dict _=>none
 |x=>some (.bool (q x))
def lL{q:PD->Bool}{x z:PD}(h:ZS q x=some z):(∀g,x≠.dict g)/\z=.bool (q x):=by
 unfold ZS at h;split at h
 .cases h
 .rename_i n;cases h;exact⟨fun g e=>n g e,rfl⟩
def Rn{T:xC}{q:PD->Bool}{g:Str}{p1 l:Pos}(hk:∀d:PD,(∀kv,d≠.dict kv)->PySem.W.kitOne X.K yh (.type T)=some (q d))(hg:Gl X "isinstance")(hm:X.mg "isinstance" = none)(Y:Gl X g)(U:X.mg g=none)(M:bootBuiltins g=some (.type T))(ha:re) (R:g ≠ "__name__":=by decide)(Z:(g==("__debug__" : Str))=false:=by decide)(I:starEach [a,.Name g l] X.env=b6::starEach [.Name g l] X.env:=by rfl)(hpl:(backTo pos (starEach [.Name g l] X.env)).any OR=false:=by rfl):DE X (.Call (.Name "isinstance" p1) [a,.Name g l] [] pos) (fun δ=>(f δ).bind (ZS q)):=by
 obtain⟨ta,pa,ka⟩:=ha;have pT:PE X (.Name g l) (tC (.ty T)):=GK Y U M rfl R Z;refine⟨_,Bv GD hg hm aZ (Ac pa (Ac pT A3) I) AS AS I hpl,fun δ z hz G0 H0 G H σ ts Q R0 k=>?_⟩;obtain⟨x,h1,h2⟩:=aA.mp hz;obtain⟨n1,rfl⟩:=lL h2;refine ka δ _ h1 G0 H0 G H σ ts _ R0 fun u G1 H1 R1=>?_;have du:=R1.Aw _ EQ;obtain⟨t1,t2⟩:=(du.same R1.ins).ty (K:=X.K) n1;exact⟨u,.ty T,_,q x,rfl,by simp[DD],t1,hk x t2,k _ _ _ (R1.drop.put GM)⟩
end
inductive Ou where
 |nx (δ:Dv)|rt (x:PyData)|bk (δ:Dv)|ct (δ:Dv)|rn (xs:List PyData)
def Fin(G0 H0:Hp)(D:Ends):Ou->Prop
 |.nx δ=>∀σ G H,Rw G0 H0 G H σ δ []->D.nx σ H
 |.rt x=>∀v G H,AY G0 G->Nw G0 H0 G->AY G H->AY H0 H->Du G x v->D.rt v H
 |.bk δ=>∀σ G H,Rw G0 H0 G H σ δ []->D.bk σ H
 |.ct δ=>∀σ G H,Rw G0 H0 G H σ δ []->D.ct σ H
 |.rn xs=>∀a ys G H,AY G0 G->Nw G0 H0 G->AY G H->AY H0 H->H0 a=none->G a=none->H a=some KM->Aq G xs ys->D.rt PZ H
abbrev DF:=Dv->Option Ou
def DS(X:Cx)(st:Stmt)(F:DF):Prop:=∃t,PS X st t/\∀δ r,F δ=some r->∀G0 H0 G H σ D,Rw G0 H0 G H σ δ []->Fin G0 H0 D r->t D σ H
def JG(X:Cx)(st:v5)(F:DF):Prop:=∃t,HY X st t/\∀δ r,F δ=some r->∀G0 H0 G H σ D,Rw G0 H0 G H σ δ []->Fin G0 H0 D r->t D σ H
def AN(I l:DF)(δ:Dv):Option Ou:=match I δ with
 |some (.nx g)=>l g
 |o=>o
section
variable{X:Cx}{c e:Expr}{f h:va}{fa:vb}{pos p:Pos}{st:Stmt}{sts sts':v5}{F1 F2:DF}
def BA:JG X [] (fun δ=>some (.nx δ)):=⟨_,Dq,fun δ r h G0 H0 G H σ D R k=>by cases h;exact k _ _ _ R⟩
def AM(h1:DS X st F1)(Z:JG X sts F2):JG X (st::sts) (AN F1 F2):=by
 obtain⟨t1,U,M⟩:=h1;obtain⟨t2,T,Y⟩:=Z;refine⟨_,B0 U T,fun δ r h G0 H0 G H σ D R k=>?_⟩;unfold AN at h;split at h
 .rename_i g e1;exact M δ _ e1 G0 H0 G H σ _ R fun l G' H' R'=>Y g r h G0 H0 G' H' l D R' k
 .rename_i I;refine M δ r h G0 H0 G H σ _ R ?_;cases r with
  |nx g=>exact absurd h (I g)
  |rt x=>exact k
  |bk g=>exact k
  |ct g=>exact k
  |rn xs=>exact k
def Aa(I:DS X st F1):JG X [st] F1:=by
 obtain⟨t1,g,l⟩:=I;exact⟨_,Bf g,l⟩
def A6(he:xT):DS X (.Return (some e) pos) (fun δ=>(f δ).map .rt):=by
 obtain⟨t,p,k⟩:=he;refine⟨_,C8 p,fun δ r h G0 H0 G H σ D R q=>?_⟩;obtain⟨x,l,rfl⟩:=aC.mp h;exact k δ x l G0 H0 G H σ [] _ R fun v I H' g=>q v I H' g.ext g.new g.ins g.keep (g.Aw _ EQ)
def Bl(g:DT X c fa)(h1:JG X sts F1)(h2:JG X sts' F2):DS X (.If c sts sts' pos) (fun δ=>(fa δ).bind fun c=>if c=true then F1 δ else F2 δ):=by
 obtain⟨tc,pc,Y⟩:=g;obtain⟨t1,U,k1⟩:=h1;obtain⟨t2,T,Z⟩:=h2;refine⟨_,Fx pc U T,fun δ r h G0 H0 G H σ D R q=>?_⟩;obtain⟨i,h3,l⟩:=aA.mp h;refine Y δ i h3 G0 H0 G H σ [] _ R fun M H' I=>?_;split
 .rename_i g;rw[if_pos g]at l;exact k1 δ r l G0 H0 M H' σ D I q
 .rename_i g;rw[if_neg g]at l;exact Z δ r l G0 H0 M H' σ D I q
end
section
variable{G0 H0 G H:Hp}{σ:St}{δ:Dv}{ts:Of}
def Rw.HH{i:Nat}{x:PD}{v:V}(r:Rw G0 H0 G H σ δ ((x,v)::ts)):Rw G0 H0 G H (σ.set i tz) (δ.set i (.d x)) ts:=by
 have hl:=r.len;refine⟨r.ext,r.new,r.ins,r.keep,by simp[hl],fun j y h=>?_,fun j ys h=>?_,fun j l ys Y U M I=>?_,fun q hq=>r.Aw q (.tail _ hq)⟩
 .by_cases g:i=j
  .subst g;by_cases hi:i<δ.length
   .rw[List.getElem?_set_self hi]at h;cases h;exact⟨v,by rw[List.getElem?_set_self AC],r.Aw _ EQ⟩
   .rw[List.getElem?_eq_none ll]at h;cases h
  .rw[List.getElem?_set_ne g]at h;obtain⟨w,T,R⟩:=r.dat j y h;exact⟨w,by rw[List.getElem?_set_ne g];exact T,R⟩
 .by_cases g:i=j
  .subst g;by_cases hi:i<δ.length
   .rw[List.getElem?_set_self hi]at h;cases h
   .rw[List.getElem?_eq_none ll]at h;cases h
  .rw[List.getElem?_set_ne g]at h;obtain⟨w,T,R,k3⟩:=r.own j ys h;exact⟨w,T,by rw[List.getElem?_set_ne g];exact R,k3⟩
 .have Z:i≠j:=fun z=>by
   subst z;by_cases hi:i<δ.length
   .rw[List.getElem?_set_self hi]at M;cases M
   .rw[List.getElem?_eq_none ll]at M;cases M
  have nl:i≠l:=fun z=>by
   subst z;by_cases hi:i<δ.length
   .rw[List.getElem?_set_self hi]at I;cases I
   .rw[List.getElem?_eq_none ll]at I;cases I
  rw[List.getElem?_set_ne Z]at M ⊢;rw[List.getElem?_set_ne nl]at I ⊢;exact r.apart j l ys Y U M I
end
section
variable{X:Cx}{e:Expr}{f:va}{pos p:Pos}
def Al{i:Nat}{x:Str}{g:Pos}(M:nn)(hi:X.N[i]? = some x)(l:we)(he:xT)(hs:swapsWith e (some (.Name x g)) pos.line X.env=pure false:=by rfl)(I:X.fn x=true\/X.env.scope.names.lookup x=some .local:=by first|exact .inl rfl|exact .inr rfl|assumption):DS X (.Assign [.Name x g] e pos) (fun δ=>(f δ).map fun y=>.nx wZ):=by
 obtain⟨t,p,k⟩:=he;refine⟨_,D9 M hi l p hs I,fun δ r h G0 H0 G H σ D R q=>?_⟩;obtain⟨y,T,rfl⟩:=aC.mp h;exact k δ y T G0 H0 G H σ [] _ R fun v Y H' U=>q _ _ _ U.HH
end
section
variable{G0 H0 G H:Hp}{σ:St}{δ:Dv}{ts:Of}
def Rw.base(r:Gf):Rw G H0 G H σ δ ts:={r with ext:=AY.refl G,new:=fun _ _ h=>.inl h}
def Nw.trans{l g:Hp}(a:Nw G0 H0 l)(b:Nw l H0 g):Nw G0 H0 g:=fun c o h=>by
 rcases b c o h with z|z|z
 .exact a c o z
 .exact .inr (.inl z)
 .exact .inr (.inr z)
def Rw.V6{I H':Hp}{g:St}{δ':Dv}{l:Of}(r:Gf)(q:Rw G H0 I H' g δ' l):Rw G0 H0 I H' g δ' l:={q with ext:=r.ext.trans q.ext,new:=r.new.trans q.new}
def Ey(i:Nat)(δ:Dv):Dv:=match δ[i]? with
 |some (.own (.lst xs))=>δ.set i (.d zK)
 |some (.own (.Vb kvs))=>δ.set i (.d (UI kvs))
 |_=>δ
def Rw.letGo{i:Nat}{c:Oc}{x:PD}(r:Gf)(hi:δ[i]? = some (.own c))(hx:∀a o,G a=none->JS G a c o->Du (upd G a o) x PZ):∃a o,σ[i]? = some (some PZ)/\G a=none/\H0 a=none/\H a=some o/\JS G a c o/\Rw G0 H0 (upd G a o) H σ (δ.set i (.d x)) ts:=by
 obtain⟨a,o,k1,Z,k3,k4,k5⟩:=r.own i _ hi;have e:AY G (upd G a o):=B7 Z _;have g:i<δ.length:=(aF.mp hi).1;refine⟨a,o,k1,Z,k3,k4,k5,r.ext.trans e,fun b o' h=>?_,fun b o' h=>?_,r.keep,by simp[r.len],fun j y h=>?_,fun j zs h=>?_,fun j l us ws hjl U T=>?_,fun q hq=>(r.Aw q hq).same e⟩
 .by_cases M:b=a
  .subst M;exact .inr (.inl k3)
  .rw[Ae M]at h;exact r.new _ _ h
 .by_cases M:b=a
  .subst M;rw[An]at h;rw[k4];exact h
  .rw[Ae M]at h;exact r.ins _ _ h
 .by_cases I:i=j
  .subst I;rw[List.getElem?_set_self g]at h;cases h;exact⟨.ref a,k1,hx a o Z k5⟩
  .rw[List.getElem?_set_ne I]at h;obtain⟨w,R,Y⟩:=r.dat j y h;exact⟨w,R,Y.same e⟩
 .by_cases I:i=j
  .subst I;rw[List.getElem?_set_self g]at h;cases h
  .rw[List.getElem?_set_ne I]at h;obtain⟨b,us,R,Y,m3,m4,m5⟩:=r.own j zs h;have nb:b≠a:=fun z=>by subst z;exact r.apart i j _ zs I hi h (by rw[k1,R])
   exact⟨b,us,R,by rw[Ae nb];exact Y,m3,m4,m5.same e⟩
 .have nj:i≠j:=fun z=>by subst z;rw[List.getElem?_set_self g]at U;cases U
  have nl:i≠l:=fun z=>by subst z;rw[List.getElem?_set_self g]at T;cases T
  rw[List.getElem?_set_ne nj]at U;rw[List.getElem?_set_ne nl]at T;exact r.apart j l us ws hjl U T
def oG{a:AD}{o:HO}{xs:vc}(l:G a=none)(h:JS G a SB o):Du (upd G a o) zK PZ:=by
 obtain⟨ys,rfl,g⟩:=h;rw[Du];exact⟨a,ys,rfl,An,g.same (B7 l _)⟩
def pd{a:AD}{o:HO}{kvs:List (Option Tr×PD)}(l:G a=none)(h:JS G a (.Vb kvs) o):Du (upd G a o) (UI kvs) PZ:=by
 obtain⟨r,rfl,n,g⟩:=h;rw[Du,LC];exact .inr (.inr ⟨rfl,rfl,a,r,rfl,An,n,L8.same (B7 l _) g⟩)
def Rw.Ey(i:Nat)(r:Gf):∃g,Rw G0 H0 g H σ (L2.Ey i δ) ts:=by
 unfold L2.Ey;split
 .rename_i xs hi;obtain⟨a,o,_,_,_,_,_,R⟩:=r.letGo (x:=.list xs) hi fun a o h=>oG h;exact⟨_,R⟩
 .rename_i kvs hi;obtain⟨a,o,_,_,_,_,_,R⟩:=r.letGo (x:=UI kvs) hi fun a o h=>pd h;exact⟨_,R⟩
 .exact⟨G,r⟩
def Rw.Lz{i:Nat}{xs:Oc}{ys:HO}{a:AD}(r:Gf)(d:JS G a xs ys)(ha:H a=none):Rw G0 H0 G (upd H a ys) (σ.set i (some PZ)) (δ.set i (.own xs)) ts:=by
 have hG:G a=none:=by
  cases q:G a with
  |none=>rfl
  |some u=>rw[r.ins _ _ q]at ha;cases ha
 have h0:H0 a=none:=by
  cases q:H0 a with
  |none=>rfl
  |some u=>rw[r.keep _ _ q]at ha;cases ha
 have e:AY H (upd H a ys):=B7 ha _;have hl:=r.len;have other:∀(j:Nat) (I:Oc),i≠j->(δ.set i (.own xs))[j]? = some (L.own I)->δ[j]? = some (L.own I):=fun j I g h=>by rw[List.getElem?_set_ne g]at h;exact h
 have M:∀(j:Nat) (I:Oc),δ[j]? = some (L.own I)->σ[j]?≠some (some (V.ref a)):=fun j I h z=>by
  obtain⟨b,us,T,m2,m3,m4,m5⟩:=r.own j I h;rw[z]at T;cases T;rw[m4]at ha;cases ha
 refine⟨r.ext,r.new,r.ins.trans e,r.keep.trans e,by simp[hl],fun j y h=>?_,fun j I h=>?_,fun j l us ws Z U R=>?_,r.Aw⟩
 .by_cases g:i=j
  .subst g;by_cases hi:i<δ.length
   .rw[List.getElem?_set_self hi]at h;cases h
   .rw[List.getElem?_eq_none ll]at h;cases h
  .rw[List.getElem?_set_ne g]at h;obtain⟨w,T,m2⟩:=r.dat j y h;exact⟨w,by rw[List.getElem?_set_ne g];exact T,m2⟩
 .by_cases g:i=j
  .subst g;by_cases hi:i<δ.length
   .rw[List.getElem?_set_self hi]at h;cases h;exact⟨a,ys,by rw[List.getElem?_set_self AC],hG,h0,An,d⟩
   .rw[List.getElem?_eq_none ll]at h;cases h
  .have h:=other j I g h;obtain⟨b,us,T,m2,m3,m4,m5⟩:=r.own j I h;exact⟨b,us,by rw[List.getElem?_set_ne g];exact T,m2,m3,e _ _ m4,m5⟩
 .by_cases g:i=j
  .subst g;have Y:i≠l:=Z;have R:=other l ws Y R;by_cases hi:i<δ.length
   .rw[List.getElem?_set_self AC,List.getElem?_set_ne Y];exact fun z=>M l ws R z.symm
   .rw[List.getElem?_eq_none ll]at U;cases U
  .have U:=other j us g U;by_cases hk:i=l
   .subst hk;by_cases hi:i<δ.length
    .rw[List.getElem?_set_self AC,List.getElem?_set_ne g];exact fun z=>M j us U z
    .rw[List.getElem?_eq_none ll]at R;cases R
   .have R:=other l ws hk R;rw[List.getElem?_set_ne g,List.getElem?_set_ne hk];exact r.apart j l us ws Z U R
def Rw.K0{i:Nat}{xs xs':Oc}{ys:HO}{a:AD}(r:Gf)(hi:δ[i]? = some (.own xs))(ha:σ[i]? = some (some PZ))(d:JS G a xs' ys):Rw G0 H0 G (upd H a ys) σ (δ.set i (.own xs')) ts:=by
 obtain⟨a',ys0,k1,k2,k3,k4,k5⟩:=r.own i xs hi;rw[ha]at k1;cases k1;have M:i<δ.length:=(aF.mp hi).1;have hl:=r.len;refine⟨r.ext,r.new,fun b o h=>?_,fun b o h=>?_,by simp[hl],fun j y h=>?_,fun j Z h=>?_,fun j l us ws T Y U=>?_,r.Aw⟩
 .rw[Ae (fun z=>by subst z;rw[k2]at h;cases h)];exact r.ins _ _ h
 .rw[Ae (fun z=>by subst z;rw[k3]at h;cases h)];exact r.keep _ _ h
 .by_cases g:i=j
  .subst g;rw[List.getElem?_set_self M]at h;cases h
  .rw[List.getElem?_set_ne g]at h;exact r.dat j y h
 .by_cases g:i=j
  .subst g;rw[List.getElem?_set_self M]at h;cases h;exact⟨a,ys,ha,k2,k3,An,d⟩
  .rw[List.getElem?_set_ne g]at h;obtain⟨b,us,m1,m2,m3,m4,m5⟩:=r.own j Z h;have nb:b≠a:=fun z=>by subst z;exact r.apart i j xs Z g hi h (by rw[ha,m1])
   exact⟨b,us,m1,m2,m3,by rw[Ae nb];exact m4,m5⟩
 .have f:∀(j:Nat) (us:Oc),(δ.set i (.own xs'))[j]? = some (L.own us)->∃I,δ[j]? = some (L.own I):=fun j us h=>by
   by_cases g:i=j
   .subst g;exact⟨xs,hi⟩
   .rw[List.getElem?_set_ne g]at h;exact⟨us,h⟩
  obtain⟨I,Y⟩:=f j us Y;obtain⟨R,U⟩:=f l ws U;exact r.apart j l I R T Y U
end
section
variable{X:Cx}{a b e:Expr}{es:vp}{f g h:va}{fs:vZ}{pos p:Pos}{st:Stmt}{F:DF}
def Lp(i:Nat)(l:DS X st F):DS X st (fun δ=>F (Ey i δ)):=by
 obtain⟨t,p,k⟩:=l;refine⟨t,p,fun δ r h G0 H0 G H σ D R q=>?_⟩;obtain⟨M,I⟩:=R.Ey i;exact k _ r h G0 H0 M H σ D I q
def RV{i:Nat}{x:Str}{I T:Pos}(hN:nn)(hi:X.N[i]? = some x)(Y:we)(ha:DA X es fs)(hs:swapsWith (.List es T) (some (.Name x I)) pos.line X.env=pure false:=by rfl)(hf:X.fn x=true\/X.env.scope.names.lookup x=some .local:=by first|exact .inl rfl|exact .inr rfl|assumption):DS X (.Assign [.Name x I] (.List es T) pos) (fun δ=>((fs δ).bind CH).map fun ys=>.nx (δ.set i (.own KM))):=by
 obtain⟨t,p,k⟩:=ha;refine⟨_,D9 hN hi Y (eF p) hs hf,fun δ r h G0 H0 G H σ D R q=>?_⟩;obtain⟨y,h1,rfl⟩:=aC.mp h;obtain⟨xs,h2,h3⟩:=aA.mp h1;obtain⟨rfl,Z⟩:=KI h3;refine k δ _ h2 G0 H0 G H σ [] _ R fun vs G1 H1 R1 U=>?_;obtain⟨d,R2⟩:=R1.args U;exact⟨DR (by rw[U];exact Z),fun l M=>q _ _ _ (R2.Lz ⟨_,rfl,d⟩ M)⟩
def ow(i:Nat)(δ:Dv):Option vc:=match δ[i]? with
 |some (.own (.lst xs))=>some xs
 |_=>none
def Hw{i:Nat}{δ:Dv}{xs:vc}(h:ow i δ=some xs):δ[i]? = some (.own SB):=by
 unfold ow at h;split at h
 .rename_i y e;cases h;exact e
 .cases h
def T3{i:Nat}{x:Str}{np ap cp:Pos}(hv:zBO)(he:xT) (hP:∀ {U:TE} {t:TA},PE X L0 U->PA X [e] t->PS X (.Expr (.Call (.Attribute L0 "append" ap) [e] [] cp) pos) (Ml (Xg X.K "list" YB U t)))(I:starEach [e] X.env=Ev::starEach [] X.env:=by rfl):DS X (.Expr (.Call (.Attribute L0 "append" ap) [e] [] cp) pos) (fun δ=>(f δ).bind fun y=>(ow i δ).bind fun xs=>if xs.length<CQ then some (.nx (δ.set i (.own (.lst (xs++[y]))))) else none):=by
 obtain⟨t,p,k⟩:=he;refine⟨_,hP hv (Ac p A3 I),fun δ r h G0 H0 G H σ D R q=>?_⟩;obtain⟨y,h1,h2⟩:=aA.mp h;obtain⟨xs,h3,M⟩:=aA.mp h2;split at M
 .rename_i hl;cases M;have hi:=Hw h3;obtain⟨a,_,l,k2,k3,k4,⟨ys,rfl,k5⟩⟩:=R.own i _ hi;refine⟨.ref a,l,.inl ⟨rfl,ys,BR.of k4⟩,?_⟩;refine k δ y h1 G0 H0 G H σ [] _ R fun u G1 H1 T=>?_;obtain⟨a',_,Z,m2,m3,m4,⟨zs,rfl,Y⟩⟩:=T.own i _ hi;rw[l]at Z;cases Z;refine⟨a,zs,u,rfl,rfl,m4,ML (by rw[Y.len];lia),?_⟩;exact q _ _ _ (T.drop.K0 hi l ⟨_,rfl,Y.app (.cons (T.Aw _ EQ) .nil)⟩)
 .cases M
def eu{i:Nat}{x:Str}{np ap cp:Pos}(hv:zBO)(he:xT)
 (hP:∀ {U:TE} {t:TA},PE X L0 U->PA X [e] t->PS X (.Expr (.Call (.Attribute L0 "extend" ap) [e] [] cp) pos) (Ml (Xg X.K "list" Xm U t)))(T:starEach [e] X.env=Ev::starEach [] X.env:=by rfl) :
  DS X (.Expr (.Call (.Attribute L0 "extend" ap) [e] [] cp) pos) (fun δ=>(f δ).bind fun y=>(ow i δ).bind fun xs=>match y with|.list zs=>(if xs.length+zs.length<=CQ then some (.nx (δ.set i (.own (.lst (xs++zs))))) else none)|_=>none):=by
 obtain⟨t,p,k⟩:=he;refine⟨_,hP hv (Ac p A3 T),fun δ r h G0 H0 G H σ D R q=>?_⟩;obtain⟨y,h1,h2⟩:=aA.mp h;obtain⟨xs,h3,l⟩:=aA.mp h2;split at l
 .rename_i zs;split at l
  .rename_i hl;cases l;have hi:=Hw h3;obtain⟨a,_,M,k2,k3,k4,⟨ys,rfl,k5⟩⟩:=R.own i _ hi;refine⟨.ref a,M,.inl ⟨rfl,ys,BR.of k4⟩,?_⟩;refine k δ _ h1 G0 H0 G H σ [] _ R fun u G1 H1 I=>?_;obtain⟨a',_,m1,m2,m3,m4,⟨us,rfl,Z⟩⟩:=I.own i _ hi;rw[M]at m1;cases m1;have du:=I.Aw _ EQ;rw[Du]at du;obtain⟨b,ws,rfl,n1,Y⟩:=du;refine⟨a,b,us,ws,rfl,rfl,m4,I.ins _ _ n1,DR (by rw[Z.len,Y.len];exact hl),?_⟩;exact q _ _ _ (I.drop.K0 hi M ⟨_,rfl,Z.app Y⟩)
  .cases l
 .cases l
def Kz{i:Nat}{x:Str}{np:Pos}(Y:zBO)(Z:Gl X "len")(hm:X.mg "len" = none)(l:starEach [.Name x np] X.env=(false,eval L0 X.env)::starEach [] X.env:=by rfl)(hpl:(backTo pos fz).any OR=false:=by rfl):DE X (.Call (.Name "len" p) [.Name x np] [] pos) (fun δ=>(ow i δ).map fun xs=>.int xs.length):=by
 refine⟨_,Bv EG Z hm aO (Ac Y A3 l) AS AS l hpl,fun δ z U G0 H0 G H σ ts Q I k=>?_⟩;obtain⟨xs,h1,rfl⟩:=aC.mp U;obtain⟨a,_,T,k2,k3,R,⟨ys,rfl,M⟩⟩:=I.own i _ (Hw h1);refine⟨.ref a,T,a,ys,rfl,.inl (BR.of R),?_⟩;rw[M.len];exact k _ _ _ (I.put GM)
def Vv{i:Nat}{x:Str}{np:Pos}(hv:zBO)(hb:DE X b g)(hs:SI b):DE X (.Subscript L0 b pos) (fun δ=>(g δ).bind fun y=>(ow i δ).bind fun xs=>(MH y).bind fun k=>D8 xs k):=by
 obtain⟨tb,Y,kb⟩:=hb;refine⟨_,E1 L5 hv Y hs,fun δ z hz G0 H0 G H σ ts Q U k=>?_⟩;obtain⟨y,h1,h2⟩:=aA.mp hz;obtain⟨xs,R,h4⟩:=aA.mp h2;obtain⟨j,h5,h6⟩:=aA.mp h4;have:=Ke h5;subst this;obtain⟨a,_,M,k2,k3,k4,⟨ys,rfl,k5⟩⟩:=U.own i _ (Hw R);refine⟨.ref a,M,?_⟩;refine kb δ _ h1 G0 H0 G H σ ts _ U fun v G1 H1 l=>?_;have T:=l.Aw _ EQ;rw[Du]at T;obtain⟨a',_,I,m2,m3,m4,⟨us,rfl,Z⟩⟩:=l.own i _ (Hw R);rw[M]at I;cases I;obtain⟨w,h7,h8⟩:=Z.D8 h6;exact⟨a,us,j,w,rfl,T,BR.of m4,h7,k _ _ _ (l.drop.put h8)⟩
end
structure KW(J:It)(xs:List PyData)(G:Hp):Prop where
 stop:∀H,AY G H->J.stop xs.length H
 go:∀(i:Nat) (d:PyData) H,xs[i]? = some d->AY G H->J.go i H
 FE:∀(i:Nat) (d:PyData) H x H',xs[i]? = some d->AY G H->J.FE i H x H'->∀Gc,AY G Gc->AY Gc H->∃Gc',AY Gc Gc'/\Nw Gc H Gc'/\AY Gc' H'/\AY H H'/\Du Gc' d x
def Nw.refl{G H:Hp}:Nw G H G:=fun _ _ h=>.inl h
def mr{K:Fg}{G:Hp}{a:AD}{ys:vx}{xs:vc}(ha:G a=some KM)(d:Aq G xs ys):KW (Xd K a) xs G where
 stop:=fun H e=>⟨ys,BR.of (e _ _ ha),by rw[d.len];exact aG _⟩
 go:=fun i x H hx e=>by
  obtain⟨v,h1,_⟩:=d.get hx;exact⟨ys,v,BR.of (e _ _ ha),h1⟩
 FE:=fun i x H v H' hx e y Gc e1 e2=>by
  obtain⟨rfl,y⟩:=y;have h1:=y ys (BR.of (e _ _ ha));obtain⟨x',h2,h3⟩:=d.back h1;rw[hx]at h2;cases h2;exact⟨Gc,AY.refl _,Nw.refl,e2,AY.refl _,h3.same e1⟩
def qh{K:Fg}{G:Hp}{a:AD}{ys:vx}{xs:vc}(ha:G a=some (.tup ys))(d:Aq G xs ys):KW (Xe K a) xs G where
 stop:=fun H e=>⟨ys,B2.of (e _ _ ha),by rw[d.len];exact aG _⟩
 go:=fun i x H hx e=>by
  obtain⟨v,h1,_⟩:=d.get hx;exact⟨ys,v,B2.of (e _ _ ha),h1⟩
 FE:=fun i x H v H' hx e y Gc e1 e2=>by
  obtain⟨rfl,y⟩:=y;have h1:=y ys (B2.of (e _ _ ha));obtain⟨x',h2,h3⟩:=d.back h1;rw[hx]at h2;cases h2;exact⟨Gc,AY.refl _,Nw.refl,e2,AY.refl _,h3.same e1⟩
def D3(lo:Int)(n:Nat):vc:=(List.range n).map fun k=>.int (lo+(k:Nat))
def cw{G:Hp}{lo:Int}{n:Nat}:KW (eO lo n) (D3 lo n) G where
 stop:=fun H e=>by show n<=_;simp[D3]
 go:=fun i x H hx e=>by
  have:=(aF.mp hx).1;show i<n
  simpa[D3]using this
 FE:=fun i x H v H' hx e y Gc e1 e2=>by
  obtain⟨rfl,rfl⟩:=y;unfold D3 at hx;rw[xZ]at hx;obtain⟨k,h1,rfl⟩:=aC.mp hx;have hk:k=i:=by
   have:=(aF.mp h1).1;rw[List.getElem?_range (by simpa using this)]at h1;cases h1;rfl
  subst hk;exact⟨Gc,AY.refl _,Nw.refl,e2,AY.refl _,by rw[Du]⟩
def iw{Gc H:Hp}{p:AD}{R d2:PD}{l g:V}(M:AY Gc H)(I:H p=none)(Y:Du Gc R l)(U:Du Gc d2 g):∃Gc',AY Gc Gc'/\Nw Gc H Gc'/\AY Gc' (upd H p (.tup [l,g]))/\AY H (upd H p (.tup [l,g]))/\Du Gc' (.tuple [R,d2]) yI:=by
 have T:Gc p=none:=by
  cases q:Gc p with
  |none=>rfl
  |some u=>rw[M _ _ q]at I;cases I
 have e:AY Gc (upd Gc p (.tup [l,g])):=B7 T _;refine⟨upd Gc p (.tup [l,g]),e,fun a o h=>?_,fun a o h=>?_,B7 I _,?_⟩
 .by_cases ha:a=p
  .subst ha;exact .inr (.inl I)
  .rw[Ae ha]at h;exact .inl h
 .by_cases ha:a=p
  .subst ha;rw[An]at h ⊢;exact h
  .rw[Ae ha]at h ⊢;exact M _ _ h
 .rw[Du];exact⟨p,[l,g],rfl,An,.cons (Y.same e) (.cons (U.same e) .nil)⟩
def IY(xs ys:vc):vc:=(xs.zip ys).map fun q=>.tuple [q.1,q.2]
def Vz{xs ys:vc}{i:Nat}{d:PD}(h:(IY xs ys)[i]? = some d):∃x y,xs[i]? = some x/\ys[i]? = some y/\d=.tuple [x,y]:=by
 unfold IY at h;rw[xZ]at h;obtain⟨q,I,rfl⟩:=aC.mp h;obtain⟨l,g⟩:=List.getElem?_zip_eq_some.mp I;exact⟨q.1,q.2,l,g,rfl⟩
def rN{G:Hp}{b1 b2:Bool}{a1 a2:AD}{us vs:vx}{xs ys:vc}(h1:G a1=some (if b1 then .tup us else .lst us))(h2:G a2=some (if b2 then .tup vs else .lst vs))(d1:Aq G xs us)(d2:Aq G ys vs):KW (oZ b1 b2 a1 a2) (IY xs ys) G where
 stop:=fun H e=>by
  have k1:=e _ _ h1;have k2:=e _ _ h2;refine⟨us,vs,?_,?_,?_⟩
  .cases b1<;>simpa[F7]using k1
  .cases b2<;>simpa[F7]using k2
  .rw[d1.len,d2.len];simp[IY];lia
 go:=fun i x H hx e=>by
  obtain⟨x1,x2,k1,k2,rfl⟩:=Vz hx;obtain⟨v1,k3,_⟩:=d1.get k1;obtain⟨v2,k4,_⟩:=d2.get k2;have m1:=e _ _ h1;have m2:=e _ _ h2;refine⟨us,v1,vs,v2,?_,?_,k3,k4⟩
  .cases b1<;>simpa[F7]using m1
  .cases b2<;>simpa[F7]using m2
 FE:=fun i x H v H' hx e y Gc e1 e2=>by
  obtain⟨x1,x2,k1,k2,rfl⟩:=Vz hx;obtain⟨p,v1,v2,rfl,hp,rfl,y1,y2⟩:=y;have m1:=e _ _ h1;have m2:=e _ _ h2;have z1:=y1 us (by cases b1<;>simpa[F7]using m1);have z2:=y2 vs (by cases b2<;>simpa[F7]using m2);obtain⟨w1,n1,n2⟩:=d1.back z1;obtain⟨w2,n3,n4⟩:=d2.back z2;rw[k1]at n1;cases n1;rw[k2]at n3;cases n3;exact iw e2 hp (n2.same e1) (n4.same e1)
def DI(X:Cx)(tg iter:Expr)(f:vZ):Prop:=∃g,PI X tg iter g/\∀δ xs,f δ=some xs->∀G0 H0 G H σ ts (R:It->Hp->Prop),Rw G0 H0 G H σ δ ts->(∀J l H',Rw G0 H0 l H' σ δ ts->KW J xs l->R J H')->g σ H R
section
variable{X:Cx}{tg a b e:Expr}{f g h:va}{fs:vZ}{pos p:Pos}{sts:v5}{F:DF}
def PI.or{M l:TI}(h:PI X tg e M)(h':PI X tg e l):PI X tg e (fun σ H R=>M σ H R\/l σ H R):=fun pins s σ H R I q=>by
 rcases q with q|q
 .exact h pins s σ H R I q
 .exact h' pins s σ H R I q
def Jp:PD->Option zBo
 |.list xs=>some xs
 |.tuple xs=>some xs
 |_=>none
def EI(he:xT):DI X tg e (fun δ=>(f δ).bind Jp):=by
 obtain⟨t,p,k⟩:=he;refine⟨_,(XJ p).or (dZ p),fun δ xs h G0 H0 G H σ ts R Z q=>?_⟩;obtain⟨x,Y,M⟩:=aA.mp h;unfold Jp at M;split at M
 .cases M
  left
  refine k δ _ Y G0 H0 G H σ ts _ Z fun v G' H' l=>?_;have T:=l.Aw _ EQ;rw[Du]at T;obtain⟨a,ys,rfl,I,U⟩:=T;exact⟨a,rfl,⟨ys,BR.of (l.ins _ _ I)⟩,q _ _ _ l.drop (mr I U)⟩
 .cases M
  right
  refine k δ _ Y G0 H0 G H σ ts _ Z fun v G' H' l=>?_;have T:=l.Aw _ EQ;rw[Du]at T;obtain⟨a,ys,rfl,I,U⟩:=T;exact⟨a,rfl,⟨ys,B2.of (l.ins _ _ I)⟩,q _ _ _ l.drop (qh I U)⟩
 .cases M
def ES:List PD->Option zBo
 |[.int j]=>if -1000000<=j/\j<=1000000 then some (D3 0 j.toNat) else none
 |_=>none
def WL:List PD->Option zBo
 |[.int i,.int j]=>if -1000000<=i/\i<=1000000/\-1000000<=j/\j<=1000000 then some (D3 i (j-i).toNat) else none
 |_=>none
def F6(T:Gl X "range")(hm:X.mg "range" = none)(ha:DA X [a] fs)(hs:starEach [a] X.env=[b6]:=by rfl):DI X tg (.Call (.Name "range" p) [a] [] pos) (fun δ=>(fs δ).bind ES):=by
 obtain⟨t,p,k⟩:=ha;refine⟨_,eS T hm p hs,fun δ xs h G0 H0 G H σ ts R Y q=>?_⟩;obtain⟨x,U,l⟩:=aA.mp h;refine k δ _ U G0 H0 G H σ ts _ Y fun vs G' H' Z M=>?_;obtain⟨d,R2⟩:=Z.args M;unfold ES at l;split at l
 .split at l
  .cases l;obtain⟨u,rfl,I⟩:=d.JM;rw[Du]at I;subst I;exact⟨_,rfl,by lia,by lia,q _ _ _ R2 cw⟩
  .cases l
 .cases l
def fG(Y:Gl X "range")(hm:X.mg "range" = none)(ha:DA X [a,b] fs)(hs:starEach [a,b] X.env=[b6,wO]:=by rfl)(I:starEach [b] X.env=[wO]:=by rfl):DI X tg (.Call (.Name "range" p) [a,b] [] pos) (fun δ=>(fs δ).bind WL):=by
 obtain⟨t,p,k⟩:=ha;refine⟨_,cf Y hm p hs I,fun δ xs h G0 H0 G H σ ts R R0 q=>?_⟩;obtain⟨x,Z,l⟩:=aA.mp h;refine k δ _ Z G0 H0 G H σ ts _ R0 fun vs G' H' R' U=>?_;obtain⟨d,R2⟩:=R'.args U;unfold WL at l;split at l
 .split at l
  .cases l;obtain⟨u,v,rfl,T,M⟩:=d.YF;rw[Du]at T M;subst T M;exact⟨_,_,rfl,⟨by lia,by lia,by lia,by lia⟩,q _ _ _ R2 cw⟩
  .cases l
 .cases l
def zip2:List PD->Option zBo
 |[x,y]=>(Jp x).bind fun xs=>(Jp y).map fun ys=>IY xs ys
 |_=>none
def Zn{G:Hp}{x:PD}{v:V}{xs:vc}(h:Du G x v)(e:Jp x=some xs):∃(b:Bool) (a:AD) (ys:vx),v=.ref a/\G a=some (if b then .tup ys else .lst ys)/\Aq G xs ys:=by
 unfold Jp at e;split at e
 .cases e;rw[Du]at h;obtain⟨a,ys,rfl,I,l⟩:=h;exact⟨false,a,ys,rfl,I,l⟩
 .cases e;rw[Du]at h;obtain⟨a,ys,rfl,I,l⟩:=h;exact⟨true,a,ys,rfl,I,l⟩
 .cases e
def eT{elts:vp}{x1}{l:Pos}(hg:Gl X "zip")(hm:X.mg "zip" = none)(ha:DA X [a,b] fs)(hs:starEach [a,b] X.env=[b6,wO]:=by rfl)(M:starEach [b] X.env=[wO]:=by rfl):DI X (.Tuple elts x1 l) (.Call (.Name "zip" p) [a,b] [] pos) (fun δ=>(fs δ).bind zip2):=by
 obtain⟨t,p,k⟩:=ha;refine⟨_,rG hg hm p hs M,fun δ xs h G0 H0 G H σ ts R R0 q=>?_⟩;obtain⟨x,h1,I⟩:=aA.mp h;refine k δ _ h1 G0 H0 G H σ ts _ R0 fun vs G' H' R' hv=>?_;obtain⟨d,R2⟩:=R'.args hv;unfold zip2 at I;split at I
 .obtain⟨Z,h3,h4⟩:=aA.mp I;obtain⟨Y,h5,rfl⟩:=aC.mp h4;obtain⟨u,v,rfl,du,dv⟩:=d.YF;obtain⟨b1,a1,us,rfl,T,n2⟩:=Zn du h3;obtain⟨b2,a2,ws,rfl,U,m2⟩:=Zn dv h5;have s1:=R2.ins _ _ T;have s2:=R2.ins _ _ U;exact⟨b1,b2,a1,a2,rfl,⟨us,by cases b1<;>simpa[F7]using s1⟩,⟨ws,by cases b2<;>simpa[F7]using s2⟩,q _ _ _ R2 (rN T U n2 m2)⟩
 .cases I
def DG(X:Cx)(tg:Expr)(set:XN):Prop:=∃g,PG X tg g/\∀δ x I,set x δ=some I->∀G0 H0 G H σ v (Q:St->Hp->Prop),Rw G0 H0 G H σ δ [(x,v)]->(∀l M H',Rw G0 H0 M H' l I []->Q l H')->g v σ H Q
def IV{i:Nat}{x:Str}(h:PG X wX (Ef i)):DG X wX (fun y δ=>some wZ) :=
 ⟨_,h,fun δ y l e G0 H0 G H σ v Q R k=>by cases e;exact k _ _ _ R.HH⟩
def EJ(i j:Nat)(y:PD)(δ:Dv):Option Dv:=match y with
 |.tuple [u,v]=>some ((δ.set i (.d u)).set j (.d v))
 |_=>none
def cT{x y:Str}{i j:Nat}{T M:Pos}{k1}(h:PG X (.Tuple [.Name x T,.Name y M] k1 pos) (ZQ X.K 2 (Ma (Ef i) (Ma (Ef j) Y6)))):DG X (.Tuple [.Name x T,.Name y M] k1 pos) (EJ i j):=by
 refine⟨_,h,fun δ z Y e G0 H0 G H σ v Q R k=>?_⟩;unfold EJ at e;split at e
 .cases e;have U:=R.Aw _ EQ;rw[Du]at U;obtain⟨a,ys,rfl,n1,Z⟩:=U;obtain⟨I,l,rfl,m1,m2⟩:=Z.YF;refine⟨a,[I,l],rfl,B2.of (R.ins _ _ n1),rfl,I,[l],rfl,l,[],rfl,rfl,?_⟩;exact k _ _ _ (((R.drop.put m2).put m1).HH.HH)
 .cases e
def ER(set:XN)(I:DF):List PD->Dv->Option Ou
 |[],δ=>some (.nx δ)
 |x::xs,δ=>match (set x δ).bind I with
  |some (.nx l)=>ER set I xs l
  |some (.ct l)=>ER set I xs l
  |some (.bk l)=>some (.nx l)
  |some (.rt v)=>some (.rt v)
  |some (.rn v)=>some (.rn v)
  |none=>none
def Hh{set:XN}(hp:PassesOwn AT X.A X.env X.xe)(hc:dO)(hi:DI X tg e fs)(hg:DG X tg set)(hb:JG X sts F)(hs:∀x,foldedSetIterable e X.env x=pure x:=by intro _;rfl):DS X (.For tg e sts [] pos) (fun δ=>(fs δ).bind fun xs=>ER set F xs δ):=by
 obtain⟨wi,pi,ki⟩:=hi;obtain⟨g,pg,kg⟩:=hg;obtain⟨tb,pb,kb⟩:=hb;refine⟨_,Qu hp hc pi pg pb hs,fun δ r h G0 H0 G H σ D R q=>?_⟩;obtain⟨xs,h1,h2⟩:=aA.mp h;refine ki δ xs h1 G0 H0 G H σ [] _ R fun J Ga Ha Ra it=>?_;refine⟨fun i m I H'=>m=xs.length-i/\i<=xs.length/\∃l G',ER set F (xs.drop i) l=some r/\Rw G0 H0 G' H' I l []/\AY Ga G',⟨xs.length,by simp,Nat.zero_le _,δ,Ga,by simpa using h2,Ra,AY.refl _⟩,?_⟩;rintro i m σ1 H1 ⟨rfl,hi,δ1,G1,f1,R1,s1⟩;have sH:AY Ga H1:=s1.trans R1.ins;by_cases T:i<xs.length
 .right
  have hx:xs[i]? = some xs[i]:=by simp[T]
  refine⟨it.go i _ H1 hx sH,fun I H'=>i+1<=xs.length/\∃l G',ER set F (xs.drop Pi) l=some r/\Rw G0 H0 G' H' I l []/\AY Ga G',fun I H' n=>⟨xs.length-Pi,by lia,rfl,n⟩,fun x H' y=>?_⟩;obtain⟨G2,e1,e2,e3,e4,e5⟩:=it.FE i _ H1 x H' hx sH y G1 s1 R1.ins;have R2:=(R1.lift e1 e2 e3 e4).put e5;have s2:=s1.trans e1;rw[List.drop_eq_getElem_cons T]at f1;unfold ER at f1;cases Z:(set xs[i] δ1).bind F with
  |none=>rw[Z]at f1;cases f1
  |some o=>
   obtain⟨δ2,k1,k2⟩:=aA.mp Z;rw[Z]at f1;have R2b:=R2.base;refine kg δ1 _ δ2 k1 G2 H0 G2 H' σ1 x _ R2b fun σ3 G3 H3 R3=>?_;refine kb δ2 o k2 G2 H0 G3 H3 σ3 _ R3 ?_;cases o with
   |nx M=>exact fun Y U H4 R4=>⟨T,M,U,f1,R2.drop.V6 R4,s2.trans R4.ext⟩
   |ct M=>exact fun Y U H4 R4=>⟨T,M,U,f1,R2.drop.V6 R4,s2.trans R4.ext⟩
   |bk M=>cases f1;exact fun Y U H4 R4=>q Y U H4 (R2.drop.V6 R4)
   |rt v=>cases f1;exact fun w U H4 h1 h2 h3 h4 h5=>q w U H4 (R2.ext.trans h1) (R2.new.trans h2) h3 h4 h5
   |rn v=>cases f1;exact fun w ys U H4 h1 h2=>q w ys U H4 (R2.ext.trans h1) (R2.new.trans h2)
 .left
  have e:i=xs.length:=by lia
  subst e;refine⟨it.stop H1 sH,?_⟩;rw[List.drop_length]at f1;unfold ER at f1;cases f1;exact q _ _ _ R1
end
def tD(f:va):TE:=fun σ H Q=>∃δ x G0 H0 G ts,f δ=some x/\Rw G0 H0 G H σ δ ts/\∀v g H',Rw G0 H0 g H' σ δ ((x,v)::ts)->Q v H'
def WB(f:vb):TT:=fun σ H Q=>∃δ x G0 H0 G ts,f δ=some x/\Rw G0 H0 G H σ δ ts/\∀g H',Rw G0 H0 g H' σ δ ts->Q x H'
def DE.pe{X:Cx}{e:Expr}{f:va}(h:xT):PE X e (tD f):=by
 obtain⟨t,p,k⟩:=h;intro pins s σ H Q I q;obtain⟨δ,x,G0,H0,G,ts,M,l,g⟩:=q;exact p pins s σ H Q I (k δ x M G0 H0 G H σ ts Q l g)
def DT.pt{X:Cx}{e:Expr}{f:vb}(h:DT X e f):PT X e (WB f):=by
 obtain⟨t,p,k⟩:=h;intro pins s σ H Q I q;obtain⟨δ,x,G0,H0,G,ts,M,l,g⟩:=q;exact p pins s σ H Q I (k δ x M G0 H0 G H σ ts Q l g)
def Tw(X:Cx)(g:vp)(f:vb):Prop:=II X g (WB f)
def EV{X:Cx}:Tw X [] (fun _=>some true):=by
 intro pins s σ H Q I q;obtain⟨δ,x,G0,H0,G,ts,M,l,g⟩:=q;cases M;exact lU pins s σ H Q I (g _ _ l)
def MJ{X:Cx}{c:Expr}{f:vb}(h:DT X c f):Tw X [c] f:=mv h.pt
def Bp(fr:v8)(δ:Dv):Dv:=fr.map fun o=>match o with
 |some j=>(match δ[j]? with|some (.d x)=>.d x|_=>.no)
 |none=>.no
def Rw.inner{G0 H0 G H:Hp}{σ:St}{δ:Dv}{ts:Of}(fr:v8)(r:Gf):Rw G H G H (carry fr σ) (Bp fr δ) ts:=by
 have key:∀(i:Nat) (l:L),(Bp fr δ)[i]? = some l->∃o,fr[i]? = some o/\l=(match o with|some j=>(match δ[j]? with|some (.d x)=>.d x|_=>.no)|none=>.no):=fun i l h=>by
  unfold Bp at h;rw[xZ]at h;obtain⟨o,M,rfl⟩:=aC.mp h;exact⟨o,M,rfl⟩
 have g:∀(i:Nat) (xs:Oc),(Bp fr δ)[i]?≠some (L.own xs):=fun i xs h=>by
  obtain⟨o,_,I⟩:=key i _ h;split at I
  .split at I<;>cases I
  .cases I
 refine⟨AY.refl _,Nw.refl,r.ins,AY.refl _,by simp[carry,Bp],fun i x h=>?_,fun i xs h=>absurd h (g i xs),fun i j xs ys _ h=>absurd h (g i xs),r.Aw⟩;obtain⟨o,M,I⟩:=key i _ h;split at I
 .rename_i j;split at I
  .rename_i y U;cases I;obtain⟨v,T,R⟩:=r.dat j _ U;refine⟨v,?_,R⟩;unfold carry;rw[xZ,M];simp[T]
  .cases I
 .cases I
def Rw.other{G0 H0 G H:Hp}{σ:St}{δ:Dv}{ts:Of}{D:AD}{o:HO}(r:Gf)(U:G D=none)(h0:H0 D=none)(T:zAL):Rw G0 H0 G (upd H D o) σ δ ts:=by
 refine⟨r.ext,r.new,fun a u h=>?_,fun a u h=>?_,r.len,r.dat,fun i xs h=>?_,r.apart,r.Aw⟩
 .rw[Ae (fun z=>by subst z;rw[U]at h;cases h)];exact r.ins _ _ h
 .rw[Ae (fun z=>by subst z;rw[h0]at h;cases h)];exact r.keep _ _ h
 .obtain⟨a,ys,g,R,M,I,l⟩:=r.own i xs h;exact⟨a,ys,g,R,M,by rw[Ae (fun z=>by subst z;exact T i xs h g)];exact I,l⟩
def Rw.adopt{G0 H0 G H:Hp}{σ:St}{δ:Dv}{ts:Of}{D:AD}{ys:vx}(r:Gf)(hD:H D=some KM)(Z:G D=none)(h0:H0 D=none)(Y:zAL):Rw G0 H0 (upd G D KM) H σ δ ts:=by
 have e:AY G (upd G D KM):=B7 Z _;refine⟨r.ext.trans e,fun a u h=>?_,fun a u h=>?_,r.keep,r.len,fun i x h=>?_,fun i xs h=>?_,r.apart,fun q U=>(r.Aw q U).same e⟩
 .by_cases ha:a=D
  .subst ha;exact .inr (.inl h0)
  .rw[Ae ha]at h;exact r.new _ _ h
 .by_cases ha:a=D
  .subst ha;rw[An]at h;rw[hD];exact h
  .rw[Ae ha]at h;exact r.ins _ _ h
 .obtain⟨v,g,l⟩:=r.dat i x h;exact⟨v,g,l.same e⟩
 .obtain⟨a,I,g,l,T,R,M⟩:=r.own i xs h;have ha:a≠D:=fun z=>by subst z;exact Y i xs h g
  exact⟨a,I,g,by rw[Ae ha];exact l,T,R,M.same e⟩
def E4(set:XN)(l:vb)(f:va)(δ:Dv)(x:PD):Option vg :=
 (set x δ).bind fun g=>(l g).bind fun b=>if b=true then(f g).map some else some none
def collect(one:PD->Option (Option PD)):List PD->Option zBo
 |[]=>some []
 |x::xs=>(one x).bind fun o=>(collect one xs).map fun r=>o.toList++r
def JE(set:XN)(g:vb)(f:va)(fr:v8)(fs:vZ)(δ:Dv):Option vc :=
 (fs δ).bind fun xs=>(collect (E4 set g f (Bp fr δ)) xs).bind CH
def Bz(set:XN)(g:vb)(f:va)(fr:v8)(fs:vZ)(δ:Dv):vg :=
 (JE set g f fr fs δ).map .list
structure Rt(G0 H0 Ga:Hp)(σ:St)(δ:Dv)(ts:List (PyData×V))(one:PyData->Option (Option PyData))(xs full:List PyData)(D:Addr)(i:Nat)(ys:UF)(H:Hp):Prop where
 ex:∃G done rest,Rw G0 H0 G H σ δ ts/\AY Ga G/\G D=none/\collect one (xs.drop i)=some rest/\done++rest=full/\Aq G done ys
 h0:H0 D=none
 ap:∀(j:Nat) (us:Oc),δ[j]? = some (L.own us)->σ[j]?≠some (some (V.ref D))
def Mk{G0 H0 G H:Hp}{D:AD}{ys:vx}(l:G0 D=none)(g:H0 D=some KM)(n:Nw G0 H0 G)(e:AY G H)(k:AY H0 H):G D=none:=by
 cases q:G D with
 |none=>rfl
 |some o=>
  rcases n _ _ q with z|z|⟨us,z⟩
  .rw[l]at z;cases z
  .rw[g]at z;cases z
  .have:=e _ _ q;rw[k _ _ g,z]at this;cases this
section
variable{X:Cx}{elt iter:Expr}{x y:Str}{px pos:Pos}{ifs:vp}{scope:yB}{fs:vZ}{tif:vb}{f:va}
def Bw(i:Nat)(y:PD)(δ:Dv):Option Dv:=some wZ
def Ro{wi:TI}{ix:Nat}{fr:v8}(ki:LD){δ:Dv}{zs:vc}(hz:JE (Bw ix) tif f fr fs δ=some zs){G0 H0 G H:Hp}{σ:St}{ts:Of}{Q:VK}(R0:Gf)(k:KB):Hi wi fr ix (WB tif) (tD f) σ H Q:=by
 unfold JE at hz;obtain⟨xs,m2,m3⟩:=aA.mp hz;obtain⟨full,m4,m5⟩:=aA.mp m3;obtain⟨rfl,hfew⟩:=KI m5;refine ki δ xs m2 G0 H0 G H σ ts _ R0 fun J Ga Ha Ra it D hD=>?_;have hGD:Ga D=none:=by
  cases q:Ga D with
  |none=>rfl
  |some u=>rw[Ra.ins _ _ q]at hD;cases hD
 have l:H0 D=none:=by
  cases q:H0 D with
  |none=>rfl
  |some u=>rw[Ra.keep _ _ q]at hD;cases hD
 have g:∀(j:Nat) (us:Oc),δ[j]? = some (L.own us)->σ[j]?≠some (some (V.ref D)):=fun j us h z=>by
  obtain⟨a,ys,k1,k2,k3,k4,k5⟩:=Ra.own j us h;rw[z]at k1;cases k1;rw[k4]at hD;cases hD
 refine XS (n:=xs.length) (Rt G0 H0 Ga σ δ ts (E4 (Bw ix) tif f (Bp fr δ)) xs full D) ⟨⟨Ga,[],full,Ra.other hGD l g,AY.refl _,hGD,by simpa using m4,rfl,.nil⟩,l,g⟩ ?_ ?_
 .rintro i ys H1 U ⟨⟨G1,done,rest,R1,s1,g1,c1,e1,d1⟩,_,_⟩ Z;have hx:xs[i]? = some xs[i]:=by simp[U]
  have sH:=s1.trans R1.ins;have hyl:ys.length<sizeLine:=ML (by
   rw[d1.len];have:done.length<=full.length:=by rw[<-e1];simp
   lia)
  refine⟨it.go i _ H1 hx sH,hyl,fun v H' y=>?_⟩;obtain⟨G2,n1,n2,n3,n4,n5⟩:=it.FE i _ H1 v H' hx sH y G1 s1 R1.ins;have R2:=R1.lift n1 n2 n3 n4;have Y:=n4 _ _ Z;have g2:G2 D=none:=Mk g1 Z n2 n3 n4;rw[List.drop_eq_getElem_cons U]at c1;unfold collect at c1;obtain⟨o,c2,c3⟩:=aA.mp c1;obtain⟨I,c4,rfl⟩:=aC.mp c3;unfold E4 Bw at c2;simp only[Option.bind_some]at c2;obtain⟨b,c5,c6⟩:=aA.mp c2;have Ri:=((R2.inner fr).put n5).HH (i:=ix);have Ri0:Rw G2 H' G2 H' ((carry fr σ).set ix tz) ((Bp fr δ).set ix (.d xs[i])) []:=Ri.less fun q hq=>by cases hq
  refine⟨_,b,G2,H',G2,[],c5,Ri0,fun G3 H3 T=>?_⟩;have R3o:=R2.lift T.ext T.new T.ins T.keep;have hD3:=T.keep _ _ Y;have g3:G3 D=none:=Mk g2 Y T.new T.ins T.keep;dsimp only;split
  .rename_i hb;rw[if_pos hb]at c6;obtain⟨w,c7,rfl⟩:=aC.mp c6;refine⟨_,w,G2,H',G3,[],c7,T,fun u G4 H4 M=>?_⟩;have R4o:=R2.lift M.ext M.new M.ins M.keep;have hD4:=M.keep _ _ Y;have g4:G4 D=none:=Mk g2 Y M.new M.ins M.keep;refine⟨hD4,Sj U ⟨⟨G4,done++[w],I,R4o.other g4 l g,s1.trans (n1.trans M.ext),g4,c4,by simpa using e1,(d1.same (n1.trans M.ext)).app (.cons (M.Aw _ EQ) .nil)⟩,l,g⟩⟩
  .rename_i hb;rw[if_neg hb]at c6;cases c6;exact SF U hD3 ⟨⟨G3,done,I,R3o,s1.trans (n1.trans T.ext),g3,c4,by simpa using e1,d1.same (n1.trans T.ext)⟩,l,g⟩
 .rintro ys H1 ⟨⟨G1,done,rest,R1,s1,g1,c1,e1,d1⟩,_,_⟩ Z;refine⟨it.stop H1 (s1.trans R1.ins),?_⟩;rw[List.drop_length]at c1;cases c1;rw[(GZ)]at e1;subst e1;exact k _ _ _ _ R1 Z g1 l g d1
def Nm{T:TI}{ix:Nat}{fr:v8}(ki:zAt){δ:Dv}{z:PD}(U:Bz (Bw ix) tif f fr fs δ=some z){G0 H0 G H:Hp}{σ:St}{ts:Of}{Q:VK}(R0:Gf)(k:∀v g H',Rw G0 H0 g H' σ δ ((z,v)::ts)->Q v H'):Hi T fr ix (WB tif) (tD f) σ H Q:=by
 unfold Bz at U;obtain⟨full,m1,rfl⟩:=aC.mp U;refine Ro ki m1 R0 fun D ys Z H1 R1 M Y I l d1=>?_;have e:AY Z (upd Z D KM):=B7 Y _;have R2:=R1.adopt M Y I l;refine k _ _ _ (R2.put ?_);rw[Du];exact⟨D,ys,rfl,An,d1.same e⟩
def Ig(N:vo)(ix:Nat)(fr:v8)(hi:yK)(g:zAx)(he:zBZ) (Y:Bu scope N x ix=true:=by decide +kernel)(U:X.calm=true:=by rfl)(T:Dj N X.N scope X.env.scope fr 0=true:=by rfl)(R:fr.length=N.length:=by rfl)(M:freeOk X.env.scope scope.names=true:=by rfl) (hs:∀x,foldedSetIterable iter X.env x=pure x:=by intro _;rfl):DE X B1 (Bz (Bw ix) tif f fr fs):=by
 obtain⟨wi,pi,l⟩:=hi;exact⟨_,WZ N ix fr pi g Pl Y U T R M hs,fun δ z I G0 H0 G H σ ts Q Z k=>Nm l I Z k⟩
def Hf{i:Nat}{z:Str}{U g:Pos}(N:vo)(ix:Nat)(fr:v8)(hN:nn)(Z:X.N[i]? = some z)(I:xS)(hi:yK)(M:zAx)(he:zBZ) (T:Bu scope N x ix=true:=by decide +kernel)(h2:X.calm=true:=by rfl)(h3:Dj N X.N scope X.env.scope fr 0=true:=by rfl)(h4:fr.length=N.length:=by rfl)(h5:freeOk X.env.scope scope.names=true:=by rfl) (l:swapsWith B1 (some (.Name z U)) g.line X.env=pure true:=by rfl) (hs:∀x,foldedSetIterable iter X.env x=pure x:=by intro _;rfl):DS X (.Assign [.Name z U] B1 g) (fun δ=>(Bz (Bw ix) tif f fr fs δ).map fun y=>.nx wZ):=by
 obtain⟨wi,pi,Y⟩:=hi;refine⟨_,Wy N ix fr hN Z I pi M Pl T h2 h3 h4 h5 l hs,fun δ r h G0 H0 G H σ D R q=>?_⟩;obtain⟨y,T,rfl⟩:=aC.mp h;exact Nm Y T R fun v G' H' R'=>q _ _ _ R'.HH
end
section
variable{X:Cx}{elt iter:Expr}{x y:Str}{px py tp pos:Pos}{tk:Nat}{ifs:vp}{scope:yB}{fs:vZ}{tif:vb}{f:va}
def Wj{wi:TI}{ix iy:Nat}{fr:v8}(ki:LD){δ:Dv}{zs:vc}(hz:JE (EJ ix iy) tif f fr fs δ=some zs){G0 H0 G H:Hp}{σ:St}{ts:Of}{Q:VK}(R0:Gf)(k:KB):RY X.K wi fr ix iy (WB tif) (tD f) σ H Q:=by
 unfold JE at hz;obtain⟨xs,m2,m3⟩:=aA.mp hz;obtain⟨full,m4,m5⟩:=aA.mp m3;obtain⟨rfl,hfew⟩:=KI m5;refine ki δ xs m2 G0 H0 G H σ ts _ R0 fun J Ga Ha Ra it D hD=>?_;have hGD:Ga D=none:=by
  cases q:Ga D with
  |none=>rfl
  |some u=>rw[Ra.ins _ _ q]at hD;cases hD
 have l:H0 D=none:=by
  cases q:H0 D with
  |none=>rfl
  |some u=>rw[Ra.keep _ _ q]at hD;cases hD
 have g:∀(j:Nat) (us:Oc),δ[j]? = some (L.own us)->σ[j]?≠some (some (V.ref D)):=fun j us h z=>by
  obtain⟨a,ys,k1,k2,k3,k4,k5⟩:=Ra.own j us h;rw[z]at k1;cases k1;rw[k4]at hD;cases hD
 refine iu (n:=xs.length) (Rt G0 H0 Ga σ δ ts (E4 (EJ ix iy) tif f (Bp fr δ)) xs full D) ⟨⟨Ga,[],full,Ra.other hGD l g,AY.refl _,hGD,by simpa using m4,rfl,.nil⟩,l,g⟩ ?_ ?_
 .rintro i ys H1 U ⟨⟨G1,done,rest,R1,s1,g1,c1,e1,d1⟩,_,_⟩ Z;have hx:xs[i]? = some xs[i]:=by simp[U]
  have sH:=s1.trans R1.ins;have hyl:ys.length<sizeLine:=ML (by
   rw[d1.len];have:done.length<=full.length:=by rw[<-e1];simp
   lia)
  refine⟨it.go i _ H1 hx sH,hyl,fun v H' y=>?_⟩;obtain⟨G2,n1,n2,n3,n4,n5⟩:=it.FE i _ H1 v H' hx sH y G1 s1 R1.ins;have R2:=R1.lift n1 n2 n3 n4;have Y:=n4 _ _ Z;have g2:G2 D=none:=Mk g1 Z n2 n3 n4;rw[List.drop_eq_getElem_cons U]at c1;unfold collect at c1;obtain⟨o,c2,c3⟩:=aA.mp c1;obtain⟨I,c4,rfl⟩:=aC.mp c3;unfold E4 at c2;obtain⟨δ1,c8,c9⟩:=aA.mp c2;obtain⟨b,c5,c6⟩:=aA.mp c9;unfold EJ at c8;split at c8
  .rename_i u1 u2 hu;cases c8;rw[hu,Du]at n5;obtain⟨pa,ps,rfl,q1,q2⟩:=n5;obtain⟨w1,w2,rfl,q3,q4⟩:=q2.YF;have Ri:=(((R2.inner fr).put q4).put q3).HH (i:=ix) |>.HH (i:=iy)
   have Ri0:Rw G2 H' G2 H' (((carry fr σ).set ix (some w1)).set iy (some w2)) (((Bp fr δ).set ix (.d u1)).set iy (.d u2)) []:=Ri.less fun q hq=>by cases hq
   refine⟨pa,w1,w2,rfl,B2.of (n3 _ _ q1),?_⟩;refine⟨_,b,G2,H',G2,[],c5,Ri0,fun G3 H3 T=>?_⟩;have R3o:=R2.lift T.ext T.new T.ins T.keep;have hD3:=T.keep _ _ Y;have g3:G3 D=none:=Mk g2 Y T.new T.ins T.keep;dsimp only;split
   .rename_i hb;rw[if_pos hb]at c6;obtain⟨w,c7,rfl⟩:=aC.mp c6;refine⟨_,w,G2,H',G3,[],c7,T,fun u G4 H4 M=>?_⟩;have R4o:=R2.lift M.ext M.new M.ins M.keep;have hD4:=M.keep _ _ Y;have g4:G4 D=none:=Mk g2 Y M.new M.ins M.keep;refine⟨hD4,Sj U ⟨⟨G4,done++[w],I,R4o.other g4 l g,s1.trans (n1.trans M.ext),g4,c4,by simpa using e1,(d1.same (n1.trans M.ext)).app (.cons (M.Aw _ EQ) .nil)⟩,l,g⟩⟩
   .rename_i hb;rw[if_neg hb]at c6;cases c6;exact SF U hD3 ⟨⟨G3,done,I,R3o,s1.trans (n1.trans T.ext),g3,c4,by simpa using e1,d1.same (n1.trans T.ext)⟩,l,g⟩
  .cases c8
 .rintro ys H1 ⟨⟨G1,done,rest,R1,s1,g1,c1,e1,d1⟩,_,_⟩ Z;refine⟨it.stop H1 (s1.trans R1.ins),?_⟩;rw[List.drop_length]at c1;cases c1;rw[(GZ)]at e1;subst e1;exact k _ _ _ _ R1 Z g1 l g d1
def Yx{T:TI}{ix U:Nat}{fr:v8}(ki:zAt){δ:Dv}{z:PD}(Y:Bz (EJ ix U) tif f fr fs δ=some z){G0 H0 G H:Hp}{σ:St}{ts:Of}{Q:VK}(R0:Gf)(k:∀v g H',Rw G0 H0 g H' σ δ ((z,v)::ts)->Q v H'):RY X.K T fr ix U (WB tif) (tD f) σ H Q:=by
 unfold Bz at Y;obtain⟨full,m1,rfl⟩:=aC.mp Y;refine Wj ki m1 R0 fun D ys G1 H1 R1 M Z I l d1=>?_;have e:AY G1 (upd G1 D KM):=B7 Z _;have R2:=R1.adopt M Z I l;refine k _ _ _ (R2.put ?_);rw[Du];exact⟨D,ys,rfl,An,d1.same e⟩
def Ux(N:vo)(ix g:Nat)(fr:v8)(hi:DI X (.Tuple [.Name x px,.Name y py] tk tp) iter fs)(I:zAx)(he:zBZ) (h1:Bu scope N x ix=true:=by decide +kernel)(M:Bu scope N y g=true:=by decide +kernel)(l:ix≠g:=by decide)(h2:X.calm=true:=by rfl)(Z:Dj N X.N scope X.env.scope fr 0=true:=by rfl)(Y:fr.length=N.length:=by rfl)(U:freeOk X.env.scope scope.names=true:=by rfl) (hs:∀x,foldedSetIterable iter X.env x=pure x:=by intro _;rfl):DE X zS (Bz (EJ ix g) tif f fr fs):=by
 obtain⟨wi,pi,R⟩:=hi;exact⟨_,eN N ix g fr pi I Pl h1 M l h2 Z Y U hs,fun δ z T G0 H0 G H σ ts Q R0 k=>Yx R T R0 k⟩
def JY(N:vo)(ds:vc):Dv:=ds.map .d++List.replicate (N.length-ds.length) .no
def Ca(ps N:vo)(F:DF)(ds:vc):vg:=if ds.length=ps.length then(match F (JY N ds) with
 |some (.rt x)=>some x
 |some (.nx _)=>some .none
 |some (.rn xs)=>some zK
 |_=>none) else none
theorem Rw.start{N:vo}{ds:vc}{vs:vx}{G H:Hp}(d:Aq G ds vs)(e:AY G H):Rw G H G H xD (JY N ds) []:=by
 have M:=d.len;refine⟨AY.refl _,Nw.refl,e,AY.refl _,by simp[L2.start,JY,M],fun i x h=>?_,fun i xs h=>?_,fun i j xs ys _ h=>?_,fun q I=>by cases I⟩
 .unfold JY at h;by_cases hi:i<ds.length
  .rw[List.getElem?_append_left a6,xZ]at h;obtain⟨y,l,g⟩:=aC.mp h;cases g;obtain⟨v,T,R⟩:=d.get l;refine⟨v,?_,R⟩;unfold L2.start;rw[List.getElem?_append_left ll,xZ,T];rfl
  .rw[List.getElem?_append_right a6,List.getElem?_replicate]at h;split at h<;>cases h
 .unfold JY at h;by_cases hi:i<ds.length
  .rw[List.getElem?_append_left a6,xZ]at h;obtain⟨y,l,g⟩:=aC.mp h;cases g
  .rw[List.getElem?_append_right a6,List.getElem?_replicate]at h;split at h<;>cases h
 .unfold JY at h;by_cases hi:i<ds.length
  .rw[List.getElem?_append_left a6,xZ]at h;obtain⟨y,l,g⟩:=aC.mp h;cases g
  .rw[List.getElem?_append_right a6,List.getElem?_replicate]at h;split at h<;>cases h
def UZ{G H g H':Hp}{a:AD}{ys:vx}{xs:vc}(Z:AY G g)(Y:Nw G H g)(U:AY g H')(T:H a=none)(I:g a=none)(R:H' a=some KM)(M:Aq g xs ys):AY G (upd g a KM)/\Nw G H (upd g a KM)/\AY (upd g a KM) H'/\Du (upd g a KM) zK PZ:=by
 refine⟨Z.trans (B7 I _),fun b o l=>?_,fun b o l=>?_,?_⟩
 .by_cases z:b=a
  .subst z;exact .inr (.inl T)
  .rw[Ae z]at l;exact Y _ _ l
 .by_cases z:b=a
  .subst z;rw[An]at l;rw[R];exact l
  .rw[Ae z]at l;exact U _ _ l
 .rw[Du];exact⟨a,ys,rfl,An,M.same (B7 I _)⟩
def Hc{P:F0b}{w:F0c}{K:Fg}{mg:vf}{base:Heap}{x:Str}{st:Stmt}{M:AD}{fd:F0a}{N ps:vo}{k:Nat}{F:DF}(T:Fn K mg x st ps M fd)(S:Ap N ps vy) (hb:∀(cdv:VL) (A:F0d) (outer:v7) (s:SD) (H:Hp) (E:XK),CM k (A.deeper (envOfC x vy s.heap.objs.size M cdv))->JG (CJ A4 P w K mg base N x vy M cdv A outer s H E).EN (Cg st) F):Ah P w K mg base A4 ii M fd ps (BV (Ca ps N F)):=by
 refine T.F.ok S Tj fun cdv A outer s H vs Q E hr h=>?_
 .obtain⟨ds,y,G,g,l,_⟩:=h;unfold Ca at g;split at g
  .rename_i hl;rw[l.len];exact hl
  .cases g
 .obtain⟨ds,y,G,g,l,h3,h4⟩:=h;obtain⟨t,p,kk⟩:=hb cdv A outer s H E hr;refine⟨t,p,?_⟩;unfold Ca at g;split at g
  .split at g
   .rename_i z I;cases g;exact kk _ _ I G H G H _ _ (Rw.start l h3) fun v U H' m1 m2 m3 Z Y=>h4 v U H' m1 m2 m3 Z Y
   .rename_i δ I;cases g;exact kk _ _ I G H G H _ _ (Rw.start l h3) fun σ' U H' R=>h4 .BS U H' R.ext R.new R.ins R.keep GM
   .rename_i xs I;cases g;exact kk _ _ I G H G H _ _ (Rw.start l h3) fun a ys U H' m1 m2 m3 Z Y m6 m7 m8=>let⟨n1,n2,n3,n4⟩:=UZ m1 m2 m3 Y m6 m7 m8;h4 _ _ H' n1 n2 n3 Z n4
   .cases g
  .cases g
end
section
variable{X:Cx}{a b e:Expr}{f h:va}{pos p p2:Pos}   
def gr{x:Str}{i:Int}{tk:Tok}(g:y6)(hm:X.mg x=some (.int i tk))(hd:GE=false:=by decide):DE X wX (fun _=>some wN) :=
 ⟨_,DZ (v:=.int i) g hm ⟨tk,rfl⟩ hd,fun δ x h G0 H0 G H σ ts Q r k=>by cases h;exact k _ _ _ (r.put GM)⟩
def DO(X:Cx)(o:Option Expr)(f:Dv->Option vt):Prop:=∃t,PO X o t/\∀δ x,f δ=some x->∀G0 H0 G H σ ts (Q:Option Int->Hp->Prop),Rw G0 H0 G H σ δ ts->(∀g H',Rw G0 H0 g H' σ δ ts->Q x H')->t σ H Q
variable{fo fu:Dv->Option vt}{lo hi:Option Expr}
def Om:DO X none (fun _=>some none):=⟨_,kq,fun δ x h G0 H0 G H σ ts Q r k=>by cases h;exact k _ _ r⟩
def Ow(he:xT):DO X (some e) (fun δ=>(f δ).bind fun x=>(MH x).map some):=by
 obtain⟨t,p,k⟩:=he;refine⟨_,md p,fun δ z h G0 H0 G H σ ts Q r q=>?_⟩;obtain⟨x,R,M⟩:=aA.mp h;obtain⟨i,I,rfl⟩:=aC.mp M;have:=Ke I;subst this;refine k δ _ R G0 H0 G H σ ts _ r fun v T H' l=>?_;have g:=l.Aw _ EQ;rw[Du]at g;exact⟨i,g,q _ _ l.drop⟩
def cutD(xs:vc)(lo hi:vt):vc:=(xs.drop (HT.BZ xs.length 0 lo)).take mt
def Aq.cut{H:Hp}{ds:vc}{xs:vx}(h:Aq H ds xs)(lo hi:vt):Aq H (cutD ds lo hi) (Md xs lo hi):=by
 unfold cutD Md;rw[h.len];exact(h.drop _).take _
def gQ(x:PD)(lo hi:vt):vg:=match x with
 |.list xs=>some (.list (cutD xs lo hi))
 |.tuple xs=>if ¬bi then some (.tuple (cutD xs lo hi)) else none
 |_=>none
def P6(he:xT)(hl:DO X lo fo)(hh:DO X hi fu):DE X zW (fun δ=>(f δ).bind fun x=>(fo δ).bind fun l=>(fu δ).bind fun u=>gQ x l u):=by
 obtain⟨te,pe,ke⟩:=he;obtain⟨tl,Y,kl⟩:=hl;obtain⟨th,Z,kh⟩:=hh;refine⟨_,Vp (mE.or cQ) pe Y Z,fun δ z hz G0 H0 G H σ ts Q R0 k=>?_⟩;obtain⟨x,h1,h2⟩:=aA.mp hz;obtain⟨l,h3,h4⟩:=aA.mp h2;obtain⟨u,h5,g⟩:=aA.mp h4;refine ke δ x h1 G0 H0 G H σ ts _ R0 fun v G1 H1 R1=>?_;refine kl δ l h3 G0 H0 G1 H1 σ _ _ R1 fun G2 H2 R2=>?_;refine kh δ u h5 G0 H0 G2 H2 σ _ _ R2 fun G3 H3 I=>?_;have R:=I.Aw _ EQ;unfold gQ at g;split at g
 .cases g;rw[Du]at R;obtain⟨a,ys,rfl,T,M⟩:=R;exact .inl ⟨a,ys,rfl,BR.of (I.ins _ _ T),fun q U=>k _ _ _ (I.drop.JW (M.cut l u) U)⟩
 .split at g
  .rename_i hc;cases g;rw[Du]at R;obtain⟨a,ys,rfl,T,M⟩:=R;exact .inr ⟨a,ys,rfl,B2.of (I.ins _ _ T),by rw[M.len];exact hc,fun q U=>k _ _ _ (I.drop.SY (M.cut l u) U)⟩
  .cases g
 .cases g
def IP:List PD->Option (List Int)
 |[]=>some []
 |.int i::r=>(IP r).map fun l=>i::l
 |_::_=>none
def Aq.ints{H:Hp}:∀ {ds:wV} {xs:UF} {ns:mo},Aq H ds xs->IP ds=some ns->xs=ns.map V.int
 |[],xs,ns,h,e=>by cases e;rw[h.nil_eq];rfl
 |.int i::r,xs,ns,h,e=>by
  unfold IP at e;obtain⟨l,M,rfl⟩:=aC.mp e;obtain⟨x,q,rfl,g,I⟩:=h.un;rw[Du]at g;subst g;rw[xf,I.ints M]
 |.none::_,_,_,_,e=>by cases e
 |.bool _::_,_,_,_,e=>by cases e
 |.str _::_,_,_,_,e=>by cases e
 |.tuple _::_,_,_,_,e=>by cases e
 |.list _::_,_,_,_,e=>by cases e
 |.dict _::_,_,_,_,e=>by cases e
def QJ:MD
 |[.int i]=>some wN
 |[.bool b]=>some (.int (if b then 1 else 0))
 |_=>none
def RH:Hk X db QJ:=by
 refine⟨_,cG,fun xs z g G0 H0 G H σ δ ts us Q I d k=>?_⟩;unfold QJ at g;split at g
 .cases g;obtain⟨u,rfl,l⟩:=d.JM;rw[Du]at l;subst l;exact .inl ⟨_,rfl,k _ _ _ (I.put GM)⟩
 .cases g;obtain⟨u,rfl,l⟩:=d.JM;rw[Du]at l;subst l;exact .inr ⟨_,rfl,k _ _ _ (I.put GM)⟩
 .cases g
def Rf:MD
 |[.int i,.int j]=>some (.int (if j<i then j else i))
 |_=>none
def qw(M:dO):Hk X (.builtin "min") Rf:=by
 refine⟨_,cz M,fun xs z g G0 H0 G H σ δ ts us Q R d k=>?_⟩;unfold Rf at g;split at g
 .cases g;obtain⟨u,v,rfl,I,l⟩:=d.YF;rw[Du]at I l;subst I l;exact⟨_,_,rfl,k _ _ _ (R.put GM)⟩
 .cases g
end
open PySem
abbrev fC(x:PD):Dv->Option PD:=fun _=>some x
abbrev WM(f:My):Dv->Option PD:=fun δ=>(f δ).bind fun x=>(MH x).map fun i=>.int (-i)
abbrev vF(c:yM)(f g:My):Dv->Option PD:=fun δ=>(c δ).bind fun c=>if c=true then f δ else g δ
abbrev AG:Dv->Option zBo:=fun _=>some []
abbrev AB(f:My)(fs:io):Dv->Option zBo:=fun δ=>(f δ).bind fun x=>(fs δ).map fun xs=>x::xs
abbrev Ie(fs:io):Dv->Option PD:=fun δ=>((fs δ).bind CH).map .tuple
abbrev Ce(fs:io):Dv->Option PD:=fun δ=>((fs δ).bind CH).map .list
abbrev AK(m:MD)(fs:io):Dv->Option PD:=fun δ=>(fs δ).bind m
abbrev SJ(q:PD->Bool)(f:My):Dv->Option PD:=fun δ=>(f δ).bind (ZS q)
abbrev Fm(i:Nat):Dv->Option PD:=fun δ=>(ow i δ).map fun xs=>.int xs.length
abbrev Rj(i:Nat)(g:My):Dv->Option PD:=fun δ=>(g δ).bind fun y=>(ow i δ).bind fun xs=>(MH y).bind fun k=>D8 xs k
abbrev Ju:Dv->Option (Option Int):=fun _=>some none
abbrev Jr(f:My):Dv->Option (Option Int):=fun δ=>(f δ).bind fun x=>(MH x).map some
abbrev QU(f:My)(I g:Dv->Option (Option Int)):Dv->Option PD:=fun δ=>(f δ).bind fun x=>(I δ).bind fun l=>(g δ).bind fun u=>gQ x l u
abbrev E6(f:My):Dv->Option Bool:=fun δ=>(f δ).bind Nf
abbrev AR(o:ms)(f g:My):Dv->Option Bool:=fun δ=>(AF o f g δ).bind Nf
abbrev GU(f:yM):Dv->Option Bool:=fun δ=>(f δ).map fun c=>!c
abbrev Lm(f g:yM):Dv->Option Bool:=fun δ=>(f δ).bind fun c=>if c=true then g δ else some false
abbrev Co(f g:yM):Dv->Option Bool:=fun δ=>(f δ).bind fun c=>if c=true then some true else g δ
abbrev Di(f:My):Dv->Option zBo:=fun δ=>(f δ).bind Jp
abbrev Cn(m:List PD->Option zBo)(fs:io):Dv->Option zBo:=fun δ=>(fs δ).bind m
abbrev Dl:Dv->Option Bool:=fun _=>some true
abbrev GX(i:Nat):PD->Dv->Option Dv:=fun y δ=>some wZ
abbrev BH:DF:=fun δ=>some (.nx δ)
abbrev A9(f:My):DF:=fun δ=>(f δ).map .rt
abbrev CI(c:yM)(F G:DF):DF:=fun δ=>(c δ).bind fun c=>if c=true then F δ else G δ
abbrev Am(i:Nat)(f:My):DF:=fun δ=>(f δ).map fun y=>.nx wZ
abbrev SQ(i:Nat)(fs:io):DF:=fun δ=>((fs δ).bind CH).map fun ys=>.nx (δ.set i (.own KM))
abbrev Vh(i:Nat)(f:My):DF:=fun δ=>(f δ).bind fun y=>(ow i δ).bind fun xs=>if xs.length<CQ then some (.nx (δ.set i (.own (.lst (xs++[y]))))) else none
abbrev iX(i:Nat)(f:My):DF:=fun δ=>(f δ).bind fun y=>(ow i δ).bind fun xs=>match y with|.list g=>(if xs.length+g.length<=CQ then some (.nx (δ.set i (.own (.lst (xs++g))))) else none)|_=>none
abbrev Es(fs:io)(set:XN)(F:DF):DF:=fun δ=>(fs δ).bind fun xs=>ER set F xs δ
abbrev Mi(i:Nat)(F:DF):DF:=fun δ=>F (Ey i δ)
def X3{P:F0b}{w:F0c}{K:Fg}{mg:vf}{base:Heap}{CX:Gh}{k:Nat}{f:AD}{fd:F0a}{ps:vo}{sp:Sp}{m:MD}(F:yQ) (h:∀ds x,m ds=some x->∀(G H:Hp) (vs:vx) (Q:VK) (E:XK),Aq G ds vs->AY G H->(∀v g H',AY G g->Nw G H g->AY g H'->AY H H'->Du g x v->Q v H')->sp vs H Q E):Ah P w K mg base CX k f fd ps (BV m) :=
 F.imp fun vs H Q E z=>by
  obtain⟨ds,x,G,R,M,I,l⟩:=z;exact h ds x R G H vs Q E M I l
def CP(G H:Hp):Hp:=fun a=>match H a with
 |some (.tup xs)=>some Pt
 |_=>G a
section
variable{G0 H0 G H:Hp}{σ:St}{δ:Dv}{ts:Of}
def Rw.CP(r:Gf):Rw G0 H0 (L2.CP G H) H σ δ ts:=by
 have e:AY G (L2.CP G H):=fun a o h=>by
  unfold L2.CP;split
  .rename_i xs g;rw[r.ins _ _ h]at g;exact g.symm ▸ rfl
  .exact h
 refine⟨r.ext.trans e,fun a o h=>?_,fun a o h=>?_,r.keep,r.len,fun i x h=>?_,fun i xs h=>?_,r.apart,fun q U=>(r.Aw q U).same e⟩
 .unfold L2.CP at h;split at h
  .cases h;exact .inr (.inr ⟨_,rfl⟩)
  .exact r.new _ _ h
 .unfold L2.CP at h;split at h
  .rename_i xs g;rw[g];exact h
  .exact r.ins _ _ h
 .obtain⟨v,I,l⟩:=r.dat i x h;exact⟨v,I,l.same e⟩
 .obtain⟨a,ys,I,l,T,R,M⟩:=r.own i xs h;refine⟨a,ys,I,?_,T,R,M.same e⟩;unfold L2.CP;rw[R];split
  .rename_i q;cases q;exact M.P4.elim
  .exact l
end
section
variable{X:Cx}{a e:Expr}{f g h:va}{pos:Pos}
def oT(x k:PD):vg:=match x,k with
 |.list xs,.int i=>if i=-1 then some (.list xs.reverse) else none
 |_,_=>none
abbrev Ym(f g:My):Dv->Option PD:=AF oT f g
def nG{T:Pos}{k:Expr}(he:xT)(hk:DE X k g):DE X (.Subscript e (.Slice none none (some k) T) pos) (Ym f g):=by
 obtain⟨te,pe,ke⟩:=he;obtain⟨tk,R,Z⟩:=hk;refine⟨_,ou pe R,fun δ z hz G0 H0 G H σ ts Q R0 k=>?_⟩;obtain⟨x,y,h1,h2,l⟩:=two (x:=.none) (y:=.none) hz;refine ke δ x h1 G0 H0 G H σ ts _ R0 fun u G1 H1 R1=>?_;refine Z δ y h2 G0 H0 G1 H1 σ _ _ R1 fun v G2 H2 R2=>?_;have M:=R2.Aw (x,u) zBA;have I:=R2.Aw (y,v) EQ;unfold oT at l;split at l
 .split at l
  .rename_i hi;cases l;subst hi;rw[Du]at M;rw[Du]at I;obtain⟨a,ys,rfl,Y,U⟩:=M;exact⟨a,ys,rfl,I,BR.of (R2.ins _ _ Y),fun q hq=>k _ _ _ (R2.drop.drop.JW U.rev hq)⟩
  .cases l
 .cases l
abbrev Sg(i:Nat)(f g:My):DF:=fun δ=>(f δ).bind fun y=>(g δ).bind fun k=>(ow i δ).bind fun xs=>(MH k).bind fun n=>(IC xs.length n).map fun j=>.nx (δ.set i (.own (.lst (xs.set j y))))
theorem Aq.set{H:Hp}{d:PD}{v:V}(hd:Du H d v):∀ {ds:wV} {xs:UF} (j:Nat),Aq H ds xs->Aq H (ds.set j d) (xs.set j v)
 |[],_,_,h=>by rw[h.nil_eq];exact .nil
 |_::_,_,0,h=>by obtain⟨x,r,rfl,_,l⟩:=h.un;exact .cons hd l
 |_::_,_,j+1,h=>by obtain⟨x,r,rfl,I,l⟩:=h.un;exact .cons I (Aq.set hd j l)
def Zo{i:Nat}{x:Str}{np sp:Pos}(hv:zBO)(hk:DE X a g)(he:xT) (hP:∀ {l M T:TE},PE X e l->PE X L0 M->PE X a T->PS X zBM (J8 l (YS M T UG))):DS X zBM (Sg i f g):=by
 obtain⟨l,pe,ke⟩:=he;obtain⟨tk,pk,kk⟩:=hk;refine⟨_,hP pe hv pk,fun δ r h G0 H0 G H σ D R q=>?_⟩;obtain⟨y,h1,h2⟩:=aA.mp h;obtain⟨n,h3,h4⟩:=aA.mp h2;obtain⟨xs,h5,h6⟩:=aA.mp h4;obtain⟨m,h7,h8⟩:=aA.mp h6;obtain⟨j,h9,rfl⟩:=aC.mp h8;have:=Ke h7;subst this;have hi:=Hw h5;refine ke δ y h1 G0 H0 G H σ [] _ R fun u G1 H1 R1=>?_;obtain⟨ad,_,I,k2,k3,k4,⟨ys,rfl,k5⟩⟩:=R1.own i _ hi;refine⟨.ref ad,I,?_⟩;refine kk δ _ h3 G0 H0 G1 H1 σ _ _ R1 fun v G2 H2 R2=>?_;have Z:=R2.Aw (.int m,v) EQ;rw[Du]at Z;obtain⟨ad',_,Y,m2,m3,m4,⟨zs,rfl,U⟩⟩:=R2.own i _ hi;rw[I]at Y;cases Y;refine⟨ad,zs,m,j,rfl,Z,m4,by rw[U.len];exact h9,?_⟩;exact q _ _ _ (R2.drop.drop.K0 hi I ⟨_,rfl,U.set (R2.Aw (y,u) zBA) j⟩)
end
def Yk:PD->Option Key
 |.int i=>some (.inl i)
 |.str x=>some (.inr x)
 |_=>none
def Kx:List PD->Option (List Key)
 |[]=>some []
 |d::r=>(Yk d).bind fun k=>(Kx r).map fun q=>k::q
def Sw:PD->Option (List Key)
 |.tuple ds=>Kx ds
 |_=>none
def mq{G:Hp}{d:PD}{v:V}{k:Key}(h:Du G d v)(e:Yk d=some k):v=kV k:=by
 unfold Yk at e;split at e
 .cases e;rw[Du]at h;exact h
 .cases e;rw[Du]at h;exact h
 .cases e
theorem WQ{G:Hp}:∀ {ds:wV} {xs:UF} {ks:xj},Aq G ds xs->Kx ds=some ks->xs=ks.map kV
 |[],xs,ks,h,e=>by cases e;rw[h.nil_eq];rfl
 |d::ds,xs,ks,h,e=>by
  unfold Kx at e;obtain⟨k,R,M⟩:=aA.mp e;obtain⟨q,I,rfl⟩:=aC.mp M;obtain⟨x,r,rfl,l,g⟩:=h.un;rw[xf,mq l R,WQ g I]
def Xx{G:Hp}{d:PD}{v:V}{ks:xj}(h:Du G d v)(e:Sw d=some ks):∃b,v=.ref b/\G b=some (.tup (ks.map kV)):=by
 unfold Sw at e;split at e
 .rw[Du]at h;obtain⟨a,xs,rfl,l,g⟩:=h;exact⟨a,rfl,by rw[<-WQ g e];exact l⟩
 .cases e
def Ru(kvs:Sc)(k:xj):vg:=(kvs.find? fun g=>decide (g.1=k)).map zm
def putD(kvs:Sc)(k:xj)(v:PD):List (List Key×PD) :=
 if yY=true then kvs.map (fun g=>if g.1=k then(g.1,v) else g) else kvs++[(k,v)]
theorem Cb.val{G:Hp}{k:xj}:∀ {t:Sc} {r:NE},Cb G t r->(match Ru t k with|some d=>∃v,Ht r k=some v/\Du G d v|none=>Ht r k=none)
 |[],r,h=>by rw[Cb]at h;subst h;rfl
 |q::t,r,h=>by
  obtain⟨v,M,rfl,I,l⟩:=h;have g:=Cb.val (k:=k) l;unfold Ru Ht at g ⊢;by_cases e:q.1=k
  .simp only[List.find?_cons,e,decide_true,Option.map_some];exact⟨v,rfl,I⟩
  .simp only[List.find?_cons,e,decide_false];exact g
theorem Cb.app{G:Hp}{k:xj}{d:PD}{v:V}(hd:Du G d v):∀ {t:Sc} {r:NE},Cb G t r->Cb G (t++[(k,d)]) (r++[(k,v)])
 |[],r,h=>by rw[Cb]at h;subst h;exact⟨v,[],rfl,hd,rfl⟩
 |q::t,r,h=>by
  obtain⟨u,I,rfl,l,g⟩:=h;exact⟨u,_,rfl,l,Cb.app hd g⟩
theorem Cb.any{G:Hp}{k:xj}:∀ {t:Sc} {r:NE},Cb G t r->(r.any fun g=>decide (g.1=k))=(t.any fun g=>decide (g.1=k))
 |[],r,h=>by rw[Cb]at h;subst h;rfl
 |q::t,r,h=>by
  obtain⟨u,I,rfl,M,l⟩:=h;simp only[List.any_cons,Cb.any l]
theorem Cb.over{G:Hp}{k:xj}{d:PD}{v:V}(hd:Du G d v):∀ {t:Sc} {r:NE},Cb G t r->Cb G (t.map fun g=>if g.1=k then(g.1,d) else g) (r.map fun g=>if g.1=k then(g.1,v) else g)
 |[],r,h=>by rw[Cb]at h;subst h;rfl
 |q::t,r,h=>by
  obtain⟨u,M,rfl,I,l⟩:=h;by_cases e:q.1=k
  .simp only[List.map_cons,e,if_true];exact⟨v,_,rfl,hd,Cb.over hd l⟩
  .simp only[List.map_cons,e,if_false];exact⟨u,_,rfl,I,Cb.over hd l⟩
def Cb.put{G:Hp}{k:xj}{d:PD}{v:V}{t:Sc}{r:NE}(hd:Du G d v)(h:Cb G t r):Cb G (putD t k d) (putK r k v):=by
 unfold putD putK;rw[h.any (k:=k)];split
 .exact h.over hd
 .exact h.app hd
def Cb.len{G:Hp}:∀ {t:Sc} {r:NE},Cb G t r->r.length=t.length
 |[],r,h=>by rw[Cb]at h;subst h;rfl
 |q::t,r,h=>by
  obtain⟨u,l,rfl,I,g⟩:=h;simp[g.len]
def Cf(i:Nat)(δ:Dv):Option (List (List Key×PD)):=match δ[i]? with
 |some (.own (.Cf kvs))=>some kvs
 |_=>none
def Qv{i:Nat}{δ:Dv}{kvs:Sc}(h:Cf i δ=some kvs):δ[i]? = some ss:=by
 unfold Cf at h;split at h
 .rename_i y e;cases h;exact e
 .cases h
section
variable{X:Cx}{a b e:Expr}{f g h:va}{pos:Pos}
abbrev gz(i:Nat):DF:=fun δ=>some (.nx (δ.set i (.own (.Cf []))))
def qv{i:Nat}{x:Str}{I dp:Pos}(Y:nn)(hi:X.N[i]? = some x)(M:we)(hs:swapsWith (.Dict [] [] dp) (some (.Name x I)) pos.line X.env=pure false:=by rfl)(U:X.fn x=true\/X.env.scope.names.lookup x=some .local:=by first|exact .inl rfl|exact .inr rfl|assumption):DS X (.Assign [.Name x I] (.Dict [] [] dp) pos) (gz i):=by
 refine⟨_,D9 Y hi M gA hs U,fun δ r h G0 H0 G H σ D R q=>?_⟩;cases h;exact fun l T=>q _ _ _ (R.Lz (xs:=.Cf []) ⟨[],rfl,rfl⟩ T)
abbrev VS(i:Nat)(f g:My):DF:=fun δ=>(f δ).bind fun y=>(g δ).bind fun k=>(Cf i δ).bind fun kvs=>(Sw k).bind fun q=>if kvs.length<CQ then some (.nx (δ.set i (.own (.Cf (putD kvs q y))))) else none
def lQ{i:Nat}{x:Str}{np sp:Pos}(hv:zBO)(hk:DE X a g)(he:xT) (hP:∀ {l T U:TE},PE X e l->PE X L0 T->PE X a U->PS X zBM (jk T U l)):DS X zBM (VS i f g):=by
 obtain⟨l,pe,ke⟩:=he;obtain⟨tk,pk,kk⟩:=hk;refine⟨_,hP pe hv pk,fun δ r h G0 H0 G H σ D R q=>?_⟩;obtain⟨y,h1,h2⟩:=aA.mp h;obtain⟨k,h3,h4⟩:=aA.mp h2;obtain⟨kvs,h5,h6⟩:=aA.mp h4;obtain⟨ks,h7,M⟩:=aA.mp h6;split at M
 .rename_i hl;cases M;have hi:=Qv h5;refine ke δ y h1 G0 H0 G H σ [] _ R fun u G1 H1 R1=>?_;obtain⟨ad,_,I,k2,k3,k4,⟨r1,rfl,k5⟩⟩:=R1.own i _ hi;refine⟨.ref ad,I,?_⟩;refine kk δ _ h3 G0 H0 G1 H1 σ _ _ R1 fun v G2 H2 R2=>?_;obtain⟨b,rfl,hb⟩:=Xx (R2.Aw (k,v) EQ) h7;obtain⟨ad',_,Z,m2,m3,m4,⟨r2,rfl,Y⟩⟩:=R2.own i _ hi;rw[I]at Z;cases Z;refine⟨ad,_,rfl,Vu.t m4 (R2.ins _ _ hb) (ML (by rw[Y.len];lia)),?_⟩;exact q _ _ _ (R2.drop.drop.K0 (xs':=.Cf (putD kvs ks y)) hi I ⟨_,rfl,Y.put (R2.Aw (y,u) zBA)⟩)
 .cases M
abbrev UH(i:Nat)(g:My):Dv->Option PD:=fun δ=>(g δ).bind fun k=>(Cf i δ).bind fun kvs=>(Sw k).bind fun q=>Ru kvs q
def mx{i:Nat}{x:Str}{np:Pos}(hu:X.A.units+1<cLine)(l:zBO)(hk:DE X a g)(hs:gJ a):DE X (.Subscript L0 a pos) (UH i g):=by
 obtain⟨tk,U,kk⟩:=hk;refine⟨_,kJ hu l U hs,fun δ z hz G0 H0 G H σ ts Q T k=>?_⟩;obtain⟨y,h1,h2⟩:=aA.mp hz;obtain⟨kvs,h3,h4⟩:=aA.mp h2;obtain⟨ks,h5,h6⟩:=aA.mp h4;have hi:=Qv h3;obtain⟨ad,_,R,k2,k3,k4,⟨r1,rfl,k5⟩⟩:=T.own i _ hi;refine⟨.ref ad,R,?_⟩;refine kk δ _ h1 G0 H0 G H σ ts _ T fun v G1 H1 I=>?_;obtain⟨b,rfl,hb⟩:=Xx (I.Aw (y,v) EQ) h5;obtain⟨ad',_,M,m2,m3,m4,⟨r2,rfl,m5⟩⟩:=I.own i _ hi;rw[R]at M;cases M;have l:=m5.val (k:=ks);rw[h6]at l;obtain⟨w,Z,Y⟩:=l;exact⟨ad,w,rfl,by rw[<-Z];exact SW.t m4 (I.ins _ _ hb),k _ _ _ (I.drop.put Y)⟩
end
def fx:L->L
 |.own (.lst xs)=>.d zK
 |.own (.Vb kvs)=>.d (UI kvs)
 |.own _=>.no
 |l=>l
def IA(δ:Dv):Dv:=δ.map fx
section
variable{G0 H0 G H:Hp}{σ:St}{δ:Dv}{ts:Of}
def Rw.IA(r:Gf):Rw H H H H σ (L2.IA δ) ts:=by
 refine⟨AY.refl _,fun _ _ h=>.inl h,AY.refl _,AY.refl _,by rw[L2.IA,wk];exact r.len,fun i x h=>?_,fun i xs h=>?_,fun i j xs ys _ h=>?_,fun q hq=>(r.Aw q hq).same r.ins⟩
 .unfold L2.IA at h;rw[xZ]at h;obtain⟨l,R,g⟩:=aC.mp h;unfold fx at g;split at g
  .rename_i xs;cases g;obtain⟨a,_,M,Y,k3,U,⟨ys,rfl,T⟩⟩:=r.own i _ R;refine⟨.ref a,M,?_⟩;rw[Du];exact⟨a,ys,rfl,U,T.same r.ins⟩
  .rename_i kvs;cases g;obtain⟨a,_,M,Y,k3,U,⟨Z,rfl,T,k6⟩⟩:=r.own i _ R;refine⟨.ref a,M,?_⟩;rw[Du,LC];exact .inr (.inr ⟨rfl,rfl,a,Z,rfl,U,T,L8.same r.ins k6⟩)
  .cases g
  .subst g;obtain⟨v,M,Y⟩:=r.dat i x R;exact⟨v,M,Y.same r.ins⟩
 all_goals
  unfold L2.IA at h;rw[xZ]at h;obtain⟨l,R,g⟩:=aC.mp h;unfold fx at g;split at g
  .cases g
  .cases g
  .cases g
  .rename_i n1 n3 n2;subst g;cases xs with
   |lst I=>exact(n1 I rfl).elim
   |Vb I=>exact(n3 I rfl).elim
   |Cf I=>exact(n2 (.Cf I) rfl).elim
def Rw.on{H':Hp}(r:Gf)(e:AY H H'):Rw G0 H0 G H' σ δ ts:=r.lift (AY.refl _) Nw.refl (r.ins.trans e) e
end
section
variable{X:Cx}{e:Expr}{f h:va}{fa:vb}{p:Pos}
abbrev Zd(f:yM):Dv->Option Bool:=fun δ=>f (IA δ)
def kT(h:DT X e fa):DT X e (Zd fa):=by
 obtain⟨t,p,k⟩:=h;refine⟨t,p,fun δ z g G0 H0 G H σ ts Q R q=>?_⟩;exact k _ z g H H H H σ ts Q R.IA fun I H' l=>q _ _ (R.on l.keep)
end
section
variable{F F1 F2:DF}{δ δ':Dv}{r:Option Ou}{c:vb}{f g:va}{fs:vZ}
def AH(h:F1 δ=some zf)(k:F2 δ'=r):AN F1 F2 δ=r:=by unfold AN;rw[h];exact k
def BW{x:PD}(h:F1 δ=some (.rt x)):AN F1 F2 δ=some (.rt x):=by unfold AN;rw[h]
def BO(h:c δ=some true)(k:F1 δ=r):CI c F1 F2 δ=r:=by show(c δ).bind _=r;rw[h];exact k
def BC(h:c δ=some false)(k:F2 δ=r):CI c F1 F2 δ=r:=by show(c δ).bind _=r;rw[h];exact k
def AU{i:Nat}{y:PD}(h:f δ=some y):Am i f δ=some (.nx wZ):=by show(f δ).map _=_;rw[h];rfl
def B4{y:PD}(h:f δ=some y):A9 f δ=some (.rt y):=by show(f δ).map _=_;rw[h];rfl
def AI{o:ms}{x y:PD}{z:vg}(M:f δ=some x)(I:g δ=some y)(l:o x y=z):AF o f g δ=z:=by unfold AF;rw[M,I];exact l
def AX{m:MD}{xs:vc}{z:vg}(I:yc)(l:m xs=z):AK m fs δ=z:=by show(fs δ).bind m=z;rw[I];exact l
def AQ{x:PD}{xs:vc}(I:f δ=some x)(l:yc):AB f fs δ=some (x::xs):=by show(f δ).bind _=_;rw[I];show(fs δ).map _=_;rw[l];rfl
def O9{xs:vc}(h:yc)(l:xs.length<=CQ):Ce fs δ=some zK:=by show((fs δ).bind CH).map _=_;rw[h];show(CH xs).map _=_;unfold CH;rw[if_pos l];rfl
def Jz{xs:vc}(h:yc)(l:xs.length<=CQ):Ie fs δ=some (.tuple xs):=by show((fs δ).bind CH).map _=_;rw[h];show(CH xs).map _=_;unfold CH;rw[if_pos l];rfl
def Af{o:ms}{x y:PD}{b:Bool}(M:f δ=some x)(I:g δ=some y)(l:o x y=some (.bool b)):AR o f g δ=some b:=by show(AF o f g δ).bind Nf=_;rw[AI M I l];rfl
def BP{a b:vb}{q:Option Bool}(h:a δ=some false)(k:b δ=q):Co a b δ=q:=by show(a δ).bind _=q;rw[h];exact k
def EL{a b:vb}(h:a δ=some true):Co a b δ=some true:=by show(a δ).bind _=_;rw[h];rfl
def EW{a:vb}{b:Bool}(h:a δ=some b):GU a δ=some (!b):=by show(a δ).map _=_;rw[h];rfl
def Ea{b:Bool}(h:f δ=some (.bool b)):E6 f δ=some b:=by show(f δ).bind Nf=_;rw[h];rfl
theorem VO{set:XN}(M:Nat->Dv->Prop):∀(xs:wV) (δ:Dv) (n:Nat),M n δ->(∀(i:Nat) (x:PD) (δ:Dv),xs[i]? = some x->M (n+i) δ->∃I l,set x δ=some I/\F I=some (.nx l)/\M (n+i+1) l) ->
  ∃δ',ER set F xs δ=some zf/\M (n+xs.length) δ'
 |[],δ,n,h,_=>⟨δ,rfl,h⟩
 |x::xs,δ,n,h,k=>by
  obtain⟨I,l,h1,h2,Z⟩:=k 0 x δ rfl h;obtain⟨δ',Y,U⟩:=VO M xs l (n+1) Z fun i y δ R T=>by
   have:=k Pi y δ (by simpa using R) (by rw[show n+Pi=n+1+i by lia];exact T);rw[show n+Pi+1=n+1+i+1 by lia]at this;exact this
  refine⟨δ',?_,by rw[(Fv),show n+(xs.length+1)=n+1+xs.length by lia];exact U⟩;unfold ER;rw[h1,zo,h2];exact Y
def Mu{set:XN}{xs:vc}(M:Nat->Dv->Prop)(R:yc)(h0:M 0 δ)(hs:∀(i:Nat) (x:PD) (δ:Dv),xs[i]? = some x->M i δ->∃I l,set x δ=some I/\F I=some (.nx l)/\M Pi l):∃δ',Es fs set F δ=some zf/\M xs.length δ':=by
 obtain⟨δ',Y,U⟩:=VO (F:=F) (set:=set) M xs δ 0 h0 fun i x δ R T=>by
  have:=hs i x δ R (by simpa using T)
  simpa using this
 refine⟨δ',?_,by simpa using U⟩;show(fs δ).bind _=_;rw[R];exact Y
end
def CF{ps N:vo}{F:DF}{ds:vc}{x:PD}(g:zAg)(h:F (JY N ds)=some (.rt x)):Ca ps N F ds=some x:=by unfold Ca;rw[if_pos g,h]
def O3{lo:Int}{n i:Nat}{x:PD}(h:(D3 lo n)[i]? = some x):x=.int (lo+(i:Nat))/\i<n:=by
 unfold D3 at h;rw[xZ]at h;obtain⟨j,g,rfl⟩:=aC.mp h;have l:=(aF.mp g).1;rw[List.getElem?_range oF]at g;cases g;exact⟨rfl,by simpa using l⟩
def Kh{δ:Dv}{f:va}{j:Int}(h:f δ=some (.int j))(h0:-1000000<=j)(g:j<=1000000):Cn ES (AB f AG) δ=some (D3 0 j.toNat):=by
 show(AB f AG δ).bind ES=_;rw[AQ h (show AG δ=some [] from rfl)];exact if_pos ⟨h0,g⟩
def bp{n:Nat}{i:Int}(h:i.natAbs<2^n):Ij n i=true:=aX h
def qH{i j:Int}(h:Qw i j=true):FG wN (.int j)=some (.int (i*j)):=by
 show HX ZJ Lc wN (.int j)=_;unfold HX;rw[show ZJ wN (.int j)=some (.int (i*j)) from if_pos h]
def mul_r{i j:Int}(h:j.natAbs<2^64):FG wN (.int j)=some (.int (i*j)):=qH (by unfold Qw;rw[bp h];simp)
def mod_is{i j:Int}(h:0<j):A7 wN (.int j)=some (.int (i % j)):=by
 show(if j≠0 then some (PyData.int (i.fmod j)) else none)=_;rw[if_pos AC,Int.fmod_eq_emod_of_nonneg _ AC]
def pR{i:Int}{n:Nat}(hn:n<=1000)(hi:Ij 64 i=true):VY wN (.int (n:Int))=some (.int (i^n)):=by
 show(if 0<=(n:Int)/\(n:Int)<=1000/\Ij 64 i=true then some (PyData.int (i^(n:Int).toNat)) else none)=_;rw[if_pos ⟨by lia,by lia,hi⟩,(FP)]
def OW(C:AD):PD:=.dict [(.int (C:Nat),.none)]
def E7(ns:vj):PD:=.dict [(.none,.list (ns.map .int))]
def ng{H:Hp}{a:AD}{ns:vj}(h:Rd H a (.lst wC)):Du H (E7 ns) PZ:=by unfold E7;rw[Du];exact .inr (.inl ⟨a,ns,rfl,rfl,h⟩)
def UQ(K:Fg):Bool:=K.all fun p=>match p.2.cls with|.type n=>n != "list" |_=>true
theorem Pd{a:AD}{o:Obj}:∀ {K:Fg},K.lookup a=some o->(a,o)∈K
 |[],h=>by cases h
 |(b,u)::K,h=>by
  rw[(Ni)]at h;split at h
  .rename_i e;cases h;rw[show a=b from by simpa using e];exact .head _
  .exact .tail _ (Pd h)
def rF{K:Fg}{H:Hp}{a:AD}{xs:vx}(g:UQ K=true)(h:BR K H a xs):Rd H a SB:=by
 rcases h with h|⟨o,l,n,M,I,_⟩
 .exact h
 .unfold UQ at g;rw[(Ib)]at g;have:=g _ (Pd M);rw[I]at this;exact absurd this AS
abbrev Xr:=PD ⊕ AD
abbrev rW:=List PD->Option Xr
def Kb(g:rW):Sp:=fun vs H Q E=>∃ds r G,g ds=some r/\Aq G ds vs/\AY G H/\match r with
 |.inl x=>∀v l H',AY G l->Nw G H l->AY l H'->AY H H'->Du l x v->Q v H'
 |.inr C=>∀H',AY H H'->E OL none H'
abbrev jK:=Ou ⊕ AD
abbrev F0:=Dv->Option jK
def YL(G0 H0:Hp)(D:Ends)(E:XK):jK->Prop
 |.inl o=>Fin G0 H0 D o
 |.inr C=>∀H',AY H0 H'->E OL none H'
def DX(X:Cx)(E:XK)(st:Stmt)(F:F0):Prop:=∃t,PS X st t/\∀δ r,F δ=some r->∀G0 H0 G H σ D,Rw G0 H0 G H σ δ []->YL G0 H0 D E r->t D σ H
def OE(X:Cx)(E:XK)(g:v5)(F:F0):Prop:=∃t,HY X g t/\∀δ r,F δ=some r->∀G0 H0 G H σ D,Rw G0 H0 G H σ δ []->YL G0 H0 D E r->t D σ H
section
variable{X:Cx}{E:XK}{b c e:Expr}{es:vp}{f h:va}{fs:vZ}{fa:vb}{pos p:Pos}{st:Stmt}{sts sts':v5}{F:DF}{J J1 J2:F0}
def ir{t:TS}(h:HY X.EN sts t):HY X sts t:=fun pins s σ H D I k=>aM zX (fun _ _ z=>z.DM) fun _ _ z=>z.elim
def qa{t:TS}(h:PS X.EN st t):PS X st t:=fun pins s σ H D I k=>aM zX (fun _ _ z=>z.DM) fun _ _ z=>z.elim
def pq{t:TE}(h:PE X.EN e t):PE X e t:=fun pins s σ H Q I k=>aM (h pins s σ H Q (I.EU _) k) (fun _ _ ⟨v,H',g,r,q⟩=>⟨v,H',g.DM,r,q⟩) fun _ _ z=>z.elim
def qu{t:TT}(h:PT X.EN e t):PT X e t:=fun pins s σ H Q I k=>aM (h pins s σ H Q (I.EU _) k) (fun _ _ ⟨H',g,q⟩=>⟨H',g.DM,q⟩) fun _ _ z=>z.elim
def cJ{t:TA}(h:PA X.EN es t):PA X es t:=fun p pins s σ H Q I k=>aM (h p pins s σ H Q (I.EU _) k) (fun _ _ ⟨v,H',g,r,q⟩=>⟨v,H',g.DM,r,q⟩) fun _ _ z=>z.elim
abbrev Qo(F:DF):F0:=fun δ=>(F δ).map .inl
def jm(h:DS X.EN st F):DX X E st (Qo F):=by
 obtain⟨t,p,k⟩:=h;refine⟨t,qa p,fun δ r h G0 H0 G H σ D R q=>?_⟩;obtain⟨o,g,rfl⟩:=aC.mp h;exact k δ o g G0 H0 G H σ D R q
def cA(h:JG X.EN sts F):OE X E sts (Qo F):=by
 obtain⟨t,p,k⟩:=h;refine⟨t,ir p,fun δ r h G0 H0 G H σ D R q=>?_⟩;obtain⟨o,g,rfl⟩:=aC.mp h;exact k δ o g G0 H0 G H σ D R q
def IB(J1 J2:F0)(δ:Dv):Option jK:=match J1 δ with
 |some (.inl (.nx g))=>J2 g
 |o=>o
def R9:OE X E [] (fun δ=>some (.inl (.nx δ))):=⟨_,Dq,fun δ r h G0 H0 G H σ D R k=>by cases h;exact k _ _ _ R⟩
def O8(h:DX X E st J):OE X E [st] J:=by
 obtain⟨t,p,k⟩:=h;exact⟨t,Bf p,k⟩
def P8(Z:DX X E st J1)(Y:OE X E sts J2):OE X E (st::sts) (IB J1 J2):=by
 obtain⟨t1,T,l⟩:=Z;obtain⟨t2,M,U⟩:=Y;refine⟨_,B0 T M,fun δ r h G0 H0 G H σ D R q=>?_⟩;unfold IB at h;split at h
 .rename_i g e1;exact l δ _ e1 G0 H0 G H σ _ R fun I G' H' R'=>U g r h G0 H0 G' H' I D R' q
 .rename_i o hn;cases r with
  |inr C=>exact l δ _ h G0 H0 G H σ _ R q
  |inl o'=>
   cases o' with
   |nx g=>exact absurd h (hn g)
   |rt x=>exact l δ _ h G0 H0 G H σ _ R q
   |bk x=>exact l δ _ h G0 H0 G H σ _ R q
   |ct x=>exact l δ _ h G0 H0 G H σ _ R q
   |rn x=>exact l δ _ h G0 H0 G H σ _ R q
abbrev XA(c:yM)(J1 J2:F0):F0:=fun δ=>(c δ).bind fun b=>if b=true then J1 δ else J2 δ
def Y7(hc:DT X.EN c fa)(h1:OE X E sts J1)(h2:OE X E sts' J2):DX X E (.If c sts sts' pos) (XA fa J1 J2):=by
 obtain⟨tc,pc,Z⟩:=hc;obtain⟨t1,Y,k1⟩:=h1;obtain⟨t2,U,k2⟩:=h2;refine⟨_,Fx (qu pc) Y U,fun δ r h G0 H0 G H σ D R q=>?_⟩;obtain⟨b,h3,g⟩:=aA.mp h;refine Z δ _ h3 G0 H0 G H σ [] _ R fun T M I=>?_;split
 .rename_i l;rw[if_pos l]at g;exact k1 δ r g G0 H0 T M σ D I q
 .rename_i l;rw[if_neg l]at g;exact k2 δ r g G0 H0 T M σ D I q
abbrev Q1(C:AD)(f:My):F0:=fun δ=>(f δ).map fun _=>.inr C
def QV{x:Str}{C:AD}{np l:Pos}(T:Exc X.K X.mg x C)(U:Lets X E)(he:DE X.EN e f)(g:X.calm=true:=by rfl)(M:Gl X x:=by rfl)(hd:GE=false:=by decide) (I:starEach [e] X.env=[Ev]:=by rfl):DX X E (.Raise (some (.Call L0 [e] [] l)) none pos) (Q1 C f):=by
 obtain⟨t,p,k⟩:=he;refine⟨_,iP T U g M (pq p) hd I,fun δ r h G0 H0 G H σ D R q=>?_⟩;obtain⟨y,Y,rfl⟩:=aC.mp h;exact k δ y Y G0 H0 G H σ [] _ R fun v G' H' Z=>q _ Z.keep
def cP{k:Nat}{m:rW}{l:TA}(Y:∀δ xs,fs δ=some xs->∀G0 H0 G H σ ts (Q:zAX),Rw G0 H0 G H σ δ ts->(∀vs g H',Rw G0 H0 g H' σ δ (xs.zip vs++ts)->vs.length=xs.length->Q vs H')->l σ H Q) {δ:Dv}{r:Xr}(Z:(fs δ).bind m=some r){G0 H0 G H:Hp}{σ:St}{Q:VK}{M:XK}(R:Rw G0 H0 G H σ δ [])(U:∀x,r=.inl x->∀v g H',Rw G0 H0 g H' σ δ [(x,v)]->Q v H')(T:∀C,r=.inr C->∀g H',Rw G0 H0 g H' σ δ []->M OL none H'):l σ H fun vs I=>Kb m (vs++[]) I Q M:=by
 obtain⟨xs,h1,h2⟩:=aA.mp Z;refine Y δ _ h1 G0 H0 G H σ [] _ R fun vs G1 I R1 hv=>?_;obtain⟨d,R2⟩:=R1.args hv;refine⟨xs,r,G1,h2,by rw[(GZ)];exact d,R2.ins,?_⟩;cases r with
 |inl x=>exact fun v g H' h3 h4 h5 h6 h7=>U x rfl _ _ _ ((R2.lift h3 h4 h5 h6).put h7)
 |inr C=>exact fun H' h=>T C rfl _ _ (R2.on h)
section
variable{k:Nat}{fA:AD}{fd:F0a}{ps:vo}{m:rW}{x:Str}{st':Stmt}
abbrev Zg(m:List PD->Option Xr)(fs:io)(nx:PD->Dv->Ou):F0:=fun δ=>((fs δ).bind m).map fun r=>match r with
 |.inl x=>.inl (nx x δ)
 |.inr C=>.inr C
def kz(T:Fn X.K X.mg x st' ps fA fd)(F:Ah X.prog X.w X.K X.mg X.base (Dy X.prog X.w) k fA fd ps (Kb m))(hr:CM k X.A)(hP:Passes (Dy X.prog X.w) X E)(ha:DA X.EN zAq fs) {g:Pos}(I:∀ {t:TE},PE X Fk t->PS X (.Expr Fk g) (Ml t)) (hg:Gl X x:=by rfl)(l:GE=false:=by decide)(he:starEach zAq X.env=Ev::starEach es X.env:=by rfl)(hpl:(backTo pos Lx).any OR=false:=by rfl):DX X E (.Expr Fk g) (Zg m fs fun _ δ=>.nx δ):=by
 obtain⟨ta,U,Y⟩:=ha;refine⟨_,I (nQ T F hr hg hP (cJ U) l he hpl),fun δ r h G0 H0 G H σ D R q=>?_⟩;obtain⟨z,h1,rfl⟩:=aC.mp h;refine cP (k:=k) Y h1 R (fun x Z v G' H' M=>?_) (fun C hC G' H' M=>?_)
 .subst Z;exact q _ _ _ M.drop
 .subst hC;exact q _ M.keep
end
end
def Rw.sM{G0 H0 G H:Hp}{σ:St}{δ:Dv}{ts:Of}(k:Nat)(o:Option V)(r:Gf):Rw G0 H0 G H (σ.set k o) (δ.set k .no) ts:=by
 have ne:∀(j:Nat) (l:L),l≠.no->(δ.set k .no)[j]? = some l->k≠j/\δ[j]? = some l:=fun j l hl h=>by
  by_cases R:k=j
  .subst R;by_cases hi:k<δ.length
   .rw[List.getElem?_set_self hi]at h;cases h;exact absurd rfl hl
   .rw[List.getElem?_eq_none ll]at h;cases h
  .rw[List.getElem?_set_ne R]at h;exact⟨R,h⟩
 refine⟨r.ext,r.new,r.ins,r.keep,by simp[r.len],fun j y h=>?_,fun j Y h=>?_,fun j l us Z M U T=>?_,r.Aw⟩
 .obtain⟨n,h⟩:=ne j _ A1 h;obtain⟨w,I,g⟩:=r.dat j y h;exact⟨w,by rw[List.getElem?_set_ne n];exact I,g⟩
 .obtain⟨n,h⟩:=ne j _ A1 h;obtain⟨b,us,I,g⟩:=r.own j Y h;exact⟨b,us,by rw[List.getElem?_set_ne n];exact I,g⟩
 .obtain⟨n1,U⟩:=ne j _ A1 U;obtain⟨n2,T⟩:=ne l _ A1 T;rw[List.getElem?_set_ne n1,List.getElem?_set_ne n2];exact r.apart j l us Z M U T
section
variable{X:Cx}{a b:Expr}{f:va}{pos:Pos}
def oH(T:GC):PD->Option PD
 |.dict [(.int C,.none)]=>(T C.toNat).map .bool
 |_=>none
abbrev HN(T:GC)(f:My):Dv->Option PD:=fun δ=>(f δ).bind (oH T)
def Eb{T:GC}{R:V}{g:Str}{p1 l:Pos}(hk:∀C b,T C=some b->C0 X.K C/\PySem.W.kitOne X.K OL (DD R)=some b)(hn:DD R≠.none)(hg:Gl X "isinstance")(hm:X.mg "isinstance" = none)(hT:PE X (.Name g l) (tC R))(ha:re) (I:starEach [a,.Name g l] X.env=b6::starEach [.Name g l] X.env:=by rfl)(hpl:(backTo pos (starEach [.Name g l] X.env)).any OR=false:=by rfl):DE X (.Call (.Name "isinstance" p1) [a,.Name g l] [] pos) (HN T f):=by
 obtain⟨ta,pa,ka⟩:=ha;refine⟨_,Bv dj hg hm aZ (Ac pa (Ac hT A3) I) AS AS I hpl,fun δ z hz G0 H0 G H σ ts Q R0 k=>?_⟩;obtain⟨x,h1,M⟩:=aA.mp hz;unfold oH at M;split at M
 .rename_i C;obtain⟨bb,h3,rfl⟩:=aC.mp M;refine ka δ _ h1 G0 H0 G H σ ts _ R0 fun u G1 H1 Y=>?_;have du:=Y.Aw _ EQ;rw[Du]at du;rcases du with ⟨ea,C',U,rfl,h4⟩|⟨_,_,U,_⟩|z
  rotate_left
  .simp at U
  .rw[LC]at z;cases z.1
  have:C=(C':Nat):=by simpa using U
  subst this;obtain⟨k1,Z⟩:=hk _ _ h3;rw[(FP)]at k1 Z;exact⟨ea,C',R,bb,rfl,hn,Y.ins _ _ h4,k1,Z,k _ _ _ (Y.drop.put GM)⟩
 .cases M
end
def HD(ps N:vo)(J:F0)(ds:vc):Option Xr:=if ds.length=ps.length then(match J (JY N ds) with
 |some (.inl (.rt x))=>some (.inl x)
 |some (.inl (.nx _))=>some (.inl .none)
 |some (.inl (.rn xs))=>some (.inl zK)
 |some (.inr C)=>some (.inr C)
 |_=>none) else none
section
variable{P:F0b}{w:F0c}{K:Fg}{mg:vf}{base:Heap}{x:Str}{st:Stmt}{fA:AD}{fd:F0a}{N ps:vo}{k:Nat}
def YW{qual:Str}{scope:yB}{M:VL}{A:F0d}{outer:v7}{s:SD}{H:Hp}{E:XK}:Lets (CJ kr P w K mg base N qual scope fA M A outer s H E) E:=fun _ _ _ _ _ _ _ _ I g l=>ky I g l
def rS{qual:Str}{scope:yB}{g:VL}{A:F0d}{outer:v7}{s:SD}{H:Hp}{E:XK}:Passes kr (CJ kr P w K mg base N qual scope fA g A outer s H E) E:=tM fun _ _ _ z=>z
def tx{J:F0}(T:Fn K mg x st ps fA fd)(S:Ap N ps vy) (hb:∀(cdv:VL) (A:F0d) (outer:v7) (s:SD) (H:Hp) (E:XK),CM k zBU->OE (CJ kr P w K mg base N x vy fA cdv A outer s H E) E (Cg st) J):Ah P w K mg base kr ii fA fd ps (Kb (HD ps N J)):=by
 refine T.F.vL S Tj fun cdv A outer s H vs Q E hr h=>?_
 .obtain⟨ds,y,G,g,I,_⟩:=h;unfold HD at g;split at g
  .rename_i hl;rw[I.len];exact hl
  .cases g
 .obtain⟨ds,y,G,g,I,Y,U⟩:=h;obtain⟨t,p,M⟩:=hb cdv A outer s H E hr;refine⟨t,p,?_⟩;unfold HD at g;split at g
  .split at g
   .rename_i z l;cases g;exact M _ _ l G H G H _ _ ym fun v Z H' m1 m2 m3 m4 m5=>U v Z H' m1 m2 m3 m4 m5
   .rename_i δ l;cases g;exact M _ _ l G H G H _ _ ym fun σ' Z H' R=>U .BS Z H' R.ext R.new R.ins R.keep GM
   .rename_i xs l;cases g;exact M _ _ l G H G H _ _ ym fun a ys Z H' m1 m2 m3 m4 m5 m6 m7 m8=>let⟨n1,n2,n3,n4⟩:=UZ m1 m2 m3 m5 m6 m7 m8;U _ _ H' n1 n2 n3 m4 n4
   .rename_i C l;cases g;exact M _ _ l G H G H _ _ ym U
   .cases g
  .cases g
def Ah.oy{sp g:Sp}(F:Ah P w K mg base kr k fA fd ps sp)(h:∀vs H Q E,g vs H Q E->sp vs H Q fun _ _ _=>False):Ah P w K mg base A4 k fA fd ps g :=
 ⟨fun vs H Q E z=>F.len _ _ _ _ (h _ _ _ _ z),fun A outer s H args us vs Q E M R T l I=>codeAny_mono (F.run A outer s H args us vs Q _ M R T l (h _ _ _ _ I)) fun r s' z=>by
  cases r with
  |ok U=>cases U<;>exact z
  |error e=>obtain⟨_,_,_,_,_,_,_,z⟩:=z;exact z.elim⟩
def good(m:rW)(ds:vc):vg:=match m ds with
 |some (.inl x)=>some x
 |_=>none
def rR{m:rW}(F:Ah P w K mg base kr k fA fd ps (Kb m)):Ah P w K mg base A4 k fA fd ps (BV (good m)):=F.oy fun vs H Q E z=>by
 obtain⟨ds,x,G,g,M,I,l⟩:=z;unfold good at g;split at g
 .rename_i y e;cases g;exact⟨ds,.inl x,G,e,M,I,l⟩
 .cases g
end
abbrev jf(fs:io):DF:=fun δ=>(fs δ).map .rn
abbrev ZG(i:Nat):DF:=fun δ=>(ow i δ).map .rn
section
variable{X:Cx}{a:Expr}{h:va}{pos:Pos}
def XC{i:Nat}{x:Str}{np:Pos}(U:zBO):DS X (.Return (some L0) pos) (ZG i):=by
 refine⟨_,C8 U,fun δ r h G0 H0 G H σ D R q=>?_⟩;obtain⟨xs,Y,rfl⟩:=aC.mp h;obtain⟨a,_,T,M,I,l,⟨ys,rfl,g⟩⟩:=R.own i _ (Hw Y);exact⟨.ref a,T,q a ys G H R.ext R.new R.ins R.keep I M l g⟩
end
section
variable{N ps:vo} 
def J7{F:DF}{ds xs:vc}(g:zAg)(h:F (JY N ds)=some (.rn xs)):Ca ps N F ds=some zK:=by unfold Ca;rw[if_pos g,h]
def Xs{J:F0}{ds:vc}{y:PD}(g:zAg)(h:J (JY N ds)=some (.inl (.rt y))):HD ps N J ds=some (.inl y):=by unfold HD;rw[if_pos g,h]
def kj{J:F0}{ds:vc}{δ:Dv}(g:zAg)(h:J (JY N ds)=some (.inl (.nx δ))):HD ps N J ds=some (.inl .none):=by unfold HD;rw[if_pos g,h]
def kR{J:F0}{ds:vc}{C:AD}(g:zAg)(h:J (JY N ds)=some (.inr C)):HD ps N J ds=some (.inr C):=by unfold HD;rw[if_pos g,h]
end
section
variable{J1 J2:F0}{δ δ':Dv}{r:Option jK}{c:vb}{fs:vZ}{m:rW}{ds:vc}   
def J0(h:J1 δ=some (.inl zf))(k:J2 δ'=r):IB J1 J2 δ=r:=by unfold IB;rw[h];exact k
def SA{C:AD}(h:J1 δ=some (.inr C)):IB J1 J2 δ=some (.inr C):=by unfold IB;rw[h]
def Yj(h:c δ=some true)(k:J1 δ=r):XA c J1 J2 δ=r:=by show(c δ).bind _=r;rw[h];exact k
def YK(h:c δ=some false)(k:J2 δ=r):XA c J1 J2 δ=r:=by show(c δ).bind _=r;rw[h];exact k
def ik{nx:PD->Dv->Ou}{y:PD}(h:fs δ=some ds)(k:m ds=some (.inl y)):Zg m fs nx δ=some (.inl (nx y δ)):=by show((fs δ).bind m).map _=_;rw[h];show(m ds).map _=_;rw[k];rfl
end
def only(cs:vz)(m:rW)(ds:vc):Option Xr:=match m ds with
 |some (.inr C)=>if C∈cs then some (.inr C) else none
 |r=>r
def kG{cs:vz}{m:rW}{ds:vc}{C:AD}(h:only cs m ds=some (.inr C)):C∈cs:=by
 unfold only at h;split at h
 .split at h
  .rename_i g;cases h;exact g
  .cases h
 .rename_i n;exact absurd h (n C)
def mQ{cs:vz}{m:rW}{ds:vc}{C:AD}(h:m ds=some (.inr C))(g:C∈cs):only cs m ds=some (.inr C):=by unfold only;rw[h];exact if_pos g
def kY{cs:vz}{m:rW}{ds:vc}{x:PD}(h:m ds=some (.inl x)):only cs m ds=some (.inl x):=by unfold only;rw[h]
section
variable{xs:vc}
def rA(xs:vc)(p:Nat):cutD xs none (some (p:Int))=xs.take p:=by
 unfold cutD;rw[HT.WC,HT.XR,List.drop_zero,Nat.sub_zero];by_cases h:p<=xs.length
 .rw[Nat.min_eq_left h]
 .rw[Nat.min_eq_right AC,List.take_of_length_le SL,List.take_of_length_le AC]
def qx(xs:vc)(p:Nat):cutD xs (some (p:Int)) none=xs.drop p:=by
 unfold cutD;rw[HT.WC,HT.XR];by_cases h:p<=xs.length
 .rw[Nat.min_eq_left h,List.take_of_length_le (by rw[(Hl)];lia)]
 .rw[Nat.min_eq_right AC,Nat.sub_self,List.take_zero,List.drop_of_length_le AC]
end
section
variable{F F1 F2:DF}{δ δ':Dv}{fs:vZ}{xs:vc}{set:XN}{r:Option Ou}
def JA{Q:Dv->Prop}(h:F1 δ=some zf)(k:∃g,F2 δ'=some (.nx g)/\Q g):∃g,AN F1 F2 δ=some (.nx g)/\Q g:=let⟨g,a,b⟩:=k;⟨g,AH h a,b⟩
def fF(M:Nat->Dv->Prop)(R:yc)(h0:M 0 δ)(hs:∀(i:Nat) (x:PD) (δ:Dv),xs[i]? = some x->M i δ->∃I,set x δ=some I/\∃l,F I=some (.nx l)/\M Pi l):∃δ',Es fs set F δ=some zf/\M xs.length δ':=Mu M R h0 fun i x δ a b=>let⟨I,c,l,e,g⟩:=hs i x δ a b;⟨I,l,c,e,g⟩
def ip(I:Nat->Dv->Prop)(M:yc)(h0:I 0 δ)(hs:zBP) (k:∀δ',I xs.length δ'->F2 δ'=r):AN (Es fs set F) F2 δ=r:=by
 obtain⟨δ',T,R⟩:=fF I M h0 hs;exact AH T (k δ' R)
def Rx{Q:Dv->Prop}(I:Nat->Dv->Prop)(M:yc)(h0:I 0 δ)(hs:zBP)(R:∀δ,I xs.length δ->Q δ):∃δ',Es fs set F δ=some zf/\Q δ':=let⟨δ',a,b⟩:=fF I M h0 hs;⟨δ',a,R _ b⟩
def J4{f:va}{x:PD}(h:f δ=some x)(k:Jp x=some xs):Di f δ=some xs:=by show(f δ).bind Jp=_;rw[h];exact k
end
end L2
namespace L2
open PySem PySem.Spec PyProof.Rows
abbrev JO(i:Nat)(f:My):DF:=fun δ=>(f δ).bind fun x=>match x with
 |.list xs=>some (.nx (δ.set i (.own SB)))
 |_=>none
section
variable{X:Cx}{e:Expr}{fs:vZ}{i:Nat}{y:Str}{pos pos' p cp:Pos}
def ZY(hg:Gl X "list")(hm:X.mg "list" = none)(ha:DA X [e] fs)(hN:nn)(Y:X.N[i]? = some y)(hx:Loc X.env.scope y) (he:starEach [e] X.env=Ev::starEach [] X.env:=by rfl)(hpl:(backTo cp fz).any OR=false:=by rfl) (hs:swapsWith (.Call (.Name "list" p) [e] [] cp) (some (.Name y pos')) pos.line X.env=pure false:=by rfl)(hf:X.fn y=true\/X.env.scope.names.lookup y=some .local:=by first|exact .inl rfl|exact .inr rfl|assumption):DS X (.Assign [.Name y pos'] (.Call (.Name "list" p) [e] [] cp) pos) (JO i fun δ=>(fs δ).bind J3):=by
 obtain⟨ta,pa,ka⟩:=ha;refine⟨_,D9 hN Y hx (Tf Np hg hm bR pa AS AS he hpl) hs hf,fun δ r hz G0 H0 G H σ D R q=>?_⟩;obtain⟨x,h1,Z⟩:=aA.mp hz;obtain⟨xs,h3,g⟩:=aA.mp h1;refine ka δ _ h3 G0 H0 G H σ [] _ R fun vs G1 H1 R1 hv=>?_;obtain⟨d,R2⟩:=R1.args hv;unfold J3 at g;split at g
 .cases g;cases Z;obtain⟨u,rfl,I⟩:=d.JM;rw[Du]at I;obtain⟨p,ys,rfl,T,M⟩:=I;exact⟨p,ys,rfl,.inl (BR.of (R2.ins _ _ T)),fun l U=>q _ _ _ (R2.Lz ⟨_,rfl,M⟩ U)⟩
 .cases g;cases Z;obtain⟨u,rfl,I⟩:=d.JM;rw[Du]at I;obtain⟨p,ys,rfl,T,M⟩:=I;exact⟨p,ys,rfl,.inr (B2.of (R2.ins _ _ T)),fun l U=>q _ _ _ (R2.Lz ⟨_,rfl,M⟩ U)⟩
 .cases g
end
def less(G:Hp)(a:AD):Hp:=fun b=>if b=a then none else G b
def Oj{G:Hp}{a b:AD}(h:b≠a):less G a b=G b:=if_neg h
def lP{G:Hp}{a:AD}:less G a a=none:=if_pos rfl
section
variable{X:Cx}
def Mv(g:vc)(d:PD):Bool:=g.any fun y=>PyData.eqv y d
def om(K:Fg)(neg:Bool):R2:=fun x y H Q=>∃d g,Br K H d x/\Br K H (.list g) y/\SeqAt.shaped d=true/\SeqAt.shaped (.list g)=true/\Q (.bl (if neg then !Mv g d else Mv g d)) H
def mF{g:vc}(h:SeqAt.shaped (.list g)=true):PyData.canLayAll0 g=true/\PyData.depthAll g<=63:=by
 have l:=SeqAt.canLay_of_shaped h;have I:=SeqAt.depth_of_shaped h;simp only[PyData.canLay0]at l;simp only[PyData.depth]at I;exact⟨l,by lia⟩
def p7(hu:ZB):DC X (compareOp .In) (om X.K false):=by
 intro pins s σ H x y v u Q I l g h;obtain⟨d,Y,U,T,s1,s2,q⟩:=h;obtain⟨as,R⟩:=Br.reads I U l;obtain⟨bs,M⟩:=Br.reads I T g;obtain⟨Z,c2⟩:=mF s2;exact SeqAt.in_list_reads M R Z (SeqAt.canLay_of_shaped s1) (by have:=Nat.min_le_left (PyData.depthAll Y) d.depth;lia) ⟨.bl _,H,I,rfl,q⟩
def QP(neg:Bool):PD->PD->Option PD:=fun x y=>match y with
 |.list g=>if SeqAt.shaped x=true/\SeqAt.shaped (.list g)=true then some (.bool (if neg then !Mv g x else Mv g x)) else none
 |_=>none
def kd{m:wG}{neg:Bool}(M:DC X m (om X.K neg)):Dw X m (QP neg):=by
 refine⟨_,M,fun x y z g G0 H0 G H σ δ ts u v Q I T R k=>?_⟩;unfold QP at g;split at g
 .split at g
  .rename_i l;cases g;exact⟨x,_,(T.same I.ins).br (Ky l.1),(R.same I.ins).br (Ky l.2),l.1,l.2,k _ _ _ (I.put GM)⟩
  .cases g
 .cases g
def eZ(g:ZB):Dw X (compareOp .In) (QP false):=kd (p7 g)
def dr:FO X yP (fun xs H Q=>∃i:Int,xs=[.int i]/\i.natAbs.log2<1920/\Q (.str wT) H):=by
 intro pins s σ H xs us Q I r h;obtain⟨i,rfl,g,q⟩:=h;obtain⟨u,rfl,t,rfl⟩:=vals1 r;exact P.str_of_int g ⟨.str wT,H,I.tok _,⟨_,rfl⟩,q⟩
end
section
variable{X:Cx}{e lo hi:Expr}{te tl th:TE}{pos p2:Pos}
def iI(he:PE X e te)(hl:PE X hi tl):PE X (.Subscript e (.Slice none (some hi) none p2) pos) (fun σ H Q=>te σ H fun x g=>tl σ g fun z H2=>∃(y:Str) (i:Int),x=.str y/\z=.int i/\y.length<=sizeLine/\Q (.str (Txt.slice y none (some i))) H2):=by
 intro pins s σ H Q I h;refine Subscript_ (A2 Pg fun v s1 ⟨x,g,I1,R,Y⟩=>?_);refine wpAny_Slice ?_;rw[evalPart_none];refine aB ?_;rw[evalPart_some];refine A2 (hl pins s1 σ g _ I1 Y) fun vk s3 ⟨z,H3,I3,M,U⟩=>?_;refine aB ?_;obtain⟨y,i,rfl,rfl,hz,q⟩:=U;obtain⟨t1,rfl⟩:=R;obtain⟨t3,rfl⟩:=M;show wpAny AT X.A (subscriptTail e (.Slice none (some hi) none p2) (.str y t1) xE) Ix X.xe {s3 with heap:=s3.heap.push { cls:=.type "slice",data:=.fields #[.none,.int i t3,.none]} };obtain⟨T,id,hT,ht,hg⟩:=SBH.sliceItem_ns (prog:=X.prog) (w:=X.w) (A:=X.A) (E:=X.xe) (s:=s3) (x:=y) (t:=t1) (uj:=t3) (P:=fun h'=>∀b o,s3.heap.get? b=some o->h'.get? b=some o) (Q:=EP X pins σ Q) zAf (fun _ _ q=>q)
  (fun h' l k Z=>⟨.str (Txt.slice y none (some i)),H3,I3.kept (t':=k) Z,⟨l,rfl⟩,q⟩) hz
 exact tail_any (ops:=[.ref s3.heap.objs.size,.str y t1]) ht hT hg wR
def gH(he:PE X e te)(hl:PE X lo tl)(hh:PE X hi th):PE X (.Subscript e (.Slice (some lo) (some hi) none p2) pos) (fun σ H Q=>te σ H fun x M=>tl σ M fun z l=>th σ l fun R g=>∃(y:Str) (i j:Int),x=.str y/\z=.int i/\R=.int j/\y.length<=sizeLine/\Q (.str (Txt.slice y (some i) (some j))) g):=by
 intro pins s σ H Q I h;refine Subscript_ (A2 Pg fun v s1 ⟨x,M,I1,r1,q1⟩=>?_);refine wpAny_Slice ?_;rw[evalPart_some];refine A2 (hl pins s1 σ M _ I1 q1) fun vk s2 ⟨z,l,I2,r2,q2⟩=>?_;rw[evalPart_some];refine A2 (hh pins s2 σ l _ I2 q2) fun Z s3 ⟨R,g,I3,r3,q3⟩=>?_;rw[evalPart_none];refine aB ?_;obtain⟨y,i,j,rfl,rfl,rfl,hz,q⟩:=q3;obtain⟨t1,rfl⟩:=r1;obtain⟨U,rfl⟩:=r2;obtain⟨t3,rfl⟩:=r3;show wpAny AT X.A (subscriptTail e (.Slice (some lo) (some hi) none p2) (.str y t1) xE) Ix X.xe {s3 with heap:=s3.heap.push { cls:=.type "slice",data:=.fields #[.int i U,.int j t3,.none]} };obtain⟨T,id,hT,ht,hg⟩:=SBH.sliceItem_ss (prog:=X.prog) (w:=X.w) (A:=X.A) (E:=X.xe) (s:=s3) (x:=y) (t:=t1) (ui:=U) (uj:=t3) (P:=fun h'=>∀b o,s3.heap.get? b=some o->h'.get? b=some o) (Q:=EP X pins σ Q) zAf (fun _ _ q=>q)
  (fun h' Y k kk=>⟨.str (Txt.slice y (some i) (some j)),g,I3.kept (t':=k) kk,⟨Y,rfl⟩,q⟩) hz
 exact tail_any (ops:=[.ref s3.heap.objs.size,.str y t1]) ht hT hg wR
end
def Le:PD->PD->Option PD:=fun x z=>match x,z with|.str y,.int i=>(if y.length<=CQ then some (.str (Txt.slice y (some i) none)) else none)|_,_=>none
def IJ:PD->PD->Option PD:=fun x z=>match x,z with|.str y,.int i=>(if y.length<=CQ then some (.str (Txt.slice y none (some i))) else none)|_,_=>none
def Y0(x z g:PD):vg:=match x,z,g with|.str y,.int i,.int j=>(if y.length<=CQ then some (.str (Txt.slice y (some i) (some j))) else none)|_,_,_=>none
abbrev YM(f g h:My):Dv->Option PD:=fun δ=>(f δ).bind fun x=>(g δ).bind fun y=>(h δ).bind fun z=>Y0 x y z
section
variable{X:Cx}{a b c e:Expr}{f g h:va}{fs:vZ}{pos p2:Pos}
def OT(ha:re)(hb:DE X b g):DE X (.Subscript a (.Slice (some b) none none p2) pos) (AF Le f g):=by
 obtain⟨ta,T,Y⟩:=ha;obtain⟨tb,R,U⟩:=hb;refine⟨_,ZI T R,fun δ z Z G0 H0 G H σ ts Q R0 k=>?_⟩;obtain⟨x,y,h1,h2,l⟩:=two (x:=.none) (y:=.none) Z;refine Y δ x h1 G0 H0 G H σ ts _ R0 fun u G1 H1 R1=>?_;refine U δ y h2 G0 H0 G1 H1 σ _ _ R1 fun v G2 H2 R2=>?_;have M:=R2.Aw (x,u) zBA;have I:=R2.Aw (y,v) EQ;unfold Le at l;split at l
 .split at l
  .rename_i hl;cases l;rw[Du]at M;rw[Du]at I;subst M I;exact⟨_,_,rfl,rfl,DR hl,k _ _ _ zAu⟩
  .cases l
 .cases l
def MQ(ha:re)(hb:DE X b g):DE X (.Subscript a (.Slice none (some b) none p2) pos) (AF IJ f g):=by
 obtain⟨ta,T,Y⟩:=ha;obtain⟨tb,R,U⟩:=hb;refine⟨_,iI T R,fun δ z Z G0 H0 G H σ ts Q R0 k=>?_⟩;obtain⟨x,y,h1,h2,l⟩:=two (x:=.none) (y:=.none) Z;refine Y δ x h1 G0 H0 G H σ ts _ R0 fun u G1 H1 R1=>?_;refine U δ y h2 G0 H0 G1 H1 σ _ _ R1 fun v G2 H2 R2=>?_;have M:=R2.Aw (x,u) zBA;have I:=R2.Aw (y,v) EQ;unfold IJ at l;split at l
 .split at l
  .rename_i hl;cases l;rw[Du]at M;rw[Du]at I;subst M I;exact⟨_,_,rfl,rfl,DR hl,k _ _ _ zAu⟩
  .cases l
 .cases l
def mJ(ha:re)(hb:DE X b g)(hc:DE X c h):DE X (.Subscript a (.Slice (some b) (some c) none p2) pos) (YM f g h):=by
 obtain⟨ta,pa,ka⟩:=ha;obtain⟨tb,Z,kb⟩:=hb;obtain⟨tc,pc,kc⟩:=hc;refine⟨_,gH pa Z pc,fun δ z I G0 H0 G H σ ts Q R0 k=>?_⟩;obtain⟨x,h1,I⟩:=aA.mp I;obtain⟨y,h2,I⟩:=aA.mp I;obtain⟨w,h3,l⟩:=aA.mp I;refine ka δ x h1 G0 H0 G H σ ts _ R0 fun u G1 H1 R1=>?_;refine kb δ y h2 G0 H0 G1 H1 σ _ _ R1 fun v G2 H2 R2=>?_;refine kc δ w h3 G0 H0 G2 H2 σ _ _ R2 fun Y G3 H3 M=>?_;have U:=M.Aw (x,u) (.tail _ zBA);have T:=M.Aw (y,v) zBA;have R:=M.Aw (w,Y) EQ;unfold Y0 at l;split at l
 .split at l
  .rename_i hl;cases l;rw[Du]at U;rw[Du]at T;rw[Du]at R;subst U T R;exact⟨_,_,_,rfl,rfl,rfl,DR hl,k _ _ _ (M.drop.drop.drop.put GM)⟩
  .cases l
 .cases l
def DJ:MD
 |[.str x]=>if x.length<=CQ then some (.int x.length) else none
 |_=>none
def J6:Hk X (.builtin "len") DJ:=by
 refine⟨_,VX,fun xs z l G0 H0 G H σ δ ts us Q R d k=>?_⟩;unfold DJ at l;split at l
 .split at l
  .rename_i M;cases l;obtain⟨u,r,rfl,I,d2⟩:=d.un;have:=d2.nil_eq;subst this;rw[Du]at I;subst I;exact⟨_,rfl,DR M,k _ _ _ (R.put GM)⟩
  .cases l
 .cases l
def strsOf:List PD->Option (List Str)
 |[]=>some []
 |.str x::r=>(strsOf r).map (x :: ·)
 |_=>none
theorem Th:∀ {xs:wV} {ys:N1},strsOf xs=some ys->xs=ys.map PyData.str
 |[],_,e=>by cases e;rfl
 |.str x::r,_,e=>by
  rw[strsOf]at e;obtain⟨I,l,rfl⟩:=aC.mp e;rw[Th l];rfl
 |.none::_,_,e=>by cases e
 |.bool _::_,_,e=>by cases e
 |.int _::_,_,e=>by cases e
 |.tuple _::_,_,e=>by cases e
 |.list _::_,_,e=>by cases e
 |.dict _::_,_,e=>by cases e
theorem VD{G:Hp}:∀ {ys:N1} {us:UF},Aq G zAZ us->us=ys.map V.str
 |[],_,d=>d.nil_eq
 |y::ys,_,d=>by
  obtain⟨u,r,rfl,l,d2⟩:=d.un;rw[Du]at l;subst l;rw[VD d2];rfl
theorem OX:∀ {ys:N1} {us:S0},Vals (ys.map V.str) us->CarriedAll us zAZ
 |[],_,.nil=>.nil
 |y::ys,_,.cons ⟨t,e⟩ r=>by subst e;exact .cons (.str _ _) (OX r)
def bz:PD->Bool
 |.str _=>true
 |_=>false
def gm(K:Fg):∀d:PD,(∀l,d≠.dict l)->PySem.W.kitOne K yh yP=some (bz d)
 |.none,_=>by kernel_rfl
 |.bool _,_=>by kernel_rfl
 |.int _,_=>by kernel_rfl
 |.str _,_=>by kernel_rfl
 |.tuple _,_=>by kernel_rfl
 |.list _,_=>by kernel_rfl
 |.dict l,h=>absurd rfl (h l)
abbrev jR(i j k:Nat)(m:List PD->Option Xr)(fs:io):DF:=fun δ=>((fs δ).bind m).map fun r=>match r with
 |.inl x=>.nx (δ.set i (.d x))
 |.inr C=>.nx (((δ.set k (.d (OW C))).set j (.d (OW C))).set k .no)
end
def YU:∀ {u:VL} {x:V},R8 u=some x->RelV x u
 |.none,_,e=>by cases e;exact rfl
 |.bool _,_,e=>by cases e;exact rfl
 |.int _ _,_,e=>by cases e;exact⟨_,rfl⟩
 |.str _ _,_,e=>by cases e;exact⟨_,rfl⟩
 |.bytes _ _,_,e=>by cases e;exact⟨_,rfl⟩
 |.float _ _,_,e=>by cases e;exact⟨_,rfl⟩
 |.ref _,_,e=>by cases e;exact rfl
 |.type _,_,e=>by cases e;exact rfl
theorem Pe:∀ {us:S0} {xs:UF},us.map R8=xs.map some->Vals xs us
 |[],[],_=>.nil
 |[],_::_,e=>by simp at e
 |_::_,[],e=>by simp at e
 |_::_,_::_,e=>by
  simp only[List.map_cons,List.cons.injEq]at e;exact .cons (YU e.1) (Pe e.2)
abbrev ZE(its:S0):Obj:=⟨.type "tuple",none,.seq its.toArray 0,#[]⟩
def Jf(d:Nat):Hp:=fun(b:Nat)=>if b=d then some (.tup Ji) else none
def KN{d b:Nat}{u:HO}(e:Jf d b=some u):b=d/\u=.tup Ji:=by
 unfold Jf at e;split at e
 .rename_i h;cases e;exact⟨h,rfl⟩
 .cases e
def kP{P:F0b}{w:F0c}{d:Nat}{its:vd}{h:Heap}(hs:its.map R8=Ji.map some)(e:h.get? d=some (ZE its)):DN P w (Jf d) h:=fun b u q=>by
 obtain⟨rfl,rfl⟩:=KN q;exact⟨(by decide:(4:Nat)<=sizeLine),its,Pe hs,_,e,rfl,0,rfl⟩
theorem cS:∀ {l:Fg} {b:Nat} {o:Obj},l.lookup b=some o->((b,o):AD×Obj)∈l
 |[],_,_,e=>by cases e
 |(c,p)::l,b,o,e=>by
  rw[(Ni)]at e;by_cases h:b=c
  .subst h;simp at e;subst e;exact .head _
  .rw[beq_eq_false_iff_ne.mpr h]at e;exact .tail _ (cS e)
section
variable{X:Cx}{a b c e:Expr}{ta tb tc:TE}{f g h:va}{pos p cp ap:Pos}
def vE:V->Hp->VK->Prop:=fun x H Q=>(∃i:Int,x=.int i/\i.natAbs.log2<1920/\Q (.str wT) H)\/∃s:Str,x=.str s/\s.length<=sizeLine/\Q (.str s) H
def pP(ha:y7):PE X (.FormattedValue a (-1) none pos) (fun σ H Q=>ta σ H fun x l=>vE x l Q):=by
 intro pins s σ H Q I h;refine wpAny_FormattedValue_plain (A2 Pf fun v s1 ⟨x,l,M,R,T⟩=>?_);rcases T with ⟨i,rfl,hi,q⟩|⟨y,rfl,U,q⟩
 .obtain⟨t,rfl⟩:=R;exact wpAny_formatField_int hi ⟨.str wT,l,M.tok _,⟨_,rfl⟩,q⟩
 .obtain⟨t,rfl⟩:=R;exact wpAny_formatField_str ⟨.str y,l,M,⟨_,rfl⟩,q⟩ ⟨.str y,l,M.tok _,⟨_,rfl⟩,q⟩ U
def sm(ha:y7):PE X (.JoinedStr [a] pos) ta:=fun pins s σ H Q I h=>wpAny_JoinedStr_one zH
def rz(ha:y7)(hb:PE X b tb):PE X (.JoinedStr [a,b] pos) (fun σ H Q=>ta σ H fun x M=>∃s,x=.str s/\s.length<=100000/\tb σ M fun y l=>∃t,y=.str t/\t.length<=100000/\Q (.str (Str.empty++s++t)) l):=by
 intro pins s σ H Q I h;refine wpAny_JoinedStr ?_;show wpAny AT X.A wA _ X.xe s;refine A2 Pf fun v s1 ⟨x,M,I1,Z,y,ex,hy,q1⟩=>?_;subst ex;obtain⟨t,rfl⟩:=Z;have T:Str.empty.length=0:=rfl;refine⟨y,t,rfl,by rw[strLen_append,T,sizeLine_eq];lia,?_⟩;show wpAny AT X.A (eval b X.env) _ X.xe s1;refine A2 (hb pins s1 σ M _ I1 q1) fun v s2 ⟨x,l,I2,Y,z,ex,hz,q2⟩=>?_;subst ex;obtain⟨U,rfl⟩:=Y;have R:(Str.empty++y++z).length<=sizeLine:=by rw[strLen_append,strLen_append,T,sizeLine_eq];lia
 exact⟨z,U,rfl,R,R,.str (Str.empty++y++z),l,I2.tok _,⟨_,rfl⟩,q2⟩
def sN(ha:y7)(hb:PE X b tb)(hc:PE X c tc):PE X (.JoinedStr [a,b,c] pos) (fun σ H Q=>ta σ H fun x T=>∃s,x=.str s/\s.length<=100000/\tb σ T fun y R=>∃t,y=.str t/\t.length<=100000/\tc σ R fun z M=>∃u,z=.str u/\u.length<=100000/\Q (.str (Str.empty++s++t++u)) M):=by
 intro pins s σ H Q I h;refine wpAny_JoinedStr ?_;show wpAny AT X.A wA _ X.xe s;refine A2 Pf fun v s1 ⟨x,T,I1,r1,y,ex,hy,q1⟩=>?_;subst ex;obtain⟨t,rfl⟩:=r1;have l:Str.empty.length=0:=rfl;refine⟨y,t,rfl,by rw[strLen_append,l,sizeLine_eq];lia,?_⟩;show wpAny AT X.A (eval b X.env) _ X.xe s1;refine A2 (hb pins s1 σ T _ I1 q1) fun v s2 ⟨x,R,I2,r2,z,ex,hz,q2⟩=>?_;subst ex;obtain⟨Y,rfl⟩:=r2;refine⟨z,Y,rfl,by rw[strLen_append,strLen_append,l,sizeLine_eq];lia,?_⟩;show wpAny AT X.A (eval c X.env) _ X.xe s2;refine A2 (hc pins s2 σ R _ I2 q2) fun v s3 ⟨x,M,I3,Z,u,ex,hu,q3⟩=>?_;subst ex;obtain⟨t3,rfl⟩:=Z;have U:(Str.empty++y++z++u).length<=sizeLine:=by rw[strLen_append,strLen_append,strLen_append,l,sizeLine_eq];lia
 exact⟨u,t3,rfl,U,U,.str (Str.empty++y++z++u),M,I3.tok _,⟨_,rfl⟩,q3⟩
def HJ:PD->Option PD
 |.int i=>if i.natAbs.log2<1920 then some (.str wT) else none
 |.str s=>if s.length<=100000 then some (.str s) else none
 |_=>none
def Rc(ha:re):DE X (.FormattedValue a (-1) none pos) (fun δ=>(f δ).bind HJ):=by
 obtain⟨ta,R,T⟩:=ha;refine⟨_,pP R,fun δ z U G0 H0 G H σ ts Q Z k=>?_⟩;obtain⟨x,Y,l⟩:=aA.mp U;refine T δ x Y G0 H0 G H σ ts _ Z fun u G1 H1 M=>?_;have I:=M.Aw (x,u) EQ;unfold HJ at l;split at l
 .split at l
  .rename_i hi;cases l;rw[Du]at I;subst I;exact .inl ⟨_,rfl,hi,k _ _ _ (M.drop.put GM)⟩
  .cases l
 .split at l
  .rename_i hi;cases l;rw[Du]at I;subst I;exact .inr ⟨_,rfl,by rw[sizeLine_eq];lia,k _ _ _ (M.drop.put GM)⟩
  .cases l
 .cases l
def Kv(x y:PD):vg:=match x,y with|.str s,.str t=>if s.length<=100000/\t.length<=100000 then some (.str (Str.empty++s++t)) else none|_,_=>none
def UK(x y z:PD):vg:=match x,y,z with|.str s,.str t,.str u=>if s.length<=100000/\t.length<=100000/\u.length<=100000 then some (.str (Str.empty++s++t++u)) else none|_,_,_=>none
abbrev jU(f g h:My):Dv->Option PD:=fun δ=>(f δ).bind fun x=>(g δ).bind fun y=>(h δ).bind fun z=>UK x y z
def tJ(ha:re):DE X (.JoinedStr [a] pos) f:=by
 obtain⟨ta,l,I⟩:=ha;exact⟨_,sm l,I⟩
def tR(ha:re)(hb:DE X b g):DE X (.JoinedStr [a,b] pos) (AF Kv f g):=by
 obtain⟨ta,Y,ka⟩:=ha;obtain⟨tb,U,Z⟩:=hb;refine⟨_,rz Y U,fun δ z hz G0 H0 G H σ ts Q R0 k=>?_⟩;obtain⟨x,y,h1,h2,l⟩:=two (x:=.none) (y:=.none) hz;unfold Kv at l;split at l
 .split at l
  .rename_i I;cases l;refine ka δ _ h1 G0 H0 G H σ ts _ R0 fun u G1 H1 T=>?_;have R:=T.Aw (_,u) EQ;rw[Du]at R;subst R;refine⟨_,rfl,I.1,Z δ _ h2 G0 H0 G1 H1 σ _ _ T.drop fun v G2 H2 R2=>?_⟩;have M:=R2.Aw (_,v) EQ;rw[Du]at M;subst M;exact⟨_,rfl,I.2,k _ _ _ (R2.drop.put GM)⟩
  .cases l
 .cases l
def tS(ha:re)(hb:DE X b g)(hc:DE X c h):DE X (.JoinedStr [a,b,c] pos) (jU f g h):=by
 obtain⟨ta,pa,ka⟩:=ha;obtain⟨tb,pb,kb⟩:=hb;obtain⟨tc,pc,kc⟩:=hc;refine⟨_,sN pa pb pc,fun δ z I G0 H0 G H σ ts Q R0 k=>?_⟩;obtain⟨x,h1,I⟩:=aA.mp I;obtain⟨y,h2,I⟩:=aA.mp I;obtain⟨w,h3,l⟩:=aA.mp I;unfold UK at l;split at l
 .split at l
  .rename_i M;cases l;refine ka δ _ h1 G0 H0 G H σ ts _ R0 fun u G1 H1 Z=>?_;have U:=Z.Aw (_,u) EQ;rw[Du]at U;subst U;refine⟨_,rfl,M.1,kb δ _ h2 G0 H0 G1 H1 σ _ _ Z.drop fun v G2 H2 R2=>?_⟩;have T:=R2.Aw (_,v) EQ;rw[Du]at T;subst T;refine⟨_,rfl,M.2.1,kc δ _ h3 G0 H0 G2 H2 σ _ _ R2.drop fun v G3 H3 Y=>?_⟩;have R:=Y.Aw (_,v) EQ;rw[Du]at R;subst R;exact⟨_,rfl,M.2.2,k _ _ _ (Y.drop.put GM)⟩
  .cases l
 .cases l
def oE(K:Fg):V->List V->Hp->VK->Prop:=fun x xs H Q=>∃s a ys,x=.str s/\xs=[.ref a]/\BR K H a (ys.map V.str)/\(ys.map (·.length)).sum+ys.length*s.length<=16777216/\Q (.str (Txt.join s ys)) H
def ff:Pr X "str.join" (oE X.K):=by
 intro pins s σ H x xs v us Q I M R h;obtain⟨z,q,ys,rfl,rfl,hq,hn,h⟩:=h;obtain⟨t,rfl⟩:=M;obtain⟨u,rfl,T⟩:=Vals.one R;cases T;obtain⟨Z,U,Y,_⟩:=I.list hq;exact join_list Y.isList (StrsAre.of_carried (by simpa using OX U)) hn fun l k=>⟨.str (Txt.join z ys),H,I.tok _,⟨l,rfl⟩,h⟩
def Eo:PD->PD->Option PD:=fun x y=>match x,y with
 |.str s,.list xs=>(strsOf xs).bind fun ys=>if(ys.map (·.length)).sum+ys.length*s.length<=16777216 then some (.str (Txt.join s ys)) else none
 |_,_=>none
def G8(ho:re)(ha:DE X e g) (M:attributeBase a "join" X.env wA=eval a X.env:=by rfl) (R:As=true:=by rfl) (I:v6=true:=by rfl)(hs:starEach [e] X.env=Ev::starEach [] X.env:=by rfl)(l:(backTo cp fz).any OR=false:=by rfl):DE X (.Call (.Attribute a "join" ap) [e] [] cp) (AF Eo f g):=by
 obtain⟨to,po,ko⟩:=ho;obtain⟨ta,pa,ka⟩:=ha;refine⟨_,FV bC PySem.F.slot_str_join PySem.F.type_str_join ff po zg M R I hs l,fun δ z hz G0 H0 G H σ ts Q R0 k=>?_⟩;obtain⟨x,y,h1,h2,T⟩:=two (x:=.none) (y:=.none) hz;refine ko δ x h1 G0 H0 G H σ ts _ R0 fun u G1 H1 R1=>?_;have du:=R1.Aw (x,u) EQ;unfold Eo at T;split at T
 .rename_i s xs;obtain⟨ys,h4,U⟩:=aA.mp T;have:=Th h4;subst this;split at U
  .rename_i hc;cases U;rw[Du]at du;subst du;refine⟨rfl,ka δ _ h2 G0 H0 G1 H1 σ _ _ R1 fun v G2 H2 R2=>?_⟩;have Z:=R2.Aw (_,v) EQ;rw[Du]at Z;obtain⟨p,us,rfl,hp,Y⟩:=Z;have:=VD Y;subst this;exact⟨s,p,ys,rfl,rfl,BR.of (R2.ins _ _ hp),hc,k _ _ _ zAu⟩
  .cases U
 .cases T
def PE.vH{e:Expr}{t:TE}(h:PE X e t):PE X e (fun σ H Q=>KTb X.mg H->t σ H Q):=fun pins s σ H Q I k=>h pins s σ H Q I (k I.kt)
abbrev Jg:PD:=.tuple [.str "x",.str "y",.str "z",.str "w"]
def O6(G:Hp)(d:Nat):Hp:=fun(b:Nat)=>if b=d then some (.tup Ji) else G b
def K2{G H:Hp}{d:Nat}(l:AY G H)(hd:H d=some (.tup Ji)):AY G (O6 G d):=fun b o e=>by
 unfold O6;split
 .rename_i z;subst z;have:=l _ _ e;rw[hd]at this;exact this
 .exact e
def OU{G:Hp}{d b:Nat}{o:HO}(e:O6 G d b=some o):G b=some o\/(b=d/\o=.tup Ji):=by
 unfold O6 at e;split at e
 .rename_i z;cases e;exact .inr ⟨z,rfl⟩
 .exact .inl e
def iR{G0 H0 G H:Hp}{σ:St}{δ:Dv}{ts:Of}{d:Nat}(R:Gf)(hd:H d=some (.tup Ji)):Rw G0 H0 (O6 G d) H σ δ ts where
 ext:=fun b o e=>K2 R.ins hd b o (R.ext b o e)
 new:=fun b o e=>by
  rcases OU e with h|⟨_,rfl⟩
  .exact R.new b o h
  .exact .inr (.inr ⟨_,rfl⟩)
 ins:=fun b o e=>by
  rcases OU e with h|⟨rfl,rfl⟩
  .exact R.ins b o h
  .exact hd
 keep:=R.keep
 len:=R.len
 dat:=fun i x h=>by
  obtain⟨v,h1,h2⟩:=R.dat i x h;exact⟨v,h1,h2.same (K2 R.ins hd)⟩
 own:=fun i xs h=>by
  obtain⟨a,ys,h1,h2,h3,h4,h5⟩:=R.own i xs h;refine⟨a,ys,h1,?_,h3,h4,h5.same (K2 R.ins hd)⟩;cases q:O6 G d a with
  |none=>rfl
  |some o=>
   rcases OU q with z|⟨rfl,rfl⟩
   .rw[h2]at z;cases z
   .rw[h4]at hd;cases hd;exact h5.P4.elim
 apart:=R.apart
 Aw:=fun p hp=>(R.Aw p hp).same (K2 R.ins hd)
def NS{d:AD}(I:Gl X "UNKNOWNS")(hm:X.mg "UNKNOWNS" = some (.ref d)):DE X (.Name "UNKNOWNS" p) (fC Jg):=by
 refine⟨_,(DZ (v:=.ref d) I hm rfl).vH,fun δ z l G0 H0 G H σ ts Q R k kt=>?_⟩;cases l;have hd:=kt.uE d hm;refine k _ _ _ ((iR R hd).put ?_);rw[Du];refine⟨d,Ji,rfl,if_pos rfl,?_⟩;rw[Ji];exact .cons GM (.cons GM (.cons GM (.cons GM .nil)))
end
end L2
namespace TH
open PySem PyProof.Rows PySem.SeqAt
abbrev N0(d:AD)(g n i:Nat):Obj:={ cls:=.type "dict_keyiterator",data:=.fields #[.ref d,.int (i:Int) 0,.int (n:Int) 0,.int (g:Int) 0]}
section
variable{prog:F0b}{w:F0c}{A:F0d}{E:ve}{s:SD}{d I:AD}{o:Obj}{es:Array DictEntry}{ep i:Nat}
def i7{Q:yx}{e:DictEntry}(M:s.heap.get? d=some o)(hd:o.data=.dict es ep)(l:s.heap.get? I=some (N0 d ep es.size i))(Y:es[i]? = some e) (h:∀h',h'.get? I=some (N0 d ep es.size Pi)->Heap.SameBut I s.heap h'->Q (some e.key) dL):wpAny By A (pyNext (.ref I)) Q E s:=by
 have g:s.TypeIs (.ref I) "dict_keyiterator" := ⟨_,l,rfl⟩;unfold pyNext;refine Wb bn;refine Wb (aB (Wb (Wb zBI)));refine Wb (wpAny_fieldsOf l rfl ?_);have q0:Builtin.Dict_items.ownsTuple "dict_keyiterator" = false:=by decide
 simp only[q0,Bool.false_eq_true,if_false];have U:¬zAW=true:=aL;show wpAny _ _ (if zAW=true then _ else _) _ _ s;rw[if_neg U];refine Wb (aB (Wb (wpAny_dictEntries M hd ?_)));rw[if_neg A1];refine Wb (aB (Wb (wpAny_dictEpoch M hd ?_)));rw[if_neg A1];refine aB ?_;have T:¬((i:Int)<0):=by lia
 simp only[T,if_false,Int.toNat_natCast,Y];refine Wb zBI;refine Wb (wpAny_isOneOf_keyiter g ?_);show wpAny _ _ (setField (.ref I) 1 (rawInt ((i:Int)+1))>>=_) _ _ s;refine Wb (wpAny_setField l rfl A1 ?_);have R:(s.heap.update I (Obj.mapFields (·.setIfInBounds 1 (rawInt ((i:Int)+1))))).get? I=some (N0 d ep es.size Pi):=Heap.get?_update_self _ l rfl;refine Wb (ao (Wb (wpAny_isOneOf_keyiter ⟨_,R,rfl⟩ ?_)));show wpAny _ _ (pure e.key) _ _ _;exact aB (aB ⟨_,rfl,wpAny_pure (h _ R (Heap.SameBut.update ..))⟩)
def gI{Q:yx}(hh:xR)(R:s.heap.get? d=some o)(hd:o.data=.dict es ep)(M:s.heap.get? I=some (N0 d ep es.size es.size)) (h:∀h',Heap.ExtBut I s.heap h'->Q none dL):wpAny By A (pyNext (.ref I)) Q E s:=by
 have g:s.TypeIs (.ref I) "dict_keyiterator" := ⟨_,M,rfl⟩;unfold pyNext;refine Wb bn;refine Wb (aB (Wb (Wb zBI)));refine Wb (wpAny_fieldsOf M rfl ?_);have q0:Builtin.Dict_items.ownsTuple "dict_keyiterator" = false:=by decide
 simp only[q0,Bool.false_eq_true,if_false];have Z:¬zAW=true:=aL;show wpAny _ _ (if zAW=true then _ else _) _ _ s;rw[if_neg Z];refine Wb (aB (Wb (wpAny_dictEntries R hd ?_)));rw[if_neg A1];refine Wb (aB (Wb (wpAny_dictEpoch R hd ?_)));rw[if_neg A1];refine aB ?_;have Y:¬((es.size:Int)<0):=by lia
 have U:es[es.size]? = none:=Array.getElem?_eq_none SL;simp only[Y,if_false,Int.toNat_natCast,U];refine Wb zBI;show wpAny _ _ (setField (.ref I) 0 .none>>=_) _ _ s;refine Wb (wpAny_setField M rfl A1 ?_);refine Wb ?_;simp only[newExc,newTuple];refine Wb (aY ?_ (by size_fits));refine Wb (m:=firstArgMember _ _) (bY (a:=Value.none) (by first|rfl|(simp only[firstArgMember];rfl)) (aY ?_ (by size_fits)));simp only[raiseNew];refine Wb (wpAny_handled ?_);have l:A.in1.handled=none:=hh;rw[l];refine Wb (aB (wpAny_throw ?_));refine Wb (wpAny_isInstance (b:=true) (T := "StopIteration") ⟨_,Heap.get?_push_size _ rfl,rfl⟩ isSubtype_stop ?_);exact aB (h _ (((Heap.SameBut.update ..).extBut.push _).push _))
def gF{Q:ve}(l:s.heap.get? I=some (N0 d ep es.size i))(h:Q (.ref I) s):wpAny By A (pyIter (.ref I)) Q E s:=by
 have g:s.TypeIs (.ref I) "dict_keyiterator" := ⟨_,l,rfl⟩;refine wpAny_pyIter_slot g F.slot_dict_keyiterator_iter (bA F.slot_dict_keyiterator_iter g F.entry_dict_keyiterator_iter ?_ (F.args_dict_keyiterator_iter_1 _));show wpAny _ _ (ret (.ref I)) _ _ s;exact aB ⟨_,rfl, "dict_keyiterator",_,g,F.slot_dict_keyiterator_next.lookup,h⟩
def gE{Q:ve}(hs:(d==sysModules)=false)(g:s.heap.get? d=some o)(M:o.cls=.type "dict")(hd:o.data=.dict es ep)(h:Q N7 {s with heap:=s.heap.push (N0 d ep es.size 0)}):wpAny By A (pyIter (.ref d)) Q E s:=by
 have l:s.TypeIs (.ref d) "dict" := ⟨o,g,M⟩;refine wpAny_pyIter_slot l F.slot_dict_iter (bA F.slot_dict_iter l F.entry_dict_iter ?_ (F.args_dict_iter_1 _));unfold Builtin.«dict.__iter__»;refine Wb ?_;unfold Builtin.Dict.dictSlotNone;refine Wb (wpAny_notOrdered_dict l (show wpAny _ _ (pure (Value.ref d)) _ _ s from aB ?_));have hn:¬(d==sysModules)=true:=by rw[hs];exact aL
 show wpAny _ _ (Builtin.Dict.showsAll d>>=_) _ _ s;unfold Builtin.Dict.showsAll;rw[if_neg hn];refine Wb (aB (Wb (wpAny_dictEntries g hd (Wb (wpAny_dictEpoch g hd ?_)))));exact Wb (aY (aB ⟨_,rfl, "dict_keyiterator",_,⟨_,Heap.get?_push_size _ rfl,rfl⟩,F.slot_dict_keyiterator_next.lookup,h⟩))
def Y5(hh:xR)(hne:d≠I)(hd:o.data=.dict es ep) :
  Walks prog w A I [I,d] [I] es.size (fun i v=>∃e,es[i]? = some e/\v=e.key) (fun i h=>h.get? I=some (N0 d ep es.size i)/\h.get? d=some o) where
 sub:=fun b hb=>by simp at hb;simp[hb]
 frame:=fun _ _ _ x k=>⟨k I A1 _ x.1,k d A1 _ x.2⟩
 item:=fun i s Q E hi x hQ=>by
  have hx:es[i]? = some es[i]:=Array.getElem?_eq_getElem hi;refine i7 x.2 hd x.1 hx fun h' g sb=>hQ _ h' s.toks ⟨_,hx,rfl⟩ ⟨g,(sb.2 d hne).trans x.2⟩ fun b u hb e=>?_;rw[sb.2 b fun q=>hb (by simp[q])];exact e
 done:=fun s Q E x hQ=>gI hh x.2 hd x.1 fun h' eb=>hQ h' s.toks fun b u hb e=>eb b u (fun q=>hb (by simp[q])) e
 self:=fun _ _ _ _ x hQ=>gF x.1 hQ
def i4(hs:(d==sysModules)=false)(hc:o.cls=.type "dict")(hd:o.data=.dict es ep):PySem.W.KdlSrc prog w "dict" d d es.size (fun i v=>∃e,es[i]? = some e/\v=e.key) (fun h=>h.get? d=some o) where
 type:=fun _ ho=>⟨o,ho,hc⟩
 there:=fun _ ho=>⟨aE ho,Heap.lt_size ho⟩
 keep:=fun _ _ ho k=>k d bv _ ho
 notList:=by decide
 notTuple:=by decide
 hint:=fun _ _ s _ ho h=>PySem.W.kdl_hint_dict ⟨o,ho,hc⟩ h
 iter:=fun A s hh ho=>⟨N0 d ep es.size 0,_,(fun E Q h=>gE hs ho hc hd h),Y5 hh (aP (aE ho)) hd,⟨aa _ rfl,Heap.get?_push_of_some _ ho⟩⟩
end
end TH
namespace IT
open PySem PySem.W PyProof.Rows PySem.SeqAt
def QN(h:Heap)(k:vj)(v:VL):Prop:=∃(a:AD) (g:S0),v=.ref a/\h.IsTuple a g.toArray/\Is k g/\k≠[]
def QN.ext{h h':Heap}(e:GS.Ext h h'){k:vj}{v:VL}(x:QN h k v):QN h' k v:=by
 obtain⟨a,i1,rfl,I,l,g⟩:=x;exact⟨a,i1,rfl,TH.k9 e I,l,g⟩
section
open PySem.MeetsSeq PySem.MeetsSeq2 PySem.MeetsSeq3
variable{prog:F0b}{w:F0c}{A:F0d}{s:SD}
def lt_int{b:Bool}{x y:Int}{t u:Tok}{Q:Bool->SD->Prop}{E:ve}(h:Q (decide (x<y)) s):wpAny By A (oneLt' b (.int x t) (.int y u)) Q E s:=by
 cases b with
 |true=>exact oneLt_int h
 |false=>
  rw[oneLt'_eq];simp only[Bool.false_eq_true,if_false];exact Wb (wpAny_lt_int (wpAny_truthy_bool h))
theorem fP{b fin:Bool}{Q:Bool->SD->Prop}:∀(x y:mo) (us vs:S0) (i:Nat),Is x us->Is y vs->fin=decide (x.length<y.length)->Q (lt x y) s->KatLex prog w A b fin Q (us.zip vs) i s
 |[],y,us,vs,i,l,g,I,q=>by
  rw[Is]at l;subst l;rw[List.zip_nil_left];refine kat_nil ?_;cases y with
  |nil=>rw[I];exact q
  |cons c y=>rw[I,decide_eq_true A1];exact q
 |a::x,[],us,vs,i,l,g,I,q=>by
  rw[Is]at g;subst g;rw[List.zip_nil_right];refine kat_nil ?_;rw[I,decide_eq_false A1];exact q
 |a::x,c::y,us,vs,i,l,g,I,q=>by
  rw[Is]at l g;obtain⟨t,us,rfl,l⟩:=l;obtain⟨M,vs,rfl,g⟩:=g;rw[List.zip_cons_cons];refine kat_cons (EqAt.int_int a t c M prog w _ _ ?_);rw[lt]at q;by_cases e:a=c
  .rw[if_pos e]at q;rw[beq_iff_eq.mpr e];refine kat_yes (fP x y us vs Pi l g (by rw[I];simp) q)
  .rw[if_neg e]at q;rw[beq_eq_false_iff_ne.mpr e];exact kat_no (lt_int q)
def og{x y:vj}{u v:VL}{Q:Bool->SD->Prop}{E:ve}{b:Bool}(h1:QN s.heap x u)(Z:QN s.heap y v)(h:Q (lt x y) s):wpAny By A (keyLt' (tuples' b) u v) Q E s:=by
 obtain⟨a,i1,rfl,T,M,k3⟩:=h1;obtain⟨a',j1,rfl,R,I,m3⟩:=Z;obtain⟨o,U,hc,n,hd⟩:=id T;obtain⟨o2,g,Y,n2,l⟩:=id R;refine kat_lt U hd g l ?_;exact fP x y _ _ 0 M I (by rw[<-M.length,<-I.length];simp) h
theorem CP{h:Heap}:∀ {us:S0},(∀v∈us,∃x,QN h x v)->∃fs,KatTups h us fs/\fs.length=us.length/\∀v∈fs,∃n t,v=.int n t
 |[],_=>⟨[],KatTups.nil,rfl,fun _ h=>by cases h⟩
 |v::us,e=>by
  obtain⟨fs,h1,Z,Y⟩:=CP (us:=us) fun v g=>e v (aT _ g);obtain⟨x,a,R,rfl,M,l,I⟩:=e v bK;obtain⟨o,T,U,n,hd⟩:=id M;cases x with
  |nil=>exact absurd rfl I
  |cons c x=>
   rw[Is]at l;obtain⟨t,rest,rfl,l⟩:=l;exact⟨.int c t::fs,KatTups.cons T U hd rfl h1,by simp[Z],fun v g=>by
    rcases aI.mp g with rfl|g
    .exact⟨c,t,rfl⟩
    .exact Y v g⟩
def nK{h0:Heap}{ks:List vj}{us:vd}(U:us.length=ks.length)(he:∀(i:Nat) (x:vj) (u:VL),ks[i]? = some x->us[i]? = some u->QN h0 x u):GS.XW ord prog w h0 0 ks us :=
 ⟨U,fun κ=>∃b,κ=tuples' b,fun A E s Q I h=>by
  obtain⟨fs,t1,R,t3⟩:=CP (h:=s.heap) (us:=us) fun v g=>by
   obtain⟨i,hi,rfl⟩:=List.getElem_of_mem g;exact⟨_,(he i _ _ (bE AC) (bE hi)).ext I⟩
  by_cases l:us=[]
  .subst l;exact TH.XT (us:=[]) (fun v g=>by cases g) (h _ ⟨_,rfl⟩)
  refine kat_kind (T:=.type "int") t1 (by rw[R];exact List.length_pos_iff.mpr l) (fun v g=>?_) AS (h _ ⟨_,rfl⟩);obtain⟨n,t,rfl⟩:=t3 v g;exact Looks.now,
  fun A s κ I hr M E i j x y u v Q h1 h2 Z Y q=>by
  obtain⟨b,rfl⟩:=M;exact og ((he i x u Z h1).ext I) ((he j y v Y h2).ext I) q⟩
end
end IT
namespace GS
open PySem PySem.W PyProof.Rows PySem.SeqAt TH
section
variable{prog:F0b}{w:F0c}{A:F0d}{E:ve}{s:SD}{us:vd}
def Uq{d:AD}{o:Obj}{I:Array DictEntry}{ep:Nat}(hs:(d==sysModules)=false)(ho:s.heap.get? d=some o)(hc:o.cls=.type "dict")(T:o.data=.dict I ep)(hA:xR) (Y:I.toList.map (·.key)=us)(hz:us.length<=1000):SE prog w A E s (.ref d) us:=fun Q h=>by
 have hes:I.size=us.length:=by rw[<-Y,wk,(Vg)]
 refine gather (A:=A) (i4 hs hc T) hA ho (by rw[sizeLine_eq];lia) fun h1 tk g z1 k1 l=>?_;have U:g.toList=us:=by
  rw[<-Y];apply bO;intro j;rw[xZ];by_cases R:j<g.size
  .have Z:g[j]? = some g[j]:=Array.getElem?_eq_getElem R;obtain⟨e,e2,e3⟩:=l.2 j _ Z;rw[(SV),Z,(SV),e2,e3]
   rfl
  .have M:¬j<I.size:=by rw[<-l.1];exact R
   rw[List.getElem?_eq_none (by simpa using R),List.getElem?_eq_none (by simpa using M)]
   rfl
 rw[U];exact h h1 tk k1 (Nat.le_of_lt z1)
end
end GS
namespace L2
open PySem PySem.Spec PyProof.Rows
section
variable{X:Cx}{a b e:Expr}{f g h:va}{pos pos' p cp sp np:Pos}{i:Nat}{y:Str}
def Zm(ha:re)(hb:DE X b g)(hN:nn)(T:X.N[i]? = some y)(hx:Loc X.env.scope y) (hs:swapsWith (.BinOp a .Mult b cp) (some (.Name y pos')) pos.line X.env=pure false:=by rfl)(hf:X.fn y=true\/X.env.scope.names.lookup y=some .local:=by first|exact .inl rfl|exact .inr rfl|assumption):DS X (.Assign [.Name y pos'] (.BinOp a .Mult b cp) pos) (JO i (AF Lc f g)):=by
 obtain⟨ta,pa,ka⟩:=ha;obtain⟨tb,pb,kb⟩:=hb;refine⟨_,D9 hN T hx (K1 Z8 pa pb) hs hf,fun δ r hz G0 H0 G H σ D R q=>?_⟩;obtain⟨z,h1,h2⟩:=aA.mp hz;obtain⟨x,y,h3,h4,I⟩:=two (x:=.none) (y:=.none) h1;refine ka δ x h3 G0 H0 G H σ [] _ R fun u G1 H1 R1=>?_;refine kb δ y h4 G0 H0 G1 H1 σ _ _ R1 fun v G2 H2 R2=>?_;have Z:=R2.Aw (x,u) zBA;have Y:=R2.Aw (y,v) EQ;unfold Lc at I;split at I
 .split at I
  .rename_i hl;cases I;cases h2;rw[Du]at Z;rw[Du]at Y;obtain⟨p,xs,rfl,k1,U⟩:=Z;subst Y;exact⟨p,_,xs,rfl,rfl,R2.ins _ _ k1,by lia,by lia,DR (by rw[U.len];exact hl.1),fun l M=>q _ _ _ (R2.drop.drop.Lz ⟨_,rfl,U.rep _⟩ M)⟩
  .cases I
 .cases I
def uQ(K:Fg):V->V->Hp->VK->Prop:=fun x y H Q=>∃p xs i v,x=.ref p/\y=.int i/\BR K H p xs/\0<=i/\xs[i.toNat]? = some v/\Q v H
def gO:pQ X (uQ X.K):=by
 intro pins s σ H o i ov iv Q I R T h;obtain⟨p,xs,k,v,rfl,rfl,Z,h0,M,q⟩:=h;cases R;obtain⟨t,rfl⟩:=T;obtain⟨Y,r,U,hz⟩:=I.list Z;obtain⟨w,ew,l⟩:=r.get M;have hn:=KL;have hj:=(aF.mp M).1;exact wpAny_getItem_list U.isList h0 AC (by simpa using ew) ⟨v,H,I,l,q⟩
abbrev UT(i:Nat)(g f:My):DF:=fun δ=>(g δ).bind fun n=>(f δ).bind fun y=>(ow i δ).bind fun xs=>(MH n).bind fun m=>(MH y).bind fun d=>(xs[m.toNat]?.bind MH).bind fun o=>if 0<=m then(IC xs.length m).map fun j=>.nx (δ.set i (.own (.lst (xs.set j (.int (o+d)))))) else none
def j3(hv:PE X (.Name y np) (DV i))(hk:DE X a g)(he:xT)(ha:∀I U new,augStore a I U new=(do holding [new,I,U] (setItem I U new);release [new,I,U] [];pure .next):=by intros;rfl) :
  DS X (.AugAssign (.Subscript (.Name y np) a sp) .Add e pos) (UT i g f):=by
 obtain⟨te,pe,ke⟩:=he;obtain⟨tk,pk,kk⟩:=hk;refine⟨_,kN hv pk gO pe pO set_list ha,fun δ r h G0 H0 G H σ D R q=>?_⟩;obtain⟨n,h1,h⟩:=aA.mp h;obtain⟨y,h2,h⟩:=aA.mp h;obtain⟨xs,h3,h⟩:=aA.mp h;obtain⟨m,h4,h⟩:=aA.mp h;obtain⟨d,h5,h⟩:=aA.mp h;obtain⟨o,h6,h⟩:=aA.mp h;split at h
 case isFalse=>cases h
 rename_i h0;obtain⟨j,h7,rfl⟩:=aC.mp h;obtain⟨od,h8,h9⟩:=aA.mp h6;have:=Ke h4;subst this;have:=Ke h5;subst this;have:=Ke h9;subst this;have hi:=Hw h3;obtain⟨ad,_,T,k2,k3,k4,⟨ys,rfl,k5⟩⟩:=R.own i _ hi;refine⟨.ref ad,T,?_⟩;refine kk δ _ h1 G0 H0 G H σ _ _ R fun v G1 H1 R1=>?_;have dv:=R1.Aw (.int m,v) EQ;rw[Du]at dv;subst dv;obtain⟨ad',_,l,m2,m3,Z,⟨Y,rfl,M⟩⟩:=R1.own i _ hi;rw[T]at l;cases l;obtain⟨w,n1,n2⟩:=M.get h8;rw[Du]at n2;subst n2;refine⟨ad,Y,m,_,rfl,rfl,BR.of Z,h0,n1,?_⟩;refine ke δ _ h2 G0 H0 G1 H1 σ _ _ R1 fun u G2 H2 R2=>?_;have du:=R2.Aw (.int d,u) EQ;rw[Du]at du;subst du;refine⟨o,d,rfl,rfl,?_⟩;obtain⟨ad',_,l,m2,m3,Z,⟨Y,rfl,M⟩⟩:=R2.own i _ hi;rw[T]at l;cases l;refine⟨ad,Y,m,j,rfl,rfl,Z,by rw[M.len];exact h7,?_⟩;exact q _ _ _ (R2.drop.drop.K0 hi T ⟨_,rfl,M.set GM j⟩)
end
def Rg(I l:Nat)(set:XN)(g:vb)(f:va)(fr:v8)(fs:vZ)(δ:Dv):Option vc :=
 (fs δ).bind fun xs=>(Cf l δ).bind fun kvs=>(collect (E4 set g f ((Bp fr δ).set I ss)) xs).bind CH
def L1(I l:Nat)(set:XN)(g:vb)(f:va)(fr:v8)(fs:vZ)(δ:Dv):vg :=
 (Rg I l set g f fr fs δ).map .list
def U6{fr:v8}{σ:St}{I l:Nat}{x:Option V}(g:fr[I]? = some (some l))(h:σ[l]? = some x):(carry fr σ)[I]? = some x:=by
 unfold carry;rw[xZ,g];simp[h]
def Tz{fr:v8}{δ:Dv}{g M:Nat}{l:L}(I:fr[g]? = some (some M)):((Bp fr δ).set g l)[g]? = some l:=by
 have:g<(Bp fr δ).length:=by
  have:=(aF.mp I).1
  simpa[Bp]using this
 simp[this]
def Rw.nA{G0 H0 G H:Hp}{σ:St}{δ:Dv}{ts:Of}{fr:v8}{I T:Nat}{kvs:Sc}{ad:AD}(r:Gf)(R:fr[I]? = some (some T))(U:δ[T]? = some ss)(ha:σ[T]? = some (some (.ref ad))):Rw G (L2.less H ad) G H (carry fr σ) ((Bp fr δ).set I ss) ts:=by
 have Z:=r.inner fr;have at_:∀(i:Nat) (l:L),((Bp fr δ).set I ss)[i]? = some l->(i=I/\l=.own (.Cf kvs))\/(i≠I/\(Bp fr δ)[i]? = some l):=fun i l h=>by
  by_cases e:i=I
  .subst e;rw[Tz R]at h;cases h;exact .inl ⟨rfl,rfl⟩
  .rw[List.getElem?_set_ne (Ne.symm e)]at h;exact .inr ⟨e,h⟩
 have g:∀(i:Nat) (xs:Oc),(Bp fr δ)[i]?≠some (L.own xs):=fun i xs h=>by
  unfold Bp at h;rw[xZ]at h;obtain⟨o,_,M⟩:=aC.mp h;split at M
  .split at M<;>cases M
  .cases M
 obtain⟨a,oc,k1,k2,k3,k4,k5⟩:=r.own T _ U;rw[ha]at k1;cases k1;refine⟨AY.refl _,Nw.refl,r.ins,fun b o h=>?_,by simpa using Z.len,fun i x h=>?_,fun i xs h=>?_,fun i j xs ys Y h1 M=>?_,r.Aw⟩
 .unfold L2.less at h;split at h
  .cases h
  .exact h
 .rcases at_ i _ h with ⟨_,z⟩|⟨_,z⟩
  .cases z
  .exact Z.dat i x z
 .rcases at_ i _ h with ⟨rfl,z⟩|⟨_,z⟩
  .cases z;exact⟨ad,oc,U6 R ha,k2,lP,k4,k5⟩
  .exact absurd z (g i xs)
 .rcases at_ i _ h1 with ⟨rfl,_⟩|⟨_,z⟩
  .rcases at_ j _ M with ⟨rfl,_⟩|⟨_,z⟩
   .exact absurd rfl Y
   .exact absurd z (g j ys)
  .exact absurd z (g i xs)
def Rw.jQ{G0 H0 G H G' H':Hp}{σ l:St}{δ I:Dv}{ts ti:Of}{Y M:Nat}{kvs:Sc}{ad:AD}(r:Gf)(g:δ[M]? = some ss)(ha:σ[M]? = some (some (.ref ad)))(hoi:I[Y]? = some ss)(Z:l[Y]? = some (some (.ref ad))) (q:Rw G (L2.less H ad) G' H' l I ti):Rw G0 H0 G' H' σ δ ts:=by
 obtain⟨a,oc,k1,k2,k3,k4,k5⟩:=r.own M _ g;rw[ha]at k1;cases k1;obtain⟨a,oq,m1,m2,m3,m4,m5⟩:=q.own Y _ hoi;rw[Z]at m1;cases m1;have hH:∀b o,b≠ad->H b=some o->H' b=some o:=fun b o n h=>q.keep _ _ (by rw[Oj n];exact h);refine⟨r.ext.trans q.ext,fun b o h=>?_,q.ins,fun b o h=>?_,r.len,fun i x h=>?_,fun i xs h=>?_,r.apart,fun p hp=>(r.Aw p hp).same q.ext⟩
 .have nb:b≠ad:=fun z=>by subst z;rw[m2]at h;cases h
  rcases q.new b o h with z|z|z
  .exact r.new b o z
  .right;left
   rw[Oj nb]at z;cases w:H0 b with
   |none=>rfl
   |some u=>rw[r.keep _ _ w]at z;cases z
  .exact .inr (.inr z)
 .exact hH b o (fun z=>by subst z;rw[k3]at h;cases h) (r.keep _ _ h)
 .obtain⟨v,R,U⟩:=r.dat i x h;exact⟨v,R,U.same q.ext⟩
 .by_cases e:i=M
  .subst e;rw[g]at h;cases h;exact⟨ad,oq,ha,m2,k3,m4,m5⟩
  .obtain⟨b,ys,R,U,n3,T,n5⟩:=r.own i xs h;have nb:b≠ad:=fun z=>by subst z;exact r.apart i M _ _ e h g (R.trans ha.symm)
   refine⟨b,ys,R,?_,n3,hH _ _ nb T,n5.same q.ext⟩;cases w:G' b with
   |none=>rfl
   |some u=>
    rcases q.new b u w with z|z|⟨xs',z⟩
    .rw[U]at z;cases z
    .rw[Oj nb,T]at z;cases z
    .have:=q.ins _ _ w;rw[hH _ _ nb T,z]at this;cases this;exact n5.P4.elim
section
variable{X:Cx}{elt iter:Expr}{x y:Str}{px pos:Pos}{ifs:vp}{scope:yB}{fs:vZ}{tif:vb}{f:va}
def ZO{wi:TI}{ix jj jo:Nat}{fr:v8}(hfr:fr[jj]? = some (some jo))(hij:ix≠jj)(ki:LD){δ:Dv}{zs:vc}(hz:Rg jj jo (Bw ix) tif f fr fs δ=some zs){G0 H0 G H:Hp}{σ:St}{ts:Of}{Q:VK}(R0:Gf)(k:KB):Hi wi fr ix (WB tif) (tD f) σ H Q:=by
 unfold Rg at hz;obtain⟨xs,m2,m3⟩:=aA.mp hz;obtain⟨kvs,hk0,m3⟩:=aA.mp m3;have M:=Qv hk0;obtain⟨full,m4,m5⟩:=aA.mp m3;obtain⟨rfl,hfew⟩:=KI m5;refine ki δ xs m2 G0 H0 G H σ ts _ R0 fun J Ga Ha Ra it D hD=>?_;have hGD:Ga D=none:=by
  cases q:Ga D with
  |none=>rfl
  |some u=>rw[Ra.ins _ _ q]at hD;cases hD
 have l:H0 D=none:=by
  cases q:H0 D with
  |none=>rfl
  |some u=>rw[Ra.keep _ _ q]at hD;cases hD
 have g:∀(j:Nat) (us:Oc),δ[j]? = some (L.own us)->σ[j]?≠some (some (V.ref D)):=fun j us h z=>by
  obtain⟨a,ys,Z,k2,k3,k4,k5⟩:=Ra.own j us h;rw[z]at Z;cases Z;rw[k4]at hD;cases hD
 refine XS (n:=xs.length) (Rt G0 H0 Ga σ δ ts (E4 (Bw ix) tif f ((Bp fr δ).set jj ss)) xs full D) ⟨⟨Ga,[],full,Ra.other hGD l g,AY.refl _,hGD,by simpa using m4,rfl,.nil⟩,l,g⟩ ?_ ?_
 .rintro i ys H1 T ⟨⟨G1,done,rest,R1,s1,g1,c1,e1,d1⟩,_,_⟩ Y;have hx:xs[i]? = some xs[i]:=by simp[T]
  have sH:=s1.trans R1.ins;have hyl:ys.length<sizeLine:=ML (by
   rw[d1.len];have:done.length<=full.length:=by rw[<-e1];simp
   lia)
  refine⟨it.go i _ H1 hx sH,hyl,fun v H' y=>?_⟩;obtain⟨G2,n1,n2,n3,n4,n5⟩:=it.FE i _ H1 v H' hx sH y G1 s1 R1.ins;have R2:=R1.lift n1 n2 n3 n4;have hD2:=n4 _ _ Y;have g2:G2 D=none:=Mk g1 Y n2 n3 n4;rw[List.drop_eq_getElem_cons T]at c1;unfold collect at c1;obtain⟨o,c2,c3⟩:=aA.mp c1;obtain⟨I,c4,rfl⟩:=aC.mp c3;unfold E4 Bw at c2;simp only[Option.bind_some]at c2;obtain⟨b,c5,c6⟩:=aA.mp c2;obtain⟨ad,oc,Z,k2,k3,k4,k5⟩:=R2.own jo _ M;have nD:D≠ad:=fun z=>g jo _ M (by rw[z];exact Z);have U:less H' ad D=some KM:=by rw[Oj nD];exact hD2
  have Ri:=((R2.nA hfr M Z).put n5).HH (i:=ix);have Ri0:Rw G2 (less H' ad) G2 H' ((carry fr σ).set ix tz) (((Bp fr δ).set jj ss).set ix (.d xs[i])) []:=Ri.less fun q hq=>by cases hq
  have hoi:((((Bp fr δ).set jj ss).set ix (.d xs[i])):Dv)[jj]? = some ss:=by
   rw[List.getElem?_set_ne hij];exact Tz hfr
  have hsi:((carry fr σ).set ix tz)[jj]? = some (some (.ref ad)):=by
   rw[List.getElem?_set_ne hij];exact U6 hfr Z
  refine⟨_,b,G2,less H' ad,G2,[],c5,Ri0,fun G3 H3 R3=>?_⟩;have R3o:=R2.jQ M Z hoi hsi R3;have hD3:=R3.keep _ _ U;have g3:G3 D=none:=Mk g2 U R3.new R3.ins R3.keep;dsimp only;split
  .rename_i hb;rw[if_pos hb]at c6;obtain⟨w,c7,rfl⟩:=aC.mp c6;refine⟨_,w,G2,less H' ad,G3,[],c7,R3,fun u G4 H4 R4=>?_⟩;have R4o:=R2.jQ M Z hoi hsi R4;have hD4:=R4.keep _ _ U;have g4:G4 D=none:=Mk g2 U R4.new R4.ins R4.keep;refine⟨hD4,Sj T ⟨⟨G4,done++[w],I,R4o.other g4 l g,s1.trans (n1.trans R4.ext),g4,c4,by simpa using e1,(d1.same (n1.trans R4.ext)).app (.cons (R4.Aw _ EQ) .nil)⟩,l,g⟩⟩
  .rename_i hb;rw[if_neg hb]at c6;cases c6;exact SF T hD3 ⟨⟨G3,done,I,R3o,s1.trans (n1.trans R3.ext),g3,c4,by simpa using e1,d1.same (n1.trans R3.ext)⟩,l,g⟩
 .rintro ys H1 ⟨⟨G1,done,rest,R1,s1,g1,c1,e1,d1⟩,_,_⟩ Y;refine⟨it.stop H1 (s1.trans R1.ins),?_⟩;rw[List.drop_length]at c1;cases c1;rw[(GZ)]at e1;subst e1;exact k _ _ _ _ R1 Y g1 l g d1
def iM(N:vo)(ix:Nat)(fr:v8)(g Y:Nat)(hi:yK)(I:zAx)(he:zBZ) (M:fr[g]? = some (some Y):=by rfl)(l:ix≠g:=by decide) (h1:Bu scope N x ix=true:=by decide +kernel)(h2:X.calm=true:=by rfl)(h3:Dj N X.N scope X.env.scope fr 0=true:=by rfl)(h4:fr.length=N.length:=by rfl)(h5:freeOk X.env.scope scope.names=true:=by rfl) (hs:∀x,foldedSetIterable iter X.env x=pure x:=by intro _;rfl):DE X B1 (L1 g Y (Bw ix) tif f fr fs):=by
 obtain⟨wi,pi,ki⟩:=hi;refine⟨_,WZ N ix fr pi I Pl h1 h2 h3 h4 h5 hs,fun δ z Z G0 H0 G H σ ts Q R0 k=>?_⟩;unfold L1 at Z;obtain⟨full,m1,rfl⟩:=aC.mp Z;refine ZO M l ki m1 R0 fun D ys G1 H1 R1 U g1 T R d1=>?_;have e:AY G1 (upd G1 D KM):=B7 g1 _;have R2:=R1.adopt U g1 T R;refine k _ _ _ (R2.put ?_);rw[Du];exact⟨D,ys,rfl,An,d1.same e⟩
end
def jt(H:Hp)(x:V)(Q:VK):Prop:=∃(a:AD) (kvs:NE) (ps:List (List Int)),x=.ref a/\H a=some (.dT kvs)/\kvs.length<=1000/\(∀prog w,GS.Runs IT.ord prog w ps)/\(∀p∈ps,p≠[])/\kvs.map OR=ps.map (·.map Sum.inl) /\
 ∀(D:AD) (L:List (List Int×AD)),H D=none->(L.map OR).Perm ps->L.Pairwise (fun p q=>IT.ord.kle p.1 q.1)->(∀l∈L,H l.2=some (.tup (l.1.map V.int)))->Q (.ref D) (upd H D (.lst (L.map fun l=>V.ref l.2)))
def cj{X:Cx}{pins:Cl}{σ:St}{H:Hp}{s:SD}{Q:VK}(I:Db){x:V}{v:VL}(rx:RelV x v)(hu:ZB)(hc:dO)(q:jt H x Q):wpAny AT X.A (call zAY [v]) Ix X.xe s:=by
 obtain⟨a,kvs,ps,rfl,ha,hk,hr,hne,hps,q⟩:=q;cases rx;obtain⟨hz,nd,xs,kt,o,es,ep,r1,r2,r3,r4,r5,r6⟩:=i9 I.Ay ha;have hlen:es.size=kvs.length:=by rw[size_of_entries r4];exact(Paired.length kt).symm
 have R:ps.length=kvs.length:=by
  have:=aH List.length hps
  simpa using this.symm
 have M:xs.length=kvs.length:=(Paired.length kt).symm
 let g:List (List Int×AD):=ps.zip (xs.map (·.2.1))
 have hL:g.length=kvs.length:=by simp[g,R,M]
 have l1:g.map OR=ps:=by
  show(ps.zip _).map Prod.fst=ps;exact List.map_fst_zip (by simp[R,M])
 have l2:g.map zm=xs.map (·.2.1):=by
  show(ps.zip _).map Prod.snd=_;exact List.map_snd_zip (by simp[R,M])
 have hkey:es.toList.map (·.key)=g.map fun l=>Value.ref l.2:=by
  have:(g.map fun l=>Value.ref l.2)=(g.map zm).map Value.ref:=by simp
  rw[this,l2];apply bO;intro j;rw[xZ,(SV),entry_at r4 j,(Cu),xZ];cases xs[j]? <;> rfl
 have hin:∀l∈g,H l.2=some (.tup (l.1.map V.int)):=fun l hl=>by
  obtain⟨j,U⟩:=List.getElem?_of_mem hl;have Y:(g.map OR)[j]? = some l.1:=by rw[xZ,U];rfl
  have Z:(g.map zm)[j]? = some l.2:=by rw[xZ,U];rfl
  rw[l1]at Y;rw[l2,xZ]at Z;obtain⟨y,hy,e⟩:=aC.mp Z;have hjk:j<kvs.length:=by rw[<-M];exact(aF.mp hy).1
  obtain⟨kv,hkv⟩:∃kv,kvs[j]? = some kv:=⟨kvs[j],by simp[hjk]⟩;have T:=Te kt hkv hy;have h3:kv.1=l.1.map Sum.inl:=by
   have:=aH (·[j]?) hps;simp only[List.getElem?_map,hkv,Y]at this;exact aQ this
  have h4:H y.2.1=some (.tup (kv.1.map kV)):=T.1 ▸ T.2.1
  rw[e,h3,qR]at h4;exact h4
 have C:GS.XW IT.ord X.prog X.w s.heap 0 ps (g.map fun l=>Value.ref l.2):=IT.nK (by rw[wk,hL,R]) fun i x u Y Z=>by
  have Y:(g.map OR)[i]? = some x:=by rw[l1];exact Y
  rw[xZ]at Y Z;obtain⟨l,e1,rfl⟩:=aC.mp Y;rw[e1]at Z;cases Z;have hm:=ar e1;obtain⟨its,v1,T,_⟩:=I.tuple (B2.of (K:=X.K) (hin l hm));exact⟨_,its,rfl,T,US v1,hne _ (l1 ▸ aN.mpr ⟨l,hm,rfl⟩)⟩
 refine GS.Vn ([]:List Int) (GS.Uq (A:=X.A.in1) nd r1 r2.1 r3 (show X.A.in1.handled=none from I.ok.hd hc) hkey (by rw[wk,hL];exact hk)) C (by rw[wk,hL];exact hk) (show GS.Runs IT.ord X.prog X.w ps from hr _ _) AC fun h' D tk ix e1 hD k1 gD T p2=>?_;rw[wk]at T
 let L:List (List Int×AD):=ix.map fun i=>g.getD i ([],0)
 have hix:∀i∈ix,i<g.length:=fun i hi=>bD.mp (T.mem_iff.mp hi);have hp:L.Perm g:=by
  have:=T.map fun i=>g.getD i ([],0);refine this.trans (List.Perm.of_eq ?_);apply bO;intro j;rw[xZ];by_cases U:j<g.length
  .rw[List.getElem?_range U];simp[U]
  .rw[List.getElem?_eq_none (by simpa using U),List.getElem?_eq_none (by simpa using U)]
   rfl
 have e3:ix.map (fun i=>(g.map fun l=>Value.ref l.2).getD i Value.none)=L.map fun l=>Value.ref l.2:=by
  rw[(Cu)];refine ak fun i hi=>?_;have:=hix i hi;simp[this]
 have e4:ix.map (fun i=>ps.getD i [])=L.map OR:=by
  rw[<-l1,(Cu)];refine ak fun i hi=>?_;have:=hix i hi;simp[this]
 rw[e3]at gD;have p2:(L.map OR).Pairwise (fun x y:List Int=>IT.ord.kle x y):=e4 ▸ (show(ix.map fun i=>ps.getD i []).Pairwise (fun x y:List Int=>IT.ord.kle x y) from p2)
 clear_value L
 have e5:(L.map fun l=>Value.ref l.2)=(L.map zm).map Value.ref:=by rw[(Cu)];rfl
 have e6:(L.map fun l=>V.ref l.2)=(L.map zm).map V.ref:=by rw[(Cu)];rfl
 exact⟨.ref D,upd H D (.lst (L.map fun l=>V.ref l.2)),I.laid (t':=tk) k1 hD ⟨by rw[wk,hp.length_eq,hL];exact hz,L.map (fun l=>Value.ref l.2),e1,by rw[e5,e6];exact S9 _,gD⟩,rfl,q D L (I.Ay.fresh hD) (by rw[<-l1];exact hp.map _) (List.pairwise_map.mp p2) fun l hl=>hin l (hp.mem_iff.mp hl)⟩
def W4{X:Cx}(l:ZB)(M:dO):FO X zAY (fun xs H Q=>∃x,xs=[x]/\jt H x Q):=by
 intro pins s σ H xs us Q I r h;obtain⟨x,rfl,q⟩:=h;obtain⟨u,rfl,g⟩:=vals1 r;exact cj I g l M q
def Q3:List Key->Option (List Int)
 |[]=>some []
 |.inl i::r=>(Q3 r).map (i :: ·)
 |_=>none
def Lw:List (List Key)->Option (List (List Int))
 |[]=>some []
 |k::r=>(Q3 k).bind fun p=>(Lw r).map (p :: ·)
theorem Vs:∀ {k:xj} {p:mo},Q3 k=some p->k=p.map Sum.inl
 |[],_,h=>by cases h;rfl
 |.inl i::r,p,h=>by
  obtain⟨q,g,rfl⟩:=aC.mp h;rw[Vs g];rfl
 |.inr _::_,_,h=>by cases h
theorem TK:∀ {ks:List (List Key)} {ps:List (List Int)},Lw ks=some ps->ks=ps.map (·.map Sum.inl)
 |[],_,h=>by cases h;rfl
 |k::r,ps,h=>by
  obtain⟨p,I,l⟩:=aA.mp h;obtain⟨q,g,rfl⟩:=aC.mp l;rw[Vs I,TK g];rfl
def NI(p q:vj):Bool:=!(IT.lt q p)
def sortI(ps:List vj):List vj:=ps.mergeSort NI
abbrev tupI(p:mo):PD:=.tuple (p.map .int)
def HL(kvs:Sc):vg:=(Lw (kvs.map OR)).bind fun ps=>if ps.length<64/\(ps.all fun p=>decide (p≠[]))=true then some (.list ((sortI ps).map tupI)) else none
def IU{p q:vj}:NI p q=true ↔ IT.ord.kle p q:=by
 unfold NI;show(!(IT.lt q p))=true ↔ IT.lt q p=false;cases IT.lt q p<;>simp
def Zt(p q r:vj)(h:NI p q=true)(k:NI q r=true):NI p r=true:=IU.mpr (KeyOrd.kle_trans (IU.mp h) (IU.mp k))
def Zk(p q:vj):(NI p q||NI q p)=true:=by
 unfold NI;cases h:IT.lt q p with
 |false=>rfl
 |true=>
  cases k:IT.lt p q with
  |false=>rfl
  |true=>have:=IT.lt_trans _ _ _ h k;rw[IT.lt_irrefl]at this;cases this
def sortI_perm(ps:List vj):(sortI ps).Perm ps:=List.mergeSort_perm ps NI
def Oe(ps:List vj):(sortI ps).Pairwise fun p q=>NI p q=true:=List.pairwise_mergeSort Zt Zk ps
def iE{ps qs:List vj}(h:qs.Perm ps)(k:qs.Pairwise fun p q=>NI p q=true):qs=sortI ps :=
 (h.trans (sortI_perm ps).symm).eq_of_pairwise (fun p q _ _ l g=>IT.Kg _ _ (IU.mp g) (IU.mp l)) k (Oe ps)
def Cb.keys{G:Hp}:∀ {t:Sc} {r:NE},Cb G t r->r.map OR=t.map OR
 |[],r,h=>by rw[Cb]at h;subst h;rfl
 |q::t,r,h=>by
  obtain⟨u,l,rfl,I,g⟩:=h;rw[xf,xf,g.keys]
theorem Vf{G H:Hp}:∀ {L:List (List Int×AD)},(∀l∈L,H l.2=some (.tup (l.1.map V.int)))->Aq (L2.CP G H) (L.map fun l=>tupI l.1) (L.map fun l=>V.ref l.2)
 |[],_=>.nil
 |l::L,h=>by
  refine .cons ?_ (Vf fun q g=>h q zAE);rw[Du];refine⟨l.2,l.1.map V.int,rfl,?_,Od _⟩;unfold L2.CP;rw[h l EQ]
section
variable{X:Cx}{j:Nat}{y:Str}{np p pos:Pos}
def i3(hu:ZB)(hc:dO)(hg:Gl X "sorted")(hm:X.mg "sorted" = none)(hv:PE X (.Name y np) (DV j))(g:starEach [.Name y np] X.env=(false,eval (.Name y np) X.env)::starEach [] X.env:=by rfl)(hpl:(backTo pos fz).any OR=false:=by rfl):DE X (.Call (.Name "sorted" p) [.Name y np] [] pos) (fun δ=>(Cf j δ).bind HL):=by
 refine⟨_,Bv (W4 hu hc) hg hm PyProof.Rows.boot_sorted (Ac hv A3 g) (he:=g) (hpl:=hpl),fun δ z hz G0 H0 G H σ ts Q R k=>?_⟩;obtain⟨kvs,h1,U⟩:=aA.mp hz;have hi:=Qv h1;obtain⟨ad,_,k1,k2,k3,k4,⟨r,rfl,T⟩⟩:=R.own j _ hi;unfold HL at U;obtain⟨ps,h3,M⟩:=aA.mp U;split at M
 case isFalse=>cases M
 rename_i I;cases M;have e:=TK h3;have hl:r.length=ps.length:=by
  have:=aH List.length e
  simpa[T.len]using this
 refine⟨.ref ad,k1,.ref ad,rfl,ad,r,ps,rfl,k4,by lia,fun _ _=>GS.Rb I.1,fun p hp=>aU (af.mp I.2 p hp),by rw[T.keys];exact e,fun D L hD p1 p2 Z=>?_⟩;have e2:(sortI ps).map tupI=L.map fun l=>tupI l.1:=by
  rw[<-iE p1 (List.pairwise_map.mpr (p2.imp fun h=>IU.mpr h)),(Cu)];rfl
 have Y:=R.CP.JW (Vf (G:=G) Z) hD;rw[<-e2]at Y;exact k _ _ _ Y
end
def tu{n:Nat}(h:n+64<cLine):n+1<cLine:=by lia
section
variable{X:Cx}{a b e:Expr}{f g h:va}{p cp ap:Pos}{y:Str}
def fE:V->List V->Hp->VK->Prop:=fun x xs H Q=>∃s y:Str,x=.str s/\xs=[.str y]/\y.length≠0/\s.length<=100000/\∀p,H p=none->Q yI (upd H p (.lst ((Txt.split s y).map V.str)))
theorem T2:∀ {l:List (Str×Tok)},Vals ((l.map OR).map V.str) (strValues l)
 |[]=>.nil
 |q::l=>.cons ⟨q.2,rfl⟩ T2
def Vl:Pr X "str.split" fE:=by
 intro pins s σ H x xs v us Q I Y Z h;obtain⟨z,y,rfl,rfl,hy,hz,q⟩:=h;obtain⟨t,rfl⟩:=Y;obtain⟨u,rfl,T,rfl⟩:=Vals.one Z;have big:100002<=sizeLine:=by rw[sizeLine_eq];decide
 have R:(y.length==0)=false:=bf.mpr hy;have fin:∀(l:List (Str×Tok)) (k:Nat),l.map OR=Txt.split z y->EP X pins σ Q N7 {s with heap:=s.heap.push { cls:=.type "list",data:=.seq (strValues l).toArray},toks:=k}:=fun l k e=>by
  refine⟨.ref s.heap.objs.size,_,I.laid (t':=k) (o:=.lst ((Txt.split z y).map V.str)) xH SL ?_,rfl,q _ zBn⟩;refine⟨?_,strValues l,0,by rw[<-e];exact T2,Heap.get?_push_size _ rfl⟩;rw[wk];exact aK (split_le z y) AC
 have hn:(Builtin.Str.partsBetween z (Builtin.Str.occurrences z y 0 z.length (z.length+1)) y.length).length<=sizeLine:=by
  have e1:=StrLaws.occ_length_le z y 0 z.length (z.length+1);rw[length_partsBetween];lia
 cases M:(decide (z.length<y.length)||decide (Builtin.Str.strKind z<Builtin.Str.strKind y))
 .cases U:(Builtin.Str.occurrences z y 0 z.length (z.length+1)).isEmpty
  .refine call_meets F.slot_str_split (typeIs_str _ _ _) F.entry_str_split (F.args_str_split_2 _ _) (meets_str_split_sep z y t T M R U AC hn) ?_;show wants _ _ _ {s with toks:=_,heap:=s.heap.push { cls:=.type "list",data:=.seq (strsFrom s.toks (Builtin.Str.partsBetween z (Builtin.Str.occurrences z y 0 z.length (z.length+1)) y.length)).toArray} };rw[strsFrom_eq];exact fin (numbered s.toks _) _ ((numbered_texts _ _).trans ((if_neg (ne_true_of_eq_false M)).trans (if_neg (ne_true_of_eq_false U))).symm)
  .exact call_meets F.slot_str_split (typeIs_str _ _ _) F.entry_str_split (F.args_str_split_2 _ _) (meets_str_split_not_found z y t T M R U)
    (fin [(z,t)] s.toks ((if_neg (ne_true_of_eq_false M)).trans (if_pos U)).symm)
 .exact call_meets F.slot_str_split (typeIs_str _ _ _) F.entry_str_split (F.args_str_split_2 _ _) (meets_str_split_cannot_occur z y t T M)
   (fin [(z,t)] s.toks (if_pos M).symm)
theorem QC{G:Hp}:∀ys:List Str,Aq G zAZ (ys.map V.str)
 |[]=>.nil
 |y::ys=>.cons GM (QC ys)
def C3:PD->PD->Option PD:=fun x y=>match x,y with|.str s,.str t=>(if t.length≠0/\s.length<=100000 then some (.list ((Txt.split s t).map .str)) else none)|_,_=>none
def F8(ho:re)(ha:DE X e g) (R:attributeBase a "split" X.env wA=eval a X.env:=by rfl) (U:As=true:=by rfl) (M:v6=true:=by rfl)(hs:starEach [e] X.env=Ev::starEach [] X.env:=by rfl)(I:(backTo cp fz).any OR=false:=by rfl):DE X wW (AF C3 f g):=by
 obtain⟨to,po,ko⟩:=ho;obtain⟨ta,pa,ka⟩:=ha;refine⟨_,FV bC PySem.F.slot_str_split PySem.F.type_str_split Vl po zg R U M hs I,fun δ z hz G0 H0 G H σ ts Q R0 k=>?_⟩;obtain⟨x,y,h1,h2,T⟩:=two (x:=.none) (y:=.none) hz;refine ko δ x h1 G0 H0 G H σ ts _ R0 fun u G1 H1 R1=>?_;have du:=R1.Aw (x,u) EQ;unfold C3 at T;split at T
 .split at T
  .rename_i Y;cases T;rw[Du]at du;subst du;refine⟨rfl,ka δ _ h2 G0 H0 G1 H1 σ _ _ R1 fun v G2 H2 R2=>?_⟩;have Z:=R2.Aw (_,v) EQ;rw[Du]at Z;subst Z;exact⟨_,_,rfl,rfl,Y.1,Y.2,fun l hl=>k _ _ _ (R2.drop.drop.JW (QC _) hl)⟩
  .cases T
 .cases T
def mP:V->List V->Hp->VK->Prop:=fun x xs H Q=>∃s y:Str,x=.str s/\xs=[.str y]/\s.length<=sizeLine/\Q (.str (Txt.stripChars s y)) H
def bo:Pr X "str.strip" mP:=by
 intro pins s σ H x xs v us Q I M R h;obtain⟨z,y,rfl,rfl,T,h⟩:=h;obtain⟨t,rfl⟩:=M;obtain⟨u,rfl,l,rfl⟩:=Vals.one R;exact SC.stripChars (fun l k=>⟨.str (Txt.stripChars z y),H,I.tok _,⟨l,rfl⟩,h⟩) T
def Ih:PD->PD->Option PD:=fun x y=>match x,y with|.str s,.str t=>(if s.length<=100000 then some (.str (Txt.stripChars s t)) else none)|_,_=>none
def eL(ho:re)(ha:DE X e g) (M:attributeBase a "strip" X.env wA=eval a X.env:=by rfl) (T:As=true:=by rfl) (I:v6=true:=by rfl)(hs:starEach [e] X.env=Ev::starEach [] X.env:=by rfl)(l:(backTo cp fz).any OR=false:=by rfl):DE X (.Call (.Attribute a "strip" ap) [e] [] cp) (AF Ih f g):=by
 obtain⟨to,po,ko⟩:=ho;obtain⟨ta,pa,ka⟩:=ha;refine⟨_,FV bC PySem.F.slot_str_strip PySem.F.type_str_strip bo po zg M T I hs l,fun δ z hz G0 H0 G H σ ts Q R0 k=>?_⟩;obtain⟨x,y,h1,h2,R⟩:=two (x:=.none) (y:=.none) hz;refine ko δ x h1 G0 H0 G H σ ts _ R0 fun u G1 H1 Z=>?_;have Y:=Z.Aw (x,u) EQ;unfold Ih at R;split at R
 .split at R
  .rename_i hc;cases R;rw[Du]at Y;subst Y;refine⟨rfl,ka δ _ h2 G0 H0 G1 H1 σ _ _ Z fun v G2 H2 R2=>?_⟩;have U:=R2.Aw (_,v) EQ;rw[Du]at U;subst U;exact⟨_,_,rfl,rfl,by rw[sizeLine_eq];lia,k _ _ _ zAu⟩
  .cases R
 .cases R
def fq:V->List V->Hp->VK->Prop:=fun x xs H Q=>∃s y:Str,x=.str s/\xs=[.str y]/\s.length<=sizeLine/\Q (.str (Txt.lstripChars s y)) H
def Yi:Pr X "str.lstrip" fq:=by
 intro pins s σ H x xs v us Q I M R h;obtain⟨z,y,rfl,rfl,T,h⟩:=h;obtain⟨t,rfl⟩:=M;obtain⟨u,rfl,l,rfl⟩:=Vals.one R;exact SC.lstripChars (fun l k=>⟨.str (Txt.lstripChars z y),H,I.tok _,⟨l,rfl⟩,h⟩) T
def KU:PD->PD->Option PD:=fun x y=>match x,y with|.str s,.str t=>(if s.length<=100000 then some (.str (Txt.lstripChars s t)) else none)|_,_=>none
def YQ(ho:re)(ha:DE X e g) (M:attributeBase a "lstrip" X.env wA=eval a X.env:=by rfl) (T:As=true:=by rfl) (I:v6=true:=by rfl)(hs:starEach [e] X.env=Ev::starEach [] X.env:=by rfl)(l:(backTo cp fz).any OR=false:=by rfl):DE X (.Call (.Attribute a "lstrip" ap) [e] [] cp) (AF KU f g):=by
 obtain⟨to,po,ko⟩:=ho;obtain⟨ta,pa,ka⟩:=ha;refine⟨_,FV bC PySem.F.slot_str_lstrip PySem.F.type_str_lstrip Yi po zg M T I hs l,fun δ z hz G0 H0 G H σ ts Q R0 k=>?_⟩;obtain⟨x,y,h1,h2,R⟩:=two (x:=.none) (y:=.none) hz;refine ko δ x h1 G0 H0 G H σ ts _ R0 fun u G1 H1 Z=>?_;have Y:=Z.Aw (x,u) EQ;unfold KU at R;split at R
 .split at R
  .rename_i hc;cases R;rw[Du]at Y;subst Y;refine⟨rfl,ka δ _ h2 G0 H0 G1 H1 σ _ _ Z fun v G2 H2 R2=>?_⟩;have U:=R2.Aw (_,v) EQ;rw[Du]at U;subst U;exact⟨_,_,rfl,rfl,by rw[sizeLine_eq];lia,k _ _ _ zAu⟩
  .cases R
 .cases R
end
def SO(g:PySem.Ctx):Prop:=g.below.any (fun x=>x.1.isCaller)=true
def SO.enter{g:PySem.Ctx}(h:SO g)(c:Code)(hd:Option VL)(p:Pos):SO (g.enter c hd p):=by
 unfold SO at h ⊢;show((g.code,p)::g.below).any _=true;rw[List.any_cons,h,Bool.or_true]
def Bb{α:Type}(M:Model)(A:F0d)(t:Sem α)(Q:xu)(E:ve)(s:SD):Prop :=
 ∀g p,g.In A->SO g->Sem.wp M g t (fun a _ s'=>Q a s') (fun e _ s'=>E e s') p s
def CU(M:Model)(A:F0d)(c:Code)(R:iN)(s:SD):Prop :=
 ∀g p,g.code=c->g.Below A->SO g->wpCode M g R p s
section
variable{α β:Type}{M:Model}{A:F0d}{E:ve}{s:SD} 
def Bq{t:Sem α}{Q:xu}(h:wpAny M A t Q E s):Bb M A t Q E s:=fun g p i _=>h g p i
def ic{c:Code}{R:iN}(h:codeAny M A c R s):CU M A c R s:=fun g p e b _=>h g p e b
def Dz{t:Sem α}{Q Q':xu}{l:ve}(h:Bb M A t Q E s)(I:∀a s,Q a s->Q' a s)(R:∀e s,E e s->l e s):Bb M A t Q' l s :=
 fun g p i c=>Sem.wp_mono M g t (fun a _ s=>I a s) (fun e _ s=>R e s) p s (h g p i c)
def HU{t:Sem α}{Q Q':xu}(h:Bb M A t Q E s)(g:∀a s,Q a s->Q' a s):Bb M A t Q' E s:=Dz h g fun _ _ x=>x
def GQ{c:Code}{R g:iN}(h:CU M A c R s)(I:∀r s,R r s->g r s):CU M A c g s:=fun l p e b k=>wpCode_mono I (h l p e b k)
def CL{m:Sem α}{f:α->Sem β}{Q:β->SD->Prop}(h:Bb M A m (fun a s'=>Bb M A (f a) Q E s') E s):Bb M A (m>>=f) Q E s:=fun g p i c=>by
 rw[Sem.wp_bind'];exact Sem.wp_mono M g m (fun a l s' h'=>h' g l i c) (fun _ _ _ h'=>h') p s (h g p i c)
def Aj{m:Sem α}{f:α->Sem β}{Q:β->SD->Prop}(h:wpAny M A m (fun a s'=>Bb M A (f a) Q E s') E s):Bb M A (m>>=f) Q E s:=CL (Bq h)
def C4{m:Sem α}{f:α->Sem β}{Q:β->SD->Prop}(h:Bb M A m (fun a s'=>wpAny M A (f a) Q E s') E s):Bb M A (m>>=f) Q E s:=CL (HU h fun _ _ k=>Bq k)
def Pc{m:Sem α}{k:VL->Sem Unit}{Q:xu}(h:Bb M A m Q (fun e s'=>wpAny M A (k e) (fun _ l=>E e l) E s') s):Bb M A (m.onRaise k) Q E s:=fun g p i c=>by
 rw[Sem.wp_onRaise];exact Sem.wp_mono M g m (fun _ _ _ h'=>h') (fun e I s' h'=>h' g I i) p s (h g p i c)
def PM{m:Sem α}{Q:Except VL α->SD->Prop}(h:Bb M A m (fun a=>Q (.ok a)) (fun e=>Q lp) s):Bb M A m.attempt Q E s:=fun g p i c=>by rw[Sem.wp_attempt];exact h g p i c
def ED{vs:vd}{m:Sem α}{Q:xu}(h:Bb M A m Q E s):Bb M A (holding vs m) Q E s:=fun g p i c=>by rw[Sem.wp_holding];exact h g p i c
def KH{c:Code}{Q:ve}(h:CU M A c (fun r s'=>match r with|.ok (.ret v)=>Q v s'|.ok _=>False|.error e=>E e s') s):Bb M A (runValue c) Q E s :=
 fun g p i k=>by rw[Sem.wp_runValue];exact h _ p rfl (i.enter c none p (by intro x;cases x)) (k.enter _ _ _)
def j9{c:Code}{Q:Flow->SD->Prop}(h:CU M A c (fun r s'=>match r with|.ok f=>Q f s'|.error e=>E e s') s):Bb M A (run c none) Q E s :=
 fun g p i k=>by rw[Sem.wp_run];exact h _ p rfl (i.enter c none p (by intro x;cases x)) (k.enter _ _ _)
def D5{c:Code}{R:iN}
 (h:Bb M (A.under c) (M.den c) (fun fin s'=>match fin with|.done f=>R (.ok f) s'|.again g=>g.quiet=true/\CU M A g R s') zBx s):CU M A c R s:=fun l p I b k=>by
 rw[wpCode_iff_wp,I];refine Sem.wp_mono M l _ (fun fin T s' h'=>?_) (fun _ _ _ h'=>h') p s (h l p (I ▸ b.in) k);cases fin with
 |done f=>exact h'
 |again g=>exact⟨h'.1,h'.2 (l.goto g) T rfl (b.goto g) k⟩
def Ze{c:Code}{R:iN}(U:c.quiet=true)(I:Nat->SD->Prop)
 (turn:∀n s,I n s->Bb M (A.under c) (M.den c) (fun fin s'=>match fin with|.done f=>R (.ok f) s'|.again l=>l=c/\∃m,m<n/\I m s') zBx s) :
  ∀(n:Nat) {s:SD},I n s->CU M A c R s:=fun n=>by
 induction n using Nat.strongRecOn with
 |ind n T=>
  intro s h;refine D5 (Dz (turn n s h) (fun fin s' g=>?_) fun _ _ x=>x);cases fin with
  |done f=>exact g
  |again l=>obtain⟨rfl,m,hm,Y⟩:=g;exact⟨U,T m hm Y⟩
end
def RE(X:Cx)(e:Expr)(t:TE):Prop :=
 ∀(pins:Cl) (s:SD) (σ:St) (H:Hp) (Q:VK),Inv X pins σ H s->t σ H Q->Bb AT X.A (eval e X.env) Ix X.xe s
def RT(X:Cx)(e:Expr)(t:TT):Prop :=
 ∀(pins:Cl) (s:SD) (σ:St) (H:Hp) (Q:xO),Inv X pins σ H s->t σ H Q->Bb AT X.A (isTrue e X.env (eval e X.env)) (TP X pins σ Q) X.xe s
def RS(X:Cx)(st:Stmt)(t:TS):Prop :=
 ∀(pins:Cl) (s:SD) (σ:St) (H:Hp) (D:Ends),Inv X pins σ H s->t D σ H->Bb AT X.A (exec st X.env) (SP X pins D) X.xe s
def Jl(X:Cx)(st:v5)(t:TS):Prop :=
 ∀(pins:Cl) (s:SD) (σ:St) (H:Hp) (D:Ends),Inv X pins σ H s->t D σ H->Bb AT X.A (execs st X.env) (SP X pins D) X.xe s
section
variable{X:Cx}{a e c:Expr}{st:Stmt}{rest sts:v5}{t u:TS}{te:TE}{tA tc:TT}{pos:Pos}
def RE.of(h:PE X e te):RE X e te:=fun p s σ H Q I k=>Bq (h p s σ H Q I k)
def RT.of(h:PT X e tA):RT X e tA:=fun p s σ H Q I k=>Bq (h p s σ H Q I k)
def RS.of(h:PS X st t):RS X st t:=fun p s σ H Q I k=>Bq (h p s σ H Q I k)
def Jl.of(h:HY X sts t):Jl X sts t:=fun p s σ H Q I k=>Bq (h p s σ H Q I k)
def FL(M:RS X st t)(l:Jl X rest u):Jl X (st::rest) (iD t u):=by
 intro pins s σ H D I h;rw[execs_cons];refine CL (HU (M pins s σ H {D with nx:=u D} I h) fun f s1 q=>?_);cases f with
 |next=>
  obtain⟨g,H',R,q⟩:=q;exact l pins s1 g H' D R q
 |ret v=>exact Bq (aB q)
 |brk=>exact Bq (aB q)
 |cont=>exact Bq (aB q)
def eY(he:RE X e te):RS X (.Return (some e) pos) (oX te):=by
 intro pins s σ H D I h;rw[exec_Return_some];exact Aj (ah (C4 (HU Pg fun v s1 ⟨x,R,M,g,l⟩=>aB ⟨x,σ,R,M,g,l⟩)))
def sJ{p q:v5}(R:RT X c tc)(ha:Jl X p t)(T:Jl X q u):RS X (.If c p q pos) (pG tc t u):=by
 intro pins s σ H D I h;rw[exec_If];refine Aj (ah (CL (HU (R pins s σ H _ I h) fun d s1 ⟨M,l,g⟩=>?_)));cases d with
 |true=>exact ha pins s1 σ M D l g
 |false=>exact T pins s1 σ M D l g
def pB(h : RE X e te)(he : ∀ whole,isTrue e X.env whole = ge:=by intro _; rfl):RT X e (tB te):=by
  intro pins s σ H Q I hw
  rw [he]
  refine C4 (HU (h pins s σ H _ I hw) fun v s1 ⟨x,H1,I1,r1,q1⟩ => ?_)
  obtain ⟨d,rfl,q⟩:=q1
  cases r1
  exact Wb (ah (ao (wpAny_truthy_bool ⟨H1,I1,q⟩)))
def qB(ha:RT X a tA):RT X zk (qN tA):=by
 intro pins s σ H Q I h;show Bb _ _ (do return !(<-isTrue a X.env wA)) _ _ s;exact C4 (HU (ha pins s σ H (fun c g=>Q (!c) g) I h) fun c s1 k=>aB k)
end
section
variable{X:Cx}{a b e c:Expr}{tA tB':TT}{te:TE}{pos:Pos}{rest:vp}
def RO(X:Cx)(op:BoolOp)(g:vp)(t:TT):Prop :=
 ∀(pins:Cl) (s:SD) (σ:St) (H:Hp) (Q:xO),Inv X pins σ H s->t σ H Q->Bb AT X.A (allTrue op g X.env) (TP X pins σ Q) X.xe s
def RO.rt{op:BoolOp}{g:vp}(h:RO X op g tA):RT X (.BoolOp op g pos) tA:=fun p s σ H Q I k=>h p s σ H Q I k
def nF(ha:RT X a tA):RO X .Or [a] tA:=by
 intro pins s σ H Q I h;refine C4 (HU zH fun c s1 e=>?_);cases c with
 |false=>exact aB (a:=false) e
 |true=>exact aB (a:=true) e
def lI(ha:RT X a tA):RO X .And [a] tA:=by
 intro pins s σ H Q I h;refine C4 (HU zH fun c s1 e=>?_);cases c with
 |false=>exact aB (a:=false) e
 |true=>exact aB (a:=true) e
def tI(ha:RT X a tA)(R:RO X .Or (b::rest) tB'):RO X .Or (a::b::rest) (tZ tA tB'):=by
 intro pins s σ H Q I h;refine CL (HU Pf fun c s1 ⟨M,l,g⟩=>?_);cases c with
 |true=>exact Bq (aB (a:=true) ⟨M,l,g⟩)
 |false=>exact R pins s1 σ M Q l g
def ny{i:Nat}{x:Str}{g:Pos}(hN:nn)(hi:X.N[i]? = some x)(Z:we)(he:RE X e te)(hs:swapsWith e (some (.Name x g)) pos.line X.env=pure false:=by rfl)(hf:X.fn x=true\/X.env.scope.names.lookup x=some .local:=by first|exact .inl rfl|exact .inr rfl):RS X (.Assign [.Name x g] e pos) (J8 te (Ef i)):=by
 intro pins s σ H D I h M p i1 Y;simp only[exec_Assign_Name X.env x g e pos hs,Sem.wp_bind',Sem.wp_cmd_standAt,Sem.wp_bindName,Sem.wp_pure'];refine Sem.wp_mono _ M _ (fun v _ R l=>l M _ i1) (fun _ _ _ h'=>h') _ _ (HU Pg (Q':=fun v s1=>wpAny AT X.A (storeName X.env x v) (fun _=>SP X pins D .next) X.xe s1) (fun v s1 ⟨y,H1,I1,T,U⟩=>?_) M _ i1 Y);exact HG I1 hN hi Z T (fun s2 I2=>⟨_,H1,I2,U⟩) hf
end
def RA(X:Cx)(g:vp)(t:TA):Prop :=
 ∀(pos:Pos) (pins:Cl) (s:SD) (σ:St) (H:Hp) (Q:zAX),Inv X pins σ H s->t σ H Q->Bb AT X.A (spliced (backTo pos (starEach g X.env))) (AP X pins σ Q) X.xe s
structure CT(P:Program)(w:World)(K:Fg)(mg:xc)(base:Heap)(CX:Gh)(k:Nat)(f:Addr)(fd:FuncData)(ps:N1)(sp:Sp):Prop where
 len:∀vs H Q E,sp vs H Q E->vs.length=ps.length
 run:∀(A:Around) (outer:List Env) (s:Shared) (H:Hp) (args:Args) (us:List Value) (vs:UF) (Q:VK) (E:XK),CM k A->VN P w K mg base A outer s H->BindsTo s fd args (ps.zip us)->Vals vs us->sp vs H Q E ->
  CU yH A (.call zU args) (CR CX outer P w H s Q E) s
section
variable{P:F0b}{w:F0c}{K:Fg}{mg:vf}{base:Heap}{CX:Gh}{j k:Nat}{f:AD}{fd:F0a}{ps:vo}{sp sp':Sp}
def CT.mono(F:CT P w K mg base CX j f fd ps sp)(h:j<=k:=by decide):CT P w K mg base CX k f fd ps sp:=⟨F.len,fun A outer s H args us vs Q E g=>F.run A outer s H args us vs Q E (g.mono h)⟩
def CT.imp(F:CT P w K mg base CX k f fd ps sp)(h:∀vs H Q E,sp' vs H Q E->sp vs H Q E):CT P w K mg base CX k f fd ps sp' :=
 ⟨fun vs H Q E q=>F.len vs H Q E (h _ _ _ _ q),fun A outer s H args us vs Q E I M R g l=>F.run A outer s H args us vs Q E I M R g (h _ _ _ _ l)⟩
def Ah.r(F:yQ):CT P w K mg base CX k f fd ps sp:=⟨F.len,fun A outer s H args us vs Q E I M R g l=>ic (F.run A outer s H args us vs Q E I M R g l)⟩
end
def ZH{prog:F0b}{w:F0c}{A:F0d}{R:iN}{s:SD}{g:v5}{env:Env}
 (h:Bb By (A.deeper env) (execs g env) (fun f s'=>R (.ok (.ret (match f with|.ret v=>v|_=>.none))) s')
   (fun e s'=>wpAny By (A.deeper env) (leaving env e) (fun _ l=>R lp l) (fun I l=>R (.error I) l) s') s):CU By A (.func g env) R s:=by
 refine D5 ?_;show Bb _ (A.deeper env) (do point;match <-(execs g env).onRaise (leaving env) with|.ret v=>ret v|_=>ret .none) _ _ s;refine Aj (wpAny_point (C4 (Pc (Dz h (fun f s' h'=>?_) fun _ _ x=>x))));cases f<;>exact aB h'
def NM{prog:F0b}{w:F0c}{A:F0d}{R:iN}{s:SD}{a:AD}{args:Args}{o:Obj}{fd:F0a}{l:v5}(I:A.depth<recursionLimit) (ho:s.heap.get? a=some o)(hd':o.data=.func fd)(hco:fd.scope.isCoroutine=false)(U:fd.scope.isGenerator=false)(M:fd.body=.stmts l)(hcd:s.heap.CodeRec fd.code fd.qualname) (h:wpAny By A.in1 (bindArgs fd args) (fun binds T => wpAny By A.in1 (newFunctionEnv fd.scope fd.globals fd.closure binds (fd.qualname ++ ".<locals>.") (some a) fd.code none fd.builtins) (fun env g=>g.heap.NoLimit/\CU By A (.func l env) R g) zBx T) zBx s):CU By A (.call PZ args) R s:=by
 refine D5 (Bq ?_);show wpAny _ A.in1 (callAny PZ args) _ _ s;unfold callAny;refine Wb (wpAny_load ho ?_);obtain⟨c,oc,vs,tq,hc,Y,Z,hq⟩:=hcd;simp only[hd',callFunction,hco,U,M,hc];rw[hc]at h;refine Wb (m:=field (.ref c) 1) (au Y Z hq (Wb lr));refine Wb (aM h (fun _ _ k=>Wb (aM k (fun _ _ q=>?_) fun _ _ x=>x)) fun _ _ x=>x);exact Wb (wpAny_enterFrame q.1 I (aB ⟨rfl,q.2⟩))
def Z3{CX:Gh}{P:F0b}{w:F0c}{K:Fg}{mg:vf}{base:Heap}{k:Nat}{f:AD}{name qual:Str}{params:Arguments}{g:v5}{scope:yB}{dV kV doc pm cdv ct oc:VL}{an od:Option AD} {osl:Array (Option VL)}{N ps:vo}{sp:Sp}(lk:K.lookup f=some ⟨oc,od,.func ci,osl⟩)(Z:PySem.W.codeIn K cdv qual=true)(S:Ap N ps scope) (len:To) (M:∀(A:F0d) (outer:v7) (s:SD) (H:Hp) (vs:vx) (Q:VK) (E:XK),CM k (A.deeper (envOfC qual scope s.heap.objs.size f cdv))->sp vs H Q E ->∃t,Jl Ty g t/\t { nx:=fun _ H'=>Q .BS H',rt:=Q} xD H):CT P w K mg base CX ii f ci ps sp:=by
 refine⟨len,fun A outer s H args us vs Q E Y U hb r T=>?_⟩;have hl:=len _ _ _ _ T;have KX:K.In s.heap:=U.mod.Pk.keeps fun b o e=>(U.bs b o e).1;have lim:s.heap.NoLimit:=U.mod.nolimit.keeps fun b o e=>(U.bs b o e).1;refine NM Y.depth (KX _ _ lk) rfl S.co S.gen rfl (PySem.W.codeRec_of KX Z) (hb _ _ _ _ ?_);refine wpAny_newFunctionEnv_cells S.kind (fun⟨n,v⟩ hy=>?_) fun env he s1 x=>?_
 .rcases S.par n (List.of_mem_zip hy).1 with q|q
  .exact .inl q
  .exact .inr ⟨q,PySem.W.cellsFrom_some _ _ _ (.inl q)⟩
 subst he;refine⟨lim.keeps x.toInCall.keep,ZH ?_⟩;obtain⟨t,ht,hq⟩:=M A outer s H vs Q E (Y.deeper _) T;have I:Inv Ty [] xD H s1:=TR S Y.hd U hl r x;refine Dz (ht [] s1 xD H _ I hq) (fun fl s' R=>?_) fun e s' R=>R;cases fl with
 |ret u=>obtain⟨v,l,H',J,rv,q⟩:=R;exact⟨v,H',J.os,J.bare,J.base,J.Ay,rv,q⟩
 |next=>obtain⟨l,H',J,q⟩:=R;exact⟨.BS,H',J.os,J.bare,J.base,J.Ay,rfl,q⟩
 |brk=>obtain⟨l,H',J,q⟩:=R;exact False.elim q
 |cont=>obtain⟨l,H',J,q⟩:=R;exact False.elim q
section
variable{X:Cx}{CX:Gh}{k:Nat}{f:AD}{fd:F0a}{ps:vo}{sp:Sp}{E:XK}{x:Str}{p pos:Pos}{e:Expr}{es:vp}{te:TE}{t:TA}{st:Stmt}
def j7(ha:RE X e te)(T:RA X es t)(hs:starEach zAq X.env=Ev::starEach es X.env:=by rfl):RA X zAq (Mo te t):=by
 intro pos pins s σ H Q I h;rw[hs];show Bb _ _ (spliced (Ev::backTo pos Lx)) _ _ s;rw[spliced];refine CL (HU Pf fun u s1 ⟨x,H1,Y,l,R⟩=>?_);simp only[Bool.false_eq_true,if_false];exact Aj (aB (C4 (ED (HU (T pos pins s1 σ H1 _ Y R) fun us s2 ⟨xs,Z,U,g,M⟩=>aB ⟨x::xs,Z,U,.cons l g,M⟩))))
def RA.of(h:PA X es t):RA X es t:=fun q p s σ H Q I k=>Bq (h q p s σ H Q I k)
def mV{pins:Cl}{σ:St}{H:Hp}{s:SD}{Q:VK}{us:vd}{vs:vx}(F:yn)(R:CM k X.A)(U:Binds X.K fd ps [])(M:∀H s e s',Inv X pins σ H s->CX X.stack H s E e s'->X.xe e s') (I:Db)(r:Vals vs us)(h:sp vs H Q E):Bb AT X.A (call zU us) Ix X.xe s:=by
 have T:(us++[]).length=ps.length:=by rw[(GZ),<-r.length];exact F.len _ _ _ _ h
 have l:=U s us I.Gp T;rw[(GZ)]at l;refine KH (GQ (F.run X.A X.stack s H ⟨us,[]⟩ us vs Q E R I.nR l r h) fun r s' g=>?_);cases r with
 |error e=>exact M H s e s' I g
 |ok Y=>
  cases Y with
  |ret u=>exact I.after g
  |next=>exact False.elim g
  |brk=>exact False.elim g
  |cont=>exact False.elim g
def Xq{pins:Cl}{σ:St}{H:Hp}{s:SD}{Q:VK}(T:yb)(F:yn)(hx:∀H s e s',Inv X pins σ H s->CX X.stack H s E e s'->X.xe e s')(g:CM k X.A)(hg:y6)(ha:RA X zAq t) (R:GE=false:=by decide)(he:starEach zAq X.env=Ev::starEach es X.env:=by rfl)(hpl:(backTo pos Lx).any OR=false:=by rfl):Inv X pins σ H s->Mg sp [] E t σ H Q->Bb AT X.A (eval Fk X.env) Ix X.xe s:=by
 intro I h;rw[arm_eval_Call_Name'];refine Aj (MK I hg T.m ?_ R);have Y:=ha pos pins s σ H _ I h;rw[he]at Y ⊢;show Bb _ _ (callWith pos zU [] (Ev::backTo pos Lx) []) _ _ s;have hp:((Ev::backTo pos Lx).any OR||([]:List (Option Str×Sem VL)).any (·.1.isNone))=false:=by
  show((false||(backTo pos Lx).any OR)||false)=false;rw[hpl];rfl
 unfold callWith evalArgs;refine CL (ED (CL (HU Y fun us s1 ⟨vs,H1,Z,r,q⟩=>?_)));refine ED (Aj (aB (Aj (aB (Bq (aB (?_:Bb _ _ _ _ _ _)))))));refine Aj (ah ?_);obtain⟨kk,l,L⟩:=PySem.W.keeps_K (M:=model X.prog X.w) T.F.kp _ Z.Gp;simp only[hp];refine Aj (L.here ?_);have q:sp (vs++[]) H1 Q E:=q;rw[(GZ)]at q;have run:=mV F g T.b hx Z r q;have tail:∀ {t:Sem VL},Bb AT X.A t Ix X.xe s1->Bb AT X.A (t>>=fun r=>holding [r] point>>=fun _=>pure r) Ix X.xe s1 :=
  fun ht=>C4 (HU ht fun r U g=>Wb (ao (wpAny_point (aB g))))
 have marked (mk:VL):Bb AT X.A (callMarked mk zU ([]++us) []) Ix X.xe s1:=fun Γ p i c=>by unfold callMarked;rw[Sem.wp_keep];exact run Γ p i c
 rcases l with rfl|rfl|rfl<;>dsimp only<;>first|exact tail run|(split<;>first|exact tail run|exact tail (marked _))
def qK(T:yb)(F:yn)(l:Passes CX X E)(M:CM k X.A)(R:y6)(ha:RA X zAq t) (g:GE=false:=by decide)(he:starEach zAq X.env=Ev::starEach es X.env:=by rfl)(hpl:(backTo pos Lx).any OR=false:=by rfl):RE X Fk (Mg sp [] E t):=fun pins s σ H Q I h=>Xq T F (fun H s e s' I z=>l pins σ H s e s' I z) M R ha g he hpl I h
def rq(T:yb)(F:CT X.prog X.w X.K X.mg X.base A4 k f fd ps sp)(l:CM k X.A)(I:y6)(ha:RA X zAq t) (g:GE=false:=by decide)(he:starEach zAq X.env=Ev::starEach es X.env:=by rfl)(hpl:(backTo pos Lx).any OR=false:=by rfl):RE X Fk (Mg sp [] E0 t):=qK T F i8 l I ha g he hpl
end
def fH{α:Type}{M:Model}{A:F0d}{E:ve}{s:SD}{env:Env}{m:Sem α}{Q:xu}(h:Bb M A m Q (notedBy M A env E) s):Bb M A (m.onRaise fun x=>do noteFrame x env;theTreesLotGoes x) Q E s :=
 Pc (Dz h (fun _ _ q=>q) fun _ _ k=>Wb (aM k (fun _ _ z=>wpAny_theTreesLotGoes z) fun _ _ z=>z))
def Mc{prog:F0b}{w:F0c}{A:F0d}{R:iN}{s:SD}{elt target iter g rest scope pos it l env} (h0:CU By A (.compLoop jl 0 it l env) R s) (h:wpAny By A (pyIter it) (fun I s'=>CU By A (.compLoop jl 0 I l env) R s') (notedBy By A env fun x s'=>R (.error x) s') s):CU By A (.compStart jl 0 it l env) R s:=by
 refine D5 (Bq ?_);show wpAny _ _ ((compStart jl 0 it l env).onRaise (fun x=>do noteFrame x env;standAt theWindowsPlace)) _ _ s;refine wpAny_notedAt ?_;unfold compStart;show wpAny _ _ (ask>>=_) _ _ s;refine Wb (wpAny_askSetting (wpAny_ite ?_));split
 .first
   |exact Wb (aB (aB ⟨rfl,h0⟩))
   |exact aB ⟨rfl,h0⟩
 .first
   |exact Wb (ba (Wb (ah (Wb (aM h (fun _ _ k=>aB ⟨rfl,k⟩) fun _ _ z=>z)))))
   |(refine Wb (ba ?_);show wpAny _ _ (standAt iter.pos>>=_) _ _ s;exact Wb (ah (Wb (aM h (fun _ _ k=>aB ⟨rfl,k⟩) fun _ _ z=>z))))
def Wr{α:Type}{M:Model}{A:F0d}{E:ve}{s:SD}{c:Prop}[Decidable c]{pos:Pos}{k:PUnit->Sem α}{Q:xu}(h:Bb M A (k ()) Q E s):Bb M A (if c then(standAt pos>>=k) else k ()) Q E s:=by
 split
 .exact Aj (ah h)
 .exact h
def Gk{M:Model}{A:F0d}{E:ve}{s:SD}{env:Env}{e:Expr}{scope:yB}{pos:Pos}{I first:Sem VL}{g:Comprehension}{gs:List Comprehension}{cl:y9}{use:Option (VL->Sem Unit)}{Q:ve} (hcl:clausesOf e=g::gs)(hs:∀x,foldedSetIterable g.iter env x=pure x)(hclos:closureFor scope env=pure cl)(l:scope.kind=.function)(U:∀x∈scope.names,x.2=.local->scope.names.lookup x.1=some .local) (h:wpAny M A first (fun x s₁=>wpAny M A (pyIter x) (fun it s₂=>wpAny M A I (fun acc Z=>wpAny M A (newFunctionEnv scope env.globals cl [] env.qual none .none (some env)) (fun cenv Y => CU M A (.compStart e 0 it acc zAh) (compPost M A E use Q acc cenv.locals) Y) E Z) E s₂) E s₁) E s):Bb M A (comprehension e scope env pos I false first use) Q E s:=by
 unfold comprehension;rw[hclos,hcl];refine Aj (aM h (fun x s₁ h₁=>Aj (ah (Aj (bY (hs x) (Aj (ao (aM h₁ (fun it s₂ h₂=>
  Wr (Aj (aM h₂ (fun acc Z h₃=>Aj (aB (Aj (aM h₃ (fun cenv Y h₄=>?_) fun _ _ z=>z)))) fun _ _ z=>z))) fun _ _ z=>z))))))) fun _ _ z=>z)
 dsimp only;have loc:∀x∈scope.names,x.2=.local->Env.kindOf zAh x.1=some .local:=fun x hx hl=>bL (U x hx hl);have hv:∀x∈(scope.names.filter fun x=>(x.2==.local||x.2==.cell)&&x.1 != (".0" : Str)).reverse,x.2=.local->Env.kindOf zAh x.1=some .local:=fun x hx=>loc x (bZ.mp (List.mem_reverse.mp hx)).1;refine ED (CL (PM (ED (j9 (GQ h₄ fun r s' hr=>?_)))));cases r with
 |ok f=>
  refine Bq ?_;cases use with
  |none=>
   obtain⟨m,hn,hr⟩:=hr;exact Wb (ao (wpAny_comp_letGo (cenv:={cenv with scope:=relabel scope env}) l _ s' m hv hn fun h' m' _ z=>aB (hr h' z)))
  |some u=>
   refine Wb (ba (Wb (ao (aM hr (fun _ s'' R=>?_) fun _ _ z=>z))));obtain⟨m,hn,R⟩:=R;refine Wb (wpAny_comp_letGo (cenv:={cenv with scope:=relabel scope env}) l _ s'' m (fun x hx=>?_) hn fun h' m' _ z=>aB (R h' z));rcases ae.mp hx with k|k
   .exact hv x (az k)
   .exact hv x (bM k)
 |error x=>
  refine Bq ?_;have R:∃m,s'.heap.Ns cenv.locals m/\∀h',Heap.SameBut cenv.locals s'.heap h'->∀T:Env,T.locals=cenv.locals->wpAny M A (passOn "comprehension.variables-let-go" x T:Sem VL) sK E { s' with heap:=h'}:=by cases use<;>exact hr
  obtain⟨m,hn,hr⟩:=R;exact Wb (ao (wpAny_comp_letGo (cenv:={cenv with scope:=relabel scope env}) l _ s' m hv hn fun h' m' _ z=>aM (hr h' z _ rfl) (fun _ _ f=>f.elim) fun _ _ y=>y))
section
variable{X:Cx}{elt iter:Expr}{x:Str}{px pos:Pos}{ifs:vp}{scope:yB}{wi:TI}{fr:v8}{ix:Nat}{tif:TT}{te:TE}{N:vo}
def MR{prog:F0b}{w:F0c}{A:F0d}{R:iN}{s:SD}{elt target iter:Expr}{ifs:vp}{scope:yB}{pos:Pos}{it acc:VL}{env:Env}(I:Nat->SD->Prop)
 (turn:∀n s,I n s->wpAny By A (pyNext it) (fun r g=>match r with
   |none=>R (.ok .next) g
   |some v=>wpAny By A (letOwnedTupleGo target it v>>=fun _=>assign target env v) (fun _ U=>
     wpAny By A wD (fun ok l=>
      if ok=true then Bb By A (eval elt env) (fun x T=>
       wpAny By A (call (.builtin "list.append") [acc,x]) (fun _ M=>∃m,m<n/\I m M) zAl T) zAl l
      else ∃m,m<n/\I m l) zAl U) zAl g) zAl s)
 (n:Nat)(h:I n s) :
  CU By A (.compLoop mu 0 it acc env) R s:=by
 refine Ze rfl I (fun n s hI=>?_) n h;show Bb _ A zBc _ _ s;refine fH ?_;rw[compTurn_list];refine Aj (ah (Aj (aM (turn n s hI) (fun r g Z=>?_) fun _ _ z=>z)));cases r with
 |none=>exact Bq (aB Z)
 |some v=>
  show Bb By A (letOwnedTupleGo target it v>>=fun _=>assign target env v>>=_) _ _ g;rw[<-bind_assoc];refine Aj (aM Z (fun _ U h₂=>Aj (aM h₂ (fun ok l Y=>?_) fun _ _ z=>z)) fun _ _ z=>z);cases ok with
  |false=>exact Bq (aB ⟨rfl,Y⟩)
  |true=>exact CL (CL (HU Y fun x T h₄=>Bq (Wb (aM h₄ (fun _ M h₅=>aB (Bq (aB ⟨rfl,h₅⟩))) fun _ _ z=>z))))
def Wx{pins:Cl}{σ:St}{R:Hp}{s2:SD}{Q:VK}{it:AD}{fp:vz}{tn:yL}{J:It}{cl:y9}{E:ve}{RR:yZ} (S:wh)(hcalm:dO){tgE:Expr}{g:TG}(Rv:St->Prop)(r0:Rv (carry fr σ))(hpg:∀C,PG (Ag X scope cl N C s2 R fp) tgE g)(hfr:RG)(hlen:xF) (hif:zAk)(he:zBF) (M:Inv X pins σ R s2)(T:Turn X.prog X.w X.K tgE J fp it tn)(st2:tn 0 s2.heap)(f2:∀b∈fp,HB X pins R b) (c1:UV)(c2:PV) (W:IS) (fin:Da):wpAny AT X.A (newList []) (fun acc s₃=>wpAny AT X.A NR (fun cenv s₄ => CU AT X.A (.compStart t9 0 rs acc rc) zAD s₄) E s₃) E s2:=by
 refine aY zJ;dsimp only at Y I ⊢;generalize hHp:s2.heap.push { cls:=.type "list",dict:=none,data:=.seq ([]:List VL).toArray}=U at Y I ⊢;have hC:U.objs.size=s2.heap.objs.size+1:=by rw[<-hHp,Heap.size_push]
 have hDC:s2.heap.objs.size≠U.objs.size:=by rw[hC];exact aP (Nat.lt_succ_self _)
 have below:∀b,b<s2.heap.objs.size->b≠U.objs.size/\b≠s2.heap.objs.size:=fun b l=>⟨by rw[hC];exact aP (Nat.lt_succ_of_lt l),Nat.ne_of_lt l⟩;have old:∀b o,s2.heap.get? b=some o->h₁.get? b=some o:=fun b o e=>I.extBut b o (below b wU).1 (aD _ (hHp ▸ aD _ e));have hacc:h₁.get? s2.heap.objs.size=some { cls:=.type "list",data:=.seq ([]:List VL).toArray}:=I.extBut _ _ hDC (aD _ (hHp ▸ aa _ rfl));have hD2:R s2.heap.objs.size=none:=M.Ay.fresh SL;have hC2:R U.objs.size=none:=M.Ay.fresh yX;have fpo:∀b∈fp,b<s2.heap.objs.size:=fun b l=>by
  obtain⟨o,e,_⟩:=T.obj _ _ st2 b l;exact aE e
 obtain⟨W,⟨m0,w0⟩,turn⟩:=W s2.heap.objs.size hD2;have ok:(Ag X scope cl N U.objs.size s2 R fp).Ok:=by
  refine⟨M.ok.mod,S.kind,M.ok.glob,M.ok.blt,by show s2.heap.objs.size<=U.objs.size;rw[hC];exact Nat.le_succ _,?_,?_,?_,fun _=>M.ok.hd hcalm,M.ok.frames,.inl rfl,?_,M.bs,Nat.le_trans M.ok.OH M.sz,?_,?_,M.stack,M.L3,M.kt⟩
  .exact fun a b c h1 h2=>M.ok.inj a b c (c1 _ _ h1) (c1 _ _ h2)
  .intro y hy;obtain⟨k,hm,rfl⟩:=Nz S.cell hy;exact c2 _ hm rfl
  .intro y c hf;cases hf
  .intro b l;refine⟨(below b (fpo b l)).1,fun y c e=>?_⟩;obtain⟨_,_,_,_,f5,_⟩:=f2 b l;exact f5 y c (c1 _ _ e)
  .intro b o e l;obtain⟨_,_,_,f4,_,_⟩:=f2 b l;rcases f4 with z|z
   .exact M.ok.Qa b o e z
   .exact absurd (aJ wU (aK M.ok.OH z)) yG
  .intro b l hs;obtain⟨_,f1,f3,_⟩:=f2 b l;rcases aI.mp (M.MP b hs) with z|z
   .exact f1 z
   .exact f3 z
 have I4:Inv IN [] (carry fr σ) (upd R s2.heap.objs.size v3) {s2 with heap:=h₁,toks:=s2.toks+([]:List (Str×VL)).length}:=by
  refine⟨ok,rfl,M.bare,Un.laid old SL hD2,⟨_,Y,fun i y v h1 h2 h3=>?_⟩,fun y c e=>?_,?_,fun y c e=>?_,fun p hp=>(by cases hp),M.Ay.laid old SL ⟨aW _,[],0,.nil,hacc⟩,?_⟩
  .obtain⟨j,e1,e2⟩:=TM h2;obtain⟨n,n1,n2,n3,n4⟩:=Mq hfr e1;rw[Nat.zero_add]at n1;have:y=n:=by
    have h1':N[i]? = some y:=h1;rw[h1']at n1;exact aQ n1
   subst this;obtain⟨m,hn,hl⟩:=M.loc;obtain⟨u,ru,lk⟩:=hl j y v n2 e2 (.inr (.inl n4));refine⟨u,ru,?_⟩;obtain⟨c,hc⟩:=c2 _ (lookup_mem n3) rfl;rcases lk with ⟨k1,_⟩|⟨_,c',hc',hcell⟩
   .have k1':X.env.scope.names.lookup y=some .local:=k1;rw[n4]at k1';cases k1'
   .have:=c1 _ _ hc;rw[hc']at this;cases this;refine .inr ⟨?_,c,hc,hcell.keeps old⟩;rcases h3 with z|z|z
    .obtain⟨k,hm⟩:∃k,(y,k)∈scope.names/\k=NameKind.local:=by
      have hm:=lookup_mem z;have hm':(y,NameKind.local)∈(relabel scope X.env).names:=hm;unfold relabel at hm';obtain⟨⟨m',k⟩,hy,e⟩:=aN.mp hm';dsimp only at e;by_cases hcond:zx=true
      .rw[if_pos hcond]at e;injection e with _ e2';cases e2'
      .rw[if_neg hcond]at e;injection e with e1' e2';subst e1' e2';exact⟨_,hy,rfl⟩
     obtain⟨hm,rfl⟩:=hm;have:=S.names _ hm rfl;rw[n3]at this;cases this
    .exact .inl z
    .exact .inr z
  .obtain⟨v,z⟩:=M.cell y c (c1 _ _ e);exact⟨v,z.keeps old⟩
  .show upd R s2.heap.objs.size _ U.objs.size=none;rw[Ae (Ne.symm hDC)];exact hC2
  .obtain⟨v,o,ho,_⟩:=M.cell y c (c1 _ _ e);rw[Ae (below c (aE ho)).2];exact M.FK y c (c1 _ _ e)
  .show(carry fr σ).length=N.length;unfold carry;rw[wk];exact hlen
 have fpX:∀(p:Cl) (H':Hp),(∀q∈p,q.1∈fp->False)->(∀b∈fp,H' b=none)->∀b∈fp,HB IN p H' b:=fun p H' hp hn b l=>by
  obtain⟨_,f1,f3,f4,f5,_⟩:=f2 b l;refine⟨hn b l,(below b (fpo b l)).1,fun hs=>ok.P9 b l hs,.inl l,fun y c e=>f5 y c (c1 _ _ e),fun q hq e=>?_⟩;exact hp q hq (e ▸ l)
 have hxv:(relabel scope X.env).names.lookup x=some .local:=bL S.loc;have loop:∀s₃:SD,s₃={s2 with heap:=h₁,toks:=s2.toks+([]:List (Str×VL)).length} ->
   CU AT X.A (.compLoop t9 0 rs (.ref s2.heap.objs.size) xV) (RR (.ref s2.heap.objs.size) U.objs.size) s₃:=by
  rintro s₃ rfl;refine MR zBf ?_ m0
   ⟨0,[],carry fr σ,_,I4,r0,T.keep _ _ _ st2 fun b _ o e=>old b o e,fun b l=>by rw[Ae (below b (fpo b l)).2];exact(f2 b l).1,w0⟩
  rintro n s3 ⟨i,ys,σ3,H3,I3,hσ,st3,fr3,w3⟩;obtain⟨hD3,way⟩:=turn i n ys H3 w3;rcases way with ⟨stop,qn⟩|⟨go,hsz,step⟩
  .refine aM (T.done IN rfl rfl rfl hcalm i [] s3 σ3 H3 sK I3 xW st3 stop) (fun r s4 ⟨hr,I5⟩=>?_) fun _ _ z=>z.elim;subst hr;obtain⟨m,hn,_⟩:=id I5.loc;refine fin _ _ s4 H3 m hn qn (fun h' hs'=>?_) (Ne.symm hDC) (fun b o e=>(below b wU).1) I5.free yX;have nC:∀b u,H3 b=some u->b≠U.objs.size:=fun b u e z=>by
    have:=I5.free;rw[show(Ag X scope cl N U.objs.size s2 R fp).env.locals=U.objs.size from rfl,<-z,e]at this;cases this
   have keepU:Un (Fd X.stack) fp R H3 s2.heap h':=by
    have u:=I5.base;refine⟨fun b o e n l hx=>?_,fun b o e n l hx=>?_,fun b o e n hx=>u.free b o e n hx,fun b o e hx=>?_,u.CP,u.FN,u.F9,fun b xs o q e hx=>(hs'.2 b (below b wU).1).trans (u.Fu b xs o q e hx)⟩
    .exact(hs'.2 b (below b wU).1).trans (u.keep b o e n l hx)
    .obtain⟨sl,e1⟩:=u.slot b o e n l hx;exact⟨sl,(hs'.2 b (below b wU).1).trans e1⟩
    .obtain⟨o',e1⟩:=u.there b o e hx;exact⟨o',(hs'.2 b (below b wU).1).trans e1⟩
   have hok':DN X.prog X.w H3 h':=fun b u e=>(I5.Ay b u e).Hd (fun c v hc q=>(hs'.2 c (by
    rcases hc with rfl|hc
    .exact nC _ _ e
    .exact nC _ _ hc)).trans q) (fun _ q=>q) fun _ _ q=>q
   refine M.Zb (s':={s4 with heap:=h'}) (ch:=fp) I5.os keepU hok' I5.bare fun b l=>?_;obtain⟨_,f1,_,f4,f5,f6⟩:=f2 b l;exact⟨f4,f1,f5,f6⟩
  .refine aM (T.item IN rfl rfl rfl hcalm i [] s3 σ3 H3 sK I3 xW st3 go) (fun r s4 ⟨u,hr,h4⟩=>?_) fun _ _ z=>z.elim;subst hr;show wpAny AT X.A (letOwnedTupleGo tgE rs u>>=fun _=>assign tgE xV u) _ _ s4;refine Wb zAa;have I5':=I5.pinned (fpX [] H5 (fun _ z=>by cases z) fr5) (T.obj _ _ st5);refine aM (hpg _ _ s5 σ3 H5 xv u _ I5' r5 (step xv H5 y5 σ3 hσ)) (fun _ s6 ⟨σ6,H6,I6,rv6,step5⟩=>?_) fun _ _ z=>z.elim;refine aM (hif _ _ _ _ _ _ s6 _ H6 _ I6 step5) (fun b s7 ⟨H7,I7,q7⟩=>?_) fun _ _ z=>z.elim;have again:∀ {s8:SD} {H8:Hp} {k:Nat} {zs:UF},Inv IN ([]++MN fp s5.heap) σ6 H8 s8->W Pi k zs H8->k<n ->
     ∃m,m<n/\∃i ys Z H',Inv IN [] Z H' s8/\Rv Z/\tn i s8.heap/\wj/\W i m ys H':=fun {s8 H8 k zs} I8 w8 hk=>by
    refine⟨k,hk,i+1,zs,_,H8,I8.Kc,rv6,T.keep _ _ _ st5 fun b l o e=>(I8.pin (b,o) (aR _ (aR _ (GP l e)))).1,fun b l=>?_,w8⟩;obtain⟨o,e,d⟩:=T.obj _ _ st5 b l;exact(I8.pin (b,o) (aR _ (aR _ (GP l e)))).2.1
   cases b with
   |false=>
    rw[if_neg aL]at q7 ⊢;obtain⟨k,hk,w7⟩:=q7;exact again I7 w7 hk
   |true=>
    rw[if_pos rfl]at q7 ⊢;refine Dz (he _ _ _ _ _ _ s7 _ H7 _ I7 q7) (fun yv s8 ⟨y,H8,I8,r8,hD8,k,hk,w8⟩=>?_) fun _ _ z=>z.elim;refine aM Re (fun _ s9 ⟨_,H9,I9,_,e9⟩=>?_) fun _ _ z=>z.elim;subst e9;exact again I9 w8 hk
 exact Mc (loop _ rfl) zAA
def N3{pins:Cl}{σ:St}{g:Hp}{s2:SD}{Q:VK}{it:AD}{fp:vz}{tn:yL}{J:It}{cl:y9}{E:ve}{RR:yZ} (S:wh)(l:dO)(hfr:RG)(Z:xF) (hif:zAk)(he:zBF) (I2:Inv X pins σ g s2)(T:Turn X.prog X.w X.K (.Name x px) J fp it tn)(st2:tn 0 s2.heap)(f2:∀b∈fp,HB X pins g b) (c1:UV)(c2:PV) (W:IR) (fin:Da):wpAny AT X.A (newList []) (fun acc R=>wpAny AT X.A NR (fun cenv M => CU AT X.A (.compStart B1 0 rs acc rc) zAD M) E R) E s2:=by
 have Y:(relabel scope X.env).names.lookup x=some .local:=bL S.loc;refine Wx S l (fun I=>∀v,I.set ix v=(carry fr σ).set ix v) (fun _=>rfl) zAU hfr Z hif he I2 T st2 f2 c1 c2 (fun D hD=>?_) fin;obtain⟨W,w0,st⟩:=W D hD;refine⟨W,w0,fun i m ys H w=>?_⟩;obtain⟨h1,h2|⟨h2,h3,h4⟩⟩:=st i m ys H w
 .exact⟨h1,.inl h2⟩
 .refine⟨h1,.inr ⟨h2,h3,fun x H' hy I hr=>?_⟩⟩;have:=h4 x H' hy;rw[<-hr]at this;exact⟨fun v=>by rw[List.set_set,hr],this⟩
def ly(S:wh)(R:dO)(hfr:RG)(U:xF)(l:Tm) (hi:i0)(hif:zAk)(he:zBF) (hs:∀x,foldedSetIterable iter X.env x=pure x:=by intro _;rfl):RE X B1 wP:=by
 intro pins s σ H Q I hw;obtain⟨cl,M,c1,_,c2⟩:=FR (env:=X.env) scope.names [] zy (fun y c z=>by cases z);have g:closureFor scope X.env=pure cl:=by
  have e:closureFor scope X.env=IG:=rfl;rw[e,M]
  rfl
 rw[eval_ListComp];refine Gk (use:=none) rfl hs g S.kind S.names wQ;obtain⟨it,fp,tn,J,H2,e,I2,T,Y,f2,W⟩:=h2;subst e;refine N3 (RR:=fun acc C=>compPost AT X.A X.xe none Ix acc C) S R hfr U hif he I2 T Y f2 c1 c2 W ?_;intro D C s' H' m hn q hI _ _ _ _;exact⟨m,hn,fun h' Z=>⟨.ref D,H',hI h' Z,rfl,q⟩⟩
def Yg{i : Nat}{y : Str}{py spos : Pos}(hN : nn)(hy : X.N[i]? = some y)(hly : X.env.scope.names.lookup y = some .local)(S : wh)(hcalm : X.calm = true)(hfr : Dj N X.N scope X.env.scope fr 0 = true)(hlen : fr.length = N.length) (hfree : wu) (hi : i0)(hif : ∀ cl C s₀ H₀ fp,II BY ifs tif)(he : ∀ cl C s₀ H₀ fp,RE BY elt te) (hsw : swapsWith B1 (some (.Name y py)) spos.line X.env = pure true:=by rfl) (hs : ∀ x,foldedSetIterable iter X.env x = pure x:=by intro _; rfl):RS X (.Assign [.Name y py] B1 spos) (J8 wP (Ef i)):=by
  intro pins s σ H D I hw
  obtain ⟨cl,hclos,c1,_,c2⟩:=FR (env:=X.env) scope.names [] (fun y hy hf => I.ok.has y.1 (hfree y hy hf)) (fun y c z => by cases z)
  have hclos' : closureFor scope X.env = pure cl:=by
    have e : closureFor scope X.env = Op:=rfl
    rw [e,hclos]
    rfl
  rw [exec_Assign_Name_used _ _ _ _ hsw]
  refine Aj (ah (C4 ?_))
  show Bb _ X.A zBX _ _ s
  refine C4 (Dz (Gk (use:=some wS) (Q:=fun _ s' => SP X pins D .next s') rfl hs hclos' S.kind S.names
    (A2 (hi pins s σ H _ I hw) fun v s1 h1 => A2 h1 fun itv s2 h2 => ?_)) (fun _ s' hq => aB (aB hq)) fun _ _ e => e)
  obtain ⟨it,fp,tn,J,H2,e,I2,T,st2,f2,W⟩:=h2
  subst e
  refine N3 (Q:=fun x H1 => Ef i x σ H1 D.nx) (RR:=fun acc C => compPost AT X.A X.xe (some wS) (fun _ s' => SP X pins D .next s') acc C) S hcalm hfr hlen hif he I2 T st2 f2 c1 c2 W ?_
  intro D' C s' H' m hn q hI hCD hold hfreeC hsz
  have I5 : Inv X pins σ H' s':=hI s'.heap (Heap.SameBut.refl ..)
  refine wpAny_assign_Name yg
  have hL : C≠X.env.locals:=fun z => by
    obtain ⟨_,⟨o,_,_,e,_⟩,_⟩:=I2.loc
    exact hold _ _ e z.symm
  have hcl : ∀ z c,X.env.cells.lookup z = some c->c≠C:=fun z c e => by
    obtain ⟨_,o,ho,_⟩:=I2.cell z c e
    exact hold _ _ ho
  have hCa : C≠a:=by
    rcases ha with z | z
    . rw [z]; exact hL
    . exact Ne.symm (hcl _ _ z)
  refine ⟨m,hn.sameBut hsb hCa,fun h' hs' => ⟨_,H',I6.turned (t':=s''.toks) (it:=C) (fun b o hb e => (hs'.2 b hb).trans e) hfreeC hL (.inr (aK I2.sz hsz)) hcl fun p hp => ?_,q⟩⟩
  obtain ⟨e,_⟩:=I2.pin p hp
  exact hold _ _ e
end
section
variable{X:Cx}{elt iter:Expr}{x:Str}{px pos:Pos}{ifs:vp}{scope:yB}{wi:TI}{tif:TT}{te:TE}
def gK(N:vo)(ix:Nat)(fr:v8)(hi:i0)(g:zAk)(he:zBF) (T:Bu scope N x ix=true:=by decide +kernel)(R:X.calm=true:=by rfl)(M:Dj N X.N scope X.env.scope fr 0=true:=by rfl)(I:fr.length=N.length:=by rfl)(l:freeOk X.env.scope scope.names=true:=by rfl) (hs:∀x,foldedSetIterable iter X.env x=pure x:=by intro _;rfl):RE X B1 wP :=
 ly (FD T) R M I (JK l) hi g he hs
def Wh{i:Nat}{y:Str}{R g:Pos}(N:vo)(ix:Nat)(fr:v8)(U:nn)(T:X.N[i]? = some y)(I:xP) (hi:i0)(M:zAk)(he:zBF) (h1:Bu scope N x ix=true:=by decide +kernel)(h2:X.calm=true:=by rfl)(h3:Dj N X.N scope X.env.scope fr 0=true:=by rfl)(Z:fr.length=N.length:=by rfl)(Y:freeOk X.env.scope scope.names=true:=by rfl) (l:swapsWith B1 (some (.Name y R)) g.line X.env=pure true:=by rfl) (hs:∀x,foldedSetIterable iter X.env x=pure x:=by intro _;rfl):RS X (.Assign [.Name y R] B1 g) (J8 wP (Ef i)) :=
 Yg U T I (FD h1) h2 h3 Z (JK Y) hi M he l hs
end
section
variable{α:Type}{M:Model}{A:F0d}{E:ve}{s:SD}{x:Str}{u:Tok}
def Hn{p:Prop}[Decidable p]{a b:Sem α}{Q:xu}(g:¬p)(h:Bb M A b Q E s):Bb M A (if p then a else b) Q E s:=by rw[if_neg g];exact h
def kX{p:Prop}[Decidable p]{a b:Sem α}{Q:xu}(g:p)(h:Bb M A a Q E s):Bb M A (if p then a else b) Q E s:=by rw[if_pos g];exact h
def kO(h:Bb M A ((int_private% "intFromText") (.str x u) (if x.cps.all (· < 128) then x.cps.toList else Unicode.numberText x.cps.toList) 10) sK E s):Bb M A ((int_private% "intFromObject") (.str x u)) sK E s:=by
  obtain⟨l,g,d,tk,os⟩:=s;have U:=PySem.W.KIN.str_int;have T:=PySem.W.KIN.str_idx;have R:=PySem.W.KIN.str_trunc;have I:typeOf (.str x u)=pure yP:=rfl;refine Aj ?_
  repeat (any_goals (first|assumption|wp_step))
def cR{e:VL}{own:List String}{Q:y3}(h:Q () s):Bb M A (markTheRefusal own e) Q E s:=fun g p i k=>by
 unfold markTheRefusal;have I:pythonCodeMadeTheCall own (((g.code,p)::g.below).map OR)=false:=by
  unfold pythonCodeMadeTheCall;have:((((g.code,p)::g.below).map OR).any fun c=>match c with|.builtin "claim.caller" _=>true|_=>false)=true:=by
   rw[List.any_map,List.any_cons];have l:g.below.any (fun x=>x.1.isCaller)=true:=k;simp only[Function.comp_def];rw[show(g.below.any fun x=>match x.1 with|.builtin "claim.caller" _=>true|_=>false)=true from l,Bool.or_true]
  simp only[Bool.and_eq_false_iff,Bool.not_eq_false'];exact .inl (.inl this)
 show Sem.wp M g (stack>>=_) _ _ p s;rw[Sem.wp_bind'];show Sem.wp M g (Sem.stack _) _ _ p s;rw[Sem.wp_stack,Sem.wp_pure,if_neg (by rw[I];exact aL)];exact h
end
section
variable{prog:F0b}{w:F0c}{A:F0d}{E:ve}{s:SD}{x:Str}{u:Tok}
def int_text{text:vv}(hh:xR)(hx:(reprText x).length<=sizeLine)(hs:(text.takeWhile (· != 0)).length<=640) (hr:(int_private% "readNumeral") 0 10 (text.takeWhile (· != 0))=int_private% "Numeral.invalid" \/ ∃i,(int_private% "readNumeral") 0 10 (text.takeWhile (· != 0))=(int_private% "Numeral.value") i/\¬((text.takeWhile (· != 0)).length==text.length)=true) (h:zBa):Bb By A ((int_private% "intFromText") (.str x u) text 10) sK E s:=by
    refine kX hs ?_
    refine Aj lr
    have jp:Bb By A (do
            rule "int.__new__.invalid-literal"
            let shown <-pyRepr (Value.str x u)
            let m <-mkStr (Str.ofString zi ++ { cps:=shown.cps.extract 0 200})
            let refusal <-newExc (Value.type "ValueError") [m]
            markTheRefusal ["int.__new__"] refusal
            (raiseNew refusal:Sem VL)) sK E s:=by
      refine Aj (ba ?_)
      refine Aj (wpAny_pyRepr_str ?_ hx)
      refine Aj (wpAny_mkStr ?_ ?_)
      . unfold newExc newTuple
        refine Aj (Wb (aY ?_ (show(1:Nat)<=sizeLine by decide)))
        refine Wb (m:=firstArgMember _ _) (bY (a:=Value.none) (by simp only[firstArgMember,plainExc_ValueError.first];rfl) ?_)
        rw[plainExc_ValueError.own]
        refine aY ?_ (by size_fits)
        refine CL (cR (Bq ?_))
        refine wpAny_raiseNew_none hh (h _ _ _ ⟨fun b o hb=>aD _ (aD _ hb),Heap.get?_none_of_le A1,_,Heap.get?_push_size _ rfl,Heap.get?_none_of_le A1,Heap.get?_push_of_some _ (aa _ rfl)⟩)
      . have e1:(Str.ofString zi).length=40:=by decide +kernel
        have e2:(Str.mk ((reprText x).cps.extract 0 200)).length<=200:=by
          show((reprText x).cps.extract 0 200).size<=200
          rw[Array.size_extract];lia
        have e3:∀a b:Str,(a++b).length=a.length+b.length:=fun a b=>Array.size_append
        rw[e3,e1]
        exact aK (Nat.add_le_add_left e2 40) AS
    dsimp only
    rcases hr with hr|⟨i,hr,hne⟩
    . rw[hr]
      dsimp only
      refine Aj lr
      refine Hn A1 ?_
      exact jp
    . rw[hr]
      dsimp only
      refine Hn hne ?_
      exact jp
end
section
variable{prog:F0b}{w:F0c}{A:F0d}{E:ve}{s:SD}{x:Str}{u:Tok}{R:iN}
def M4{id:xC}{args:Args}{b:Builtin}(l:entryFor table id=some b)
 (h:Bb By (A.under (.builtin id args)) (b args) (fun fin s'=>match fin with|.done f=>R (.ok f) s'|.again g=>g.quiet=true/\CU By A g R s') zBx s):CU By A (.builtin id args) R s:=by
 refine D5 ?_;show Bb _ _ (match entryFor table id with|some b=>b args|none=>unsupported ((withoutEnding? id "#data").getD id)) _ _ s;rw[l];exact h
def iL(Y:xR)(U:x.length<=640)(T:(reprText x).length<=sizeLine)(hn:PySem.intText? x=none) (h:zBa):Bb By A (call db [.str x u]) sK E s:=by
 refine KH (D5 (Bq ?_));show wpAny _ _ (callAny db _) _ _ _;refine aB ⟨Code.quiet_builtin _ xg,M4 F.entry_type_call ?_⟩;rw[Around.under_plain (weight_type_call_type "int" [.str x u] []) (units_type_call_type "int" [.str x u] [])];have h1:=F.called_int.notType;have Z:=F.called_int.canCreate;obtain⟨c,tl,l⟩:=F.called_int.mro;have g:=F.called_int.made;have I:=F.typeCall_int_1 (.str x u);unfold Builtin.«type.__call__»;dsimp only;refine Hn (by rw[h1];decide) ?_;refine Hn (by rw[Z];decide) ?_;refine Aj (bY I ?_);refine Aj (bY l ?_);refine Hn A1 ?_;refine Aj (bY g ?_);dsimp only;refine Aj (aB (CL (ED (HU (Q:=fun _ _=>False) ?_ fun _ _ z=>z.elim))));refine KH (D5 (Bq ?_));show wpAny _ _ (callAny (.builtin "int.__new__") _) _ _ _;unfold callAny;refine Wb (bY (F.newCall_int_1 (.str x u)) (aB ⟨plainId_quiet F.called_int.plain _,M4 F.entry_int_new ?_⟩));rw[Around.under_plainId F.called_int.plain];unfold Builtin.«int.__new__»;dsimp only;refine Aj lr;refine Hn AS ?_;refine Aj (bY F.conv_sub_int ?_);refine Hn AS ?_;refine Aj (bY F.madeHere_int ?_);refine Hn A1 ?_;refine Hn A1 ?_;refine Aj lr;have M:(numSeenOf x).length<=640:=aK (PySem.seen_length x) U;refine CL (HU (Q:=fun _ _=>False) (kO (int_text Y T M ?_ h)) fun _ _ z=>z.elim);rcases PySem.read0 x M with ⟨n,e,_⟩|⟨_,e⟩
 .rw[hn]at e;cases e
 .exact e
end
def Yp{M:Model}{A:F0d}{E:ve}{s:SD}{base h:Heap}{env:Env}{outer:v7}{L e:AD}{cls:VL}{args:vd}{Q:y3} (R:A.frames=some (env::outer))(U:env.frame=some L)(g:base.StaysIn h)(hl:h.FunFrames base (env::outer))(I:Heap.MadeExcOf h s.heap e cls args) (hQ:∀h' t,Heap.HeldW base (env::outer) e cls (.ref t) L h'->s.heap.UpToSlots h'->Q () dL):wpAny M A (noteFrame (.ref e) env) Q E s:=by
 obtain⟨t,Y,htn,ht⟩:=I.there;have l:base.get? e=none:=by
  cases hq:base.get? e with
  |none=>rfl
  |some o'=>have:=g e o' hq;rw[I.new]at this;cases this
 unfold noteFrame;simp only[U];have h1:(#[Value.ref t,.none,.none,.none,.bool false,.none]:Array VL)[1]? = some Value.none:=rfl;refine Wb (au Y rfl h1 ?_);rw[if_neg (show ¬((Value.none != Value.none)=true) by decide)];refine wpAny_entryW R (hl.of_keeps fun b o T _=>⟨o,I.keeps b o T,rfl⟩) U Y (fun b o T=>I.keeps b o (g b o T)) l rfl (by show 1<6;decide) rfl fun h' hN=>?_;obtain⟨k1,k2,k3,Z⟩:=hN;exact hQ h' t ⟨k1,l,k2,k3⟩ Z
def ME{prog:F0b}{w:F0c}{A:F0d}{E:ve}{s:SD}{env:Env}{I orelse:v5}{h₀:ExceptHandler}{hs:List ExceptHandler}{pos:Pos}{Q:Flow->SD->Prop}
 (h:Bb By A (execs I env) (fun f g=>match f with|.next=>wpAny By A (execs orelse env) Q E g|f=>Q f g)
   (fun e g=>wpAny By A (noteFrame e env) (fun _ R=>wpAny By A (setFlight e none) (fun _ M=>wpAny By A (handleBy e env (h₀::hs)) Q E M) E R) E g) s) :
  Bb By A (exec (.Try I (h₀::hs) orelse [] pos) env) Q E s:=by
 rw[arm_exec_Try];refine Aj (ah ?_);unfold tryStmt;simp only[List.isEmpty_nil,if_true,List.isEmpty_cons,Bool.false_and,Bool.false_eq_true,if_false];refine CL (PM (Dz h (fun f g l=>?_) fun e g l=>?_))
 .cases f<;>first|exact Bq l|exact Bq (aB l)
 .exact Bq (Wb (aM l (fun _ _ k=>Wb k) fun _ _ z=>z))
section
variable{X:Cx}{pins:Cl}{σ:St}{H:Hp}{s:SD}{D:Ends}{ea:AD}{h':Heap}{tk:Nat}{m:VL}{np pr pc hpos:Pos}{kc:Nat}
def kC(I:Db)(hx:Heap.MadeExcOf s.heap h' ea nz [m])(hstk:zAB)(hfr:zR)(hg:Gl X "ValueError")(hm:X.mg "ValueError" = none)(q:D.rt .BS H):wpAny AT X.A (noteFrame xx X.env) (fun _ s₂=>wpAny AT X.A (setFlight xx none) (fun _ s₃=>wpAny AT X.A (handleBy xx X.env [.ExceptHandler (some (.Name "ValueError" np)) none [.Return (some (.Constant .none kc pc)) pr] hpos]) (SP X pins D) X.xe s₃) X.xe s₂) X.xe Tl:=by
 obtain⟨rest,g⟩:=hstk;have hfrm:X.A.frames=some (X.env::rest):=by rw[<-g];exact I.ok.frames
 have FF:=I.stack;have hin:∀env∈X.stack,∀b,env.frame=some b->b∈X.stack.filterMap yO:=fun env he b Y=>List.mem_filterMap.mpr ⟨env,he,Y⟩;have l:∀b u,H b=some u->b ∉ X.stack.filterMap yO:=fun b u e hm=>by
  have:=I.L3 b hm;rw[e]at this;cases this
 refine Yp (base:=PySem.W.hideAll s.heap (X.stack.filterMap yO)) (s:={s with heap:=h',toks:=tk}) hfrm hfr (fun b o q=>PySem.W.of_hideAll _ q) (by rw[<-g];exact PySem.W.funFrames_hide FF hin) hx fun h4 t U up4=>?_;refine wpAny_landsW U fun h5 fl5 up5=>?_;have R:=up4.trans up5;have hokB:DN X.prog X.w H xU:=fun b u e=>
  (I.Ay b u e).Hd (fun c v hc q=>bQ _ q (by
   rcases hc with rfl|hc
   .exact l _ _ e
   .exact l _ _ hc)) (fun _ q=>q) fun _ _ q=>q
 have F:∀Z,Heap.FlyingW xU (X.env::rest) ea nz (.ref t) Z->h'.UpToSlots Z->Inv X pins σ H {s with heap:=Z,toks:=tk}:=fun Z M T=>by
  have fB:ZF X.prog X.w X.stack H s ea nz (.ref t) H {s with heap:=Z,toks:=tk} xU:=by
   refine⟨rfl,I.bare,by rw[g];rw[g]at M;exact M,fun b o e n Y=>bQ _ e Y,fun b o e Y=>⟨o,PySem.W.hideAll_get _ e Y⟩,fun b o e Y=>?_,fun b o e n=>n,fun b xs e=>e,fun b o u e=>e,fun b ps e=>⟨#[],by rw[Array.append_empty];exact e⟩,fun b xs o q e=>bQ _ e (l b _ q),hokB,hx.new⟩;obtain⟨o',e2,hd⟩:=Mw I.stack Y;rw[e]at e2;cases e2;exact T b _ (hx.keeps _ _ e) hd
  exact land I fB M.1 (Heap.UpToSlots.refl _)
 have I5:=F h5 fl5 R;refine wpAny_handleBy_cons (codeAny_handlers_test (Hs (I5.held ea) hg hm (by kernel_rfl:bootBuiltins "ValueError" = some nz) ?_)) (by intro q;cases q);obtain⟨ob,hob,hobc⟩:=fl5.there;refine wpAny_excMatches_type (X := "ValueError") (b:=true) ⟨ob,hob,hobc⟩ (by rw[isSubtype_type];kernel_rfl) (by rw[isSubtype_type];kernel_rfl) (by rw[isSubtype_type];kernel_rfl) (codeAny_handlers_suite ?_);refine lands_againW fl5 fun Z M T=>?_;have I6:=F Z M (R.trans T);exact wpAny_execs_cons (wpAny_Return_some (Constant_none ⟨.BS,σ,H,I6,rfl,q⟩))
end
def Nq(X:Cx)(e:Expr)(f:va):Prop:=∃t,RE X e t/\∀δ x,f δ=some x->∀G0 H0 G H σ ts (Q:VK),Rw G0 H0 G H σ δ ts->(∀v g H',Rw G0 H0 g H' σ δ ((x,v)::ts)->Q v H')->t σ H Q
def cM(X:Cx)(g:vp)(f:vZ):Prop:=∃t,RA X g t/\∀δ xs,f δ=some xs->∀G0 H0 G H σ ts (Q:zAX),Rw G0 H0 G H σ δ ts->(∀vs l H',Rw G0 H0 l H' σ δ (xs.zip vs++ts)->vs.length=xs.length->Q vs H')->t σ H Q
def Tt(X:Cx)(e:Expr)(f:vb):Prop:=∃t,RT X e t/\∀δ b,f δ=some b->∀G0 H0 G H σ ts (Q:xO),Rw G0 H0 G H σ δ ts->(∀g H',Rw G0 H0 g H' σ δ ts->Q b H')->t σ H Q
def Xu(X:Cx)(op:BoolOp)(g:vp)(f:vb):Prop:=∃t,RO X op g t/\∀δ b,f δ=some b->∀G0 H0 G H σ ts (Q:xO),Rw G0 H0 G H σ δ ts->(∀l H',Rw G0 H0 l H' σ δ ts->Q b H')->t σ H Q
def L7(X:Cx)(st:Stmt)(F:DF):Prop:=∃t,RS X st t/\∀δ r,F δ=some r->∀G0 H0 G H σ D,Rw G0 H0 G H σ δ []->Fin G0 H0 D r->t D σ H
def QW(X:Cx)(st:v5)(F:DF):Prop:=∃t,Jl X st t/\∀δ r,F δ=some r->∀G0 H0 G H σ D,Rw G0 H0 G H σ δ []->Fin G0 H0 D r->t D σ H
def qC(X:Cx)(E:XK)(st:Stmt)(F:F0):Prop:=∃t,RS X st t/\∀δ r,F δ=some r->∀G0 H0 G H σ D,Rw G0 H0 G H σ δ []->YL G0 H0 D E r->t D σ H
def ZW(X:Cx)(E:XK)(g:v5)(F:F0):Prop:=∃t,Jl X g t/\∀δ r,F δ=some r->∀G0 H0 G H σ D,Rw G0 H0 G H σ δ []->YL G0 H0 D E r->t D σ H
def DE.r{X:Cx}{e:Expr}{f:va}(h:xT):Nq X e f:=let⟨t,p,k⟩:=h;⟨t,.of p,k⟩
def DA.r{X:Cx}{g:vp}{f:vZ}(h:DA X g f):cM X g f:=let⟨t,p,k⟩:=h;⟨t,.of p,k⟩
def DT.r{X:Cx}{e:Expr}{f:vb}(h:DT X e f):Tt X e f:=let⟨t,p,k⟩:=h;⟨t,.of p,k⟩
def DS.r{X:Cx}{st:Stmt}{F:DF}(h:DS X st F):L7 X st F:=let⟨t,p,k⟩:=h;⟨t,.of p,k⟩
def JG.r{X:Cx}{st:v5}{F:DF}(h:JG X st F):QW X st F:=let⟨t,p,k⟩:=h;⟨t,.of p,k⟩
def DX.r{X:Cx}{E:XK}{st:Stmt}{F:F0}(h:DX X E st F):qC X E st F:=let⟨t,p,k⟩:=h;⟨t,.of p,k⟩
def OE.r{X:Cx}{E:XK}{st:v5}{F:F0}(h:OE X E st F):ZW X E st F:=let⟨t,p,k⟩:=h;⟨t,.of p,k⟩
def Xu.rt{X:Cx}{op:BoolOp}{g:vp}{pos:Pos}{f:vb}(h:Xu X op g f):Tt X (.BoolOp op g pos) f:=let⟨t,p,k⟩:=h;⟨t,p.rt,k⟩
def Nq.pe{X:Cx}{e:Expr}{f:va}(h:Nq X e f):RE X e (tD f):=by
 obtain⟨t,p,k⟩:=h;intro pins s σ H Q I q;obtain⟨δ,x,G0,H0,G,ts,M,l,g⟩:=q;exact p pins s σ H Q I (k δ x M G0 H0 G H σ ts Q l g)
def Jl.EN{X:Cx}{g:v5}{t:TS}(h:Jl X.EN g t):Jl X g t:=fun pins s σ H D I k=>Dz zX (fun _ _ z=>z.DM) fun _ _ z=>z.elim
def RS.EN{X:Cx}{st:Stmt}{t:TS}(h:RS X.EN st t):RS X st t:=fun pins s σ H D I k=>Dz zX (fun _ _ z=>z.DM) fun _ _ z=>z.elim
section
variable{X:Cx}{a b c e:Expr}{es:vp}{f h:va}{fs:vZ}{fa fb:vb}{pos p:Pos}{st:Stmt}{sts sts':v5}{F F1 F2:DF}
def Bo(h1:L7 X st F1)(Z:QW X sts F2):QW X (st::sts) (AN F1 F2):=by
 obtain⟨t1,U,M⟩:=h1;obtain⟨t2,T,Y⟩:=Z;refine⟨_,FL U T,fun δ r h G0 H0 G H σ D R k=>?_⟩;unfold AN at h;split at h
 .rename_i g e1;exact M δ _ e1 G0 H0 G H σ _ R fun l G' H' R'=>Y g r h G0 H0 G' H' l D R' k
 .rename_i I;refine M δ r h G0 H0 G H σ _ R ?_;cases r with
  |nx g=>exact absurd h (I g)
  |rt x=>exact k
  |bk g=>exact k
  |ct g=>exact k
  |rn xs=>exact k
def IW(g:L7 X st F1):QW X [st] F1:=by
 obtain⟨t,p,k⟩:=g;refine⟨t,fun pins s σ H D I h=>?_,k⟩;rw[execs_cons];refine CL (HU (p pins s σ H D I h) fun f s1 q=>Bq ?_);cases f with
 |next=>exact wpAny_execs_nil q
 |ret v=>exact aB q
 |brk=>exact aB q
 |cont=>exact aB q
def Sx(he:Nq X e f):L7 X (.Return (some e) pos) (fun δ=>(f δ).map .rt):=by
 obtain⟨t,p,k⟩:=he;refine⟨_,eY p,fun δ r h G0 H0 G H σ D R q=>?_⟩;obtain⟨x,l,rfl⟩:=aC.mp h;exact k δ x l G0 H0 G H σ [] _ R fun v I H' g=>q v I H' g.ext g.new g.ins g.keep (g.Aw _ EQ)
def fU(g:Tt X c fa)(h1:QW X sts F1)(h2:QW X sts' F2):L7 X (.If c sts sts' pos) (fun δ=>(fa δ).bind fun c=>if c=true then F1 δ else F2 δ):=by
 obtain⟨tc,pc,Y⟩:=g;obtain⟨t1,U,k1⟩:=h1;obtain⟨t2,T,Z⟩:=h2;refine⟨_,sJ pc U T,fun δ r h G0 H0 G H σ D R q=>?_⟩;obtain⟨i,h3,l⟩:=aA.mp h;refine Y δ i h3 G0 H0 G H σ [] _ R fun M H' I=>?_;split
 .rename_i g;rw[if_pos g]at l;exact k1 δ r l G0 H0 M H' σ D I q
 .rename_i g;rw[if_neg g]at l;exact Z δ r l G0 H0 M H' σ D I q
def Xl{i:Nat}{x:Str}{g:Pos}(M:nn)(hi:X.N[i]? = some x)(l:we)(he:Nq X e f)(hs:swapsWith e (some (.Name x g)) pos.line X.env=pure false:=by rfl)(I:X.fn x=true\/X.env.scope.names.lookup x=some .local:=by first|exact .inl rfl|exact .inr rfl):L7 X (.Assign [.Name x g] e pos) (fun δ=>(f δ).map fun y=>.nx wZ):=by
 obtain⟨t,p,k⟩:=he;refine⟨_,ny M hi l p hs I,fun δ r h G0 H0 G H σ D R q=>?_⟩;obtain⟨y,T,rfl⟩:=aC.mp h;exact k δ y T G0 H0 G H σ [] _ R fun v Y H' U=>q _ _ _ U.HH
def FT{k:Nat}{l:AD}{fd:F0a}{ps:vo}{m:MD}{x:Str}{st:Stmt}(T:Fn X.K X.mg x st ps l fd)(F:CT X.prog X.w X.K X.mg X.base A4 k l fd ps (BV m))(Y:CM k X.A)(Z:y6)(ha:cM X zAq fs) (g:GE=false:=by decide)(he:starEach zAq X.env=Ev::starEach es X.env:=by rfl)(hpl:(backTo pos Lx).any OR=false:=by rfl):Nq X Fk (fun δ=>(fs δ).bind m):=by
 obtain⟨ta,I,M⟩:=ha;refine⟨_,rq T F Y Z I g he hpl,fun δ z R G0 H0 G H σ ts Q R0 k=>?_⟩;obtain⟨xs,h1,h2⟩:=aA.mp R;refine M δ _ h1 G0 H0 G H σ ts _ R0 fun vs G1 H1 R1 U=>?_;obtain⟨d,R2⟩:=R1.args U;refine⟨xs,z,G1,h2,by rw[(GZ)];exact d,R2.ins,fun v G' H' h3 h4 h5 h6 h7=>?_⟩;exact k _ _ _ ((R2.lift h3 h4 h5 h6).put h7)
def QX(ha:Nq X e f)(T:cM X es fs)(hs:starEach zAq X.env=Ev::starEach es X.env:=by rfl):cM X zAq (fun δ=>(f δ).bind fun x=>(fs δ).map fun xs=>x::xs):=by
 obtain⟨ta,l,M⟩:=ha;obtain⟨tr,pr,I⟩:=T;refine⟨_,j7 l pr hs,fun δ z R G0 H0 G H σ ts Q R0 k=>?_⟩;obtain⟨x,h1,Z⟩:=aA.mp R;obtain⟨xs,Y,rfl⟩:=aC.mp Z;refine M δ x h1 G0 H0 G H σ ts _ R0 fun u G1 H1 R1=>?_;refine I δ xs Y G0 H0 G1 H1 σ _ _ R1 fun vs G2 H2 R2 U=>?_;refine k (u::vs) G2 H2 (R2.less fun q g=>?_) (by simp[U]);simp only[List.zip_cons_cons,List.cons_append,List.mem_cons,List.mem_append]at g ⊢;rcases g with h|h|h
 .exact .inr (.inl h)
 .exact .inl h
 .exact .inr (.inr h)
def mH(ha : Nq X e f)(he : ∀ whole,isTrue e X.env whole = ge:=by intro _; rfl):Tt X e (fun δ => (f δ).bind Nf):=by
  obtain ⟨ta,pa,ka⟩:=ha
  refine ⟨_,pB pa he,fun δ z hz G0 H0 G H σ ts Q R0 k => ?_⟩
  obtain ⟨q,h0,h4⟩:=aA.mp hz
  have:=VQ h4; subst this
  refine ka δ _ h0 G0 H0 G H σ ts _ R0 fun u G1 H1 R1 => ?_
  have hu:=R1.Aw _ EQ
  rw [Du] at hu
  exact ⟨z,hu,k _ _ R1.drop⟩
def kx(ha:Tt X a fa):Tt X zk (fun δ=>(fa δ).map fun c=>!c):=by
 obtain⟨U,g,l⟩:=ha;refine⟨_,qB g,fun δ z I G0 H0 G H σ ts Q T k=>?_⟩;obtain⟨i,M,rfl⟩:=aC.mp I;exact l δ _ M G0 H0 G H σ ts _ T fun Z Y R=>k _ _ R
def my{op:BoolOp}(ha:Tt X a fa):Xu X op [a] fa:=by
 obtain⟨I,g,l⟩:=ha;cases op
 .exact⟨_,lI g,l⟩
 .exact⟨_,nF g,l⟩
def Uh{rest:vp}(ha:Tt X a fa)(Z:Xu X .Or (b::rest) fb):Xu X .Or (a::b::rest) (fun δ=>(fa δ).bind fun c=>if c=true then some true else fb δ):=by
 obtain⟨ta,R,U⟩:=ha;obtain⟨tb,M,T⟩:=Z;refine⟨_,tI R M,fun δ z Y G0 H0 G H σ ts Q R0 k=>?_⟩;obtain⟨i,h3,g⟩:=aA.mp Y;refine U δ _ h3 G0 H0 G H σ ts _ R0 fun G1 H1 I=>?_;split
 .rename_i l;rw[if_pos l]at g;cases g;exact k _ _ I
 .rename_i l;rw[if_neg l]at g;exact T δ z g G0 H0 G1 H1 σ ts Q I k
end
section
variable{X:Cx}{elt iter:Expr}{x y:Str}{px pos spos:Pos}{ifs:vp}{scope:yB}{fs:vZ}{tif:vb}{f:va}
def Wq{i:Nat}{z:Str}{T spos:Pos}(N:vo)(ix:Nat)(fr:v8)(Z:nn)(Y:X.N[i]? = some z)(l:xS)(hi:yK)(I:zAx)(he:∀cl C s₀ H₀ fp,Nq BY elt f) (M:Bu scope N x ix=true:=by decide +kernel)(h2:X.calm=true:=by rfl)(h3:Dj N X.N scope X.env.scope fr 0=true:=by rfl)(h4:fr.length=N.length:=by rfl)(h5:freeOk X.env.scope scope.names=true:=by rfl) (g:swapsWith B1 (some (.Name z T)) spos.line X.env=pure true:=by rfl) (hs:∀x,foldedSetIterable iter X.env x=pure x:=by intro _;rfl):L7 X (.Assign [.Name z T] B1 spos) (fun δ=>(Bz (Bw ix) tif f fr fs δ).map fun y=>.nx wZ):=by
 obtain⟨wi,pi,U⟩:=hi;refine⟨_,Wh N ix fr Z Y l pi I Pl M h2 h3 h4 h5 g hs,fun δ r h G0 H0 G H σ D R q=>?_⟩;obtain⟨y,M,rfl⟩:=aC.mp h;exact Nm U M R fun v G' H' R'=>q _ _ _ R'.HH
def gU(N:vo)(ix:Nat)(fr:v8)(hi:yK)(l:zAx)(he:∀cl C s₀ H₀ fp,Nq BY elt f) (h1:Bu scope N x ix=true:=by decide +kernel)(h2:X.calm=true:=by rfl)(h3:Dj N X.N scope X.env.scope fr 0=true:=by rfl)(h4:fr.length=N.length:=by rfl)(h5:freeOk X.env.scope scope.names=true:=by rfl) (hs:∀x,foldedSetIterable iter X.env x=pure x:=by intro _;rfl):L7 X (.Return (some B1) spos) (jf (JE (Bw ix) tif f fr fs)):=by
 obtain⟨wi,pi,Z⟩:=hi;refine⟨_,eY (gK N ix fr pi l Pl h1 h2 h3 h4 h5 hs),fun δ r h G0 H0 G H σ D R q=>?_⟩;obtain⟨zs,Y,rfl⟩:=aC.mp h;exact Ro Z Y R fun D' ys G' H' g U T M n4 I=>q _ _ _ _ g.ext g.new g.ins g.keep M T U I
end
section
variable{P:F0b}{w:F0c}{K:Fg}{mg:vf}{base:Heap}{x:Str}{st:Stmt}{fA f:AD}{fd:F0a}{N ps:vo}{k:Nat}
def M8.tX{qual:Str}{sp:Sp}(F:M8 K x qual st f fd)(S:Ap N ps vy)(len:To) (g:∀(cdv:VL) (A:F0d) (outer:v7) (s:SD) (H:Hp) (vs:vx) (Q:VK) (E:XK),CM k (A.deeper (envOfC qual vy s.heap.objs.size f cdv))->sp vs H Q E ->∃t,Jl (CJ A4 P w K mg base N qual vy f cdv A outer s H E).EN (Cg st) t/\t { nx:=fun _ H'=>Q .BS H',rt:=Q} xD H):CT P w K mg base A4 ii f fd ps sp:=by
 obtain⟨oc,od,kV,doc,pm,an,cdv,ct,osl,rfl,lk,I⟩:=F.ex;refine Z3 lk I S len fun A outer s H vs Q E M l=>?_;obtain⟨t,h,q⟩:=g cdv A outer s H vs Q E M l;exact⟨t,h.EN,q⟩
def M8.uO{sp:Sp}(F:M8 K x x st f fd)(S:Ap N ps vy)(len:To) (g:∀(cdv:VL) (A:F0d) (outer:v7) (s:SD) (H:Hp) (vs:vx) (Q:VK) (E:XK),CM k (A.deeper (envOfC x vy s.heap.objs.size f cdv))->sp vs H Q E ->∃t,Jl (CJ kr P w K mg base N x vy f cdv A outer s H E) (Cg st) t/\t { nx:=fun _ H'=>Q .BS H',rt:=Q} xD H):CT P w K mg base kr ii f fd ps sp:=by
 obtain⟨oc,od,kV,doc,pm,an,cdv,ct,osl,rfl,lk,I⟩:=F.ex;exact Z3 lk I S len fun A outer s H vs Q E M l=>g cdv A outer s H vs Q E M l
def V1{F:DF}(T:Fn K mg x st ps fA fd)(S:Ap N ps vy) (hb:∀(cdv:VL) (A:F0d) (outer:v7) (s:SD) (H:Hp) (E:XK),CM k zBU->QW (CJ A4 P w K mg base N x vy fA cdv A outer s H E).EN (Cg st) F):CT P w K mg base A4 ii fA fd ps (BV (Ca ps N F)):=by
 refine T.F.tX S Tj fun cdv A outer s H vs Q E hr h=>?_
 .obtain⟨ds,y,G,g,l,_⟩:=h;unfold Ca at g;split at g
  .rename_i hl;rw[l.len];exact hl
  .cases g
 .obtain⟨ds,y,G,g,l,h3,h4⟩:=h;obtain⟨t,p,kk⟩:=hb cdv A outer s H E hr;refine⟨t,p,?_⟩;unfold Ca at g;split at g
  .split at g
   .rename_i z I;cases g;exact kk _ _ I G H G H _ _ (Rw.start l h3) fun v M H' m1 m2 Z Y U=>h4 v M H' m1 m2 Z Y U
   .rename_i δ I;cases g;exact kk _ _ I G H G H _ _ (Rw.start l h3) fun σ' M H' R=>h4 .BS M H' R.ext R.new R.ins R.keep GM
   .rename_i xs I;cases g;exact kk _ _ I G H G H _ _ (Rw.start l h3) fun a ys M H' m1 m2 Z Y U m6 m7 m8=>let⟨n1,n2,n3,n4⟩:=UZ m1 m2 Z U m6 m7 m8;h4 _ _ H' n1 n2 n3 Y n4
   .cases g
  .cases g
def uh{J:F0}(T:Fn K mg x st ps fA fd)(S:Ap N ps vy) (hb:∀(cdv:VL) (A:F0d) (outer:v7) (s:SD) (H:Hp) (E:XK),CM k zBU->ZW (CJ kr P w K mg base N x vy fA cdv A outer s H E) E (Cg st) J):CT P w K mg base kr ii fA fd ps (Kb (HD ps N J)):=by
 refine T.F.uO S Tj fun cdv A outer s H vs Q E hr h=>?_
 .obtain⟨ds,y,G,g,I,_⟩:=h;unfold HD at g;split at g
  .rename_i hl;rw[I.len];exact hl
  .cases g
 .obtain⟨ds,y,G,g,I,Y,U⟩:=h;obtain⟨t,p,M⟩:=hb cdv A outer s H E hr;refine⟨t,p,?_⟩;unfold HD at g;split at g
  .split at g
   .rename_i z l;cases g;exact M _ _ l G H G H _ _ ym fun v Z H' m1 m2 m3 m4 m5=>U v Z H' m1 m2 m3 m4 m5
   .rename_i δ l;cases g;exact M _ _ l G H G H _ _ ym fun σ' Z H' R=>U .BS Z H' R.ext R.new R.ins R.keep GM
   .rename_i xs l;cases g;exact M _ _ l G H G H _ _ ym fun a ys Z H' m1 m2 m3 m4 m5 m6 m7 m8=>let⟨n1,n2,n3,n4⟩:=UZ m1 m2 m3 m5 m6 m7 m8;U _ _ H' n1 n2 n3 m4 n4
   .rename_i C l;cases g;exact M _ _ l G H G H _ _ ym U
   .cases g
  .cases g
def CT.oy{sp g:Sp}(F:CT P w K mg base kr k fA fd ps sp)(h:∀vs H Q E,g vs H Q E->sp vs H Q fun _ _ _=>False):CT P w K mg base A4 k fA fd ps g :=
 ⟨fun vs H Q E z=>F.len _ _ _ _ (h _ _ _ _ z),fun A outer s H args us vs Q E M R T l I=>GQ (F.run A outer s H args us vs Q _ M R T l (h _ _ _ _ I)) fun r s' z=>by
  cases r with
  |ok U=>cases U<;>exact z
  |error e=>obtain⟨_,_,_,_,_,_,_,z⟩:=z;exact z.elim⟩
def qD{m:rW}(F:CT P w K mg base kr k fA fd ps (Kb m)):CT P w K mg base A4 k fA fd ps (BV (good m)):=F.oy fun vs H Q E z=>by
 obtain⟨ds,x,G,g,M,I,l⟩:=z;unfold good at g;split at g
 .rename_i y e;cases g;exact⟨ds,.inl x,G,e,M,I,l⟩
 .cases g
end
section
variable{X:Cx}{E:XK}{st:Stmt}{sts:v5}{F:DF}{J1 J2:F0}
def pJ(h:L7 X.EN st F):qC X E st (Qo F):=by
 obtain⟨t,p,k⟩:=h;refine⟨t,RS.EN p,fun δ r h G0 H0 G H σ D R q=>?_⟩;obtain⟨o,g,rfl⟩:=aC.mp h;exact k δ o g G0 H0 G H σ D R q
def NT(Z:qC X E st J1)(Y:ZW X E sts J2):ZW X E (st::sts) (IB J1 J2):=by
 obtain⟨t1,T,l⟩:=Z;obtain⟨t2,M,U⟩:=Y;refine⟨_,FL T M,fun δ r h G0 H0 G H σ D R q=>?_⟩;unfold IB at h;split at h
 .rename_i g e1;exact l δ _ e1 G0 H0 G H σ _ R fun I G' H' R'=>U g r h G0 H0 G' H' I D R' q
 .rename_i o hn;cases r with
  |inr C=>exact l δ _ h G0 H0 G H σ _ R q
  |inl o'=>
   cases o' with
   |nx g=>exact absurd h (hn g)
   |rt x=>exact l δ _ h G0 H0 G H σ _ R q
   |bk x=>exact l δ _ h G0 H0 G H σ _ R q
   |ct x=>exact l δ _ h G0 H0 G H σ _ R q
   |rn x=>exact l δ _ h G0 H0 G H σ _ R q
end
def nZ(X:Cx)(e:Expr)(t:TX):Prop :=
 ∀(pins:Cl) (s:SD) (σ:St) (H:Hp) (Q:VK) (E:XK),Inv X pins σ H s->t σ H Q E->Bb AT X.A (eval e X.env) Ix (Q7 X pins σ E) s
section
variable{X:Cx}{e:Expr}{t:TX}{x y z n:Str}{G:AD}{py pz pn np spos tpos hpos pos:Pos}{i j k:Nat}
def Q2{M:Model}{A:F0d}{E:ve}{s:SD}{env:Env}{x:Str}{g pos:Pos}{value:Expr}{Q:Flow->SD->Prop} (h:Bb M A (eval value env) (fun v l=>wpAny M A (storeName env x v) (fun _=>Q .next) E l) E s)(hs:swapsWith value (some (.Name x g)) pos.line env=pure false):Bb M A (exec (.Assign [.Name x g] value pos) env) Q E s:=fun I p i1 R=>by
 simp only[exec_Assign_Name env x g value pos hs,Sem.wp_bind',Sem.wp_cmd_standAt,Sem.wp_bindName,Sem.wp_pure'];exact Sem.wp_mono M I _ (fun v _ l z=>z I _ i1) (fun _ _ _ z=>z) _ _ (h I _ i1 R)
def iC(he:nZ X e t)(hN:nn)(g:dO)(hi:X.N[i]? = some y)(hj:X.N[j]? = some z)(hk:X.N[k]? = some n)(M:xP)(U:xS)(Y:zAO) (hg:y6)(hm:X.mg x=some (.ref G))(Z:k≠j)(l:zAB)(hfr:zR) (hd:GE=false:=by decide)(T:swapsWith (.Name n pn) (some (.Name z pz)) tpos.line X.env=pure false:=by rfl)(hdn:(n==("__debug__" : Str))=false:=by decide)(hcn:(n==("__classdict__" : Str))=false:=by decide) (R:swapsWith e (some (.Name y py)) spos.line X.env=pure false:=by rfl):RS X (.Try [.Assign [.Name y py] e spos] [.ExceptHandler (some L0) (some n) [.Assign [.Name z pz] (.Name n pn) tpos] hpos] [] [] pos) (cH X.K G t i j k):=by
 intro pins s σ H D I h;refine ME ?_;rw[execs_cons];refine C4 (Q2 (Dz (he pins s σ H _ _ I h) (fun v s1 ⟨w,H1,I1,r1,q1⟩=>?_) fun ev s1 hf=>?_) R)
 .exact HG I1 hN hi (.inl M) r1 (fun s2 I2=>wpAny_execs_nil (wpAny_execs_nil ⟨_,H1,I2,q1⟩)) (.inr M)
 .exact rD hN g hj hk U Y hg hm Z l hfr hf hd T hdn hcn
end
section
variable{X:Cx}{e:Expr}{es:vp}{h:va}{fs:vZ}{pos p:Pos}
def nJ{k:Nat}{M:AD}{fd:F0a}{ps:vo}{sp:Sp}{x:Str}{st:Stmt}{e:Expr}{es:vp}{t:TA}{p pos:Pos}(T:Fn X.K X.mg x st ps M fd)(F:CT X.prog X.w X.K X.mg X.base (Dy X.prog X.w) k M fd ps sp)(Y:CM k X.A)(Z:y6)(ha:PA X.EN zAq t) (g:GE=false:=by decide)(he:starEach zAq X.env=Ev::starEach es X.env:=by rfl)(hpl:(backTo pos Lx).any OR=false:=by rfl):nZ X Fk (qY sp t):=by
 intro pins s σ H Q E I h;have l:PA (X.EU (Q7 X pins σ E)) zAq t:=cJ (X:=X.EU (Q7 X pins σ E)) ha;exact Dz (Xq (X:=X.EU (Q7 X pins σ E)) (pins:=pins) (σ:=σ) (H:=H) (s:=s) (Q:=Q) (E:=E) T F (fun H s e s' I z=>⟨H,s,I.DM,z⟩) Y Z (.of l) g he hpl (I.EU _) h) (fun v s1 ⟨y,H1,I1,R,U⟩=>⟨y,H1,I1.DM,R,U⟩) fun _ _ z=>z
def gL{U i j k:Nat}{fA:AD}{fd:F0a}{ps:vo}{m:rW}{x:Str}{M:Stmt}{cx y z n:Str}{Gx:AD}{py pz pn np l g I tp:Pos}(T:Fn X.K X.mg x M ps fA fd)(F:CT X.prog X.w X.K X.mg X.base (Dy X.prog X.w) U fA fd ps (Kb m))(hr:CM U X.A)(hg:y6)(ha:DA X.EN zAq fs) (hB:∀ds C,m ds=some (.inr C)->Fo X.K C Gx true) (hP:∀ {t:TX},nZ X Fk t->RS X zBC (cH X.K Gx t i j k)) (Z:GE=false:=by decide)(he:starEach zAq X.env=Ev::starEach es X.env:=by rfl)(hpl:(backTo pos Lx).any OR=false:=by rfl):L7 X zBC (jR i j k m fs):=by
 obtain⟨ta,pa,ka⟩:=ha;refine⟨_,hP (nJ T F hr hg pa Z he hpl),fun δ r h G0 H0 G H σ D R q=>?_⟩;obtain⟨w,h1,rfl⟩:=aC.mp h;have h1':=h1;obtain⟨ds,_,hm⟩:=aA.mp h1';refine cP (k:=U) ka h1 R (fun x hx v G' H' R'=>?_) (fun C hC G' H' R'=>?_)
 .subst hx;exact q _ _ _ R'.HH
 .subst hC;refine⟨C,rfl,hB ds C hm,fun ea Y=>?_⟩;have R2:=R'.newObj (o:=LR ea OL) Y;have de:Du (upd G' ea (LR ea OL)) (OW C) xx:=by unfold OW;rw[Du];exact .inl ⟨ea,C,rfl,rfl,An⟩
  exact q _ _ _ ((((R2.put de).put de).HH.HH).sM k none)
end
open PySem PySem.Spec PyProof.Rows PySem.W
abbrev G0:PySem.Ctx:=⟨.builtin "claim.caller" {},none,none,[],none⟩
abbrev jB(name:Str)(vs:S0):Sem PySem.Fin:=do
  match <-nsGet mainNs name with
  |some f=>do ret (<-PySem.call f vs)
  |none=>unsupported "claim.caller:no-such-global"
def oo{prog:F0b}{w:F0c}{name:Str}{s:SD}{mg:vf}{f:VL}{vs:vd}{Q:PySem.Fin->SD->Prop}{E:ve}(g:s.heap.Ns mainGlobals mg)(l:mg name=some f)
 (h:CU By callerA (.call f ⟨vs,[]⟩) (fun r s'=>match r with|.ok (.ret v)=>Q (.done (.ret v)) s'|.ok _=>False|.error e=>E e s') s) :
  Sem.wp By G0 (jB name vs) (fun a _ s'=>Q a s') (fun e _ s'=>E e s') default s:=by
 rw[Sem.wp_bind'];refine Sem.wp_mono _ G0 _ (fun o p s' z=>?_) (fun _ _ _ z=>z) _ _ ((wpAny_nsGet (Q:=fun o s'=>o=some f/\s'=s) g ⟨l,rfl⟩:wpAny By callerA (nsGet mainNs name) _ (fun e s'=>E e s') s) G0 default caller_in);obtain⟨rfl,rfl⟩:=z;show Sem.wp _ G0 (PySem.call f vs>>=fun v=>ret v) _ _ p s';rw[Sem.wp_bind'];show Sem.wp _ G0 (runValue (.call f ⟨vs,[]⟩)) _ _ p s';rw[Sem.wp_runValue];exact wpCode_mono (fun r s2 z=>by
  cases r with
  |error e=>exact z
  |ok I=>cases I<;>exact z) (h _ p rfl (caller_in.enter _ none p (by intro x;cases x)) rfl)
def kD{prog:F0b}{w:F0c}{t:Sem PySem.Fin}{s:SD}{R:iN}(l:s.asleep) (h:Sem.wp By G0 t (fun fin _ s'=>∃f,fin=PySem.Fin.done f/\(R (.ok f) s'/\leftWithCleanup s'.gens=false)) (fun e _ s'=>R lp s'/\leftWithCleanup s'.gens=false) default s):∃n r s' g,runN (denote table) prog w n s ⟨t,.builtin "claim.caller" {},default,[]⟩=.halted (outcomeOf r) s' /\schedN (denote table) prog w n (.single s ⟨t,.builtin "claim.caller" {},default,[]⟩)=.halted (outcomeOf r) s'/\s'.forget=g.forget/\R r g:=by
 have I:Sem.wp By G0 t (Sem.finPost By G0 fun r s'=>R r s'/\leftWithCleanup s'.gens=false) (fun e _ s'=>R lp s'/\leftWithCleanup s'.gens=false) default s :=
  Sem.wp_mono _ G0 t (fun fin p z q=>by obtain⟨f,rfl,y⟩:=q;exact y) (fun _ _ _ z=>z) _ _ h
 obtain⟨n,r,s1,s2,a1,a2,a3,T⟩:=wp_halts_full (M:=model prog w) (R:=R) l I;exact⟨n,r,s2,s1,a2,a1,a3,T⟩
def oY{c:ClaimW}{tree:List VL->Sem PySem.Fin}{w:F0c}{s:SD}{free:AD->Prop}{gens:Prop}{kept:Heap->Prop}(hz:s.asleep)(U:s.gens=#[]) (T:∀args,c.pre args=true->WData.layableAll args=true->∀ord:List DictEntry->List DictEntry,(∀l,(ord l).Perm l) ->∃vs g,layAllW c.records (classAt s.heap) w.params ord args s=some (vs,g) /\Sem.wp (model c.prog w) G0 (tree vs) (fun fin _ s'=>∃f,fin=PySem.Fin.done f/\(c.Ends s args vs g (.ok f) s'/\s'.os=s.os/\AllBare s'.gens/\kept s'.heap)) (fun e _ s'=>c.Ends s args vs g lp s'/\s'.os=s.os/\AllBare s'.gens/\kept s'.heap) default g):c.CallFrom (fun vs=>⟨tree vs,.builtin "claim.caller" {},default,[]⟩) w free gens kept s:=by
 intro args hpre hlay ord hord;obtain⟨vs,g,I,code⟩:=T args hpre hlay ord hord;have al:=layAllW_rest _ _ _ I;obtain⟨k,r,s',s'',Z,M,hfo,Y,hos,hkp⟩:=kD (prog:=c.prog) (w:=w) (t:=tree vs) (s:=g) (R:=fun r s'=>c.Ends s args vs g r s'/\s'.os=s.os/\kept s'.heap) (Shared.asleep_of_life al.2.2.2 hz)
  (Sem.wp_mono _ G0 _ (fun fin p z q=>by obtain⟨f,e,h1,h2,h3,h4⟩:=q;exact⟨f,e,⟨h1,h2,h4⟩,leftWithCleanup_false_of_bare h3⟩) (fun e p z q=>by obtain⟨h1,h2,h3,h4⟩:=q;exact⟨⟨h1,h2,h4⟩,leftWithCleanup_false_of_bare h3⟩) _ _ code)
 obtain⟨eh,_,_,eo,_⟩:=Shared.forget_eq hfo;have cs:=Y.congr eh;rw[<-eh]at hkp;rw[<-eo]at hos;have life:s'.heap.life=s.heap.life:=(runN_life _ _ _ Z).trans al.2.2.2;refine⟨vs,g,I,k,_,s',M,?_,(fun _ i x hx=>by rw[U]at hx;simp at hx),hkp,by rw[life],Shared.rest_eq hos⟩;rcases cs with ⟨v,rfl,d1,d2,d3,d4,d5⟩|⟨e,ob,cls,rfl,d1,d2,d3,d4,d5⟩
 .exact .inl ⟨v,rfl,d1,d2,d3,fun b o y _=>d4 b o y,d5⟩
 .exact .inr ⟨e,ob,cls,rfl,d1,d2,d3,d4,fun b o y _=>d5 b o y⟩
abbrev RM(q:F0b)(loose:N1)(XP:(Str->Option VL)->Heap->Prop)(YP:F0c->Heap->Prop)(r:RowW)(d:DefRec)(kwd:List (Str×Expr)):Prop :=
 ∀(w:F0c) (s₀ g:SD) (mg mb:zAN),Ground q loose r.records XP w s₀ mg mb g.heap->YP w g.heap->∀(a:AD) (o:Obj) (pm I doc l kV:VL),g.heap.get? a=some o ->
  o.data=.func { PySem.Calls.docDef d.name d.params d.body d.scope pm I doc with defaults:=l,kwdefaults:=kV}->g.heap.CodeRec I d.name->Dflts mg g.heap d.params kwd l kV->mg d.name=some PZ->g.gens=#[] ->
  ∀(args:List WData) (vals:S0) (as:List AD),r.claim.pre args=true->WData.layableAll args=true->ReadsAllW r.records (classAt s₀.heap) g.heap vals args as->WellAll w.params g.heap vals args->(∀a∈as,yD=false) ->
   CU (model r.prog w) callerA (.call PZ ⟨vals,[]⟩) (GoodWG r.claim (classAt s₀.heap) (ExcName.means s₀.heap) args g) g
def W6{r:OpenRow}{q:F0b}{loose:vo}{Xt:SD->Bool}{XP:(vf)->Heap->Prop}{α:Type}{Yf:SD->α}{Ya:F0c->α}{YP:F0c->Heap->Prop}{d:DefRec}{kwd:List (Str×Expr)}{N:Nat} (left:LeftO r.prog q loose Xt Yf Ya N)(hY:∀w s,Yf s=Ya w->YP w s.heap)(hYk:∀w h h',YP w h->(∀b o,h.get? b=some o->h'.get? b=some o)->YP w h') (hX:∀s,Xt s=true->XP (s.heap.nsMap mainGlobals) s.heap)(hXk:∀mg h h',XP mg h->(∀b o,h.get? b=some o->h'.get? b=some o)->XP mg h') (R:defOf q r.name=some (d,kwd))(hp:r.prog.theDef r.name=some (d.params,d.body,d.scope))(hk:kwWritten? d.params.kwonlyargs d.params.kw_defaults=some kwd)(hRf:∀s,Xt s=true->RecFacts r.records s.heap)(hwr:(!r.writes||r.records.isEmpty)=true) (k1:r.wellSaid=true)(ok:(chainsOk q&&opensWell r.prog&&(frees r.toRowW&&r.within.isEmpty))=true)(hb:r.prog.bare)(hw:r.toRowW.promised) (call:RM q loose XP YP r.toRowW d kwd):r.Holds:=by
 obtain⟨ok1,ok2⟩:=Bool.and_eq_true_iff.mp ok;obtain⟨hch,o1⟩:=Bool.and_eq_true_iff.mp ok1;obtain⟨k5,k6⟩:=Bool.and_eq_true_iff.mp ok2;obtain⟨hsame,hu,ha,hap,hm⟩:=frees_parts k5;refine⟨k1,hw,⟨hb,o1,by show r.makers.map _=[];rw[hm];rfl⟩,hw.witness,fun w=>⟨(left.behind hX hch w).1,fun s' hs'=>?_⟩⟩;obtain⟨s₀,hf,hg0,s,hT,hz,hgens,hg,l,y⟩:=(left.behind (XP:=fun mg h=>XP mg h/\RecFacts r.records h) (fun s hs=>⟨hX s hs,hRf s hs⟩) hch w).2 s' hs';have Gr:Ground q loose [] XP w s (s.heap.nsMap mainGlobals) (s.heap.nsMap builtinsNs) s.heap:=⟨l.T,l.B,l.D,l.TE,l.TD,l.W,l.X.1,l.cls,l.has,l.apart,l.once,l.K⟩;have RF:=l.X.2;have hT':=hT;refine⟨s₀,hf,hg0,s,hT,(fun n hn=>by obtain rfl:n=r.name:=(by split at hn<;>simp_all);exact pinned_of_view hg Gr R hp hk),RF.1,RF.2.1,?_⟩;have U:s.gens=#[]:=Array.eq_empty_of_size_eq_zero (bG.mp hgens);have G:Ground q loose r.records XP w s _ _ s.heap:=RF.ground Gr;refine oY (c:=r.toRowW.claim) (tree:=jB r.name) hz U fun args Z hlay ord hord=>?_;obtain⟨⟨vs,M⟩,I⟩:=Option.isSome_iff_exists.mp (layAllW_isSome (P:=w.params) (ord:=ord) G.has args r.toRowW.args s (pre_splitW Z).1);have keeps:=layAllW_keeps _ _ _ I;have al:=layAllW_rest _ _ _ I;obtain⟨as,hrd,hin,hold⟩:=reads_layAllW hord _ _ _ I hlay M.heap (fun _ _ e=>e);have L:Laid r.records w s M args vs as:=⟨⟨ord,hord,I⟩,hrd,hin,hold,keeps,al.1.trans U,al.2.2.1⟩;have Y:=G.keeps hXk keeps;obtain⟨a,o,pm,cd,doc,dV,kV,h1,h2,h3,h4,h5⟩:=Y.fn R;have run:=call w s M _ _ Y (hYk _ _ _ (hY w s y) keeps) a o pm cd doc dV kV h2 h3 h4 h5 (defOf_name R ▸ h1) L.gens args vs as Z hlay L.reads L.well (L.low G.low);have hi:=ident_freeW hu ha hap;have hwi:r.toRowW.claim.within=[]:=List.isEmpty_iff.mp k6;refine⟨vs,M,I,oo Y.T.g h1 (GQ run fun res s' g=>?_)⟩;have z:=g.laid (c:=r.toRowW.claim) hsame hwi hi L;rcases id g.1 with ⟨v,_,_,rfl,_⟩|⟨e,_,_,rfl,_⟩
 .exact⟨_,rfl,z.1,z.2.1,z.2.2,fun q=>⟨namesKept_of hT' hg _ keeps g.2.1.old,noTable hwr q⟩⟩
 .exact⟨z.1,z.2.1,z.2.2,fun q=>⟨namesKept_of hT' hg _ keeps g.2.1.old,noTable hwr q⟩⟩
end L2
namespace L2
open PySem PySem.W PySem.Calls PyProof.Rows Att
def U8{l:OpenLaw}{n:Nat}{q:F0b}{loose:vo}{XP:(vf)->Heap->Prop}{YP:F0c->Heap->Prop}{d:DefRec} (hn:l.most=some n)(hdf:d.params.defaults=[]) (call:∀(w:F0c) (s₀ g:SD) (mg mb:vf) (T:AD) (o:Obj) (pm U doc:VL) (a:AD) (vs:vd) (ns:vj),Ground q loose [] XP w s₀ mg mb g.heap->YP w g.heap ->g.heap.get? T=some o->o.data=.func (docDef d.name d.params d.body d.scope pm U doc)->g.heap.CodeRec U d.name->mg d.name=some (.ref T) ->g.heap.get? a=some { cls:=.type "list",data:=.seq vs.toArray}->IntsAre vs ns->ns.length<=n->g.gens=#[] ->CU (model l.prog w) callerA (.call (.ref T) ⟨[.ref a],[]⟩) zAy g):RM q loose XP YP l.row.toRowW d []:=by
 intro w s₀ g mg mb G Y T o pm U doc dV kV ho hd hcd hD hmg hg args vals as I hlay hrd Z hlo;obtain rfl:dV=.none:=Dflts.none hD hdf;obtain rfl:kV=.none:=Dflts.noKw hD;obtain⟨a,vs,ns,rfl,rfl,M,hints,R⟩:=dc hn I Z;refine GQ (call w s₀ g mg mb T o pm U doc a vs ns G Y ho (fd_plain hd) hcd hmg M hints R hg) fun r s' hq=>?_;obtain⟨rfl,h2,h3,h4⟩:=hq;exact⟨.inl ⟨.bool true,.bool true,[],rfl,fun _=>rfl,.bool true,b7 l _,fun _=>⟨List.Pairwise.nil,fun _ hm=>(nomatch hm)⟩⟩,h2,h3,h4⟩
def Ye{P:F0b}{w:F0c}{K:Fg}{mg mb:vf}{CX:Gh}{k:Nat}{fa a:AD}{fd:F0a}{x:Str}{sp:Sp}{g:SD}{vs:vd}{ns:vj}{d:Nat}{its:vd} (KX:K.In g.heap)(hU:g.heap.get? d=some (ZE its))(hsm:its.map R8=Ji.map some)(M:cStatics<d/\mainGlobals<d/\builtinsNs<d)(hTK:K.lookup d=none)(hmg:mg "UNKNOWNS" = some (.ref d))(hun:mg "NAMED_TABLES" = none) (hns:g.heap.Ns mainGlobals mg)(R:g.heap.Ns builtinsNs mb)(hbb:∀x:Str,x ≠ "__name__" -> mb x=bootBuiltins x)(hlim:g.heap.NoLimit)(hg:g.gens=#[]) (ha:g.heap.get? a=some { cls:=.type "list",data:=.seq vs.toArray})(hi:IntsAre vs ns)(hl:ns.length<=sizeLine)(hr:CM k callerA) (F:∀base:Heap,K.In base->base.Ns mainGlobals mg->CT P w K mg base CX k fa fd [x] sp)(T:∀(s:SD) (u:VL),BindsTo s fd ⟨[u],[]⟩ [(x,u)]) (hsp:∀H:Hp,BR K H a wC->sp [.ref a] H (fun v _=>v=.bl true) fun _ _ _=>False) (hCX:∀H e s',CX [] H g (fun _ _ _=>False) e s'->False):CU yH callerA (.call (.ref fa) ⟨[.ref a],[]⟩) zAy g:=by
 have rv:=S8 hi;have Y:=hi.length;have tok:=kP (P:=P) (w:=w) hsm hU;have Ta:Jf d a=none:=by
  cases q:Jf d a with
  |none=>rfl
  |some u=>
   obtain⟨rfl,_⟩:=KN q;rw[ha]at hU;have z:=aH Obj.cls (aQ hU);simp at z
 have core:∀H:Hp,(∀b,b≠a->H b=Jf d b)->(H a=none\/∃o xs,H a=some (.Ey o SB))->BR K H a wC->DN P w H g.heap->(H a≠none->K.lookup a=none) ->
   CU yH callerA (.call (.ref fa) ⟨[.ref a],[]⟩) zAy g:=by
  intro H hO hA hS Ay hK;have hT:∀b u,Jf d b=some u->H b=some u:=fun b u e=>by
   rw[hO b (fun z=>by rw[z,Ta]at e;cases e)];exact e
  have dicA:∀ {m:zAN},g.heap.Ns a m->False:=fun {m} ⟨o,es,ep,e,q,_⟩=>by
   rw[ha]at e;cases e;have q':Data.seq vs.toArray _=Data.dict es ep:=q;cases q'
  have I:∀ {b:Nat} {m:zAN},b<d->g.heap.Ns b m->(N9 g.heap H).Ns b m:=fun {b m} hlt N=>by
   have hn:H b=none:=by
    have l:b≠a:=fun z=>dicA (z ▸ N);rw[hO b l];cases q:Jf d b with
    |none=>rfl
    |some u=>have:=(KN q).1;lia
   obtain⟨o,es,ep,e,r⟩:=N;exact⟨o,es,ep,VB e hn,r⟩
  have hKb:K.In (N9 g.heap H):=fun b o e=>VB (KX b o e) (by
   by_cases l:b=a
   .subst l;cases q:H b with
    |none=>rfl
    |some u=>rw[hK (by rw[q];simp)]at e;cases e
   .rw[hO b l];cases q:Jf d b with
    |none=>rfl
    |some u=>rw[(KN q).1,hTK]at e;cases e)
  have hM:Mod K mg (N9 g.heap H):=⟨hKb,I M.2.1 hns,⟨mb,I M.2.2 R,hbb⟩,let⟨mc,h1,h2⟩:=hlim;⟨mc,I M.1 h1,h2⟩⟩;have kt:KTb mg H:=⟨fun d e=>(by rw[hun]at e;cases e),fun d' e=>by
   rw[hmg]at e;cases e;exact hT _ _ (if_pos rfl)⟩
  have e0:VN P w K mg (N9 g.heap H) callerA [] g H:=⟨rfl,hM,fun b o e=>lJ e,Nat.le_of_eq (dm _ _),trivial,fun b R=>absurd (show b∈([]:List AD) from R) A1,Ay,.of_eq hg,kt⟩;refine GQ ((F _ hKb (I M.2.1 hns)).run callerA [] g H ⟨[.ref a],[]⟩ [.ref a] [.ref a] _ _ hr e0 (T g PZ) (.cons rfl .nil) (hsp H hS)) fun r s' h=>?_;cases r with
  |error e=>exact(hCX H e s' h).elim
  |ok fl=>
   cases fl with
   |next=>exact False.elim h
   |brk=>exact False.elim h
   |cont=>exact False.elim h
   |ret u=>
    obtain⟨v,H',os,bare,un,Z,r',q⟩:=h;have q':v=.bl true:=q;subst q';obtain rfl:u=Value.bool true:=r';have kf:∀b o ob u,g.heap.get? b=some o->H b=some (.Ey ob u)->s'.heap.get? b=some o:=fun b o ob u e z=>by
     obtain⟨e1,_⟩:=Ay b _ z;obtain⟨e2,_⟩:=Z b _ (un.FN b ob _ z);rw[e]at e1;cases e1;exact e2
    refine⟨rfl,OldK.of_keep fun b o e=>?_,os,bare⟩;by_cases l:b=a
    .subst l;rcases hA with z|⟨ob,xs,z⟩
     .exact un.keep b o e z (by intro z;exact absurd (show b∈([]:List AD) from z) A1) A1
     .exact kf b o ob _ e z
    .have U:=hO b l;cases q:Jf d b with
     |none=>exact un.keep b o e (U.trans q) (by intro z;exact absurd (show b∈([]:List AD) from z) A1) A1
     |some u=>
      rw[q]at U;obtain⟨_,rfl⟩:=KN q;exact un.Fu b _ o U e A1
 cases hk:K.lookup a with
 |some o=>
  have e:=KX a o hk;rw[ha]at e;cases e;refine core (Jf d) FS (.inl Ta) (.inr ⟨_,vs.toArray,_,hk,rfl,rfl,rfl,by rw[(Cp),Y];exact hl,by simpa using rv⟩) tok fun z=>absurd Ta z
 |none=>
  refine core (upd (Jf d) a (.Ey { cls:=.type "list",data:=.seq vs.toArray} (.lst wC))) (fun b R=>Ae R) (.inr ⟨_,_,An⟩) (.inl (.inr ⟨{ cls:=.type "list",data:=.seq vs.toArray},An⟩)) (fun b u z=>?_) fun _=>hk;by_cases R:b=a
  .subst R;rw[An]at z;cases z;exact⟨ha,by rw[wk];exact hl,vs,_,rv,ha⟩
  .rw[Ae R]at z;exact(tok b u z).Hd (fun _ _ _ q=>q) (fun c q=>by rw[Ae (Bm q Ta)];exact q) fun c xs q=>by rw[Ae (Bm q Ta)];exact q
def fD{l:PySem.W.OpenLaw}{n k:Nat}{q:F0b}{loose:vo}{XP:(vf)->Heap->Prop}{YP:F0c->Heap->Prop}{d:DefRec}{K:Params->Fg}{CX:F0c->Gh}{sp:F0c->Sp}{x:Str}{da:Nat}{its:vd} (hn:l.most=some n)(hn2:n<=sizeLine)(hdf:d.params.defaults=[])(hr:CM k callerA) (hY:∀(w:F0c) (h:Heap),YP w h->PySem.W.Frag.In ((da,ZE its)::K w.params) h) (hsm:its.map R8=Ji.map some)(hTN:cStatics<da/\mainGlobals<da/\builtinsNs<da)(hTK:∀P,(K P).all (fun p=>decide ((p.1:Nat)<da)||decide (da<(p.1:Nat)))=true) (Z:∀(w:F0c) (mg:vf) (h:Heap),(K w.params).In h->h.Ns mainGlobals mg->mg "UNKNOWNS" = some (.ref da)/\mg "NAMED_TABLES" = none) (F:∀(w:F0c) (mg:vf) (fa:AD) (h:Heap),(K w.params).In h->h.Ns mainGlobals mg->mg d.name=some (.ref fa) ->∃fd:F0a,(∀(s:SD) (u:VL),BindsTo s fd ⟨[u],[]⟩ [(x,u)]) /\∀base:Heap,(K w.params).In base->base.Ns mainGlobals mg->CT l.prog w (K w.params) mg base (CX w) k fa fd [x] (sp w)) (hsp:∀(w:F0c) (H:Hp) (a:AD) (ns:vj),ns.length<=n->BR (K w.params) H a wC->sp w [.ref a] H (fun v _=>v=.bl true) fun _ _ _=>False) (hCX:∀(w:F0c) (H:Hp) (s:SD) (e:VL) (s':SD),CX w [] H s (fun _ _ _=>False) e s'->False):RM q loose XP YP l.row.toRowW d []:=by
 refine U8 hn hdf fun w s₀ I mg mb fa o pm cd doc a vs ns G Y ho hd hcd U R hints M hg=>?_;have KK:=hY w _ Y;have ne:∀(b:Nat) o,(K w.params).lookup b=some o->b≠da:=fun b o e=>by
  have:=af.mp (hTK w.params) (b,o) (cS e);have:b<da\/da<b:=by simpa using this
  lia
 have KX:(K w.params).In I.heap:=fun b o e=>KK b o (by rw[(Ni),beq_eq_false_iff_ne.mpr (ne b o e)];exact e);have hU:I.heap.get? da=some (ZE its):=KK da _ (by rw[(Ni),beq_self_eq_true]);have hn0:(K w.params).lookup da=none:=by
  cases q:(K w.params).lookup da with
  |none=>rfl
  |some o=>exact absurd rfl (ne da o q)
 obtain⟨fd,hb,hF⟩:=F w mg fa _ KX G.T.g U;exact Ye KX hU hsm hTN hn0 (Z w mg _ KX G.T.g).1 (Z w mg _ KX G.T.g).2 G.T.g G.T.b G.T.builtins G.T.nolimit hg R hints (aK M hn2) hr hF hb (fun H hS=>hsp w H a ns M hS) fun H e s'=>hCX w H I e s'
def Bg(x:Str):Bool:=x.cps.toList.all (· < 128)
def YE(i:Nat):TS:=fun D σ H=>∃x,σ[i]? = some (some L6)/\x.length<=640/\Bg x=true/\D.rt (match PySem.intText? x with|some n=>.int n|none=>.BS) H
section
variable{X:Cx}{i:Nat}{wn:Str}{p1 p2 p3 p4 p5 np pc pr hpos:Pos}{kc:Nat}
def dY(hi:X.N[i]? = some wn)(hv:X.env.scope.names.lookup wn=some .local)(U:Gl X "int")(R:X.mg "int" = none)(hg:Gl X "ValueError")(hm:X.mg "ValueError" = none)(g:dO)(l:zAB)(Y:zR) (hd:(wn==("__debug__" : Str))=false:=by decide)(Z:(wn==("__classdict__" : Str))=false:=by decide):RS X (.Try [.Return (some (.Call (.Name "int" p1) [.Name wn p2] [] p3)) p4] [.ExceptHandler (some (.Name "ValueError" np)) none [.Return (some (.Constant .none kc pc)) pr] hpos] [] [] p5) (YE i):=by
 intro pins s σ H D I ⟨x,ex,T,ha,q⟩;refine ME ?_;rw[execs_cons,exec_Return_some];refine C4 (Aj (ah (C4 ?_)));rw[arm_eval_Call_Name'];refine Aj (Hs I U R bU ?_);have ha1:PA X.EN [.Name wn p2] (Mo (DV i) WW):=Ac (X:=X.EN) (Wf (X:=X.EN) hi (.inl hv) hd Z) A3;have h1:=ha1 p3 pins s σ H (fun vs H1=>vs=[.str x]/\H1=H) (I.EU _) ⟨_,ex,rfl,rfl⟩;show Bb _ _ (callWith p3 db [] (backTo p3 (starEach [.Name wn p2] X.env)) []) _ _ s;have he:backTo p3 (starEach [.Name wn p2] X.env)=[(false,eval (.Name wn p2) X.env)]:=rfl;rw[he];have h2:wpAny AT X.A (spliced [(false,eval (.Name wn p2) X.env)]) (fun us s1=>∃u,us=[.str x u]/\Inv X pins σ H s1) sK s:=by
  refine aM (show wpAny AT X.A (spliced [(false,eval (.Name wn p2) X.env)]) _ _ s from h1) (fun us s1 ⟨vs,H1,M,r,e1,e2⟩=>?_) fun _ _ z=>z;subst e1 e2;cases r with
  |cons r1 r2=>cases r2;obtain⟨u,rfl⟩:=r1;exact⟨u,rfl,M.DM⟩
 unfold callWith evalArgs;refine CL (ED (Aj (aM h2 (fun us s1 ⟨u,e1,M⟩=>?_) fun _ _ z=>z.elim)));subst e1;refine Aj lr;refine ED (Aj (aB (Bq (aB (?_:Bb _ _ _ _ _ _)))));refine Aj (ah ?_);simp only[List.any_cons,List.any_nil,Bool.or_false,Bool.false_or];refine Aj lr;cases hn:PySem.intText? x with
 |some n=>
  rw[hn]at q;refine Bq (Wb (PySem.W.KIN.call_text hn T (Wb (ao (wpAny_point (aB (aB lr)))))));exact⟨.int n,σ,H,M.tok _,⟨_,rfl⟩,q⟩
 |none=>
  rw[hn]at q;have hx:(reprText x).length<=sizeLine:=by
   refine aK (PySem.StrLaws.reprText_len x fun c hc=>aJ (aU (af.mp ha c hc)) AS) (aK (Nat.add_le_add_right (Nat.mul_le_mul_left 10 T) 2) AS)
  refine CL (HU (Q:=fun _ _=>False) (iL (I.ok.hd g) T hx hn fun h' e m mk=>?_) fun _ _ z=>z.elim);exact kC M mk l Y hg hm q
end
abbrev Xk(i:Nat):DF:=fun δ=>(nm i δ).bind fun d=>match d with
 |.str x=>if x.length<=640/\Bg x=true then some (.rt (match PySem.intText? x with|some n=>.int n|none=>.none)) else none
 |_=>none
def eI{X:Cx}{i:Nat}{st:Stmt}(h:RS X st (YE i)):L7 X st (Xk i):=⟨_,h,fun δ r T G0 H0 G H σ D R q=>by
 obtain⟨d,U,g⟩:=aA.mp T;split at g
 .rename_i x;split at g
  .rename_i I;cases g;obtain⟨v,M,l⟩:=R.dat _ _ (UP U);rw[Du]at l;subst l;refine⟨x,M,I.1,I.2,q _ G H R.ext R.new R.ins R.keep ?_⟩;cases PySem.intText? x<;>rw[Du]
  .cases g
 .cases g⟩
end L2
namespace L2
open PySem PySem.Spec PyProof.Rows
section
variable{X:Cx}{a e:Expr}{f g h:va}{cp ap:Pos}{y:Str}
def l8:V->List V->Hp->VK->Prop:=fun x xs H Q=>∃(s y:Str) (n:Nat) (r:wH),x=.str s/\xs=[.str y]/\Builtin.Str.occurrences s y 0 s.length 1=n::r/\Q gv H
def cU:Pr X "str.index" l8:=by
 intro pins s σ H x xs v us Q I M R h;obtain⟨z,y,n,r,rfl,rfl,T,h⟩:=h;obtain⟨t,rfl⟩:=M;obtain⟨u,rfl,l,rfl⟩:=Vals.one R;exact call_gives PySem.F.slot_str_index rfl PySem.F.entry_str_index (PySem.F.args_str_index_2 _ _) (gives_str_index z y t l n r T) (show(Made.int n).post _ s from⟨.int n,H,I.tok _,⟨_,rfl⟩,h⟩)
def MM:PD->PD->Option PD:=fun x y=>match x,y with
 |.str s,.str t=>(match Builtin.Str.occurrences s t 0 s.length 1 with|n::_=>some gv|[]=>none)
 |_,_=>none
def Zp(ho:re)(ha:DE X e g) (M:attributeBase a "index" X.env wA=eval a X.env:=by rfl) (T:As=true:=by rfl) (I:v6=true:=by rfl)(hs:starEach [e] X.env=Ev::starEach [] X.env:=by rfl)(l:(backTo cp fz).any OR=false:=by rfl):DE X (.Call (.Attribute a "index" ap) [e] [] cp) (AF MM f g):=by
 obtain⟨to,po,ko⟩:=ho;obtain⟨ta,pa,ka⟩:=ha;refine⟨_,FV bC PySem.F.slot_str_index PySem.F.type_str_index cU po zg M T I hs l,fun δ z hz G0 H0 G H σ ts Q R0 k=>?_⟩;obtain⟨x,y,h1,h2,R⟩:=two (x:=.none) (y:=.none) hz;refine ko δ x h1 G0 H0 G H σ ts _ R0 fun u G1 H1 Z=>?_;have Y:=Z.Aw (x,u) EQ;unfold MM at R;split at R
 .split at R
  .rename_i s t n r hc;cases R;rw[Du]at Y;subst Y;refine⟨rfl,ka δ _ h2 G0 H0 G1 H1 σ _ _ Z fun v G2 H2 R2=>?_⟩;have U:=R2.Aw (_,v) EQ;rw[Du]at U;subst U;exact⟨_,_,n,r,rfl,rfl,hc,k _ _ _ zAu⟩
  .cases R
 .cases R
end
section
variable{X:Cx}{a e:Expr}{f g h:va}{i j k:Nat}{x y:Str}{np ap cp pos pos':Pos}
abbrev Uj(i:Nat)(g f:My):DF:=fun δ=>(g δ).bind fun n=>(f δ).bind fun y=>(ow i δ).bind fun xs=>match n with
 |.int n=>if 0<=n/\n.toNat<=xs.length/\xs.length<1000 then some (.nx (δ.set i (.own (.lst (xs.take n.toNat++y::xs.drop n.toNat))))) else none
 |_=>none
def Tg(hv:zBO)(ha:DE X a g)(he:xT) (hP:∀ {to:TE} {t:TA},PE X L0 to->PA X [a,e] t->PS X (.Expr (.Call (.Attribute L0 "insert" ap) [a,e] [] cp) pos) (Ml (Xg X.K "list" X4 to t))) (U:starEach [a,e] X.env=b6::starEach [e] X.env:=by rfl)(T:starEach [e] X.env=Ev::starEach [] X.env:=by rfl):DS X (.Expr (.Call (.Attribute L0 "insert" ap) [a,e] [] cp) pos) (Uj i g f):=by
 obtain⟨ta,pa,ka⟩:=ha;obtain⟨te,pe,ke⟩:=he;refine⟨_,hP hv (Ac pa (Ac pe A3 T) U),fun δ r hz G0 H0 G H σ D R q=>?_⟩;obtain⟨n',h1,w1⟩:=aA.mp hz;obtain⟨z,h2,Z⟩:=aA.mp w1;obtain⟨xs,h3,l⟩:=aA.mp Z;clear hz w1 Z;split at l
 .rename_i n;split at l
  .rename_i Y;cases l;have hi:=Hw h3;obtain⟨A,_,M,k2,k3,k4,⟨ys,rfl,k5⟩⟩:=R.own i _ hi;refine⟨.ref A,M,.inl ⟨rfl,ys,BR.of k4⟩,?_⟩;refine ka δ _ h1 G0 H0 G H σ [] _ R fun u G1 H1 R1=>?_;refine ke δ _ h2 G0 H0 G1 H1 σ _ _ R1 fun v G2 H2 R2=>?_;have dn:=R2.Aw (.int n,u) zBA;rw[Du]at dn;subst dn;obtain⟨A',_,m1,m2,m3,m4,⟨zs,rfl,I⟩⟩:=R2.own i _ hi;rw[M]at m1;cases m1;refine⟨A,zs,v,n,n.toNat,rfl,rfl,(Int.toNat_of_nonneg Y.1).symm,m4,by rw[I.len];exact Y.2.1,by rw[I.len];exact Y.2.2,?_⟩;exact q _ _ _ (R2.drop.drop.K0 hi M ⟨_,rfl,(I.take _).app (.cons (R2.Aw _ EQ) (I.drop _))⟩)
  .cases l
 .cases l
def Aq.erase{H:Hp}:∀ {ds:wV} {xs:UF} (n:Nat),Aq H ds xs->Aq H (ds.eraseIdx n) (xs.eraseIdx n)
 |[],_,_,h=>by rw[h.nil_eq];exact .nil
 |_::_,_,0,h=>by obtain⟨x,r,rfl,_,l⟩:=h.un;exact l
 |_::_,_,n+1,h=>by obtain⟨x,r,rfl,I,l⟩:=h.un;exact .cons I (l.erase n)
abbrev dP(i:Nat)(g:My):DF:=fun δ=>(g δ).bind fun n=>(ow i δ).bind fun xs=>match n with
 |.int n=>if 0<=n/\n.toNat<xs.length/\xs.length<1000 then some (.nx (δ.set i (.own (.lst (xs.eraseIdx n.toNat))))) else none
 |_=>none
def hZ(hv:zBO)(ha:DE X a g) (hP:∀ {to:TE} {t:TA},PE X L0 to->PA X [a] t->PS X (.Expr (.Call (.Attribute L0 "pop" ap) [a] [] cp) pos) (Ml (Xg X.K "list" dD to t))) (U:starEach [a] X.env=b6::starEach [] X.env:=by rfl):DS X (.Expr (.Call (.Attribute L0 "pop" ap) [a] [] cp) pos) (dP i g):=by
 obtain⟨ta,pa,ka⟩:=ha;refine⟨_,hP hv (Ac pa A3 U),fun δ r hz G0 H0 G H σ D R q=>?_⟩;obtain⟨n',h1,Z⟩:=aA.mp hz;obtain⟨xs,h3,l⟩:=aA.mp Z;clear hz Z;split at l
 .rename_i n;split at l
  .rename_i hc;cases l;have hi:=Hw h3;obtain⟨A,_,T,k2,k3,k4,⟨ys,rfl,k5⟩⟩:=R.own i _ hi;refine⟨.ref A,T,.inl ⟨rfl,ys,BR.of k4⟩,?_⟩;refine ka δ _ h1 G0 H0 G H σ [] _ R fun u G1 H1 Y=>?_;have dn:=Y.Aw (.int n,u) EQ;rw[Du]at dn;subst dn;obtain⟨A',_,m1,m2,m3,m4,⟨I,rfl,M⟩⟩:=Y.own i _ hi;rw[T]at m1;cases m1;have hl:n.toNat<I.length:=by rw[M.len];exact hc.2.1
   have hb:=M.len;refine⟨A,I,n,n.toNat,I[n.toNat],rfl,rfl,m4,by lia,by lia,?_,by simp[hl],?_⟩
   .unfold seqIndex?;have e1:¬n<0:=by lia
    simp[e1];lia
   .exact q _ _ _ (Y.drop.K0 hi T ⟨_,rfl,M.erase _⟩)
  .cases l
 .cases l
abbrev jF(i j k:Nat):DF:=fun δ=>(ow i δ).bind fun xs=>(nm j δ).bind fun p=>(nm k δ).bind fun q=>match p,q with
 |.int p,.int q=>if 0<=p/\0<=q then(match xs[p.toNat]?,xs[q.toNat]? with|some u,some v=>some (.nx (δ.set i (.own (.lst ((xs.set p.toNat v).set q.toNat u)))))|_,_=>none) else none
 |_,_=>none
theorem Aq.some{H:Hp}{ds:vc}{xs:vx}{n:Nat}{d:PD}(h:Aq H ds xs)(e:ds[n]? = some d):∃v,xs[n]? = some v/\Du H d v:=h.get e
def mZ{st:Stmt}(hP:PS X st (J8 (gS (Mo (Xj (Yn X.K) (DV i) (DV k)) (Mo (Xj (Yn X.K) (DV i) (DV j)) WW))) (ZQ X.K 2 (Ma (YS (DV i) (DV j) UG) (Ma (YS (DV i) (DV k) UG) Y6))))):DS X st (jF i j k):=by
 refine⟨_,hP,fun δ r hz G0 H0 G H σ D R q=>?_⟩;obtain⟨xs,h1,w1⟩:=aA.mp hz;obtain⟨p',h2,w2⟩:=aA.mp w1;obtain⟨q',h3,l⟩:=aA.mp w2;clear hz w1 w2;split at l
 .rename_i m n;split at l
  .rename_i Z;split at l
   .rename_i u v hu hv;cases l;have hi:=Hw h1;obtain⟨A,_,T,k2,k3,U,⟨ys,rfl,k5⟩⟩:=R.own i _ hi;obtain⟨vm,e1,d1⟩:=R.dat _ _ (UP h2);obtain⟨vn,e2,d2⟩:=R.dat _ _ (UP h3);rw[Du]at d1 d2;subst d1 d2;obtain⟨a1,b1,c1⟩:=k5.some hu;obtain⟨a2,b2,c2⟩:=k5.some hv;have l1:m.toNat<ys.length:=(aF.mp b1).1;have l2:n.toNat<ys.length:=(aF.mp b2).1;have I:∀ {t:Int} {N:Nat},0<=t->t.toNat<N->IC N t=some t.toNat:=fun {t N} h0 hl=>by unfold IC;rw[if_pos h0,if_pos AC]
    have RP:∀ {t:Int} {w:V},0<=t->ys[t.toNat]? = some w->D8 ys t=some w:=fun {t w} h0 hw=>by unfold D8;rw[I h0 (aF.mp hw).1];exact hw
    refine⟨_,T,_,e2,A,ys,n,a2,rfl,rfl,BR.of U,RP Z.2 b2,?_⟩;refine⟨_,T,_,e1,A,ys,m,a1,rfl,rfl,BR.of U,RP Z.1 b1,?_⟩;refine⟨show 2<=sizeLine by decide,fun p M=>?_⟩;have Y:A≠p:=fun z=>by subst z;rw[U]at M;cases M
    have R2:=R.newObj (o:=.tup [a2,a1]) M;refine⟨p,[a2,a1],rfl,B2.of An,rfl,?_⟩;refine⟨_,_,rfl,_,T,_,e1,A,ys,m,m.toNat,rfl,rfl,by rw[Ae Y];exact U,?_,?_⟩
    .exact I Z.1 l1
    refine⟨_,_,rfl,_,T,_,e2,A,ys.set m.toNat a2,n,n.toNat,rfl,rfl,An,?_,rfl,?_⟩
    .exact I Z.2 (by rw[(Nj)];exact l2)
    rw[la];have c2':Du (upd G p (.tup [a2,a1])) v a2:=c2.same (B7 (by
     cases z:G p with
     |none=>rfl
     |some o=>rw[R.ins _ _ z]at M;cases M) _)
    have c1':Du (upd G p (.tup [a2,a1])) u a1:=c1.same (B7 (by
     cases z:G p with
     |none=>rfl
     |some o=>rw[R.ins _ _ z]at M;cases M) _)
    obtain⟨A',_,m1,m2,m3,m4,⟨zs,rfl,m5⟩⟩:=R2.own i _ hi;rw[T]at m1;cases m1;rw[Ae Y,U]at m4;cases m4;exact q _ _ _ (R2.K0 hi T ⟨_,rfl,(m5.set c2' _).set c1' _⟩)
   .cases l
  .cases l
 .cases l
def W2(ho:re)(ha:DE X e g)(hN:nn)(T:X.N[i]? = some y)(hx:Loc X.env.scope y) (hP:∀ {I M:TE},PE X a I->PE X e M->PE X wW (Xg X.K "str" fE I (Mo M WW))) (hs:swapsWith wW (some (.Name y pos')) pos.line X.env=pure false:=by rfl)(hf:X.fn y=true\/X.env.scope.names.lookup y=some .local:=by first|exact .inl rfl|exact .inr rfl|assumption):DS X (.Assign [.Name y pos'] wW pos) (JO i (AF C3 f g)):=by
 obtain⟨I,po,ko⟩:=ho;obtain⟨M,pe,ke⟩:=ha;refine⟨_,D9 hN T hx (hP po pe) hs hf,fun δ r hz G0 H0 G H σ D R q=>?_⟩;obtain⟨z,h1,h2⟩:=aA.mp hz;obtain⟨x,y,h3,h4,l⟩:=two (x:=.none) (y:=.none) h1;refine ko δ x h3 G0 H0 G H σ [] _ R fun u G1 H1 R1=>?_;have Z:=R1.Aw (x,u) EQ;unfold C3 at l;split at l
 .split at l
  .rename_i U;cases l;cases h2;rw[Du]at Z;subst Z;refine⟨rfl,ke δ _ h4 G0 H0 G1 H1 σ _ _ R1 fun v G2 H2 R2=>?_⟩;have Y:=R2.Aw (_,v) EQ;rw[Du]at Y;subst Y;exact⟨_,_,rfl,rfl,U.1,U.2,fun p hp=>q _ _ _ (R2.drop.drop.Lz ⟨_,rfl,QC _⟩ hp)⟩
  .cases l
 .cases l
end
def oD(x:Str):It:=⟨fun i _=>i<x.length,fun i H v H'=>H'=H/\∃c,x.cps[i]? = some c/\v=.str ⟨#[c]⟩,fun i _=>x.length<=i⟩
def cX{P:F0b}{w:F0c}{K:Fg}{tg:Expr}(it:AD)(x:Str)(t:Tok):Turn P w K tg (oD x) [it] it (fun i h=>h.IsStrIter it "str_ascii_iterator" x t i) where
 mem:=by simp
 obj:=fun i h st b hb=>by
  have e:b=it:=by simpa using hb
  subst e;obtain⟨o,e,c,d⟩:=st;exact⟨o,e,fun v z=>by rw[d]at z;cases z⟩
 keep:=fun i h h' st k=>let⟨o,e,r⟩:=st;⟨o,k it A1 o e,r⟩
 item:=by
  intro X hP hw hK hc i pins s σ H E I hf st hg;subst hP hw hK;obtain⟨f0,f1,f2,f3,f4,f5⟩:=hf it A1;have hg':i<x.cps.size:=hg;refine wpAny_pyNext_ascii_item st (c:=x.cps[i]) (by simp[hg']) fun h' st' sb=>?_;have I1:Inv X pins σ H {s with heap:=h',toks:=s.toks+1}:=I.turned (t':=s.toks+1) zAd f0 f1 f3 f4 f5;obtain⟨o,e,c,d⟩:=id st';exact⟨_,rfl,UO (s:={s with heap:=h',toks:=s.toks+1}) e c d AS ⟨.str ⟨#[x.cps[i]]⟩,H,I1,⟨_,rfl⟩,⟨rfl,_,by simp[hg'],rfl⟩,st',fun b hb=>(hf b hb).1⟩⟩
 done:=by
  intro X hP hw hK hc i pins s σ H E I hf st hg;subst hP hw hK;obtain⟨f0,f1,f2,f3,f4,f5⟩:=hf it A1;have hg':x.cps.size<=i:=hg;exact wpAny_pyNext_ascii_end wY st (by simp[hg']) fun h' eb=>⟨rfl,I.turned (t':=s.toks) zu f0 f1 f3 f4 f5⟩
 self:=fun _ _ _ _ _ st h=>wpAny_pyIter_striter_ascii st h
section
variable{X:Cx}{tg b e l:Expr}{f:va}{tl:TE}
def uc(tl:TE):TI:=fun σ H R=>tl σ H fun v g=>∃x,v=.str x/\Bg x=true/\R (oD x) g
def ni(Y:PE X l tl):PI X tg l (uc tl):=by
 intro pins s σ H R I h;refine A2 (Y pins s σ H _ I h) fun v s1 ⟨y,H1,M,T,U⟩=>?_;obtain⟨x,rfl,ha,q⟩:=U;obtain⟨t,rfl⟩:=T;have g:x.cps.all (· < 128)=true:=by rw[<-Array.all_toList];exact ha
 refine wpAny_pyIter_ascii g ?_;refine⟨s1.heap.objs.size,[s1.heap.objs.size],_,_,H1,rfl,M.kept (t':=s1.toks) fun b o e=>aD _ e,cX _ x t,⟨_,Heap.get?_push_size _ rfl,rfl,rfl⟩,fun b Z=>?_,q⟩;have e:b=s1.heap.objs.size:=by simpa using Z
 subst e;exact M.SH SL (M.Ay.fresh SL)
abbrev Yl(x:Str):List PD:=x.cps.toList.map fun c=>.str ⟨#[c]⟩
def UW:PD->Option zBo
 |.str x=>if Bg x=true then some (Yl x) else none
 |_=>none
abbrev sP(f:My):Dv->Option zBo:=fun δ=>(f δ).bind UW
def pI{x:Str}{G:Hp}:KW (oD x) (Yl x) G where
 stop:=fun H e=>by show x.cps.size<=_;simp
 go:=fun i d H hx e=>by
  have:=(aF.mp hx).1;show i<x.cps.size
  simpa using this
 FE:=fun i d H v H' hx e y Gc e1 e2=>by
  obtain⟨rfl,c,hc,rfl⟩:=y;refine⟨Gc,.refl _,Nw.refl,e2,.refl _,?_⟩;rw[xZ,(SV),hc]at hx;cases hx;rw[Du]
def oK(he:xT):DI X tg e (fun δ=>(f δ).bind UW):=by
 obtain⟨t,p,k⟩:=he;refine⟨_,ni p,fun δ xs h G0 H0 G H σ ts R U q=>?_⟩;obtain⟨x,T,g⟩:=aA.mp h;unfold UW at g;split at g
 .split at g
  .rename_i ha;cases g;refine k δ _ T G0 H0 G H σ ts _ U fun v Y H' M=>?_;have I:=M.Aw _ EQ;rw[Du]at I;subst I;exact⟨_,rfl,ha,q _ _ _ M.drop pI⟩
  .cases g
 .cases g
def Mp:MD
 |[.int i]=>if i.natAbs.log2<1920 then some (.str wT) else none
 |_=>none
def XF:Hk X yP Mp:=by
 refine⟨_,dr,fun xs z g G0 H0 G H σ δ ts us Q M d k=>?_⟩;unfold Mp at g;split at g
 .split at g
  .rename_i i hi;cases g;obtain⟨u,r,rfl,I,d2⟩:=d.un;have:=d2.nil_eq;subst this;rw[Du]at I;subst I;exact⟨i,rfl,hi,k _ _ _ (M.put GM)⟩
  .cases g
 .cases g
def Gb(x:Str)(n:Nat):Str:=⟨(List.replicate n x.cps).foldl (· ++ ·) #[]⟩
theorem V8:∀n:Nat,(List.replicate n (#[]:Array Nat)).foldl (· ++ ·) #[]=#[]
 |0=>rfl
 |n+1=>by rw[(HP),List.foldl_cons];exact V8 n
def sU:R2:=fun u v H Q=>∃(x:Str) (n:Int),u=.str x/\v=.int n/\-1000000<=n/\n<=1000000/\x.length*n.toNat<=100000/\Q (.str (Gb x n.toNat)) H
def lE:DC X xw sU:=by
 intro pins s σ H u v u' v' Q I T R h;obtain⟨x,n,rfl,rfl,h1,h2,h3,q⟩:=h;obtain⟨t,rfl⟩:=T;obtain⟨t',rfl⟩:=R;by_cases hn:n<1
 .refine P.mul_str_none hn AC ⟨.str (Gb x n.toNat),H,I.tok _,⟨s.toks,?_⟩,q⟩;rw[show n.toNat=0 by lia];rfl
 .have Z:x.length*n.toNat<=100000:=h3;have Y:x.length<=100000:=aK (Nat.le_mul_of_pos_right _ AC) Z;refine P.mul_str (by rw[decide_eq_false AC,decide_eq_false AC];rfl) (fun _ _=>?_) (fun _ _=>?_) ?_
  .have:(100000:Int)<=(2^63-1) / n:=by
    rw[Int.le_ediv_iff_mul_le AC];lia
   lia
  .unfold PySem.Builtin.Str.tooLong;exact aV (by rw[sizeLine_eq];lia)
  .rw[if_neg hn];split
   .rename_i hc;have e:Gb x n.toNat=x:=by
     rcases(Bool.or_eq_true _ _).mp hc with z|z
     .rw[beq_iff_eq.mp z];show Str.mk (#[]++x.cps)=x;rw[Array.empty_append]
     .have M:x.cps=#[]:=Array.eq_empty_of_size_eq_zero (bG.mp z);have:Gb x n.toNat=⟨#[]⟩:=by unfold Gb;rw[M,V8]
      rw[this,<-M]
    rw[e]at q;exact⟨.str x,H,I,⟨t,rfl⟩,q⟩
   .have hl:(Gb x n.toNat).length<=sizeLine:=by
     have:∀(m:Nat) (g:Array Nat),((List.replicate m x.cps).foldl (· ++ ·) g).size=g.size+x.length*m:=fun m=>by
      induction m with
      |zero=>intro g;simp
      |succ m U=>intro g;rw[(HP),List.foldl_cons,U,Array.size_append,Nat.mul_succ];show _+x.length+_=_;lia
     show((List.replicate n.toNat x.cps).foldl (· ++ ·) #[]).size<=_;rw[this,sizeLine_eq];simp;lia
    exact⟨hl,.str (Gb x n.toNat),H,I.tok _,⟨_,rfl⟩,q⟩
def Qy:PD->PD->Option PD:=fun x y=>match x,y with|.str x,.int n=>(if -1000000<=n/\n<=1000000/\x.length*n.toNat<=100000 then some (.str (Gb x n.toNat)) else none)|_,_=>none
def gW:Dw X xw Qy:=by
 refine⟨_,lE,fun x y z g G0 H0 G H σ δ ts u v Q Y R M k=>?_⟩;unfold Qy at g;split at g
 .rename_i p n;split at g
  .rename_i I;cases g;have U:u=.str p:=by rw[Du]at R;exact R
   have T:v=.int n:=by rw[Du]at M;exact M
   exact⟨p,n,U,T,I.1,I.2.1,I.2.2,k _ _ _ (Y.put GM)⟩
  .cases g
 .cases g
def I0:PD->PD->Option PD:=HX FG Qy
def PJ:Dw X xw I0:=GH.or gW
end
section
variable{X:Cx}{a b c e:Expr}{f g h:va}{pos p p2 cp ap:Pos}{i:Nat}{y:Str}
def DK(x y:Str):Str×Str×Str:=match Builtin.Str.occurrences x y 0 x.length 1 with
 |i::_=>(Builtin.Str.strSub x 0 i,y,Builtin.Str.strSub x (i+y.length) x.length)
 |[]=>(x,Str.empty,Str.empty)
def rf:V->List V->Hp->VK->Prop:=fun x xs H Q=>∃s y:Str,x=.str s/\xs=[.str y]/\y.length≠0/\s.length<=100000/\∀p,H p=none->Q yI (upd H p (.tup [.str (DK s y).1,.str (DK s y).2.1,.str (DK s y).2.2]))
def ma:Pr X "str.partition" rf:=by
 intro pins s σ H x xs v us Q I Z rv h;obtain⟨z,y,rfl,rfl,hy,hz,q⟩:=h;obtain⟨t,rfl⟩:=Z;obtain⟨u,rfl,U,rfl⟩:=Vals.one rv;have big:100002<=sizeLine:=by rw[sizeLine_eq];decide
 have T:(y.length==0)=false:=bf.mpr hy;have fin:∀(a b c:Str) (R M l k:Nat),DK z y=(a,b,c)->EP X pins σ Q N7 {s with toks:=k,heap:=s.heap.push { cls:=.type "tuple",data:=.seq [.str a R,.str b M,.str c l].toArray} }:=fun a b c R M l k e=>by
  rw[e]at q;refine⟨.ref s.heap.objs.size,_,I.laid (t':=k) (o:=.tup [.str a,.str b,.str c]) xH SL ?_,rfl,q _ zBn⟩;exact⟨by show 3<=_;lia,_,.cons ⟨R,rfl⟩ (.cons ⟨M,rfl⟩ (.cons ⟨l,rfl⟩ .nil)),IsTup.new _ _⟩
 refine call_meets PySem.F.slot_str_partition (typeIs_str _ _ _) PySem.F.entry_str_partition (PySem.F.args_str_partition_2 _ _) (meets_str_partition z y t U T AC) ?_;cases Y:Builtin.Str.occurrences z y 0 z.length 1 with
 |nil=>exact fin _ _ _ _ _ _ _ (by unfold DK;rw[Y])
 |cons i r=>exact fin _ _ _ _ _ _ _ (by unfold DK;rw[Y])
def UY:PD->PD->Option PD:=fun x y=>match x,y with|.str s,.str t=>(if t.length≠0/\s.length<=100000 then some (.tuple [.str (DK s t).1,.str (DK s t).2.1,.str (DK s t).2.2]) else none)|_,_=>none
def l7(ho:re)(ha:DE X e g) (R:attributeBase a "partition" X.env wA=eval a X.env:=by rfl) (U:As=true:=by rfl) (M:v6=true:=by rfl)(hs:starEach [e] X.env=Ev::starEach [] X.env:=by rfl)(I:(backTo cp fz).any OR=false:=by rfl):DE X (.Call (.Attribute a "partition" ap) [e] [] cp) (AF UY f g):=by
 obtain⟨to,po,ko⟩:=ho;obtain⟨ta,pa,ka⟩:=ha;refine⟨_,FV bC PySem.F.slot_str_partition PySem.F.type_str_partition ma po zg R U M hs I,fun δ z hz G0 H0 G H σ ts Q R0 k=>?_⟩;obtain⟨x,y,h1,h2,T⟩:=two (x:=.none) (y:=.none) hz;refine ko δ x h1 G0 H0 G H σ ts _ R0 fun u G1 H1 R1=>?_;have du:=R1.Aw (x,u) EQ;unfold UY at T;split at T
 .split at T
  .rename_i Y;cases T;rw[Du]at du;subst du;refine⟨rfl,ka δ _ h2 G0 H0 G1 H1 σ _ _ R1 fun v G2 H2 R2=>?_⟩;have Z:=R2.Aw (_,v) EQ;rw[Du]at Z;subst Z;exact⟨_,_,rfl,rfl,Y.1,Y.2,fun l hl=>k _ _ _ (R2.drop.drop.SY (.cons GM (.cons GM (.cons GM .nil))) hl)⟩
  .cases T
 .cases T
def GJ(s y:Str):Int:=match Builtin.Str.occurrences s y 0 s.length 1 with|i::_=>(i:Int)|[]=>-1
def pN:V->List V->Hp->VK->Prop:=fun x xs H Q=>∃s y:Str,x=.str s/\xs=[.str y]/\Q (.int (GJ s y)) H
def fy:Pr X "str.find" pN:=by
 intro pins s σ H x xs v us Q I M R h;obtain⟨z,y,rfl,rfl,h⟩:=h;obtain⟨t,rfl⟩:=M;obtain⟨u,rfl,l,rfl⟩:=Vals.one R;exact call_gives PySem.F.slot_str_find rfl PySem.F.entry_str_find (PySem.F.args_str_find_2 _ _) (gives_str_find z y t l) (show(Made.int (GJ z y)).post _ s from⟨.int (GJ z y),H,I.tok _,⟨_,rfl⟩,h⟩)
def VR:PD->PD->Option PD:=fun x y=>match x,y with
 |.str s,.str t=>some (.int (GJ s t))
 |_,_=>none
def ia(ho:re)(ha:DE X e g) (M:attributeBase a "find" X.env wA=eval a X.env:=by rfl) (R:As=true:=by rfl) (I:v6=true:=by rfl)(hs:starEach [e] X.env=Ev::starEach [] X.env:=by rfl)(l:(backTo cp fz).any OR=false:=by rfl):DE X (.Call (.Attribute a "find" ap) [e] [] cp) (AF VR f g):=by
 obtain⟨to,po,ko⟩:=ho;obtain⟨ta,pa,ka⟩:=ha;refine⟨_,FV bC PySem.F.slot_str_find PySem.F.type_str_find fy po zg M R I hs l,fun δ z hz G0 H0 G H σ ts Q R0 k=>?_⟩;obtain⟨x,y,h1,h2,T⟩:=two (x:=.none) (y:=.none) hz;refine ko δ x h1 G0 H0 G H σ ts _ R0 fun u G1 H1 Z=>?_;have Y:=Z.Aw (x,u) EQ;unfold VR at T;split at T
 .cases T;rw[Du]at Y;subst Y;refine⟨rfl,ka δ _ h2 G0 H0 G1 H1 σ _ _ Z fun v G2 H2 R2=>?_⟩;have U:=R2.Aw (_,v) EQ;rw[Du]at U;subst U;exact⟨_,_,rfl,rfl,k _ _ _ zAu⟩
 .cases T
def mn(K:Fg):V->List V->Hp->VK->Prop:=fun x xs H Q=>∃(l:AD),x=.ref l /\
 ((∃(ys:N1) (k:Str),xs=[.str k]/\BR K H l (ys.map V.str)/\Q (.int ((ys.count k:Nat):Int)) H)\/∃(ns:mo) (k:Int),xs=[.int k]/\BR K H l wC/\Q (.int ((ns.count k:Nat):Int)) H)
theorem Qt:∀ {ys:N1} {us:S0},Vals (ys.map V.str) us->StrsAre us ys
 |[],us,h=>by cases h;exact .nil
 |y::ys,us,h=>by
  cases h with
  |cons I l=>obtain⟨t,rfl⟩:=I;exact .cons _ _ (Qt l)
theorem PN(k:Str):∀ys:List Str,countIn (.str k) zAZ=((ys.count k:Nat):Int)
 |[]=>rfl
 |y::ys=>by
  show(if same (.str y) (.str k)=true then 1 else 0)+countIn _ zAZ=_;rw[PN k ys,List.count_cons];have e:same (.str y) (.str k)=(y==k):=rfl;rw[e];split<;>lia
def dA:Pr X "list.count" (mn X.K):=by
 intro pins s σ H x xs v us Q I rx Y h;obtain⟨l,rfl,h⟩:=h;cases rx;rcases h with ⟨ys,k,rfl,U,h⟩|⟨ns,k,rfl,U,h⟩
 .obtain⟨u,rfl,Z,rfl⟩:=Vals.one Y;obtain⟨T,M,R,hz⟩:=I.list U;exact count_list_strs R.isList (Qt M) (by rw[PN];exact⟨.int _,H,I.tok _,⟨_,rfl⟩,h⟩)
 .obtain⟨u,rfl,Z,rfl⟩:=Vals.one Y;obtain⟨T,M,R,hz⟩:=I.list U;exact count_list_ints R.isList (intsAre_of M) ⟨.int _,H,I.tok _,⟨_,rfl⟩,h⟩
def QM:List PD->Option (List Str)
 |[]=>some []
 |.str x::r=>(QM r).map fun l=>x::l
 |_::_=>none
theorem U3:∀ys:List Str,QM N2=some ys
 |[]=>rfl
 |y::ys=>by rw[xf,QM,U3 ys];rfl
theorem Kj:∀ys:List Int,IP (ys.map .int)=some ys
 |[]=>rfl
 |y::ys=>by rw[xf,IP,Kj ys];rfl
theorem Aq.strs{H:Hp}:∀ {ds:wV} {xs:UF} {ns:N1},Aq H ds xs->QM ds=Option.some ns->xs=ns.map V.str
 |[],xs,ns,h,e=>by cases e;rw[h.nil_eq];rfl
 |.str i::r,xs,ns,h,e=>by
  unfold QM at e;obtain⟨l,M,rfl⟩:=aC.mp e;obtain⟨x,q,rfl,I,d2⟩:=h.un;rw[Du]at I;subst I;rw[Aq.strs d2 M];rfl
 |.none::_,_,_,_,e=>by cases e
 |.bool _::_,_,_,_,e=>by cases e
 |.int _::_,_,_,_,e=>by cases e
 |.list _::_,_,_,_,e=>by cases e
 |.tuple _::_,_,_,_,e=>by cases e
 |.dict _::_,_,_,_,e=>by cases e
def Oy:PD->PD->Option PD:=fun x y=>match x,y with
 |.list ds,.str k=>(QM ds).map fun ys=>.int ((ys.count k:Nat):Int)
 |.list ds,.int k=>(IP ds).map fun ys=>.int ((ys.count k:Nat):Int)
 |_,_=>none
def TU(ho:re)(ha:DE X e g) (U:attributeBase a "count" X.env wA=eval a X.env:=by rfl) (Z:As=true:=by rfl) (R:v6=true:=by rfl)(hs:starEach [e] X.env=Ev::starEach [] X.env:=by rfl)(M:(backTo cp fz).any OR=false:=by rfl):DE X (.Call (.Attribute a "count" ap) [e] [] cp) (AF Oy f g):=by
 obtain⟨to,po,ko⟩:=ho;obtain⟨ta,pa,ka⟩:=ha;refine⟨_,FV ax PySem.F.slot_list_count PySem.F.type_list_count dA po zg U Z R hs M,fun δ z hz G0 H0 G H σ ts Q R0 k=>?_⟩;obtain⟨x,y,h1,h2,h3⟩:=two (x:=.none) (y:=.none) hz;refine ko δ x h1 G0 H0 G H σ ts _ R0 fun u G1 H1 R1=>?_;have du:=R1.Aw (x,u) EQ;unfold Oy at h3;split at h3
 .rename_i ds kk;obtain⟨ys,h4,rfl⟩:=aC.mp h3;rw[Du]at du;obtain⟨l,xs,rfl,hl,dx⟩:=du;have:=dx.strs h4;subst this;refine⟨.inl ⟨rfl,_,BR.of (R1.ins _ _ hl)⟩,ka δ _ h2 G0 H0 G1 H1 σ _ _ R1 fun v G2 H2 R2=>?_⟩;have dv:=R2.Aw (_,v) EQ;have I:=R2.Aw (PyData.list ds,V.ref l) zBA;rw[Du]at dv;rw[Du]at I;subst dv;obtain⟨l',xs',e',T,Y⟩:=I;cases e';have:=Y.strs h4;subst this;exact⟨l,rfl,.inl ⟨ys,kk,rfl,BR.of (R2.ins _ _ T),k _ _ _ zAu⟩⟩
 .rename_i ds kk;obtain⟨ys,h4,rfl⟩:=aC.mp h3;rw[Du]at du;obtain⟨l,xs,rfl,hl,dx⟩:=du;have:=dx.ints h4;subst this;refine⟨.inl ⟨rfl,_,BR.of (R1.ins _ _ hl)⟩,ka δ _ h2 G0 H0 G1 H1 σ _ _ R1 fun v G2 H2 R2=>?_⟩;have dv:=R2.Aw (_,v) EQ;have I:=R2.Aw (PyData.list ds,V.ref l) zBA;rw[Du]at dv;rw[Du]at I;subst dv;obtain⟨l',xs',e',T,Y⟩:=I;cases e';have:=Y.ints h4;subst this;exact⟨l,rfl,.inr ⟨ys,kk,rfl,BR.of (R2.ins _ _ T),k _ _ _ zAu⟩⟩
 .cases h3
def Bx{α:Type}:List α->List α
 |[]=>[]
 |[x]=>[x]
 |x::_::r=>x::Bx r
theorem X6{α:Type}:∀(l:wq),(List.range ((l.length+1) / 2)).filterMap (fun k=>l[2*k]?)=Bx l
 |[]=>by simp[Bx]
 |[x]=>by simp[Bx,List.range_succ]
 |x::z::r=>by
  have I:=X6 r;have e:((x::z::r).length+1) / 2=(r.length+1) / 2+1:=by simp only[List.length_cons];lia
  rw[e,List.range_succ_eq_map,(QY),List.filterMap_map];exact aH (x :: ·) I
def tK(items:Array VL)(n:Nat):slicePick items (some ST) none (some 2)=(Bx (items.toList.drop n)).toArray:=by
 unfold slicePick sliceBounds sliceRange
 congr 1
 have T:(2:Int) > 0:=by decide
 have I:¬ST<0:=by lia
 simp only[Option.getD_some,T,I,if_true,if_false];rw[<-X6,List.filterMap_map,(Hl)];have R:(if max (0:Int) zBY<(items.size:Int) then((items.size:Int)-max (0:Int) zBY+2-1) / 2 else 0).toNat=(items.toList.length-n+1) / 2:=by
  rw[(Vg)];split<;>lia
 rw[R];by_cases h:n<=items.size
 .have:∀l:List Nat,l.filterMap ((fun x=>items[x]?) ∘ fun(k:Nat)=>(max (0:Int) zBY+2*((k:Nat):Int)).toNat)=l.filterMap fun k=>(items.toList.drop n)[2*k]?:=fun l=>by
   induction l with
   |nil=>rfl
   |cons k l M=>
    rw[(QY),(QY),M];have e:items[(max (0:Int) zBY+2*(k:Int)).toNat]? = (items.toList.drop n)[2*k]? := by
     rw[List.getElem?_drop,(SV)]
     congr 1
     lia
    have U:((fun x=>items[x]?) ∘ fun(k:Nat)=>(max (0:Int) zBY+2*((k:Nat):Int)).toNat) k=(items.toList.drop n)[2*k]?:=e;rw[U]
  exact this _
 .have:(items.toList.length-n+1) / 2=0:=by rw[(Vg)];lia
  rw[this];rfl
theorem PB{α:Type}:∀(l:wq),(Bx l).length<=l.length
 |[]=>aG _
 |[x]=>aG _
 |x::z::r=>by have:=PB r;simp only[Bx,List.length_cons];lia
theorem Vals.Bx:∀ {xs:UF} {us:S0},Vals xs us->Vals (L2.Bx xs) (L2.Bx us)
 |[],_,h=>by cases h;exact .nil
 |[x],_,h=>by cases h with|cons a b=>cases b;exact .cons a .nil
 |x::z::r,_,h=>by
  cases h with
  |cons a b=>cases b with
   |cons b c=>exact .cons a (Vals.Bx c)
def Vals.rp{xs:vx}{us:vd}(h:Vals xs us):∀n:Nat,Vals (xs.drop n) (us.drop n):=fun n=>by
 induction n generalizing xs us with
 |zero=>exact h
 |succ n l=>cases h with
  |nil=>exact .nil
  |cons a b=>exact l b
def kS{e l k:Expr}{te tl tk:TE}{pos p2:Pos}(he:PE X e te)(hl:PE X l tl)(hk:PE X k tk):PE X (.Subscript e (.Slice (some l) none (some k) p2) pos) (fun σ H Q=>te σ H fun x H1=>tl σ H1 fun y H2=>tk σ H2 fun z U=>∃(a:AD) (xs:vx) (n:Nat),x=.ref a/\y=.int ST/\z=.int 2/\BR X.K U a xs/\∀p,U p=none->Q yI (upd U p (.lst (Bx (xs.drop n))))):=by
 intro pins s σ H Q I h;refine Subscript_ (A2 Pg fun v s1 ⟨x,H1,I1,r1,q1⟩=>?_);refine wpAny_Slice ?_;rw[evalPart_some];refine A2 (hl pins s1 σ H1 _ I1 q1) fun vl s2 ⟨y,H2,I2,r2,q2⟩=>?_;refine aB ?_;rw[evalPart_some];refine A2 (hk pins s2 σ H2 _ I2 q2) fun vk s3 ⟨z,U,I3,r3,q3⟩=>?_;obtain⟨a,xs,n,rfl,rfl,rfl,hq,q⟩:=q3;cases r1;obtain⟨M,rfl⟩:=r2;obtain⟨R,rfl⟩:=r3;have Z:Inv X pins σ U {s3 with heap:=s3.heap.push { cls:=.type "slice",data:=.fields #[.int ((n:Nat):Int) M,.none,.int 2 R]} }:=I3.kept (t':=s3.toks) fun b ob q=>aD _ q;obtain⟨Y,rv,pl,hz⟩:=Z.list hq;have hlen:=rv.length;show wpAny AT X.A (subscriptTail e (.Slice (some l) none (some k) p2) PZ xE) Ix X.xe {s3 with heap:=s3.heap.push { cls:=.type "slice",data:=.fields #[.int ST M,.none,.int 2 R]} };refine tail_any (ops:=[.ref a,.ref s3.heap.objs.size]) (T := "list") pl.isList.typeIs slot_list_getitem.lookup ?_ wR;refine wpAny_getItem_list_slice pl.isList (Heap.IsSliceOf.new ..) (.int ST M) .none (.int 2 R) AS ?_ (by rw[(Cp)]<;>lia);rw[tK];refine⟨.ref _,_,Z.laid (t':=s3.toks) (o:=.lst (Bx (xs.drop n))) xH SL ?_,rfl,q _ (Z.Ay.fresh SL)⟩;exact⟨aK (PB _) (by rw[(Hl)];lia),Bx (Y.drop n),0,(rv.rp n).Bx,Heap.get?_push_size _ rfl⟩
theorem Aq.Bx{H:Hp}:∀ {ds:wV} {xs:UF},Aq H ds xs->Aq H (L2.Bx ds) (L2.Bx xs)
 |[],_,h=>by rw[h.nil_eq];exact .nil
 |[x],_,h=>by obtain⟨v,r,rfl,I,l⟩:=h.un;rw[l.nil_eq];exact .cons I .nil
 |x::z::r,_,h=>by
  obtain⟨v,q,rfl,I,l⟩:=h.un;obtain⟨R,T,rfl,U,M⟩:=l.un;exact .cons I (Aq.Bx M)
def jS(x y z:PD):vg:=match x,y,z with
 |.list xs,.int i,.int j=>if j=2/\0<=i then some (.list (Bx (xs.drop i.toNat))) else none
 |_,_,_=>none
abbrev Qq(f g h:My):Dv->Option PD:=fun δ=>(f δ).bind fun x=>(g δ).bind fun y=>(h δ).bind fun z=>jS x y z
def Xy{l k:Expr}(he:xT)(hl:DE X l g)(hk:DE X k h):DE X (.Subscript e (.Slice (some l) none (some k) p2) pos) (Qq f g h):=by
 obtain⟨te,pe,ke⟩:=he;obtain⟨tl,pl,kl⟩:=hl;obtain⟨tk,pk,kk⟩:=hk;refine⟨_,kS pe pl pk,fun δ z hz G0 H0 G H σ ts Q R0 q=>?_⟩;obtain⟨x,h1,h2⟩:=aA.mp hz;obtain⟨y,h3,h4⟩:=aA.mp h2;obtain⟨w,h5,I⟩:=aA.mp h4;refine ke δ x h1 G0 H0 G H σ ts _ R0 fun u G1 H1 R1=>?_;refine kl δ y h3 G0 H0 G1 H1 σ _ _ R1 fun v G2 H2 R2=>?_;refine kk δ w h5 G0 H0 G2 H2 σ _ _ R2 fun Z G3 H3 M=>?_;have U:=M.Aw (x,u) (.tail _ zBA);have T:=M.Aw (y,v) zBA;have R:=M.Aw (w,Z) EQ;unfold jS at I;split at I
 .rename_i xs i j;split at I
  .rename_i hc;obtain⟨rfl,hi⟩:=hc;cases I;rw[Du]at U;rw[Du]at T;rw[Du]at R;subst T R;obtain⟨a,Y,rfl,ha,dx⟩:=U;exact⟨a,Y,i.toNat,rfl,by rw[Int.toNat_of_nonneg hi],rfl,BR.of (M.ins _ _ ha),fun p hp=>q _ _ _ (M.drop.drop.drop.JW ((dx.drop _).Bx) hp)⟩
  .cases I
 .cases I
end
end L2
namespace GS
open PySem PySem.W PyProof.Rows PySem.SeqAt
def Yr:KeyOrd where
 α:=Int
 blt:=fun a b=>decide (a<b)
 irrefl:=fun a=>by simp
 trans:=fun a b c h k=>by simp at *;lia
 negTrans:=fun a b c h=>by simp at h ⊢;lia
 total:=fun a b h k=>by simp at *;lia
def YN{v:VL}{vs:vd}{ns:vj}(l:IntsAre (v::vs) ns):keyKind' (v::vs).toArray=pure oneType':=by
 rw[keyKind'_eq,List.mapM_toArray,mapM_first_ints l];simp only[map_pure,pure_bind];rw[if_neg A1,if_neg A1];rw[oneTypeOnly'_eq,List.mapM_toArray,mapM_typeOf_ints l];simp only[map_pure,pure_bind];have g:((List.map (fun _=>Value.type "int") (v::vs)).toArray.all fun x=>x==Value.type "int")=true:=by
  simp only[List.all_toArray,List.all_map,List.all_eq_true];intro _ _
  rfl
 have h0:(List.map (fun _=>Value.type "int") (v::vs)).toArray[0]? = some (Value.type "int"):=by simp
 rw[h0];simp only[g,if_true,pure_bind,Option.isSome_some]
theorem ints_get:∀ {vs:S0} {ns:mo} {i:Nat} {x:Int} {u:VL},IntsAre vs ns->ns[i]? = some x->vs[i]? = some u->∃t,u=.int x t
 |_,_,i,x,u,.nil,h,_=>by simp at h
 |_,_,0,x,u,.cons n t h,l,g=>by simp at l g;subst l g;exact⟨_,rfl⟩
 |_,_,i+1,x,u,.cons n t h,l,g=>ints_get h oF (by simpa using g)
theorem QR:∀ {vs:S0} {ns:mo},IntsAre vs ns->vs.length=ns.length
 |_,_,.nil=>rfl
 |_,_,.cons n t h=>by simp[QR h]
def gX{prog:F0b}{w:F0c}{h0:Heap}{ns:vj}{us:vd}(h:IntsAre us ns):XW Yr prog w h0 0 ns us :=
 ⟨QR h,fun κ=>us=[]\/κ=oneType',fun A E s Q I q=>by
  cases us with
  |nil=>exact TH.XT (us:=[]) (fun v M=>by cases M) (q _ bv)
  |cons v vs=>rw[YN h];exact aB (q _ (.inr rfl)),
  fun A s κ I Z g E i j x y u v Q l U T R q=>by
  rcases g with rfl|rfl
  .simp at l
  .obtain⟨t,rfl⟩:=ints_get h T l;obtain⟨Y,rfl⟩:=ints_get h R U;rw[keyLt'_oneType];exact oneLt_int q⟩
end GS
namespace L2
open PySem PySem.Spec PyProof.Rows
def Fw(ns:vj):vj:=ns.mergeSort fun a b=>decide (a<=b)
def WS{ns ks:vj}(l:ks.Perm ns)(g:ks.Pairwise fun a b=>GS.Yr.kle a b):ks=Fw ns:=by
 have s1:(Fw ns).Pairwise (fun a b=>a<=b):=by
  have:=List.pairwise_mergeSort (le:=fun a b:Int=>decide (a<=b)) (fun a b c h k=>by simp at *;lia) (fun a b=>by simp;lia) ns;exact this.imp fun h=>by simpa using h
 have s2:ks.Pairwise (fun a b=>a<=b):=g.imp fun {a b:Int} h=>by
  have h':decide ((b:Int)<(a:Int))=false:=h;exact Int.not_lt.mp (bT h')
 exact List.Perm.eq_of_pairwise (fun a b _ _ h k=>Int.le_antisymm h k) s2 s1 (l.trans (List.mergeSort_perm _ _).symm)
section
variable{X:Cx}{a b e:Expr}{h:va}{p p2:Pos}{i:Nat}{y:Str}
def qL(K:Fg):List V->Hp->VK->Prop:=fun xs H Q=>∃(p:AD) (ns:mo),xs=[.ref p]/\BR K H p wC/\ns.length<64/\∀l:AD,H l=none->Q (.ref l) (upd H l (.lst ((Fw ns).map V.int)))
def Yh(hu:ZB):FO X zAY (qL X.K):=by
 intro pins s σ H xs us Q I r h;obtain⟨p,ns,rfl,hq,hl,q⟩:=h;obtain⟨u,rfl,r1⟩:=r.one;cases r1;obtain⟨g,U,pl,hz⟩:=I.list hq;have Y:IntsAre g ns:=intsAre_of U;have l:=GS.QR Y;refine GS.Vn (O:=GS.Yr) (0:Int) (GS.Vj pl.isList AC) (GS.gX Y) AC (GS.Rb (O:=GS.Yr) (ks:=ns) (show(ns:mo).length<64 by lia)) AC fun h' D tk ix e1 Z k1 gD R p2=>?_;have M:∀i∈ix,i<(ns.map V.int).length:=fun i hi=>by
  have:=bD.mp (R.mem_iff.mp hi);rw[wk];lia
 have T:ix.length=g.length:=by rw[R.length_eq,List.length_range]
 have e:(ix.map fun i=>ns.getD i (0:Int))=Fw ns:=by
  refine WS ?_ p2;have:=R.map fun i=>ns.getD i (0:Int);refine this.trans ?_;rw[l];refine List.Perm.of_eq ?_;apply bO;intro i;rw[xZ];by_cases hi:i<ns.length
  .rw[List.getElem?_range hi,List.getElem?_eq_getElem hi];simp[List.getD_eq_getElem?_getD,hi]
  .rw[List.getElem?_eq_none a6,List.getElem?_eq_none a6];rfl
 have e2:(ix.map fun i=>(ns.map V.int).getD i .BS)=(Fw ns).map V.int:=by
  rw[<-e,(Cu)];refine ak fun i hi=>?_;have:=M i hi;rw[wk]at this;simp[List.getD_eq_getElem?_getD,this]
 exact⟨.ref D,upd H D (.lst (ix.map fun i=>(ns.map V.int).getD i .BS)),I.laid (t':=tk) k1 Z ⟨by rw[wk,T,sizeLine_eq];lia,_,e1,U.pick ix M,gD⟩,rfl,by rw[e2];exact q D (I.Ay.fresh Z)⟩
def Qk:MD
 |[.list ds]=>(IP ds).bind fun ns=>if ns.length<64 then some (.list ((Fw ns).map .int)) else none
 |_=>none
theorem Kn{G:Hp}:∀ys:List Int,Aq G (ys.map PyData.int) (ys.map V.int)
 |[]=>.nil
 |y::ys=>.cons GM (Kn ys)
def fX(U:ZB):Hk X zAY Qk:=by
 refine⟨_,Yh U,fun xs z g G0 H0 G H σ δ ts us Q T d k=>?_⟩;unfold Qk at g;split at g
 .rename_i ds;obtain⟨ns,Z,M⟩:=aA.mp g;split at M
  .rename_i I;cases M;obtain⟨u,rfl,R⟩:=d.JM;rw[Du]at R;obtain⟨p,ws,rfl,Y,dw⟩:=R;have:=dw.ints Z;subst this;exact⟨p,ns,rfl,BR.of (T.ins _ _ Y),I,fun l I=>k _ _ _ (T.JW (Kn _) I)⟩
  .cases M
 .cases g
def VJ:PD->PD->Option PD:=fun x y=>match x,y with
 |.tuple ds,.tuple l=>(IP ds).bind fun ps=>(IP l).map fun g=>.bool (!IT.lt ps g)
 |_,_=>none
def o7(T:ZB):Dw X (compareOp .GtE) VJ:=by
 refine⟨_,cn T,fun x y z g G0 H0 G H σ δ ts u v Q R I l k=>?_⟩;unfold VJ at g;split at g
 .obtain⟨ps,h1,Z⟩:=aA.mp g;obtain⟨M,Y,rfl⟩:=aC.mp Z;rw[Du]at I;rw[Du]at l;obtain⟨a,xs,rfl,ha,dx⟩:=I;obtain⟨b,ys,rfl,U,dy⟩:=l;have:=dx.ints h1;subst this;have:=dy.ints Y;subst this;exact⟨a,b,ps,M,rfl,rfl,R.ins _ _ ha,R.ins _ _ U,k _ _ _ (R.put GM)⟩
 .cases g
end
section
variable{X:Cx}{es:vp}{fs:vZ}{t:TA}{pos:Pos}
def qO{M}(h:RA X es t):RE X (.Tuple es M pos) (gS t):=by
 intro pins s σ H Q I R;rw[arm_eval_Tuple];refine Aj (ah ?_);refine C4 (HU (h pos pins s σ H _ I R) fun us s1 ⟨xs,l,g,r,z,q⟩=>wpAny_newTuple ?_ (by rw[<-r.length];exact z));have T:l s1.heap.objs.size=none:=g.Ay.fresh SL;refine⟨.ref s1.heap.objs.size,upd l s1.heap.objs.size Pt,g.laid (t':=s1.toks) (fun b u e=>aD _ e) SL ?_,rfl,q _ T⟩;exact⟨z,us,r,⟨_,Heap.get?_push_size _ rfl,rfl,_,rfl⟩⟩
def lD{l}(ha:cM X es fs):Nq X (.Tuple es l pos) (fun δ=>((fs δ).bind CH).map .tuple):=by
 obtain⟨ta,I,M⟩:=ha;refine⟨_,qO I,fun δ z R G0 H0 G H σ ts Q R0 k=>?_⟩;obtain⟨ys,h1,rfl⟩:=aC.mp R;obtain⟨xs,Z,Y⟩:=aA.mp h1;obtain⟨rfl,U⟩:=KI Y;refine M δ _ Z G0 H0 G H σ ts _ R0 fun vs G1 H1 R1 g=>?_;obtain⟨d,R2⟩:=R1.args g;exact⟨DR (by rw[g];exact U),fun q T=>k _ _ _ (R2.SY d T)⟩
end
end L2
namespace HT
open PySem PyProof.Rows
def NN{prog:F0b}{w:F0c}{A:F0d}{E:ve}{s:SD}{t sl:AD}{items:Array VL}{T R:VL}{lo hi:vt}{Q:ve}(g:IsTup s.heap t items)(hs:s.heap.IsSliceOf sl T R .none)(Z:IsPart T lo)(Y:IsPart R hi) (U:BZ items.size 0 lo=0/\BZ items.size items.size hi=items.size)(h:Q (.ref t) s):wpAny By A (getItem (.ref t) (.ref sl)) Q E s:=by
 obtain⟨os,l,I,hds⟩:=id hs;have M:s.TypeIs (.ref sl) "slice" := ⟨os,l,I⟩;unfold getItem
 try with_reducible refine ao ?_
 first|refine Wb lr|skip
 refine Wb (wpAny_sequenceKey g.typeIs AS ?_);refine Wb (av (name:=Str.ofString "__getitem__") g.typeIs bX
  (bA bX g.typeIs entry_tuple_getitem ?_ (args_tuple_getitem _ _)))
 show wpAny _ _ (Builtin.Tuple.tupleItemsOf (.ref t)>>=_) _ _ s;refine Wb (tupleItemsOf_ g ?_);refine Wb (wpAny_typeOf M ?_);rw[if_pos AS];refine Wb (Ks hs Z Y ?_);show wpAny _ _ (if zBw=true then _ else _) _ _ s;rw[if_pos (by rw[U.1,U.2];simp)];refine Wb (m:=Builtin.Tuple.tupleIsExact _) ?_;unfold Builtin.Tuple.tupleIsExact;refine Wb (wpAny_typeOf g.typeIs lr);rw[if_pos AS]
 first
  |exact Wb (ba vw)
  |exact Wb (ba (aB vw))
end HT
namespace L2
open PySem PySem.Spec PyProof.Rows
def rX(K:Fg):V->Option Int->Option Int->Hp->VK->Prop:=fun x lo hi H Q=>∃a xs,x=.ref a/\B2 K H a xs /\
 (bi->Q PZ H)/\(¬bi->∀p,H p=none->Q yI (upd H p (.tup (Md xs lo hi))))
def mf{X:Cx}:T4 X (rX X.K):=by
 intro pins s σ H x v vl vu lo hi sl Q I R hs U T h;obtain⟨a,xs,rfl,Y,q1,q2⟩:=h;by_cases l:HT.BZ xs.length 0 lo=0/\HT.BZ xs.length xs.length hi=xs.length
 .cases R;obtain⟨M,r,Z,hz⟩:=I.tuple Y;have g:M.toArray.size=xs.length:=by rw[(Cp)];exact r.length.symm
  refine⟨"tuple",_,PyProof.Rows.slot_tuple_getitem.lookup,Z.typeIs,?_⟩;exact HT.NN Z hs U T (by rw[g];exact l) ⟨.ref a,H,I,rfl,q1 l⟩
 .exact cQ pins s σ H PZ v vl vu lo hi sl Q I R hs U T ⟨a,xs,rfl,Y,l,q2 l⟩
section
variable{X:Cx}{e:Expr}{f:va}{lo hi:Option Expr}{fo fu:Dv->Option vt}{pos p2:Pos}
def je(x:PD)(lo hi:vt):vg:=match x with
 |.tuple xs=>some (.tuple (cutD xs lo hi))
 |_=>none
abbrev Yu(f:My)(fo fu:Dv->Option (Option Int)):Dv->Option PD:=fun δ=>(f δ).bind fun x=>(fo δ).bind fun l=>(fu δ).bind fun u=>je x l u
def cY(he:xT)(hl:DO X lo fo)(hh:DO X hi fu):DE X zW (Yu f fo fu):=by
 obtain⟨te,pe,ke⟩:=he;obtain⟨tl,U,kl⟩:=hl;obtain⟨th,Y,kh⟩:=hh;refine⟨_,Vp mf pe U Y,fun δ z hz G0 H0 G H σ ts Q R0 k=>?_⟩;obtain⟨x,h1,h2⟩:=aA.mp hz;obtain⟨l,h3,h4⟩:=aA.mp h2;obtain⟨u,h5,g⟩:=aA.mp h4;refine ke δ x h1 G0 H0 G H σ ts _ R0 fun v G1 H1 R1=>?_;refine kl δ l h3 G0 H0 G1 H1 σ _ _ R1 fun G2 H2 R2=>?_;refine kh δ u h5 G0 H0 G2 H2 σ _ _ R2 fun G3 H3 I=>?_;have T:=I.Aw _ EQ;unfold je at g;split at g
 .rename_i xs;cases g;rw[Du]at T;obtain⟨a,ys,rfl,Z,R⟩:=T;refine⟨a,ys,rfl,B2.of (I.ins _ _ Z),fun M=>?_,fun _ q hq=>k _ _ _ (I.drop.SY (R.cut l u) hq)⟩;have e:cutD xs l u=xs:=by
   rw[R.len]at M;unfold cutD;rw[M.1,M.2,List.drop_zero,Nat.sub_zero,List.take_length]
  rw[e]at k;exact k _ _ _ I
 .cases g
end
end L2
namespace Q80
open PySem L2
abbrev Gu:Stmt:=top 15
abbrev Js:Stmt:=top 16
abbrev GF:Stmt:=top 17
abbrev Oh:Stmt:=top 19
abbrev Nv:Stmt:=top 20
abbrev Ka:Stmt:=top 21
abbrev JB:Stmt:=top 23
abbrev F4:Stmt:=top 24
abbrev Ic:Stmt:=top 28
abbrev JZ:Stmt:=top 29
abbrev F3:Stmt:=top 30
abbrev Gy:Stmt:=top 31
abbrev LW:Stmt:=top 32
abbrev LU:Stmt:=top 33
abbrev JV:Stmt:=top 34
abbrev MV:Stmt:=top 35
abbrev OG:Stmt:=top 36
abbrev OC:Stmt:=top 37
abbrev GL:Stmt:=top 39
abbrev Hv:Stmt:=top 40
abbrev LS:Stmt:=top 41
abbrev Hu:Stmt:=top 42
abbrev Jc:Stmt:=top 45
abbrev LN:Stmt:=top 46
abbrev JU:Stmt:=top 47
abbrev Hj:Stmt:=top 48
abbrev LY:Stmt:=top 49
abbrev GW:Stmt:=top 50
abbrev KJ:Stmt:=top 51
abbrev Lg:Stmt:=top 52
abbrev LO:Stmt:=top 53
abbrev Km:Stmt:=top 54
abbrev Jd:Stmt:=top 55
abbrev Lj:Stmt:=top 56
abbrev Gn:Stmt:=top 57
abbrev ji:Stmt:=top 58
def Vt{n:xC}:DD (.ty n)≠.none:=fun z=>nomatch z
def qA:Sp:=fun vs H Q _=>∃a b,vs=[.int a,.int b]/\Q (.int (FM.gi a b)) H
def qb:Sp:=fun vs H Q _=>∃t b m,vs=[.int t,.int b]/\b≠0/\m<=9000/\b.natAbs<2^m/\∀l H',AY H H'->H' l=some (.tup (uk (Rat.divInt t b)))->Q (.ref l) H'
section
variable{P:F0b}{w:F0c}{K:Fg}{mg:vf}{base:Heap}{f g:AD}{fd:F0a}
def NO:Ap ["one","other","greater","lesser","rest"] ["one","other"] (AO GF):=⟨rfl,rfl,rfl,by decide +kernel,rfl,by decide +kernel,by decide +kernel⟩
def uC(σ:St):Nat:=match σ[3]? with|some (some (V.int l))=>l.natAbs|_=>0
def NL(F:Fn K mg "greatest_divisor" GF ["one","other"] f fd)(T:mg "abs" = none):Ah P w K mg base A4 1 f fd ["one","other"] qA:=by
 have sc:=NO;refine F.F.ok (k:=0) sc Tj (fun cdv A outer s H vs Q E Z h=>?_)
 .obtain⟨a,b,rfl,_⟩:=h
  rfl
 obtain⟨a,b,rfl,q⟩:=h;refine⟨_,(B0 (D9 (i:=2) sc.nd rfl Do (Bv KD rfl T bj (Ac (pv 0) A3)))
 (B0 (D9 (i:=3) sc.nd rfl Do (Bv KD rfl T bj (Ac (pv 1) A3)))
 (B0 (Us aq (E8 Q4 (pv 3) B9 NA)
  (B0 (D9 (i:=4) sc.nd rfl Do (K1 SK (pv 2) (pv 3)))
  (B0 (D9 (i:=2) sc.nd rfl Do (pv 3))
  (Bf (D9 (i:=3) sc.nd rfl Do (pv 4))))))
 (Bf (C8 (pv 2)))))),?_⟩
 refine⟨_,rfl,_,rfl,_,rfl,_,rfl,?_⟩;refine WG (fun σ H'=>∃g l r,σ=[some (.int a),some yo,some (.int g),some (.int l),r]/\H=H'/\Int.gcd g l=Int.gcd a b/\0<=g/\0<=l) (fun σ _=>uC σ) ?_ ?_ ?_
 .exact⟨_,_,_,rfl,rfl,FM.XM a b,FM.abs_nonneg a,FM.abs_nonneg b⟩
 .rintro σ H' ⟨g,l,r,rfl,rfl,M,h0,R⟩;refine⟨_,rfl,rfl,_,rfl,FQ o0 o0⟩
  .have I:l≠0:=fun z=>by subst z;simp at c
   refine⟨_,rfl,_,rfl,_,_,rfl,rfl,I,_,rfl,_,rfl,⟨_,_,_,rfl,rfl,?_,R,FM.fmod_nonneg I R⟩,?_⟩
   .rw[FM.WO];exact M
   .exact FM.TF g l I
  .have I:l=0:=by simpa using c
   subst I;refine⟨_,rfl,?_⟩;rw[FM.dJ M h0];exact q
 .exact fun σ H Q Q' U ⟨v,e,s,k,Y,q⟩=>⟨v,e,s,k,Y,U _ _ q⟩
end
def DU(H:Hp)(d:PD)(v:V):Prop:=∃N:Nat,∀l,N<=l->Dt l H d v
def TJ(H:Hp)(ds:vc)(xs:vx):Prop:=∃N:Nat,∀l,N<=l->BK l H ds xs
def DU.int{H:Hp}{i:Int}:DU H wN wN:=⟨0,fun _ _=>.int⟩
def DU.bool{H:Hp}{i:Bool}:DU H (.bool i) (.bl i):=⟨0,fun _ _=>.bool⟩
def DU.BS{H:Hp}:DU H .none .BS:=⟨0,fun _ _=>.BS⟩
def DU.str{H:Hp}{x:Str}:DU H L6 L6:=⟨0,fun _ _=>.str⟩
def TJ.nil{H:Hp}:TJ H [] []:=⟨0,fun _ _=>.nil⟩
def TJ.cons{H:Hp}{d:PD}{ds:vc}{x:V}{xs:vx}(h:DU H d x)(k:TJ H ds xs):TJ H (d::ds) (x::xs) :=
 let⟨N,a⟩:=h;let⟨M,b⟩:=k;⟨max N M,fun l g=>.cons (a l AC) (b l AC)⟩
def DU.lst{H:Hp}{a:AD}{ds:vc}{xs:vx}(h:H a=some SB)(k:TJ H ds xs):DU H (.list ds) PZ :=
 let⟨N,b⟩:=k;⟨max N (a+1),fun l g=>.lst zAF h (b l AC)⟩
def DU.tup{H:Hp}{a:AD}{ds:vc}{xs:vx}(h:H a=some Pt)(k:TJ H ds xs):DU H (.tuple ds) PZ :=
 let⟨N,b⟩:=k;⟨max N (a+1),fun l g=>.tup zAF h (b l AC)⟩
def El:PD->Bool
 |.tuple [.int a,.int b]=>decide (1<=b)&&(FM.gi a b==1)
 |_=>false
def QH{ds:vc}(h:ds.length≠2\/∃l g,ds=[l,g]/\((JH l && !HS l)=false\/(JH g && !HS g)=false)):El (.tuple ds)=false:=by
 rcases h with h|⟨l,g,rfl,h⟩
 .match ds,h with
  |[],_=>rfl
  |[a],_=>cases a<;>rfl
  |[_,_],h=>exact absurd rfl h
  |a::b::_::_,_=>cases a<;>first|rfl|(cases b<;>rfl)
 .cases l<;>first|rfl|(cases g<;>first|rfl|(exfalso;rcases h with h|h<;>exact absurd h (by simp[JH,HS])))
def Uu:Sp:=fun vs H Q _=>∃l d v,vs=[v]/\Dt l H d v/\Q (.bl (JH d && !HS d)) H
def Zj:Sp:=fun vs H Q _=>∃l d v,vs=[v]/\Dt l H d v/\Q (.bl (El d)) H
def NW{d:PD}(h:(JH d && !HS d)=true):∃i,d=.int i:=by
 cases d<;>first|exact⟨_,rfl⟩|(exact absurd h (by simp[JH,HS]))|(rename_i b;cases b<;>exact absurd h AS)
section
variable{P:F0b}{w:F0c}{K:Fg}{mg:vf}{base:Heap}{f g1 g2:AD}{fd gd1 gd2:F0a}
def W7:Ap RQ RQ (AO Js):=⟨rfl,rfl,rfl,by decide +kernel,rfl,by decide +kernel,by decide +kernel⟩
def W3(F:Fn K mg "is_whole" Js RQ f fd)(g:js)(M:mg "int" = none)(I:mg "bool" = none):Ah P w K mg base A4 1 f fd RQ Uu:=by
 have sc:=W7;refine F.F.ok (k:=0) sc Tj (fun cdv A outer s H vs Q E R h=>?_)
 .obtain⟨l,d,v,rfl,_⟩:=h
  rfl
 obtain⟨l,d,v,rfl,hd,q⟩:=h;refine⟨_,(Bf (C8 (WY (Bv GD rfl g aZ (Ac (pv 0) (Ac (GK (v:=.ty "int") rfl M bU rfl) A3))) (Vc (nv (Bv GD rfl g aZ (Ac (pv 0) (Ac (GK (v:=.ty "bool") rfl I PyProof.Rows.boot_bool rfl) A3)))))))),?_⟩;refine⟨_,rfl,_,_,_,_,rfl,Vt,hd.ty,fj K d hd.nodict,_,rfl,FQ (fun c=>⟨_,rfl,_,_,_,_,rfl,Vt,hd.ty,dz K d hd.nodict,_,rfl,?_⟩) o0⟩
 .rw[c,(KG)]at q;exact q
 .rw[Bool.eq_false_iff.mpr c,(OA)]at q;exact q
def Sk:Ap RQ RQ (AO Gu):=⟨rfl,rfl,rfl,by decide +kernel,rfl,by decide +kernel,by decide +kernel⟩
def Sb(F:Fn K mg "is_fraction" Gu RQ f fd)(Eh:Fn K mg "is_whole" Js RQ g1 gd1)(Ek:Fn K mg "greatest_divisor" GF ["one","other"] g2 gd2) (Jx:Ah P w K mg base A4 1 g1 gd1 RQ Uu)(N8:Ah P w K mg base A4 1 g2 gd2 ["one","other"] qA)(AW:js)(CC:yT)(Ak:PR):Ah P w K mg base A4 2 f fd RQ Zj:=by
 have sc:=Sk;refine F.F.ok (k:=1) sc Tj dk
 .obtain⟨l,d,v,rfl,_⟩:=h
  rfl
 obtain⟨l,d,v,rfl,hd,q⟩:=h;refine⟨_,(B0 (Fx (PW.pt (Jt im (JJ (E8 Q4 wb B9 NA))))
  (Bf (C8 GO))
  Dq)
 (B0 (Fx (PW.pt (Jt (Fc (Fl (JC Eh Jx hr rfl (Ac zBE A3)))) (JJ (Fc (Fl (JC Eh Jx hr rfl (Ac zBE A3)))))))
  (Bf (C8 GO))
  Dq)
 (Bf (C8 (WY (PH jb zBE B9 NA) (Vc (PH jN (JC Ek N8 hr rfl (Ac zBE (Ac zBE A3))) B9 NA))))))),?_⟩
 refine⟨_,rfl,_,_,_,_,rfl,Vt,hd.ty,Me K d hd.nodict,_,rfl,?_⟩;have no:Dk d=false->El d=false:=fun z=>by cases d<;>first|rfl|exact absurd z (by simp[Dk])
 by_cases Y:Dk d=true
 .rw[Y];obtain⟨ds,rfl⟩:∃ds,d=.tuple ds:=by cases d<;>first|exact⟨_,rfl⟩|exact absurd Y (by simp[Dk])
  rw[Dt]at hd;obtain⟨a,xs,rfl,na,ha,g⟩:=hd;have U:=g.len;have s1:B2 K H a xs:=B2.of ha;refine SG ⟨_,rfl,a,xs,rfl,.inr s1,rfl,_,rfl,FQ o0 o0⟩
  .have:ds.length≠2:=by
    rw[<-U];intro z;rw[z]at c;exact absurd c AS
   rw[QH (.inl this)]at q;exact q
  .have h2:xs.length=2:=by
    by_cases z:xs.length=2
    .exact z
    .exfalso
     refine c ?_;have:¬(V.int (xs.length:Nat)=V.int 2):=by simp;lia
     rw[decide_eq_false this];rfl
   obtain⟨T,R,rfl⟩:∃T R,ds=[T,R]:=by
    match ds,(show ds.length=2 by lia) with
    |[x,y],_=>exact⟨x,y,rfl⟩
   rw[BK]at g;obtain⟨x0,r,rfl,M,g⟩:=g;rw[BK]at g;obtain⟨x1,r,rfl,I,g⟩:=g;rw[BK]at g;subst g;refine⟨_,rfl,_,_,_,_,rfl,rfl,s1,rfl,l,T,x0,rfl,M,_,rfl,FQ (fun c0=>?_) (fun c0=>?_)⟩
   .rw[QH (.inr ⟨T,R,rfl,.inl (by simp at c0;rcases c0 with c|c<;>simp[c])⟩)]at q;exact q
   refine⟨_,rfl,_,_,_,_,rfl,rfl,s1,rfl,l,R,x1,rfl,I,_,rfl,FQ (fun Z=>?_) (fun Z=>?_)⟩
   .rw[QH (.inr ⟨T,R,rfl,.inr (by simp at Z;rcases Z with c|c<;>simp[c])⟩)]at q;exact q
   obtain⟨i,rfl⟩:=NW (d:=T) (by simpa using c0);obtain⟨j,rfl⟩:=NW (d:=R) (by simpa using Z);rw[Dt]at M I;subst M I;refine⟨_,rfl,_,_,_,_,rfl,rfl,s1,rfl,_,_,rfl,rfl,_,rfl,FQ o0 o0⟩
   .refine⟨_,rfl,_,_,_,_,rfl,rfl,s1,rfl,_,rfl,_,_,_,_,rfl,rfl,s1,rfl,i,j,rfl,rfl,?_⟩;have hj:1<=j:=by have:=aU c;lia
    have e:El (.tuple [.int i,.int j])=decide (V.int (FM.gi i j)=V.int 1):=by
     rw[El,decide_eq_true hj,(KG),(NU)];simp
    rw[e]at q;exact q
   .have hj:¬1<=j:=fun z=>c (aX AC);have e:El (.tuple [.int i,.int j])=false:=by rw[El,decide_eq_false hj,(OA)]
    rw[e]at q;exact q
 .rw[Bool.eq_false_iff.mpr Y];rw[no (bI.mpr Y)]at q;exact Jb (Jb q)
end
def Uc{d:PD}(h:En d=true):∃ds,d=.list ds:=by cases d<;>first|exact⟨_,rfl⟩|exact absurd h (by simp[En])
def WK{d:PD}(h:Dk d=true):∃ds,d=.tuple ds:=by cases d<;>first|exact⟨_,rfl⟩|exact absurd h (by simp[Dk])
def HC:PD->Bool
 |.int i=>decide (0<=i)
 |_=>false
def Fs(n:Int):PD->Bool
 |.tuple ds=>decide ((ds.length:Int)=n)&&ds.all HC
 |_=>false
def gR:PD->Int
 |.tuple (.int a::_)=>a
 |_=>0
def Ee(n:Int):PD->Bool
 |.tuple [p,f]=>Fs n p&&(El f && !decide (gR f=0))
 |_=>false
def intD:PD->Int
 |.int i=>i
 |_=>0
def Zh:PD->List Int
 |.tuple ds=>ds.map intD
 |_=>[]
def PU:PD->List Int
 |.tuple (p::_)=>Zh p
 |_=>[]
def Fb(n:Int)(ds:vc)(k:Nat):Bool:=match ds[k]? with
 |some d=>Ee n d&&(decide (k=0)||(match ds[k-1]? with
  |some e=>IT.lt (PU d) (PU e)
  |none=>true))
 |none=>true
def Ei(n:Int):PD->Bool
 |.list ds=>(List.range ds.length).all (Fb n ds)
 |_=>false
def HF:PD->Bool
 |.list ds=>!decide (ds.length=0)&&ds.all (Ei ds.length)
 |_=>false
def lC{n:Int}{d:PD}(h:Dk d=false):Fs n d=false:=by cases d<;>first|rfl|exact absurd h (by simp[Dk])
def gM{n:Int}{d:PD}(h:Dk d=false):Ee n d=false:=by cases d<;>first|rfl|exact absurd h (by simp[Dk])
def fg{n:Int}{d:PD}(h:En d=false):Ei n d=false:=by cases d<;>first|rfl|exact absurd h (by simp[En])
def mL{d:PD}(h:En d=false):HF d=false:=by cases d<;>first|rfl|exact absurd h (by simp[En])
def eJ{n:Int}{ds:vc}(h:ds.length≠2):Ee n (.tuple ds)=false:=by
 match ds,h with
 |[],_=>rfl
 |[_],_=>rfl
 |[_,_],h=>exact absurd rfl h
 |_::_::_::_,_=>rfl
def rL:Sp:=fun vs H Q _=>∃l d v n,vs=[v,.int n]/\Dt l H d v/\Q (.bl (Fs n d)) H
def qU:Sp:=fun vs H Q _=>∃l d v n,vs=[v,.int n]/\Dt l H d v/\Q (.bl (Ee n d)) H
def qI:Sp:=fun vs H Q _=>∃l d v n,vs=[v,.int n]/\Dt l H d v/\∀H',AY H H'->Q (.bl (Ei n d)) H'
def si:Sp:=fun vs H Q _=>∃l d v,vs=[v]/\Dt l H d v/\∀H',AY H H'->Q (.bl (HF d)) H'
section
variable{P:F0b}{w:F0c}{K:Fg}{mg:vf}{base:Heap}{f g1 g2:AD}{fd gd1 gd2:F0a}
def T5:Ap ["thing","unknowns","power"] M2 (AO Ka):=⟨rfl,rfl,rfl,by decide +kernel,rfl,by decide +kernel,by decide +kernel⟩
def UE(F:Fn K mg "are_powers" Ka M2 f fd)(Eh:Fn K mg "is_whole" Js RQ g1 gd1) (Jx:Ah P w K mg base A4 1 g1 gd1 RQ Uu)(AW:js)(CC:yT)(Ak:PR):Ah P w K mg base A4 2 f fd M2 rL:=by
 have sc:=T5;refine F.F.ok (k:=1) sc Tj dk
 .obtain⟨l,d,v,n,rfl,_⟩:=h
  rfl
 obtain⟨l,d,v,n,rfl,hd,q⟩:=h;refine⟨_,(B0 (Fx (PW.pt (Jt im (JJ (E8 Q4 wb (pv 1) NA))))
  (Bf (C8 GO))
  Dq)
 (B0 (Qu aq rfl (dZ (pv 0)) (CY (i:=2) sc.nd rfl Do)
  (Bf (Fx (PW.pt (Jt (Fc (Fl (JC Eh Jx hr rfl (Ac (pv 2) A3)))) (JJ (E8 Zc (pv 2) B9 NA))))
   (Bf (C8 GO))
   Dq)))
 (Bf (C8 GO)))),?_⟩
 refine⟨_,rfl,_,_,_,_,rfl,Vt,hd.ty,Me K d hd.nodict,_,rfl,?_⟩;by_cases M:Dk d=false
 .rw[M];rw[lC M]at q;exact Jb (Jb q)
 have M:Dk d=true:=by simpa using M
 rw[M];refine SG ?_;obtain⟨ds,rfl⟩:=WK M;rw[Dt]at hd;obtain⟨a,xs,rfl,na,ha,ht⟩:=hd;have g:=ht.len;refine⟨_,rfl,a,xs,rfl,.inr (B2.of ha),_,rfl,rfl,_,rfl,FQ o0 o0⟩
 .have U:¬(ds.length:Int)=n:=by
   rw[<-g];intro z;rw[z]at c;simp at c
  rw[Fs,decide_eq_false U,(OA)]at q;exact q
 have hn:(ds.length:Int)=n:=by
  rw[<-g];by_cases z:(xs.length:Int)=n
  .exact z
  .exact absurd (by simp[z]) c
 rw[Fs,decide_eq_true hn,(KG)]at q;refine⟨_,rfl,a,rfl,⟨_,B2.of ha⟩,mU (xs:=xs) (fun i σ H'=>∃I,σ=[some PZ,some gv,I]/\H=H'/\∀j c,j<i->ds[j]? = some c->HC c=true) ?_ ?_ ?_ ?_⟩
 .exact⟨_,rfl,rfl,fun j c h=>absurd h (Nat.not_lt_zero _)⟩
 .rintro i σ H' _ ⟨I,rfl,rfl,_⟩;exact B2.of ha
 .rintro i x σ H' hx ⟨I,rfl,rfl,Z⟩;obtain⟨c,R,T⟩:=ht.get hx;have no:HC c=false->ds.all HC=false:=fun z=>bI.mpr fun y=>by
   rw[(Ib)]at y;rw[y c (ar R)]at z;cases z
  have next:HC c=true->∃I,[some (V.ref a),some (V.int n),some x]=[some PZ,some gv,I]/\H=H/\∀j c,j<i+1->ds[j]? = some c->HC c=true:=fun hb=>by
   refine⟨_,rfl,rfl,fun j e Y he=>?_⟩;by_cases z:j=i
   .subst z;rw[R]at he;cases he;exact hb
   .exact Z j e AC he
  refine⟨_,rfl,l,c,x,rfl,T,_,rfl,FQ zD zD⟩
  .have:HC c=false:=by cases c<;>first|rfl|(simp[JH,HS]at b)
   rw[no this]at q;exact Jb q
  .obtain⟨i',rfl⟩:=NW (d:=c) (by simpa using b);rw[Dt]at T;subst T;refine⟨_,rfl,_,_,rfl,rfl,_,rfl,FQ zD zD⟩
   .have:HC (.int i')=false:=by
     have:=aU b;rw[HC];exact aV AC
    rw[no this]at q;exact q
   .have:HC (.int i')=true:=by
     have:=bT (bI.mpr b);rw[HC];exact aX AC
    exact next this
 .rintro σ H' ⟨I,rfl,rfl,Z⟩;have e:ds.all HC=true:=by
   rw[(Ib)];intro c R;obtain⟨j,Y⟩:=List.getElem?_of_mem R;exact Z j c (by rw[g];exact(aF.mp Y).1) Y
  rw[e]at q;exact q
def Y2:Ap M2 M2 (AO Nv):=⟨rfl,rfl,rfl,by decide +kernel,rfl,by decide +kernel,by decide +kernel⟩
def ZL(F:Fn K mg "is_term" Nv M2 f fd)(Hy:Fn K mg "are_powers" Ka M2 g1 gd1)(D0:Fn K mg "is_fraction" Gu RQ g2 gd2) (Ug:Ah P w K mg base A4 2 g1 gd1 M2 rL)(Fe:Ah P w K mg base A4 2 g2 gd2 RQ Zj)(AW:js)(CC:yT)(Ak:PR):Ah P w K mg base A4 3 f fd M2 qU:=by
 have sc:=Y2;refine F.F.ok (k:=2) sc Tj dk
 .obtain⟨l,d,v,n,rfl,_⟩:=h
  rfl
 obtain⟨l,d,v,n,rfl,hd,q⟩:=h;refine⟨_,(B0 (Fx (PW.pt (Jt im (Jt (E8 Q4 wb B9 NA) (JJ (Fc (Fl (JC Hy Ug hr rfl (Ac zBE (Ac (pv 1) A3)))))))))
  (Bf (C8 GO))
  Dq)
 (Bf (C8 (WY (JC D0 Fe hr rfl (Ac zBE A3)) (Vc (PH Q4 (E1 Fi zBE B9 FS) B9 NA)))))),?_⟩
 refine⟨_,rfl,_,_,_,_,rfl,Vt,hd.ty,Me K d hd.nodict,_,rfl,?_⟩;by_cases R:Dk d=false
 .rw[R];rw[gM R]at q;exact Jb (Jb q)
 have R:Dk d=true:=by simpa using R
 rw[R];refine SG ?_;obtain⟨ds,rfl⟩:=WK R;rw[Dt]at hd;obtain⟨a,xs,rfl,na,ha,g⟩:=hd;have Y:=g.len;have s1:B2 K H a xs:=B2.of ha;refine⟨_,rfl,a,xs,rfl,.inr s1,rfl,_,rfl,FQ o0 o0⟩
 .have:ds.length≠2:=by
   rw[<-Y];intro z;rw[z]at c;exact absurd c AS
  rw[eJ this]at q;exact Jb q
 have h2:xs.length=2:=by
  by_cases z:xs.length=2
  .exact z
  .exfalso
   refine c ?_;have:¬(V.int (xs.length:Nat)=V.int 2):=by simp;lia
   rw[decide_eq_false this];rfl
 obtain⟨Z,d1,rfl⟩:∃Z d1,ds=[Z,d1]:=by
  match ds,(show ds.length=2 by lia) with
  |[x,y],_=>exact⟨x,y,rfl⟩
 rw[BK]at g;obtain⟨x0,r,rfl,hx0,g⟩:=g;rw[BK]at g;obtain⟨x1,r,rfl,M,g⟩:=g;rw[BK]at g;subst g;rw[Ee]at q;refine⟨_,rfl,_,_,_,_,rfl,rfl,s1,rfl,_,rfl,l,Z,x0,n,rfl,hx0,_,rfl,FQ (fun c0=>?_) (fun c0=>?_)⟩
 .have:Fs n Z=false:=by simpa using c0
  rw[this,(OA)]at q;exact q
 have hp:Fs n Z=true:=by simpa using c0
 rw[hp,(KG)]at q;refine⟨_,rfl,_,_,_,_,rfl,rfl,s1,rfl,l,d1,x1,rfl,M,_,rfl,FQ (fun T=>?_) (fun T=>?_)⟩
 .rw[T,(KG)]at q;obtain⟨i,j,rfl⟩:∃i j,d1=.tuple [.int i,.int j]:=by
   unfold El at T;split at T
   .exact⟨_,_,rfl⟩
   .cases T
  rw[Dt]at M;obtain⟨b,ys,rfl,nb,hb,I⟩:=M;rw[BK]at I;obtain⟨y0,r,rfl,U,I⟩:=I;rw[BK]at I;obtain⟨y1,r,rfl,hy1,I⟩:=I;rw[BK]at I;subst I;rw[Dt]at U;subst U;refine⟨_,rfl,_,_,_,_,rfl,rfl,s1,rfl,_,_,_,_,rfl,rfl,B2.of hb,rfl,rfl,?_⟩;rw[gR]at q;have e:decide (V.int i=V.int 0)=decide (i=0):=by rw[(NU)];simp
  show Q (.bl (!decide (V.int i=V.int 0))) H;rw[e];exact q
 .rw[Bool.eq_false_iff.mpr T,(OA)]at q;exact q
def YT:Ap ["thing","unknowns","k","term"] M2 (AO Oh):=⟨rfl,rfl,rfl,by decide +kernel,rfl,by decide +kernel,by decide +kernel⟩
def dH{l:AD}{H:Hp}{n:Int}{d:PD}{v:V}(h:Dt l H d v)(k:Fs n d=true):∃a,v=.ref a/\H a=some (.tup ((Zh d).map V.int)):=by
 cases d with
 |tuple ds=>
  rw[Fs,(Ft)]at k;rw[Dt]at h;obtain⟨a,xs,rfl,na,ha,g⟩:=h;refine⟨a,rfl,?_⟩;rw[ha]
  congr 2
  rw[Zh];clear ha
  replace k:=k.2
  induction ds generalizing xs with
  |nil=>rw[BK]at g;subst g;rfl
  |cons d ds M=>
   rw[BK]at g;obtain⟨x,r,rfl,I,R⟩:=g;rw[List.all_cons,(Ft)]at k;rw[xf,xf,<-M r R k.2]
   congr 1
   cases d<;>first|(rw[Dt]at I;subst I;rfl)|(have:=k.1;simp[HC]at this)
 |none=>simp[Fs]at k
 |bool _=>simp[Fs]at k
 |int _=>simp[Fs]at k
 |str _=>simp[Fs]at k
 |list _=>simp[Fs]at k
 |dict _=>simp[Fs]at k
def U1{l:AD}{H:Hp}{n:Int}{d:PD}{v:V}(h:Dt l H d v)(k:Ee n d=true):∃a b c,v=.ref a/\H a=some (.tup [.ref b,c])/\H b=some (.tup ((PU d).map V.int)):=by
 unfold Ee at k;split at k
 .rename_i p f;rw[(Ft)]at k;rw[Dt]at h;obtain⟨a,xs,rfl,na,ha,g⟩:=h;rw[BK]at g;obtain⟨U,r,rfl,I,g⟩:=g;rw[BK]at g;obtain⟨M,r,rfl,R,g⟩:=g;rw[BK]at g;subst g;obtain⟨b,rfl,T⟩:=dH I k.1;exact⟨a,b,M,rfl,ha,T⟩
 .cases k
def ZD(F:Fn K mg "is_poly" Oh M2 f fd)(K4:Fn K mg "is_term" Nv M2 g1 gd1) (eB:Ah P w K mg base A4 3 g1 gd1 M2 qU)(AW:js)(EA:mg "list" = none)(Ld:mg "enumerate" = none):Ah P w K mg base A4 4 f fd M2 qI:=by
 have sc:=YT;refine F.F.ok (k:=3) sc Tj dk
 .obtain⟨l,d,v,n,rfl,_⟩:=h
  rfl
 obtain⟨l,d,v,n,rfl,hd,q⟩:=h;refine⟨_,(B0 (Fx zL
  (Bf (C8 GO))
  Dq)
 (B0 (Qu aq rfl (f9 rfl Ld (Ac (pv 0) A3)) (NQ rfl (Er (CY (i:=2) sc.nd rfl Do) (Er (CY (i:=3) sc.nd rfl Do) L9)))
  (Bf (Fx (PW.pt (Jt (Fc (Fl (JC K4 eB hr rfl (Ac (pv 3) (Ac (pv 1) A3))))) (JJ (PW.pt (bx (E8 Yy (pv 2) B9 NA) (XU (E8 (cn (by have:=hr.units;exact this)) (E1 Fi (pv 3) B9 FS) (E1 Fi (E1 L5 (pv 0) (K1 VI (pv 2) B9) FS) B9 FS) NA)))))))
   (Bf (C8 GO))
   Dq)))
 (Bf (C8 GO)))),?_⟩
 refine⟨_,rfl,_,_,_,_,rfl,Vt,hd.ty,MS K d hd.nodict,_,rfl,?_⟩;by_cases U:En d=false
 .rw[U];have:=q H (.refl H);rw[fg U]at this;exact Jb this
 have U:En d=true:=by simpa using U
 rw[U];refine SG ?_;obtain⟨ds,rfl⟩:=Uc U;rw[Dt]at hd;obtain⟨a,xs,rfl,na,ha,ht⟩:=hd;have Z:=ht.len;refine⟨_,rfl,a,rfl,⟨_,BR.of ha⟩,Zx (xs:=xs) (fun i σ H'=>∃T R,σ=[some PZ,some gv,T,R]/\AY H H'/\∀j,j<i->Fb n ds j=true) ?_ ?_ ?_ ?_⟩
 .exact⟨_,_,rfl,.refl _,fun j h=>absurd h (Nat.not_lt_zero _)⟩
 .rintro i σ H' _ ⟨T,R,rfl,e,_⟩;exact BR.of (e _ _ ha)
 .rintro i x σ H0 hx ⟨T,R,rfl,e0,hf⟩ p hp;obtain⟨c,hc,tc⟩:=ht.get hx;have hi:i<ds.length:=(aF.mp hc).1;have s1:=B7 hp yk;have g:=e0.trans s1;have Y:(upd H0 p yk) p=some yk:=An;generalize upd H0 p yk=H1 at s1 g Y;have tc:=tc.same g;have no:Fb n ds i=false->Q (.bl false) H1:=fun z=>by
   have:=q H1 g;have e:Ei n (.list ds)=false:=bI.mpr fun y=>by
    rw[Ei,(Ib)]at y;rw[y i (bD.mpr hi)]at z;cases z
   rw[e]at this;exact this
  have next:Fb n ds i=true->∃T R,[some (V.ref a),some (V.int n),some (V.int (i:Nat)),some x]=[some PZ,some gv,T,R]/\AY H H1/\∀j,j<i+1->Fb n ds j=true:=fun z=>by
   refine⟨_,_,rfl,g,fun j hj=>?_⟩;by_cases zz:j=i
   .subst zz;exact z
   .exact hf j AC
  have I:Fb n ds i=(Ee n c&&(decide (i=0)||(match ds[i-1]? with
    |some e=>IT.lt (PU c) (PU e)
    |none=>true))):=by unfold Fb;rw[hc];all_goals rfl
  refine⟨p,_,rfl,B2.of Y,rfl,_,_,rfl,_,_,rfl,rfl,?_⟩;refine⟨_,rfl,_,rfl,l,c,x,n,rfl,tc,_,rfl,FQ zD zD⟩
  .have hb:Ee n c=false:=by simpa using b
   exact Jb (no (by rw[I,hb,(OA)]))
  have hb:Ee n c=true:=by simpa using b
  rw[hb,(KG)]at I;refine⟨_,rfl,_,_,rfl,rfl,_,rfl,FQ zD zD⟩
  .have hi0:0<i:=by have:=aU b;lia
   rw[decide_eq_false (show ¬i=0 by lia),Bool.false_or]at I;have M:xs[i-1]? = some (xs[i-1]' AC):=by simp[show i-1<xs.length by lia]
   obtain⟨e,he,te⟩:=ht.get M;have hpe:Ee n e=true:=by
    have:=hf (i-1) AC;unfold Fb at this;rw[he]at this;rw[(Ft)]at this;exact this.1
   generalize xs[i-1]' AC=v1 at M te;obtain⟨a1,b1,c1,rfl,ha1,hb1⟩:=U1 (te.same g) hpe;obtain⟨a2,b2,c2,rfl,ha2,hb2⟩:=U1 tc hb;have hat:D8 xs ((i:Int)-1)=some (.ref a1):=by
    have:=X5 (xs:=xs) (j:=i-1) M
    rwa [show((i-1:Nat):Int)=(i:Int)-1 by lia]at this
   rw[he]at I;refine⟨_,rfl,_,_,_,_,rfl,rfl,B2.of ha2,rfl,_,rfl,_,rfl,_,_,rfl,rfl,_,_,_,_,rfl,rfl,BR.of (g _ _ ha),hat,_,_,_,_,rfl,rfl,B2.of ha1,rfl,b2,b1,_,_,rfl,rfl,hb2,hb1,_,rfl,FQ (fun z=>?_) (fun z=>?_)⟩
   .exact no (by rw[I];simpa using z)
   .exact next (by rw[I];simpa using z)
  .have hi0:i=0:=by have:=bT (bI.mpr b);lia
   exact SG (next (by rw[I,decide_eq_true hi0,Bool.true_or]))
 .rintro σ H' ⟨T,R,rfl,g,hf⟩;have:=q H' g;have e:Ei n (.list ds)=true:=by
   rw[Ei,(Ib)];intro j hj;exact hf j (by rw[Z];exact bD.mp hj)
  rw[e]at this;exact this
def V7:Ap ["thing","some"] RQ (AO JB):=⟨rfl,rfl,rfl,by decide +kernel,rfl,by decide +kernel,by decide +kernel⟩
def U5(F:Fn K mg "is_change" JB RQ f fd)(LA:Fn K mg "is_poly" Oh M2 g1 gd1) (bq:Ah P w K mg base A4 4 g1 gd1 M2 qI)(AW:js)(EA:mg "list" = none)(Ak:PR):Ah P w K mg base A4 5 f fd RQ si:=by
 have sc:=V7;refine F.F.ok (k:=4) sc Tj dk
 .obtain⟨l,d,v,rfl,_⟩:=h
  rfl
 obtain⟨l,d,v,rfl,hd,q⟩:=h;refine⟨_,(B0 (Fx (PW.pt (Jt zL (JJ (E8 jN wb B9 NA))))
  (Bf (C8 GO))
  Dq)
 (B0 (Qu aq rfl (XJ (pv 0)) (CY (i:=1) sc.nd rfl Do)
  (Bf (Fx (Fc (Fl (JC LA bq hr rfl (Ac (pv 1) (Ac wb A3)))))
   (Bf (C8 GO))
   Dq)))
 (Bf (C8 GO)))),?_⟩
 refine⟨_,rfl,_,_,_,_,rfl,Vt,hd.ty,MS K d hd.nodict,_,rfl,?_⟩;by_cases I:En d=false
 .rw[I];have:=q H (.refl H);rw[mL I]at this;exact Jb (Jb this)
 have I:En d=true:=by simpa using I
 rw[I];refine SG ?_;obtain⟨ds,rfl⟩:=Uc I;rw[Dt]at hd;obtain⟨a,xs,rfl,na,ha,ht⟩:=hd;have g:=ht.len;refine⟨_,rfl,a,xs,rfl,.inl (BR.of ha),rfl,_,rfl,FQ o0 o0⟩
 .have:ds.length=0:=by rw[<-g];have:=aU c;simpa using this
  have q:=q H (.refl H);rw[HF,decide_eq_true this,Bool.not_true,(OA)]at q;exact q
 have h0:¬ds.length=0:=by
  rw[<-g];intro z;exact c (by simp[z])
 rw[HF,decide_eq_false h0,Bool.not_false,(KG)]at q;refine⟨_,rfl,a,rfl,⟨_,BR.of ha⟩,gY (xs:=xs) (fun i σ H'=>∃R,σ=[some PZ,R]/\AY H H'/\∀j c,j<i->ds[j]? = some c->Ei ds.length c=true) ?_ ?_ ?_ ?_⟩
 .exact⟨_,rfl,.refl _,fun j c h=>absurd h (Nat.not_lt_zero _)⟩
 .rintro i σ H' _ ⟨R,rfl,e,_⟩;exact BR.of (e _ _ ha)
 .rintro i x σ H1 hx ⟨R,rfl,M,Z⟩;obtain⟨c,T,tc⟩:=ht.get hx;refine⟨_,rfl,_,rfl,a,xs,rfl,.inl (BR.of (M _ _ ha)),l,c,x,_,rfl,tc.same M,fun H2 e2=>⟨_,rfl,FQ zD zD⟩⟩
  .have U:Ei ds.length c=false:=by rw[<-g];simpa using b
   have:=q H2 (M.trans e2);have e:ds.all (Ei ds.length)=false:=bI.mpr fun y=>by
    rw[(Ib)]at y;rw[y c (ar T)]at U;cases U
   rw[e]at this;exact this
  .have U:Ei ds.length c=true:=by rw[<-g];simpa using b
   refine⟨_,rfl,M.trans e2,fun j e Y he=>?_⟩;by_cases z:j=i
   .subst z;rw[T]at he;cases he;exact U
   .exact Z j e AC he
 .rintro σ H' ⟨R,rfl,M,Z⟩;have e:ds.all (Ei ds.length)=true:=by
   rw[(Ib)];intro c T;obtain⟨j,Y⟩:=List.getElem?_of_mem T;exact Z j c (by rw[g];exact(aF.mp Y).1) Y
  have:=q H' M;rw[e]at this;exact this
end
mutual
theorem ja{H:Hp}:∀ {d:PD} {v:V},d.canLay0=true->Du H d v->DU H d v
 |.none,_,_,h=>by rw[Du]at h;subst h;exact .BS
 |.bool _,_,_,h=>by rw[Du]at h;subst h;exact .bool
 |.int _,_,_,h=>by rw[Du]at h;subst h;exact .int
 |.str _,_,_,h=>by rw[Du]at h;subst h;exact .str
 |.tuple _,_,c,h=>by
  rw[Du]at h;obtain⟨a,xs,rfl,l,g⟩:=h;exact .tup l (Sn (by simpa only[PyData.canLay0]using c) g)
 |.list _,_,c,h=>by
  rw[Du]at h;obtain⟨a,xs,rfl,l,g⟩:=h;exact .lst l (Sn (by simpa only[PyData.canLay0]using c) g)
 |.dict _,_,c,h=>by simp[PyData.canLay0]at c
theorem Sn{H:Hp}:∀ {ds:wV} {xs:UF},PyData.canLayAll0 ds=true->Aq H ds xs->TJ H ds xs
 |[],_,_,h=>by rw[h.nil_eq];exact .nil
 |_::_,_,c,h=>by
  obtain⟨x,r,rfl,l,g⟩:=h.un;simp only[PyData.canLayAll0,Bool.and_eq_true]at c;exact .cons (ja c.1 l) (Sn c.2 g)
end
def tL{G H H':Hp}{l:AD}{vs:vx}{ds:vc}(R:AY G H)(e:AY H H')(I:H' l=some (.tup vs))(d:Aq G ds vs):∃g,AY G g/\Nw G H g/\AY g H'/\Du g (.tuple ds) (.ref l):=by
 have M:AY G (upd G l (.tup vs)):=fun a o h=>by
  by_cases ha:a=l
  .subst ha;have:=e _ _ (R _ _ h);rw[I]at this;rw[An];exact this
  .rw[Ae ha];exact h
 refine⟨upd G l (.tup vs),M,fun a u h=>?_,fun a u h=>?_,?_⟩
 .by_cases ha:a=l
  .subst ha;rw[An]at h;cases h;exact .inr (.inr ⟨_,rfl⟩)
  .rw[Ae ha]at h;exact .inl h
 .by_cases ha:a=l
  .subst ha;rw[An]at h;rw[I];exact h
  .rw[Ae ha]at h;exact e _ _ (R _ _ h)
 .rw[Du];exact⟨l,vs,rfl,An,d.same M⟩
theorem Kn{G:Hp}:∀ps:List Int,Aq G (ps.map .int) (ps.map V.int)
 |[]=>.nil
 |p::ps=>.cons GM (Kn ps)
section
variable{P:F0b}{w:F0c}{K:Fg}{mg:vf}{base:Heap}{CX:Gh}{k:Nat}{f:AD}{fd:F0a}{ps:vo}
def mB(q:PD->Bool):MD
 |[d]=>if d.canLay0=true then some (.bool (q d)) else none
 |_=>none
def jZ{q:PD->Bool}{d:PD}(h:d.canLay0=true):mB q [d]=some (.bool (q d)):=if_pos h
def YV{q:PD->Bool}{d:PD}{b:Bool}(h:d.canLay0=true)(e:q d=b):mB q [d]=some (.bool b):=(jZ h).trans (by rw[e])
def uA{sp:Sp}{q:PD->Bool}(F:yQ)(h:∀(l:AD) d v H Q E,Dt l H d v->(∀H',AY H H'->Q (.bl (q d)) H')->sp [v] H Q E):Ah P w K mg base CX k f fd ps (BV (mB q)) :=
 X3 F fun ds x hm G H vs Q E d e I=>by
  unfold mB at hm;split at hm
  .split at hm
   .rename_i T M;cases hm;obtain⟨v,rfl,R⟩:=d.JM;obtain⟨N,b⟩:=ja M (R.same e);exact h N _ v H Q E (b N SL) fun H' g=>I _ G H' (.refl _) Nw.refl (e.trans g) g GM
   .cases hm
  .cases hm
end
section
variable{P:F0b}{w:F0c}{K:Fg}{mg:vf}{base:Heap}{f g:AD}{fd:F0a}
def UC:Ap ["_law_top","_law_bottom","_law_one","_law_other"] iS (AO Hu):=⟨rfl,rfl,rfl,by decide +kernel,rfl,by decide +kernel,by decide +kernel⟩
def UB(F:Fn K mg "_law_ratio" Hu iS f fd)(Ho:mg "abs" = none):Ah P w K mg base A4 1 f fd iS qb:=by
 have sc:=UC;refine F.F.ok (k:=0) sc Tj dk
 .obtain⟨t,b,m,rfl,_⟩:=h
  rfl
 obtain⟨t,b,m,rfl,T,hm,hs,q⟩:=h;refine⟨_,(B0 (D9 (i:=2) sc.nd rfl Do (Bv KD rfl Ho bj (Ac (pv 0) A3)))
 (B0 (D9 (i:=3) sc.nd rfl Do (Bv KD rfl Ho bj (Ac (pv 1) A3)))
 (B0 (Us aq (E8 Yy (pv 3) B9 NA)
  (Bf (m9 (i:=2) (j:=3) rfl sc.nd rfl rfl AS rfl rfl (Ac (pv 3) (Ac (K1 SK (pv 2) (pv 3)) A3)) rfl)))
 (B0 (Fx (E8 Zc (pv 1) B9 NA)
  (Bf (D9 (i:=2) sc.nd rfl Do (K1 VI B9 (pv 2))))
  Dq)
 (Bf (C8 (VH (Ac (K1 QI (pv 0) (pv 2)) (Ac (K1 QI (pv 1) (pv 2)) A3))))))))),?_⟩
 refine⟨_,rfl,_,rfl,_,rfl,_,rfl,?_⟩;refine WG (fun σ H'=>∃g l,σ=[some (.int t),some yo,some (.int g),some (.int l)]/\H=H'/\Int.gcd g l=Int.gcd t b/\0<=g/\0<=l) (fun σ _=>uC σ) ?_ ?_ ?_
 .exact⟨_,_,rfl,rfl,FM.XM t b,FM.abs_nonneg t,FM.abs_nonneg b⟩
 .rintro σ H' ⟨g,l,rfl,rfl,Z,h0,R⟩;refine⟨_,rfl,_,_,rfl,rfl,_,rfl,FQ o0 o0⟩
  .have U:0<l:=aU c;have M:l≠0:=by lia
   refine⟨_,rfl,_,rfl,_,rfl,_,_,rfl,rfl,M,_,_,rfl,⟨_,_,rfl,rfl,?_,R,FM.fmod_nonneg M R⟩,?_⟩
   .rw[FM.WO];exact Z
   .exact FM.TF g l M
  .have U:¬0<l:=bT (bI.mpr c);have M:l=0:=by lia
   subst M;rw[FM.dJ Z h0]
   try dsimp only[Ef]
   refine fi (fun I H'=>I=[some (.int t),some yo,some (.int (FM.gs t b)),some (.int 0)]/\H=H') (fun nx hn=>?_) ?_
   .refine⟨_,rfl,_,_,rfl,rfl,_,rfl,FQ o0 o0⟩
    .have Y:b<0:=aU c;refine⟨_,rfl,_,_,rfl,rfl,hn _ _ ⟨?_,rfl⟩⟩;show [some (V.int t),some (V.int b),some (V.int (0-FM.gi t b)),some (V.int 0)]=_;unfold FM.gs;rw[if_pos Y,Int.zero_sub]
    .have Y:¬b<0:=bT (bI.mpr c);refine hn _ _ ⟨?_,rfl⟩;unfold FM.gs;rw[if_neg Y]
   .rintro I H' ⟨rfl,rfl⟩;have h0:FM.gs t b≠0:=FM.sf T;have R:(FM.gs t b).natAbs<2^m:=bS (FM.su T) hs;refine⟨_,rfl,_,rfl,_,_,rfl,rfl,⟨h0,m,hm,R⟩,_,rfl,_,rfl,_,_,rfl,rfl,⟨h0,m,hm,R⟩,oU,fun p hp=>?_⟩;refine q p _ (B7 hp _) ?_;rw[An];show some (HO.tup [V.int (t.fdiv (FM.gs t b)),V.int (b.fdiv (FM.gs t b))])=_;rw[FM.ql T,FM.qy T]
    rfl
 .exact fun σ H Q Q' hq ⟨v,e,i,j,e1,e2,k,e3,q⟩=>⟨v,e,i,j,e1,e2,k,e3,hq _ _ q⟩
end
section
variable{P:F0b}{w:F0c}{K:Fg}{mg:vf}{base:Heap}{f:AD}{fd:F0a}
def IE:Ap RQ RQ (AO F4):=⟨rfl,rfl,rfl,by decide +kernel,rfl,by decide +kernel,by decide +kernel⟩
noncomputable def JL(l:MD)(g:AD):F0 :=
 (XA (GU (E6 (AK l zAz)))
  (Q1 g (fC (.str (Str.ofString "a change is a list of n polynomials in n unknowns, n from 1 on"))))
  (fun δ=>some (.inl (.nx δ))))
noncomputable def Bs(l:MD)(g:AD):rW:=HD RQ RQ (JL l g)
def NP{k:Nat}{R:MD}{g:AD}(F:Fn K mg "refuse_no_change" F4 RQ f fd) {I:AD}{M:F0a}(Y:Fn K mg "is_change" JB RQ I M)(U:Ah P w K mg base A4 k I M RQ (BV R))(l:Exc K mg "NoChange" g):Ah P w K mg base kr ii f fd RQ (Kb (Bs R g)):=tx F IE fun cdv A outer s H E T=>by
 have sc:=IE;exact(O8 (Y7 (Gi (FX (BE Y U T rfl zBS)))
  (O8 (by exact QV l YW Ad))
  R9))
def KC:Ap ["part","top","bottom"] ["part"] (AO F3):=⟨rfl,rfl,rfl,by decide +kernel,rfl,by decide +kernel,by decide +kernel⟩
noncomputable def Kw:DF :=
 (AN (Am 1 (AF A8 GG Go))
 (AN (Am 2 (AF A8 GG Em))
 (A9 (vF (AR J9 LT Em) (fun δ=>((nm 1) δ).bind HJ) (jU (fun δ=>((nm 1) δ).bind HJ) tO (fun δ=>((nm 2) δ).bind HJ))))))
noncomputable def AZ:MD:=Ca ["part"] ["part","top","bottom"] (Kw)
def QA{k:Nat}(F:Fn K mg "fraction_text" F3 ["part"] f fd):Ah P w K mg base A4 ii f fd ["part"] (BV (AZ)):=Hc F KC fun cdv A outer s H E g=>by
 have sc:=KC;exact(AM (Al (i:=1) sc.nd rfl Do (Bn EZ AJ FS))
 (AM (Al (i:=2) sc.nd rfl Do (Bn EZ AJ FS))
 (Aa (A6 (se (Ai (Cz Ch) Hq AJ NA) (tJ (Rc FB)) (tS (Rc FB) Ad (Rc Hq)))))))
def N6:Ap ["powers","part","factors","name","power"] yU (AO LU):=⟨rfl,rfl,rfl,by decide +kernel,rfl,by decide +kernel,by decide +kernel⟩
noncomputable def Pp(AZ:MD):DF :=
 (AN (SQ 2 (AB (AK AZ zAm) AG))
 (AN (Es (Cn zip2 (AB (fC Jg) zAz)) (EJ 3 4)
  (iX 2 (AF FG (Ce zAr) zBd)))
 (Mi 2 (A9 (AF Eo iF LT)))))
noncomputable def Bc(AZ:MD):MD:=Ca yU ["powers","part","factors","name","power"] (Pp AZ)
def Uk{k:Nat}{AZ:MD}(F:Fn K mg "term_text" LU yU f fd) {l:AD}{I:F0a}(Z:Fn K mg "fraction_text" F3 ["part"] l I)(U:Ah P w K mg base A4 k l I ["part"] (BV AZ))(T:mg "zip" = none){g:AD}(Y:mg "UNKNOWNS" = some (.ref g)):Ah P w K mg base A4 ii f fd yU (BV (Bc AZ)):=Hc F N6 fun cdv A outer s H E M=>by
 have sc:=N6;exact(AM (RV (i:=2) sc.nd rfl Do (AE (BE Z U M rfl zBN) AL))
 (AM (Hh aq rfl (eT rfl T (AE (NS rfl Y) zBS)) zBk
  (Aa (eu (pv 2) (AV GH (C9 zBq) Tk) (fun R ha=>HQ (FV ax PySem.F.slot_list_extend PySem.F.type_list_extend Zy R ha)))))
 (Aa (Lp 2 (A6 (G8 Ad Hq))))))
def OD:Ap ["some"] ["some"] (AO LW):=⟨rfl,rfl,rfl,by decide +kernel,rfl,by decide +kernel,by decide +kernel⟩
noncomputable def Pn(Bc:MD):DF :=
 (AN (CI (AR J9 (AK Be zAz) Go)
  (A9 zAv)
  BH)
 (A9 (AF Eo (fC xm) (Bz (EJ 1 2) Dl (AK Bc (AB GT zAs)) [none,none,none] (Di GG)))))
noncomputable def Cy(Bc:MD):MD:=Ca ["some"] ["some"] (Pn Bc)
def Ub{k:Nat}{Bc:MD}(F:Fn K mg "poly_text" LW ["some"] f fd) {l:AD}{I:F0a}(R:Fn K mg "term_text" LU yU l I)(M:Ah P w K mg base A4 k l I yU (BV Bc))(T:PR):Ah P w K mg base A4 ii f fd ["some"] (BV (Cy Bc)):=Hc F OD fun cdv A outer s H E g=>by
 have sc:=OD;exact(AM (Bl (Ai (Cz Ch) (BJ C6 rfl T aO zBS) AJ NA)
  (Aa (A6 Ad))
  BA)
 (Aa (A6 (G8 Ad (Ux [".0","powers","part"] 1 2 [none,none,none] (EI EZ) bd (fun _ _ _ _ _=>(BE R M g rfl (AE FB zBr))))))))
def MG:Ap l0 l0 (AO Gy):=⟨rfl,rfl,rfl,by decide +kernel,rfl,by decide +kernel,by decide +kernel⟩
noncomputable def NH(Cy:MD):DF :=
 (A9 (AF Eo (fC ph) (Bz (EJ 1 2) Dl (AF Av OK (AK Cy zAs)) [none,none,none] (Cn zip2 (AB (fC Jg) zAz)))))
noncomputable def BN(Cy:MD):MD:=Ca l0 l0 (NH Cy)
def SX{k:Nat}{Cy:MD}(F:Fn K mg "change_text" Gy l0 f fd) {l:AD}{I:F0a}(U:Fn K mg "poly_text" LW ["some"] l I)(T:Ah P w K mg base A4 k l I ["some"] (BV Cy))(R:mg "zip" = none){g:AD}(Y:mg "UNKNOWNS" = some (.ref g)):Ah P w K mg base A4 ii f fd l0 (BV (BN Cy)):=Hc F MG fun cdv A outer s H E M=>by
 have sc:=MG;exact(Aa (A6 (G8 Ad (Ux [".0","name","some"] 1 2 [none,none,none] (eT rfl R (AE (NS rfl Y) zBS)) bd (fun _ _ _ _ _=>(AV BB (tR (Rc FB) Ad) (BE U T M rfl zBr)))))))
def LJ:Ap l0 l0 (AO Ic):=⟨rfl,rfl,rfl,by decide +kernel,rfl,by decide +kernel,by decide +kernel⟩
noncomputable def Lv(BN:MD)(Bs:rW)(g:AD):F0 :=
 (IB (Zg Bs zAz fun _ δ=>.nx δ)
 (IB (XA (AR IO (AK Be zAz) (AK Be (AB (fC Jg) AG)))
  (Q1 g (fC (.str (Str.ofString "changes are written in up to four unknowns"))))
  (fun δ=>some (.inl (.nx δ))))
 (Qo (A9 (AK BN zAz)))))
noncomputable def CV(BN:MD)(Bs:rW)(g:AD):rW:=HD l0 l0 (Lv BN Bs g)
def RU{k:Nat}{BN:MD}{Bs:rW}{g:AD}(F:Fn K mg "shown_change" Ic l0 f fd) {U:AD}{Y:F0a}(D6:Fn K mg "change_text" Gy l0 U Y)(EY:Ah P w K mg base A4 k U Y l0 (BV BN)) {R:AD}{T:F0a}(Ej:Fn K mg "refuse_no_change" F4 RQ R T)(GB:Ah P w K mg base kr k R T RQ (Kb Bs))(Z:PR){l:AD}(CZ:mg "UNKNOWNS" = some (.ref l))(I:Exc K mg "TooMany" g):Ah P w K mg base kr ii f fd l0 (Kb (CV BN Bs g)):=tx F LJ fun cdv A outer s H E M=>by
 have sc:=LJ;exact(P8 (by exact kz Ej GB M rS (by exact zBS) (fun h=>HQ h))
 (P8 (Y7 (Ai Jw (BJ C6 rfl Z aO zBS) (BJ C6 rfl Z aO (AE (NS rfl CZ) AL)) NA)
  (O8 (by exact QV I YW Ad))
  R9)
 (cA (Aa (A6 (BE D6 EY M rfl zBS))))))
def LH:Ap JQ JQ (AO GL):=⟨rfl,rfl,rfl,by decide +kernel,rfl,by decide +kernel,by decide +kernel⟩
noncomputable def Ia:DF :=
 (AN (CI (AR LE GT (AK Be zAz))
  (A9 (AF A8 GG GT))
  BH)
 (A9 Go))
noncomputable def Au:MD:=Ca JQ JQ (Ia)
def Qr{k:Nat}(F:Fn K mg "_law_cell_at" GL JQ f fd)(g:PR):Ah P w K mg base A4 ii f fd JQ (BV (Au)):=Hc F LH fun cdv A outer s H E l=>by
 have sc:=LH;exact(AM (Bl (Ai MX FB (BJ C6 rfl g aO zBS) NA)
  (Aa (A6 (Bn EZ FB FS)))
  BA)
 (Aa (A6 AJ)))
def NG:Ap ["_law_cell","_law_k","_law_number_here"] jw (AO Hv):=⟨rfl,rfl,rfl,by decide +kernel,rfl,by decide +kernel,by decide +kernel⟩
noncomputable def KZ:DF :=
 (AN (Am 2 (AF A7 (AF Av (AF Av (AF FG (AF A7 GG (fC (.int 2147483647))) (fC (.int 48271))) (AF FG GT (fC (.int 69621)))) (fC (.int 11))) (fC (.int 2147483647))))
 (AN (Am 2 (AF A7 (AF FG LT LT) (fC (.int 2147483629))))
 (A9 (AF A7 (AF FG LT LT) (fC (.int 2147483587))))))
noncomputable def A5:MD:=Ca jw ["_law_cell","_law_k","_law_number_here"] (KZ)
def UA{k:Nat}(F:Fn K mg "_law_mixed" Hv jw f fd):Ah P w K mg base A4 ii f fd jw (BV (A5)):=Hc F NG fun cdv A outer s H E g=>by
 have sc:=NG;exact(AM (Al (i:=2) sc.nd rfl Do (AV BD (AV BB (AV BB (AV GH (AV BD EZ AJ) AJ) (AV GH FB AJ)) AJ) AJ))
 (AM (Al (i:=2) sc.nd rfl Do (AV BD (AV GH Hq Hq) AJ))
 (Aa (A6 (AV BD (AV GH Hq Hq) AJ)))))
def OM:Ap ["_law_script","_law_k","_law_cell","_law_big"] JQ (AO LS):=⟨rfl,rfl,rfl,by decide +kernel,rfl,by decide +kernel,by decide +kernel⟩
noncomputable def LX(Au:MD)(A5:MD):DF :=
 (AN (Am 2 (AK Au (AB GG zAm)))
 (AN (CI (AR xl (AK Wc zAs) (AF VY (fC (.int 10)) (fC (.int 18))))
  (A9 LT)
  BH)
 (AN (Am 3 (AF Av (AK A5 (AB LT zAm)) (AF FG (AK A5 (AB LT (AB (AF Av GT (fC (.int 500))) AG))) (fC (.int 2147483587)))))
 (A9 (AF Av M6 (AF FG (AF FG (AK A5 (AB LT (AB (AF Av GT (fC (.int 900))) AG))) (fC (.int 2147483587))) (fC (.int 2147483587))))))))
noncomputable def Df(Au:MD)(A5:MD):MD:=Ca JQ ["_law_script","_law_k","_law_cell","_law_big"] (LX Au A5)
def U2{k:Nat}{Au:MD}{A5:MD}(F:Fn K mg "_law_rest" LS JQ f fd) {U:AD}{T:F0a}(Cq:Fn K mg "_law_cell_at" GL JQ U T)(Z:Ah P w K mg base A4 k U T JQ (BV Au)) {M:AD}{R:F0a}(l:Fn K mg "_law_mixed" Hv jw M R)(I:Ah P w K mg base A4 k M R jw (BV A5))(Y:mg "abs" = none):Ah P w K mg base A4 ii f fd JQ (BV (Df Au A5)):=Hc F OM fun cdv A outer s H E g=>by
 have sc:=OM;exact(AM (Al (i:=2) sc.nd rfl Do (BE Cq Z g rfl (AE EZ zBN)))
 (AM (Bl (Ai jD (BJ oJ rfl Y bj zBr) (AV lS AJ AJ) NA)
  (Aa (A6 Hq))
  BA)
 (AM (Al (i:=3) sc.nd rfl Do (AV BB (BE l I g rfl (AE Hq zBN)) (AV GH (BE l I g rfl (AE Hq (AE (AV BB FB AJ) AL))) AJ)))
 (Aa (A6 (AV BB M1 (AV GH (AV GH (BE l I g rfl (AE Hq (AE (AV BB FB AJ) AL))) AJ) AJ)))))))
def Nl:Ap yd yd (AO LN):=⟨rfl,rfl,rfl,by decide +kernel,rfl,by decide +kernel,by decide +kernel⟩
noncomputable def W5:DF :=
 (A9 (AF Av (AK Mp (AB (AF A8 GG Go) AG)) (AF A8 (Ce (AB (AF Av tO (AK Mp (AB (AF A8 GG Em) AG))) (AB ON AG))) (AK QJ (AB (AF J9 (AF A8 GG Em) Em) AG)))))
noncomputable def CD:MD:=Ca yd yd (W5)
def Um{k:Nat}(F:Fn K mg "_law_part" LN yd f fd)(I:mg "int" = none)(g:mg "str" = none):Ah P w K mg base A4 ii f fd yd (BV (CD)):=Hc F Nl fun cdv A outer s H E l=>by
 have sc:=Nl;exact(Aa (A6 (AV BB (EC XF rfl g PyProof.Rows.boot_str (AE (Bn EZ AJ FS) AL)) (Bn (C9 (AE (AV BB Ad (EC XF rfl g PyProof.Rows.boot_str (AE (Bn EZ AJ FS) AL))) (AE Ad AL))) (EC RH rfl I bU (AE (Qj (Cz zE) (Bn EZ AJ FS) AJ NA) AL)) FS))))
def Lr:Ap ["_law_text","_law_number_here","_law_sign"] No (AO JU):=⟨rfl,rfl,rfl,by decide +kernel,rfl,by decide +kernel,by decide +kernel⟩
noncomputable def Mz:DF :=
 (AN (CI (Co (AR J9 GG ON) FY)
  (A9 Ps)
  BH)
 (AN (Am 1 Go)
 (AN (Es (sP GG) (GX 2)
  (Am 1 (AF Av (AF FG GT (fC (.int 10))) (AF MM (fC (.str M0)) LT))))
 (A9 GT))))
noncomputable def Bk:MD:=Ca No ["_law_text","_law_number_here","_law_sign"] (Mz)
def Sm{k:Nat}(F:Fn K mg "_law_number" JU No f fd)(l:PR):Ah P w K mg base A4 ii f fd No (BV (Bk)):=Hc F Lr fun cdv A outer s H E g=>by
 have sc:=Lr;exact(AM (Bl (DW.dt (DH (Ai (Cz Ch) EZ Ad NA) (DH (Ai Jw (BJ J6 rfl l aO zBS) AJ NA) (DH (Ai (EK Ch) (eL EZ Ad) Ad NA) (DL (DW.dt (V0 (Ai (Cz Ch) (Bn EZ AJ FS) Ad NA) (DL (Ai (EK Ch) EZ Ad NA)))))))))
  (Aa (A6 Cd))
  BA)
 (AM (Al (i:=1) sc.nd rfl Do AJ)
 (AM (Hh aq rfl (oK EZ) (IV (CY (i:=2) sc.nd rfl Do))
  (Aa (Al (i:=1) sc.nd rfl Do (AV BB (AV GH FB AJ) (Zp Ad Hq)))))
 (Aa (A6 FB)))))
def KS:Ap ["_law_text","_law_parts","_law_low","_law_top","_law_bottom"] No (AO Hj):=⟨rfl,rfl,rfl,by decide +kernel,rfl,by decide +kernel,by decide +kernel⟩
noncomputable def LF(Bk:MD)(g:MD):DF :=
 (AN (Am 1 (AF C3 GG tO))
 (AN (Am 2 (AF J9 (AF IJ GG Em) (fC (.str wJ))))
 (AN (Am 3 (AK Bk (AB (AF Le (AF A8 GT Go) (AK QJ zAs)) AG)))
 (AN (CI (Co (AR (N5 false) M6 Ps) (Co (Lm (E6 LT) (AR J9 M6 Go)) (AR IO zBy NX)))
  (A9 Ps)
  BH)
 (AN (Am 4 Em)
 (AN (CI (AR J9 zBy NX)
  (AN (Am 4 (AK Bk (AB (AF A8 GT Em) AG)))
  (CI (Co (AR (N5 false) zBd Ps) (AR LE zBd NX))
   (A9 Ps)
   BH))
  BH)
 (AN (CI (AR Nb (AK g (AB M6 Uf)) (Ie (AB M6 Uf)))
  (A9 Ps)
  BH)
 (A9 zCC))))))))
noncomputable def CN(Bk:MD)(g:MD):MD:=Ca No ["_law_text","_law_parts","_law_low","_law_top","_law_bottom"] (LF Bk g)
def P7{k:Nat}{Bk:MD}{Z:MD}(F:Fn K mg "_law_fraction" Hj No f fd) {l:AD}{I:F0a}(U:Fn K mg "_law_number" JU No l I)(M:Ah P w K mg base A4 k l I No (BV Bk)) {R:AD}{T:F0a}(EH:Fn K mg "_law_ratio" Hu iS R T)(E3:Ah P w K mg base A4 k R T iS (BV Z))(Y:mg "int" = none)(Ak:PR):Ah P w K mg base A4 ii f fd No (BV (CN Bk Z)):=Hc F KS fun cdv A outer s H E g=>by
 have sc:=KS;exact(AM (Al (i:=1) sc.nd rfl Do (F8 EZ Ad))
 (AM (Al (i:=2) sc.nd rfl Do (Qj (Cz Ch) (MQ EZ AJ) Ad NA))
 (AM (Al (i:=3) sc.nd rfl Do (BE U M g rfl (AE (OT (Bn FB AJ FS) (EC RH rfl Y bU zBr)) AL)))
 (AM (Bl (DW.dt (DH (Ai Ua M1 Cd NA) (DH (DW.dt (V0 (FX Hq) (DL (Ai (Cz Ch) M1 AJ NA)))) (DL (Ai Jw (BJ C6 rfl Ak aO zBN) AJ NA)))))
  (Aa (A6 Cd))
  BA)
 (AM (Al (i:=4) sc.nd rfl Do AJ)
 (AM (Bl (Ai (Cz Ch) (BJ C6 rfl Ak aO zBN) AJ NA)
  (AM (Al (i:=4) sc.nd rfl Do (BE U M g rfl (AE (Bn FB AJ FS) AL)))
  (Aa (Bl (DW.dt (DH (Ai Ua Tk Cd NA) (DL (Ai MX Tk AJ NA))))
   (Aa (A6 Cd))
   BA)))
  BA)
 (AM (Bl (Ai (EK Ch) (BE EH E3 g rfl (AE M1 (AE Tk AL))) (Ng (AE M1 (AE Tk AL))) NA)
  (Aa (A6 Cd))
  BA)
 (Aa (A6 (Ng (AE (AV GH M1 (Bn (C9 (AE AJ (AE (dC AJ) AL))) (EC RH rfl Y bU zBr) FS)) (AE Tk AL))))))))))))
def Nc:Ap yE Os (AO LY):=⟨rfl,rfl,rfl,by decide +kernel,rfl,by decide +kernel,by decide +kernel⟩
noncomputable def PY:DF :=
 (AN (Am 3 (fC (.str (Str.ofString " !\"#$&'()*+,-./0123456789:;<=>?@ABCDEFGHIJKLMNOPQRSTUVWXYZ[\\]^_`"))))
 (AN (Am 3 (AF Av M6 (fC (.str (Str.ofString "abcdefghijklmnopqrstuvwxyz{|}~\n")))))
 (AN (CI (AR J9 (AF A7 LT NX) Em)
  (Am 3 (AF Av (fC (.str (Str.ofString " -/*+=01\n"))) GG))
  BH)
 (AN (Am 4 (AF A8 M6 (AF A7 (AF CO LT NX) (AK DJ zAr))))
 (AN (Am 5 (AF A7 (AF CO GT MF) (AF Av (AK DJ zAz) Em)))
 (AN (CI (AR J9 zAw Em)
  (A9 (AF Av (AF Av (AF IJ GG WF) zBd) (AF Le GG WF)))
  BH)
 (AN (CI (AR J9 zAw NX)
  (A9 (AF IJ GG WF))
  BH)
 (AN (Am 5 (AK Rf zCB))
 (AN (CI (AR J9 zAw (fC (.int 3)))
  (A9 (AF Av (AF IJ GG WF) (AF Le GG (AF Av WF Em))))
  BH)
 (AN (CI (Co (AR J9 zAw (fC ut)) (AR J9 zAw yV))
  (A9 (AF Av (AF Av (AF IJ GG WF) zBd) (AF Le GG (AF Av WF Em))))
  BH)
 (AN (Am 6 (YM GG (AF Av WF Em) (AF Av WF NX)))
 (A9 (AF Av (AF Av (AF Av (AF IJ GG WF) (nm 6)) (AF A8 GG WF)) (AF Le GG (AF Av WF NX)))))))))))))))
noncomputable def Cj:MD:=Ca Os yE (PY)
def V9{k:Nat}(F:Fn K mg "_law_bent" LY Os f fd)(l:PR)(I:mg "min" = none):Ah P w K mg base A4 ii f fd Os (BV (Cj)):=Hc F Nc fun cdv A outer s H E g=>by
 have sc:=Nc;exact(AM (Al (i:=3) sc.nd rfl Do Ad)
 (AM (Al (i:=3) sc.nd rfl Do (AV BB M1 Ad))
 (AM (Bl (Ai (Cz Ch) (AV BD Hq AJ) AJ NA)
  (Aa (Al (i:=3) sc.nd rfl Do (AV BB Ad EZ)))
  BA)
 (AM (Al (i:=4) sc.nd rfl Do (Bn M1 (AV BD (AV Dx Hq AJ) (BJ J6 rfl l aO zBq)) FS))
 (AM (Al (i:=5) sc.nd rfl Do (AV BD (AV Dx FB AJ) (AV BB (BJ J6 rfl l aO zBS) AJ)))
 (AM (Bl zBG
  (Aa (A6 (AV BB (AV BB (MQ EZ Rh) Tk) (OT EZ Rh))))
  BA)
 (AM (Bl zBG
  (Aa (A6 (MQ EZ Rh)))
  BA)
 (AM (Al (i:=5) sc.nd rfl Do (BJ (qw rfl) rfl I PyProof.Rows.boot_min (AE Rh (AE (AV Ss (BJ J6 rfl l aO zBS) AJ) AL))))
 (AM (Bl zBG
  (Aa (A6 (AV BB (MQ EZ Rh) (OT EZ (AV BB Rh AJ)))))
  BA)
 (AM (Bl (DW.dt (DH zBG (DL zBG)))
  (Aa (A6 (AV BB (AV BB (MQ EZ Rh) Tk) (OT EZ (AV BB Rh AJ)))))
  BA)
 (AM (Al (i:=6) sc.nd rfl Do (mJ EZ (AV BB Rh AJ) (AV BB Rh AJ)))
 (Aa (A6 (AV BB (AV BB (AV BB (MQ EZ Rh) (AA (pv 6))) (Bn EZ Rh FS)) (OT EZ (AV BB Rh AJ))))))))))))))))
def JN:Ap ye On (AO GW):=⟨rfl,rfl,rfl,by decide +kernel,rfl,by decide +kernel,by decide +kernel⟩
noncomputable def PL:DF :=
 (AN (Mi 0 (JO 0 (AK J3 zAz)))
 (AN (Am 3 (AF A7 (AF CO GT MF) (Fm 0)))
 (AN (Am 4 (AF A7 LT (Fm 0)))
 (AN (CI (AR J9 zAw (fC (.int 7)))
  (Uj 0 zBd (Rj 0 M6))
  BH)
 (AN (CI (AR J9 zAw (fC (.int 8)))
  (jF 0 3 4)
  BH)
 (AN (CI (AR J9 zAw (fC (.int 9)))
  (dP 0 M6)
  BH)
 (AN (CI (AR IO zAw (fC (.int 9)))
  (AN (JO 5 (AF C3 (Rj 0 M6) xA))
  (AN (Am 6 (Ce (AB ON (AB zAv (AB (fC (.str (Str.ofString "-0"))) (AB (fC (.str (Str.ofString "00"))) (AB (fC (.str (Str.ofString "01"))) (AB (fC (.str (Str.ofString "1/1"))) (AB (fC (.str (Str.ofString "2/4"))) (AB (fC (.str (Str.ofString "0/3"))) (AB (fC (.str (Str.ofString "1/0"))) (AB (fC (.str (Str.ofString "-1/2"))) (AB (fC (.str (Str.ofString "+"))) (AB (fC (.str (Str.ofString "row"))) (AB (fC (.str (Str.ofString "last"))) (AB (fC (.str (Str.ofString "x"))) (AB yp (AB (fC (.str (Str.ofString "1*x"))) AG))))))))))))))))))
  (AN (Am 6 (AF Av (nm 6) (Ce (AB (AF I0 (fC (.str (Str.ofString "9"))) (fC (.int 40))) (AB (AF I0 (fC (.str (Str.ofString "9"))) (fC (.int 41))) (AB (AF Av (fC (.str (Str.ofString "1/"))) (AF I0 (fC (.str (Str.ofString "3"))) (fC (.int 40)))) (AB (fC (.str (Str.ofString "1*y*x"))) (AB (fC (.str (Str.ofString "1*x*y"))) (AB (fC (.str (Str.ofString "0*x"))) (AB (fC (.str (Str.ofString "y"))) (AB (fC (.str (Str.ofString "+1"))) (AB (fC (.str (Str.ofString "1/-2"))) (AB (fC (.str (Str.ofString "--1"))) AG)))))))))))))
  (AN (CI (AR LE zAw (fC (.int 13)))
   (Sg 5 zAo (AF A7 zBs (Fm 5)))
   (Uj 5 (AF A7 zBs (AF Av (Fm 5) Em)) zAo))
  (Mi 5 (Sg 0 (AF Eo xA WF) M6))))))
  BH)
 (ZG 0))))))))
noncomputable def Ba:MD:=Ca On ye (PL)
def Nd{k:Nat}(F:Fn K mg "_law_bent_lines" GW On f fd)(l:PR)(Y:mg "list" = none):Ah P w K mg base A4 ii f fd On (BV (Ba)):=Hc F JN fun cdv A outer s H E I=>by
 have sc:=JN;exact(AM (Lp 0 (ZY (i:=0) rfl Y zBS sc.nd rfl Do))
 (AM (Al (i:=3) sc.nd rfl Do (AV BD (AV Dx FB AJ) (Kz (pv 0) rfl l)))
 (AM (Al (i:=4) sc.nd rfl Do (AV BD Hq (Kz (pv 0) rfl l)))
 (AM (Bl zBJ
  (Aa (Tg (pv 0) Tk (Vv (pv 0) M1 FS) zY))
  BA)
 (AM (Bl zBJ
  (Aa (mZ (Vy (VH (Ac (E1 L5 (pv 0) (pv 4) FS) (Ac (E1 L5 (pv 0) (pv 3) FS) A3))) (NQ rfl (Er (RL (pv 0) (pv 3) set_list) (Er (RL (pv 0) (pv 4) set_list) L9))))))
  BA)
 (AM (Bl zBJ
  (Aa (hZ (pv 0) M1 (fun g ha=>HQ (FV ax PySem.F.slot_list_pop PySem.F.type_list_pop fk g ha))))
  BA)
 (AM (Bl (Ai Jw (AV BD FB AJ) AJ NA)
  (AM (W2 (i:=5) (Vv (pv 0) M1 FS) Ad sc.nd rfl Do (fun g U=>FV bC PySem.F.slot_str_split PySem.F.type_str_split Vl g (Ac U A3)))
  (AM (Al (i:=6) sc.nd rfl Do (C9 (AE Ad (AE Ad (AE Ad (AE Ad (AE Ad (AE Ad (AE Ad (AE Ad (AE Ad (AE Ad (AE Ad (AE Ad (AE Ad (AE Ad (AE Ad (AE Ad AL))))))))))))))))))
  (AM (Al (i:=6) sc.nd rfl Do (AV BB (AA (pv 6)) (C9 (AE (AV PJ Ad AJ) (AE (AV PJ Ad AJ) (AE (AV BB Ad (AV PJ Ad AJ)) (AE Ad (AE Ad (AE Ad (AE Ad (AE Ad (AE Ad (AE Ad AL)))))))))))))
  (AM (Bl (Ai MX (AV BD FB AJ) AJ NA)
   (Aa (Zo (pv 5) (AV BD (AV Dx Hq AJ) (Kz (pv 5) rfl l)) (Bn (AA (pv 6)) (AV BD (AV Dx Hq AJ) AJ) FS) (fun T R M=>Vy T (RL R M set_list))))
   (Aa (Tg (pv 5) (AV BD (AV Dx Hq AJ) (AV BB (Kz (pv 5) rfl l) AJ)) (Bn (AA (pv 6)) (AV BD (AV Dx Hq AJ) AJ) FS) zY)))
  (Aa (Lp 5 (Zo (pv 0) M1 (G8 Ad Rh) (fun T R M=>Vy T (RL R M set_list)))))))))
  BA)
 (Aa (XC (pv 0))))))))))
def NF:Ap ["_law_error","_law_told"] zAQ (AO KJ):=⟨rfl,rfl,rfl,by decide +kernel,rfl,by decide +kernel,by decide +kernel⟩
noncomputable def WT(I:GC)(T:GC)(R:GC)(kt_NoLine:GC)(kt_NoName:GC)(kt_NoParts:GC)(Z:GC)(Y:GC)(kt_NoText:GC)(kt_NoTree:GC)(l:GC)(M:GC)(U:GC)(g:GC):DF :=
 (AN (CI (Co (GU (E6 (HN I GG))) (GU (E6 (HN g GG))))
  (A9 zM)
  BH)
 (AN (Am 1 (Ce (AB (HN T GG) (AB (HN R GG) (AB (HN kt_NoLine GG) AG)))))
 (AN (Am 1 (AF Av GT (Ce (AB (HN kt_NoName GG) (AB (HN kt_NoParts GG) (AB (HN Z GG) AG))))))
 (AN (Am 1 (AF Av GT (Ce (AB (HN M GG) (AB (HN Y GG) (AB (HN kt_NoText GG) AG))))))
 (AN (Am 1 (AF Av GT (Ce (AB (HN kt_NoTree GG) (AB (HN l GG) (AB (HN U GG) AG))))))
 (A9 (AF J9 (AK Be (AB (Bz yq (E6 GT) GT [none,none] (Di GT)) AG)) Em)))))))
noncomputable def OO(I:GC)(T:GC)(R:GC)(kt_NoLine:GC)(kt_NoName:GC)(kt_NoParts:GC)(Z:GC)(Y:GC)(kt_NoText:GC)(kt_NoTree:GC)(l:GC)(M:GC)(U:GC)(g:GC):MD:=Ca zAQ ["_law_error","_law_told"] (WT I T R kt_NoLine kt_NoName kt_NoParts Z Y kt_NoText kt_NoTree l M U g)
def T9{k:Nat}{l:AD}{Y:AD}{U:AD}{C_NoLine:AD}{C_NoName:AD}{C_NoParts:AD}{C_NoStart:AD}{C_NoTable:AD}{C_NoText:AD}{C_NoTree:AD}{g:AD}{T:AD}{Z:AD}{R:GC}{kt_NoBottom:GC}{kt_NoChange:GC}{kt_NoLine:GC}{kt_NoName:GC}{kt_NoParts:GC}{kt_NoStart:GC}{kt_NoTable:GC}{kt_NoText:GC}{kt_NoTree:GC}{M:GC}{kt_NotAlike:GC}{kt_TooMany:GC}{I:GC}(F:Fn K mg "_law_alone" KJ zAQ f fd)(FA:mg "ValueError" = none)(AW:js)(Ak:PR)(Ki:mg "GroveError" = some (.ref l))(MY:mg "NoBottom" = some (.ref Y))(Jv:mg "NoChange" = some (.ref U))(QE:mg "NoLine" = some (.ref C_NoLine))(Qf:mg "NoName" = some (.ref C_NoName))(OJ:mg "NoParts" = some (.ref C_NoParts))(OV:mg "NoStart" = some (.ref C_NoStart))(Og:mg "NoTable" = some (.ref C_NoTable))(HK:mg "NoText" = some (.ref C_NoText))(QS:mg "NoTree" = some (.ref C_NoTree))(Ko:mg "NoWeighing" = some (.ref g))(Mm:mg "NotAlike" = some (.ref T))(LG:mg "TooMany" = some (.ref Z))(kh_GroveError:∀C b,R C=some b->C0 K C/\PySem.W.kitOne K OL (DD (.ref l))=some b)(kh_NoBottom:∀C b,kt_NoBottom C=some b->C0 K C/\PySem.W.kitOne K OL (DD (.ref Y))=some b)(kh_NoChange:∀C b,kt_NoChange C=some b->C0 K C/\PySem.W.kitOne K OL (DD (.ref U))=some b)(kh_NoLine:∀C b,kt_NoLine C=some b->C0 K C/\PySem.W.kitOne K OL (DD (.ref C_NoLine))=some b)(kh_NoName:∀C b,kt_NoName C=some b->C0 K C/\PySem.W.kitOne K OL (DD (.ref C_NoName))=some b)(kh_NoParts:∀C b,kt_NoParts C=some b->C0 K C/\PySem.W.kitOne K OL (DD (.ref C_NoParts))=some b)(kh_NoStart:∀C b,kt_NoStart C=some b->C0 K C/\PySem.W.kitOne K OL (DD (.ref C_NoStart))=some b)(kh_NoTable:∀C b,kt_NoTable C=some b->C0 K C/\PySem.W.kitOne K OL (DD (.ref C_NoTable))=some b)(kh_NoText:∀C b,kt_NoText C=some b->C0 K C/\PySem.W.kitOne K OL (DD (.ref C_NoText))=some b)(kh_NoTree:∀C b,kt_NoTree C=some b->C0 K C/\PySem.W.kitOne K OL (DD (.ref C_NoTree))=some b)(kh_NoWeighing:∀C b,M C=some b->C0 K C/\PySem.W.kitOne K OL (DD (.ref g))=some b)(kh_NotAlike:∀C b,kt_NotAlike C=some b->C0 K C/\PySem.W.kitOne K OL (DD (.ref T))=some b)(kh_TooMany:∀C b,kt_TooMany C=some b->C0 K C/\PySem.W.kitOne K OL (DD (.ref Z))=some b)(kh_ValueError:∀C b,I C=some b->C0 K C/\PySem.W.kitOne K OL (DD (.ty "ValueError"))=some b):Ah P w K mg base A4 ii f fd zAQ (BV (OO R kt_NoBottom kt_NoChange kt_NoLine kt_NoName kt_NoParts kt_NoStart kt_NoTable kt_NoText kt_NoTree M kt_NotAlike kt_TooMany I)):=Hc F NF fun cdv A outer s H E hr=>by
 have sc:=NF;exact(AM (Bl (DW.dt (DH (Gi (FX (Eb kh_GroveError Id rfl AW (DZ (v:=.ref l) rfl Ki rfl) EZ))) (DL (Gi (FX (Eb kh_ValueError Id rfl AW (GK (v:=.ty "ValueError") rfl FA PyProof.Rows.Boot.«ValueError» rfl) EZ))))))
  (Aa (A6 Ox))
  BA)
 (AM (Al (i:=1) sc.nd rfl Do (C9 (AE (Eb kh_NoBottom Id rfl AW (DZ (v:=.ref Y) rfl MY rfl) EZ) (AE (Eb kh_NoChange Id rfl AW (DZ (v:=.ref U) rfl Jv rfl) EZ) (AE (Eb kh_NoLine Id rfl AW (DZ (v:=.ref C_NoLine) rfl QE rfl) EZ) AL)))))
 (AM (Al (i:=1) sc.nd rfl Do (AV BB FB (C9 (AE (Eb kh_NoName Id rfl AW (DZ (v:=.ref C_NoName) rfl Qf rfl) EZ) (AE (Eb kh_NoParts Id rfl AW (DZ (v:=.ref C_NoParts) rfl OJ rfl) EZ) (AE (Eb kh_NoStart Id rfl AW (DZ (v:=.ref C_NoStart) rfl OV rfl) EZ) AL))))))
 (AM (Al (i:=1) sc.nd rfl Do (AV BB FB (C9 (AE (Eb kh_NotAlike Id rfl AW (DZ (v:=.ref T) rfl Mm rfl) EZ) (AE (Eb kh_NoTable Id rfl AW (DZ (v:=.ref C_NoTable) rfl Og rfl) EZ) (AE (Eb kh_NoText Id rfl AW (DZ (v:=.ref C_NoText) rfl HK rfl) EZ) AL))))))
 (AM (Al (i:=1) sc.nd rfl Do (AV BB FB (C9 (AE (Eb kh_NoTree Id rfl AW (DZ (v:=.ref C_NoTree) rfl QS rfl) EZ) (AE (Eb kh_NoWeighing Id rfl AW (DZ (v:=.ref g) rfl Ko rfl) EZ) (AE (Eb kh_TooMany Id rfl AW (DZ (v:=.ref Z) rfl LG rfl) EZ) AL))))))
 (Aa (A6 (Qj (Cz (by have:=hr.units;exact this)) (BJ C6 rfl Ak aO (AE (Ig [".0","_law_one"] 1 [none,none] (EI FB) (fun _ _ _ _ _=>(MJ (FX FB))) xb) AL)) AJ NA))))))))
def Nr:Ap yz wf (AO Lg):=⟨rfl,rfl,rfl,by decide +kernel,rfl,by decide +kernel,by decide +kernel⟩
noncomputable def Pj(CD:MD):DF :=
 (AN (SQ 2 AG)
 (AN (Es (Di GT) (EJ 3 4)
  (AN (Am 5 (AK CD Uf))
  (AN (Es (Cn ES (AB (AK Be zAr) AG)) (GX 6)
   (Am 5 zBD))
  (Vh 2 WF))))
 (AN (CI (Zd (AR J9 LT (Ce AG)))
  (SQ 2 zAG)
  BH)
 (Mi 2 (A9 (AF Av (AF Av (AF A8 PP GG) (fC zBR)) (AF Eo (fC xm) LT)))))))
noncomputable def De(CD:MD):MD:=Ca wf yz (Pj CD)
def We{k:Nat}{CD:MD}(F:Fn K mg "_law_line" Lg wf f fd) {l:AD}{I:F0a}(T:Fn K mg "_law_part" LN yd l I)(R:Ah P w K mg base A4 k l I yd (BV CD))(Y:PR)(U:zAC):Ah P w K mg base A4 ii f fd wf (BV (De CD)):=Hc F Nr fun cdv A outer s H E g=>by
 have sc:=Nr;exact(AM (RV (i:=2) sc.nd rfl Do AL)
 (AM (Hh aq rfl (EI FB) zBk
  (AM (Al (i:=5) sc.nd rfl Do (BE T R g rfl (AE Tk AL)))
  (AM (Hh aq rfl (F6 rfl U (AE (BJ C6 rfl Y aO zBq) AL)) (IV (CY (i:=6) sc.nd rfl Do))
   (Aa (Al (i:=5) sc.nd rfl Do (AV BB Rh (AV PJ (AV BB Ad (Bn Ad (AA (pv 6)) FS)) (Bn M1 (AA (pv 6)) FS))))))
  (Aa (T3 (pv 2) Rh (fun M ha=>HQ (FV ax PySem.F.slot_list_append PySem.F.type_list_append K3 M ha)))))))
 (AM (Bl (kT (Ai (Cz Ch) Hq (C9 AL) NA))
  (Aa (RV (i:=2) sc.nd rfl Do (AE Ad AL)))
  BA)
 (Aa (Lp 2 (A6 (AV BB (AV BB (Bn Ad EZ FS) Ad) (G8 Ad Hq))))))))
def OQ:Ap zAj vh (AO LO):=⟨rfl,rfl,rfl,by decide +kernel,rfl,by decide +kernel,by decide +kernel⟩
noncomputable def Po(CN:MD):DF :=
 (AN (Am 2 (AF C3 GG iF))
 (AN (Am 3 (AK CN (AB (AF A8 LT Go) AG)))
 (AN (Am 4 (Bz yq Dl (AF VR PP GT) [none,none] (Di (QU LT (Jr Em) Ju))))
 (AN (CI (Co (AR (N5 false) M6 Ps) (Co (AR J9 (AF A8 M6 Go) Go) (AR Nb zCF (Ce AG))))
  (A9 Ps)
  BH)
 (AN (CI (Co (AR Nb zBd (AK Qk Uf)) (AR Nb zCD (Ce AG)))
  (A9 Ps)
  BH)
 (A9 (Ie (AB (AK IK (AB (Bz yq Dl (AF Oy LT GT) [none,none,some 4] (Cn ES zAm)) AG)) zAr))))))))
noncomputable def Dh(CN:MD):MD:=Ca vh zAj (Po CN)
def Vd{k:Nat}{CN:MD}(F:Fn K mg "_law_term" LO vh f fd) {l:AD}{I:F0a}(T:Fn K mg "_law_fraction" Hj No l I)(R:Ah P w K mg base A4 k l I No (BV CN))(Z:PR)(U:zAC)(M:mg "sorted" = none)(Y:yT):Ah P w K mg base A4 ii f fd vh (BV (Dh CN)):=Hc F OQ fun cdv A outer s H E g=>by
 have sc:=OQ;exact(AM (Al (i:=2) sc.nd rfl Do (F8 EZ Ad))
 (AM (Al (i:=3) sc.nd rfl Do (BE T R g rfl (AE (Bn Hq AJ FS) AL)))
 (AM (Al (i:=4) sc.nd rfl (Or.inr rfl) (Ig [".0","_law_name"] 1 [none,none] (EI (P6 Hq (Ow AJ) Om)) bd (fun _ _ _ _ _=>(ia Ad FB))))
 (AM (Bl (DW.dt (DH (Ai Ua M1 Cd NA) (DH (Ai (Cz Ch) (Bn M1 AJ FS) AJ NA) (DL (Ai (EK Ch) (Ig [".0","_law_name"] 1 [none,none] (EI (P6 Hq (Ow AJ) Om)) (fun _ _ _ _ _=>(MJ (Ai (EK Ch) (BJ J6 rfl Z aO zBN) AJ NA))) xb) (C9 AL) NA)))))
  (Aa (A6 Cd))
  BA)
 (AM (Bl (DW.dt (DH (Ai (EK Ch) Tk (BJ (fX Ch) rfl M PyProof.Rows.boot_sorted (AE Tk AL)) NA) (DL (Ai (EK Ch) (Ig [".0","_law_place","_law_many"] 1 [none,none,some 1] (EI Tk) (fun _ _ _ _ _=>(MJ (DW.dt (DH (Ai MX FB AJ NA) (DL (Ai jD FB Hq NA)))))) xb) (C9 AL) NA))))
  (Aa (A6 Cd))
  BA)
 (Aa (A6 (Ng (AE (EC QB rfl Y bF (AE (Ig [".0","_law_j","_law_places"] 1 [none,none,some 4] (F6 rfl U zBN) bd (fun _ _ _ _ _=>(TU Hq FB))) AL)) zBq)))))))))
def M3:Ap zAR SZ (AO Km):=⟨rfl,rfl,rfl,by decide +kernel,rfl,by decide +kernel,by decide +kernel⟩
noncomputable def NY(Dh:MD):DF :=
 (AN (Am 3 (AF C3 GG xA))
 (AN (CI (Co (AR LE (AK Be zAr) (fC (.int 3))) zCA)
  (A9 Ps)
  BH)
 (AN (CI (AR J9 (QU M6 (Jr NX) Ju) (Ce zAG))
  (A9 (Ce AG))
  BH)
 (AN (Am 4 (Bz yq Dl (AK Dh (AB GT zAs)) [none,none,some 2] (Di (Qq M6 NX NX))))
 (AN (CI (Co (AR (QP false) Ps zBd) (AR Nb zBT (Ce AG)))
  (A9 Ps)
  BH)
 (AN (Es (Cn WL (AB Em (AB (AK Be Uf) AG))) (GX 5)
  (CI zCE
   (A9 Ps)
   BH))
 (A9 zBd)))))))
noncomputable def C2(Dh:MD):MD:=Ca SZ zAR (NY Dh)
def T8{k:Nat}{Dh:MD}(F:Fn K mg "_law_speed" Km SZ f fd) {I:AD}{M:F0a}(T:Fn K mg "_law_term" LO vh I M)(R:Ah P w K mg base A4 k I M vh (BV Dh))(l:PR)(U:zAC):Ah P w K mg base A4 ii f fd SZ (BV (C2 Dh)):=Hc F M3 fun cdv A outer s H E g=>by
 have sc:=M3;exact(AM (Al (i:=3) sc.nd rfl Do (F8 EZ Ad))
 (AM (Bl (DW.dt (DH (Ai MX (BJ C6 rfl l aO zBq) AJ NA) (DH (Ai (Cz Ch) (AV BD (BJ C6 rfl l aO zBq) AJ) AJ NA) (DH (Ai (EK Ch) (Bn M1 AJ FS) (Bn Ad FB FS) NA) (DL (Ai (EK Ch) (Bn M1 AJ FS) Ad NA))))))
  (Aa (A6 Cd))
  BA)
 (AM (Bl (Ai (Cz Ch) (P6 M1 (Ow AJ) Om) (C9 (AE Ad AL)) NA)
  (Aa (A6 (C9 AL)))
  BA)
 (AM (Hf (i:=4) [".0","_law_word","_law_many"] 1 [none,none,some 2] sc.nd rfl rfl (EI (Xy M1 AJ AJ)) bd (fun _ _ _ _ _=>(BE T R g rfl (AE FB zBr))))
 (AM (Bl (DW.dt (DH (Ai (eZ Ch) Cd Tk rfl) (DL (Ai (EK Ch) (Ig [".0","_law_word"] 1 [none,none] (EI (Xy M1 AJ AJ)) (fun _ _ _ _ _=>(MJ (Ai (EK Ch) FB Ad NA))) xb) (C9 AL) NA))))
  (Aa (A6 Cd))
  BA)
 (AM (Hh aq rfl (fG rfl U (AE AJ (AE (BJ C6 rfl l aO (AE Tk AL)) AL))) (IV (CY (i:=5) sc.nd rfl Do))
  (Aa (Bl (Ai (o7 Ch) (Bn (Bn Tk Rh FS) AJ FS) (Bn (Bn Tk (AV Ss Rh AJ) FS) AJ FS) NA)
   (Aa (A6 Cd))
   BA)))
 (Aa (A6 Tk))))))))
def Lq:Ap ["_law_text","_law_lines","_law_found"] No (AO Jd):=⟨rfl,rfl,rfl,by decide +kernel,rfl,by decide +kernel,by decide +kernel⟩
noncomputable def NJ(C2:MD):DF :=
 (AN (Am 1 (AF C3 GG (fC ph)))
 (AN (CI (AR IO zBy (fC ut))
  (A9 Ps)
  BH)
 (AN (Am 2 (Bz yq Dl (AK C2 (AB (AF A8 LT GT) (AB GT (AB (AK Be zAs) AG)))) [none,none,some 1] (Cn ES (AB zBy AG))))
 (A9 (AF A8 (Ce (AB LT (AB Ps AG))) (AK QJ (AB (AF (QP false) Ps LT) AG)))))))
noncomputable def NK(C2:MD):MD:=Ca No ["_law_text","_law_lines","_law_found"] (NJ C2)
def Si{k:Nat}{C2:MD}(F:Fn K mg "_law_reader" Jd No f fd) {I:AD}{M:F0a}(T:Fn K mg "_law_speed" Km SZ I M)(R:Ah P w K mg base A4 k I M SZ (BV C2))(U:mg "int" = none)(g:PR)(Y:zAC):Ah P w K mg base A4 ii f fd No (BV (NK C2)):=Hc F Lq fun cdv A outer s H E l=>by
 have sc:=Lq;exact(AM (Al (i:=1) sc.nd rfl (Or.inr rfl) (F8 EZ Ad))
 (AM (Bl (Ai Jw (BJ C6 rfl g aO zBN) AJ NA)
  (Aa (A6 Cd))
  BA)
 (AM (Hf (i:=2) [".0","_law_k","_law_lines"] 1 [none,none,some 1] sc.nd rfl rfl (F6 rfl Y (AE (BJ C6 rfl g aO zBN) AL)) bd (fun _ _ _ _ _=>(BE T R l rfl (AE (Bn Hq FB FS) (AE FB (AE (BJ C6 rfl g aO zBr) AL))))))
 (Aa (A6 (Bn (C9 (AE Hq (AE Cd AL))) (EC RH rfl U bU (AE (Qj (eZ zE) Cd Hq rfl) AL)) FS))))))
def Nn:Ap ["_law_found","_law_due","_law_some"] vq (AO Lj):=⟨rfl,rfl,rfl,by decide +kernel,rfl,by decide +kernel,by decide +kernel⟩
noncomputable def Pq:DF :=
 (AN (CI (Co (GU (E6 (SJ En GG))) (AR Nb GG GT))
  (A9 zM)
  BH)
 (AN (Es (Di GG) (GX 2)
  (CI zBV
   (A9 zM)
   BH))
 (A9 (fC XV))))
noncomputable def Px:MD:=Ca vq ["_law_found","_law_due","_law_some"] (Pq)
def U0{k:Nat}(F:Fn K mg "_law_good" Lj vq f fd)(g:js)(I:mg "list" = none)(M:yT):Ah P w K mg base A4 ii f fd vq (BV (Px)):=Hc F Nn fun cdv A outer s H E l=>by
 have sc:=Nn;exact(AM (Bl (DW.dt (DH (Gi (FX (Rn (MS _) rfl g rfl I bR EZ))) (DL (Ai (EK zE) EZ FB NA))))
  (Aa (A6 Ox))
  BA)
 (AM (Hh aq rfl (EI EZ) (IV (CY (i:=2) sc.nd rfl Do))
  (Aa (Bl (DW.dt (DH (Gi (FX (Rn (MS _) rfl g rfl I bR Hq))) (DL (Ai (EK zE) (Ig [".0","_law_term_here"] 1 [none,none] (EI Hq) (fun _ _ _ _ _=>(MJ (Gi (FX (Rn (Me _) rfl g rfl M bF FB))))) xb) (C9 AL) NA))))
   (Aa (A6 Ox))
   BA)))
 (Aa (A6 Ox))))
end
section
variable{P:F0b}{w:F0c}{K:Fg}{mg:vf}{base:Heap}{f:AD}{fd:F0a}
def L4:Ap lc Pw (AO Jc):=⟨rfl,rfl,rfl,by decide +kernel,rfl,by decide +kernel,by decide +kernel⟩
noncomputable def Je(g:MD):DF :=
 (AN (Am 3 (AF Av Em (AF A7 GG GT)))
 (AN (Am 0 (AF CO GG GT))
 (AN (SQ 4 AG)
 (AN (Es (Cn ES zAr) (GX 5)
  (AN (gz 6)
  (AN (Am 7 (AF A7 GG yV))
  (AN (Am 0 (AF CO GG yV))
  (AN (Es (Cn ES (AB (nm 7) AG)) (GX 8)
   (AN (JO 9 (AF Lc (Ce (AB Go AG)) M6))
   (AN (Es zBi (GX 10)
    (AN (UT 9 (AF A7 (AF CO GG yV) M6) Em)
    (Am 0 (AF Av (AF CO GG M6) (nm 10)))))
   (AN (Am 0 (AF CO GG (AF Av LT Em)))
   (AN (Am 11 (AK g zBH))
   (AN (Am 0 (AF CO GG (fC (.int 78))))
   (CI (AR Nb (AF A8 (nm 11) Go) Go)
    (Mi 9 (VS 6 (nm 11) (AK IK (AB (nm 9) AG))))
    BH)))))))
  (Mi 9 (Vh 4 (L1 2 6 yq Dl (Ie (AB GT (AB (UH 2 GT) AG))) [none,none,some 6] (Di zBj)))))))))
 (ZG 4)))))
noncomputable def CA(g:MD):MD:=Ca Pw lc (Je g)
def Sh{k:Nat}{R:MD}(F:Fn K mg "_law_change" Jc Pw f fd) {I:AD}{M:F0a}(EH:Fn K mg "_law_ratio" Hu iS I M)(E3:Ah P w K mg base A4 k I M iS (BV R))(l:zAC)(Ii:mg "sorted" = none)(CC:yT):Ah P w K mg base A4 ii f fd Pw (BV (CA R)):=Hc F L4 fun cdv A outer s H E g=>by
 have sc:=L4;exact(AM (Al (i:=3) sc.nd rfl Do (AV BB AJ (AV BD EZ FB)))
 (AM (Al (i:=0) sc.nd rfl Do (AV Dx EZ FB))
 (AM (RV (i:=4) sc.nd rfl Do AL)
 (AM (Hh aq rfl (F6 rfl l zBq) (IV (CY (i:=5) sc.nd rfl Do))
  (AM (qv (i:=6) sc.nd rfl (Or.inr rfl))
  (AM (Al (i:=7) sc.nd rfl Do (AV BD EZ AJ))
  (AM (Al (i:=0) sc.nd rfl Do (AV Dx EZ AJ))
  (AM (Hh aq rfl (F6 rfl l (AE (AA (pv 7)) AL)) (IV (CY (i:=8) sc.nd rfl Do))
   (AM (Zm (i:=9) (C9 (AE AJ AL)) M1 sc.nd rfl Do)
   (AM (Hh aq rfl (F6 rfl l (AE (AV BD EZ (AV BB Hq AJ)) AL)) (IV (CY (i:=10) sc.nd rfl Do))
    (AM (j3 (pv 9) (AV BD (AV Dx EZ AJ) M1) AJ)
    (Aa (Al (i:=0) sc.nd rfl Do (AV BB (AV Dx EZ M1) (AA (pv 10)))))))
   (AM (Al (i:=0) sc.nd rfl Do (AV Dx EZ (AV BB Hq AJ)))
   (AM (Al (i:=11) sc.nd rfl Do (BE EH E3 g rfl (AE (AV Ss (AV BD EZ AJ) AJ) (AE (AV BB AJ (AV BD (AV Dx EZ AJ) AJ)) AL))))
   (AM (Al (i:=0) sc.nd rfl Do (AV Dx EZ AJ))
   (Aa (Bl (Ai (EK Ch) (Bn (AA (pv 11)) AJ FS) AJ NA)
    (Aa (Lp 9 (lQ (pv 6) (EC QB rfl CC bF (AE (AA (pv 9)) AL)) (AA (pv 11)) (fun Z Y U=>lO (tu Ch) Y U Z rfl))))
    BA))))))))
  (Aa (Lp 9 (T3 (pv 4) (iM [".0","_law_powers","_law_terms"] 1 [none,none,some 6] 2 6 (EI (nG (i3 Ch rfl rfl Ii (pv 6)) (dC AJ))) bd (fun _ _ _ _ _=>(Ng (AE FB (AE (mx (tu Ch) (pv 2) FB FS) AL))))) (fun T ha=>HQ (FV ax PySem.F.slot_list_append PySem.F.type_list_append K3 T ha))))))))))
 (Aa (XC (pv 4)))))))
end
section
variable{P:F0b}{w:F0c}{K:Fg}{mg:vf}{base:Heap}{f:AD}{fd:F0a}
def Ph:Ap P3 P3 (AO MV):=⟨rfl,rfl,rfl,by decide +kernel,rfl,by decide +kernel,by decide +kernel⟩
noncomputable def RI:DF :=
 (AN (CI (AR IO (AK DJ (AB (AF KU GG (fC (.str wJ))) AG)) GT)
  (A9 Ps)
  BH)
 (Xk 0))
noncomputable def Ck:MD:=Ca P3 P3 RI
def Wn{k:Nat}(F:Fn K mg "whole_in" MV P3 f fd)(I:PR)(l:mg "int" = none)(g:mg "ValueError" = none):CT P w K mg base A4 ii f fd P3 (BV Ck):=V1 F Ph fun cdv A outer s H E M=>by
 have sc:=Ph;exact(Bo (DS.r (Bl (Ai Jw (BJ J6 rfl I aO (AE (YQ EZ Ad) AL)) FB NA)
  (Aa (A6 Cd))
  BA))
 (IW (eI (dY (i:=0) rfl rfl rfl l rfl g rfl ⟨_,rfl⟩ rfl))))
end
section
variable{P:F0b}{w:F0c}{K:Fg}{mg:vf}{base:Heap}{f:AD}{fd:F0a}
def Lo:Ap ["word","figures","halves","top","bottom","part"] P3 (AO JV):=⟨rfl,rfl,rfl,by decide +kernel,rfl,by decide +kernel,by decide +kernel⟩
noncomputable def NB(AZ:MD)(g:MD)(Ck:MD):DF :=
 (AN (Am 2 (AF C3 GG tO))
 (AN (Am 3 (AK Ck (AB (AF A8 LT Go) zAm)))
 (AN (Am 4 Em)
 (AN (CI (AR IO (AK Be zAs) Em)
  (Am 4 (AK Ck (AB (AF A8 LT Em) zAm)))
  BH)
 (AN (Am 5 (Ie (AB M6 Uf)))
 (AN (CI (Co (GU (E6 (AK g (AB WF AG)))) (AR Nb (AK AZ (AB WF AG)) GG))
  (A9 Ps)
  BH)
 (A9 WF)))))))
noncomputable def Cm(AZ:MD)(g:MD)(Ck:MD):MD:=Ca P3 ["word","figures","halves","top","bottom","part"] (NB AZ g Ck)
def SN{k:Nat}{AZ:MD}{Z:MD}{Ck:MD}(F:Fn K mg "fraction_in" JV P3 f fd) {Y:AD}{EF:F0a}(C5:Fn K mg "fraction_text" F3 ["part"] Y EF)(Dr:Ah P w K mg base A4 k Y EF ["part"] (BV AZ)) {M:AD}{R:F0a}(D0:Fn K mg "is_fraction" Gu RQ M R)(Fe:Ah P w K mg base A4 k M R RQ (BV Z)) {l:AD}{I:F0a}(U:Fn K mg "whole_in" MV P3 l I)(T:CT P w K mg base A4 k l I P3 (BV Ck))(Ak:PR):CT P w K mg base A4 ii f fd P3 (BV (Cm AZ Z Ck)):=V1 F Lo fun cdv A outer s H E g=>by
 have sc:=Lo;exact(Bo (DS.r (Al (i:=2) sc.nd rfl Do (F8 EZ Ad))) (Bo (Xl (i:=3) sc.nd rfl Do (FT U T g rfl (DA.r (AE (Bn Hq AJ FS) zBN)))) (Bo (DS.r (Al (i:=4) sc.nd rfl Do AJ)) (Bo (fU (DT.r (Ai Jw (BJ C6 rfl Ak aO zBr) AJ NA)) (IW (Xl (i:=4) sc.nd rfl Do (FT U T g rfl (DA.r (AE (Bn Hq AJ FS) zBN))))) (JG.r BA)) (JG.r (AM (Al (i:=5) sc.nd rfl Do (Ng (AE M1 (AE Tk AL))))
 (AM (Bl (DW.dt (DH (Gi (FX (BE D0 Fe g rfl (AE Rh AL)))) (DL (Ai (EK Ch) (BE C5 Dr g rfl (AE Rh AL)) EZ NA))))
  (Aa (A6 Cd))
  BA)
 (Aa (A6 Rh)))))))))
def Qx:Ap ["term","names","factors","powers"] zA (AO OC):=⟨rfl,rfl,rfl,by decide +kernel,rfl,by decide +kernel,by decide +kernel⟩
noncomputable def TB(Cm:MD):DF :=
 (AN (Am 2 (AF C3 GG iF))
 (AN (Am 3 (Bz yq Dl (AF Oy LT GT) [none,none,some 2] (Di GT)))
 (A9 (Ie (AB (AK IK zAr) (AB (AK Cm (AB (AF A8 LT Go) (AB (fC (.int 40)) AG))) AG))))))
noncomputable def Eg(Cm:MD):MD:=Ca zA ["term","names","factors","powers"] (TB Cm)
def YZ{k:Nat}{Cm:MD}(F:Fn K mg "term_in" OC zA f fd) {l:AD}{I:F0a}(U:Fn K mg "fraction_in" JV P3 l I)(R:CT P w K mg base A4 k l I P3 (BV Cm))(Y:yT){g:Tok}(T:mg "MOST_FIGURES" = some (.int 40 g)):CT P w K mg base A4 ii f fd zA (BV (Eg Cm)):=V1 F Qx fun cdv A outer s H E M=>by
 have sc:=Qx;exact(Bo (DS.r (Al (i:=2) sc.nd rfl (Or.inr rfl) (F8 EZ Ad))) (Bo (DS.r (Hf (i:=3) [".0","name","factors"] 1 [none,none,some 2] sc.nd rfl rfl (EI FB) bd (fun _ _ _ _ _=>(TU Hq FB)))) (IW (Sx (lD (QX (DE.r (EC QB rfl Y bF zBq)) (QX (FT U R M rfl (DA.r (AE (Bn Hq AJ FS) (AE (gr rfl T) AL)))) (DA.r AL))))))))
def Qp:Ap ["line","names","written"] zB (AO OG):=⟨rfl,rfl,rfl,by decide +kernel,rfl,by decide +kernel,by decide +kernel⟩
noncomputable def cm(Eg:MD):DF :=
 (AN (Am 2 (AF A8 (AF UY GG (fC zBR)) NX))
 (AN (CI (AR J9 LT zAv)
  (A9 (Ce AG))
  BH)
 (jf (JE yq Dl (AK Eg (AB GT zAs)) [none,none,some 1] (Di (AF C3 LT (fC xm)))))))
noncomputable def Ed(Eg:MD):MD:=Ca zB ["line","names","written"] (cm Eg)
def ZU{k:Nat}{Eg:MD}(F:Fn K mg "poly_in" OG zB f fd) {l:AD}{I:F0a}(R:Fn K mg "term_in" OC zA l I)(M:CT P w K mg base A4 k l I zA (BV Eg)):CT P w K mg base A4 ii f fd zB (BV (Ed Eg)):=V1 F Qp fun cdv A outer s H E g=>by
 have sc:=Qp;exact(Bo (DS.r (Al (i:=2) sc.nd rfl Do (Bn (l7 EZ Ad) AJ FS))) (Bo (DS.r (Bl (Ai (Cz Ch) Hq Ad NA)
  (Aa (A6 (C9 AL)))
  BA)) (IW (gU [".0","term","names"] 1 [none,none,some 1] (EI (F8 Hq Ad)) bd (fun _ _ _ _ _=>(FT R M g rfl (DA.r (AE FB zBr))))))))
def Ly:Ap ["text","lines","names","change"] ["text"] (AO JZ):=⟨rfl,rfl,rfl,by decide +kernel,rfl,by decide +kernel,by decide +kernel⟩
noncomputable def M5(BN:MD)(l:MD)(Ed:MD)(g:AD):F0 :=
 (IB (Qo (Am 1 (AF C3 GG (fC ph))))
 (IB (Qo (Am 2 (Yu (fC Jg) Ju (Jr zBy))))
 (IB (Qo (Am 3 (Bz yq Dl (AK Ed (AB GT zAs)) [none,none,some 2] (Di GT))))
 (IB (XA (Co (AR IO zBy (AK Be (AB (fC Jg) AG))) (Co (GU (E6 (AK l zAr))) (AR Nb (AK BN zAr) GG)))
  (Q1 g (fC (.str (Str.ofString "a change is written as a line for each of up to four unknowns"))))
  (fun δ=>some (.inl (.nx δ))))
 (Qo (A9 M6))))))
noncomputable def Ff(BN:MD)(l:MD)(Ed:MD)(g:AD):rW:=HD ["text"] ["text","lines","names","change"] (M5 BN l Ed g)
def Rr{k:Nat}{BN:MD}{CG:MD}{Ed:MD}{g:AD}(F:Fn K mg "read_change" JZ ["text"] f fd) {FZ:AD}{FC:F0a}(D6:Fn K mg "change_text" Gy l0 FZ FC)(EY:Ah P w K mg base A4 k FZ FC l0 (BV BN)) {Y:AD}{Z:F0a}(Ep:Fn K mg "is_change" JB RQ Y Z)(Fp:Ah P w K mg base A4 k Y Z RQ (BV CG)) {T:AD}{U:F0a}(LK:Fn K mg "poly_in" OG zB T U)(OY:CT P w K mg base A4 k T U zB (BV Ed))(R:PR){l:AD}(CZ:mg "UNKNOWNS" = some (.ref l))(I:Exc K mg "NoText" g):CT P w K mg base kr ii f fd ["text"] (Kb (Ff BN CG Ed g)):=uh F Ly fun cdv A outer s H E M=>by
 have sc:=Ly;exact(NT (DX.r (jm (Al (i:=1) sc.nd rfl Do (F8 EZ Ad)))) (NT (DX.r (jm (Al (i:=2) sc.nd rfl (Or.inr rfl) (cY (NS rfl CZ) Om (Ow (BJ C6 rfl R aO zBN)))))) (NT (pJ (Wq (i:=3) [".0","line","names"] 1 [none,none,some 2] sc.nd rfl rfl (EI FB) bd (fun _ _ _ _ _=>(FT LK OY M rfl (DA.r (AE FB zBr)))))) (OE.r (P8 (Y7 (DW.dt (DH (Ai Jw (BJ C6 rfl R aO zBN) (BJ C6 rfl R aO (AE (NS rfl CZ) AL)) NA) (DH (Gi (FX (BE Ep Fp M rfl zBq))) (DL (Ai (EK (by have:=M.units;exact this)) (BE D6 EY M rfl zBq) EZ NA)))))
  (O8 (by exact QV I YW Ad))
  R9)
 (cA (Aa (A6 M1))))))))
end
section
variable{P:F0b}{w:F0c}{K:Fg}{mg:vf}{base:Heap}{f g1 g2 g3 g4:AD}{fd gd1 gd2 gd3 gd4:F0a}
def Rw.bare{H:Hp}{σ:St}{δ:Dv}(I:σ.length=δ.length)(hd:∀(i:Nat) (x:PD),δ[i]? = some (L.d x)->∃v,σ[i]? = some tz/\Du (fun _=>none) x v)(g:zp):Rw (fun _=>none) H (fun _=>none) H σ δ [] :=
 ⟨.refl _,fun a o h=>(by cases h),fun a o h=>(by cases h),.refl _,I,hd,fun i c h=>absurd h (g i c),fun i j c d _ h=>absurd h (g i c),fun q l=>by cases l⟩
def Rw.whole{H:Hp}{σ:St}{δ:Dv}(I:σ.length=δ.length)(hd:∀(i:Nat) (x:PD),δ[i]? = some (L.d x)->∃v,σ[i]? = some tz/\Du H x v)(g:zp):Rw H H H H σ δ [] :=
 ⟨.refl _,Nw.refl,.refl _,.refl _,I,hd,fun i c h=>absurd h (g i c),fun i j c d _ h=>absurd h (g i c),fun q l=>by cases l⟩
def Rw.part{G H:Hp}{σ:St}{δ:Dv}(hs:AY G H)(I:σ.length=δ.length)(hd:∀(i:Nat) (x:PD),δ[i]? = some (L.d x)->∃v,σ[i]? = some tz/\Du G x v)(g:zp):Rw G H G H σ δ [] :=
 ⟨.refl _,Nw.refl,hs,.refl _,I,hd,fun i c h=>absurd h (g i c),fun i j c d _ h=>absurd h (g i c),fun q l=>by cases l⟩
def Ys(C:AD)(mR:rW)(mD mA mG:MD)(x:Str):Prop :=
 (mR [.str x]=some (.inr C)/\mD [.str x]=some .none/\mA [OW C]=some XV) \/
 ∃g,mR [.str x]=some (.inl (.list g))/\mD [.str x]=some (.list g)/\mG [.list g,.list g]=some XV
def dW(C:AD)(mR:rW)(mD mA mG:MD):Sp:=fun vs H Q _=>∃x,vs=[.str x]/\Ys C mR mD mA mG x/\∀H',AY H H'->Q (.bl true) H'
def iY{X:Cx}{st0 st1 st2 st3 st6 st8:Stmt}{c4 c5:Expr}{b4 b5:v5}{q4 q5:Pos}{C:AD}{mR:rW}{mD mA mG:MD}(h0:DS X st0 (Am 1 Ps))(h1:DS X st1 (Am 2 Ps))(h2:L7 X st2 (jR 1 2 3 mR zAz)) (h3:PS X st3 (J8 (Mg (BV mD) [] E0 (Mo (DV 0) WW)) (Ef 4)))(h4:DT X c4 (AR (N5 false) zBd Ps))(h4':JG X b4 (A9 (AK mA zAs))) (h5:DT X c5 (Co (AR (N5 true) LT Ps) (GU (E6 (AK mG (AB GT Uf))))))(h5':JG X b5 (A9 zM)) (h6:PS X st6 (Ml (pC X.K "list" cV (DV 1)))) (h8:L7 X st8 (A9 (AK mG (AB (AK (good mR) zAz) Uf)))):∃t,Jl X [st0,st1,st2,st3,.If c4 b4 [] q4,.If c5 b5 [] q5,st6,st8] t/\∀(x:Str) (H:Hp) (D:Ends),Ys C mR mD mA mG x->(∀H',AY H H'->D.rt (.bl true) H')->t D [some L6,none,none,none,none] H:=by
 obtain⟨t0,p0,k0⟩:=h0;obtain⟨t1,p1,k1⟩:=h1;obtain⟨t2,p2,k2⟩:=h2;obtain⟨t4,p4,k4⟩:=h4;obtain⟨t4',p4',k4'⟩:=h4';obtain⟨t5,p5,k5⟩:=h5;obtain⟨t5',p5',_⟩:=h5';obtain⟨t8,p8,k8⟩:=IW h8;refine⟨_,FL (.of p0) (FL (.of p1) (FL p2 (FL (.of h3) (FL (.of (Fx p4 p4' Dq)) (FL (.of (Fx p5 p5' Dq)) (FL (.of h6) p8)))))),fun x H D hb q=>?_⟩;have slots:∀ {δ:Dv} {σ:St} {G:Hp},(∀(i:Nat) (y:PD),δ[i]? = some (L.d y)->∃v,σ[i]? = some tz/\Du G y v)->∀(i:Nat) (y:PD),δ[i]? = some (L.d y)->∃v,σ[i]? = some tz/\Du G y v:=fun h=>h;have noOwn:∀ {a b c d e:L},(∀z,a≠.own z)->(∀z,b≠.own z)->(∀z,c≠.own z)->(∀z,d≠.own z)->(∀z,e≠.own z)->∀(i:Nat) (z:Oc),([a,b,c,d,e]:Dv)[i]?≠some (.own z):=fun ha hb hc hd he i z h=>by
  rcases i with _|_|_|_|_|i
  .exact ha z (aQ h)
  .exact hb z (aQ h)
  .exact hc z (aQ h)
  .exact hd z (aQ h)
  .exact he z (aQ h)
  .simp at h
 have dN:∀ {y:PD} (z:Oc),L.d y≠.own z:=fun z h=>by cases h
 have nN:∀(z:Oc),L.no≠.own z:=fun z h=>by cases h
 refine k0 [.d L6,.no,.no,.no,.no] _ rfl _ _ _ _ _ _ (Rw.bare (H:=H) rfl (fun i y h=>?_) (noOwn dN nN nN nN nN)) fun σ1 G1 H1 R1=>?_
 .rcases i with _|_|_|_|_|i<;>first|(cases h;exact⟨_,rfl,by rw[Du]⟩)|(cases h;done)|simp at h
 refine k1 [.d L6,.d .none,.no,.no,.no] _ rfl _ _ _ _ _ _ R1 fun σ2 G2 H2 R2=>?_;rcases hb with ⟨e1,e2,e3⟩|⟨I,e1,e2,e3⟩
 .refine k2 [.d L6,.d .none,.d .none,.no,.no] (.nx [.d L6,.d .none,.d (OW C),.no,.no]) (by show((some [PyData.str x]).bind mR).map _=_;rw[zo,e1];rfl) _ _ _ _ _ _ R2 fun l G3 H3 g=>?_;obtain⟨v0,f0,d0⟩:=g.dat 0 _ rfl;rw[Du]at d0;subst d0;refine⟨_,f0,[.str x],.none,G3,e2,.cons GM .nil,g.ins,fun v G' H' m1 m2 m3 Y U=>?_⟩;have R4:=((g.lift m1 m2 m3 Y).put U).HH (i:=4);refine k4 _ true rfl _ _ _ _ _ [] _ R4 fun G5 H5 R5=>?_;rw[if_pos rfl];refine k4' _ (.rt XV) (by show((some [OW C]).bind mA).map _=_;rw[zo,e3];rfl) _ _ _ _ _ _ R5 fun v G' H' m1 m2 m3 Y U=>?_;rw[Du]at U;subst U;exact q H' Y
 .refine k2 [.d L6,.d .none,.d .none,.no,.no] (.nx [.d L6,.d (.list I),.d .none,.no,.no]) (by show((some [PyData.str x]).bind mR).map _=_;rw[zo,e1];rfl) _ _ _ _ _ _ R2 fun l G3 H3 g=>?_;obtain⟨v0,f0,d0⟩:=g.dat 0 _ rfl;rw[Du]at d0;subst d0;obtain⟨v1,f1,d1⟩:=g.dat 1 _ rfl;obtain⟨v2,f2,d2⟩:=g.dat 2 _ rfl;have l3:l.length=5:=g.len;refine⟨_,f0,[.str x],_,(fun _=>none),e2,.cons GM .nil,(fun a o h=>by cases h),fun v4 Gd Z m1 m2 m3 Y U=>?_⟩;rw[Du]at d1;obtain⟨R,xs,rfl,hR,dR⟩:=d1;have T:AY G3 Z:=g.ins.trans Y;have D4:Du Z (.list I) (.ref R):=by
   rw[Du];exact⟨R,xs,rfl,T _ _ hR,dR.same T⟩
  have W:Rw Z Z Z Z (l.set 4 (some v4)) [.d L6,.d (.list I),.d .none,.no,.d (.list I)] []:=by
   refine Rw.whole (by rw[(Nj),l3];rfl) (fun i y h=>?_) (noOwn dN dN dN nN dN);rcases i with _|_|_|_|_|i
   .cases h;exact⟨_,by rw[List.getElem?_set_ne AS];exact f0,by rw[Du]⟩
   .cases h;exact⟨_,by rw[List.getElem?_set_ne AS];exact f1,D4⟩
   .cases h;exact⟨_,by rw[List.getElem?_set_ne AS];exact f2,by rw[Du]at d2 ⊢;exact d2⟩
   .cases h
   .cases h;exact⟨_,by rw[List.getElem?_set_self (by rw[l3];decide)],U.same m3⟩
   .simp at h
  refine k4 _ false rfl _ _ _ _ _ [] _ W fun G5 H5 R5=>?_;rw[if_neg aL];refine k5 _ false (by show((some (PyData.bool false)).bind Nf).bind _=_;show(Option.map _ ((((some [PyData.list I,.list I]).bind mG)).bind Nf))=_;rw[zo,e3];rfl) _ _ _ _ _ [] _ R5 fun G6 H6 R6=>?_;rw[if_neg aL];have M:AY Z H6:=R6.keep;have s36:AY G3 H6:=T.trans M;have g1:(l.set 4 (some v4))[1]? = some (some (.ref R)):=by rw[List.getElem?_set_ne AS];exact f1
  have JW:∀ {a:AD} {ys:UF},G3 a=some KM->H a=none/\Gd a=none:=fun {a ys} h=>by
   refine⟨?_,?_⟩
   .rcases g.new _ _ h with z|z|⟨_,z⟩
    .cases z
    .exact z
    .cases z
   .cases z:Gd a with
    |none=>rfl
    |some o=>
     have h3:=g.ins _ _ h;rcases m2 _ _ z with y|y|⟨_,y⟩
     .cases y
     .rw[h3]at y;cases y
     .have:=m3 _ _ z;rw[Y _ _ h3,y]at this;cases this
  refine⟨_,g1,.inl ⟨rfl,xs,BR.of (s36 _ _ hR)⟩,R,xs,rfl,rfl,s36 _ _ hR,?_⟩;have far:∀ {b:AD} {o:HO},b≠R->H6 b=some o->upd H6 R v3 b=some o:=fun h1 h3=>by rw[Ae h1];exact h3
  have sG:AY Gd (upd H6 R v3):=fun b o h=>far (fun z=>by subst z;rw[(JW hR).2]at h;cases h) (M _ _ (m3 _ _ h));have sH:AY H (upd H6 R v3):=fun b o h=>far (fun z=>by subst z;rw[(JW hR).1]at h;cases h) (M _ _ (Y _ _ (g.keep _ _ h)));refine k8 [.d L6,.no,.no,.no,.d (.list I)] (.rt XV) ?_ _ _ _ _ _ _ (Rw.part sG (by rw[(Nj),l3];rfl) (fun i y h=>?_) (noOwn dN nN nN nN dN)) fun v G' H' n1 n2 n3 n4 n5=>?_
  .have eg:good mR [.str x]=some (.list I):=by unfold good;rw[e1]
   show Option.map _ ((Option.bind ((some [PyData.str x]).bind (good mR)) fun y=>(some [PyData.list I]).map fun ys=>y::ys).bind mG)=_;rw[zo,eg,zo,Option.map_some,zo,e3];rfl
  .rcases i with _|_|_|_|_|i
   .cases h;exact⟨_,by rw[List.getElem?_set_ne AS];exact f0,by rw[Du]⟩
   .cases h
   .cases h
   .cases h
   .cases h;exact⟨_,by rw[List.getElem?_set_self (by rw[l3];decide)],U⟩
   .simp at h
  .rw[Du]at n5;subst n5;exact q H' (sH.trans n4)
def Ui{k:Nat}{C:AD}{mR:rW}{mD mA mG:MD}(F:Fn K mg "_law_read" Gn No f fd)(R:Fn K mg "read_change" JZ ["text"] g1 gd1)(Gq:Fn K mg "_law_reader" Jd No g2 gd2)(Hr:Fn K mg "_law_alone" KJ zAQ g3 gd3)(M:Fn K mg "_law_good" Lj vq g4 gd4) (I:CT P w K mg base kr k g1 gd1 ["text"] (Kb mR))(JR:Ah P w K mg base A4 k g2 gd2 No (BV mD))(Z:Ah P w K mg base A4 k g3 gd3 zAQ (BV mA))(l:Ah P w K mg base A4 k g4 gd4 vq (BV mG)) (HK:mg "NoText" = some OL)(Y:∀ds T,mR ds=some (.inr T)->Fo K T C true):CT P w K mg base A4 ii f fd No (dW C mR mD mA mG):=by
 have sc:Ap ["_law_text","_law_found","_law_error","e","_law_due"] No (AO Gn):=⟨rfl,rfl,rfl,by decide +kernel,rfl,by decide +kernel,by decide +kernel⟩;refine F.F.tX (k:=k) sc Tj (fun cdv A outer s H vs Q E g h=>?_)
 .obtain⟨x,rfl,_⟩:=h;rfl
 obtain⟨x,rfl,U,q⟩:=h;have main:∃t,Jl (CJ A4 P w K mg base ["_law_text","_law_found","_law_error","e","_law_due"] "_law_read" (AO Gn) f cdv A outer s H E).EN (Cg Gn) t/\∀(x:Str) (H:Hp) (D:Ends),Ys C mR mD mA mG x->(∀H',AY H H'->D.rt (.bl true) H')->t D [some L6,none,none,none,none] H:=by
  exact iY (C:=C) (mR:=mR) (mD:=mD) (mA:=mA) (mG:=mG) (Al (i:=1) sc.nd rfl Do Cd) (Al (i:=2) sc.nd rfl Do Cd) (gL (i:=1) (j:=2) (k:=3) R I g rfl zBS Y (fun h=>iC (i:=1) (j:=2) (k:=3) h sc.nd rfl rfl rfl rfl rfl rfl rfl rfl HK AS ⟨_,rfl⟩ rfl)) (D9 (i:=4) sc.nd rfl Do (JC Gq JR g rfl (Ac (pv 0) A3))) (Ai Ua Tk Cd NA) (Aa (A6 (BE Hr Z g rfl zBr))) (DW.dt (DH (Ai iB Hq Cd NA) (DL (Gi (FX (BE M l g rfl (AE FB (AE Tk AL)))))))) (Aa (A6 Ox)) (HQ (pX ax PySem.F.slot_list_clear PySem.F.type_list_clear gy (pv 1)))  (Sx (FT M (Ah.r l) g rfl (QX (FT R (qD I) g rfl (DA.r zBS)) (DA.r (AE Tk AL)))))
 obtain⟨t,p,kt⟩:=main;exact⟨t,p,kt x H _ U q⟩
end
section
variable{P:F0b}{w:F0c}{K:Fg}{mg:vf}{base:Heap}{f:AD}{fd:F0a}
def fR:Ap xB yN (AO ji):=⟨rfl,rfl,rfl,by decide +kernel,rfl,by decide +kernel,by decide +kernel⟩
noncomputable def jC(Cj:MD)(Ba:MD)(Au:MD)(CA:MD)(De:MD)(A5:MD)(g:MD)(Df:MD)(CV:rW):DF :=
 (AN (Am 1 (AK CA (AB (AK Df (AB GG (AB Go AG))) (AB (fC ut) (AB (fC ut) AG)))))
 (AN (Am 2 (Bz yq Dl (AK De (AB GT (AB (AF A8 LT GT) AG))) [none,none,some 1] (Cn ES (AB zBy AG))))
 (AN (Am 3 (Bz yq Dl (AK J3 zAm) [none,none] (Di GT)))
 (AN (Am 4 (AK (good CV) zAr))
 (AN (CI (Co (GU (E6 (SJ bz zBd))) (Co (AR Nb zBd (AF Eo (fC ph) LT)) (Co (AR Nb M6 GT) (GU (E6 (AK g Uf))))))
  (A9 zM)
  BH)
 (AN (Am 5 (AK A5 (AB (AK Au (AB GG (AB Em AG))) (AB (fC (.int 7)) AG))))
 (AN (Am 6 (AK A5 (AB (AK Au (AB GG (AB Em AG))) (AB (fC (.int 8)) AG))))
 (AN (CI (AR IO (AF A7 WF MF) (fC (.int 6)))
  (Am 2 (AK Ba (AB LT (AB WF (AB (nm 6) AG)))))
  BH)
 (AN (Am 7 (AF Eo (fC ph) LT))
 (AN (CI (Lm (AR LE Go (AF A7 WF MF)) (AR LE (AF A7 WF MF) (fC (.int 7))))
  (Am 7 (AK Cj (AB (nm 7) (AB WF (AB (nm 6) AG)))))
  BH)
 (A9 (AK g (AB (nm 7) AG)))))))))))))
noncomputable def Yw(Cj:MD)(Ba:MD)(Au:MD)(CA:MD)(De:MD)(A5:MD)(g:MD)(Df:MD)(CV:rW):MD:=Ca yN xB (jC Cj Ba Au CA De A5 g Df CV)
def q8{k:Nat}{Cj:MD}{Ba:MD}{Au:MD}{CA:MD}{De:MD}{A5:MD}{Ew:MD}{Df:MD}{CV:rW}(F:Fn K mg "law" ji yN f fd) {M:AD}{U:F0a}(Iz:Fn K mg "_law_bent" LY Os M U)(La:Ah P w K mg base A4 k M U Os (BV Cj)) {Jm:AD}{JP:F0a}(E2:Fn K mg "_law_bent_lines" GW On Jm JP)(GY:Ah P w K mg base A4 k Jm JP On (BV Ba)) {E5:AD}{Ec:F0a}(Cq:Fn K mg "_law_cell_at" GL JQ E5 Ec)(DQ:Ah P w K mg base A4 k E5 Ec JQ (BV Au)) {ND:AD}{MO:F0a}(Gw:Fn K mg "_law_change" Jc Pw ND MO)(JT:Ah P w K mg base A4 k ND MO Pw (BV CA)) {l:AD}{T:F0a}(Iu:Fn K mg "_law_line" Lg wf l T)(Ln:Ah P w K mg base A4 k l T wf (BV De)) {GA:AD}{Fj:F0a}(Ci:Fn K mg "_law_mixed" Hv jw GA Fj)(C7:Ah P w K mg base A4 k GA Fj jw (BV A5)) {R:AD}{Y:F0a}(Gm:Fn K mg "_law_read" Gn No R Y)(Iy:CT P w K mg base A4 k R Y No (BV Ew)) {I:AD}{Z:F0a}(Iq:Fn K mg "_law_rest" LS JQ I Z)(LP:Ah P w K mg base A4 k I Z JQ (BV Df)) {MI:AD}{LB:F0a}(GR:Fn K mg "shown_change" Ic l0 MI LB)(IL:Ah P w K mg base kr k MI LB l0 (Kb CV))(AW:js)(Ak:PR)(EA:mg "list" = none)(CS:zAC)(Mr:mg "str" = none):CT P w K mg base A4 ii f fd yN (BV (Yw Cj Ba Au CA De A5 Ew Df CV)):=V1 F fR fun cdv A outer s H E g=>by
 have sc:=fR;exact(Bo (DS.r (Al (i:=1) sc.nd rfl (Or.inr rfl) (BE Gw JT g rfl (AE (BE Iq LP g rfl (AE EZ (AE AJ AL))) (AE AJ (AE AJ AL)))))) (Bo (DS.r (Hf (i:=2) [".0","_law_k","_law_change_here"] 1 [none,none,some 1] sc.nd rfl rfl (F6 rfl CS (AE (BJ C6 rfl Ak aO zBN) AL)) bd (fun _ _ _ _ _=>(BE Iu Ln g rfl (AE FB (AE (Bn Hq FB FS) AL)))))) (Bo (DS.r (Hf (i:=3) [".0","_law_some"] 1 [none,none] sc.nd rfl rfl (EI FB) bd (fun _ _ _ _ _=>(EC mY rfl EA bR zBN)))) (Bo (DS.r (Al (i:=4) sc.nd rfl Do (BE GR (rR IL) g rfl zBq))) (Bo (fU (Xu.rt (Uh (DT.r (Gi (FX (Rn (gm _) rfl AW rfl Mr PyProof.Rows.boot_str Tk)))) (Uh (DT.r (Ai (EK Ch) Tk (G8 Ad Hq) NA)) (Uh (DT.r (Ai (EK Ch) M1 FB NA)) (my (kx (mH (FT Gm Iy g rfl (DA.r (AE Tk AL)))))))))) (JG.r (Aa (A6 Ox))) (JG.r BA)) (Bo (DS.r (Al (i:=5) sc.nd rfl Do zBv)) (Bo (DS.r (Al (i:=6) sc.nd rfl Do zBv)) (Bo (DS.r (Bl (Ai Jw (AV BD Rh AJ) AJ NA)
  (Aa (Al (i:=2) sc.nd rfl Do (BE E2 GY g rfl (AE Hq (AE Rh (AE (AA (pv 6)) AL))))))
  BA)) (Bo (DS.r (Al (i:=7) sc.nd rfl Do (G8 Ad Hq))) (Bo (DS.r (Bl (DW.dt (V0 (Ai MX AJ (AV BD Rh AJ) NA) (DL (Ai MX (AV BD Rh AJ) AJ NA))))
  (Aa (Al (i:=7) sc.nd rfl Do (BE Iz La g rfl (AE (AA (pv 7)) (AE Rh (AE (AA (pv 6)) AL))))))
  BA)) (IW (Sx (FT Gm Iy g rfl (DA.r (AE (AA (pv 7)) AL)))))))))))))))
end
section
variable{P:F0b}{w:F0c}{K:Fg}{mg:vf}{base:Heap}{CX:Gh}{k:Nat}{f:AD}{fd:F0a}{ps:vo}
def NV(ds:vc):vg:=match ds with
 |[.int t,.int b]=>if b≠0/\b.natAbs<2^400 then some (Bi (Rat.divInt t b)) else none
 |_=>none
def uZ(F:Ah P w K mg base CX k f fd ps qb):Ah P w K mg base CX k f fd ps (BV NV) :=
 X3 F fun ds x hm G H vs Q E d e kk=>by
  unfold NV at hm;split at hm
  .split at hm
   .rename_i I;cases hm;obtain⟨v1,v2,rfl,R,d2⟩:=d.YF;rw[Du]at R d2;subst R d2;refine⟨_,_,400,rfl,I.1,by decide,I.2,fun l H' M g=>?_⟩;obtain⟨G',Z,Y,U,T⟩:=tL e M g (Kn [(Rat.divInt _ _).num,((Rat.divInt _ _).den:Int)]);exact kk _ G' H' Z Y U M T
   .cases hm
  .cases hm
end
namespace Tx
abbrev sep(c:Nat):Str:=⟨#[c]⟩
def BL{x y:Str}(h:x.cps.toList=y.cps.toList):x=y:=by
 cases x;cases y;simp only at h;rw[Array.toList_inj.mp h]
def app_list(x y:Str):(x++y).cps.toList=x.cps.toList++y.cps.toList:=by
 show(x.cps++y.cps).toList=_;rw[Array.toList_append]
def join_one(c:Nat)(p:Str):Str.join (sep c) [p]=p:=rfl
def B6(c:Nat)(p q:Str)(r:vo):(Str.join (sep c) (p::q::r)).cps.toList=p.cps.toList++c::(Str.join (sep c) (q::r)).cps.toList:=by
 show(p++sep c++Str.join (sep c) (q::r)).cps.toList=_;rw[app_list,app_list,(Ms)];rfl
theorem Wd{c:Nat}:∀ {a b:wH} {x y:wH},c ∉ a->c ∉ b->a++c::x=b++c::y->a=b/\x=y
 |[],[],x,y,_,_,h=>⟨rfl,by simpa using h⟩
 |[],M::b,x,y,_,g,h=>by simp at h;exact absurd h.1 (fun z=>g (by rw[z];simp))
 |a0::a,[],x,y,ha,_,h=>by simp at h;exact absurd h.1 (fun z=>ha (by rw[<-z];simp))
 |a0::a,M::b,x,y,ha,g,h=>by
  simp only[List.cons_append,List.cons.injEq]at h;obtain⟨I,l⟩:=Wd (fun z=>ha (aT _ z)) (fun z=>g (aT _ z)) h.2;exact⟨by rw[h.1,I],l⟩
theorem S5{c:Nat}:∀ {ps qs:N1},ps≠[]->qs≠[]->(∀p∈ps,c ∉ p.cps.toList)->(∀p∈qs,c ∉ p.cps.toList)->Str.join (sep c) ps=Str.join (sep c) qs->ps=qs
 |[],_,h,_,_,_,_=>absurd rfl h
 |_,[],_,h,_,_,_=>absurd rfl h
 |[p],[q],_,_,_,_,h=>by rw[show p=q from h]
 |[p],q::M::r,_,_,l,_,h=>by
  have e:=aH (fun z:Str=>z.cps.toList) h;simp only[B6,join_one]at e;exact absurd (by rw[e];simp) (l p A1)
 |p::R::r,[q],_,_,_,g,h=>by
  have e:=aH (fun z:Str=>z.cps.toList) h;simp only[B6,join_one]at e;exact absurd (by rw[<-e];simp) (g q A1)
 |p::R::r,q::M::T,_,_,l,g,h=>by
  have e:=aH (fun z:Str=>z.cps.toList) h;simp only[B6]at e;obtain⟨Y,U⟩:=Wd (l p A1) (g q A1) e;have:=S5 (ps:=R::r) (qs:=M::T) A1 A1 (fun z I=>l z (aT _ I)) (fun z I=>g z (aT _ I)) (BL U);rw[BL Y,this]
def FU(x:Str)(c:Nat):Txt.split x (sep c)≠[]:=fun h=>by
 have:=PyProof.Rows.split_pos x (sep c);rw[h]at this;simp at this
def IM{c:Nat}{ps:vo}(h0:ps≠[])(h:∀p∈ps,c ∉ p.cps.toList):Txt.split (Str.join (sep c) ps) (sep c)=ps :=
 S5 (FU _ _) h0 (StrLaws.split_free _ c) h (StrLaws.join_split _ _)
abbrev dg(n:Nat):List Nat:=(Nat.toDigits 10 n).map Char.toNat
def Qc(n:Nat):PySem.NumText.AllDigits (dg n):=by
 intro c l;obtain⟨I,g,e⟩:=aN.mp l;have r:=PyProof.Rows.digit_range (Nat.isDigit_of_mem_toDigits AS AS g);rw[<-e];exact r
def Nk(n:Nat):PySem.NumText.digitsVal (dg n)=n:=PySem.W.KIN.val_back n
def K6{n:Nat}(h:n<10):dg n=[n+48]:=by
 rw[dg,Nat.toDigits_of_lt_base h];have:∀d:Nat,d<10->(Nat.digitChar d).toNat=d+48:=by decide
 simp[this n h]
def UX{n:Nat}(h:10<=n):dg n=dg (n / 10)++[n % 10+48]:=by
 have hm:n % 10<10:=Nat.mod_lt n AS;have t:Nat.toDigits 10 (n / 10)++Nat.toDigits 10 (n % 10)=Nat.toDigits 10 (10*(n / 10)+n % 10):=Nat.toDigits_append_toDigits AS AC hm;rw[Nat.div_add_mod]at t;rw[dg,<-t,(Ja)];exact aH _ (K6 hm)
def Oo(n:Nat):dg n≠[]:=by
 by_cases h:n<10
 .rw[K6 h];simp
 .rw[UX AC];simp
def lz(n:Nat)(h:0<n):∀r,dg n≠48::r:=by
 induction n using Nat.strongRecOn with
 |_ n g=>
  intro r e;by_cases I:n<10
  .rw[K6 I]at e;simp at e;lia
  .rw[UX AC]at e;cases hd:dg (n / 10) with
   |nil=>exact Oo _ hd
   |cons a l=>
    rw[hd,List.cons_append]at e
    injection e with M _
    exact g (n / 10) AC AC l (by rw[hd,M])
def k7:∀(k:Nat) (l:vv),l.length=k->PySem.NumText.AllDigits l->l≠[]->(l.head? = some 48->l=[48])->dg (PySem.NumText.digitsVal l)=l:=by
 intro k
 induction k with
 |zero=>intro l T _ h;cases l<;>simp_all
 |succ k U=>
  intro l T hd M h0;rcases List.eq_nil_or_concat l with e|⟨r,d,e⟩
  .exact absurd e M
  subst e;rw[List.concat_eq_append]at *;have Y:=hd d A1;rw[PySem.NumText.digitsVal_snoc];by_cases I:r=[]
  .subst I;show dg (0*10+(d-48))=_;rw[K6 AC];simp;lia
  .have g:r.head?≠some 48:=fun z=>by
    cases r with
    |nil=>exact I rfl
    |cons a r'=>
     simp at z;subst z;have:=h0 A1;simp at this
   have R:=U r (by simp at T;lia) (fun c Z=>hd c (by simp[Z])) I (fun z=>absurd z g);have pos:0<PySem.NumText.digitsVal r:=by
    rcases Nat.eq_zero_or_pos (PySem.NumText.digitsVal r) with z|z
    .rw[z,K6 AS]at R;exact absurd (by rw[<-R];rfl) g
    .exact z
   rw[UX AC,show(PySem.NumText.digitsVal r*10+(d-48)) / 10=PySem.NumText.digitsVal r by lia,show(PySem.NumText.digitsVal r*10+(d-48)) % 10+48=d by lia,R]
end Tx
namespace Tx
theorem Kl:∀(l:wH) (p:Nat->Bool),l.drop (l.takeWhile p).length=l.dropWhile p
 |[],_=>rfl
 |a::l,p=>by
  cases h:p a with
  |true=>rw[List.takeWhile_cons_of_pos h,List.dropWhile_cons_of_pos h];exact Kl l p
  |false=>rw[List.takeWhile_cons_of_neg (by rw[h];decide),List.dropWhile_cons_of_neg (by rw[h];decide)];rfl
theorem VT:∀ {l:wH} {p:Nat->Bool} {c:Nat},c∈l.takeWhile p->p c=true
 |[],_,_,h=>by simp at h
 |a::l,p,c,h=>by
  cases ha:p a with
  |true=>
   rw[List.takeWhile_cons_of_pos ha]at h;rcases aI.mp h with z|z
   .rw[z];exact ha
   .exact VT z
  |false=>rw[List.takeWhile_cons_of_neg (by rw[ha];decide)]at h;simp at h
theorem fS:∀ {l:wH} {p:Nat->Bool},(∀c∈l,p c=true)->l.dropWhile p=[]
 |[],_,_=>rfl
 |a::l,p,h=>by rw[List.dropWhile_cons_of_pos (h a A1)];exact fS fun c g=>h c (by simp[g])
def uT(w:Str):(Txt.lstripChars w wJ).cps.toList=w.cps.toList.dropWhile yW:=by
 have g:(Str.ofString "-").cps.contains=fun c=>c==45:=by
  funext c
  show(#[45]:Array Nat).contains c=_;simp[Array.contains]
 show(Txt.stripBy _ true false w).cps.toList=_;rw[PyProof.Rows.stripBy_eq,(Uz),g];show(List.drop (List.takeWhile (fun c=>c==45) w.cps.toList).length w.cps.toList).take (w.length-_)=_;rw[Kl,List.take_of_length_le];rw[<-Kl,(Hl)];exact aG _
def CK(c:Nat):Bool:=48<=c&&c<=57
def uz:(Str.ofString "0123456789").cps.contains=CK:=by
 funext c
 have e:(Str.ofString "0123456789").cps=#[48,49,50,51,52,53,54,55,56,57]:=by decide +kernel
 rw[e];unfold CK;by_cases h:c<58
 .revert h;revert c;decide +kernel
 .have g:¬(c<=57):=by lia
  simp only[Array.contains_eq_any_beq]at *;simp[g];lia
def Z0(w:Str):Txt.stripChars w M0=Str.ofString "" ↔ ∀c∈w.cps.toList,CK c=true:=by
 show Txt.stripBy _ true true w=_ ↔ _;rw[PyProof.Rows.stripBy_eq,uz];have em:∀x:Str,x=Str.ofString "" ↔ x.cps.toList=[]:=fun x=>⟨fun h=>by rw[h];rfl,fun h=>BL (by rw[h];rfl)⟩;rw[em,(Uz)];show(List.drop (List.takeWhile CK w.cps.toList).length w.cps.toList).take _=[] ↔ _;have g:w.length=w.cps.toList.length:=by simp[Str.length]
 rw[Kl];have hi:stripHi CK true w (stripLo CK true w)-stripLo CK true w=((w.cps.toList.dropWhile CK).reverse.dropWhile CK).length:=by
  show w.length-((w.cps.toList.drop (List.takeWhile CK w.cps.toList).length).reverse.takeWhile CK).length-(List.takeWhile CK w.cps.toList).length=_;rw[Kl,g];have a1:=aH List.length (bH (p:=CK) (l:=w.cps.toList));have a2:=aH List.length (bH (p:=CK) (l:=(w.cps.toList.dropWhile CK).reverse));rw[(EB)]at a1 a2;rw[(U9)]at a2
  lia
 rw[hi];generalize w.cps.toList=l;constructor
 .intro h c M;cases hd:l.dropWhile CK with
  |nil=>
   have:=bH (p:=CK) (l:=l);rw[hd,(GZ)]at this;rw[<-this]at M;exact VT M
  |cons a r=>
   have ha:CK a=false:=by
    have:=List.head?_dropWhile_not CK l;rw[hd]at this;simpa using this
   have:a∈(l.dropWhile CK).reverse.dropWhile CK:=by
    rw[hd,(SU)];have e:=bH (p:=CK) (l:=r.reverse++[a]);have m:a∈r.reverse++[a]:=by simp
    rw[<-e]at m;rcases ae.mp m with z|z
    .have:=VT z;rw[ha]at this;cases this
    .exact z
   have I:0<((l.dropWhile CK).reverse.dropWhile CK).length:=List.length_pos_of_mem this;rw[hd]at h I;cases hn:((a::r).reverse.dropWhile CK).length with
   |zero=>rw[hn]at I;cases I
   |succ n=>rw[hn]at h;cases h
 .intro h;rw[fS h];rfl
end Tx
namespace Tx
def Bh(i:Int):vv:=if i<0 then 45::dg i.natAbs else dg i.natAbs
def toS(i:Int):(Str.ofString (toString i)).cps.toList=Bh i:=by
 cases i with
 |ofNat n=>exact PySem.W.KIN.signs_num n
 |negSucc n=>
  rw[PyProof.Rows.signs_ofString];show("-" ++ Nat.repr (n+1)).toList.map Char.toNat=_;rw[String.toList_append,(Ja)];show 45::(Nat.repr (n+1)).toList.map Char.toNat=_;rw[Nat.toList_repr,Bh,if_pos (Int.negSucc_lt_zero n)];rfl
def Gj(t b:Int):Str:=⟨(Bh t++(if b=1 then [] else 47::Bh b)).toArray⟩
def DP(t b:Int):(Gj t b).cps.toList=Bh t++(if b=1 then [] else 47::Bh b):=by simp[Gj]
def Kd{n c:Nat}(h:c∈dg n):48<=c/\c<=57:=Qc n c h
def MC{i:Int}{c:Nat}(h:c∈Bh i):c=45\/(48<=c/\c<=57):=by
 unfold Bh at h;split at h
 .rcases aI.mp h with z|z
  .exact .inl z
  .exact .inr (Kd z)
 .exact .inr (Kd h)
def Ik{i:Int}:47 ∉ Bh i:=fun h=>by rcases MC h with z|z<;>lia
def Mt(i:Int):(Bh i).dropWhile yW=dg i.natAbs:=by
 have h0:(dg i.natAbs).dropWhile yW=dg i.natAbs:=by
  cases h:dg i.natAbs with
  |nil=>rfl
  |cons a l=>
   have:=Kd (n:=i.natAbs) (c:=a) (by rw[h];simp);exact List.dropWhile_cons_of_neg ll
 unfold Bh;split
 .rw[List.dropWhile_cons_of_pos (by rfl)];exact h0
 .exact h0
def Bt(l:vv):Str:=⟨l.toArray⟩
def Ao(l:vv):(Bt l).cps.toList=l:=by simp[Bt]
def SS(i:Int):(Bh i).length<=(dg i.natAbs).length+1:=by unfold Bh;split<;>simp
def ku{w:Str}{i:Int}(h:w.cps.toList=Bh i)(l:(dg i.natAbs).length<=40):PySem.intText? w=some i:=by
 have g:w.length<=4300:=by
  have e:w.length=w.cps.toList.length:=by simp[Str.length]
  rw[e,h];have:=SS i;lia
 unfold Bh at h;split at h
 .rename_i hi;rw[PySem.intText_neg h (Qc _) (Oo _) g,Nk];congr 1;lia
 .rename_i hi;rw[PySem.intText_digits (by rw[h];exact Qc _) (by rw[h];exact Oo _) g,h,Nk];congr 1;lia
def wI(w:Str):vt:=if 40<(w.cps.toList.dropWhile yW).length then none else PySem.intText? w
def Vr{w:Str}{i:Int}(h:w.cps.toList=Bh i)(g:(dg i.natAbs).length<=40):wI w=some i:=by
 unfold wI;rw[h,Mt,if_neg AC];exact ku h g
def rd(w:Str):Option (Int×Int):=match Txt.split w (sep 47) with
 |[]=>none
 |[p]=>(wI p).bind fun t=>if Gj t 1=w then some (t,1) else none
 |p::q::_=>(wI p).bind fun t=>(wI q).bind fun b=>if 1<=b/\FM.gi t b=1/\Gj t b=w then some (t,b) else none
def nm(t:vv):Option Nat:=if t=[]\/40<t.length\/¬(∀c∈t,CK c=true)\/(t.head? = some 48/\t≠[48]) then none else some (PySem.NumText.digitsVal t)
def Zi{n:Nat}(h:(dg n).length<=40):nm (dg n)=some n:=by
 unfold nm;rw[if_neg,Nk];rintro(z|z|z|⟨g,l⟩)
 .exact Oo _ z
 .lia
 .exact z fun c I=>by have:=Kd I;unfold CK;simp;lia
 .rcases Nat.eq_zero_or_pos n with e|e
  .subst e;exact l (K6 AS)
  .cases hd:dg n with
   |nil=>exact Oo _ hd
   |cons a r=>rw[hd]at g;simp at g;exact lz n e r (by rw[hd,g])
def Yd{t:vv}{n:Nat}(h:nm t=some n):t=dg n/\t.length<=40:=by
 unfold nm at h;split at h
 .cases h
 .rename_i g;cases h;have M:t≠[]:=fun z=>g (.inl z);have I:t.length<=40:=by
   rcases Nat.lt_or_ge 40 t.length with z|z
   .exact absurd (.inr (.inl z)) g
   .exact z
  have l:∀c∈t,CK c=true:=by
   apply bJ;intro z;exact g (.inr (.inr (.inl z)))
  refine⟨(k7 t.length t rfl (fun c g=>?_) M fun z=>?_).symm,I⟩
  .have:=l c g;unfold CK at this;simp at this;exact this
  .apply bJ;intro y;exact g (.inr (.inr (.inr ⟨z,y⟩)))
def sg(low:Bool)(n:Nat):Int:=if low then -(n:Int) else n
def lf(w:Str):Option (Int×Int):=match Txt.split w (sep 47) with
 |[]=>none
 |p::r=>
  let low:=decide yr
  (nm (p.cps.toList.drop (if low then 1 else 0))).bind fun n=>if(low=true/\n=0)\/2<(p::r).length then none else
   match r with
   |[]=>some (sg low n,1)
   |q::_=>(nm q.cps.toList).bind fun b=>if b<2 then none else if FM.gi n b=1 then some (sg low n,b) else none
def UN(x:Str):∃p r,Txt.split x (sep 47)=p::r/\(∀z∈p::r,47 ∉ z.cps.toList)/\Str.join (sep 47) (p::r)=x:=by
 cases h:Txt.split x (sep 47) with
 |nil=>exact absurd h (FU _ _)
 |cons p r=>exact⟨p,r,rfl,h ▸ StrLaws.split_free x 47,h ▸ StrLaws.join_split x (sep 47)⟩
def split1{w:Str}(h:47 ∉ w.cps.toList):Txt.split w (sep 47)=[w]:=IM (ps:=[w]) A1 w9
def cK{w p q:Str}(l:w.cps.toList=p.cps.toList++47::q.cps.toList)(M:47 ∉ p.cps.toList)(I:47 ∉ q.cps.toList):Txt.split w (sep 47)=[p,q]:=by
 have e:w=Str.join (sep 47) [p,q]:=BL (by rw[B6,l];rfl);rw[e];exact IM A1 (by intro z g;rcases aI.mp g with rfl|g;exact M;rw[List.mem_singleton.mp g];exact I)
def cC(t b:Int):FM.gi (t.natAbs:Nat) b=FM.gi t b:=by unfold FM.gi;rw[Int.gcd,Int.gcd];rfl
def dq(i:Int):sg (decide (i<0)) i.natAbs=i:=by unfold sg;by_cases h:i<0<;>simp[h]<;>lia
def WA(i:Int)(x:vv):(Bh i++x).head? = some 45 ↔ i<0:=by
 unfold Bh;split
 .rename_i h;simp[h]
 .rename_i h;cases hd:dg i.natAbs with
  |nil=>exact absurd hd (Oo _)
  |cons a l=>
   have:=Kd (n:=i.natAbs) (c:=a) (by rw[hd];simp);simp;lia
def YH(i:Int):(Bh i).drop (if decide (i<0)=true then 1 else 0)=dg i.natAbs:=by
 unfold Bh;by_cases h:i<0<;>simp[h]
def ZV{t b:Int}(Z:1<=b)(T:FM.gi t b=1)(I:(dg t.natAbs).length<=40)(U:(dg b.natAbs).length<=40):rd (Gj t b)=some (t,b)/\lf (Gj t b)=some (t,b):=by
 have g:=DP t b;by_cases e:b=1
 .rw[if_pos e,(GZ)]at g;have l:Txt.split (Gj t b) (sep 47)=[Gj t b]:=split1 (by rw[g];exact Ik);subst e;refine⟨?_,?_⟩
  .unfold rd;rw[l];show(wI _).bind _=_;rw[Vr g I];exact if_pos rfl
  .unfold lf;rw[l];show(nm (List.drop _ _)).bind _=_;have hd:decide ((Gj t 1).cps.toList.head? = some 45)=decide (t<0):=by
    rw[g,<-List.append_nil (Bh t)];exact decide_eq_decide.mpr (WA t [])
   rw[hd,g,YH,Zi I,zo,if_neg]
   .show some (sg _ _,(1:Int))=_;rw[dq]
   .rintro(⟨M,Y⟩|z)
    .simp at M;lia
    .simp at z
 .rw[if_neg e]at g;have l:Txt.split (Gj t b) (sep 47)=[Bt (Bh t),Bt (Bh b)]:=cK (by rw[g,Ao,Ao]) (by rw[Ao];exact Ik) (by rw[Ao];exact Ik);refine⟨?_,?_⟩
  .unfold rd;rw[l];show(wI _).bind _=_;rw[Vr (Ao _) I,zo,Vr (Ao _) U,zo];exact if_pos ⟨Z,T,rfl⟩
  .unfold lf;rw[l];show(nm (List.drop _ _)).bind _=_;have hd:decide ((Gj t b).cps.toList.head? = some 45)=decide (t<0):=by rw[g];exact decide_eq_decide.mpr (WA t _)
   have R:¬b<0:=by lia
   rw[hd,Ao,YH,Zi I,zo,if_neg]
   .show(nm (Bt (Bh b)).cps.toList).bind _=_;rw[Ao];have eb:Bh b=dg b.natAbs:=by unfold Bh;rw[if_neg R]
    rw[eb,Zi U,zo,if_neg AC,if_pos (by
     have e1:((b.natAbs:Nat):Int)=b:=by lia
     rw[e1,cC];exact T)]
    rw[dq]
    congr 2;lia
   .rintro(⟨M,Y⟩|z)
    .simp at M;lia
    .simp at z
end Tx
namespace Tx
structure Fr(w:Str)(t b:Int):Prop where
 pos:1<=b
 low:FM.gi t b=1
 top:(dg t.natAbs).length<=40
 bot:(dg b.natAbs).length<=40
 txt:Gj t b=w
def Rl{w:Str}{i:Int}(h:wI w=some i):(w.cps.toList.dropWhile yW).length<=40:=by
 unfold wI at h;split at h
 .cases h
 .lia
def RX(t:Int):FM.gi t 1=1:=by unfold FM.gi;simp
def jX{w:Str}{t b:Int}(h:rd w=some (t,b)):Fr w t b:=by
 obtain⟨p,r,I,hf,Z⟩:=UN w;unfold rd at h;rw[I]at h;cases r with
 |nil=>
  obtain⟨Y,R,g⟩:=aA.mp h;split at g
  .rename_i e;cases g;have ep:p=w:=Z;have el:p.cps.toList=Bh t:=by rw[ep,<-e,DP];simp
   have:=Rl R;rw[el,Mt]at this;exact⟨by decide,RX t,this,by decide,e⟩
  .cases g
 |cons q r=>
  obtain⟨Y,R,g⟩:=aA.mp h;obtain⟨b',h3,M⟩:=aA.mp g;split at M
  .rename_i e;cases M;have l:=DP t b;by_cases U:b=1
   .rw[if_pos U,(GZ),e.2.2]at l;have:=split1 (w:=w) (by rw[l];exact Ik);rw[I]at this;cases this
   .rw[if_neg U,e.2.2]at l;have:=cK (w:=w) (p:=Bt (Bh t)) (q:=Bt (Bh b)) (by rw[l,Ao,Ao]) (by rw[Ao];exact Ik) (by rw[Ao];exact Ik);rw[I]at this
    injection this with e2 T
    injection T with T _
    have a1:=Rl R;have a2:=Rl h3;rw[e2,Ao,Mt]at a1;rw[T,Ao,Mt]at a2;exact⟨e.1,e.2.1,a1,a2,e.2.2⟩
  .cases M
def oA{low:Bool}{n:Nat}(h:¬(low=true/\n=0)):Bh (sg low n)=(if low then [45] else [])++dg n:=by
 cases low with
 |false=>unfold Bh sg;rw[if_neg A1];simp
 |true=>
  have:n≠0:=fun z=>h ⟨rfl,z⟩;unfold Bh sg;rw[if_pos ll];simp
def V5(low:Bool)(n:Nat):(sg low n).natAbs=n:=by cases low<;>simp[sg]
def jV{w:Str}{t b:Int}(h:lf w=some (t,b)):Fr w t b:=by
 obtain⟨p,r,hs,hf,hj⟩:=UN w;unfold lf at h;rw[hs]at h;obtain⟨n,h1,Z⟩:=aA.mp h;clear h;obtain⟨R,l1⟩:=Yd h1;generalize U:decide yr=low at h1 Z R l1;split at Z
 .cases Z
 .rename_i hc;have hn:¬(low=true/\n=0):=fun z=>hc (.inl z);have hp:p.cps.toList=Bh (sg low n):=by
   rw[oA hn];cases low with
   |false=>simpa using R
   |true=>
    have M:=aU U;have I:p.cps.toList.head? = some 45:=by
     cases r with
     |nil=>rw[show p=w from hj];exact M
     |cons q r=>
      rw[<-hj,B6]at M;cases g:p.cps.toList with
      |nil=>rw[g]at M;simp at M
      |cons a l=>rw[g]at M;simpa using M
    cases g:p.cps.toList with
    |nil=>rw[g]at I;simp at I
    |cons a l=>rw[g]at I R;simp at I R ⊢;exact⟨I,R⟩
  have T:(dg n).length<=40:=by rw[<-R];exact l1
  cases r with
  |nil=>
   cases Z;have ep:p=w:=hj;refine⟨by decide,RX _,by rw[V5];exact T,by decide,BL ?_⟩;rw[DP,if_pos rfl,(GZ),<-ep];exact hp.symm
  |cons q r=>
   obtain⟨m,h3,Y⟩:=aA.mp Z;obtain⟨e3,l3⟩:=Yd h3;split at Y
   .cases Y
   .rename_i hm;split at Y
    .rename_i hg;cases Y;have hr:r=[]:=by
      cases r with
      |nil=>rfl
      |cons a l=>exact absurd (.inr A1) hc
     subst hr;have l3':(dg m).length<=40:=by rw[<-e3];exact l3
     have em:Bh (m:Int)=dg m:=by unfold Bh;rw[if_neg AC];simp
     refine⟨by lia,?_,by rw[V5];exact T,by simpa using l3',BL ?_⟩
     .rw[<-cC,V5];exact hg
     .rw[DP,if_neg AC,<-hj,B6,hp,em,<-e3];rfl
    .cases Y
end Tx
namespace Tx
theorem Tb:∀(cs:wH) {p q:Array Nat×Bool},(∀d∈p.1.toList,d<10)->cs.foldlM (PySem.NumText.step 10) p=some q->∀d∈q.1.toList,d<10
 |[],p,q,l,h=>by cases h;exact l
 |c::cs,p,q,l,h=>by
  rw[List.foldlM_cons]at h;obtain⟨r,g,M⟩:=aA.mp h;refine Tb cs ?_ M;unfold PySem.NumText.step at g;split at g
  .split at g
   .cases g;exact l
   .cases g
  .split at g
   .split at g
    .rename_i d _ hd;cases g;intro e I;simp at I;rcases I with z|z
     .exact l e (by simpa using z)
     .rw[z];exact hd
    .cases g
   .cases g
def qr{cs:vv}{ds:vi}(h:PySem.NumText.digits? 10 cs=some ds):∀d∈ds.toList,d<10:=by
 unfold PySem.NumText.digits? at h;obtain⟨q,l,g⟩:=aA.mp h;split at g
 .cases g;exact Tb cs A1 l
 .cases g
theorem WU:∀(l:wH) (a k:Nat),(∀d∈l,d<10)->a<10^k->l.foldl (fun g d=>g*10+d) a<10^(k+l.length)
 |[],a,k,_,h=>h
 |d::l,a,k,hd,h=>by
  rw[List.foldl_cons,(Fv),show k+(l.length+1)=ii+l.length by lia];refine WU l _ ii (fun e I=>hd e (by simp[I])) ?_;have:=hd d A1;rw[Nat.pow_succ];lia
def gn{r:vv}:PySem.NumText.digits? 10 (45::r)=none:=by
 unfold PySem.NumText.digits?;rw[List.foldlM_cons];have:PySem.NumText.step 10 ((#[]:Array Nat),false) 45=none:=by decide +kernel
 rw[this];rfl
def iU(r:vv):∃s,PySem.NumText.core (45::45::r)=45::s:=by
 unfold PySem.NumText.core;have I:(45::45::r).dropWhile PySem.NumText.blank=45::45::r:=List.dropWhile_cons_of_neg AS;rw[I];show ∃s,((45::r).reverse.dropWhile PySem.NumText.blank).reverse=45::s;rw[(SU)];have:∀l:List Nat,∃m,(l++[45]).dropWhile PySem.NumText.blank=m++[45]:=fun l=>by
  induction l with
  |nil=>exact⟨[],by rfl⟩
  |cons a l g=>
   cases h:PySem.NumText.blank a with
   |true=>rw[List.cons_append,List.dropWhile_cons_of_pos h];exact g
   |false=>exact⟨a::l,by rw[List.cons_append,List.dropWhile_cons_of_neg (by rw[h];decide)]⟩
 obtain⟨m,hm⟩:=this r.reverse;rw[hm];exact⟨m.reverse,by simp⟩
def sT{w:Str}{n:Int}(ha:Bg w=true)(h:wI w=some n):n.natAbs<10^41:=by
 have M:=Rl h;unfold wI at h;split at h
 .cases h
 .unfold PySem.intText? at h;split at h
  .rename_i e;have R:w.cps.all (· < 128)=true:=by rw[<-Array.all_toList];exact ha
   have en:PySem.numTextOf w=w.cps.toList:=by
    show(if w.cps.all (· < 128) then w.cps.toList else _)=_;rw[if_pos R]
   have es:PySem.numSeenOf w=w.cps.toList:=by
    have h1:PySem.numSeenOf w=(PySem.numTextOf w).takeWhile (· != 0):=rfl;rw[h1,en]at e ⊢;have e':=bG.mp e;have:=bH (p:=(· != 0)) (l:=w.cps.toList);have hd:w.cps.toList.dropWhile (· != 0)=[]:=by
     have:=aH List.length this;rw[(EB)]at this;exact List.eq_nil_of_length_eq_zero AC
    rw[hd,(GZ)]at this;exact this
   rw[es]at h;split at h
   .rename_i ds g;split at h
    .cases h;have hlen:w.cps.toList.length<=41:=by
      cases hw:w.cps.toList with
      |nil=>simp
      |cons a r=>
       rw[hw]at M g;by_cases T:a=45
       .subst T;rw[List.dropWhile_cons_of_pos (by rfl)]at M;cases r with
        |nil=>simp
        |cons b r=>
         by_cases hb:b=45
         .subst hb;obtain⟨s,hs⟩:=iU r;rw[hs,gn]at g;cases g
         .rw[List.dropWhile_cons_of_neg (by simpa using hb)]at M;simp at M ⊢;lia
       .rw[List.dropWhile_cons_of_neg (by simpa using T)]at M;simp at M ⊢;lia
     have U:ds.toList.length<=41:=by
      have:=PySem.NumText.digits_size g;have:=PySem.NumText.core_length w.cps.toList;simp;lia
     have Z:=WU ds.toList 0 0 (qr g) AS;rw[Nat.zero_add]at Z;have I:ds.toList.foldl (fun Y d=>Y*10+d) 0<10^41:=aJ Z (bN AS U);rw[Array.foldl_toList]at I;unfold PySem.NumText.worth;split
     .rw[Int.natAbs_neg,Int.natAbs_natCast];exact I
     .rw[Int.natAbs_natCast];exact I
    .cases h
   .cases h
  .cases h
end Tx
namespace Tx
open PySem.StrLaws PySem.Builtin.Str
abbrev s3(c:Nat):Str:=⟨#[32,c,32]⟩
def ZP{x:Str}{c k:Nat}(h:At x yt x.length k):x.cps.toList[k]? = some 32:=by
 have l:=h.2;rw[subAt_eq]at l;have g:=bG.mp l;have:((x.cps.toList.drop k).take 3)[0]? = some 32:=by
  have e:(s3 c).length=3:=rfl;rw[e]at g;rw[g];rfl
 rw[List.getElem?_take_of_lt AS,List.getElem?_drop]at this
 simpa using this
def at_of{x:Str}{c k:Nat}{l:vv}(h:x.cps.toList.drop k=32::c::32::l):At x yt x.length k:=by
 have g:=aH List.length h;simp only[List.length_drop,List.length_cons]at g;have:x.length=x.cps.toList.length:=by simp[Str.length]
 refine⟨by show k+3<=_;lia,?_⟩;rw[subAt_eq,h];show([32,c,32]==[32,c,32])=true;exact beq_self_eq_true _
def Y1{c:Nat}(t u:Str)(r:vo):(Str.join yt (t::u::r)).cps.toList=t.cps.toList++32::c::32::(Str.join yt (u::r)).cps.toList:=by
 show(t++s3 c++Str.join yt (u::r)).cps.toList=_;rw[app_list,app_list,(Ms)];rfl
theorem dB{x:Str}{c:Nat}:∀ {ts:N1} {a f:Nat} {g:wH},ts≠[]->(∀t∈ts,32 ∉ t.cps.toList)->a<=x.length->x.cps.toList.drop a=(Str.join yt ts).cps.toList->ChainG x yt x.length a g f->(∀k,f<=k->¬At x yt x.length k)->partsFrom x 3 a g=ts
 |[],_,_,_,h,_,_,_,_,_=>absurd rfl h
 |[t],a,f,g,_,M,ha,hd,I,hn=>by
  have no:∀k,a<=k->¬At x yt x.length k:=fun k hk T=>by
   have:=ZP T;have e:x.cps.toList[k]? = t.cps.toList[k-a]? := by rw[<-show(x.cps.toList.drop a)[k-a]? = x.cps.toList[k]? by rw[List.getElem?_drop];congr 1;lia,hd];rfl
   rw[e]at this;exact M t EQ (ar this)
  cases g with
  |nil=>
   show [strSub x a x.length]=_
   congr 1
   refine BL ?_;rw[strSub_toList,hd];have R:=aH List.length hd;have l:x.length=x.cps.toList.length:=by simp[Str.length]
   rw[(Hl)]at R;exact List.take_of_length_le (by show t.cps.toList.length<=_;have:(Str.join yt [t]).cps.toList.length=t.cps.toList.length:=rfl;lia)
  |cons d r=>exact absurd I.2.1 (no d I.1)
 |t::u::r,a,f,g,_,M,ha,hd,I,hn=>by
  rw[Y1]at hd;have l:x.length=x.cps.toList.length:=by simp[Str.length]
  have R:=aH List.length hd;simp only[List.length_drop,List.length_append,List.length_cons]at R;have Z:x.cps.toList.drop (a+t.cps.toList.length)=32::c::32::(Str.join yt (u::r)).cps.toList:=by rw[<-List.drop_drop,hd,List.drop_left]
  have A0:=at_of Z;have no:∀k,a<=k->k<a+t.cps.toList.length->¬At x yt x.length k:=fun k Y U T=>by
   have:=ZP T;have e:x.cps.toList[k]? = t.cps.toList[k-a]? := by
    rw[<-show(x.cps.toList.drop a)[k-a]? = x.cps.toList[k]? by rw[List.getElem?_drop];congr 1;lia,hd,List.getElem?_append_left AC]
   rw[e]at this;exact M t EQ (ar this)
  cases g with
  |nil=>have e:f=a:=I;subst e;exact absurd A0 (hn _ AC)
  |cons d q=>
   obtain⟨Y,U,h3,h4⟩:=I;have ed:d=a+t.cps.toList.length:=by
    rcases Nat.lt_trichotomy d (a+t.cps.toList.length) with z|z|z
    .exact absurd U (no d Y z)
    .exact z
    .exact absurd A0 (h3 _ AC z)
   subst ed;have d3:x.cps.toList.drop (a+t.cps.toList.length+3)=(Str.join yt (u::r)).cps.toList:=by rw[<-List.drop_drop,Z];rfl
   show strSub x a _::partsFrom x 3 (a+t.cps.toList.length+3) q=_;rw[dB A1 (fun z hz=>M z (.tail _ hz)) AC d3 h4 hn]
   congr 1
   refine BL ?_;rw[strSub_toList,hd,Nat.add_sub_cancel_left];exact List.take_left' rfl
def fW{c:Nat}{ts:vo}(h0:ts≠[])(h:∀t∈ts,32 ∉ t.cps.toList)(M:c<256):Txt.split (Str.join yt ts) yt=ts:=by
 obtain⟨f,l,hn⟩:=occ_tight (Str.join yt ts) yt (show 1<=3 by decide);have key:=dB (a:=0) h0 h (aW _) rfl l hn;have one:(∀k,¬At (Str.join yt ts) yt (Str.join yt ts).length k)->[Str.join yt ts]=ts:=fun no=>by
  match ts,h0 with
  |[t],_=>rfl
  |t::u::r,_=>exact absurd (at_of (k:=t.cps.toList.length) (by rw[Y1,List.drop_left])) (no _)
 unfold Txt.split;split
 .rename_i g;refine one fun k R=>?_;rw[Bool.or_eq_true,decide_eq_true_eq,decide_eq_true_eq]at g;have Y:=R.1;rcases g with g|g
  .lia
  .have e:(s3 c).cps.all (· < 256)=true:=by simp;exact M
   unfold PySem.Builtin.Str.strKind at g;rw[if_pos e]at g;split at g
   .lia
   .split at g
    .lia
    .first|lia|(split at g<;>lia)
 .split
  .rename_i I;have U:=List.isEmpty_iff.mp I;rw[U]at l;have T:f=0:=l;subst T;exact one fun k=>hn k (aW _)
  .rw[partsBetween_eq];exact key
def inter(p:Str):List Str->List Str
 |[]=>[]
 |[a]=>[a]
 |a::b::r=>a::p::inter p (b::r)
theorem VU{p:Str}:∀ {ws:N1},Bx (inter p ws)=ws/\∀z∈Bx ((inter p ws).drop 1),z=p
 |[]=>⟨rfl,fun z g=>by cases g⟩
 |[a]=>⟨rfl,fun z g=>by cases g⟩
 |a::b::r=>by
  obtain⟨I,l⟩:=VU (p:=p) (ws:=b::r);have e:inter p (a::b::r)=a::p::inter p (b::r):=rfl;refine⟨by rw[e];show a::Bx (inter p (b::r))=_;rw[I],fun z g=>?_⟩;rw[e]at g;have M:inter p (b::r)=b::(inter p (b::r)).drop 1:=by cases r<;>rfl
  have:(a::p::inter p (b::r)).drop 1=p::b::(inter p (b::r)).drop 1:=by rw[<-M];rfl
  rw[this]at g;rcases aI.mp g with rfl|g
  .rfl
  .exact l z g
theorem TZ{p:Str}:∀ {ws:N1},ws≠[]->(inter p ws).length+1=2*ws.length
 |[],h=>absurd rfl h
 |[a],_=>rfl
 |a::b::r,_=>by have:=TZ (p:=p) (ws:=b::r) A1;simp only[inter,List.length_cons]at this ⊢;lia
theorem V4{p:Str}:∀(ws:N1),ws.length % 2=1->(∀z∈Bx (ws.drop 1),z=p)->inter p (Bx ws)=ws
 |[],h,_=>by simp at h
 |[a],_,_=>rfl
 |[a,b],h,_=>by simp at h
 |a::b::d::r,h,k=>by
  have I:b=p:=k b (by
   show b∈Bx (b::d::r);cases r<;>exact .head _)
  have g:=V4 (p:=p) (d::r) (by simp only[List.length_cons]at h ⊢;lia) fun z l=>k z (by
   show z∈Bx (b::d::r);exact .tail _ l)
  subst I;show inter b (a::Bx (d::r))=_;have e:∃q,Bx (d::r)=d::q:=by cases r with|nil=>exact⟨_,rfl⟩|cons x y=>exact⟨_,rfl⟩
  obtain⟨q,e⟩:=e;rw[e]at g ⊢;show a::b::inter b (d::q)=_;rw[g]
theorem He{c:Nat}:∀ {ws:N1},ws≠[]->Str.join (sep 32) (inter (sep c) ws)=Str.join yt ws
 |[],h=>absurd rfl h
 |[a],_=>rfl
 |a::b::r,_=>by
  have g:=He (c:=c) (ws:=b::r) A1;refine BL ?_;have e:∃q,inter (sep c) (b::r)=b::q:=by cases r with|nil=>exact⟨_,rfl⟩|cons x y=>exact⟨_,rfl⟩
  obtain⟨q,e⟩:=e;show(Str.join (sep 32) (a::sep c::inter (sep c) (b::r))).cps.toList=_;rw[Y1,<-g,e,B6,B6];rfl
end Tx
structure EM(w:Str):Prop where
 asc:Bg w=true
 len:w.length<=990
 low:w.cps.toList.count 45<=600
def HA:Option Int->PD
 |some n=>.int n
 |none=>.none
def Fq:Option (Int×Int)->PD
 |some q=>.tuple [.int q.1,.int q.2]
 |none=>.none
def BI(x:Str):x.length=x.cps.toList.length:=by simp[Str.length]
theorem eU:∀l:List Nat,l.length<=(l.dropWhile yW).length+l.count 45
 |[]=>aW _
 |a::l=>by
  by_cases h:a=45
  .subst h;rw[List.dropWhile_cons_of_pos (by rfl),List.count_cons_self];have:=eU l;simp;lia
  .rw[List.dropWhile_cons_of_neg w9];exact Nat.le_add_right _ _
def WD{w:Str}(h:EM w):Ck [.str w,.int 40]=some (HA (Tx.wI w)):=by
 have g:(Txt.lstripChars w wJ).length=(w.cps.toList.dropWhile yW).length:=by rw[BI,Tx.uT]
 have hle:(w.cps.toList.dropWhile yW).length<=990:=by
  have:=h.len;rw[BI]at this;exact aK (List.dropWhile_suffix yW).length_le this
 have R:KU u0 (.str wJ)=some (.str (Txt.lstripChars w wJ)):=if_pos (aK h.len AS);have M:DJ [.str (Txt.lstripChars w wJ)]=some (.int (w.cps.toList.dropWhile yW).length):=by
  rw[<-g];exact if_pos (by rw[g];exact aK hle AS)
 have test:∀b,decide ((40:Int)<((w.cps.toList.dropWhile yW).length:Nat))=b->AR IO (AK DJ (AB (AF KU GG (fC (.str wJ))) AG)) GT [.d u0,.d (.int 40)]=some b:=fun b I=>
  Af (AX (AQ (AI rfl rfl R) rfl) M) rfl (by rw[<-I];rfl)
 refine CF rfl ?_;show RI [.d u0,.d (.int 40)]=_;unfold Tx.wI;by_cases l:40<(w.cps.toList.dropWhile yW).length
 .rw[if_pos l];exact BW (BO (test true (aX AC)) rfl)
 .rw[if_neg l];refine AH (BC (test false (aV AC)) rfl) ?_;show(if w.length<=640/\Bg w=true then some (Ou.rt (match PySem.intText? w with|some n=>.int n|none=>.none)) else none)=_;rw[if_pos ⟨by have:=eU w.cps.toList;have:=h.low;rw[BI];lia,h.asc⟩];cases PySem.intText? w<;>rfl
def dF{i:Int}(h:i.natAbs.log2<1920):HJ wN=some (.str (Tx.Bt (Tx.Bh i))):=by
 have e:Str.ofString (toString i)=Tx.Bt (Tx.Bh i):=Tx.BL (by rw[Tx.toS,Tx.Ao]);rw[<-e];exact if_pos h
theorem MB:∀(k n:Nat),n<10^ii->(Tx.dg n).length<=k+1
 |0,n,h=>by rw[Tx.K6 w9];simp
 |k+1,n,h=>by
  by_cases g:n<10
  .rw[Tx.K6 g];simp
  .rw[Tx.UX AC,(EB)];have:=MB k (n / 10) (by rw[Nat.pow_succ]at h;lia);simp only[List.length_cons,List.length_nil];lia
def Ry{i:Int}(h:i.natAbs<10^41):i.natAbs.log2<1920:=by
 by_cases h0:i.natAbs=0
 .rw[h0];decide
 .exact(Nat.log2_lt h0).mpr (Nat.lt_trans h AS)
def HW{i:Int}(h:i.natAbs<10^41):(Tx.Bh i).length<=42:=by
 have:=MB 40 i.natAbs h;have:=Tx.SS i
 lia
def eq_int(a b:Int):Ax false (.int a) yo=some (.bool (a==b)):=by
 show(if _/\_ then some (PyData.bool (PyData.eqv (.int a) yo)) else none)=_;rw[if_pos ⟨by rfl,by rfl⟩]
 rfl
def Vk{t b:Int}(I:t.natAbs<10^41)(g:b.natAbs<10^41):AZ [.tuple [.int t,.int b]]=some (.str (Tx.Gj t b)):=by
 refine CF rfl ?_;show Kw [.d (.tuple [.int t,.int b]),.no,.no]=_;refine AH (AU (y:=.int t) rfl) (AH (AU (y:=.int b) rfl) (B4 ?_));show((AR J9 LT Em [.d (.tuple [.int t,.int b]),.d (.int t),.d yo]).bind fun c=>if c=true then(HJ (.int t)) else((HJ (.int t)).bind fun x=>(some (PyData.str (Str.ofString "/"))).bind fun y=>(HJ yo).bind fun z=>UK x y z))=_;rw[Af (b:=b==1) rfl rfl (eq_int b 1),zo,dF (Ry I),dF (Ry g)];by_cases e:b=1
 .subst e;rw[if_pos (by rfl)];exact aH some (aH PyData.str (Tx.BL (by rw[Tx.Ao,Tx.DP];simp)))
 .rw[if_neg w4,zo,zo,zo];have R:=HW I;have M:=HW g;have len:∀l:List Nat,(Tx.Bt l).length=l.length:=fun l=>by rw[BI,Tx.Ao]
  unfold UK;show(if _ then some (PyData.str _) else none)=_;rw[if_pos ⟨by rw[len];lia,by decide,by rw[len];lia⟩];refine aH some zAH;rw[Tx.app_list,Tx.app_list,Tx.app_list,Tx.Ao,Tx.Ao,Tx.DP,if_neg e,(Ms),(Ms)];rfl
def E9{w p:Str}(h:EM w)(hs:p.cps.toList.Sublist w.cps.toList):EM p :=
 ⟨af.mpr fun c g=>af.mp h.asc c (hs.subset g),by have:=h.len;rw[BI]at this ⊢;exact aK hs.length_le this,Nat.le_trans (hs.count_le 45) h.low⟩
theorem T1{c:Nat}:∀ {ps:N1} {p:Str},p∈ps->p.cps.toList.Sublist (Str.join Iv ps).cps.toList
 |[],_,h=>by simp at h
 |[q],p,h=>by rw[List.mem_singleton.mp h];exact List.Sublist.refl _
 |q::g::r,p,h=>by
  rw[Tx.B6];rcases aI.mp h with rfl|h
  .exact List.sublist_append_left _ _
  .exact((T1 (c:=c) h).cons _).trans (List.sublist_append_right _ _)
def Cs{x p:Str}{c:Nat}(h:p∈Txt.split x Iv):p.cps.toList.Sublist x.cps.toList:=by
 have:=T1 (c:=c) h;rw[(QZ)]at this;exact this
def sj:Str.ofString "/" = Tx.sep 47:=by decide +kernel
def VW{w:Str}(h:w.length<=100000):C3 u0 (.str (Str.ofString "/"))=some (.list ((Txt.split w (Tx.sep 47)).map .str)):=by
 rw[<-sj];exact if_pos ⟨by decide,h⟩
def UR:MD:=mB El
noncomputable abbrev pU:MD:=Cm AZ UR Ck
def Zr{x:Str}(h:Bg x=true):PyData.strOk x=true:=by
 unfold PyData.strOk;rw[<-Array.all_toList];exact af.mpr fun c g=>aX (aJ (aU (af.mp h c g)) AS)
def O2{x:Str}(h:Bg x=true):SeqAt.shaped L6=true:=by simp[SeqAt.shaped,PyData.canLay0,PyData.depth,Zr h]
def ne_str{x y:Str}(l:Bg x=true)(g:Bg y=true):Ax true L6 (.str y)=some (.bool (!decide (x=y))):=by
 show(if _/\_ then some (PyData.bool (!PyData.eqv L6 (.str y))) else none)=_;rw[if_pos ⟨O2 l,O2 g⟩];have:PyData.eqv L6 (.str y)=decide (x=y):=by
  by_cases e:x=y
  .subst e;simp[PyData.eqv]
  .simp[PyData.eqv,e]
 rw[this]
def mw(t b:Int):Bg (Tx.Gj t b)=true:=by
 unfold Bg;rw[Tx.DP];refine af.mpr fun c g=>aX ?_;rcases ae.mp g with z|z
 .rcases Tx.MC z with y|y<;>lia
 .split at z
  .simp at z
  .rcases aI.mp z with y|y
   .lia
   .rcases Tx.MC y with y|y<;>lia
def NC{α:Type}(x:α)(l:wq):D8 (x::l) 0=some x:=by
 unfold D8 IC;rw[if_pos AS,if_pos A1];rfl
def RP{α:Type}(x y:α)(l:wq):D8 (x::y::l) 1=some y:=by
 unfold D8 IC;rw[if_pos AS,if_pos ll];rfl
def WI{w:Str}{t b:vt}{hs:vc}(M:EM w)(R:∀i,t=some i->i.natAbs<10^41)(T:∀i,b=some i->i.natAbs<10^41):AN (Am 5 (Ie (AB M6 Uf))) (AN zBg (A9 WF)) [.d u0,.d (.int 40),.d (.list hs),.d (HA t),.d (HA b),.no]=some (.rt (Fq (t.bind fun t=>b.bind fun b=>if 1<=b/\FM.gi t b=1/\Tx.Gj t b=w then some (t,b) else none))):=by
 refine AH (AU (y:=.tuple [HA t,HA b]) (Jz rfl (show 2<=CQ by decide))) ?_;have lay:(PyData.tuple [HA t,HA b]).canLay0=true:=by cases t<;>cases b<;>rfl
 have no:El (.tuple [HA t,HA b])=false->AN zBg (A9 WF) [.d u0,.d (.int 40),.d (.list hs),.d (HA t),.d (HA b),.d (.tuple [HA t,HA b])]=some (.rt .none):=fun h=>
  BW (BO (EL (EW (Ea (AX rfl (YV lay h))))) rfl)
 cases t with
 |none=>exact no (by cases b<;>rfl)
 |some t=>
  cases b with
  |none=>exact no rfl
  |some b=>
   show AN _ _ _=some (.rt (Fq (if 1<=b/\FM.gi t b=1/\Tx.Gj t b=w then some (t,b) else none)));by_cases g:1<=b/\FM.gi t b=1
   .have l:El (.tuple [.int t,.int b])=true:=by
     show(decide (1<=b)&&(FM.gi t b==1))=true;simp[g.1,g.2]
    have I:=Vk (R t rfl) (T b rfl);have ne:=ne_str (mw t b) M.asc;by_cases e:Tx.Gj t b=w
    .rw[if_pos ⟨g.1,g.2,e⟩];rw[decide_eq_true e]at ne;exact AH (BC (BP (EW (Ea (AX rfl (YV lay l)))) (Af (AX rfl I) rfl ne)) rfl) rfl
    .rw[if_neg fun z=>e z.2.2];rw[decide_eq_false e]at ne;exact BW (BO (BP (EW (Ea (AX rfl (YV lay l)))) (Af (AX rfl I) rfl ne)) rfl)
   .rw[if_neg fun z=>g ⟨z.1,z.2.1⟩];refine no ?_;show(decide (1<=b)&&(FM.gi t b==1))=false;by_cases l:1<=b
    .have:¬FM.gi t b=1:=fun z=>g ⟨l,z⟩;simp[l,this]
    .simp[l]
def qG{w:Str}(h:EM w):pU [.str w,.int 40]=some (Fq (Tx.rd w)):=by
 obtain⟨p,r,g,_,_⟩:=Tx.UN w;have I:EM p:=E9 h (Cs (c:=47) (by rw[g];simp));refine CF rfl ?_;show NB AZ UR Ck [.d u0,.d (.int 40),.no,.no,.no,.no]=_;refine AH (AU (AI rfl rfl (VW (aK h.len AS)))) ?_;rw[g];refine AH (AU (y:=HA (Tx.wI p)) (AX (AQ (AI rfl rfl (NC _ _)) rfl) (WD I))) ?_;refine AH (AU (y:=.int 1) rfl) ?_;have lt:∀ {q:Str},EM q->∀i,Tx.wI q=some i->i.natAbs<10^41:=fun l i e=>Tx.sT l.asc e;unfold Tx.rd;rw[g];cases r with
 |nil=>
  refine AH (BC (Af (x:=.int 1) (y:=.int 1) (AX rfl rfl) rfl rfl) rfl) ?_;have:=WI (t:=Tx.wI p) (b:=some 1) (hs:=[PyData.str p]) h (lt I) (fun i e=>by cases e;decide);refine this.trans (aH (fun z=>some (Ou.rt (Fq z))) ?_);show((Tx.wI p).bind _)=((Tx.wI p).bind _);cases Tx.wI p with
  |none=>rfl
  |some t=>
   show(if _ then _ else _)=(if _ then _ else _);by_cases e:Tx.Gj t 1=w
   .rw[if_pos ⟨by decide,Tx.RX t,e⟩,if_pos e]
   .rw[if_neg fun z=>e z.2.2,if_neg e]
 |cons q r=>
  have l:EM q:=E9 h (Cs (c:=47) (by rw[g];simp));refine AH (BO (Af (x:=.int ((r.length:Nat)+1+1)) (y:=.int 1) (AX (xs:=[.list ((p::q::r).map .str)]) rfl ?_) rfl ?_) (AU (y:=HA (Tx.wI q)) (AX (AQ (AI rfl rfl (RP _ _ _)) rfl) (WD l)))) ?_
  .show some (PyData.int (((p::q::r).map PyData.str).length:Nat))=_;simp
  .show some (PyData.bool (decide _))=_;exact aH some (aH PyData.bool (aX AC))
  refine(WI (t:=Tx.wI p) (b:=Tx.wI q) h (lt I) (lt l)).trans ?_
  rfl
def optN:Option Nat->PD
 |some n=>.int n
 |none=>.none
def eq_str{x y:Str}(l:Bg x=true)(g:Bg y=true):Ax false L6 (.str y)=some (.bool (decide (x=y))):=by
 show(if _/\_ then some (PyData.bool (PyData.eqv L6 (.str y))) else none)=_;rw[if_pos ⟨O2 l,O2 g⟩];have:PyData.eqv L6 (.str y)=decide (x=y):=by
  by_cases e:x=y
  .subst e;simp[PyData.eqv]
  .simp[PyData.eqv,e]
 rw[this]
def Xz(t:Str):t=Str.ofString "" ↔ t.cps.toList=[]:=⟨fun h=>by rw[h];rfl,fun h=>Tx.BL (by rw[h];rfl)⟩
def lB:∀c:Nat,48<=c->c<=57->MM (.str M0) (.str ⟨#[c]⟩)=some (.int ((c-48:Nat):Int)):=by
 intro c g l;have:∀c:Nat,c<58->48<=c->(Builtin.Str.occurrences M0 ⟨#[c]⟩ 0 (Str.ofString "0123456789").length 1)=[c-48]:=by decide +kernel
 unfold MM;show(match Builtin.Str.occurrences M0 ⟨#[c]⟩ 0 (Str.ofString "0123456789").length 1 with|n::_=>some (PyData.int n)|[]=>none)=_;rw[this c AC g]
def Rk{a b:vb}{δ:Dv}(h:a δ=some false):Lm a b δ=some false:=by show(a δ).bind _=_;rw[h];rfl
def N4{a b:vb}{δ:Dv}{q:Option Bool}(h:a δ=some true)(k:b δ=q):Lm a b δ=q:=by show(a δ).bind _=_;rw[h];exact k
def Xf:∀(l:vv),(∀c∈l,Tx.CK c=true)->∀i,PySem.NumText.digitsVal (l.take i)<10^i:=by
 intro l I i
 induction i with
 |zero=>simp[PySem.NumText.digitsVal]
 |succ i g=>
  by_cases h:i<l.length
  .rw[List.take_succ_eq_append_getElem h,PySem.NumText.digitsVal_snoc,Nat.pow_succ];have:=I l[i] (ag h);unfold Tx.CK at this;simp at this
   lia
  .rw[List.take_of_length_le AC]at g ⊢;exact aJ g (bN AS AC)
def Tc{t:Str}(h:EM t):Bk [.str t]=some (optN (Tx.nm t.cps.toList)):=by
 refine CF rfl ?_;show Mz [.d zZ,.no,.no]=_;have e0:Bg (Str.ofString "")=true:=rfl;have e00:Bg (Str.ofString "0")=true:=by decide +kernel
 have Y:DJ [.str t]=some (.int (t.cps.toList.length:Nat)):=by rw[<-BI];exact if_pos (aK h.len AS)
 have hst:Ih zZ (.str M0)=some (.str (Txt.stripChars t M0)):=if_pos (aK h.len AS);have hsa:Bg (Txt.stripChars t M0)=true:=by
  have e:(Txt.stripChars t M0).cps.toList.Sublist t.cps.toList:=by
   show(Txt.stripBy _ true true t).cps.toList.Sublist _;rw[PyProof.Rows.stripBy_eq,(Uz)];exact(List.take_sublist _ _).trans (List.drop_sublist _ _)
  exact af.mpr fun c Z=>af.mp h.asc c (e.subset Z)
 have U:AR J9 GG ON [.d zZ,.no,.no]=some (decide (t=Str.ofString "")):=Af rfl rfl (eq_str h.asc e0);have c2:AR IO (AK DJ zAz) (fC (.int 40)) [.d zZ,.no,.no]=some (decide ((40:Int)<(t.cps.toList.length:Nat))):=Af (AX rfl Y) rfl rfl;have c3:AR Nb (AF Ih GG (fC (.str M0))) ON [.d zZ,.no,.no]=some (!decide (Txt.stripChars t M0=Str.ofString "")):=Af (AI rfl rfl hst) rfl (ne_str hsa e0);have c5:AR Nb GG zAv [.d zZ,.no,.no]=some (!decide (t=Str.ofString "0")):=Af rfl rfl (ne_str h.asc e00);have bad:∀ {F:DF},Co (AR J9 GG ON) FY [.d zZ,.no,.no]=some true ->
   AN (CI (Co (AR J9 GG ON) FY) (A9 Ps) BH) F [.d zZ,.no,.no]=some (.rt .none):=fun z=>BW (BO z rfl)
 have z0:Str.ofString "0" = ⟨#[48]⟩:=by decide +kernel
 unfold Tx.nm;by_cases h1:t.cps.toList=[]
 .rw[if_pos (.inl h1)];exact bad (EL (U.trans (by rw[decide_eq_true ((Xz t).mpr h1)])))
 have d1:decide (t=Str.ofString "")=false:=aV fun z=>h1 ((Xz t).mp z);rw[d1]at U;by_cases h2:40<t.cps.toList.length
 .rw[if_pos (.inr (.inl h2))];exact bad (BP U (EL (c2.trans (by rw[decide_eq_true AC]))))
 rw[decide_eq_false AC]at c2;by_cases M:∀c∈t.cps.toList,Tx.CK c=true
 .rw[decide_eq_true ((Tx.Z0 t).mpr M)]at c3;have hx:∃a l,t.cps.toList=a::l:=by
   cases e:t.cps.toList with
   |nil=>exact absurd e h1
   |cons a l=>exact⟨a,l,rfl⟩
  obtain⟨a,l,I⟩:=hx;have hix:A8 zZ (.int 0)=some (.str ⟨#[a]⟩):=by
   show(if t.length<=CQ then(D8 t.cps.toList 0).map (fun c=>PyData.str ⟨#[c]⟩) else none)=_;rw[if_pos (aK h.len AS),I,NC];rfl
  have ha:=M a (by rw[I];simp);have haa:Bg ⟨#[a]⟩=true:=by
   unfold Tx.CK at ha;simp at ha;simp[Bg];lia
  have T:AR J9 (AF A8 GG Go) zAv [.d zZ,.no,.no]=some (decide ((⟨#[a]⟩:Str)=Str.ofString "0")):=Af (AI rfl rfl hix) rfl (eq_str haa e00);have t0:t=Str.ofString "0" ↔ t.cps.toList=[48]:=⟨fun z=>by rw[z,z0],fun z=>Tx.BL (by rw[z,z0])⟩;have a0:(⟨#[a]⟩:Str)=Str.ofString "0" ↔ a=48:=by rw[z0];simp
  by_cases R:a=48/\t.cps.toList≠[48]
  .rw[if_pos (.inr (.inr (.inr ⟨by rw[I,R.1];rfl,R.2⟩)))];rw[decide_eq_true (a0.mpr R.1)]at T;rw[decide_eq_false fun z=>R.2 (t0.mp z)]at c5;exact bad (BP U (BP c2 (BP c3 (N4 T c5))))
  .have hbad:¬(t.cps.toList=[]\/40<t.cps.toList.length\/(¬ ∀c∈t.cps.toList,Tx.CK c=true)\/(t.cps.toList.head? = some 48/\t.cps.toList≠[48])):=by
    rintro(z|z|z|⟨z1,z2⟩)
    .exact h1 z
    .exact h2 z
    .exact z M
    .exact R ⟨by rw[I]at z1;simpa using z1,z2⟩
   rw[if_neg hbad];have c45:Lm (AR J9 (AF A8 GG Go) zAv) (AR Nb GG zAv) [.d zZ,.no,.no]=some false:=by
    by_cases h5:a=48
    .rw[decide_eq_true (a0.mpr h5)]at T;have:t.cps.toList=[48]:=by
      apply bJ;intro z;exact R ⟨h5,z⟩
     rw[decide_eq_true (t0.mpr this)]at c5;exact N4 T c5
    .rw[decide_eq_false fun z=>h5 (a0.mp z)]at T;exact Rk T
   refine AH (BC (BP U (BP c2 (BP c3 c45))) rfl) ?_;refine AH (AU (y:=.int 0) rfl) ?_;refine ip (xs:=Yl t) (fun i δ=>∃z,δ=[.d zZ,.d (.int (PySem.NumText.digitsVal (t.cps.toList.take i):Nat)),z]) ?_ ⟨_,by rw[List.take_zero];rfl⟩ ?_ ?_
   .show UW zZ=_;exact if_pos h.asc
   .rintro i x δ hx ⟨z,rfl⟩;rw[xZ]at hx;obtain⟨c,Z,rfl⟩:=aC.mp hx;have hi:=(aF.mp Z).1;have hcm:c∈t.cps.toList:=ar Z;have g:=M c hcm;unfold Tx.CK at g;simp at g;have hv:=Xf _ M i;have hv2:PySem.NumText.digitsVal (t.cps.toList.take i)<10^41:=aJ hv (bN AS AC);refine⟨_,rfl,_,AU (y:=.int (PySem.NumText.digitsVal (t.cps.toList.take Pi):Nat)) (AI (AI rfl rfl (mul_r AS)) (AI rfl rfl (lB c g.1 g.2)) ?_),_,rfl⟩;have et:t.cps.toList.take Pi=t.cps.toList.take i++[c]:=by
     rw[List.take_succ,Z];rfl
    rw[et,PySem.NumText.digitsVal_snoc];show some (PyData.int _)=_
    congr 2
   .rintro δ ⟨z,rfl⟩;rw[show(Yl t).length=t.cps.toList.length by simp,List.take_length]
    rfl
 .rw[if_pos (.inr (.inr (.inl M)))];rw[decide_eq_false fun z=>M ((Tx.Z0 t).mp z)]at c3;exact bad (BP U (BP c2 (EL c3)))
def Z7(n:Int){b:Int}(I:1<=b):(Rat.divInt n b).num=n / FM.gi n b/\((Rat.divInt n b).den:Int)=b / FM.gi n b:=by
 have h0:b≠0:=by lia
 have g:b.sign=1:=Int.sign_eq_one_of_pos AC;have l:(Int.gcd n b:Int)=FM.gi n b:=rfl;refine⟨?_,?_⟩
 .rw[Rat.num_divInt,g,Int.one_mul,Int.gcd_comm b n];rfl
 .rw[Rat.den_divInt,if_neg h0,Int.gcd_comm b n,Int.natCast_ediv,l]
  congr 1;lia
def div_self{n b:Int}(M:1<=b)(I:FM.gi n b=1):Bi (Rat.divInt n b)=.tuple [.int n,.int b]:=by
 obtain⟨l,g⟩:=Z7 n M;rw[I]at l g;unfold Bi;rw[l,g,Int.ediv_one,Int.ediv_one]
def eE{n b:Int}(g:1<=b)(M:¬FM.gi n b=1):Bi (Rat.divInt n b)≠.tuple [.int n,.int b]:=by
 intro h;obtain⟨R,l⟩:=Z7 n g;unfold Bi at h;simp only[PyData.tuple.injEq,List.cons.injEq,PyData.int.injEq,and_true]at h;have I:0<FM.gi n b:=FM.Q6 AC;rw[l]at h;have:b / FM.gi n b<b:=Int.ediv_lt_self_of_pos_of_ne_one AC AC
 lia
def pH{w:Str}(h:EM w):AF J9 (AF IJ GG Em) (fC (.str wJ)) (.d u0::δ)=some (.bool (decide yr)):=by
 have hm:Str.ofString "-" = ⟨#[45]⟩:=by decide +kernel
 have g:IJ u0 (.int 1)=some (.str (Txt.slice w none (some 1))):=if_pos (aK h.len AS);have I:(Txt.slice w none (some 1))=Tx.Bt (w.cps.toList.take 1):=by
  by_cases h0:w.cps.toList=[]
  .have:w=⟨#[]⟩:=Tx.BL (by rw[h0]);subst this;decide +kernel
  .have R:1<=w.length:=by
    rw[BI];cases e:w.cps.toList with
    |nil=>exact absurd e h0
    |cons a l=>simp
   have:=bG.mp (PyProof.Rows.slice_closes_toL (x:=w) (j:=1) AS AC);rw[this];exact Tx.BL (by rw[Tx.Ao];simp)
 have ha:Bg (Tx.Bt (w.cps.toList.take 1))=true:=by
  unfold Bg;rw[Tx.Ao];exact af.mpr fun c M=>af.mp h.asc c (bM M)
 refine AI (AI rfl rfl (g.trans (by rw[I]))) rfl ((eq_str ha (by rw[hm];decide)).trans ?_)
 congr 2
 apply decide_eq_decide.mpr;rw[hm];constructor
 .intro z;have:=aH (fun x:Str=>x.cps.toList) z;simp only[Tx.Ao]at this;cases e:w.cps.toList with
  |nil=>rw[e]at this;simp at this
  |cons a l=>rw[e]at this;simp at this ⊢;exact this
 .intro z;refine Tx.BL ?_;rw[Tx.Ao];cases e:w.cps.toList with
  |nil=>rw[e]at z;simp at z
  |cons a l=>rw[e]at z;simp at z ⊢;exact z
def jA(a b:Int):SeqAt.shaped (.tuple [.int a,.int b])=true:=by
 simp[SeqAt.shaped,PyData.canLay0,PyData.canLayAll0,PyData.depth,PyData.depthAll]
def qi(a b c d:Int):Ax true (.tuple [.int a,.int b]) (.tuple [.int c,.int d])=some (.bool (!decide (a=c/\b=d))):=by
 show(if _/\_ then some (PyData.bool (!PyData.eqv _ _)) else none)=_;rw[if_pos ⟨jA a b,jA c d⟩];have:PyData.eqv (.tuple [.int a,.int b]) (.tuple [.int c,.int d])=decide (a=c/\b=d):=by
  by_cases l:a=c<;>by_cases g:b=d<;>simp[PyData.eqv,PyData.eqvAll,l,g]
 rw[this]
def nX{p:Str}{i:Nat}(g:p.length<=990)(hi:i<=p.length):Le (.str p) (.int (i:Nat))=some (.str (Tx.Bt (p.cps.toList.drop i))):=by
 show(if p.length<=CQ then some (PyData.str (Txt.slice p (some (i:Int)) none)) else none)=_;rw[if_pos (aK g AS),PyProof.Rows.slice_from_eq (b:=(p.length:Int)) AC AC rfl];refine aH some zAH;rw[Tx.Ao];have:=BI p;show((p.cps.toList.drop (i:Int).toNat).take ((p.length:Int)-(i:Nat)).toNat).toArray.toList=_;rw[List.toList_toArray,(FP)];exact List.take_of_length_le (by rw[(Hl)];lia)
noncomputable abbrev qe:MD:=CN Bk NV
def b9{n b:Int}(l:1<=b)(g:b<10^41):NV [.int n,.int b]=some (Bi (Rat.divInt n b)) :=
 if_pos ⟨by lia,by
  have:b.natAbs<10^41:=by lia
  exact Nat.lt_trans this AS⟩
def Xo{w:Str}{ps:vc}{low:Bool}{n b:Nat}(R:1<=b)(M:b<10^41)(hn:n<10^41):AN (CI (AR Nb (AK NV (AB M6 Uf)) (Ie (AB M6 Uf))) (A9 Ps) BH) (A9 zCC) [.d u0,.d (.list ps),.d zF,.d (.int (n:Nat)),.d (.int (b:Nat))]=some (.rt (Fq (if FM.gi n b=1 then some (Tx.sg low n,(b:Int)) else none))):=by
 have I:Ie (AB M6 Uf) [.d u0,.d (.list ps),.d zF,.d (.int (n:Nat)),.d (.int (b:Nat))]=some (.tuple [.int (n:Nat),.int (b:Nat)]):=Jz rfl (show 2<=CQ by decide);by_cases l:FM.gi n b=1
 .rw[if_pos l];refine AH (BC (Af (AX rfl ((b9 AC AC).trans (by rw[div_self AC l]))) I ((qi _ _ _ _).trans A1)) rfl) (B4 ?_);refine Jz (AQ (x:=.int (Tx.sg low n)) (AI rfl (AI (O9 rfl (show 2<=CQ by decide)) (AX rfl rfl) (?_:_=some (.int (if low then -1 else 1)))) ?_) rfl) (show 2<=CQ by decide)
  .cases low<;>rfl
  .rw[mul_r (by cases low<;>decide)];cases low<;>simp[Tx.sg]
 .rw[if_neg l];have g:=eE (n:=n) (b:=b) AC l;unfold Bi at g;refine BW (BO (Af (AX rfl (b9 AC AC)) I ((qi _ _ _ _).trans ?_)) rfl);have:¬((Rat.divInt n b).num=(n:Int)/\((Rat.divInt n b).den:Int)=(b:Int)):=fun z=>g (by rw[z.1,z.2]);rw[decide_eq_false this];rfl
def Z5{t:Str}{n:Nat}(h:Tx.nm t.cps.toList=some n):n<10^41:=by
 obtain⟨e,l⟩:=Tx.Yd h;have I:∀c∈t.cps.toList,Tx.CK c=true:=fun c g=>by
  rw[e]at g;have:=Tx.Kd g;unfold Tx.CK;simp;lia
 have:=Xf _ I t.cps.toList.length;rw[List.take_length,e,Tx.Nk,<-e]at this;exact aJ this (bN AS AC)
def sS{w:Str}(h:EM w)(i:Nat):EM (Tx.Bt (w.cps.toList.drop i)):=E9 h (by rw[Tx.Ao];exact List.drop_sublist _ _)
def qj{w:Str}(h:EM w):qe [.str w]=some (Fq (Tx.lf w)):=by
 obtain⟨p,r,hs,_,hj⟩:=Tx.UN w;have hp:EM p:=E9 h (Cs (c:=47) (by rw[hs];simp));refine CF rfl ?_;show LF Bk NV [.d u0,.no,.no,.no,.no]=_;refine AH (AU (AI rfl rfl (VW (aK h.len AS)))) ?_;rw[hs];refine AH (AU (pH h)) ?_;unfold Tx.lf;rw[hs];generalize U:decide yr=low;have hi:(if low=true then 1 else 0)<=p.length:=by
  cases low with
  |false=>exact aW _
  |true=>
   have Z:=aU U;rw[BI];cases M:p.cps.toList with
   |cons a l=>simp
   |nil=>
    cases r with
    |nil=>rw[show p=w from hj]at M;rw[M]at Z;simp at Z
    |cons q r=>rw[<-hj,Tx.B6,M]at Z;simp at Z
 have g:=Tc (sS hp (if low=true then 1 else 0));rw[Tx.Ao]at g;refine AH (AU (y:=optN (Tx.nm cr)) (AX (AQ (AI (AI rfl rfl (NC _ _)) (y:=.int ((if low=true then 1 else 0:Nat):Int)) (AX rfl (by cases low<;>rfl)) (nX hp.len hi)) rfl) g)) ?_;show _=some (Ou.rt (Fq ((Tx.nm cr).bind _)));have I:AK Be zAm [.d u0,.d vY,.d zF,.d (optN (Tx.nm cr)),.no]=some (.int (((p::r).length:Nat):Int)):=by
  show some (PyData.int ((((p::r).map PyData.str).length:Nat):Int))=_;rw[wk]
 cases T:Tx.nm cr with
 |none=>exact BW (BO (EL zAS) rfl)
 |some n=>
  rw[T]at I;have hn:n<10^41:=Z5 (t:=Tx.Bt cr) (by rw[Tx.Ao];exact T);show _=some (Ou.rt (Fq (if(low=true/\n=0)\/2<(p::r).length then none else _)));have t1:AR (N5 false) M6 Ps [.d u0,.d vY,.d zF,.d zb,.no]=some false:=Af rfl rfl rfl;have R:Lm (E6 LT) (AR J9 M6 Go) [.d u0,.d vY,.d zF,.d zb,.no]=some (decide (low=true/\n=0)):=by
   cases low with
   |false=>exact(Rk (Ea rfl)).trans A1
   |true=>exact(N4 (Ea rfl) (Af rfl rfl (eq_int _ _))).trans (by by_cases e:n=0<;>simp[e])
  have t3:AR IO zBy NX [.d u0,.d vY,.d zF,.d zb,.no]=some (decide (2<(p::r).length)) :=
   (Af I rfl rfl).trans (by congr 1;apply decide_eq_decide.mpr;lia)
  by_cases h1:low=true/\n=0
  .rw[if_pos (.inl h1)];rw[decide_eq_true h1]at R;exact BW (BO (BP t1 (EL R)) rfl)
  .rw[decide_eq_false h1]at R;by_cases Y:2<(p::r).length
   .rw[if_pos (.inr Y)];rw[decide_eq_true Y]at t3;exact BW (BO (BP t1 (BP R t3)) rfl)
   .rw[if_neg fun z=>z.elim h1 Y];rw[decide_eq_false Y]at t3;refine AH (BC (BP t1 (BP R t3)) rfl) (AH (AU (y:=.int 1) rfl) ?_);cases r with
    |nil=>
     refine AH (BC (Af (x:=.int 1) (y:=.int 2) (AX rfl rfl) rfl (eq_int _ _)) rfl) ?_;have:=Xo (w:=w) (ps:=[.str p]) (low:=low) (n:=n) (b:=1) AS AS hn;refine this.trans ?_;have e1:FM.gi (n:Int) ((1:Nat):Int)=1:=Tx.RX n;rw[if_pos e1];rfl
    |cons q r=>
     have hr:r=[]:=by
      cases r with
      |nil=>rfl
      |cons a l=>exact absurd A1 Y
     subst hr;have hq:EM q:=E9 h (Cs (c:=47) (by rw[hs];simp));show _=some (Ou.rt (Fq ((Tx.nm q.cps.toList).bind _)));have c6:AR J9 zBy NX [.d u0,.d (.list ([p,q].map .str)),.d zF,.d zb,.d (.int 1)]=some true:=Af (x:=.int 2) (y:=.int 2) (AX rfl rfl) rfl (eq_int _ _);have s1:Am 4 (AK Bk (AB (AF A8 GT Em) AG)) [.d u0,.d (.list ([p,q].map .str)),.d zF,.d zb,.d (.int 1)]=some (.nx [.d u0,.d (.list ([p,q].map .str)),.d zF,.d zb,.d (optN (Tx.nm q.cps.toList))]):=AU (AX (AQ (AI rfl rfl (RP _ _ _)) rfl) (Tc hq));cases hb:Tx.nm q.cps.toList with
     |none=>
      rw[hb]at s1;exact BW (BO c6 (AH s1 (BO (EL zAS) rfl)))
     |some b=>
      rw[hb]at s1;have hbl:=Z5 hb;show _=some (Ou.rt (Fq (if b<2 then none else if FM.gi n b=1 then some (Tx.sg low n,(b:Int)) else none)));have c7:AR LE zBd NX [.d u0,.d (.list ([p,q].map .str)),.d zF,.d zb,.d (optN (some b))]=some (decide (b<2)) :=
       (Af (x:=.int (b:Nat)) rfl rfl rfl).trans (by congr 1;apply decide_eq_decide.mpr;lia)
      by_cases h3:b<2
      .rw[if_pos h3];rw[decide_eq_true h3]at c7;exact BW (BO c6 (AH s1 (BO (BP zAS c7) rfl)))
      .rw[if_neg h3];rw[decide_eq_false h3]at c7;refine AH (BO c6 (AH s1 (BC (BP zAS c7) rfl))) ?_;exact Xo AC hbl hn
def Dc(r:Rat):Str:=Tx.Gj r.num (r.den:Int)
abbrev UL:List Nat:=[120,121,122,119]
abbrev Ge:Str:=Str.ofString "xyzw"
def Ar:List Nat->List Int->List Str
 |u::us,k::ks=>List.replicate k.toNat (Tx.sep u)++Ar us ks
 |_,_=>[]
def BM(t:vj×Rat):Str:=Str.join wg (Dc t.2::Ar UL t.1)
structure M9(n:Nat)(t:List Int×Rat):Prop where
 len:t.1.length=n
 pos:∀x∈t.1,0<=x
 ne:t.2≠0
 top:(Tx.dg t.2.num.natAbs).length<=40
 bot:(Tx.dg t.2.den).length<=40
def Cw(r:vo):vj:=r.map (GJ Ge)
def F5(n:Nat)(L:vj):vj:=(List.range n).map fun(j:Nat)=>((L.count W1:Nat):Int)
def LL(n:Nat)(w:Str):Option (vj×Rat):=match Txt.split w wg with
 |[]=>none
 |p::r=>match Tx.lf p with
  |none=>none
  |some q=>if q.1=0\/(∃z∈r,z.length≠1)\/Fw (Cw r)≠Cw r\/(∃i∈Cw r,i<0\/(n:Int)<=i) then none else some (F5 n (Cw r),Rat.divInt q.1 q.2)
def YC:Ge.cps.toList=UL:=by decide +kernel
def lV{z:Str}{i:Nat}(g:z.length=1)(h:GJ Ge z=(i:Int)):∃c,z=Tx.sep c/\UL[i]? = some c:=by
 obtain⟨c,rfl⟩:∃c,z=Tx.sep c:=by
  have:z.cps.toList.length=1:=by simpa[Str.length]using g
  match e:z.cps.toList,this with
  |[c],_=>exact⟨c,Tx.BL e⟩
 refine⟨c,rfl,?_⟩;unfold GJ at h;rcases StrLaws.occ_head Ge Iv 1 SL with ⟨e,_⟩|⟨j,r,e,l,_⟩
 .rw[e]at h;simp at h
 .rw[e]at h;have:j=i:=Int.ofNat.inj h;subst this;rw[<-YC];exact(StrLaws.subAt_one Ge c j).mp l
def Qm:∀(i:Nat) (c:Nat),UL[i]? = some c->GJ Ge Iv=(i:Int):=fun i c h=>by
 match i,h with
 |0,h=>cases h;decide +kernel
 |1,h=>cases h;decide +kernel
 |2,h=>cases h;decide +kernel
 |3,h=>cases h;decide +kernel
 |n+4,h=>simp at h
theorem WH:∀ {r:N1},(∀z∈r,z.length=1)->(∀i∈Cw r,0<=i)->r=(Cw r).map fun i=>Tx.sep (UL.getD i.toNat 0)
 |[],_,_=>rfl
 |z::r,l,g=>by
  have I:=WH (r:=r) (fun y M=>l y (.tail _ M)) fun i hi=>g i (.tail _ hi);have h0:0<=GJ Ge z:=g _ EQ;obtain⟨c,T,R⟩:=lV (i:=(GJ Ge z).toNat) (l z EQ) AC;show z::r=Tx.sep (UL.getD (GJ Ge z).toNat 0)::(Cw r).map _;rw[<-I,(Ct),R,T];rfl
def canon(n:Nat)(L:vj):vj:=((List.range n).map fun(j:Nat)=>List.replicate (L.count W1) W1).flatten
def Rm(n:Nat)(L:vj):canon (n+1) L=canon n L++List.replicate (L.count (n:Int)) (n:Int):=by
 unfold canon;rw[List.range_succ,(Ja),List.flatten_append];simp
theorem LZ(L:mo)(a:Int):∀n:Nat,(canon n L).count a=if 0<=a/\a<n then L.count a else 0
 |0=>by rw[if_neg AC];rfl
 |n+1=>by
  rw[Rm,List.count_append,LZ L a n,List.count_replicate];by_cases e:a=n
  .subst e;rw[if_neg AC,if_pos A1,if_pos AC];lia
  .by_cases h:0<=a/\a<n
   .rw[if_pos h,if_neg (by simpa using fun z=>e z.symm),if_pos AC];lia
   .rw[if_neg h,if_neg (by simpa using fun z=>e z.symm),if_neg AC]
def f7(L:vj):∀n:Nat,∀a∈canon n L,0<=a/\a<n:=fun n a ha=>by
 have:=List.count_pos_iff.mpr ha;rw[LZ]at this;split at this
 .assumption
 .lia
theorem VM(L:mo):∀n:Nat,(canon n L).Pairwise fun a b=>a<=b
 |0=>.nil
 |n+1=>by
  rw[Rm,List.pairwise_append];refine⟨VM L n,List.pairwise_replicate.mpr (.inr (Int.le_refl _)),fun a ha b g=>?_⟩;rw[List.eq_of_mem_replicate g];have:=f7 L n a ha;lia
def iQ(L:vj):(Fw L).Pairwise fun a b=>a<=b:=by
 have:=List.pairwise_mergeSort (le:=fun a b:Int=>decide (a<=b)) (fun a b c h k=>by simp at *;lia) (fun a b=>by simp;lia) L;exact this.imp fun h=>by simpa using h
def gw{L:vj}(h:L.Pairwise fun a b=>a<=b):Fw L=L :=
 (WS (List.Perm.refl L) (h.imp fun {a b:Int} z=>aV (show ¬b<a by lia))).symm
def gg{n:Nat}{L:vj}(l:Fw L=L)(g:∀a∈L,0<=a/\a<n):canon n L=L:=by
 have p:(canon n L).Perm L:=List.perm_iff_count.mpr fun a=>by
  rw[LZ];by_cases h:0<=a/\a<n
  .rw[if_pos h]
  .rw[if_neg h,List.count_eq_zero.mpr fun z=>h (g a z)]
 exact List.Perm.eq_of_pairwise (fun a b _ _ h k=>Int.le_antisymm h k) (VM L n) (by rw[<-l];exact iQ L) p
def Zq{n:Nat}(hn:n<=4)(L:vj):Ar UL (F5 n L)=(canon n L).map fun i=>Tx.sep (UL.getD i.toNat 0):=by
 match n,hn with
 |0,_=>rfl
 |1,_=>simp[F5,canon,Ar,List.range_succ]
 |2,_=>simp[F5,canon,Ar,List.range_succ]
 |3,_=>simp[F5,canon,Ar,List.range_succ]
 |4,_=>simp[F5,canon,Ar,List.range_succ]
def lK{n:Nat}{L:vj}:∀x∈F5 n L,0<=x:=fun x g=>by
 obtain⟨j,_,rfl⟩:=aN.mp g;lia
def Sa{t b:Int}(M:1<=b)(I:FM.gi t b=1):(Rat.divInt t b).num=t/\((Rat.divInt t b).den:Int)=b:=by
 have:=div_self M I;unfold Bi at this
 injection this with e
 injection e with l g
 injection g with g _
 injection l with l
 injection g with g
 exact⟨l,g⟩
def p6{n:Nat}(hn:n<=4){w:Str}{t:vj×Rat}(h:LL n w=some t):w=BM t/\M9 n t:=by
 unfold LL at h;split at h
 .cases h
 .rename_i p r R;split at h
  .cases h
  .rename_i q T;split at h
   .cases h
   .rename_i g;cases h;have c1:q.1≠0:=fun z=>g (.inl z);have c2:∀z∈r,z.length=1:=fun z M=>by
     by_cases e:z.length=1
     .exact e
     .exact absurd (.inr (.inl ⟨z,M,e⟩)) g
    have Z:Fw (Cw r)=Cw r:=by
     by_cases e:Fw (Cw r)=Cw r
     .exact e
     .exact absurd (.inr (.inr (.inl e))) g
    have I:∀i∈Cw r,0<=i/\i<n:=fun i hi=>by
     by_cases e:i<0\/(n:Int)<=i
     .exact absurd (.inr (.inr (.inr ⟨i,hi,e⟩))) g
     .lia
    have F:=Tx.jV (t:=q.1) (b:=q.2) (show Tx.lf p=some (q.1,q.2) from T);obtain⟨l,Y⟩:=Sa F.pos F.low;have U:r=Ar UL (F5 n (Cw r)):=by
     rw[Zq hn,gg Z I];exact WH c2 fun i hi=>(I i hi).1
    refine⟨?_,by simp[F5],lK,fun z=>c1 ?_,?_,?_⟩
    .unfold BM Dc;show w=Str.join wg (Tx.Gj (Rat.divInt q.1 q.2).num _::Ar UL (F5 n (Cw r)));rw[l,Y,F.txt,<-U,<-R,(QZ)]
    .rw[<-l];show(Rat.divInt q.1 q.2).num=0;rw[show Rat.divInt q.1 q.2=0 from z];rfl
    .show(Tx.dg (Rat.divInt q.1 q.2).num.natAbs).length<=40;rw[l];exact F.top
    .show(Tx.dg (Rat.divInt q.1 q.2).den).length<=40;have:(Rat.divInt q.1 q.2).den=q.2.natAbs:=by lia
     rw[this];exact F.bot
def MU{t b:Int}{c:Nat}(h:c∈(Tx.Gj t b).cps.toList):c=45\/c=47\/(48<=c/\c<=57):=by
 rw[Tx.DP]at h;rcases ae.mp h with h|h
 .rcases Tx.MC h with z|z
  .exact .inl z
  .exact .inr (.inr z)
 .split at h
  .cases h
  .rcases aI.mp h with z|h
   .exact .inr (.inl z)
   .rcases Tx.MC h with z|z
    .exact .inl z
    .exact .inr (.inr z)
theorem IZ:∀ {us:wH} {p:mo} {z:Str},z∈Ar us p->∃u∈us,z=Tx.sep u
 |[],_,z,h=>by simp[Ar]at h
 |u::us,[],z,h=>by simp[Ar]at h
 |u::us,k::ks,z,h=>by
  rcases ae.mp h with h|h
  .exact⟨u,.head _,List.eq_of_mem_replicate h⟩
  .obtain⟨v,g,e⟩:=IZ h;exact⟨v,.tail _ g,e⟩
def Ny(t:vj×Rat):Txt.split (BM t) wg=Dc t.2::Ar UL t.1:=by
 refine Tx.IM A1 fun z g=>?_;rcases aI.mp g with rfl|g
 .intro h;rcases MU h with z|z|z<;>lia
 .obtain⟨u,l,rfl⟩:=IZ g;intro h;have:42=u:=by simpa using h
  subst this;revert l;decide
theorem Wa:∀ {p:mo} {g:wH} {a:Int},a∈(List.zipWith xn p g).flatten->∃j∈g,a=(j:Int)
 |[],_,_,h=>by simp at h
 |_::_,[],_,h=>by simp at h
 |k::ks,j::g,a,h=>by
  rw[List.zipWith_cons_cons,(Hm)]at h;rcases ae.mp h with h|h
  .exact⟨j,.head _,List.eq_of_mem_replicate h⟩
  .obtain⟨i,hi,e⟩:=Wa h;exact⟨i,.tail _ hi,e⟩
theorem O1:∀ {p:mo} {g:wH},g.Pairwise (· < ·)->((List.zipWith xn p g).flatten).Pairwise (fun a b=>a<=b)
 |[],_,_=>by simp
 |_::_,[],_=>by simp
 |k::ks,j::g,h=>by
  rw[List.zipWith_cons_cons,(Hm),List.pairwise_append];refine⟨List.pairwise_replicate.mpr (.inr (Int.le_refl _)),O1 (bh.mp h).2,fun a ha b l=>?_⟩;rw[List.eq_of_mem_replicate ha];obtain⟨i,hi,rfl⟩:=Wa l;have:=(bh.mp h).1 i hi
  lia
def iH{n:Nat}(hn:n<=4){p:vj}(g:p.length=n)(l:∀x∈p,0<=x):F5 n (Cw (Ar UL p))=p/\(Cw (Ar UL p)).Pairwise (fun a b=>a<=b)/\∀i∈Cw (Ar UL p),0<=i/\i<n:=by
 have I:=Qm 0 120 rfl;have f1:=Qm 1 121 rfl;have f2:=Qm 2 122 rfl;have M:=Qm 3 119 rfl;have R:((0:Nat):Int)=0:=rfl;have key:Cw (Ar UL p)=(List.zipWith xn p [0,1,2,3]).flatten:=by
  match p,g,hn with
  |[],_,_=>rfl
  |[a],_,_=>simp[Cw,Ar,I]
  |[a,b],_,_=>simp[Cw,Ar,I,f1]
  |[a,b,c],_,_=>simp[Cw,Ar,I,f1,f2]
  |[a,b,c,d],_,_=>simp[Cw,Ar,I,f1,f2,M]
  |_::_::_::_::_::_,g,hn=>simp only[List.length_cons]at g;lia
 rw[key]
 match p,g,hn with
 |[],g,_=>subst g;exact⟨rfl,.nil,fun i hi=>by simp at hi⟩
 |[a],g,_=>
  have:=l a A1;subst g;refine⟨by simp[F5,List.range_succ,List.count_replicate];lia,by simp[List.pairwise_append,List.pairwise_replicate],fun i hi=>by simp[List.mem_replicate]at hi ⊢;lia⟩
 |[a,b],g,_=>
  have:=l a A1;have:=l b A1;subst g;refine⟨by simp[F5,List.range_succ,List.count_append,List.count_replicate];lia,O1 AS,fun i hi=>by simp[List.mem_replicate]at hi ⊢;lia⟩
 |[a,b,c],g,_=>
  have:=l a A1;have:=l b A1;have:=l c A1;subst g;refine⟨by simp[F5,List.range_succ,List.count_append,List.count_replicate];lia,O1 AS,fun i hi=>by simp[List.mem_replicate]at hi ⊢;lia⟩
 |[a,b,c,d],g,_=>
  have:=l a A1;have:=l b A1;have:=l c A1;have:=l d A1;subst g;refine⟨by simp[F5,List.range_succ,List.count_append,List.count_replicate];lia,O1 AS,fun i hi=>by simp[List.mem_replicate]at hi ⊢;lia⟩
 |_::_::_::_::_::_,g,hn=>simp only[List.length_cons]at g;lia
def WR(r:Rat):1<=(r.den:Int)/\FM.gi r.num (r.den:Int)=1:=by
 have h:=r.den_nz;have k:=r.reduced;refine⟨by lia,?_⟩;unfold FM.gi;unfold Nat.Coprime at k;rw[show r.num.gcd (r.den:Int)=1 from k];rfl
def Uy{r:Rat}(l:(Tx.dg r.num.natAbs).length<=40)(g:(Tx.dg r.den).length<=40):Tx.rd (Dc r)=some (r.num,(r.den:Int))/\Tx.lf (Dc r)=some (r.num,(r.den:Int)) :=
 Tx.ZV (WR r).1 (WR r).2 l (by simpa using g)
def lA{n:Nat}(hn:n<=4){t:vj×Rat}(h:M9 n t):LL n (BM t)=some t:=by
 obtain⟨I,l,g⟩:=iH hn h.len h.pos;unfold LL;rw[Ny];show(match Tx.lf (Dc t.2) with|none=>_|some q=>_)=_;rw[(Uy h.top h.bot).2];refine(if_neg ?_).trans ?_
 .rintro(z|⟨z,M,R⟩|z|⟨i,hi,z⟩)
  .exact h.ne (Rat.num_eq_zero.mp z)
  .obtain⟨u,_,rfl⟩:=IZ M;exact R rfl
  .exact z (gw l)
  .have:=g i hi;lia
 .rw[I];show some (t.1,Rat.divInt t.2.num (t.2.den:Int))=some t;rw[FM.Wi]
abbrev Bj:=List Int×Rat
def Ds(ts:wy):vo:=if ts=[] then [Tx.sep 48] else Tx.inter xq xK
def Dm(k:Nat)(ts:wy):Str:=Str.join T0 (Tx.sep wE::Tx.sep 61::Ds ts)
structure Jn(n:Nat)(ts:wy):Prop where
 tm:∀t∈ts,M9 n t
 ord:ts.Pairwise fun a b=>IT.lt b.1 a.1=true
def eW(ts:wy):∃a r,Ds ts=a::r:=by
 unfold Ds
 match ts with
 |[]=>exact⟨_,_,rfl⟩
 |[t]=>exact⟨_,_,rfl⟩
 |t::u::r=>exact⟨_,_,rfl⟩
theorem mem_join{c d:Nat}:∀ {ps:N1},d∈(Str.join Iv ps).cps.toList->d=c\/∃p∈ps,d∈p.cps.toList
 |[],h=>by simp[Str.join,Str.empty]at h
 |[p],h=>.inr ⟨p,.head _,h⟩
 |p::q::r,h=>by
  rw[Tx.B6]at h;rcases ae.mp h with h|h
  .exact .inr ⟨p,.head _,h⟩
  .rcases aI.mp h with h|h
   .exact .inl h
   .rcases mem_join h with z|⟨x,g,z⟩
    .exact .inl z
    .exact .inr ⟨x,.tail _ g,z⟩
def JF{t:Bj}{d:Nat}(h:d∈(BM t).cps.toList):d=42\/d=45\/d=47\/(48<=d/\d<=57)\/(119<=d/\d<=122):=by
 rcases mem_join h with z|⟨p,g,z⟩
 .exact .inl z
 .rcases aI.mp g with rfl|g
  .rcases MU z with z|z|z
   .exact .inr (.inl z)
   .exact .inr (.inr (.inl z))
   .exact .inr (.inr (.inr (.inl z)))
  .obtain⟨u,l,rfl⟩:=IZ g;have:d=u:=by simpa using z
   subst this;have:∀u∈UL,119<=u/\u<=122:=by decide
   exact .inr (.inr (.inr (.inr (this d l))))
def YG{n:Nat}{t:Bj}(h:M9 n t):BM t≠Tx.sep 48:=fun e=>by
 have l:=Ny t;rw[e,show Txt.split (Tx.sep 48) wg=[Tx.sep 48] from Tx.IM (ps:=[Tx.sep 48]) A1 A1]at l;have M:Tx.sep 48=Dc t.2:=(List.cons.inj l).1;have g:=(Uy h.top h.bot).2;rw[<-M]at g;have I:Tx.lf (Tx.sep 48)=some (0,1):=by decide +kernel
 rw[I]at g;have:(0:Int)=t.2.num:=aH Prod.fst (aQ g);exact h.ne (Rat.num_eq_zero.mp this.symm)
theorem LM{p:Str}:∀ {ws:N1} {z:Str},z∈Tx.inter p ws->z=p\/z∈ws
 |[],_,h=>by cases h
 |[a],_,h=>.inr h
 |a::b::r,z,h=>by
  rcases aI.mp h with rfl|h
  .exact .inr EQ
  .rcases aI.mp h with rfl|h
   .exact .inl rfl
   .rcases LM h with e|e
    .exact .inl e
    .exact .inr (.tail _ e)
def Ul{ts:wy}:∀z∈Ds ts,32 ∉ z.cps.toList/\10 ∉ z.cps.toList:=fun z g=>by
 unfold Ds at g;split at g
 .rw[List.mem_singleton.mp g];decide
 .rcases LM g with rfl|g
  .decide
  .obtain⟨t,_,rfl⟩:=aN.mp g;exact⟨fun h=>by rcases JF h with z|z|z|z|z<;>lia,fun h=>by rcases JF h with z|z|z|z|z<;>lia⟩
def VF{k:Nat}(g:k<4):119<=UL.getD k 0/\UL.getD k 0<=122:=by
 match k,g with
 |0,_=>decide
 |1,_=>decide
 |2,_=>decide
 |3,_=>decide
def Zs{k:Nat}(l:k<4)(ts:wy):Txt.split (Dm k ts) T0=Tx.sep wE::Tx.sep 61::Ds ts:=by
 refine Tx.IM A1 fun z g=>?_;have:=VF l;rcases aI.mp g with rfl|g
 .intro h;have:32=UL.getD k 0:=bV.mp h
  lia
 .rcases aI.mp g with rfl|g
  .decide
  .exact(Ul z g).1
def qE{k:Nat}(l:k<4)(ts:wy):10 ∉ (Dm k ts).cps.toList:=fun h=>by
 have:=VF l;rcases mem_join h with z|⟨p,g,z⟩
 .lia
 .rcases aI.mp g with rfl|g
  .have:10=UL.getD k 0:=bV.mp z
   lia
  .rcases aI.mp g with rfl|g
   .revert z;decide
   .exact(Ul p g).2 z
def GV{α:Type}:List (Option α)->Option (List α)
 |[]=>some []
 |none::_=>none
 |some a::r=>(GV r).map fun l=>a::l
theorem Ol{α:Type}:∀ {os:List (Option α)} {l:wq},GV os=some l->os=l.map some
 |[],l,h=>by cases h;rfl
 |none::_,l,h=>by cases h
 |some a::r,l,h=>by
  obtain⟨q,g,rfl⟩:=aC.mp h;rw[Ol g];rfl
theorem OS{α:Type}:∀l:List α,GV (l.map some)=some l
 |[]=>rfl
 |a::r=>by rw[xf,GV,OS r];rfl
def Il:List Bj->Bool
 |a::b::r=>IT.lt b.1 a.1&&Il (b::r)
 |_=>true
theorem KO:∀ {ts:wy},Il ts=true ↔ ts.Pairwise fun a b=>IT.lt b.1 a.1=true
 |[]=>by simp[Il]
 |[a]=>by simp[Il]
 |a::b::r=>by
  have M:=KO (ts:=b::r);unfold Il;rw[(Ft),M];constructor
  .rintro⟨I,l⟩;refine bh.mpr ⟨fun z g=>?_,l⟩;rcases aI.mp g with rfl|g
   .exact I
   .exact IT.lt_trans _ _ _ ((bh.mp l).1 z g) I
  .intro h;exact⟨(bh.mp h).1 b EQ,(bh.mp h).2⟩
def G9(k:Nat)(ws:vo):Prop:=¬(ws.length<3\/ws.length % 2=0\/ws[0]?≠some (Tx.sep wE)\/ws[1]?≠some (Tx.sep 61))
open Classical in
noncomputable def M7(n k:Nat)(l:Str):Option (List Bj) :=
 if G9 k (Txt.split l T0) then
  if(Txt.split l T0).drop 2=[Tx.sep 48] then some []
  else match GV ((Bx ((Txt.split l T0).drop 2)).map (LL n)) with
   |none=>none
   |some ts=>if(∀z∈Bx ((Txt.split l T0).drop 3),z=Tx.sep 43)/\Il ts=true then some ts else none
 else none
def rZ{k:Nat}{ws:vo}(h:G9 k ws):∃r,ws=Tx.sep wE::Tx.sep 61::r/\r.length % 2=1:=by
 unfold G9 at h
 match ws,h with
 |[],h=>exact absurd (.inl A1) h
 |[a],h=>exact absurd (.inl A1) h
 |a::b::r,h=>
  have h0:a=Tx.sep wE:=by
   by_cases e:a=Tx.sep wE
   .exact e
   .exact absurd (.inr (.inr (.inl w4))) h
  have g:b=Tx.sep 61:=by
   by_cases e:b=Tx.sep 61
   .exact e
   .exact absurd (.inr (.inr (.inr w4))) h
  subst h0 g;refine⟨r,rfl,?_⟩;by_cases e:r.length % 2=1
  .exact e
  .exact absurd (.inr (.inl (by simp only[List.length_cons];lia))) h
def qo{n k:Nat}(hn:n<=4){l:Str}{ts:wy}(h:M7 n k l=some ts):l=Dm k ts/\Jn n ts:=by
 unfold M7 at h;split at h
 .rename_i hh;obtain⟨r,T,U⟩:=rZ hh;rw[T]at h;have Y:l=Str.join T0 (Tx.sep wE::Tx.sep 61::r):=by rw[<-T,(QZ)]
  split at h
  .rename_i e;cases h;have:r=[Tx.sep 48]:=e;subst this;exact⟨Y,⟨fun t g=>(nomatch g),List.Pairwise.nil⟩⟩
  .split at h
   .cases h
   .rename_i us M;split at h
    .rename_i Z;cases h;have e1:=Ol M;have e2:Bx r=ts.map BM/\∀t∈ts,M9 n t:=by
      have:∀ {I:N1} {ts:wy},I.map (LL n)=ts.map some->I=ts.map BM/\∀t∈ts,M9 n t:=fun {I}=>by
       induction I with
       |nil=>intro ts h;cases ts with
        |nil=>exact⟨rfl,fun t g=>by cases g⟩
        |cons a b=>simp at h
       |cons w I ih=>intro ts h;cases ts with
        |nil=>simp at h
        |cons a b=>
         rw[xf,xf]at h;obtain⟨h1,h2⟩:=List.cons.inj h;obtain⟨i1,i2⟩:=ih h2;obtain⟨j1,j2⟩:=p6 hn h1;refine⟨by rw[xf,<-i1,<-j1],fun t g=>?_⟩;rcases aI.mp g with rfl|g
         .exact j2
         .exact i2 t g
      exact this e1
     have R:=Tx.V4 (p:=Tx.sep 43) r U Z.1;rw[e2.1]at R;have ne:ts≠[]:=fun z=>by
      subst z;have:r=[]:=by rw[<-R];rfl
      subst this;simp at U
     refine⟨?_,⟨e2.2,KO.mp Z.2⟩⟩;unfold Dm Ds;rw[if_neg ne,R];exact Y
    .cases h
 .cases h
def lx{n k:Nat}(hn:n<=4)(hk:k<4){ts:wy}(h:Jn n ts):M7 n k (Dm k ts)=some ts:=by
 unfold M7;rw[Zs hk];have ol:(Ds ts).length % 2=1:=by
  unfold Ds;split
  .rfl
  .rename_i ne;have:=Tx.TZ (p:=Tx.sep 43) (ws:=ts.map BM) (by simpa using ne)
   lia
 have U:1<=(Ds ts).length:=by lia
 have I:G9 k (Tx.sep wE::Tx.sep 61::Ds ts):=by
  unfold G9;rintro(z|z|z|z)
  .simp only[List.length_cons]at z;lia
  .simp only[List.length_cons]at z;lia
  .exact z rfl
  .exact z rfl
 rw[if_pos I];show(if Ds ts=[Tx.sep 48] then some [] else match GV ((Bx (Ds ts)).map (LL n)) with|none=>none|some us=>_)=_;by_cases e:ts=[]
 .subst e;exact if_pos rfl
 .have M:Ds ts=Tx.inter xq xK:=if_neg e;obtain⟨g,T⟩:=Tx.VU (p:=Tx.sep 43) (ws:=ts.map BM);have Y:Ds ts≠[Tx.sep 48]:=fun z=>by
   rw[M]at z;rw[z]at g
   match ts,e,g with
   |[t],_,g=>exact YG (h.tm t EQ) (List.cons.inj g).1.symm
   |t::u::r,_,g=>simp[Bx]at g
  rw[if_neg Y,M,g,(Cu)];have:∀ {l:wy},(∀t∈l,M9 n t)->l.map (LL n ∘ BM)=l.map some:=fun {l}=>by
   induction l with
   |nil=>intro _;rfl
   |cons a b Z=>intro I;rw[xf,xf,Z fun t ht=>I t (.tail _ ht)];show LL n (BM a)::_=_;rw[lA hn (I a EQ)]
  rw[this h.tm,OS];show(if(∀z∈Bx ((Tx.inter xq xK).drop 1),z=Tx.sep 43)/\Il ts=true then some ts else none)=_;exact if_pos ⟨T,KO.mpr h.ord⟩
def FJ(n:Nat)(w:Str):vj×Option (Int×Int):=((UL.take n).map fun u=>(((Txt.split w wg).count (Tx.sep u):Nat):Int),Tx.rd ((Txt.split w wg).headD xz))
def IH(n:Nat)(l:Str):List (vj×Option (Int×Int)):=if(DK l zN).2.2=Tx.sep 48 then [] else(Txt.split (DK l zN).2.2 wK).map (FJ n)
def part_of{u:Nat}{l y:Str}(I:u≠32)(h:l.cps.toList=u::32::61::32::y.cps.toList):(DK l zN).2.2=y:=by
 have g:StrLaws.At l zN l.length 1:=Tx.at_of (l:=y.cps.toList) (by rw[h];rfl);have T:¬StrLaws.At l zN l.length 0:=fun z=>by
  have:=Tx.ZP z;rw[h]at this;exact I (by simpa using this)
 unfold DK;rcases StrLaws.occ_head l zN 1 SL with ⟨_,hn⟩|⟨i,r,e,R,hn⟩
 .exact absurd g (hn 1)
 .rw[e];have:i=1:=by
   rcases Nat.lt_trichotomy i 1 with z|z|z
   .have:i=0:=by lia
    subst this;exact absurd R T
   .exact z
   .exact absurd g (hn 1 z)
  subst this;refine Tx.BL ?_;show(Builtin.Str.strSub l 4 l.length).cps.toList=_;rw[(Uz),h];have M:l.length=y.cps.toList.length+4:=by rw[BI,h];simp
  rw[M];exact List.take_of_length_le A1
def iW{k:Nat}(g:k<4)(ts:wy):(DK (Dm k ts) zN).2.2=Str.join T0 (Ds ts):=by
 have:=VF g;refine part_of (u:=UL.getD k 0) AC ?_;obtain⟨a,r,e⟩:=eW ts;unfold Dm;rw[e,Tx.B6,Tx.B6];rfl
def il{n:Nat}(hn:n<=4){p:vj}(g:p.length=n)(l:∀x∈p,0<=x):(UL.take n).map (fun u=>(((Ar UL p).count (Tx.sep u):Nat):Int))=p:=by
 have ne:∀ {a b:Nat},a≠b->(Tx.sep a==Tx.sep b)=false:=fun {a b} h=>bf.mpr fun z=>h (by
  have:=aH (fun x:Str=>x.cps.toList) z
  simpa using this)
 match p,g,hn with
 |[],g,_=>subst g;rfl
 |[a],g,_=>
  have:=l a A1;subst g;simp[Ar,List.count_replicate,ne];lia
 |[a,b],g,_=>
  have:=l a A1;have:=l b A1;subst g;simp[Ar,List.count_append,List.count_replicate,ne];lia
 |[a,b,c],g,_=>
  have:=l a A1;have:=l b A1;have:=l c A1;subst g;simp[Ar,List.count_append,List.count_replicate,ne];lia
 |[a,b,c,d],g,_=>
  have:=l a A1;have:=l b A1;have:=l c A1;have:=l d A1;subst g;simp[Ar,List.count_append,List.count_replicate,ne];lia
 |_::_::_::_::_::_,g,hn=>simp only[List.length_cons]at g;lia
def kL{n:Nat}(hn:n<=4){t:Bj}(h:M9 n t):FJ n (BM t)=(t.1,some yu):=by
 unfold FJ;rw[Ny];have I:∀u∈UL,(Dc t.2::Ar UL t.1).count (Tx.sep u)=(Ar UL t.1).count (Tx.sep u):=fun u g=>by
  rw[List.count_cons,if_neg,Nat.add_zero];intro z;have l:Dc t.2=Tx.sep u:=by simpa using z
  have:u∈(Dc t.2).cps.toList:=by rw[l];simp
  have r:∀u∈UL,119<=u:=by decide
  have:=r u g;rcases MU ‹u∈(Dc t.2).cps.toList› with z|z|z<;>lia
 refine Prod.ext ?_ ?_
 .refine Eq.trans (ak fun u g=>?_) (il hn h.len h.pos);rw[I u (bM g)]
 .exact(Uy h.top h.bot).1
def mX{n k:Nat}(hn:n<=4)(M:k<4){ts:wy}(h:Jn n ts):IH n (Dm k ts)=ts.map fun t=>(t.1,some yu):=by
 unfold IH;rw[iW M];by_cases e:ts=[]
 .subst e;exact if_pos rfl
 .have ne:ts.map BM≠[]:=by simpa using e
  have T:Str.join T0 (Ds ts)=Str.join wK xK:=by
   rw[show Ds ts=Tx.inter xq xK from if_neg e,Tx.He ne]
  have R:∀z∈ts.map BM,32 ∉ z.cps.toList:=fun z l=>by
   obtain⟨t,_,rfl⟩:=aN.mp l;intro h;rcases JF h with z|z|z|z|z<;>lia
  have sp:=Tx.fW (c:=43) ne R AS;have g:Str.join wK xK≠Tx.sep 48:=fun z=>by
   rw[z,show Txt.split (Tx.sep 48) wK=[Tx.sep 48] from Tx.fW (c:=43) (ts:=[Tx.sep 48]) A1 AS AS]at sp
   match ts,e,sp with
   |[t],_,sp=>exact YG (h.tm t EQ) (List.cons.inj sp).1.symm
   |t::u::r,_,sp=>simp at sp
  rw[T,if_neg g,sp,(Cu)];exact ak fun t I=>kL hn (h.tm t I)
abbrev TG:=List Int×Rat
def Dp(t:TG):PD:=.tuple [tupI t.1,Bi t.2]
def Az(ts:List TG):PD:=.list zAI
def Cv(ps:zC):PD:=.list zG
structure Td(n:Nat)(t:TG):Prop where
 len:t.1.length=n
 pos:∀x∈t.1,0<=x/\x<=4
 ne:t.2≠0
 top:t.2.num.natAbs<=6
 bot:t.2.den<=6
 sum:t.1.sum<=4
structure K5(n:Nat)(ts:List TG):Prop where
 CH:ts.length<=4
 tm:∀t∈ts,Td n t
 ord:ts.Pairwise fun a b=>IT.lt b.1 a.1=true
structure V2(ps:zC):Prop where
 pos:1<=ps.length
 CH:ps.length<=4
 Li:∀ts∈ps,K5 ps.length ts
def Et(ds:List TG):List (List Key×PD):=ds.map fun t=>(t.1.map Sum.inl,Bi t.2)
structure Qe(n m:Nat)(ds:List TG):Prop where
 CH:ds.length<=m
 tm:∀t∈ds,Td n t
 nd:(ds.map OR).Nodup
def WJ(ds:List TG)(p:vj)(a:Rat):List TG:=if(ds.any fun t=>decide (t.1=p))=true then ds.map (fun t=>if t.1=p then(t.1,a) else t) else ds++[(p,a)]
def R7{p q:vj}:p.map (Sum.inl:Int->Key)=q.map Sum.inl ↔ p=q:=List.map_inj_right fun _ _ h=>Sum.inl.inj h
def ml{ds:List TG}{p:vj}{a:Rat}:putD (Et ds) (p.map Sum.inl) (Bi a)=Et (WJ ds p a):=by
 unfold putD WJ Et;have e:((ds.map fun t:TG=>((t.1.map Sum.inl:xj),Bi t.2)).any fun g=>decide (g.1=p.map Sum.inl))=ds.any fun t=>decide (t.1=p):=by
  rw[List.any_map]
  congr 1
  funext t
  simp only[Function.comp_apply,R7]
 rw[e];split
 .rw[(Cu),(Cu)];refine ak fun t _=>?_;simp only[Function.comp_apply,R7];by_cases h:t.1=p
  .rw[if_pos h,if_pos h]
  .rw[if_neg h,if_neg h]
 .rw[(Ja)];rfl
def Qe.put{n m:Nat}{ds:List TG}{p:vj}{a:Rat}(h:Qe n m ds)(t:Td n (p,a)):Qe n (m+1) (WJ ds p a):=by
 unfold WJ;split
 .rename_i c;refine⟨by rw[wk];have:=h.CH;lia,fun q g=>?_,?_⟩
  .obtain⟨u,l,rfl⟩:=aN.mp g;by_cases e:u.1=p
   .rw[if_pos e];exact⟨(h.tm u l).len,(h.tm u l).pos,t.ne,t.top,t.bot,(h.tm u l).sum⟩
   .rw[if_neg e];exact h.tm u l
  .have e:(ds.map fun t=>if t.1=p then(t.1,a) else t).map OR=ds.map OR:=by
    rw[(Cu)];refine ak fun t _=>?_;simp only[Function.comp_apply];split<;>rfl
   rw[e];exact h.nd
 .rename_i c;refine⟨by rw[(EB)];have:=h.CH;simp;lia,fun q g=>?_,?_⟩
  .rcases ae.mp g with g|g
   .exact h.tm q g
   .rw[List.mem_singleton.mp g];exact t
  .rw[(Ja),List.nodup_append];refine⟨h.nd,by simp,fun x M y I z=>c ?_⟩;rw[List.any_eq_true];obtain⟨u,l,rfl⟩:=aN.mp M;simp at I;exact⟨u,l,by rw[z,I];simp⟩
def km{ds:List TG}{t:TG}(nd:(ds.map OR).Nodup)(h:t∈ds):Ru (Et ds) (t.1.map Sum.inl)=some yw:=by
 unfold Ru Et
 induction ds with
 |nil=>cases h
 |cons u ds g=>
  rw[xf,List.nodup_cons]at nd;rw[xf,List.find?_cons];rcases aI.mp h with rfl|h
  .simp
  .have:¬u.1=t.1:=fun z=>nd.1 (by rw[z];exact aN.mpr ⟨t,h,rfl⟩);simp only[R7,this,decide_false];exact g nd.2 h
def Y4(ds:List TG):Lw ((Et ds).map OR)=some (ds.map OR):=by
 have key:∀p:List Int,Q3 (p.map Sum.inl)=some p:=fun p=>by
  induction p with
  |nil=>rfl
  |cons i p g=>rw[xf,Q3,g];rfl
 induction ds with
 |nil=>rfl
 |cons t ds g=>
  show Lw (t.1.map Sum.inl::(Et ds).map OR)=_;rw[Lw,key,g];rfl
theorem Mf:∀p:List Int,Kx (p.map .int)=some (p.map Sum.inl)
 |[]=>rfl
 |i::p=>by rw[xf,Kx,Mf p];rfl
def iG{n m:Nat}{ds:List TG}(h:Qe n m ds)(hn:1<=n)(hm:m<=4):∃ts:List TG,K5 n ts/\ts.map OR=(sortI (ds.map OR)).reverse/\∀t∈ts,t∈ds:=by
 let look:List Int->Rat:=fun p=>((ds.find? fun t=>decide (t.1=p)).map zm).getD 0
 have R:∀t∈ds,look t.1=t.2:=fun t g=>by
  have nd:=h.nd;show((ds.find? fun u=>decide (u.1=t.1)).map zm).getD 0=t.2;clear h
  induction ds with
  |nil=>cases g
  |cons u ds M=>
   rw[xf,List.nodup_cons]at nd;rw[List.find?_cons];rcases aI.mp g with rfl|g
   .simp
   .have:¬u.1=t.1:=fun z=>nd.1 (by rw[z];exact aN.mpr ⟨t,g,rfl⟩);simp only[this,decide_false];exact M g nd.2
 refine⟨(sortI (ds.map OR)).reverse.map fun p=>(p,look p),?_,by rw[(Cu)];simp[Function.comp_def],?_⟩
 all_goals
  have mem:∀t:TG,t∈(sortI (ds.map OR)).reverse.map (fun p=>(p,look p))->t∈ds:=fun t g=>by
   obtain⟨p,l,rfl⟩:=aN.mp g;have l:=(sortI_perm _).mem_iff.mp (List.mem_reverse.mp l);obtain⟨u,I,rfl⟩:=aN.mp l;rw[R u I];exact I
 .refine⟨?_,fun t g=>h.tm t (mem t g),?_⟩
  .rw[wk,(U9),(sortI_perm _).length_eq,wk];have:=h.CH;lia
  .rw[List.pairwise_map,List.pairwise_reverse];have nd:=(sortI_perm (ds.map OR)).nodup_iff.mpr h.nd;refine((Oe _).and nd).imp fun {p q} ⟨U,T⟩=>?_;show IT.lt p q=true;cases e:IT.lt p q with
   |true=>rfl
   |false=>exact absurd (IT.Kg _ _ e (IU.mp U)) T
 .exact mem
def kE(x y:Int):Ax true (.int x) (.int y)=some (.bool (!decide (x=y))):=by
 unfold Ax;rw[if_pos ⟨rfl,rfl⟩,if_pos rfl];simp[PyData.eqv];exact Bool.eq_iff_iff.mpr A1
def div_is{i j:Int}(h:0<j)(g:j.natAbs<2^64):CO wN (.int j)=some (.int (i / j)):=by
 unfold CO;dsimp only;rw[if_pos ⟨by lia,bp (aJ g (bN AS AS))⟩,Int.fdiv_eq_ediv_of_nonneg _ AC]
def fM:∀(i:Fin 13) (j:Fin 6),(Rat.divInt ((i.val:Int)-6) (1+(j.val:Int))).num.natAbs<=6/\(Rat.divInt ((i.val:Int)-6) (1+(j.val:Int))).den<=6:=by decide +kernel
def Zl{x y:Int}:(Rat.divInt (x % 13-6) (1+y % 6)).num.natAbs<=6/\(Rat.divInt (x % 13-6) (1+y % 6)).den<=6:=by
 have h:=fM ⟨(x % 13).toNat,by lia⟩ ⟨(y % 6).toNat,by lia⟩;have l:((x % 13).toNat:Int)=x % 13:=by lia
 have g:((y % 6).toNat:Int)=y % 6:=by lia
 simp only[l,g]at h;exact h
def ib(n:Nat):(List.replicate n [PyData.int 0]).flatten=(List.replicate n (0:Int)).map .int:=by
 induction n with
 |zero=>rfl
 |succ n g=>rw[(HP),(HP),(Hm),g];rfl
def uU(a0 a1 a2 a3 a4 a5 g a7 a8 s9 a10 a11:L):∃s,Ey 9 [a0,a1,a2,a3,a4,a5,g,a7,a8,s9,a10,a11]=[a0,a1,a2,a3,a4,a5,g,a7,a8,s,a10,a11]:=by
 rcases s9 with _|_|(_|_|_)<;>exact⟨_,rfl⟩
theorem RC{one:PD->Option (Option PD)}{α:Type}{g h:α->PD}:∀ {xs:wq},(∀x∈xs,one (g x)=some (some (h x)))->collect one (xs.map g)=some (xs.map h)
 |[],_=>rfl
 |x::xs,k=>by
  rw[xf,L2.collect,k x EQ,RC fun y l=>k y (.tail _ l)];rfl
theorem jv:∀m:Nat,(List.replicate m (0:Int)).sum=0
 |0=>rfl
 |m+1=>by rw[(HP),List.sum_cons,jv m];rfl
theorem jq:∀ {l:mo} {j:Nat} (h:j<l.length),(l.set j (l[j]+1)).sum=l.sum+1
 |[],_,h=>by simp at h
 |a::l,0,_=>by simp only[List.set_cons_zero,List.getElem_cons_zero,List.sum_cons];lia
 |a::l,j+1,h=>by
  have:=jq (l:=l) (j:=j) w9;simp only[List.set_cons_succ,List.getElem_cons_succ,List.sum_cons,this];lia
def gZ{r:Int}{many:Nat}{most s4 s5 s6 s7 s8 s10 s11:_}(hm:1<=many)(Y:many<=4):∃δ',Es zBi (GX 10) zBl [.d (.int r),most,.d ut,.d Rs,s4,s5,s6,s7,s8,.own (.lst ((List.replicate many (0:Int)).map .int)),s10,s11]=some zf /\∃(g:Int) (q:vj) (s:L),δ'=[.d (.int g),most,.d ut,.d Rs,s4,s5,s6,s7,s8,.own (.lst (q.map .int)),s,s11]/\q.length=many/\(∀x∈q,0<=x/\x<=4)/\q.sum<=4:=by
 refine Rx (xs:=D3 0 (r % 5).toNat) (fun t δ=>∃(g:Int) (q:mo) (s:L),δ=[.d (.int g),most,.d ut,.d Rs,s4,s5,s6,s7,s8,.own (.lst (q.map .int)),s,s11]/\q.length=many/\(∀x∈q,0<=x/\x<=t)/\q.sum<=t) ?_ ?_ ?_ ?_
 .exact Kh (AI rfl rfl (mod_is AS)) AC AC
 .exact⟨r,_,s10,rfl,by simp,fun x l=>by rw[List.eq_of_mem_replicate l];simp,by rw[jv];simp⟩
 .rintro i x δ l ⟨g,q,s,rfl,U,R,M⟩;obtain⟨rfl,hi⟩:=O3 l;refine⟨_,rfl,?_⟩;have T:0<=(g / 5) % (many:Int)/\(g / 5) % (many:Int)<many:=⟨Int.emod_nonneg _ AC,Int.emod_lt_of_pos _ AC⟩;obtain⟨j,hj,ej⟩:∃j:Nat,j<many/\(g / 5) % (many:Int)=j:=⟨((g / 5) % (many:Int)).toNat,by lia,by lia⟩;have I:j<q.length:=by lia
  refine JA (δ':=[.d (.int g),most,.d ut,.d Rs,s4,s5,s6,s7,s8,.own (.lst ((q.set j (q[j]+1)).map .int)),.d zO,s11]) ?_ ⟨_,AU (AI (AI rfl rfl (div_is AC AC)) rfl rfl),_,_,_,rfl,by rw[(Nj)];exact U,?_,by rw[jq I];lia⟩
  .show((AF A7 (AF CO GG yV) M6) _).bind _=_;rw[AI (AI rfl rfl (div_is AS AS)) rfl (mod_is AC),ej];show((q.map PyData.int)[((j:Int)).toNat]?.bind MH).bind _=_;rw[(FP),xZ,List.getElem?_eq_getElem I];show(if(0:Int)<=(j:Int) then(IC (q.map PyData.int).length (j:Int)).map _ else none)=_;rw[if_pos AC];unfold IC;rw[if_pos AC,if_pos (by rw[wk];lia),(FP)];rw[List.map_set];rfl
  .intro x l;rcases bW l with h|rfl
   .have:=R x h;lia
   .have:=R q[j] (ag I);lia
 .rintro δ ⟨g,q,s,e,h1,Z,h3⟩;have hl:(D3 0 (r % 5).toNat).length<=4:=by simp[D3];lia
  exact⟨g,q,s,e,h1,fun x l=>by have:=Z x l;lia,by lia⟩
def mM{r:Int}{c many:Nat}{most s4 s5 s8 s9 s10 s11:L}(hc:c<=4)(hm:1<=many)(hm4:many<=4):∃δ',Es (Cn ES (AB (nm 7) AG)) (GX 8) (AN (JO 9 (AF Lc (Ce (AB Go AG)) M6)) (AN (Es zBi (GX 10) zBl) (AN (Am 0 (AF CO GG (AF Av LT Em))) (AN (Am 11 (AK NV zBH)) (AN (Am 0 (AF CO GG (fC (.int 78)))) (CI (AR Nb (AF A8 (nm 11) Go) Go) (Mi 9 (VS 6 (nm 11) (AK IK (AB (nm 9) AG)))) BH)))))) [.d (.int r),most,.d ut,.d Rs,s4,s5,.own (.Cf []),.d x6,s8,s9,s10,s11]=some zf /\∃(R:Int) (ds:List TG) (U T M I:L),δ'=[.d (.int R),most,.d ut,.d Rs,s4,s5,.own xr,.d x6,U,T,M,I]/\Qe many c ds:=by
 refine Rx (xs:=D3 0 c) (fun j δ=>∃(R:Int) (ds:List TG) (U T M I:L),δ=[.d (.int R),most,.d ut,.d Rs,s4,s5,.own xr,.d x6,U,T,M,I]/\Qe many j ds) ?_ ?_ ?_ ?_
 .exact Kh (j:=(c:Int)) rfl AC AC
 .exact⟨r,[],s8,s9,s10,s11,rfl,⟨by simp,fun t ht=>(by cases ht),by simp⟩⟩
 .rintro j x δ hx ⟨R,ds,U,T,M,I,rfl,hd⟩;obtain⟨rfl,hj⟩:=O3 hx;refine⟨_,rfl,?_⟩;refine JA (δ':=[.d (.int R),most,.d ut,.d Rs,s4,s5,.own xr,.d x6,.d (.int (0+(j:Nat))),.own (.lst ((List.replicate many (0:Int)).map .int)),M,I]) ?_ ?_
  .show(AF Lc (Ce (AB Go AG)) M6 _).bind _=_;rw[AI (x:=.list [.int 0]) (y:=.int (many:Nat)) rfl rfl (if_pos ⟨by show 1*((many:Int)).toNat<=1000;lia,by lia,by lia⟩),(FP),ib]
   rfl
  obtain⟨δ1,e1,g,q,s,rfl,hq,hp,Z⟩:=gZ (r:=R) (most:=most) (s4:=s4) (s5:=s5) (s6:=.own xr) (s7:=.d x6) (s8:=.d (.int (0+(j:Nat)))) (s10:=M) (s11:=I) hm hm4;refine JA e1 ?_;refine JA (AU (AI (x:=.int g) (y:=.int 5) rfl rfl (div_is AS AS))) ?_;have hb:(1+g / 5 / 13 % 6).natAbs<2^400:=aJ (show _<2^3 by show(1+g / 5 / 13 % 6).natAbs<8;lia) (bN AS (show 3<=400 by decide));refine JA (AU (y:=Bi (Rat.divInt (g / 5 % 13-6) (1+g / 5 / 13 % 6))) (AX (xs:=[.int (g / 5 % 13-6),.int (1+g / 5 / 13 % 6)]) (AQ (AI (x:=.int (g / 5 % 13)) (y:=.int 6) (AI (x:=.int (g / 5)) (y:=.int 13) rfl rfl (mod_is AS)) rfl rfl) (AQ (AI (x:=.int 1) (y:=.int (g / 5 / 13 % 6)) rfl (AI (x:=.int (g / 5 / 13)) (y:=.int 6) (AI (x:=.int (g / 5)) (y:=.int 13) rfl rfl (div_is AS AS)) rfl (mod_is AS)) rfl) rfl)) (if_pos ⟨by lia,hb⟩))) ?_;generalize ea:Rat.divInt (g / 5 % 13-6) (1+g / 5 / 13 % 6)=a;have hs:=Zl (x:=g / 5) (y:=g / 5 / 13);rw[ea]at hs;refine JA (AU (AI (x:=.int (g / 5)) (y:=.int 78) rfl rfl (div_is AS AS))) ?_;have l:AR Nb (AF A8 (nm 11) Go) Go [.d (.int (g / 5 / 78)),most,.d ut,.d Rs,s4,s5,.own xr,.d x6,.d (.int (0+(j:Nat))),.own (.lst (q.map .int)),s,.d (Bi a)]=some (!decide (a.num=0)):=Af rfl rfl (kE _ _);by_cases Y:a.num=0
  .rw[decide_eq_true Y]at l;exact⟨_,BC l rfl,_,ds,_,_,_,_,rfl,⟨by have:=hd.CH;lia,hd.tm,hd.nd⟩⟩
  .rw[decide_eq_false Y]at l;refine⟨_,BO l ?_,g / 5 / 78,WJ ds q a,.d (.int (0+(j:Nat))),.d (.list (q.map .int)),s,.d (Bi a),rfl,hd.put ⟨hq,hp,fun z=>Y (by have z:a=0:=z;rw[z];rfl),hs.1,hs.2,Z⟩⟩;show(Sw (tupI q)).bind _=_;show(Kx (q.map .int)).bind _=_;rw[Mf];show(if(Et ds).length<CQ then _ else none)=_;rw[if_pos (by unfold Et;rw[wk];have:=hd.CH;show _<1000;lia),ml]
   rfl
 .rintro δ ⟨R,ds,U,T,M,I,e,h⟩;refine⟨R,ds,U,T,M,I,e,?_⟩
  rwa [show(D3 0 c).length=c by simp[D3]]at h
def kM{n m:Nat}{ds:List TG}{a0 a1 a2 a3 a4 a5 a7 a8 a9 a10 a11:L}(h:Qe n m ds)(hn:1<=n)(hm:m<=4):∃ts,K5 n ts /\L1 2 6 yq Dl (Ie (AB GT (AB (UH 2 GT) AG))) [none,none,some 6] (Di zBj) [a0,a1,a2,a3,a4,a5,.own xr,a7,a8,a9,a10,a11]=some zP:=by
 obtain⟨ts,g,T,R⟩:=iG h hn hm;refine⟨ts,g,?_⟩;have M:HL (Et ds)=some (.list ((sortI (ds.map OR)).map tupI)):=by
  unfold HL;rw[Y4];refine if_pos ⟨by rw[wk];have:=h.CH;lia,List.all_eq_true.mpr fun p g=>?_⟩;obtain⟨t,l,rfl⟩:=aN.mp g;have:=(h.tm t l).len;exact aX fun z=>by rw[z]at this;simp at this;lia
 have I:Di zBj [a0,a1,a2,a3,a4,a5,.own xr,a7,a8,a9,a10,a11]=some (ts.map fun t=>tupI t.1):=by
  refine J4 (x:=.list (ts.map fun t=>tupI t.1)) (AI (x:=.list ((sortI (ds.map OR)).map tupI)) (y:=.int (-1)) M rfl ?_) rfl;show(if(-1:Int)=-1 then some (PyData.list ((sortI (ds.map OR)).map tupI).reverse) else none)=_;rw[if_pos rfl,<-List.map_reverse,<-T,(Cu)];rfl
 unfold L1 Rg;rw[I];show(((L2.collect _ (ts.map fun t=>tupI t.1)).bind CH).map PyData.list)=_;rw[RC (h:=Dp) fun t l=>?_]
 .show((CH zAI).map PyData.list)=_;unfold CH;rw[if_pos (by rw[wk];have:=g.CH;show _<=1000;lia)];rfl
 .show(Ie (AB GT (AB (UH 2 GT) AG)) [.no,.d wL,.own xr]).map some=_;rw[Jz (xs:=[tupI t.1,Bi t.2]) (AQ rfl (AQ ?_ rfl)) (by show 2<=1000;decide)]
  .rfl
  .show(Sw wL).bind (fun q=>Ru (Et ds) q)=_;show(Kx (t.1.map .int)).bind _=_;rw[Mf];exact km h.nd (R t l)
def jH{l g:DF}{δ δ':Dv}{Q:List PD->Prop}(h:l δ=some zf)(k:∃xs,g δ'=some (.rn xs)/\Q xs):∃xs,AN l g δ=some (.rn xs)/\Q xs:=let⟨xs,a,b⟩:=k;⟨xs,AH h a,b⟩
def vP{l g:DF}{δ:Dv}{R:Dv->Prop}{Q:List PD->Prop}(h:∃δ',l δ=some zf/\R δ')(k:∀δ',R δ'->∃xs,g δ'=some (.rn xs)/\Q xs):∃xs,AN l g δ=some (.rn xs)/\Q xs:=let⟨δ',a,b⟩:=h;jH a (k δ' b)
def cy(r:Int){most:Nat}(h1:1<=most)(h4:most<=4):∃ps,V2 ps/\ps.length<=most/\CA NV [.int r,.int (most:Nat),.int 4]=some zv:=by
 obtain⟨many,hm,hm4,em⟩:∃many:Nat,1<=many/\many<=most/\1+r % (most:Int)=many:=by
  have h1:=Int.emod_nonneg r (show(most:Int)≠0 by lia);have h2:=Int.emod_lt_of_pos r (show 0<(most:Int) by lia);exact⟨(1+r % (most:Int)).toNat,by lia,by lia,by lia⟩
 have main:∃xs,Je NV [.d (.int r),.d wc,.d ut,.no,.no,.no,.no,.no,.no,.no,.no,.no]=some (.rn xs)/\∃ps:List (List TG),xs=ps.map Az/\ps.length=many/\∀ts∈ps,K5 many ts:=by
  unfold Je;refine jH (AU (y:=.int (many:Nat)) (AI (x:=.int 1) (y:=.int (r % (most:Int))) rfl (AI (x:=.int r) (y:=.int (most:Nat)) rfl rfl (mod_is AC)) (by show some (PyData.int (1+r % (most:Int)))=_;rw[em]))) ?_;refine jH (AU (AI (x:=.int r) (y:=.int (most:Nat)) rfl rfl (div_is AC AC))) ?_;refine jH (show SQ 4 AG _=some (.nx [.d (.int (r / (most:Int))),.d wc,.d ut,.d Rs,.own v3,.no,.no,.no,.no,.no,.no,.no]) from rfl) ?_;refine vP (R:=fun δ'=>∃(I:Int) (ps:zC) (t5 t6 Y T M l g:L),δ'=[.d (.int I),.d wc,.d ut,.d Rs,.own (.lst zG),t5,t6,Y,T,M,l,g]/\ps.length=many/\∀ts∈ps,K5 many ts) ?_ fun δ' ⟨I,ps,t5,t6,Y,T,M,l,g,e,h1,h2⟩=>⟨_,by rw[e];rfl,ps,rfl,h1,h2⟩;refine Rx (xs:=D3 0 many) (fun i δ=>∃(I:Int) (ps:zC) (t5 t6 Y T M l g:L),δ=[.d (.int I),.d wc,.d ut,.d Rs,.own (.lst zG),t5,t6,Y,T,M,l,g]/\ps.length=i/\∀ts∈ps,K5 many ts) ?_ ?_ ?_ ?_
  .exact Kh (j:=(many:Int)) rfl AC AC
  .exact⟨_,[],_,_,_,_,_,_,_,rfl,rfl,fun t U=>by cases U⟩
  .rintro i x δ hx ⟨I,ps,t5,t6,Y,T,M,l,g,rfl,hl,hp⟩;obtain⟨rfl,hi⟩:=O3 hx;refine⟨_,rfl,?_⟩;refine JA (show gz 6 _=some (.nx [.d (.int I),.d wc,.d ut,.d Rs,.own (.lst zG),.d zO,.own (.Cf []),Y,T,M,l,g]) from rfl) ?_;obtain⟨c,hc,ec⟩:∃c:Nat,c<=4/\I % 5=c:=⟨(I % 5).toNat,by lia,by lia⟩;refine JA (AU (y:=.int (c:Nat)) (AI (x:=.int I) (y:=.int 5) rfl rfl (by rw[mod_is AS,ec]))) ?_;refine JA (AU (AI (x:=.int I) (y:=.int 5) rfl rfl (div_is AS AS))) ?_;obtain⟨δ1,e1,r1,ds,u8,u9,u10,Z,rfl,hd⟩:=mM (r:=I / 5) (most:=.d wc) (s4:=.own (.lst zG)) (s5:=.d zO) (s8:=T) (s9:=M) (s10:=l) (s11:=g) hc hm (by lia:many<=4);refine JA e1 ?_;obtain⟨v9,e9⟩:=uU (.d (.int r1)) (.d wc) (.d ut) (.d Rs) (.own (.lst zG)) (.d zO) (.own xr) (.d x6) u8 u9 u10 Z;obtain⟨ts,hts,e2⟩:=kM (a0:=.d (.int r1)) (a1:=.d wc) (a2:=.d ut) (a3:=.d Rs) (a4:=.own (.lst zG)) (a5:=.d zO) (a7:=.d x6) (a8:=u8) (a9:=v9) (a10:=u10) (a11:=Z) hd hm hc;refine⟨[.d (.int r1),.d wc,.d ut,.d Rs,.own (.lst ((ps++[ts]).map Az)),.d zO,.own xr,.d x6,u8,v9,u10,Z],?_,r1,ps++[ts],_,_,_,_,_,_,_,rfl,by simp[hl],fun t U=>?_⟩
   .show Vh 4 _ (Ey 9 _)=_;rw[e9];show(L1 _ _ _ _ _ _ _ _).bind _=_;rw[e2];show(if(ps.map Az).length<CQ then _ else none)=_;rw[if_pos (by rw[wk];show _<1000;lia),(Ja)]
    rfl
   .rcases ae.mp U with U|U
    .exact hp t U
    .rw[List.mem_singleton.mp U];exact hts
  .rintro δ ⟨I,ps,t5,t6,Y,T,M,l,g,e,h1,h2⟩;exact⟨I,ps,t5,t6,Y,T,M,l,g,e,by rw[h1];simp[D3],h2⟩
 obtain⟨xs,e,ps,rfl,hl,hp⟩:=main;exact⟨ps,⟨by lia,by lia,fun ts U=>by rw[hl];exact hp ts U⟩,by lia,J7 (xs:=ps.map Az) rfl e⟩
structure QK(ps:am):Prop where
 one:1<=ps.length
 four:ps.length<=4
 Li:∀ts∈ps,Jn ps.length ts
def B8(ps:am):vo:=(List.range ps.length).map fun k=>Dm k (ps.getD k [])
def KP(ps:am):Str:=Str.join ef (B8 ps)
noncomputable def Qn(x:Str):Option (List (List Bj)) :=
 if 4<(Txt.split x ef).length then none else GV ((List.range (Txt.split x ef).length).map fun k=>M7 (Txt.split x ef).length k ((Txt.split x ef).getD k xz))
def So{ps:am}(h:1<=ps.length):B8 ps≠[]:=fun z=>by
 have:=aH List.length z;simp[B8]at this;rw[this]at h;simp at h
def K8{ps:am}(h:QK ps):Txt.split (KP ps) ef=B8 ps:=by
 refine Tx.IM (So h.one) fun z g=>?_;obtain⟨k,l,rfl⟩:=aN.mp g;have:=bD.mp l;have:=h.four;exact qE AC _
def getD_mem{ps:am}{k:Nat}(h:k<ps.length):ps.getD k []∈ps:=by
 rw[(Ct),List.getElem?_eq_getElem h];exact ag h
def map_getD{α g:Type}{d:α}{f:Nat->α->g}:∀(l:wq),(List.range l.length).map (fun k=>f k (l.getD k d))=l.mapIdx f:=fun l=>by
 apply bO;intro i;rw[xZ,List.getElem?_mapIdx];by_cases h:i<l.length
 .rw[List.getElem?_range h,List.getElem?_eq_getElem h];show some (f i (l.getD i d))=_;rw[(Ct),List.getElem?_eq_getElem h];rfl
 .rw[List.getElem?_eq_none w9,List.getElem?_eq_none AC];rfl
def mO{ps:am}(h:QK ps):Qn (KP ps)=some ps:=by
 have l:=h.four;have g:(B8 ps).length=ps.length:=by simp[B8]
 unfold Qn;rw[K8 h,g,if_neg AC];have e:((List.range ps.length).map fun k=>M7 ps.length k ((B8 ps).getD k xz))=ps.map some:=by
  apply bO;intro i;rw[xZ,xZ];by_cases hi:i<ps.length
  .rw[List.getElem?_range hi,List.getElem?_eq_getElem hi];show some (M7 ps.length i ((B8 ps).getD i xz))=some (some ps[i]);have:(B8 ps).getD i xz=Dm i ps[i]:=by
    rw[(Ct),B8,xZ,List.getElem?_range hi];show Dm i (ps.getD i [])=_;rw[(Ct),List.getElem?_eq_getElem hi];rfl
   rw[this,lx l AC (h.Li _ (ag hi))]
  .rw[List.getElem?_eq_none a6,List.getElem?_eq_none AC];rfl
 rw[e,OS]
def fK{x:Str}{ps:am}(h:Qn x=some ps):x=KP ps/\QK ps:=by
 unfold Qn at h;split at h
 .cases h
 .rename_i Z;obtain⟨ls,g⟩:∃ls,Txt.split x (Tx.sep 10)=ls:=⟨_,rfl⟩;rw[g]at h Z;have e:=Ol h;have Y:ls.length=ps.length:=by have:=aH List.length e;simpa using this
  have ne:ls≠[]:=by rw[<-g];exact Tx.FU _ _
  have one:1<=ls.length:=List.length_pos_iff.mpr ne;have key:∀k (R:k<ps.length),ls.getD k xz=Dm k ps[k]/\Jn ps.length ps[k]:=fun k R=>by
   have I:=aH (fun l=>l[k]?) e;simp only[List.getElem?_map]at I;rw[List.getElem?_range AC,List.getElem?_eq_getElem R]at I;have T:M7 ls.length k (ls.getD k xz)=some ps[k]:=aQ I;rw[Y]at T;exact qo AC T
  refine⟨?_,by lia,by lia,fun ts U=>?_⟩
  .rw[<-StrLaws.join_split x ef,g];unfold KP
   congr 1
   apply bO;intro i;rw[B8,xZ];by_cases hi:i<ps.length
   .rw[List.getElem?_range hi,List.getElem?_eq_getElem (show i<ls.length by lia)];show some ls[i]=some (Dm i (ps.getD i []));have M:=(key i hi).1;rw[(Ct),List.getElem?_eq_getElem (show i<ls.length by lia)]at M;rw[(Ct),List.getElem?_eq_getElem hi];exact aH some M
   .rw[List.getElem?_eq_none AC,List.getElem?_eq_none a6];rfl
  .obtain⟨i,hi,rfl⟩:=List.getElem_of_mem U;exact(key i hi).2
abbrev PT:=List Int×Option (Int×Int)
def EO(x:Str):List (List PT):=(Txt.split x ef).map (IH (Txt.split x ef).length)
def enc(t:Bj):PT:=(t.1,some yu)
def X0{ps:am}(h:QK ps):EO (KP ps)=ps.map fun ts=>ts.map enc:=by
 have l:=h.four;have g:(B8 ps).length=ps.length:=by simp[B8]
 unfold EO;rw[K8 h,g];apply bO;intro i;rw[xZ,xZ];by_cases hi:i<ps.length
 .rw[B8,xZ,List.getElem?_range hi,List.getElem?_eq_getElem hi];show some (IH ps.length (Dm i (ps.getD i [])))=some (ps[i].map enc);rw[(Ct),List.getElem?_eq_getElem hi];show some (IH ps.length (Dm i ps[i]))=_;rw[mX l AC (h.Li _ (ag hi))];rfl
 .rw[List.getElem?_eq_none (show(B8 ps).length<=i by lia),List.getElem?_eq_none (show ps.length<=i by lia)];rfl
def Jj(d:PT):PD:=.tuple [tupI d.1,Fq d.2]
def RZ(l:List PT):PD:=.list (l.map Jj)
def FH(l:List (List PT)):PD:=.list (l.map RZ)
def cc(t:Bj):Jj (enc t)=Dp t:=rfl
def Ur(ps:am):FH (ps.map fun ts=>ts.map enc)=Cv ps:=by
 unfold FH Cv Az;rw[(Cu)]
 congr 1
 refine ak fun ts _=>?_;show PyData.list ((ts.map enc).map Jj)=_;rw[(Cu)];rfl
def RJ(t:PT):PU (Jj t)=t.1:=by
 show(t.1.map PyData.int).map intD=t.1;rw[(Cu)];exact(ak fun _ _=>rfl).trans (List.map_id _)
def kn(r:Rat):El (Bi r)=true:=by
 obtain⟨l,g⟩:=WR r;rw[Bi,El,decide_eq_true l,(KG),beq_iff_eq];exact g
def hV{n:Nat}{t:Bj}(h:M9 n t):Ee n (Dp t)=true:=by
 show(Fs n wL&&(El yw && !decide (t.2.num=0)))=true;have g:Fs n wL=true:=by
  show(decide (((t.1.map PyData.int).length:Int)=n)&&(t.1.map PyData.int).all HC)=true;rw[decide_eq_true (by rw[wk,h.len]),(KG),(Ib)];intro d hd;obtain⟨i,hi,rfl⟩:=aN.mp hd;exact aX (h.pos i hi)
 rw[g,kn,decide_eq_false fun z=>h.ne (Rat.num_eq_zero.mp z)];rfl
def Yb{n:Nat}{ts:wy}(h:Jn n ts):Ei n zP=true:=by
 show(List.range (ts.map Dp).length).all (Fb n zAI)=true;rw[(Ib)];intro k g;have g:k<ts.length:=by simpa using g
 unfold Fb;rw[xZ,List.getElem?_eq_getElem g];show(Ee n (Dp ts[k])&&_)=true;rw[hV (h.tm _ (ag g)),(KG)];by_cases l:k=0
 .rw[decide_eq_true l];rfl
 .rw[decide_eq_false l,Bool.false_or,xZ,List.getElem?_eq_getElem (show k-1<ts.length by lia)];show IT.lt (PU (Dp ts[k])) (PU (Dp ts[k-1]))=true;rw[<-cc,<-cc,RJ,RJ];exact List.pairwise_iff_getElem.mp h.ord (k-1) k AC g AC
def Tp{ps:am}(h:QK ps):HF zv=true:=by
 show(!decide ((ps.map Az).length=0)&&(ps.map Az).all (Ei (ps.map Az).length))=true;have:=h.one;rw[wk,decide_eq_false AC,Bool.not_false,(KG),(Ib)];intro d hd;obtain⟨ts,g,rfl⟩:=aN.mp hd;exact Yb (h.Li ts g)
def kK{n m:Nat}{w:Str}(h:Ee n (Jj (FJ m w))=true):∃t,M9 n t/\FJ m w=enc t:=by
 revert h
 obtain⟨d,hd⟩:∃d,FJ m w=d:=⟨_,rfl⟩;rw[hd];intro h;have h':(Fs n (tupI d.1)&&(El (Fq d.2) && !decide (gR (Fq d.2)=0)))=true:=h;rw[(Ft),(Ft)]at h';obtain⟨Y,T,R⟩:=h';have M:Tx.rd ((Txt.split w wg).headD xz)=d.2:=by rw[<-hd];rfl
 cases e:d.2 with
 |none=>rw[e]at T;cases T
 |some q=>
  rw[e]at R M;have F:=Tx.jX (t:=q.1) (b:=q.2) M;obtain⟨I,Z⟩:=Sa F.pos F.low;have g:(decide (((d.1.map PyData.int).length:Int)=n)&&(d.1.map PyData.int).all HC)=true:=Y;rw[(Ft),decide_eq_true_eq,wk,(Ib)]at g;refine⟨(d.1,Rat.divInt q.1 q.2),⟨show d.1.length=n by have:=g.1;lia,fun x U=>?_,fun z=>?_,?_,?_⟩,?_⟩
  .have:=g.2 (.int x) (aN.mpr ⟨x,U,rfl⟩);exact aU this
  .have:(Rat.divInt q.1 q.2).num=0:=by rw[show Rat.divInt q.1 q.2=0 from z];rfl
   rw[I]at this;have l:(!decide (q.1=0))=true:=R;rw[decide_eq_true this]at l;cases l
  .show(Tx.dg (Rat.divInt q.1 q.2).num.natAbs).length<=40;rw[I];exact F.top
  .show(Tx.dg (Rat.divInt q.1 q.2).den).length<=40;have:(Rat.divInt q.1 q.2).den=q.2.natAbs:=by lia
   rw[this];exact F.bot
  .unfold enc;refine Prod.ext rfl ?_;rw[e];show some q=some ((Rat.divInt q.1 q.2).num,((Rat.divInt q.1 q.2).den:Int));rw[I,Z]
def lH{n m:Nat}:∀ {ws:vo},Ei n (RZ (ws.map (FJ m)))=true->∃ts,Jn n ts/\ws.map (FJ m)=ts.map enc:=fun {ws} h=>by
 have h':(List.range (((ws.map (FJ m)).map Jj).length)).all (Fb n ((ws.map (FJ m)).map Jj))=true:=h;rw[(Ib)]at h';have at_:∀k (U:k<ws.length),Ee n (Jj (FJ m ws[k]))=true/\(k=0\/IT.lt (FJ m ws[k]).1 (FJ m (ws.getD (k-1) xz)).1=true):=fun k U=>by
  have:=h' k (by simpa using U);unfold Fb at this;rw[xZ,xZ,List.getElem?_eq_getElem U]at this;have this:(Ee n (Jj (FJ m ws[k]))&&_)=true:=this;rw[(Ft)]at this;refine⟨this.1,?_⟩;have g:=this.2;rw[Bool.or_eq_true]at g;rcases g with g|g
  .exact .inl (aU g)
  .by_cases M:k=0
   .exact .inl M
   .refine .inr ?_;rw[xZ,xZ,List.getElem?_eq_getElem (show k-1<ws.length by lia)]at g;have g:IT.lt (PU (Jj (FJ m ws[k]))) (PU (Jj (FJ m ws[k-1])))=true:=g;rw[RJ,RJ]at g;rw[(Ct),List.getElem?_eq_getElem (show k-1<ws.length by lia)];exact g
 have ex:∀ {l:N1},(∀w∈l,Ee n (Jj (FJ m w))=true)->∃ts:List Bj,(∀t∈ts,M9 n t)/\l.map (FJ m)=ts.map enc:=fun {l}=>by
  induction l with
  |nil=>intro _;exact⟨[],fun t ht=>(nomatch ht),rfl⟩
  |cons w l Y=>
   intro T;obtain⟨ts,t1,R⟩:=Y fun z M=>T z (.tail _ M);obtain⟨t,a1,a2⟩:=kK (T w EQ);refine⟨t::ts,fun z M=>?_,by rw[xf,xf,R,a2]⟩;rcases aI.mp M with rfl|M
   .exact a1
   .exact t1 z M
 obtain⟨ts,t1,R⟩:=ex (l:=ws) fun w hw=>by
  obtain⟨i,hi,rfl⟩:=List.getElem_of_mem hw;exact(at_ i hi).1
 refine⟨ts,⟨t1,KO.mp ?_⟩,R⟩;have hl:ws.length=ts.length:=by have:=aH List.length R;simpa using this
 have step:∀k,k+1<ts.length->∀(I:k+1<ts.length) (h0:k<ts.length),IT.lt ts[k+1].1 ts[k].1=true:=fun k U I h0=>by
  have a:=(at_ ii AC).2;have b:∀i (hi:i<ts.length),(FJ m (ws.getD i xz))=enc ts[i]:=fun i hi=>by
   have:=aH (fun l=>l[i]?) R;simp only[List.getElem?_map]at this;rw[List.getElem?_eq_getElem (show i<ws.length by lia),List.getElem?_eq_getElem hi]at this;rw[(Ct),List.getElem?_eq_getElem (show i<ws.length by lia)];exact aQ this
  rcases a with a|a
  .lia
  .have b1:=b ii I;have b0:=b k h0;rw[(Ct),List.getElem?_eq_getElem (show k+1<ws.length by lia)]at b1;have b1:FJ m ws[k+1]=enc ts[k+1]:=b1;rw[b1,Nat.add_sub_cancel,b0]at a;exact a
 have Z:∀ {l:wy},(∀k (I:k+1<l.length) (h0:k<l.length),IT.lt l[k+1].1 l[k].1=true)->Il l=true:=fun {l}=>by
  induction l with
  |nil=>intro _;rfl
  |cons a l Y=>
   intro T;cases l with
   |nil=>rfl
   |cons b r=>
    unfold Il;rw[(Ft)];refine⟨T 0 A1 A1,Y fun k I h0=>?_⟩;exact T ii (by simp only[List.length_cons]at I ⊢;lia) (by simp only[List.length_cons]at h0 ⊢;lia)
 exact Z fun k I h0=>step k I I h0
def eC{x:Str}(h4:(Txt.split x ef).length<=4)(h:HF xL=true):∃ps,QK ps/\EO x=ps.map fun ts=>ts.map enc:=by
 obtain⟨ls,R⟩:∃ls,Txt.split x (Tx.sep 10)=ls:=⟨_,rfl⟩;unfold EO at h ⊢;rw[R]at h h4 ⊢;have ne:ls≠[]:=by rw[<-R];exact Tx.FU _ _
 have one:1<=ls.length:=List.length_pos_iff.mpr ne;have h':(!decide (((ls.map (IH ls.length)).map RZ).length=0)&&((ls.map (IH ls.length)).map RZ).all (Ei ((ls.map (IH ls.length)).map RZ).length))=true:=h;rw[(Ft),wk,wk,(Ib)]at h';have ex:∀ {l:N1},(∀z∈l,Ei ls.length (RZ (IH ls.length z))=true)->∃ps:List (List Bj),(∀ts∈ps,Jn ls.length ts)/\l.map (IH ls.length)=ps.map fun ts=>ts.map enc:=fun {l}=>by
  induction l with
  |nil=>intro _;exact⟨[],fun t M=>(nomatch M),rfl⟩
  |cons z l ih=>
   intro U;obtain⟨ps,t1,Y⟩:=ih fun y I=>U y (.tail _ I);obtain⟨ts,a1,a2⟩:∃ts,Jn ls.length ts/\IH ls.length z=ts.map enc:=by
    have g:=U z EQ;unfold IH at g ⊢;split at g
    .rename_i e;rw[if_pos e];exact⟨[],⟨fun t M=>(nomatch M),.nil⟩,rfl⟩
    .rename_i e;rw[if_neg e];exact lH g
   refine⟨ts::ps,fun y I=>?_,by rw[xf,xf,Y,a2]⟩;rcases aI.mp I with rfl|I
   .exact a1
   .exact t1 y I
 obtain⟨ps,Z,T⟩:=ex (l:=ls) fun z g=>h'.2 _ (aN.mpr ⟨_,List.mem_map.mpr ⟨z,g,rfl⟩,rfl⟩);have hl:ls.length=ps.length:=by have:=aH List.length T;simpa using this
 exact⟨ps,⟨by lia,by lia,fun ts M=>by rw[<-hl];exact Z ts M⟩,T⟩
def UU:Str.ofString "\n" = Tx.sep 10:=by decide +kernel
def ZK:Str.ofString " " = Tx.sep 32:=by decide +kernel
def Lu{w t:Str}{c:Nat}(e:t=Tx.sep c)(h:w.length<=100000):C3 u0 zZ=some (.list ((Txt.split w Iv).map .str)):=by
 subst e;exact if_pos ⟨by simp[Tx.sep,Str.length],h⟩
def cW{x l:Str}{c:Nat}(h:l∈Txt.split x Iv):l.length<=x.length:=by
 rw[BI,BI];exact(Cs h).length_le
def TN{α:Type}{i:Nat}{f:va}{fs:vZ}{δ:Dv}{fr:v8}{zs:wq}{a g:α->PD}(M:fs δ=some (zs.map a))(R:zs.length<=CQ) (h:∀z∈zs,f xM=some (g z)):JE (Bw i) Dl f fr fs δ=some (zs.map g):=by
 unfold JE;rw[M,zo];have:∀zs:List α,(∀z∈zs,f xM=some (g z))->L2.collect (E4 (Bw i) Dl f (Bp fr δ)) (zs.map a)=some (zs.map g):=fun zs=>by
  induction zs with
  |nil=>intro _;rfl
  |cons z zs l=>
   intro h;rw[xf,xf];unfold L2.collect;rw[l fun y I=>h y (.tail _ I)];have e:E4 (Bw i) Dl f (Bp fr δ) (a z)=some (some (g z)):=by
    unfold E4 Bw;rw[zo];show(some true).bind _=_;rw[zo,if_pos rfl,h z EQ]
    rfl
   rw[e];rfl
 rw[this zs h,zo,L2.CH,if_pos (by rw[wk];exact R)]
def HR{α:Type}{i:Nat}{f:va}{fs:vZ}{δ:Dv}{fr:v8}{zs:wq}{a g:α->PD}(l:fs δ=some (zs.map a))(I:zs.length<=CQ) (h:∀z∈zs,f xM=some (g z)):Bz (Bw i) Dl f fr fs δ=some (.list (zs.map g)):=by
 have:=TN l I h;unfold Bz;rw[this];rfl
def Qz{F:DF}{δ:Dv}{o:Ou}(h:F δ=some o):Qo F δ=some (.inl o):=by show(F δ).map _=_;rw[h];rfl
def Fz(n:Nat)(d:PD):Prop:=d.canLay0=true/\d.depth<=n
theorem Sf{n:Nat}:∀ {ds:wV},(∀d∈ds,Fz n d)->PyData.canLayAll0 ds=true/\PyData.depthAll ds<=n
 |[],_=>by simp[PyData.canLayAll0,PyData.depthAll]
 |d::ds,h=>by
  obtain⟨I,R⟩:=Sf fun e g=>h e zAE;obtain⟨l,M⟩:=h d EQ;simp only[PyData.canLayAll0,PyData.depthAll,I,l];exact⟨rfl,by lia⟩
def Jo{n:Nat}{ds:vc}(h:∀d∈ds,Fz n d):Fz (n+1) (.list ds):=by
 obtain⟨g,l⟩:=Sf h;exact⟨by simp only[PyData.canLay0,g],by simp only[PyData.depth];lia⟩
def Qg{n:Nat}{ds:vc}(h:∀d∈ds,Fz n d):Fz (n+1) (.tuple ds):=by
 obtain⟨g,l⟩:=Sf h;exact⟨by simp only[PyData.canLay0,g],by simp only[PyData.depth];lia⟩
def Fz.ok{n:Nat}{d:PD}(h:Fz n d)(hn:n<=64):SeqAt.shaped d=true:=by
 unfold SeqAt.shaped;rw[h.1,decide_eq_true (aK h.2 hn)];rfl
def Fz.more{n m:Nat}{d:PD}(h:Fz n d)(hn:n<=m):Fz m d:=⟨h.1,Nat.le_trans h.2 hn⟩
def rm{x:Str}(h:Bg x=true):Fz 1 L6:=⟨by simp[PyData.canLay0,Zr h],by simp[PyData.depth]⟩
def RN(i:Int):Fz 1 wN:=⟨by simp[PyData.canLay0],by simp[PyData.depth]⟩
def Qi:Fz 1 .none:=⟨by simp[PyData.canLay0],by simp[PyData.depth]⟩
def jW(o:Option (Int×Int)):Fz 2 (Fq o):=by
 cases o with
 |none=>exact Qi.more AS
 |some q=>
  refine Qg fun d hd=>?_;rcases aI.mp hd with rfl|hd
  .exact RN _
  .rcases aI.mp hd with rfl|hd
   .exact RN _
   .cases hd
def Qs{xs:vo}(h:∀x∈xs,Bg x=true):Fz 2 (.list (xs.map .str)):=Jo fun d hd=>by
 obtain⟨w,g,rfl⟩:=aN.mp hd;exact rm (h w g)
theorem Ut:∀xs ys:List Str,PyData.eqvAll (xs.map .str) N2=decide (xs=ys)
 |[],[]=>rfl
 |[],_::_=>rfl
 |_::_,[]=>rfl
 |x::xs,y::ys=>by
  rw[xf,xf,PyData.eqvAll,Ut xs ys];by_cases e:x=y
  .subst e;simp[PyData.eqv]
  .simp[PyData.eqv,e]
def jL{xs ys:vo}(l:∀x∈xs,Bg x=true)(g:∀y∈ys,Bg y=true):Ax true (.list (xs.map .str)) (.list N2)=some (.bool (!decide (xs=ys))):=by
 show(if _/\_ then some (PyData.bool (!PyData.eqv _ _)) else none)=_;rw[if_pos ⟨(Qs l).ok AS,(Qs g).ok AS⟩,PyData.eqv,Ut]
def LQ{α:Type}{xs:wq}{i:Nat}{x:α}(h:xs[i]? = some x):D8 xs ((i:Nat):Int)=some x:=by
 have g:=(aF.mp h).1;unfold D8 IC;rw[if_pos AC,if_pos AC,zo,(FP)];exact h
theorem W9{set:XN}{F:DF}{r:PD}(M:Nat->Dv->Prop)(bad:Nat->Prop):∀(xs:wV) (δ:Dv) (n:Nat),M n δ->(∀(i:Nat) (x:PD) (δ:Dv),xs[i]? = some x->M (n+i) δ->∃l,set x δ=some l/\((bad (n+i)/\F l=some (.rt r))\/(¬bad (n+i)/\∃g,F l=some (.nx g)/\M (n+i+1) g))) ->
  ((∃i,i<xs.length/\bad (n+i))/\ER set F xs δ=some (.rt r))\/((∀i,i<xs.length->¬bad (n+i))/\∃δ',ER set F xs δ=some zf/\M (n+xs.length) δ')
 |[],δ,n,h,_=>.inr ⟨fun i hi=>absurd hi (Nat.not_lt_zero _),δ,rfl,h⟩
 |x::xs,δ,n,h,k=>by
  obtain⟨l,U,I⟩:=k 0 x δ rfl h;rcases I with ⟨I,T⟩|⟨I,g,T,h4⟩
  .refine .inl ⟨⟨0,by simp,I⟩,?_⟩;unfold ER;rw[U,zo,T]
  .have e:ER set F (x::xs) δ=ER set F xs g:=by rw[ER,U,zo,T]
   rw[e];rcases W9 M bad xs g (n+1) h4 (fun i y δ Y Z=>by
    have:=k Pi y δ (by simpa using Y) (by rw[show n+Pi=n+1+i by lia];exact Z);rw[show n+Pi=n+1+i by lia]at this;exact this) with ⟨⟨i,hi,hb⟩,R⟩|⟨R,δ',h6,h7⟩
   .exact .inl ⟨⟨i+1,by simp;lia,by rw[show n+Pi=n+1+i by lia];exact hb⟩,R⟩
   .refine .inr ⟨fun i hi=>?_,δ',h6,by rw[(Fv),show n+(xs.length+1)=n+1+xs.length by lia];exact h7⟩;cases i with
    |zero=>exact I
    |succ i=>rw[show n+Pi=n+1+i by lia];exact R i (by simp at hi;lia)
def ne_int(a b:Int):Ax true (.int a) yo=some (.bool (!(a==b))):=by
 unfold Ax;rw[if_pos ⟨by simp[SeqAt.shaped,PyData.canLay0,PyData.depth],by simp[SeqAt.shaped,PyData.canLay0,PyData.depth]⟩];simp[PyData.eqv]
def Vi{x:PD}{n:Nat}(h:Fz n x)(hn:n<=64):Ax true x x=some (.bool false):=by
 refine(if_pos ⟨h.ok hn,h.ok hn⟩).trans ?_;rw[WX x h.1];rfl
def Lit(r:Rat):Prop:=r.num.natAbs<10^41/\r.den<10^41
def kB{r:Rat}(h:Lit r):(Dc r).length<=90:=by
 unfold Dc;have l:=HW h.1;have g:=HW (i:=(r.den:Int)) (by simpa using h.2);rw[BI,Tx.DP,(EB)];split
 .simp;lia
 .simp;lia
def mC{r:Rat}(h:Lit r):CD [Bi r]=some (.str (Dc r)):=by
 have I:((r.den:Int)).natAbs<10^41:=by simpa using h.2
 have st:∀ {i:Int},i.natAbs<10^41->Mp [.int i]=some (.str (Tx.Bt (Tx.Bh i))):=fun {i} hi=>by
  have e:Str.ofString (toString i)=Tx.Bt (Tx.Bh i):=Tx.BL (by rw[Tx.toS,Tx.Ao]);rw[<-e];exact if_pos (Ry hi)
 have len:∀l:List Nat,(Tx.Bt l).length=l.length:=fun l=>by rw[BI,Tx.Ao]
 have Z:=HW h.1;have Y:=HW I;have add:∀ {a b:Str},a.length+b.length<=1000->Av (.str a) (.str b)=some (.str (a++b)):=fun {a b} T=>by
  have e:Nh (.str a) (.str b)=some (.str (a++b)):=if_pos T;show HX Oi Nh (.str a) (.str b)=_;unfold HX;rw[e];rfl
 have M:(Str.ofString "/").length=1:=by decide +kernel
 have R:(Str.ofString "").length=0:=by decide +kernel
 refine CF rfl (B4 ?_);have g:∀δ,AF A8 GG Go (.d (Bi r)::δ)=some (.int r.num):=fun δ=>AI rfl rfl (NC _ _);have i1:∀δ,AF A8 GG Em (.d (Bi r)::δ)=some (.int (r.den:Int)):=fun δ=>AI rfl rfl (RP _ _ _);show AF Av _ _ [.d (Bi r)]=_;have sl:AF Av tO (AK Mp (AB (AF A8 GG Em) AG)) [.d (Bi r)]=some (.str (Str.ofString "/" ++ Tx.Bt (Tx.Bh (r.den:Int)))):=AI rfl (AX (AQ (i1 _) rfl) (st I)) (add (by rw[len,M];lia));have ls:Ce (AB (AF Av tO (AK Mp (AB (AF A8 GG Em) AG))) (AB ON AG)) [.d (Bi r)]=some (.list [.str (Str.ofString "/" ++ Tx.Bt (Tx.Bh (r.den:Int))),.str (Str.ofString "")]):=by
  exact O9 (AQ sl rfl) (show 2<=1000 by decide)
 by_cases e:(r.den:Int)=1
 .refine(AI (AX (AQ (g _) rfl) (st h.1)) (AI ls (y:=.int 1) (AX (AQ (AI (i1 _) rfl ((eq_int _ _).trans (by rw[e]))) rfl) rfl) (RP _ _ _)) (add (by rw[len,R];lia))).trans ?_;refine aH some zAH;unfold Dc;rw[Tx.app_list,Tx.Ao,Tx.DP,if_pos e];rfl
 .have U:((r.den:Int)==1)=false:=by simpa using e
  refine(AI (AX (AQ (g _) rfl) (st h.1)) (AI ls (y:=.int 0) (AX (AQ (AI (i1 _) rfl ((eq_int _ _).trans (by rw[U]))) rfl) rfl) (NC _ _)) (add ?_)).trans ?_
  .have:(Str.ofString "/" ++ Tx.Bt (Tx.Bh (r.den:Int))).length=1+(Tx.Bh (r.den:Int)).length:=by
    rw[BI,Tx.app_list,Tx.Ao,(EB)];rfl
   rw[len,this];lia
  .refine aH some zAH;unfold Dc;rw[Tx.app_list,Tx.app_list,Tx.Ao,Tx.Ao,Tx.DP,if_neg e];rfl
theorem strs_map:∀ys:List Str,strsOf N2=some ys
 |[]=>rfl
 |y::ys=>by rw[xf,strsOf,strs_map ys];rfl
theorem cq{c:Nat}:∀ {ys:N1},(∀y∈ys,y.length<=c)->(ys.map (·.length)).sum<=c*ys.length
 |[],_=>by simp
 |y::ys,h=>by
  have I:=cq fun z g=>h z zAE;have l:=h y EQ;rw[xf,List.sum_cons,(Fv),Nat.mul_succ];lia
def IX{s:Str}{ys:vo}(hs:s.length<=3)(h:∀y∈ys,y.length<=9000)(g:ys.length<=1000):Eo (.str s) (.list N2)=some (.str (Str.join s ys)):=by
 show(strsOf N2).bind _=_;rw[strs_map];have:=cq h;have l:ys.length*s.length<=ys.length*3:=Nat.mul_le_mul_left _ hs;refine(if_pos AC).trans ?_;exact aH zc (StrLaws.glued_eq_join s ys)
def BF(ys:vo):Nat:=(ys.map fun y=>y.length+1).sum
def DY{x:Str}:Bg x=true ↔ ∀c∈x.cps.toList,c<128:=⟨fun h c g=>aU (af.mp h c g),fun h=>af.mpr fun c g=>aX (h c g)⟩
theorem Vw{c:Nat}:∀ {ps:N1},ps.length<=(Str.join Iv ps).length+1
 |[]=>aW _
 |[p]=>by rw[List.length_singleton];lia
 |p::q::r=>by
  have:=Vw (c:=c) (ps:=q::r);rw[BI]at this ⊢;rw[Tx.B6,(EB),(Fv)];simp only[List.length_cons]at this ⊢
  lia
theorem HM{c:Nat}:∀ {ps:N1},ps≠[]->(Str.join Iv ps).length+1=BF ps
 |[],h=>absurd rfl h
 |[p],_=>by show p.length+1=_;simp[BF]
 |p::q::r,_=>by
  have:=HM (c:=c) (ps:=q::r) A1;rw[BI]at this ⊢;rw[Tx.B6,(EB),(Fv)];have e:BF (p::q::r)=p.length+1+BF (q::r):=by simp[BF]
  rw[e,BI p];lia
def join_le{c:Nat}{ps:vo}:(Str.join Iv ps).length<=BF ps:=by
 cases ps with
 |nil=>exact aW _
 |cons p r=>have:=HM (c:=c) (ps:=p::r) A1;lia
theorem VV{c:Nat}(g:c<128):∀ {ps:N1},(∀p∈ps,Bg p=true)->Bg (Str.join Iv ps)=true
 |[],_=>rfl
 |[p],h=>h p EQ
 |p::q::r,h=>by
  have M:=DY.mp (VV g (ps:=q::r) fun z l=>h z (.tail _ l));have I:=DY.mp (h p EQ);refine DY.mpr fun d hd=>?_;rw[Tx.B6]at hd;rcases ae.mp hd with hd|hd
  .exact I d hd
  .rcases aI.mp hd with rfl|hd
   .exact g
   .exact M d hd
def K9(x:Str)(c:Nat):(Txt.split x Iv).length<=x.length+1:=by
 have:=Vw (c:=c) (ps:=Txt.split x Iv)
 rwa [StrLaws.join_split]at this
def Zu{x:Str}(ha:Bg x=true)(g:x.length<=600):EM x:=⟨ha,by lia,Nat.le_trans List.count_le_length (by rw[<-BI];exact g)⟩
def qM{k:Nat}{r:Rat}(l:r.num.natAbs<10^ii)(g:r.den<10^ii):(Dc r).length<=2*k+4:=by
 unfold Dc;have R:=Tx.SS r.num;have M:=MB k _ l;have I:=MB k _ g;have e:Tx.Bh (r.den:Int)=Tx.dg r.den:=by unfold Tx.Bh;rw[if_neg AC];rfl
 rw[BI,Tx.DP,(EB)];split
 .rw[List.length_nil];lia
 .rw[(Fv),e];lia
theorem jO{α:Type}{f:α->Nat}{c:Nat}:∀ {l:wq},(∀y∈l,f y<=c)->(l.map f).sum<=c*l.length
 |[],_=>by simp
 |z::l,h=>by have:=jO fun y g=>h y zAE;have:=h z EQ;rw[xf,List.sum_cons,(Fv),Nat.mul_succ];lia
section
variable{δ:Dv}{f g:va}{a b:Int}
def DB(h:f δ=some (.int a)):AR J9 f (fC yo) δ=some (a==b):=Af h rfl (eq_int a b)
def Eu(h:f δ=some (.int a))(I:g δ=some yo)(l:b≠0):AF A7 f g δ=some (.int (a.fmod b)):=AI h I (if_pos l)
def Sd(h:f δ=some (.int a))(l:b≠0/\Ij 9000 b=true):AF CO f (fC yo) δ=some (.int (a.fdiv b)):=AI h rfl (if_pos l)
def Wg(h:f δ=some (.int a)):AR IO f (fC yo) δ=some (decide (b<a)):=Af h rfl rfl
def jP(h:f δ=some (.int a)):AR LE f (fC yo) δ=some (decide (a<b)):=Af h rfl rfl
def Mj(a:Int){n:Nat}(hn:0<n):∃i:Nat,i<n/\a.fmod (n:Int)=((i:Nat):Int):=by
 have e:=Int.fmod_eq_emod_of_nonneg a (show(0:Int)<=n by lia);have:=Int.emod_nonneg a (show(n:Int)≠0 by lia);have:=Int.emod_lt_of_pos a (show(0:Int)<n by lia);exact⟨(a.fmod n).toNat,by lia,by lia⟩
def tQ{n k:Nat}(h:k<n):IC n ((k:Nat):Int)=some k:=by
 unfold IC;rw[if_pos AC,if_pos AC];rfl
def jx{i k:Nat}{y:PD}{xs:vc}(R:f δ=some y)(M:g δ=some IF)(I:ow i δ=some xs)(l:k<xs.length):Sg i f g δ=some (.nx (δ.set i (.own (.lst (xs.set k y))))):=by
 show(f δ).bind _=_;rw[R,zo,M,zo,I,zo];show(IC xs.length _).map _=_;rw[tQ l];rfl
def dh{i k:Nat}{y:PD}{xs:vc}(R:f δ=some y)(M:g δ=some IF)(I:ow i δ=some xs)(T:k<=xs.length)(l:xs.length<1000):Uj i g f δ=some (.nx (δ.set i (.own (.lst (xs.take k++y::xs.drop k))))):=by
 show(g δ).bind _=_;rw[M,zo,R,zo,I,zo];exact if_pos ⟨by lia,by lia,l⟩
end
def Xw(a b:vo):BF (a++b)=BF a+BF b:=by simp[BF]
def O0{ys:vo}{i:Nat}{y z:Str}(h:ys[i]? = some y):BF (ys.set i z)+(y.length+1)=BF ys+(z.length+1):=by
 induction ys generalizing i with
 |nil=>simp at h
 |cons u ys g=>
  cases i with
  |zero=>cases h;rw[List.set_cons_zero];simp only[BF,List.map_cons,List.sum_cons];lia
  |succ i=>have:=g (i:=i) w9;rw[List.set_cons_succ];simp only[BF,List.map_cons,List.sum_cons]at this ⊢;lia
def X1(ys:vo)(k:Nat)(y:Str):BF (ys.take k++y::ys.drop k)=BF ys+(y.length+1):=by
 have:BF ys=BF (ys.take k)+BF (ys.drop k):=by rw[<-Xw,List.take_append_drop]
 rw[Xw,this];show _+BF (y::_)=_;simp only[BF,List.map_cons,List.sum_cons];lia
theorem XY:∀(ys:N1) (k:Nat),(ys.map PyData.str).eraseIdx k=(ys.eraseIdx k).map .str
 |[],_=>by simp
 |y::ys,0=>rfl
 |y::ys,k+1=>by simp only[List.map_cons,List.eraseIdx_cons_succ,XY ys k]
theorem YI:∀(ys:N1) (k:Nat),BF (ys.eraseIdx k)<=BF ys
 |[],_=>by simp
 |y::ys,0=>by simp only[List.eraseIdx_cons_zero,BF,List.map_cons,List.sum_cons];lia
 |y::ys,k+1=>by have:=YI ys k;simp only[List.eraseIdx_cons_succ,BF,List.map_cons,List.sum_cons]at this ⊢;lia
def Ql{x:Str}{k:Nat}(g:x.length<=1000)(l:k<=x.length):IJ L6 IF=some (.str (Tx.Bt zq)):=by
 refine(if_pos g).trans (aH zc ?_);have:=bG.mp (PyProof.Rows.slice_closes_to (x:=x) (j:=(k:Nat)) ⟨by lia,by rw[<-BI];lia⟩);rw[this];exact Tx.BL (by rw[Tx.Ao];simp)
def UJ{x:Str}{k:Nat}(g:x.length<=1000):Le L6 IF=some (.str (Tx.Bt zr)):=by
 refine(if_pos g).trans (aH zc ?_);have l:=BI x;by_cases I:k<=x.length
 .rw[PyProof.Rows.slice_from_eq (b:=(x.length:Int)) AC AC rfl];refine Tx.BL ?_;rw[Tx.Ao];show((x.cps.toList.drop (k:Int).toNat).take ((x.length:Int)-(k:Nat)).toNat).toArray.toList=_;rw[List.toList_toArray,(FP)];exact List.take_of_length_le (by rw[(Hl)];lia)
 .rw[PyProof.Rows.slice_beyond AC];refine Tx.BL ?_;rw[Tx.Ao,List.drop_eq_nil_of_le AC];rfl
def rK{x:Str}{a:Nat}(g:x.length<=1000)(ha:a<=x.length):Y0 L6 (.int wF) (.int ((a+1:Nat):Int))=some (.str (Tx.Bt ((x.cps.toList.drop a).take 1))):=by
 refine(if_pos g).trans (aH zc ?_);have l:=BI x;by_cases I:a+1<=x.length
 .have:=StrLaws.sliceText_nat x (a:=a) (b:=a+1) AC I;refine Eq.trans (show _=StrLaws.sliceText x (some wF) (some ((a+1:Nat):Int)) from rfl) (this.trans ?_);exact Tx.BL (by rw[Tx.Ao,Nat.add_sub_cancel_left])
 .have e:a=x.length:=by lia
  have T:=StrLaws.sliceText_nat x (a:=a) (b:=a) AC AC;have R:PySem.Builtin.Str.strSliceIndices (some wF) (some ((a+1:Nat):Int)) 1 x.length=PySem.Builtin.Str.strSliceIndices (some wF) (some wF) 1 x.length:=by
   have b1:¬(wF<0):=by lia
   have b2:¬(wF+1<0):=by lia
   have U:max (0:Int) (x.length:Int)=(x.length:Int):=by lia
   have Z:min (wF+1) (x.length:Int)=(x.length:Int):=by lia
   have Y:min wF (x.length:Int)=(x.length:Int):=by lia
   simp[PySem.Builtin.Str.strSliceIndices,b1,b2,Z,Y,U]
  have M:StrLaws.sliceText x (some wF) (some ((a+1:Nat):Int))=StrLaws.sliceText x (some wF) (some wF):=by
   unfold StrLaws.sliceText;rw[R]
  refine Eq.trans (show _=StrLaws.sliceText x (some wF) (some ((a+1:Nat):Int)) from rfl) (M.trans (T.trans ?_));refine Tx.BL ?_;rw[Tx.Ao,Nat.sub_self,List.drop_eq_nil_of_le AC];rfl
def eG{x:Str}{k:Nat}(I:x.length<=1000)(l:k<x.length):∃c,c∈x.cps.toList/\A8 L6 IF=some zQ:=by
 rw[BI]at l;have g:x.cps.toList[k]? = some x.cps.toList[k]:=bE l;refine⟨x.cps.toList[k],List.getElem_mem l,?_⟩;show(if x.length<=CQ then(D8 x.cps.toList _).map _ else none)=_;refine(if_pos I).trans ?_;rw[LQ g];rfl
def D7{a b:Str}(h:a.length+b.length<=1000):Av (.str a) (.str b)=some (.str (a++b)):=by
 have e:Nh (.str a) (.str b)=some (.str (a++b)):=if_pos h;show HX WE _ _ _=_;show HX ZM (HX Oi Nh) (.str a) (.str b)=_;show HX Oi Nh (.str a) (.str b)=_;unfold HX;rw[e];rfl
def Kr(l:vv):(Tx.Bt l).length=l.length:=by rw[BI,Tx.Ao]
def BX(a b:Str):(a++b).length=a.length+b.length:=by rw[BI,BI,BI,Tx.app_list,(EB)]
def XX{a b:Str}(ha:Bg a=true)(l:Bg b=true):Bg (a++b)=true:=DY.mpr fun c g=>by
 rw[Tx.app_list]at g;rcases ae.mp g with g|g
 .exact DY.mp ha c g
 .exact DY.mp l c g
def Ob{x:Str}{l:vv}(g:Bg x=true)(h:∀c∈l,c∈x.cps.toList):Bg (Tx.Bt l)=true:=DY.mpr fun c I=>DY.mp g c (h c (by rwa [Tx.Ao]at I))
def PC{x:Str}{δ:Dv}{f:va}(h:f δ=some L6)(g:x.length<=1000):AK DJ (AB f AG) δ=some (.int ((x.length:Nat):Int)):=AX (AQ h rfl) (if_pos g)
def Sv(a b:Int):Av (.int a) yo=some (.int (a+b)):=by
 have e:WE (.int a) yo=some (.int (a+b)):=rfl;show HX WE _ _ _=_;unfold HX;rw[e]
def wr:Nat->List Nat->Nat
 |a,[]=>a
 |a,c::r=>if c=10\/c=32 then max a (wr 0 r) else wr (a+1) r
theorem eQ:∀(v:wH) (a b:Nat),wr (a+b) v<=a+wr b v
 |[],a,b=>aG _
 |c::r,a,b=>by
  simp only[wr];split
  .lia
  .have:=eQ r a (b+1);rw[<-Nat.add_assoc]at this;exact this
theorem YO:∀(v:wH) (a b:Nat),a<=b->a<=wr a v/\wr a v<=wr b v
 |[],a,b,h=>⟨aG _,h⟩
 |c::r,a,b,h=>by
  simp only[wr];split
  .lia
  .have:=YO r (a+1) (b+1) AC;lia
theorem Q9:∀(u v:wH) (a:Nat),wr a (u++v)<=wr a u+wr 0 v/\wr a u<=wr a (u++v)/\wr 0 v<=wr a (u++v)
 |[],v,a=>⟨eQ v a 0,(YO v a a SL).1,(YO v 0 a (aW _)).2⟩
 |c::r,v,a=>by
  simp only[wr,List.cons_append];split
  .have:=Q9 r v 0;lia
  .exact Q9 r v (a+1)
theorem Uw{c:Nat}(h:c=10\/c=32)(v:wH):∀(u:wH) (a:Nat),wr a (u++c::v)=max (wr a u) (wr 0 v)
 |[],a=>by simp only[wr,List.nil_append,if_pos h]
 |d::r,a=>by
  simp only[wr,List.cons_append];split
  .have:=Uw h v r 0;lia
  .exact Uw h v r (a+1)
theorem Oa:∀(u:wH) (a:Nat),wr a u<=a+u.length/\((∀c∈u,c≠10/\c≠32)->wr a u=a+u.length)
 |[],a=>⟨aG _,fun _=>rfl⟩
 |c::r,a=>by
  have h0:=Oa r 0;have g:=Oa r (a+1);simp only[wr,List.length_cons];split
  .rename_i l;exact⟨by lia,fun k=>by have:=k c EQ;lia⟩
  .exact⟨by lia,fun k=>by have:=g.2 fun d hd=>k d (.tail _ hd);lia⟩
theorem JI{c:Nat}:∀ {p:Str} {r:N1},(Str.join Iv (p::r)).cps.toList=p.cps.toList++(r.map fun q=>c::q.cps.toList).flatten
 |p,[]=>by show p.cps.toList=_;simp
 |p,q::r=>by rw[Tx.B6,JI,xf,(Hm),List.cons_append]
theorem Oq{c n:Nat}(h:c=10\/c=32):∀(r:N1) (u:wH),wr 0 (u++(r.map fun q=>c::q.cps.toList).flatten)<=n ↔ wr 0 u<=n/\∀q∈r,wr 0 q.cps.toList<=n
 |[],u=>by simp
 |q::r,u=>by
  rw[xf,(Hm),List.cons_append,Uw h,Nat.max_le,Oq h r q.cps.toList,List.forall_mem_cons]
def okN(n:Nat)(x:Str):Prop:=Bg x=true/\wr 0 x.cps.toList<=n
instance {n:Nat} {x:Str}:Decidable (okN n x):=inferInstanceAs (Decidable (_/\_))
def okN.more{n m:Nat}{x:Str}(h:okN n x)(k:n<=m):okN m x:=⟨h.1,Nat.le_trans h.2 k⟩
def Sl{n:Nat}{x:Str}(h:Bg x=true)(k:x.length<=n):okN n x:=⟨h,by have:=(Oa x.cps.toList 0).1;rw[BI]at k;lia⟩
def HV{n m:Nat}{a b:Str}(h:okN n a)(k:okN m b):okN (n+m) (a++b):=⟨XX h.1 k.1,by rw[Tx.app_list];have:=(Q9 a.cps.toList b.cps.toList 0).1;have:=h.2;have:=k.2;lia⟩
def XI{n:Nat}{x:Str}(h:okN n x)(k:Nat):okN n (Tx.Bt zq)/\okN n (Tx.Bt zr):=by
 have e:=Q9 zq zr 0;rw[List.take_append_drop]at e;have:=h.2;exact⟨⟨Ob h.1 fun d hd=>bM hd,by rw[Tx.Ao];lia⟩,⟨Ob h.1 fun d hd=>az hd,by rw[Tx.Ao];lia⟩⟩
def P5{n c:Nat}(h:c=10\/c=32){ps:vo}(k:∀p∈ps,okN n p):okN n (Str.join Iv ps):=by
 refine⟨VV AC fun p l=>(k p l).1,?_⟩;cases ps with
 |nil=>exact aW _
 |cons p r=>rw[JI];exact(Oq h r _).mpr ⟨(k p EQ).2,fun q g=>(k q zAE).2⟩
def P0{n c:Nat}{x z:Str}(h:c=10\/c=32)(l:wr 0 x.cps.toList<=n)(g:z∈Txt.split x Iv):wr 0 z.cps.toList<=n:=by
 obtain⟨p,r,e⟩:∃p r,Txt.split x (Tx.sep c)=p::r:=by
  cases e:Txt.split x Iv with
  |nil=>exact absurd e (Tx.FU _ _)
  |cons a b=>exact⟨a,b,rfl⟩
 have j:Str.join Iv (p::r)=x:=by rw[<-e];exact StrLaws.join_split _ _
 rw[<-j,JI]at l;rw[e]at g;obtain⟨M,I⟩:=(Oq h r _).mp l;rcases aI.mp g with rfl|g
 .exact M
 .exact I z g
def eR{n c:Nat}{x z:Str}(h:c=10\/c=32)(l:okN n x)(g:z∈Txt.split x Iv):okN n z:=⟨DY.mpr fun d hd=>DY.mp l.1 d ((Cs g).subset hd),P0 h l.2 g⟩
def iJ{n:Nat}{x l z:Str}(R:wr 0 x.cps.toList<=n)(I:l∈Txt.split x ef)(g:z∈Txt.split l T0):z.length<=n:=by
 have w:=P0 (.inr rfl) (P0 bv R I) g;have f1:=StrLaws.split_free x 10 l I;have f2:=StrLaws.split_free l 32 z g;have:=(Oa z.cps.toList 0).2 fun c M=>⟨fun e=>f1 (e ▸ (Cs g).subset M),fun e=>f2 (e ▸ M)⟩;rw[BI];lia
structure Ls(ys:N1):Prop where
 asc:∀y∈ys,okN 42 y
 BF:BF ys<=330
 len:∀y∈ys,y.length<=254
 two:1<=ys.length
 most:ys.length<=6
def Hx:vo:=[Str.ofString "",Str.ofString "0",Str.ofString "-0",Str.ofString "00",Str.ofString "01",Str.ofString "1/1",Str.ofString "2/4",Str.ofString "0/3",Str.ofString "1/0",Str.ofString "-1/2",Str.ofString "+",Str.ofString "row",Str.ofString "last",Str.ofString "x",Str.ofString "=",Str.ofString "1*x"] ++
 [Gb (Str.ofString "9") 40,Gb (Str.ofString "9") 41,Str.ofString "1/" ++ Gb (Str.ofString "3") 40,Str.ofString "1*y*x",Str.ofString "1*x*y",Str.ofString "0*x",Str.ofString "y",Str.ofString "+1",Str.ofString "1/-2",Str.ofString "--1"]
def dG:Hx.length=26/\∀w∈Hx,okN 42 w/\w.length<=42:=by decide +kernel
def fe{ys:vo}(h:Ls ys)(n m:Int)(h7:6<n.fmod 16):∃zs:vo,Ba [.list N2,.int n,.int m]=some (.list (zs.map .str))/\(∀z∈zs,okN 42 z)/\BF zs<=600:=by
 have l2:=h.two;have l6:=h.most;have lt:=h.BF;obtain⟨i,hi,ei⟩:=Mj (n.fdiv 16) (n:=ys.length) AC;obtain⟨j,hj,ej⟩:=Mj m (n:=ys.length) AC;have gi:ys[i]? = some ys[i]:=bE hi;have gj:ys[j]? = some ys[j]:=bE hj;have mi:(ys.map PyData.str)[i]? = some (.str ys[i]):=by rw[xZ,gi];rfl
 have mj:(ys.map PyData.str)[j]? = some (.str ys[j]):=by rw[xZ,gj];rfl
 have yi:=h.len _ (ag hi);have yj:=h.len _ (ag hj);have ai:=h.asc _ (ag hi);have aj:=h.asc _ (ag hj);have lm:(ys.map PyData.str).length=ys.length:=List.length_map _;have ln:∀r:Dv,Fm 0 (L.own zBW::r)=some (.int ((ys.length:Nat):Int)):=fun r=>by
  show some (PyData.int (((ys.map PyData.str).length:Nat):Int))=_;rw[lm]
 let D:Dv:=[.own zBW,.d gv,.d xN,.d cv,.d (.int W1),.no,.no]
 have R:AF A7 GT MF D=some (.int (n.fmod 16)):=Eu rfl rfl AS;have e3:AF A7 (AF CO GT MF) (Fm 0) [.own zBW,.d gv,.d xN,.no,.no,.no,.no]=some cv:=by
  rw[<-ei];exact Eu wM (ln _) AC
 have e4:AF A7 LT (Fm 0) [.own zBW,.d gv,.d xN,.d cv,.no,.no,.no]=some (.int W1):=by
  rw[<-ej];exact Eu rfl (ln _) AC
 have ix:∀r:Dv,Rj 0 M6 (L.own zBW::L.d gv::L.d xN::L.d cv::r)=some (.str ys[i]):=fun r=>LQ mi;by_cases c7:n.fmod 16=7
 .refine⟨ys.take j++ys[i]::ys.drop j,J7 rfl (AH rfl (AH (AU e3) (AH (AU e4) (AH (BO ((DB R).trans (by rw[c7];rfl)) (dh (ix _) rfl rfl AC AC))
   (AH (BC ((DB zBK).trans (by rw[c7];rfl)) rfl) (AH (BC ((DB zBK).trans (by rw[c7];rfl)) rfl) (AH (BC ((Wg zBK).trans (by rw[c7];rfl)) rfl) ?_))))))),fun z I=>?_,?_⟩
  .show some (Ou.rn _)=_;rw[(Ja),xf,List.map_take,List.map_drop]
  .rcases ae.mp I with I|I
   .exact h.asc z (bM I)
   .rcases aI.mp I with rfl|I
    .exact ai
    .exact h.asc z (az I)
  .rw[X1];lia
 by_cases c8:n.fmod 16=8
 .refine⟨(ys.set i ys[j]).set j ys[i],J7 rfl (AH rfl (AH (AU e3) (AH (AU e4) (AH (BC ((DB R).trans (by rw[c8];rfl)) rfl)
   (AH (δ':=D.set 0 (.own (.lst (((ys.map PyData.str).set i (.str ys[j])).set j (.str ys[i]))))) (BO ((DB R).trans (by rw[c8];rfl)) ?_) (AH (BC ((DB zBK).trans (by rw[c8];rfl)) rfl) (AH (BC ((Wg zBK).trans (by rw[c8];rfl)) rfl) ?_))))))),fun z I=>?_,?_⟩
  .show(if(0:Int)<=((i:Nat):Int)/\(0:Int)<=W1 then(match (ys.map PyData.str)[((i:Nat):Int).toNat]?,(ys.map PyData.str)[((j:Nat):Int).toNat]? with|some u,some v=>some (Ou.nx (D.set 0 (.own (.lst (((ys.map PyData.str).set ((i:Nat):Int).toNat v).set ((j:Nat):Int).toNat u)))))|_,_=>none) else none)=_;rw[if_pos ⟨by lia,by lia⟩,(FP),(FP),mi,mj]
  .show some (Ou.rn _)=_;rw[List.map_set,List.map_set]
  .rcases bW I with I|rfl
   .rcases bW I with I|rfl
    .exact h.asc z I
    .exact aj
   .exact ai
  .have t1:=O0 (z:=ys[j]) gi;have gq:(ys.set i ys[j])[j]? = some ys[j]:=by
    rw[List.getElem?_set];split
    .first|rfl|rw[if_pos AC]
    .exact gj
   have t2:=O0 (z:=ys[i]) gq
   lia
 by_cases Z:n.fmod 16=9
 .refine⟨ys.eraseIdx i,J7 rfl (AH rfl (AH (AU e3) (AH (AU e4) (AH (BC ((DB R).trans (by rw[Z];rfl)) rfl)
   (AH (BC ((DB R).trans (by rw[Z];rfl)) rfl) (AH (δ':=D.set 0 (.own (.lst ((ys.map PyData.str).eraseIdx i)))) (BO ((DB R).trans (by rw[Z];rfl)) ?_) (AH (BC ((Wg zBK).trans (by rw[Z];rfl)) rfl) ?_))))))),fun z I=>h.asc z (List.mem_of_mem_eraseIdx I),?_⟩
  .show(if(0:Int)<=((i:Nat):Int)/\((i:Nat):Int).toNat<(ys.map PyData.str).length/\(ys.map PyData.str).length<1000 then some (Ou.nx (D.set 0 (.own (.lst ((ys.map PyData.str).eraseIdx ((i:Nat):Int).toNat))))) else none)=_;rw[if_pos ⟨by lia,by lia,by lia⟩,(FP)]
  .show some (Ou.rn _)=_;exact aH (fun z=>some (Ou.rn z)) (XY _ _)
  .have:=YI ys i;lia
 have c10:9<n.fmod 16:=by lia
 have f26:=dG.1;obtain⟨p,hp,ep⟩:=Mj (m.fdiv 1000) (n:=26) AS;have Y:Hx[p]? = some Hx[p]:=bE AC;obtain⟨aw,lw⟩:=dG.2 _ (ar Y)
 let M:=Txt.split ys[i] T0
 have wn:M≠[]:=Tx.FU _ _;have wl:M.length<=255:=by have:=K9 ys[i] 32;show(Txt.split _ _).length<=_;lia
 have wp:0<M.length:=List.length_pos_iff.mpr wn;have wm:(M.map PyData.str).length=M.length:=List.length_map _;have wt:BF M=ys[i].length+1:=by rw[<-HM (c:=32) wn,(QZ)]
 have wa:∀z∈M,okN 42 z:=fun z I=>eR (.inr rfl) ai I;have fin:∀us:List Str,(∀z∈us,okN 42 z)->BF us<=BF M+43->us.length<=256 ->
   ∃zs:List Str,Mi 5 (Sg 0 (AF Eo xA WF) M6) [.own zBW,.d gv,.d xN,.d cv,.d (.int W1),.own (.lst (us.map .str)),.d x9]=some (.nx [.own (.lst (zs.map .str)),.d gv,.d xN,.d cv,.d (.int W1),.d (.list (us.map .str)),.d x9])/\(∀z∈zs,okN 42 z)/\BF zs<=600:=fun us ha ht hl=>by
  have u9:∀y∈us,y.length<=9000:=fun y hy=>by
   have:∀ {l:N1},y∈l->y.length+1<=BF l:=fun {l}=>by
    induction l with
    |nil=>intro z;cases z
    |cons u l ih=>
     intro z;simp only[BF,List.map_cons,List.sum_cons];rcases aI.mp z with rfl|z
     .lia
     .have:=ih z;simp only[BF]at this;lia
   have:=this hy;lia
  refine⟨ys.set i (Str.join T0 us),(jx (k:=i) (AI rfl rfl (IX AS u9 AC)) rfl rfl AC).trans ?_,fun z I=>?_,?_⟩
  .rw[ZK,List.map_set];rfl
  .rcases bW I with I|rfl
   .exact h.asc z I
   .exact P5 (.inr rfl) ha
  .have t1:=O0 (z:=Str.join T0 us) gi;have:=join_le (c:=32) (ps:=us)
   lia
 have U:∀ {r:Dv} {g:My} {z:L},g (L.own zBW::L.d gv::L.d xN::L.d cv::L.d (.int W1)::z::L.d x9::r)=some (.int ((p:Nat):Int)) ->
   AF A8 (nm 6) g (L.own zBW::L.d gv::L.d xN::L.d cv::L.d (.int W1)::z::L.d x9::r)=some (.str Hx[p]):=fun e=>AI rfl e (LQ (by rw[xZ,Y];rfl))
 have T:∀δ:Dv,nm 2 δ=some xN->AF A7 (AF CO LT (fC (.int 1000))) (fC (.int 26)) δ=some (.int ((p:Nat):Int)):=fun δ e=>by
  rw[<-ep];exact Eu (Sd e ⟨by decide,by decide⟩) rfl AS
 have Dm:∀r:Dv,Fm 5 (L.own zBW::L.d gv::L.d xN::L.d cv::L.d (.int W1)::L.own (.lst (M.map .str))::r)=some (.int ((M.length:Nat):Int)):=fun r=>by
  show some (PyData.int (((M.map PyData.str).length:Nat):Int))=_;rw[wm]
 have main:∃us:List Str,(∀z∈us,okN 42 z)/\BF us<=BF M+43/\us.length<=256 /\
   (CI (AR LE zAw (fC (.int 13)))
   (Sg 5 zAo (AF A7 zBs (Fm 5)))
   (Uj 5 (AF A7 zBs (AF Av (Fm 5) Em)) zAo))
    [.own zBW,.d gv,.d xN,.d cv,.d (.int W1),.own (.lst (M.map .str)),.d x9]=some (.nx [.own zBW,.d gv,.d xN,.d cv,.d (.int W1),.own (.lst (us.map .str)),.d x9]):=by
  by_cases c13:n.fmod 16<13
  .obtain⟨q,hq,eq⟩:=Mj (m.fdiv 100) (n:=M.length) wp;have gq:M[q]? = some M[q]:=bE hq;refine⟨M.set q Hx[p],fun z I=>?_,?_,by rw[(Nj)];lia,BO ((jP zBK).trans (aH some (aX c13))) ((jx (k:=q) (U (T _ rfl)) (by rw[<-eq];exact Eu wM (Dm _) AC) rfl AC).trans ?_)⟩
   .rcases bW I with I|rfl
    .exact wa z I
    .exact aw
   .have t1:=O0 (z:=Hx[p]) gq;lia
   .rw[List.map_set];rfl
  .obtain⟨q,hq,eq⟩:=Mj (m.fdiv 100) (n:=M.length+1) AC;refine⟨M.take q++Hx[p]::M.drop q,fun z I=>?_,?_,?_,BC ((jP zBK).trans (aH some (aV c13))) ((dh (k:=q) (U (T _ rfl)) (by rw[<-eq];exact Eu wM (AI (Dm _) rfl rfl) AC) rfl AC AC).trans ?_)⟩
   .rcases ae.mp I with I|I
    .exact wa z (bM I)
    .rcases aI.mp I with rfl|I
     .exact aw
     .exact wa z (az I)
   .rw[X1];lia
   .rw[(EB),(Fv),(Mb),(Hl)];lia
   .rw[(Ja),xf,List.map_take,List.map_drop];rfl
 obtain⟨us,u1,u2,u3,u4⟩:=main;obtain⟨zs,z1,z2,z3⟩:=fin us u1 u2 u3;have sw:JO 5 (AF C3 (Rj 0 M6) xA) D=some (.nx (D.set 5 (.own (.lst (M.map .str))))):=by
  show(AF C3 _ _ D).bind _=_;rw[AI (ix _) rfl (Lu ZK AC)];rfl
 refine⟨zs,J7 rfl (AH rfl (AH (AU e3) (AH (AU e4) (AH (BC ((DB R).trans (aH some (by simpa using c7))) rfl)
   (AH (BC ((DB R).trans (aH some (by simpa using c8))) rfl) (AH (BC ((DB R).trans (aH some (by simpa using Z))) rfl) (AH (BO ((Wg R).trans (aH some (aX c10))) (AH sw (AH (AU rfl) (AH (AU rfl) (AH u4 z1))))) rfl))))))),z2,z3⟩
def j8{x:Str}(Y:okN 20 x)(h1:1<=x.length)(hl:x.length<=330)(n m:Int)(h0:0<n.fmod 16)(h7:n.fmod 16<7):∃y:Str,Cj [.str x,.int n,.int m]=some (.str y)/\okN 60 y/\y.length<=600:=by
 have ha:=Y.1;have I:x.length<=1000:=by lia
 obtain⟨S,aS,S1,S2,U⟩:∃S:Str,Bg S=true/\0<S.length/\S.length<=1000/\∀(F:DF) (r:Option Ou),F [.d (.str x),.d (.int n),.d (.int m),.d (.str S),.no,.no,.no]=r ->
   AN (Am 3 (fC (.str (Str.ofString " !\"#$&'()*+,-./0123456789:;<=>?@ABCDEFGHIJKLMNOPQRSTUVWXYZ[\\]^_`")))) (AN (Am 3 (AF Av (nm 3) (fC (.str (Str.ofString "abcdefghijklmnopqrstuvwxyz{|}~\n"))))) (AN (CI (AR (Ax false) (AF A7 (nm 2) (fC (.int 2))) (fC (.int 1))) (Am 3 (AF Av (fC (.str (Str.ofString " -/*+=01\n"))) (nm 0))) BH) F)) [.d (.str x),.d (.int n),.d (.int m),.no,.no,.no,.no]=r:=by
  have a1:(Str.ofString " !\"#$&'()*+,-./0123456789:;<=>?@ABCDEFGHIJKLMNOPQRSTUVWXYZ[\\]^_`").length+(Str.ofString "abcdefghijklmnopqrstuvwxyz{|}~\n").length<=1000:=by decide +kernel
  have u9:(Str.ofString " -/*+=01\n").length=9:=by decide +kernel
  by_cases c:m.fmod 2=1
  .refine⟨Str.ofString " -/*+=01\n" ++ x,XX xg ha,by rw[BX];lia,by rw[BX,u9];lia,fun F r k=>?_⟩;refine AH (AU rfl) (AH (AU (AI rfl rfl (D7 a1))) (AH (BO ((DB zBK).trans (by rw[c];rfl)) (AU (AI rfl rfl (D7 ?_)))) k))
   lia
  .exact⟨_,by decide +kernel,by decide +kernel,by decide +kernel,fun F r k=>AH (AU rfl) (AH (AU (AI rfl rfl (D7 a1))) (AH (BC ((DB zBK).trans (aH some (by simpa using c))) rfl) k))⟩
 obtain⟨p,hp,ep⟩:=Mj (m.fdiv 2) (n:=S.length) S1;obtain⟨q,hq,eq⟩:=Mj (n.fdiv 16) (n:=x.length+1) AC;obtain⟨c,hc,gc⟩:=eG S2 hp;have cs:okN 1 (Tx.Bt [c]):=Sl (Ob aS fun d hd=>by rw[List.mem_singleton.mp hd];exact hc) (Nat.le_of_eq (Kr [c]));have tk:∀k,okN 20 (Tx.Bt zq):=fun k=>(XI Y k).1;have dp:∀k,okN 20 (Tx.Bt zr):=fun k=>(XI Y k).2;have l:∀k,k<=x.length->(Tx.Bt zq).length=k:=fun k Y=>by rw[Kr,(Mb),<-BI];lia
 have dl:∀k,(Tx.Bt zr).length=x.length-k:=fun k=>by rw[Kr,(Hl),<-BI]
 have cl:(Tx.Bt [c]).length=1:=Kr [c];have g:∀δ:Dv,nm 1 δ=some gv->AF A7 GT MF δ=some (.int (n.fmod 16)):=fun δ e=>Eu e rfl AS;have R:∀ {a b:Int},¬a=b->some (a==b)=some false:=fun h=>aH some w9;have e4:AF A8 M6 (AF A7 (AF CO LT NX) (AK DJ zAr)) [.d L6,.d gv,.d xN,.d (.str S),.no,.no,.no]=some zQ :=
  AI rfl ((Eu wM (PC rfl S2) AC).trans (by rw[ep])) gc
 have e5:AF A7 (AF CO GT MF) (AF Av (AK DJ zAz) Em) [.d L6,.d gv,.d xN,.d (.str S),.d zQ,.no,.no]=some (.int ((q:Nat):Int)) :=
  (Eu wM (AI (PC rfl I) rfl (Sv _ _)) AC).trans (by rw[<-eq];rfl)
 have goal:∃y:Str,PY [.d L6,.d gv,.d xN,.no,.no,.no,.no]=some (.rt (.str y))/\okN 60 y/\y.length<=600:=by
  by_cases c1:n.fmod 16=1
  .refine⟨Tx.Bt (x.cps.toList.take q)++Tx.Bt [c]++Tx.Bt (x.cps.toList.drop q),U _ _ (AH (AU e4) (AH (AU e5) (BW (BO ((DB (g _ rfl)).trans (by rw[c1];rfl)) (B4 (AI (AI zBh rfl (D7 ?_)) (AI rfl rfl (UJ I)) (D7 ?_))))))),(HV (HV (tk _) cs) (dp _)).more AS,?_⟩
   .rw[l _ AC,cl];lia
   .rw[BX,l _ AC,cl,dl];lia
   .rw[BX,BX,l _ AC,cl,dl];lia
  by_cases c2:n.fmod 16=2
  .refine⟨Tx.Bt (x.cps.toList.take q),U _ _ (AH (AU e4) (AH (AU e5) (AH (BC ((DB (g _ rfl)).trans (R c1)) rfl) (BW (BO ((DB (g _ rfl)).trans (by rw[c2];rfl)) (B4 zBh)))))),(tk _).more AS,?_⟩;rw[l _ AC];lia
  obtain⟨r,hr,er⟩:∃r:Nat,r<x.length/\(if(x.length:Int)-1<((q:Nat):Int) then(x.length:Int)-1 else((q:Nat):Int))=((r:Nat):Int):=by
   split
   .exact⟨x.length-1,by lia,by lia⟩
   .exact⟨q,by lia,rfl⟩
  have e6:AK Rf zCB [.d L6,.d gv,.d xN,.d (.str S),.d zQ,.d (.int ((q:Nat):Int)),.no]=some zAJ:=by
   rw[<-er];exact AX (AQ rfl (AQ (AI (PC rfl I) rfl rfl) rfl)) rfl
  have a1:∀ {δ:Dv},nm 5 δ=some zAJ->AF Av WF Em δ=some (.int ((r+1:Nat):Int)):=fun e=>AI e rfl (Sv _ _);have a2:∀ {δ:Dv},nm 5 δ=some zAJ->AF Av WF NX δ=some (.int ((r+1+1:Nat):Int)):=fun e=>AI e rfl ((Sv _ _).trans (aH zd AC));have rest:∀ {z:Option Ou} {F:DF},F [.d L6,.d gv,.d xN,.d (.str S),.d zQ,.d zAJ,.no]=z ->
   AN (Am 4 (AF A8 M6 (AF A7 (AF CO LT NX) (AK DJ zAr)))) (AN (Am 5 (AF A7 (AF CO GT MF) (AF Av (AK DJ zAz) Em)))
    (AN (CI (AR J9 zAw Em) (A9 (AF Av (AF Av (AF IJ GG WF) zBd) (AF Le GG WF))) BH) (AN (CI (AR J9 zAw NX) (A9 (AF IJ GG WF)) BH) (AN (Am 5 (AK Rf zCB)) F))))
    [.d L6,.d gv,.d xN,.d (.str S),.no,.no,.no]=z:=fun k=>AH (AU e4) (AH (AU e5) (AH (BC ((DB (g _ rfl)).trans (R c1)) rfl) (AH (BC ((DB (g _ rfl)).trans (R c2)) rfl) (AH (AU e6) k))))
  by_cases c3:n.fmod 16=3
  .refine⟨Tx.Bt (x.cps.toList.take r)++Tx.Bt (x.cps.toList.drop (r+1)),U _ _ (rest (BW (BO ((DB (g _ rfl)).trans (by rw[c3];rfl)) (B4 (AI zBh (AI rfl (a1 rfl) (UJ I)) (D7 ?_)))))),(HV (tk _) (dp _)).more AS,?_⟩
   .rw[l _ AC,dl];lia
   .rw[BX,l _ AC,dl];lia
  by_cases M:n.fmod 16=4\/n.fmod 16=5
  .have t4:∀ {δ:Dv},nm 1 δ=some gv->Co (AR J9 zAw (fC ut)) (AR J9 zAw yV) δ=some true:=fun {δ} e=>by
    rcases M with M|M
    .exact EL zAi
    .exact BP zAi zAi
   refine⟨Tx.Bt (x.cps.toList.take r)++Tx.Bt [c]++Tx.Bt (x.cps.toList.drop (r+1)),U _ _ (rest (AH (BC ((DB (g _ rfl)).trans (R c3)) rfl) (BW (BO (t4 rfl) (B4 (AI (AI zBh rfl (D7 ?_)) (AI rfl (a1 rfl) (UJ I)) (D7 ?_))))))),(HV (HV (tk _) cs) (dp _)).more AS,?_⟩
   .rw[l _ AC,cl];lia
   .rw[BX,l _ AC,cl,dl];lia
   .rw[BX,BX,l _ AC,cl,dl];lia
  .have f4:∀ {δ:Dv},nm 1 δ=some gv->Co (AR J9 zAw (fC ut)) (AR J9 zAw yV) δ=some false:=fun {δ} e=>
    BP ((DB (g _ e)).trans (R fun z=>M (.inl z))) ((DB (g _ e)).trans (R fun z=>M (.inr z)))
   obtain⟨d,hd,gd⟩:=eG I hr;have ds:okN 1 (Tx.Bt [d]):=Sl (Ob ha fun e Z=>by rw[List.mem_singleton.mp Z];exact hd) (Nat.le_of_eq (Kr [d]));have ol:(Tx.Bt x8).length<=1:=by rw[Kr];exact aK (List.length_take_le _ _) AC
   have oa:okN 1 (Tx.Bt x8):=Sl (Ob ha fun e Z=>az (bM Z)) ol;have T:(Tx.Bt [d]).length=1:=Kr [d];have e7:YM GG (AF Av WF Em) (AF Av WF NX) [.d L6,.d gv,.d xN,.d (.str S),.d zQ,.d zAJ,.no]=some (.str (Tx.Bt x8)):=by
    show Option.bind (some (PyData.str x)) _=_;rw[zo,a1 rfl,zo,a2 rfl,zo];exact rK I AC
   refine⟨Tx.Bt (x.cps.toList.take r)++Tx.Bt x8++Tx.Bt [d]++Tx.Bt (x.cps.toList.drop (r+1+1)),U _ _ (rest (AH (BC ((DB (g _ rfl)).trans (R c3)) rfl) (AH (BC (f4 rfl) rfl) (AH (AU e7) (B4 (AI (AI (AI zBh rfl (D7 ?_)) (AI rfl rfl gd) (D7 ?_)) (AI rfl (a2 rfl) (UJ I)) (D7 ?_))))))),(HV (HV (HV (tk _) oa) ds) (dp _)).more AS,?_⟩
   .rw[l _ AC];lia
   .rw[BX,l _ AC,T];lia
   .rw[BX,BX,l _ AC,T,dl];lia
   .rw[BX,BX,BX,l _ AC,T,dl];lia
 obtain⟨y,e,r⟩:=goal;exact⟨y,CF rfl e,r⟩
def lu{a c:vb}{b:Bool}{δ:Dv}(h:a δ=some b)(k:c δ=some false):Lm a c δ=some false:=by
 cases b with
 |false=>exact Rk h
 |true=>exact N4 h k
theorem fJ:∀ {ys:N1},ys.length<=BF ys/\∀y∈ys,y.length<=BF ys
 |[]=>⟨aW _,fun y g=>by cases g⟩
 |z::ys=>by
  obtain⟨I,l⟩:=fJ (ys:=ys);have e:BF (z::ys)=z.length+1+BF ys:=by simp[BF]
  refine⟨by rw[(Fv)];lia,fun y g=>?_⟩;rcases aI.mp g with rfl|g
  .lia
  .have:=l y g;lia
def X8{ys:vo}(h:BF ys<=600):Eo ph (.list N2)=some (.str (Str.join ef ys)):=by
 obtain⟨I,l⟩:=fJ (ys:=ys);rw[UU];exact IX AS (fun y g=>by have:=l y g;lia) AC
def fh(x:Str)(k:Nat):(Gb x k).cps.toList=(List.replicate k x.cps.toList).flatten:=by
 have:∀(l:List (Array Nat)) (g:Array Nat),(l.foldl (· ++ ·) g).toList=g.toList++(l.map Array.toList).flatten:=fun l=>by
  induction l with
  |nil=>intro g;simp
  |cons a l I=>intro g;rw[List.foldl_cons,I,xf,(Hm),Array.toList_append,(Ms)]
 show((List.replicate k x.cps).foldl (· ++ ·) #[]).toList=_;rw[this,List.map_replicate];rfl
def mS{x:Str}{k:Nat}(h:x.length*k<=100000)(g:k<=1000):I0 L6 IF=some (.str (Gb x k)):=by
 have e:Qy L6 IF=some (.str (Gb x k)):=(if_pos ⟨by lia,by lia,by rw[(FP)];exact h⟩).trans (by rw[(FP)]);show HX FG Qy _ _=_;unfold HX;rw[e];rfl
def Kk(c k:Int):∃v,A5 [.int c,.int k]=some (.int v):=by
 suffices R:∃v,KZ [.d (.int c),.d (.int k),.no]=some (.rt (.int v)) by
  obtain⟨v,h⟩:=R;exact⟨v,CF rfl h⟩
 have hn:∀(a m:Int),0<m->m<2^60->(a % m).natAbs<2^64:=fun a m h0 T=>by
  have:=Int.emod_nonneg a (by lia:m≠0);have:=Int.emod_lt_of_pos a h0
  lia
 unfold KZ;generalize g:(c % 2147483647*48271+k*69621+11) % 2147483647=v;have I:v.natAbs<2^64:=by rw[<-g];exact hn _ _ AS AS
 generalize l:v*v % 2147483629=u;have M:u.natAbs<2^64:=by rw[<-l];exact hn _ _ AS AS
 refine⟨_,AH (AU (y:=.int v) ?_) (AH (AU (y:=.int u) ?_) (B4 (AI (x:=.int (u*u)) (y:=.int 2147483587) (AI (x:=.int u) (y:=.int u) rfl rfl (mul_r M)) rfl (mod_is AS))))⟩
 .refine AI (x:=.int (c % 2147483647*48271+k*69621+11)) (y:=.int 2147483647) (AI (x:=.int (c % 2147483647*48271+k*69621)) (y:=.int 11) (AI (x:=.int (c % 2147483647*48271)) (y:=.int (k*69621)) (AI (x:=.int (c % 2147483647)) (y:=.int 48271) (AI (x:=.int c) (y:=.int 2147483647) rfl rfl (mod_is AS)) rfl (mul_r AS)) (AI (x:=.int k) (y:=.int 69621) rfl rfl (mul_r AS)) rfl) rfl rfl) rfl ((mod_is AS).trans ?_);rw[g]
 .refine AI (x:=.int (v*v)) (y:=.int 2147483629) (AI (x:=.int v) (y:=.int v) rfl rfl (mul_r I)) rfl ((mod_is AS).trans ?_);rw[l]
def Xb(xs:vj)(k:Nat):∃c,Au [E7 xs,.int (k:Nat)]=some (.int c):=by
 suffices g:∃c,Ia [.d (E7 xs),.d zAK]=some (.rt (.int c)) by
  obtain⟨c,h⟩:=g;exact⟨c,CF rfl h⟩
 unfold Ia;have t:AR LE GT (AK Be zAz) [.d (E7 xs),.d zAK]=some (decide ((k:Int)<((xs.map PyData.int).length:Nat))):=Af (x:=.int (k:Nat)) (y:=.int ((xs.map PyData.int).length:Nat)) rfl rfl rfl;rw[wk]at t;by_cases z:k<xs.length
 .rw[decide_eq_true (show(k:Int)<(xs.length:Nat) by lia)]at t;exact⟨xs[k],BW (BO t (B4 (AI (x:=E7 xs) (y:=.int (k:Nat)) rfl rfl (X5 (by rw[xZ,List.getElem?_eq_getElem z];rfl)))))⟩
 .rw[decide_eq_false (show ¬(k:Int)<(xs.length:Nat) by lia)]at t;exact⟨0,AH (BC t rfl) rfl⟩
noncomputable abbrev YY:MD:=Df Au A5
def mh(xs:vj)(k:Nat):∃r,YY [E7 xs,.int (k:Nat)]=some (.int r):=by
 suffices M:∃r,LX Au A5 [.d (E7 xs),.d zAK,.no,.no]=some (.rt (.int r)) by
  obtain⟨r,h⟩:=M;exact⟨r,CF rfl h⟩
 obtain⟨c,R⟩:=Xb xs k;obtain⟨a,ha⟩:=Kk c (k:Nat);obtain⟨b,T⟩:=Kk c ((k:Int)+500);obtain⟨d,hd⟩:=Kk c ((k:Int)+900);unfold LX;have g:∀δ:Dv,AF VY (fC (.int 10)) (fC (.int 18)) δ=some (.int ((10:Int)^18)):=fun δ=>AI (x:=.int 10) (y:=.int 18) rfl rfl (pR (n:=18) AS AS);have s1:(Am 2 (AK Au (AB GG zAm))) [.d (E7 xs),.d zAK,.no,.no]=some (.nx [.d (E7 xs),.d zAK,.d (.int c),.no]):=AU (AX (xs:=[E7 xs,.int (k:Nat)]) rfl R);have l:∃y:Int,AK Wc zAs [.d (E7 xs),.d zAK,.d (.int c),.no]=some (.int y):=⟨_,rfl⟩;obtain⟨y,I⟩:=l;have t:AR xl (AK Wc zAs) (AF VY (fC (.int 10)) (fC (.int 18))) [.d (E7 xs),.d zAK,.d (.int c),.no]=some (decide ((10:Int)^18<=y)):=Af (x:=.int y) (y:=.int ((10:Int)^18)) I (g _) rfl;by_cases z:(10:Int)^18<=y
 .rw[decide_eq_true z]at t;exact⟨c,AH s1 (BW (BO t rfl))⟩
 .rw[decide_eq_false z]at t;refine⟨_,AH s1 (AH (BC t rfl) (AH (AU (AI (x:=.int a) (y:=.int (b*2147483587)) (AX (xs:=[.int c,.int (k:Nat)]) rfl ha) (AI (x:=.int b) (y:=.int 2147483587) (AX (xs:=[.int c,.int ((k:Int)+500)]) rfl T) rfl (mul_r AS)) rfl)) (B4 (AI (x:=.int (a+b*2147483587)) (y:=.int (d*2147483587*2147483587)) rfl (AI (x:=.int (d*2147483587)) (y:=.int 2147483587) (AI (x:=.int d) (y:=.int 2147483587) (AX (xs:=[.int c,.int ((k:Int)+900)]) rfl hd) rfl (mul_r AS)) rfl (mul_r AS)) rfl))))⟩
def VP:Jg=.tuple (UL.map fun c=>PyData.str Iv):=by
 show PyData.tuple [.str (Str.ofString "x"),.str (Str.ofString "y"),.str (Str.ofString "z"),.str (Str.ofString "w")]=PyData.tuple [.str (Tx.sep 120),.str (Tx.sep 121),.str (Tx.sep 122),.str (Tx.sep 119)];rw[show Str.ofString "x" = Tx.sep 120 by decide +kernel,show Str.ofString "y" = Tx.sep 121 by decide +kernel,show Str.ofString "z" = Tx.sep 122 by decide +kernel,show Str.ofString "w" = Tx.sep 119 by decide +kernel]
def J5:Str.ofString "*" = Tx.sep 42:=by decide +kernel
def Rz:Str.ofString " + " = Tx.s3 43:=by decide +kernel
def OB:Str.ofString " = " = Tx.s3 61:=by decide +kernel
def OI:Str.ofString "0" = Tx.sep 48:=by decide +kernel
def hJ(c:Str)(m:Nat):(List.replicate m [PyData.str c]).flatten=(List.replicate m c).map .str:=by
 induction m with
 |zero=>rfl
 |succ m g=>rw[(HP),(HP),(Hm),g];rfl
def fc{r:Rat}(M:(Tx.dg r.num.natAbs).length<=40)(I:(Tx.dg r.den).length<=40):Lit r:=by
 have key:∀n:Nat,(Tx.dg n).length<=40->n<10^41:=fun n h=>by
  have a:=Tx.WU ((Tx.dg n).map fun c=>c-48) 0 0 (fun d hd=>by
   obtain⟨c,l,rfl⟩:=aN.mp hd;have:=Tx.Kd l;lia) AS
  have e:((Tx.dg n).map fun c=>c-48).foldl (fun g d=>g*10+d) 0=PySem.NumText.digitsVal (Tx.dg n):=by
   unfold PySem.NumText.digitsVal;rw[List.foldl_map]
  rw[e,Tx.Nk,wk]at a;exact aJ a (bN AS AC)
 exact⟨key _ M,key _ I⟩
structure Sz(ts:wy):Prop where
 CH:ts.length<=900
 len:(Str.join T0 (Ds ts)).length<=900
 tm:∀t∈ts,Lit t.2/\(Ar UL t.1).length<=450/\(BM t).length<=900/\(∀x∈t.1,0<=x)/\t.1.length<=4
def lG{q:Rat}(h:Lit q):AZ [Bi q]=some (.str (Dc q)):=Vk h.1 (by simpa using h.2)
theorem Z2{A B:L}:∀ {us:wH} {p:mo} {ys:N1} {u v:L},(∀x∈p,0<=x/\x<=450)->ys.length+(Ar us p).length<=900 ->
  ∃l g,ER (EJ 3 4) (iX 2 (AF FG (Ce zAr) zBd)) (IY zBe (p.map .int)) [A,B,.own zBW,u,v]=some (.nx [A,B,.own (.lst ((ys++Ar us p).map .str)),l,g])
 |[],p,ys,u,v,_,_=>⟨u,v,by simp[IY,Ar,ER]⟩
 |c::us,[],ys,u,v,_,_=>⟨u,v,by simp[IY,Ar,ER]⟩
 |c::us,k::ks,ys,u,v,I,T=>by
  have M:Ar (c::us) (k::ks)=List.replicate k.toNat Iv++Ar us ks:=rfl;rw[M,(EB),(Ve)]at T;have Y:=I k EQ;obtain⟨l,g,e⟩:=Z2 (A:=A) (B:=B) (us:=us) (p:=ks) (ys:=ys++List.replicate k.toNat Iv) (u:=.d (.str Iv)) (v:=.d (.int k)) (fun x R=>I x (.tail _ R)) (by rw[(EB),(Ve)];lia);refine⟨l,g,?_⟩;have s1:iX 2 (AF FG (Ce zAr) zBd) [A,B,.own zBW,.d (.str Iv),.d (.int k)]=some (.nx [A,B,.own (.lst ((ys++List.replicate k.toNat Iv).map .str)),.d (.str Iv),.d (.int k)]):=by
   show(AF FG (Ce zAr) zBd [A,B,.own zBW,.d (.str Iv),.d (.int k)]).bind _=_;rw[AI (x:=.list [.str Iv]) (y:=.int k) (z:=some (.list ((List.replicate k.toNat Iv).map .str))) rfl rfl ?_]
   .show(if(ys.map PyData.str).length+((List.replicate k.toNat Iv).map PyData.str).length<=CQ then _ else none)=_;rw[if_pos (by simp;show _<=1000;lia),(Ja)];rfl
   .refine Eq.trans (show FG (.list [.str Iv]) (.int k)=Lc (.list [.str Iv]) (.int k) from rfl) ((if_pos ⟨by show 1*k.toNat<=1000;lia,by lia,by lia⟩).trans ?_);rw[hJ]
  show ER (EJ 3 4) _ (.tuple [.str Iv,.int k]::IY zBe (ks.map .int)) _=_;have U:EJ 3 4 (.tuple [.str Iv,.int k]) [A,B,.own zBW,u,v]=some [A,B,.own zBW,.d (.str Iv),.d (.int k)]:=rfl;unfold ER;rw[U,zo,s1];rw[M,<-(Ms)];exact e
theorem dI:∀ {us:wH} {p:mo} {x:Int},p.length<=us.length->x∈p->x<=(Ar us p).length
 |[],p,x,l,g=>by cases p with|nil=>cases g|cons a b=>simp at l
 |c::us,[],_,_,g=>by cases g
 |c::us,k::ks,x,l,g=>by
  have I:Ar (c::us) (k::ks)=List.replicate k.toNat Iv++Ar us ks:=rfl;rw[I,(EB),(Ve)];rcases aI.mp g with rfl|g
  .lia
  .have:=dI (us:=us) (p:=ks) oF g;lia
def fV{t:Bj}(h:Lit t.2/\(Ar UL t.1).length<=450/\(BM t).length<=900/\(∀x∈t.1,0<=x)/\t.1.length<=4):Bc AZ [tupI t.1,Bi t.2]=some (.str (BM t)):=by
 obtain⟨I,h2,Z,Y,U⟩:=h;refine CF rfl ?_;show Pp AZ [.d wL,.d yw,.no,.no,.no]=_;have s0:SQ 2 (AB (AK AZ zAm) AG) [.d wL,.d yw,.no,.no,.no]=some (.nx [.d wL,.d yw,.own (.lst ([Dc t.2].map .str)),.no,.no]):=by
  show((AB (AK AZ zAm) AG [.d wL,.d yw,.no,.no,.no]).bind CH).map _=_;rw[AQ (AX WP (lG I)) rfl];rfl
 obtain⟨T,R,e⟩:=Z2 (A:=.d wL) (B:=.d yw) (us:=UL) (p:=t.1) (ys:=[Dc t.2]) (u:=.no) (v:=.no) (fun x l=>⟨Y x l,by have:=dI (us:=UL) (p:=t.1) U l;lia⟩) (by simp only[List.length_singleton];lia);refine AH s0 (AH (δ':=[.d wL,.d yw,.own (.lst (([Dc t.2]++Ar UL t.1).map .str)),T,R]) ?_ ?_)
 .show(Cn zip2 (AB (fC Jg) zAz) _).bind _=_;rw[VP];exact e
 .refine B4 (AI rfl (y:=.list (([Dc t.2]++Ar UL t.1).map .str)) rfl ?_);rw[J5];refine IX AS (fun y g=>?_) (by simp only[List.length_append,List.length_singleton];lia);rcases ae.mp g with g|g
  .rw[List.mem_singleton.mp g];have:=kB I;lia
  .obtain⟨u,_,rfl⟩:=IZ g;show 1<=9000;decide
def dQ{ts:wy}(h:Sz ts):Cy (Bc AZ) [Az ts]=some (.str (Str.join T0 (Ds ts))):=by
 refine CF rfl ?_;show Pn (Bc AZ) [.d zP]=_;by_cases g:ts=[]
 .subst g;refine BW (BO (Af (x:=.int 0) (y:=.int 0) rfl rfl (eq_int 0 0)) (B4 (aH some (aH PyData.str OI))))
 have M:(ts.map Dp).length≠0:=by rw[wk];exact fun z=>g (List.length_eq_zero_iff.mp z)
 refine AH (BC (Af (x:=.int ((ts.map Dp).length:Nat)) (y:=.int 0) rfl rfl ((eq_int _ _).trans (by rw[beq_eq_false_iff_ne.mpr AC]))) rfl) ?_;have ne:ts.map BM≠[]:=by simpa using g
 have Y:Str.join T0 (Ds ts)=Str.join wK xK:=by
  rw[show Ds ts=Tx.inter xq xK from if_neg g,Tx.He ne]
 have Z:L2.collect zBz zAI=some (ts.map fun t=>PyData.str (BM t)):=by
  have:∀ {l:wy},(∀t∈l,t∈ts)->L2.collect zBz (l.map Dp)=some (l.map fun t=>PyData.str (BM t)):=fun {l}=>by
   induction l with
   |nil=>intro _;rfl
   |cons t l T=>
    intro R;have e:E4 (EJ 1 2) Dl (AK (Bc AZ) (AB GT zAs)) [.no,.no,.no] (Dp t)=some (some (.str (BM t))):=by
     show(AK (Bc AZ) (AB GT zAs) [.no,.d wL,.d yw]).map some=_;rw[AX (xs:=[tupI t.1,Bi t.2]) rfl (fV (h.tm t (R t EQ)))];rfl
    rw[xf,xf,L2.collect,e,T fun z g=>R z zAE];rfl
  exact this fun t I=>I
 refine B4 (AI (x:=.str (Str.ofString " + ")) (y:=.list ((ts.map BM).map .str)) rfl ?_ ?_)
 .show(((some zAI).bind fun xs=>(L2.collect zBz xs).bind CH).map PyData.list)=_;rw[zo,Z,(Cu)];show((CH (ts.map fun t=>PyData.str (BM t))).map PyData.list)=_;unfold CH;rw[if_pos (by rw[wk];have:=h.CH;show _<=1000;lia)];rfl
 .rw[Rz,Y];refine IX AS (fun y U=>?_) (by rw[wk];have:=h.CH;lia);obtain⟨t,I,rfl⟩:=aN.mp U;have:=(h.tm t I).2.2.1;lia
def Nu{k:Nat}{ts:wy}:Str.empty++Tx.sep wE++Str.ofString " = " ++ Str.join T0 (Ds ts)=Dm k ts:=by
 obtain⟨a,r,e⟩:=eW ts;refine Tx.BL ?_;unfold Dm;rw[e,Tx.B6,Tx.B6,OB,Tx.app_list,Tx.app_list,Tx.app_list];rfl
def Su{k:Nat}{ts:wy}:(Dm k ts).length=4+(Str.join T0 (Ds ts)).length:=by
 rw[<-Nu,BX,BX,BX,OB];show 0+1+3+_=_
 lia
noncomputable abbrev W8:MD:=Cy (Bc AZ)
noncomputable abbrev KY:MD:=BN W8
def iV{k0 c:Nat}{us:vv}(h:c::us=UL.drop k0):UL.getD k0 0=c/\us=UL.drop (k0+1):=by
 have e:=aH (fun l=>l[0]?) h;have e:some c=(UL.drop k0)[0]?:=e;rw[List.getElem?_drop,Nat.add_zero]at e;refine⟨by rw[(Ct),<-e];rfl,?_⟩;rw[<-List.drop_drop,<-h];rfl
theorem TC:∀ {us:wH} {k0:Nat} {ps:am},us=UL.drop k0->ps.length<=us.length->(∀ts∈ps,Sz ts) ->
  L2.collect (E4 (EJ 1 2) Dl (AF Av OK (AK W8 zAs)) [.no,.no,.no]) (IY zBe zG)=some ((ps.mapIdx fun i ts=>Dm (k0+i) ts).map .str)
 |us,k0,[],_,_,_=>by simp[IY,L2.collect]
 |[],k0,t::ps,_,l,_=>by simp at l
 |c::us,k0,ts::ps,U,l,h=>by
  obtain⟨Z,g⟩:=iV U;have R:=TC (us:=us) (k0:=k0+1) (ps:=ps) g oF fun z T=>h z (.tail _ T);have M:=h ts EQ;have e:E4 (EJ 1 2) Dl (AF Av OK (AK W8 zAs)) [.no,.no,.no] (.tuple [.str Iv,Az ts])=some (some (.str (Dm k0 ts))):=by
   show(AF Av OK (AK W8 zAs) [.no,.d (.str Iv),.d zP]).map some=_;have I:(Str.ofString " = ").length=3:=by rw[OB];rfl
   have Y:HJ (.str Iv)=some (.str Iv):=by
    show(if(Tx.sep c).length<=100000 then some (PyData.str Iv) else none)=_;exact if_pos (show 1<=100000 by decide)
   have hd:Kv (.str Iv) zBR=some (.str ze):=by
    show(if(Tx.sep c).length<=100000/\(Str.ofString " = ").length<=100000 then some (PyData.str ze) else none)=_;exact if_pos ⟨show 1<=100000 by decide,by rw[I];decide⟩
   rw[AI (x:=.str ze) (y:=.str (Str.join T0 (Ds ts))) (z:=some (.str (Dm k0 ts))) (AI (x:=.str Iv) (y:=.str (Str.ofString " = ")) Y rfl hd) (AX (xs:=[Az ts]) rfl (dQ M)) ?_]
   .rfl
   .rw[<-Nu,Z];refine D7 ?_;rw[BX,BX,I];have:=M.len;show 0+1+3+_<=1000
    lia
  show L2.collect _ (.tuple [.str Iv,Az ts]::IY zBe zG)=_;rw[L2.collect,e,R,List.mapIdx_cons,xf];have e2:(fun i ts=>Dm (k0+1+i) ts)=fun i=>(fun i ts=>Dm (k0+i) ts) Pi:=by
   funext i ts;show Dm _ _=Dm _ _;congr 1;lia
  rw[e2];rfl
def Io{ps:am}(M:ps.length<=4)(h:∀ts∈ps,Sz ts):KY [Cv ps]=some (.str (KP ps)):=by
 refine CF rfl ?_;show NH W8 [.d zv]=_;have R:B8 ps=ps.mapIdx fun i ts=>Dm (0+i) ts:=by
  unfold B8;rw[map_getD (f:=Dm)]
  congr 1
  funext i ts;rw[Nat.zero_add]
 have l:(B8 ps).length=ps.length:=by simp[B8]
 refine B4 (AI (x:=.str (Str.ofString "\n")) (y:=.list ((B8 ps).map .str)) rfl ?_ ?_)
 .show((Cn zip2 (AB (fC Jg) zAz) [.d zv]).bind fun xs=>(L2.collect (E4 (EJ 1 2) Dl (AF Av OK (AK W8 zAs)) [.no,.no,.no]) xs).bind CH).map PyData.list=_;rw[VP];show(((some (IY (UL.map fun c=>PyData.str Iv) zG)).bind fun xs=>_).map PyData.list)=_;rw[zo,TC (us:=UL) (k0:=0) rfl M h,<-R];show((CH ((B8 ps).map PyData.str)).map PyData.list)=_;unfold CH;rw[if_pos (by rw[wk,l];show _<=1000;lia)];rfl
 .rw[UU];refine IX AS (fun y g=>?_) AC;obtain⟨k,I,rfl⟩:=aN.mp g;have:=(h _ (getD_mem (bD.mp I))).len;rw[Su];lia
theorem Mh(s:Str):∀ {ps:N1} {p:Str},p∈ps->p.cps.toList.Sublist (Str.join s ps).cps.toList
 |[],_,h=>by cases h
 |[q],p,h=>by rw[List.mem_singleton.mp h];exact List.Sublist.refl _
 |q::g::r,p,h=>by
  show p.cps.toList.Sublist (q++s++Str.join s (g::r)).cps.toList;rw[Tx.app_list,Tx.app_list];rcases aI.mp h with rfl|h
  .rw[(Ms)];exact List.sublist_append_left _ _
  .exact(Mh s h).trans (List.sublist_append_right _ _)
theorem QL(s:Str)(hs:1<=s.length):∀ {ps:N1},ps.length<=(Str.join s ps).length+1
 |[]=>aW _
 |[p]=>by rw[List.length_singleton];lia
 |p::q::r=>by
  have:=QL s hs (ps:=q::r);show _<=(p++s++Str.join s (q::r)).length+1;rw[BX,BX];simp only[List.length_cons]at this ⊢
  lia
def VZ(l y:Str):(DK l y).2.2.cps.toList.Sublist l.cps.toList:=by
 unfold DK;split
 .show(Builtin.Str.strSub l _ l.length).cps.toList.Sublist _;rw[(Uz)];exact(List.take_sublist _ _).trans (List.drop_sublist _ _)
 .exact List.nil_sublist _
def hW(l y:Str):(DK l y).2.2.length<=l.length:=by rw[BI,BI];exact(VZ l y).length_le
abbrev Mn(n:Nat):PD:=.tuple ((UL.take n).map fun c=>PyData.str Iv)
noncomputable abbrev uH:MD:=Eg pU
noncomputable abbrev V3:MD:=Ed uH
def d2(a b:PD):[a,b].length<=CQ:=show 2<=1000 by decide
def j6{w:Str}(h:EM w)(n:Nat):uH [.str w,Mn n]=some (Jj (FJ n w)):=by
 refine CF rfl ?_;show TB pU [.d u0,.d (Mn n),.no,.no]=_;have M:=h.len;obtain⟨p,r,l⟩:∃p r,Txt.split w (Tx.sep 42)=p::r:=by
  cases e:Txt.split w wg with
  |nil=>exact absurd e (Tx.FU _ _)
  |cons a b=>exact⟨a,b,rfl⟩
 have wp:EM p:=E9 h (Cs (c:=42) (by rw[l];exact .head _));refine AH (AU (AI rfl rfl (Lu J5 AC))) ?_;refine AH (AU (HR (zs:=UL.take n) (a:=fun c=>PyData.str Iv) (g:=fun c=>PyData.int (((Txt.split w wg).count Iv:Nat):Int)) rfl (by rw[(Mb)];exact aK (Nat.min_le_right _ _) (show 4<=1000 by decide)) fun c _=>?_)) ?_
 .refine AI rfl rfl ?_;show(QM ((Txt.split w wg).map .str)).map _=_;rw[U3];rfl
 .refine B4 (Jz (AQ (AX WP rfl) (AQ (AX (AQ (AI rfl rfl (show A8 (.list ((Txt.split w wg).map .str)) (.int 0)=some (.str p) by rw[l];exact NC _ _)) WP) (qG wp)) rfl)) (d2 _ _)) |>.trans ?_
  unfold Jj FJ;rw[l];show some (Ou.rt (.tuple [.tuple _,Fq (Tx.rd p)]))=some (Ou.rt (.tuple [tupI _,Fq (Tx.rd p)]));unfold tupI;rw[(Cu)];rfl
def lZ{l:Str}(h:EM l)(n:Nat):V3 [.str l,Mn n]=some (RZ (IH n l)):=by
 have Z:=h.len;obtain⟨y,M⟩:∃y,(DK l (Tx.s3 61)).2.2=y:=⟨_,rfl⟩;have I:EM y:=E9 h (by rw[<-M];exact VZ _ _);have Y:=I.len;unfold IH;rw[M];have s0:AF A8 (AF UY GG (fC zBR)) NX [.d (.str l),.d (Mn n),.no]=some (.str y):=by
  refine AI (x:=.tuple [.str (DK l zN).1,.str (DK l zN).2.1,.str (DK l zN).2.2]) (y:=.int 2) (AI rfl rfl ?_) rfl ?_
  .rw[OB];exact if_pos ⟨show 3≠0 by decide,by lia⟩
  .rw[M];exact LQ (i:=2) rfl
 by_cases e:y=Tx.sep 48
 .rw[if_pos e];refine CF rfl (AH (AU s0) (BW (BO (Af rfl rfl ((eq_str I.asc xg).trans (by rw[OI,e];simp))) rfl)))
 .rw[if_neg e];refine J7 rfl (AH (AU s0) (AH (BC (Af rfl rfl ((eq_str I.asc xg).trans (by rw[OI,decide_eq_false e]))) rfl) ?_));have sp:C3 (.str y) xm=some (.list ((Txt.split y wK).map .str)):=by
   rw[Rz];exact if_pos ⟨show 3≠0 by decide,by lia⟩
  have T:(Txt.split y wK).length<=991:=by
   have:=QL wK (show 1<=3 by decide) (ps:=Txt.split y wK);rw[(QZ)]at this;lia
  show Option.map _ _=_;rw[TN (zs:=Txt.split y wK) (a:=.str) (g:=fun w=>Jj (FJ n w)) (J4 (AI rfl rfl sp) rfl) (aK T AS) fun w R=>?_]
  .rw[Option.map_some,(Cu)];rfl
  .exact AX (AQ rfl WP) (j6 (E9 I (by have:=Mh wK R;rwa [StrLaws.join_split]at this)) n)
def iZ{n:Nat}(hn:n<=4)(c:Nat->Nat):(Ar UL ((UL.take n).map fun u=>((c u:Nat):Int))).length<=c 120+(c 121+(c 122+c 119)):=by
 match n,hn with
 |0,_=>exact aW _
 |1,_=>simp[Ar]
 |2,_=>simp[Ar]
 |3,_=>simp[Ar]
 |4,_=>simp[Ar]
theorem X7:∀r:List Str,2*(r.count (Tx.sep 120)+(r.count (Tx.sep 121)+(r.count (Tx.sep 122)+r.count (Tx.sep 119))))<=BF r
 |[]=>by simp
 |z::r=>by
  have M:=X7 r;have e:BF (z::r)=z.length+1+BF r:=by simp[BF]
  have ne:∀ {a b:Nat},a≠b->¬(Tx.sep a==Tx.sep b)=true:=fun {a b} h k=>h (by
   have:=aH (fun x:Str=>x.cps.toList) (bG.mp k)
   simpa using this)
  rw[e];simp only[List.count_cons];by_cases h0:z=Tx.sep 120
  .subst h0;rw[if_pos (beq_self_eq_true _),if_neg (ne AS),if_neg (ne AS),if_neg (ne AS)];show _<=1+1+_;lia
  by_cases I:z=Tx.sep 121
  .subst I;rw[if_neg (ne AS),if_pos (beq_self_eq_true _),if_neg (ne AS),if_neg (ne AS)];show _<=1+1+_;lia
  by_cases l:z=Tx.sep 122
  .subst l;rw[if_neg (ne AS),if_neg (ne AS),if_pos (beq_self_eq_true _),if_neg (ne AS)];show _<=1+1+_;lia
  by_cases g:z=Tx.sep 119
  .subst g;rw[if_neg (ne AS),if_neg (ne AS),if_neg (ne AS),if_pos (beq_self_eq_true _)];show _<=1+1+_;lia
  rw[if_neg (fun k=>h0 (bG.mp k)),if_neg (fun k=>I (bG.mp k)),if_neg (fun k=>l (bG.mp k)),if_neg (fun k=>g (bG.mp k))];lia
def WN:∀(us:vv) (p:vj),BF (Ar us p)=2*(Ar us p).length:=fun us p=>by
 have:∀ {l:N1},(∀z∈l,z.length=1)->BF l=2*l.length:=fun {l}=>by
  induction l with
  |nil=>intro _;rfl
  |cons z l g=>
   intro h;have e:BF (z::l)=z.length+1+BF l:=by simp[BF]
   rw[e,g fun y M=>h y (.tail _ M),h z EQ,(Fv)];lia
 exact this fun z I=>by obtain⟨u,_,rfl⟩:=IZ I;rfl
def Xp{n:Nat}(hn:n<=4){w:Str}(hw:w.length<=600){t:Bj}(h:FJ n w=enc t):(Lit t.2/\(Ar UL t.1).length<=450/\(BM t).length<=900/\(∀x∈t.1,0<=x)/\t.1.length<=4)/\(BM t).length<=w.length:=by
 obtain⟨p,r,l⟩:∃p r,Txt.split w (Tx.sep 42)=p::r:=by
  cases e:Txt.split w wg with
  |nil=>exact absurd e (Tx.FU _ _)
  |cons a b=>exact⟨a,b,rfl⟩
 have I:((UL.take n).map fun u=>(((p::r).count (Tx.sep u):Nat):Int))=t.1:=by rw[<-l];exact aH Prod.fst h
 have Z:Tx.rd p=some yu:=by
  have:=aH Prod.snd h;unfold FJ at this;rw[l]at this;exact this
 have F:=Tx.jX Z;have M:Lit t.2:=fc F.top (by have:=F.bot;simpa using this);have sp:Dc t.2=p:=F.txt;have g:∀u∈UL,(p::r).count (Tx.sep u)=r.count (Tx.sep u):=fun u Y=>by
  rw[List.count_cons,if_neg,Nat.add_zero];intro z;have U:Dc t.2=Tx.sep u:=by rw[sp];exact bG.mp z
  have hm:u∈(Dc t.2).cps.toList:=by rw[U];simp
  have r:∀u∈UL,119<=u:=by decide
  have:=r u Y;rcases MU hm with z|z|z<;>lia
 have R:=iZ hn fun u=>(p::r).count (Tx.sep u);rw[I]at R;rw[g 120 AS,g 121 AS,g 122 AS,g 119 AS]at R;have ct:=X7 r;have wt:w.length+1=BF (p::r):=by rw[<-HM (c:=42) A1,<-l,(QZ)]
 have wl:(BM t).length+1=BF (p::Ar UL t.1):=by rw[<-sp];exact HM (c:=42) A1
 have e1:BF (p::r)=p.length+1+BF r:=by simp[BF]
 have e2:BF (p::Ar UL t.1)=p.length+1+BF (Ar UL t.1):=by simp[BF]
 have e3:=WN UL t.1;refine⟨⟨M,by lia,by lia,fun x T=>?_,?_⟩,by lia⟩
 .rw[<-I]at T;obtain⟨u,_,rfl⟩:=aN.mp T
  lia
 .rw[<-I,wk,(Mb)];exact Nat.min_le_right _ _
theorem Va{s:Str}:∀ {xs ys:N1},xs.length=ys.length->(∀i (R:i<xs.length) (M:i<ys.length),xs[i].length<=ys[i].length)->(Str.join s xs).length<=(Str.join s ys).length
 |[],[],_,_=>aG _
 |[x],[y],_,h=>h 0 A1 A1
 |x::I::r,y::l::q,g,h=>by
  have T:=Va (s:=s) (xs:=I::r) (ys:=l::q) (by simpa using g) fun i R M=>h Pi (by simp only[List.length_cons]at R ⊢;lia) (by simp only[List.length_cons]at M ⊢;lia);have h0:=h 0 A1 A1;have h0:x.length<=y.length:=h0;show(x++s++Str.join s (I::r)).length<=(y++s++Str.join s (l::q)).length;rw[BX,BX,BX,BX];lia
 |[],_::_,g,_=>by simp at g
 |_::_,[],g,_=>by simp at g
 |[_],_::_::_,g,_=>by simp at g
 |_::_::_,[_],g,_=>by simp at g
def kW{n:Nat}(hn:n<=4){l:Str}(hw:l.length<=600){ts:wy}(h:IH n l=ts.map enc):Sz ts:=by
 unfold IH at h;obtain⟨y,ey⟩:∃y,(DK l (Tx.s3 61)).2.2=y:=⟨_,rfl⟩;have Z:=hW l zN;rw[ey]at h Z;split at h
 .have:ts=[]:=by have:=aH List.length h;simp at this;exact List.length_eq_zero_iff.mp this.symm
  subst this;exact⟨aW _,show(Tx.sep 48).length<=900 by decide,fun t R=>(nomatch R)⟩
 .obtain⟨g,M⟩:∃g,Txt.split y wK=g:=⟨_,rfl⟩;rw[M]at h;have U:Str.join wK g=y:=by rw[<-M,(QZ)]
  have hl:g.length=ts.length:=by have:=aH List.length h;simpa using this
  have fw:=QL wK (show 1<=3 by decide) (ps:=g);rw[U]at fw;have at_:∀i (I:i<g.length) (T:i<ts.length),FJ n g[i]=enc ts[i]:=fun i I T=>by
   have:=aH (fun l=>l[i]?) h;simp only[List.getElem?_map]at this;rw[List.getElem?_eq_getElem I,List.getElem?_eq_getElem T]at this;exact aQ this
  have wl:∀i (I:i<g.length),g[i].length<=600:=fun i I=>by
   have:=(Mh wK (ag I)).length_le;rw[U,<-BI,<-BI]at this;lia
  by_cases Y:ts=[]
  .subst Y;exact⟨aW _,show(Tx.sep 48).length<=900 by decide,fun t R=>(nomatch R)⟩
  .have ne:ts.map BM≠[]:=by simpa using Y
   have eb:Str.join T0 (Ds ts)=Str.join wK xK:=by
    rw[show Ds ts=Tx.inter xq xK from if_neg Y,Tx.He ne]
   refine⟨by lia,?_,fun t R=>?_⟩
   .rw[eb];have:=Va (s:=Tx.s3 43) (xs:=ts.map BM) (ys:=g) (by rw[wk];lia) fun i I T=>by
     rw[List.getElem_map];exact(Xp hn (wl i T) (at_ i T (by simpa using I))).2
    rw[U]at this;lia
   .obtain⟨i,hi,rfl⟩:=List.getElem_of_mem R;exact(Xp hn (wl i AC) (at_ i AC hi)).1
def UM{x:Str}(M:x.length<=600)(I:(Txt.split x ef).length<=4){ps:am}(h:EO x=ps.map fun ts=>ts.map enc):∀ts∈ps,Sz ts:=fun ts g=>by
 obtain⟨i,hi,rfl⟩:=List.getElem_of_mem g;unfold EO at h;have R:(Txt.split x ef).length=ps.length:=by have:=aH List.length h;simpa using this
 have:=aH (fun l=>l[i]?) h;simp only[List.getElem?_map]at this;rw[List.getElem?_eq_getElem (show i<(Txt.split x ef).length by lia),List.getElem?_eq_getElem hi]at this;refine kW I ?_ (aQ this);have:=cW (ag (show i<(Txt.split x ef).length by lia))
 lia
structure S4(x:Str):Prop where
 asc:Bg x=true
 len:x.length<=600
 run:wr 0 x.cps.toList<=60
abbrev Qb:MD:=mB HF
def kA(d:PT):Fz 3 (Jj d):=Qg fun e g=>by
 rcases aI.mp g with rfl|g
 .exact(Qg (n:=1) fun e g=>by obtain⟨i,_,rfl⟩:=aN.mp g;exact RN i)
 .rw[List.mem_singleton.mp g];exact jW _
def lF(l:List (List PT)):Fz 5 (FH l):=Jo fun d hd=>by
 obtain⟨p,_,rfl⟩:=aN.mp hd;exact Jo fun e g=>by obtain⟨t,_,rfl⟩:=aN.mp g;exact kA t
def QD(ps:am)(T:ps.length<=4):Bg (KP ps)=true:=DY.mpr fun c I=>by
 rcases mem_join I with rfl|⟨l,M,I⟩
 .decide
 .obtain⟨k,R,rfl⟩:=aN.mp M;have:=VF (k:=k) (by have:=bD.mp R;lia);rcases mem_join I with rfl|⟨z,g,I⟩
  .decide
  .rcases aI.mp g with rfl|g
   .have:c=UL.getD k 0:=bV.mp I
    lia
   .rcases aI.mp g with rfl|g
    .have:c=61:=bV.mp I
     lia
    .unfold Ds at g;split at g
     .rw[List.mem_singleton.mp g]at I;have:c=48:=bV.mp I
      lia
     .rcases LM g with rfl|g
      .have:c=43:=bV.mp I
       lia
      .obtain⟨t,_,rfl⟩:=aN.mp g;rcases JF I with z|z|z|z|z<;>lia
open Classical in
def lg{x:Str}(h:S4 x)(C:AD):Ff KY Qb V3 C [.str x]=some (if(Txt.split x ef).length<=4/\HF xL=true/\KY [FH (EO x)]=some L6 then .inl xL else .inr C):=by
 obtain⟨ls,I⟩:∃ls,Txt.split x (Tx.sep 10)=ls:=⟨_,rfl⟩;have wx:EM x:=Zu h.asc h.len;have hl:=h.len;have fl:ls.length<=601:=by have:=K9 x 10;rw[I]at this;lia
 have ep:FH (EO x)=.list (ls.map fun l=>RZ (IH ls.length l)):=by unfold FH EO;rw[I,(Cu)];rfl
 suffices U:M5 KY Qb V3 C [.d L6,.no,.no,.no]=some (if ls.length<=4/\HF xL=true/\KY [FH (EO x)]=some L6 then .inl (.rt xL) else .inr C) by
  rw[I];by_cases e:ls.length<=4/\HF xL=true/\KY [FH (EO x)]=some L6
  .rw[if_pos e]at U ⊢;exact Xs rfl U
  .rw[if_neg e]at U ⊢;exact kR rfl U
 refine J0 (Qz (AU (AI rfl rfl (Lu UU AC)))) ?_;rw[I];have s2:Yu (fC Jg) Ju (Jr zBy) [.d L6,.d ft,.no,.no]=some (Mn ls.length):=by
  rw[VP];show some (PyData.tuple (cutD (UL.map fun c=>PyData.str Iv) none (some (l4:Int))))=_;rw[rA,wk,<-List.map_take]
 refine J0 (Qz (AU s2)) ?_;have s3:Bz yq Dl (AK V3 (AB GT zAs)) [none,none,some 2] (Di GT) [.d L6,.d ft,.d (Mn ls.length),.no]=some xL:=by
  rw[ep];exact HR (zs:=ls) (a:=.str) (g:=fun l=>RZ (IH ls.length l)) rfl (aK fl AS) fun l hl'=>AX (AQ rfl WP) (lZ (E9 wx (Cs (c:=10) (by rw[I];exact hl'))) _)
 refine J0 (Qz (AU s3)) ?_;have M:AR IO zBy (AK Be (AB (fC Jg) AG)) [.d L6,.d ft,.d (Mn ls.length),.d xL]=some (decide (((4:Nat):Int)<l4)):=Af (x:=.int l4) (y:=.int 4) rfl rfl rfl;rw[wk]at M;have T:E6 (AK Qb zAr) [.d L6,.d ft,.d (Mn ls.length),.d xL]=some (HF xL):=Ea (AX WP (jZ (lF _).1));by_cases Y:ls.length<=4
 .rw[decide_eq_false AC]at M;by_cases R:HF xL=true
  .rw[R]at T;obtain⟨ps,hp,he⟩:=eC (x:=x) (by rw[I];exact Y) R;have ec:FH (EO x)=Cv ps:=by rw[he,Ur]
   have ct:KY [FH (EO x)]=some (.str (KP ps)):=by rw[ec];exact Io hp.four (UM hl (by rw[I];exact Y) he)
   have Z:AR Nb (AK KY zAr) GG [.d L6,.d ft,.d (Mn ls.length),.d xL]=some (!decide (KP ps=x)):=Af (AX WP ct) rfl (ne_str (QD ps hp.four) h.asc);by_cases ex:KP ps=x
   .rw[if_pos ⟨Y,R,by rw[ct,ex]⟩];rw[decide_eq_true ex]at Z;exact J0 (YK (BP M (BP (EW T) Z)) rfl) rfl
   .rw[if_neg fun z=>ex (by have:=z.2.2;rw[ct]at this;injection this with this;injection this)];rw[decide_eq_false ex]at Z;exact SA (Yj (BP M (BP (EW T) Z)) rfl)
  .rw[if_neg fun z=>R z.2.1];rw[Bool.eq_false_iff.mpr R]at T;exact SA (Yj (BP M (EL (EW T))) rfl)
 .rw[if_neg fun z=>Y z.1];rw[decide_eq_true AC]at M;exact SA (Yj (EL M) rfl)
def tells{x:Str}(h:S4 x)(C:AD):(∃ps,Qn x=some ps/\Ff KY Qb V3 C [.str x]=some (.inl zv))\/(Qn x=none/\Ff KY Qb V3 C [.str x]=some (.inr C)):=by
 have M:=lg h C;by_cases e:(Txt.split x ef).length<=4/\HF xL=true/\KY [FH (EO x)]=some L6
 .rw[if_pos e]at M;obtain⟨ps,g,R⟩:=eC e.1 e.2.1;have I:FH (EO x)=Cv ps:=by rw[R,Ur]
  have ct:KY [FH (EO x)]=some (.str (KP ps)):=by rw[I];exact Io g.four (UM h.len e.1 R)
  have ex:KP ps=x:=by have:=e.2.2;rw[ct]at this;injection this with this;injection this
  refine .inl ⟨ps,?_,by rw[M,I]⟩;rw[<-ex];exact mO g
 .rw[if_neg e]at M;cases U:Qn x with
  |none=>exact .inr ⟨rfl,M⟩
  |some ps=>
   exfalso
   obtain⟨ex,g⟩:=fK U;have l:=X0 g;rw[<-ex]at l;have T:(Txt.split x ef).length<=4:=by rw[ex,K8 g];simp[B8];exact g.four
   have I:FH (EO x)=Cv ps:=by rw[l,Ur]
   refine e ⟨T,by rw[I];exact Tp g,?_⟩;rw[I,Io g.four (UM h.len T l),<-ex]
theorem Z6:∀xs ys:List Int,PyData.eqvAll (xs.map .int) (ys.map .int)=decide (xs=ys)
 |[],[]=>rfl
 |[],_::_=>rfl
 |_::_,[]=>rfl
 |x::xs,y::ys=>by
  rw[xf,xf,PyData.eqvAll,Z6 xs ys];by_cases l:x=y<;>by_cases g:xs=ys<;>simp[PyData.eqv,l,g]
def cD(xs:vj):Fz 2 (.list (xs.map .int)):=Jo fun d hd=>by obtain⟨i,_,rfl⟩:=aN.mp hd;exact RN i
def ju(xs ys:vj):Ax true (.list (xs.map .int)) (.list (ys.map .int))=some (.bool (!decide (xs=ys))):=by
 refine(if_pos ⟨(cD xs).ok AS,(cD ys).ok AS⟩).trans ?_;show some (PyData.bool (!PyData.eqvAll (xs.map .int) (ys.map .int)))=_;rw[Z6]
def jh{xs ys:vo}(l:∀x∈xs,Bg x=true)(g:∀y∈ys,Bg y=true):Ax false (.list (xs.map .str)) (.list N2)=some (.bool (decide (xs=ys))):=by
 refine(if_pos ⟨(Qs l).ok AS,(Qs g).ok AS⟩).trans ?_;show some (PyData.bool (PyData.eqvAll (xs.map .str) N2))=_;rw[Ut]
theorem jG{α:Type}{i:Nat}{f:My}{δ:Dv}{c:yM}{a g:α->PD}{q:α->Bool}:∀ {zs:wq},(∀z∈zs,c (δ.set i (.d (a z)))=some (q z))->(∀z∈zs,f (δ.set i (.d (a z)))=some (g z))->L2.collect (E4 (Bw i) c f δ) (zs.map a)=some ((zs.filter q).map g)
 |[],_,_=>rfl
 |z::zs,M,I=>by
  have e:E4 (Bw i) c f δ (a z)=some (if q z=true then some (g z) else none):=by
   show(c (δ.set i (.d (a z)))).bind _=_;rw[M z EQ,zo];cases q z with
   |true=>rw[if_pos rfl,if_pos rfl,I z EQ];rfl
   |false=>rfl
  rw[xf,L2.collect,e,jG (fun y l=>M y (.tail _ l)) fun y l=>I y (.tail _ l),List.filter_cons];cases q z<;>rfl
def O5{α:Type}{i:Nat}{f:va}{fs:vZ}{δ:Dv}{fr:v8}{c:vb}{zs:wq}{a g:α->PD}{q:α->Bool}(l:fs δ=some (zs.map a))(I:zs.length<=CQ) (R:∀z∈zs,c xM=some (q z))(M:∀z∈zs,f xM=some (g z)):Bz (Bw i) c f fr fs δ=some (.list ((zs.filter q).map g)):=by
 unfold Bz JE;rw[l,zo,jG R M,zo,CH,if_pos (by rw[wk];exact aK (List.length_filter_le _ _) I)];rfl
def Lk:Option Bj->PD
 |some t=>Dp t
 |none=>.none
def QG:Option (List Bj)->PD
 |some ts=>Az ts
 |none=>.none
def u5:Option (List (List Bj))->PD
 |some ps=>Cv ps
 |none=>.none
def oB{f:va}{δ:Dv}{xs:vc}{p:Nat}(h:f δ=some zK):QU f (Jr (fC (.int ((p:Nat):Int)))) Ju δ=some (.list (xs.drop p)):=by
 show(f δ).bind _=_;rw[h];show some (PyData.list (cutD xs (some ((p:Nat):Int)) none))=_;rw[qx]
noncomputable abbrev rM:MD:=Dh qe
def Ww{w:Str}(h:EM w)(h6:w.length<=60){n:Nat}(hn:n<=4):rM [.str w,.int ST]=some (Lk (LL n w)):=by
 obtain⟨p,r,I⟩:∃p r,Txt.split w (Tx.sep 42)=p::r:=by
  cases e:Txt.split w wg with
  |nil=>exact absurd e (Tx.FU _ _)
  |cons a b=>exact⟨a,b,rfl⟩
 have hl:=h.len;have wr:∀z∈r,EM z:=fun z l=>E9 h (Cs (c:=42) (by rw[I];exact .tail _ l));have wp:EM p:=E9 h (Cs (c:=42) (by rw[I];exact .head _));have rl:r.length<=60:=by have:=K9 w 42;rw[I,(Fv)]at this;lia
 refine CF rfl ?_;have xa:Bg Ge=true:=by decide +kernel
 have s2:AF C3 GG iF [.d u0,.d (.int ST),.no,.no,.no]=some vY:=(AI rfl rfl (Lu J5 AC)).trans (by rw[I]);have t1:∀(δ:Dv),nm 2 δ=some vY->QU LT (Jr Em) Ju δ=some (.list (r.map .str)):=fun δ e=>oB (p:=1) e;unfold LL;rw[I];show Po qe _=some (.rt (Lk (match Tx.lf p with|none=>none|some q=>_)));refine AH (AU s2) (AH (AU (AX (AQ (AI rfl rfl (NC _ _)) rfl) (qj wp))) (AH (AU (HR (zs:=r) (a:=.str) (g:=fun z=>.int (GJ Ge z)) (J4 (t1 _ rfl) rfl) (aK rl AS) fun z _=>AI rfl rfl rfl)) ?_));have epl:(r.map fun z=>PyData.int (GJ Ge z))=(Cw r).map .int:=by unfold Cw;rw[(Cu)];rfl
 rw[epl];cases hq:Tx.lf p with
 |none=>exact BW (BO (EL zAS) rfl)
 |some q=>
  let D:Dv:=[.d u0,.d (.int ST),.d vY,.d (Fq (some q)),.d (.list ((Cw r).map .int))]
  have c0:AR (N5 false) M6 Ps D=some false:=Af rfl rfl rfl;have R:AR J9 (AF A8 M6 Go) Go D=some (q.1==0):=DB (AI rfl rfl (NC _ _));have U:AR Nb zCF (Ce AG) D=some (!decide ((r.filter fun z=>!(((z.length:Nat):Int)==1))=[])):=by
   refine Af (x:=.list ((r.filter fun z=>!(((z.length:Nat):Int)==1)).map .str)) (y:=.list (([]:List Str).map .str)) (O5 (zs:=r) (a:=.str) (J4 (t1 _ rfl) rfl) (aK rl AS) (fun z l=>?_) fun z _=>rfl) rfl (jL (fun z l=>(wr z (bZ.mp l).1).asc) fun z l=>by cases l);exact Af (PC rfl (by have:=(wr z l).len;lia)) rfl (ne_int _ _)
  have M:AR Nb zBd (AK Qk Uf) D=some (!decide (Cw r=Fw (Cw r))):=by
   refine Af rfl (AX WP ?_) (ju _ _);show(IP ((Cw r).map .int)).bind _=_;rw[Kj];exact if_pos (by unfold Cw;rw[wk];lia)
  have T:AR Nb zCD (Ce AG) D=some (!decide (((Cw r).filter fun i=>decide (i<0)||decide ((n:Int)<=i))=[])):=by
   refine Af (x:=.list (((Cw r).filter fun i=>decide (i<0)||decide ((n:Int)<=i)).map .int)) (y:=.list (([]:List Int).map .int)) (O5 (zs:=Cw r) (a:=.int) rfl (by unfold Cw;rw[wk];exact aK rl AS) (fun i _=>?_) fun z _=>rfl) rfl (ju _ _);by_cases hi:i<0
   .rw[decide_eq_true hi];exact EL (Af rfl rfl (aH (fun b=>some (PyData.bool b)) (aX hi)))
   .rw[decide_eq_false hi];exact BP (Af rfl rfl (aH (fun b=>some (PyData.bool b)) (aV hi))) zAS
  show(_:Option Ou)=some (.rt (Lk (if _ then none else some _)));by_cases b1:q.1=0
  .rw[if_pos (.inl b1)];rw[show(q.1==0)=true from bG.mpr b1]at R;exact BW (BO (BP c0 (EL R)) rfl)
  rw[show(q.1==0)=false from bf.mpr b1]at R;by_cases b2:∃z∈r,z.length≠1
  .rw[if_pos (.inr (.inl b2))];obtain⟨z,l,hzl⟩:=b2;rw[decide_eq_false fun e=>by
    have:z∈r.filter fun z=>!(((z.length:Nat):Int)==1):=bZ.mpr ⟨l,by simp;lia⟩;rw[e]at this;cases this]at U
   exact BW (BO (BP c0 (BP R U)) rfl)
  rw[decide_eq_true (by
   refine List.filter_eq_nil_iff.mpr fun z l=>?_;have:z.length=1:=bJ fun k=>b2 ⟨z,l,k⟩;simp[this])]at U
  refine AH (BC (BP c0 (BP R U)) rfl) ?_;by_cases Z:Fw (Cw r)=Cw r
  .rw[decide_eq_true Z.symm]at M;by_cases Y:∃i∈Cw r,i<0\/(n:Int)<=i
   .rw[if_pos (.inr (.inr (.inr Y)))];obtain⟨i,hi,hb⟩:=Y;rw[decide_eq_false fun e=>by
     have:i∈(Cw r).filter fun i=>decide (i<0)||decide ((n:Int)<=i):=bZ.mpr ⟨hi,by simpa using hb⟩
     rw[e]at this;cases this]at T
    exact BW (BO (BP M T) rfl)
   .rw[if_neg (fun z=>z.elim b1 fun z=>z.elim b2 fun z=>z.elim (fun z=>z Z) Y)];rw[decide_eq_true (by
     refine List.filter_eq_nil_iff.mpr fun i hi=>?_;have:¬(i<0\/(n:Int)<=i):=fun z=>Y ⟨i,hi,z⟩;simp;lia)]at T
    refine AH (BC (BP M T) rfl) ?_;have rg:Cn ES zAm D=some ((List.range n).map fun k=>PyData.int zw):=by
     have:=Kh (δ:=D) (f:=nm 1) (j:=(n:Nat)) rfl AC AC;rw[this,(FP)];rfl
    have F:=Tx.jV (t:=q.1) (b:=q.2) hq;obtain⟨e1,e2⟩:=Sa F.pos F.low;refine(B4 (Jz (AQ (AX (AQ (HR (zs:=List.range n) (a:=fun k=>PyData.int zw) (g:=fun k=>.int (((Cw r).count ((k:Nat):Int):Nat):Int)) rg (by rw[List.length_range];exact aK hn AS) fun k _=>?_) rfl) rfl) WP) (d2 _ _))).trans ?_
    .rw[Int.zero_add];refine AI rfl rfl ?_;show(IP ((Cw r).map .int)).map _=_;rw[Kj];rfl
    .show some (Ou.rt (.tuple [.tuple _,Fq (some q)]))=some (Ou.rt (Dp (F5 n (Cw r),Rat.divInt q.1 q.2)));unfold Dp tupI F5 Bi;rw[(Cu)];show _=some (Ou.rt (PyData.tuple [_,.tuple [.int (Rat.divInt q.1 q.2).num,.int ((Rat.divInt q.1 q.2).den:Int)]]));rw[e1,e2];rfl
  .rw[if_pos (.inr (.inr (.inl Z)))];rw[decide_eq_false fun e=>Z e.symm]at M;exact BW (BO (EL M) rfl)
def eA{fs:vZ}{set:XN}{F:DF}{δ:Dv}{xs:vc}{r:Option Ou}(h:yc)(k:ER set F xs δ=r):Es fs set F δ=r:=by show(fs δ).bind _=_;rw[h];exact k
theorem PF{α:Type}:∀ {l:wq} {x:α},x∈Bx l->x∈l
 |[],_,h=>h
 |[a],_,h=>h
 |a::b::r,x,h=>by
  rcases aI.mp h with rfl|h
  .exact .head _
  .exact .tail _ (.tail _ (PF h))
theorem Sr{α:Type}{f:α->PD}{g:Option α->PD}(R:g none=.none)(M:∀a,g (some a)=f a)(I:∀a,PyData.eqv (f a) .none=false):∀os:List (Option α),Mv (os.map g) .none=decide (GV os=none)
 |[]=>rfl
 |none::r=>by
  unfold Mv;rw[xf,List.any_cons,R]
  rfl
 |some a::r=>by
  have l:=Sr R M I r;unfold Mv at l ⊢;rw[xf,List.any_cons,M,I,Bool.false_or,l];show decide (GV r=none)=decide ((GV r).map _=none);cases GV r<;>simp
def XD(t:Bj):Fz 3 (Dp t):=Qg fun e g=>by
 rcases aI.mp g with rfl|g
 .exact(Qg (n:=1) fun e g=>by obtain⟨i,_,rfl⟩:=aN.mp g;exact RN i)
 .rw[List.mem_singleton.mp g];exact jW (some yu)
def S7(ts:wy):Fz 4 zP:=Jo fun d hd=>by obtain⟨t,_,rfl⟩:=aN.mp hd;exact XD t
def QQ(ps:am):Fz 5 zv:=Jo fun d hd=>by obtain⟨t,_,rfl⟩:=aN.mp hd;exact S7 t
def ij(o:Option Bj):Fz 3 (Lk o):=by cases o with|none=>exact Qi.more (by decide)|some t=>exact XD t
def iK(o:Option (List Bj)):Fz 4 (QG o):=by cases o with|none=>exact Qi.more (by decide)|some t=>exact S7 t
def Xc{α:Type}{g:Option α->PD}{f:α->PD}(I:∀a,g (some a)=f a):∀ {os:List (Option α)} {l:wq},GV os=some l->os.map g=l.map f:=fun {os l} h=>by
 rw[Ol h,(Cu)];exact ak fun a _=>I a
def Se{k:Nat}(l:k<4):A8 (.str Ge) IF=some (.str (Tx.sep wE)):=by
 have g:Ge.length=4:=by decide +kernel
 show(if Ge.length<=CQ then(D8 Ge.cps.toList _).map _ else none)=_;refine(if_pos (by rw[g];decide)).trans ?_;rw[YC,LQ (i:=k) (x:=UL.getD k 0)]
 .rfl
 .rw[(Ct)]
  match k,l with
  |0,_=>rfl
  |1,_=>rfl
  |2,_=>rfl
  |3,_=>rfl
noncomputable abbrev jg:MD:=C2 rM
def VE{l:Str}(h:EM l)(h6:∀z∈Txt.split l T0,z.length<=60){n k:Nat}(hn:n<=4)(hk:k<4):jg [.str l,.int ((k:Nat):Int),.int ST]=some (QG (M7 n k l)):=by
 obtain⟨I,T⟩:∃I,Txt.split l (Tx.sep 32)=I:=⟨_,rfl⟩;have hl:=h.len;have wl:I.length<=991:=by have:=K9 l 32;rw[T]at this;lia
 have ww:∀z∈I,EM z:=fun z M=>E9 h (Cs (c:=32) (by rw[T];exact M));have ua:Bg (Tx.sep wE)=true:=DY.mpr fun c hc=>by
  have:c=UL.getD k 0:=bV.mp hc;have:=VF hk;lia
 refine CF rfl ?_;show NY rM [.d (.str l),.d IF,.d (.int ST),.no,.no,.no]=_;refine AH (AU (AI rfl rfl (Lu ZK AC))) ?_;rw[T];unfold M7;rw[T]
 let D:Dv:=[.d (.str l),.d IF,.d (.int ST),.d ra,.no,.no]
 have lm:(I.map PyData.str).length=I.length:=List.length_map _;have c1:AR LE (AK Be zAr) (fC (.int 3)) D=some (decide (((I.length:Nat):Int)<3)):=Af (x:=.int ((I.map PyData.str).length:Nat)) (y:=.int 3) rfl rfl (by rw[lm];rfl);have c2:AR J9 (AF A7 (AK Be zAr) NX) Go D=some ((((I.length:Nat):Int).fmod 2)==0):=DB (Eu (a:=((I.length:Nat):Int)) (by show some (PyData.int ((I.map PyData.str).length:Nat))=_;rw[lm]) rfl AS);have c3:∀ {a b:Str} {r:N1},I=a::b::r->AR Nb (AF A8 M6 Go) (AF A8 PP GT) D=some (!decide (a=Tx.sep wE)):=fun {a b r} e=>Af (AI rfl rfl (show A8 ra (.int 0)=some (.str a) by rw[e];exact NC _ _)) (AI rfl rfl (Se hk)) (ne_str (ww a (by rw[e];exact .head _)).asc ua);have c4:∀ {a b:Str} {r:N1},I=a::b::r->AR Nb (AF A8 M6 Em) yp D=some (!decide (b=Tx.sep 61)):=fun {a b r} e=>by
  rw[show Tx.sep 61=Str.ofString "=" by decide +kernel];exact Af (AI rfl rfl (show A8 ra (.int 1)=some (.str b) by rw[e];exact RP _ _ _)) rfl (ne_str (ww b (by rw[e];exact .tail _ EQ)).asc xg)
 have hd:Co (AR LE (AK Be zAr) (fC (.int 3))) zCA D=some (!@decide (G9 k I) (Classical.propDecidable _)):=by
  have fm:((I.length:Nat):Int).fmod 2=((I.length % 2:Nat):Int):=by
   rw[Int.fmod_eq_emod_of_nonneg _ AS];lia
  by_cases Z:I.length<3
  .rw[decide_eq_true (show((I.length:Nat):Int)<3 by lia)]at c1;rw[EL c1];have:¬G9 k I:=fun z=>z (.inl Z);simp[this]
  rw[decide_eq_false (show ¬((I.length:Nat):Int)<3 by lia)]at c1;refine BP c1 ?_;rw[fm]at c2;by_cases h2:I.length % 2=0
  .rw[h2]at c2;rw[EL c2];have:¬G9 k I:=fun z=>z (.inr (.inl h2));simp[this]
  rw[show((((I.length % 2:Nat):Int))==0)=false from bf.mpr AC]at c2;refine BP c2 ?_
  match I,Z,@c3,@c4,h2 with
  |[],Z,_,_,_=>exact absurd A1 Z
  |[a],Z,_,_,_=>exact absurd A1 Z
  |a::b::r,Z,c3,c4,h2=>
   have c3:=c3 rfl;have c4:=c4 rfl;by_cases ha:a=Tx.sep wE
   .rw[decide_eq_true ha]at c3;refine BP c3 ?_;rw[c4];by_cases R:b=Tx.sep 61
    .have:G9 k (a::b::r):=by
      unfold G9;rintro(z|z|z|z)
      .exact Z z
      .exact h2 z
      .exact z (by rw[ha];rfl)
      .exact z (by rw[R];rfl)
     rw[decide_eq_true R];simp[this]
    .have:¬G9 k (a::b::r):=fun z=>z (.inr (.inr (.inr (by simpa using R))));rw[decide_eq_false R];simp[this]
   .rw[decide_eq_false ha]at c3;rw[EL c3];have:¬G9 k (a::b::r):=fun z=>z (.inr (.inr (.inl (by simpa using ha))));simp[this]
 by_cases hh:G9 k I
 .rw[show(@decide (G9 k I) (Classical.propDecidable _))=true from by simp[hh]]at hd;rw[if_pos hh];refine AH (BC hd rfl) ?_;have e2:AR J9 (QU M6 (Jr NX) Ju) (Ce zAG) D=some (decide (I.drop 2=[Tx.sep 48])):=by
   rw[<-OI];exact Af (x:=.list ((I.drop 2).map .str)) (y:=.list ([Str.ofString "0"].map .str)) ((oB (p:=2) rfl).trans (by rw[List.map_drop])) rfl (jh (fun z M=>(ww z (az M)).asc) fun z M=>by rw[List.mem_singleton.mp M];decide +kernel)
  by_cases h0:I.drop 2=[Tx.sep 48]
  .rw[decide_eq_true h0]at e2;rw[if_pos h0];exact BW (BO e2 rfl)
  .rw[decide_eq_false h0]at e2;rw[if_neg h0];refine AH (BC e2 rfl) ?_;have ev:∀(j:Nat) (δ:Dv),nm 3 δ=some ra->Qq M6 (fC (.int W1)) NX δ=some (.list ((Bx (I.drop j)).map .str)):=fun j δ e=>by
    show(nm 3 δ).bind _=_;rw[e];have em:∀xs:List Str,Bx (xs.map PyData.str)=(Bx xs).map .str:=fun xs=>by
     match xs with
     |[]=>rfl
     |[a]=>rfl
     |a::b::r=>
      have:∀n,∀xs:List Str,xs.length<=n->Bx (xs.map PyData.str)=(Bx xs).map .str:=fun n=>by
       induction n with
       |zero=>intro xs U;cases xs with|nil=>rfl|cons a b=>simp at U
       |succ n ih=>
        intro xs U
        match xs with
        |[]=>rfl
        |[a]=>rfl
        |a::b::r=>simp only[List.map_cons,Bx];rw[ih r (by simp at U;lia)]
      exact this _ _ SL
    show(if(2:Int)=2/\0<=W1 then some (PyData.list (Bx ((I.map PyData.str).drop ((j:Nat):Int).toNat))) else none)=_;rw[if_pos ⟨rfl,by lia⟩,(FP),<-List.map_drop,em]
   have l2:(Bx (I.drop 2)).length<=991:=aK (PB _) (by rw[(Hl)];lia);have w6:∀z∈Bx (I.drop 2),z.length<=60:=fun z M=>h6 z (by rw[T];exact az (PF M));have wv:∀z∈Bx (I.drop 2),EM z:=fun z M=>ww z (az (PF M));refine AH (AU (HR (zs:=Bx (I.drop 2)) (a:=.str) (g:=fun w=>Lk (LL n w)) (J4 (ev 2 _ rfl) rfl) (aK l2 AS) fun w hw=>AX (AQ rfl WP) (Ww (wv w hw) (w6 w hw) hn))) ?_;obtain⟨os,hos⟩:∃os,(Bx (I.drop 2)).map (LL n)=os:=⟨_,rfl⟩;have eo:((Bx (I.drop 2)).map fun w=>Lk (LL n w))=os.map Lk:=by rw[<-hos,(Cu)];rfl
   have ol:os.length<=991:=by rw[<-hos,wk];exact l2
   rw[eo,hos]
   let D2:Dv:=[.d (.str l),.d IF,.d (.int ST),.d ra,.d (.list (os.map Lk)),.no]
   have d1:AR (QP false) Ps zBd D2=some (decide (GV os=none)):=by
    refine Af rfl rfl ((if_pos ⟨Qi.ok AS,(Jo (n:=3) fun d hd=>by obtain⟨o,_,rfl⟩:=aN.mp hd;exact ij o).ok AS⟩).trans ?_);show some (PyData.bool (Mv (os.map Lk) .none))=_;rw[Sr (f:=Dp) rfl (fun _=>rfl) fun a=>rfl]
   have Y:AR Nb zBT (Ce AG) D2=some (!decide (((Bx (I.drop 3)).filter fun z=>!decide (z=Tx.sep 43))=[])):=by
    have wv3:∀z∈Bx (I.drop 3),EM z:=fun z M=>ww z (az (PF M));refine Af (x:=.list (((Bx (I.drop 3)).filter fun z=>!decide (z=Tx.sep 43)).map .str)) (y:=.list (([]:List Str).map .str)) (O5 (zs:=Bx (I.drop 3)) (a:=.str) (J4 (ev 3 _ rfl) rfl) (aK (PB _) (by rw[(Hl)];show _<=1000;lia)) (fun z M=>?_) fun z _=>rfl) rfl (jL (fun z M=>(wv3 z (bZ.mp M).1).asc) fun z M=>by cases M);rw[show Tx.sep 43=Str.ofString "+" by decide +kernel];exact Af rfl rfl (ne_str (wv3 z M).asc xg)
   cases ha:GV os with
   |none=>
    rw[ha,decide_eq_true rfl]at d1;exact BW (BO (EL d1) rfl)
   |some ts=>
    rw[ha,decide_eq_false A1]at d1;have eg:os.map Lk=ts.map Dp:=Xc (fun _=>rfl) ha;show _=some (Ou.rt (QG (if _/\Il ts=true then some ts else none)));by_cases hp:∀z∈Bx (I.drop 3),z=Tx.sep 43
    .rw[decide_eq_true (List.filter_eq_nil_iff.mpr fun z M=>by simp[hp z M])]at Y;refine AH (BC (BP d1 Y) rfl) ?_;rw[eg];have tl:ts.length<=991:=by have:=aH List.length eg;rw[wk,wk]at this;lia
     have rg:Cn WL (AB Em (AB (AK Be Uf) AG)) [.d (.str l),.d IF,.d (.int ST),.d ra,.d (.list zAI),.no]=some (D3 1 (ts.length-1)):=by
      show WL [.int 1,.int ((ts.map Dp).length:Nat)]=_;rw[wk];refine(if_pos ⟨by decide,by decide,by lia,by lia⟩).trans ?_
      congr 2
      lia
     have rgl:(D3 1 (ts.length-1)).length=ts.length-1:=by simp[D3]
     rcases W9 (set:=GX 5) (F:=CI zCE (A9 Ps) BH) (r:=.none)
      (fun _ δ=>∃a,δ=[.d (.str l),.d IF,.d (.int ST),.d ra,.d (.list zAI),a]) (fun i=>¬IT.lt (ts.getD Pi ([],0)).1 (ts.getD i ([],0)).1=true) (D3 1 (ts.length-1)) [.d (.str l),.d IF,.d (.int ST),.d ra,.d (.list zAI),.no] 0 ⟨_,rfl⟩ (fun i x δ U hv=>by
       obtain⟨a,rfl⟩:=hv;have hi:=(aF.mp U).1;rw[rgl]at hi;have ex:x=.int (((i+1:Nat)):Int):=by
        unfold D3 at U;rw[xZ,List.getElem?_range hi]at U;have U:some (PyData.int (1+((i:Nat):Int)))=some x:=U;rw[<-Option.some.inj U];congr 1;lia
       subst ex;refine⟨_,rfl,?_⟩;have g1:(ts.map Dp)[i+1]? = some (Dp (ts.getD Pi ([],0))):=by rw[xZ,(Ct),List.getElem?_eq_getElem (show i+1<ts.length by lia)];rfl
       have g0:(ts.map Dp)[i]? = some (Dp (ts.getD i ([],0))):=by rw[xZ,(Ct),List.getElem?_eq_getElem (show i<ts.length by lia)];rfl
       have c:AR VJ (AF A8 (AF A8 zBd WF) Go) (AF A8 (AF A8 zBd (AF MZ WF Em)) Go) [.d (.str l),.d IF,.d (.int ST),.d ra,.d (.list zAI),.d (.int ((i+1:Nat):Int))]=some (!IT.lt (ts.getD Pi ([],0)).1 (ts.getD i ([],0)).1):=by
        refine Af (AI (AI rfl rfl (LQ g1)) rfl (NC _ _)) (AI (AI (y:=.int ((i:Nat):Int)) rfl (AI rfl rfl (aH zd AC)) (LQ g0)) rfl (NC _ _)) ?_;show(IP ((ts.getD Pi ([],0)).1.map .int)).bind (fun ps=>(IP ((ts.getD i ([],0)).1.map .int)).map _)=_;rw[Kj,Kj];rfl
       rw[Nat.zero_add];by_cases R:IT.lt (ts.getD Pi ([],0)).1 (ts.getD i ([],0)).1=true
       .rw[R]at c;exact .inr ⟨fun z=>z R,_,BC c rfl,_,rfl⟩
       .rw[Bool.eq_false_iff.mpr R]at c;exact .inl ⟨R,BO c rfl⟩) with ⟨⟨i,hi,R⟩,hf⟩|⟨hall,δ',hf,a,rfl⟩
     .rw[Nat.zero_add]at R;rw[rgl]at hi;rw[if_neg fun z=>R (by
       have pw:=KO.mp z.2;have:=List.pairwise_iff_getElem.mp pw i Pi AC AC AC;rw[(Ct),(Ct),List.getElem?_eq_getElem (show i+1<ts.length by lia),List.getElem?_eq_getElem (show i<ts.length by lia)];exact this)]
      exact BW (eA rg hf)
     .have ad:Il ts=true:=by
       have adj:∀ {l:wy},(∀i (h1:i+1<l.length),IT.lt (l.getD Pi ([],0)).1 (l.getD i ([],0)).1=true)->Il l=true:=fun {l}=>by
        induction l with
        |nil=>intro _;rfl
        |cons a l ih=>
         intro hh;cases l with
         |nil=>rfl
         |cons b r=>
          unfold Il;rw[(Ft)];refine⟨hh 0 A1,ih fun i h1=>?_⟩;exact hh Pi (by simp only[List.length_cons]at h1 ⊢;lia)
       refine adj fun i h1=>?_;have:=hall i (by rw[rgl];lia);rw[Nat.zero_add]at this;exact bJ this
      rw[if_pos ⟨hp,ad⟩];exact AH (eA rg hf) rfl
    .rw[decide_eq_false fun e=>hp fun z M=>bJ fun y=>by
      have:z∈(Bx (I.drop 3)).filter fun z=>!decide (z=Tx.sep 43):=bZ.mpr ⟨M,by simp[y]⟩;rw[e]at this;cases this]at Y
     rw[if_neg fun z=>hp z.1];exact BW (BO (BP d1 Y) rfl)
 .rw[show(@decide (G9 k I) (Classical.propDecidable _))=false from by simp[hh]]at hd;rw[if_neg hh];exact BW (BO hd rfl)
noncomputable abbrev oz:MD:=NK jg
def T6{x:Str}(h:S4 x):oz [.str x]=some (u5 (Qn x)):=by
 obtain⟨ls,I⟩:∃ls,Txt.split x (Tx.sep 10)=ls:=⟨_,rfl⟩;have wx:EM x:=Zu h.asc h.len;have hl:=h.len;have ww:∀z∈ls,EM z:=fun z Y=>E9 wx (Cs (c:=10) (by rw[I];exact Y));refine CF rfl ?_;show NJ jg [.d L6,.no,.no]=_;refine AH (AU (AI rfl rfl (Lu UU AC))) ?_;unfold Qn;rw[I];have lm:(ls.map PyData.str).length=ls.length:=List.length_map _;have U:AR IO zBy (fC ut) [.d L6,.d ft,.no]=some (decide ((4:Int)<((ls.length:Nat):Int))):=Af (x:=.int l4) (y:=.int 4) rfl rfl (by rw[lm];rfl);by_cases Z:4<ls.length
 .rw[if_pos Z];rw[decide_eq_true AC]at U;exact BW (BO U rfl)
 rw[if_neg Z];rw[decide_eq_false AC]at U;refine AH (BC U rfl) ?_;have rg:Cn ES (AB zBy AG) [.d L6,.d ft,.no]=some ((List.range ls.length).map fun k=>PyData.int zw):=by
  have:=Kh (δ:=[.d L6,.d ft,.no]) (f:=AK Be zAm) (j:=l4) (AX WP rfl) AC (by rw[lm];lia);rw[this,(FP),lm];rfl
 obtain⟨os,R⟩:∃os,((List.range ls.length).map fun k=>M7 ls.length k (ls.getD k (Tx.sep 0)))=os:=⟨_,rfl⟩;have s2:Bz yq Dl (AK jg (AB (AF A8 LT GT) (AB GT (AB (AK Be zAs) AG)))) [none,none,some 1] (Cn ES (AB zBy AG)) [.d L6,.d ft,.no]=some (.list (os.map QG)):=by
  rw[HR (zs:=List.range ls.length) (a:=fun k=>PyData.int zw) (g:=fun k=>QG (M7 ls.length k (ls.getD k xz))) rg (by rw[List.length_range];show _<=1000;lia) fun k M=>?_]
  .rw[<-R,(Cu)];rfl
  .have M:=bD.mp M;rw[Int.zero_add];have gk:(ls.map PyData.str)[k]? = some (.str (ls.getD k xz)):=by rw[xZ,(Ct),List.getElem?_eq_getElem M];rfl
   refine AX (AQ (AI rfl rfl (LQ gk)) (AQ rfl (AQ (show _=some (PyData.int ((ls.length:Nat):Int)) from ?_) rfl))) (VE (ww _ ?_) (fun z Y=>iJ h.run (l:=ls.getD k xz) ?_ Y) AC AC)
   .show some (PyData.int l4)=_;rw[lm]
   .rw[(Ct),List.getElem?_eq_getElem M];exact ag M
   .rw[I,(Ct),List.getElem?_eq_getElem M];exact ag M
 refine AH (AU s2) ?_;rw[R];have T:AF (QP false) Ps LT [.d L6,.d ft,.d (.list (os.map QG))]=some (.bool (decide (GV os=none))):=by
  refine AI rfl rfl ((if_pos ⟨Qi.ok AS,(Jo (n:=4) fun d hd=>by obtain⟨o,_,rfl⟩:=aN.mp hd;exact iK o).ok AS⟩).trans ?_);show some (PyData.bool (Mv (os.map QG) .none))=_;rw[Sr (f:=Az) rfl (fun _=>rfl) fun a=>rfl]
 cases ha:GV os with
 |none=>
  rw[ha,decide_eq_true rfl]at T;exact B4 (AI (y:=.int 1) (O9 (AQ rfl WP) (d2 _ _)) (AX (AQ T rfl) rfl) (RP _ _ _))
 |some ps=>
  rw[ha,decide_eq_false A1]at T;refine(B4 (AI (y:=.int 0) (O9 (AQ rfl WP) (d2 _ _)) (AX (AQ T rfl) rfl) (NC _ _))).trans ?_;rw[Xc (f:=Az) (fun _=>rfl) ha];rfl
def KQ(p:vj)(j:Nat):vv:=((List.range j).map fun i=>(List.replicate (p.getD i 0).toNat [42,UL.getD i 0]).flatten).flatten
def dU(p:vj)(j:Nat):KQ p (j+1)=KQ p j++(List.replicate (p.getD j 0).toNat [42,UL.getD j 0]).flatten:=by
 unfold KQ;rw[List.range_succ,(Ja),List.flatten_append];simp
def gP{p:vj}(h:p.length<=4):KQ p p.length=((Ar UL p).map fun q=>42::q.cps.toList).flatten:=by
 match p,h with
 |[],_=>rfl
 |[a],_=>simp[KQ,Ar,List.range_succ]
 |[a,b],_=>simp[KQ,Ar,List.range_succ]
 |[a,b,c],_=>simp[KQ,Ar,List.range_succ]
 |[a,b,c,d],_=>simp[KQ,Ar,List.range_succ]
 |_::_::_::_::_::_,h=>simp only[List.length_cons]at h;lia
def tW{n:Nat}{t:TG}(h:Td n t):M9 n t :=
 ⟨h.len,fun x g=>(h.pos x g).1,h.ne,Nat.le_trans (MB 0 _ (bS h.top AS)) AS,Nat.le_trans (MB 0 _ (bS h.bot AS)) AS⟩
def eV{ps:zC}(h:V2 ps):QK ps:=⟨h.pos,h.CH,fun ts g=>⟨fun t hm=>tW ((h.Li ts g).tm t hm),(h.Li ts g).ord⟩⟩
def YD{n:Nat}{t:TG}(h:Td n t):(Dc t.2).length<=4:=qM (k:=0) (bS h.top AS) (bS h.bot AS)
def nu{n:Nat}{t:TG}(h:Td n t):Lit t.2:=⟨bS h.top AS,Nat.lt_of_le_of_lt h.bot AS⟩
theorem Qd:∀ {us:wH} {p:mo},(∀x∈p,0<=x)->((Ar us p).length:Int)<=p.sum
 |[],p,h=>by
  have:∀ {l:mo},(∀x∈l,0<=x)->0<=l.sum:=fun {l}=>by
   induction l with
   |nil=>intro _;decide
   |cons a l I=>intro h;have:=I fun x g=>h x zAE;have:=h a EQ;rw[List.sum_cons];lia
  have e:Ar [] p=[]:=by cases p<;>rfl
  rw[e];exact this h
 |u::us,[],_=>by simp[Ar]
 |u::us,k::ks,h=>by
  have I:=Qd (us:=us) (p:=ks) fun x g=>h x zAE;have h0:=h k EQ;have M:Ar (u::us) (k::ks)=List.replicate k.toNat (Tx.sep u)++Ar us ks:=rfl;rw[M,(EB),(Ve),List.sum_cons];lia
def O7{n:Nat}{t:TG}(h:Td n t):(BM t).length<=12:=by
 have U:(BM t).length+1=BF (Dc t.2::Ar UL t.1):=HM (c:=42) A1;have T:BF (Dc t.2::Ar UL t.1)=(Dc t.2).length+1+BF (Ar UL t.1):=by simp[BF]
 have R:=WN UL t.1;have M:=YD h;have I:=Qd (us:=UL) (p:=t.1) fun x g=>(h.pos x g).1;have l:=h.sum
 lia
def o8{n:Nat}(hn:n<=4){ts:List TG}(h:K5 n ts):Sz ts/\(Str.join T0 (Ds ts)).length<=58:=by
 have hf:=h.CH;have R:(Str.join T0 (Ds ts)).length<=58:=by
  unfold Ds;split
  .show 1<=58;decide
  .rename_i ne;have Z:ts.map BM≠[]:=by simpa using ne
   have e:=join_le (c:=32) (ps:=Tx.inter xq xK);have:∀ {l:List TG},l≠[]->(∀t∈l,Td n t)->BF (Tx.inter xq (l.map BM))+2<=15*l.length:=fun {l}=>by
    induction l with
    |nil=>intro h;exact absurd rfl h
    |cons t l T=>
     intro _ M;have w0:=O7 (M t EQ);cases l with
     |nil=>simp[Tx.inter,BF];lia
     |cons u r=>
      have i2:=T A1 fun z U=>M z (.tail _ U);have e:BF (Tx.inter xq ((t::u::r).map BM))=(BM t).length+1+(2+BF (Tx.inter xq ((u::r).map BM))):=by
       show BF (BM t::Tx.sep 43::Tx.inter xq ((u::r).map BM))=_;simp only[BF,List.map_cons,List.sum_cons];show _+1+(1+1+_)=_
       lia
      rw[e];simp only[List.length_cons]at i2 ⊢
      lia
   have:=this ne h.tm;have:15*ts.length<=15*4:=Nat.mul_le_mul_left _ hf
   lia
 refine⟨⟨by lia,by lia,fun t Y=>?_⟩,R⟩;have g:=h.tm t Y;have e5:=Qd (us:=UL) (p:=t.1) fun x I=>(g.pos x I).1;have e6:=g.sum;exact⟨nu g,by lia,by have:=O7 g;lia,fun x I=>(g.pos x I).1,by rw[g.len];exact hn⟩
noncomputable abbrev qZ:MD:=De CD
def Wz{n k:Nat}(hn:n<=4)(hk:k<4){ts:List TG}(h:K5 n ts):qZ [.int ((k:Nat):Int),Az ts]=some (.str (Dm k ts)):=by
 have hf:=h.CH;obtain⟨hs,hj⟩:=o8 hn h;refine CF rfl ?_;show Pj CD [.d IF,.d zP,.no,.no,.no,.no,.no]=_;refine AH (δ':=[.d IF,.d zP,.own v3,.no,.no,.no,.no]) rfl ?_;obtain⟨l,e,a3,T,R,I,rfl⟩:∃l,Es (Di (nm 1)) (EJ 3 4) (AN (Am 5 (AK CD (AB (nm 4) AG))) (AN (Es (Cn ES (AB (AK Be (AB (nm 3) AG)) AG)) (GX 6) (Am 5 (AF Av (nm 5) (AF I0 (AF Av (fC (.str (Str.ofString "*"))) (AF A8 (fC (.str (Str.ofString "xyzw"))) (nm 6))) (AF A8 (nm 3) (nm 6)))))) (Vh 2 (nm 5)))) [.d (.int ((k:Nat):Int)),.d (Az ts),.own (.lst []),.no,.no,.no,.no]=some (.nx l) /\
   ∃a3 T R I,l=[.d (.int ((k:Nat):Int)),.d (Az ts),.own (.lst ((ts.map BM).map .str)),a3,T,R,I]:=by
  obtain⟨l,e,iv⟩:=Mu (fs:=Di GT) (set:=EJ 3 4) (F:=(AN (Am 5 (AK CD Uf)) (AN (Es (Cn ES (AB (AK Be zAr) AG)) (GX 6) (Am 5 zBD)) (Vh 2 WF)))) (δ:=[.d IF,.d zP,.own v3,.no,.no,.no,.no]) (xs:=ts.map Dp)
   (fun i δ=>∃a3 T R I,δ=[.d IF,.d zP,.own (.lst nw),a3,T,R,I]) rfl ⟨_,_,_,_,rfl⟩ fun i x δ hx hv=>by
   obtain⟨a3,T,R,I,rfl⟩:=hv;rw[xZ]at hx;obtain⟨t,ht,rfl⟩:=aC.mp hx;have hi:=(aF.mp ht).1;have hm:=h.tm t (ar ht);have hl:=hm.len;refine⟨[.d IF,.d zP,.own (.lst nw),.d wL,.d yw,R,I],?_⟩;obtain⟨U,e2,g,M,hacc,hle,rfl⟩:∃U,Es (Cn ES (AB (AK Be (AB (nm 3) AG)) AG)) (GX 6) (Am 5 (AF Av (nm 5) (AF I0 (AF Av (fC (.str (Str.ofString "*"))) (AF A8 (fC (.str (Str.ofString "xyzw"))) (nm 6))) (AF A8 (nm 3) (nm 6))))) [.d (.int ((k:Nat):Int)),.d (Az ts),.own (.lst (((ts.take i).map BM).map .str)),.d (tupI t.1),.d (Bi t.2),.d (.str (Dc t.2)),I]=some (.nx U) /\
     ∃(g:Str) (M:L),g.cps.toList=(Dc t.2).cps.toList++KQ t.1 t.1.length/\g.length<=36/\U=[.d (.int ((k:Nat):Int)),.d (Az ts),.own (.lst (((ts.take i).map BM).map .str)),.d (tupI t.1),.d (Bi t.2),.d (.str g),M]:=by
    have rg:Cn ES (AB (AK Be zAr) AG) [.d IF,.d zP,.own (.lst nw),.d wL,.d yw,.d (.str (Dc t.2)),I]=some (D3 0 t.1.length):=by
     have:=Kh (δ:=[.d IF,.d zP,.own (.lst nw),.d wL,.d yw,.d (.str (Dc t.2)),I]) (f:=AK Be zAr) (j:=((t.1.map PyData.int).length:Nat)) (AX WP rfl) AC (by rw[wk];lia);rw[this,(FP),wk]
    obtain⟨U,e2,g,M,h1,h2,rfl⟩:=Mu (F:=Am 5 zBD) (set:=GX 6)
     (fun j δ=>∃(g:Str) (M:L),g.cps.toList=(Dc t.2).cps.toList++KQ t.1 j/\g.length<=4+8*j/\δ=[.d IF,.d zP,.own (.lst nw),.d wL,.d yw,.d (.str g),M]) rg ⟨Dc t.2,I,by simp[KQ],by have:=YD hm;lia,rfl⟩ fun j y δ hy hv=>by
     obtain⟨g,M,h1,h2,rfl⟩:=hv;obtain⟨rfl,hj⟩:=O3 hy;have Y:j<t.1.length:=hj;have gp:(t.1.map PyData.int)[j]? = some (.int t.1[j]):=by rw[xZ,List.getElem?_eq_getElem Y];rfl
     have pj:=hm.pos t.1[j] (ag Y);obtain⟨q,hq⟩:∃q:Nat,t.1[j]=((q:Nat):Int):=⟨t.1[j].toNat,by lia⟩;have gd:(t.1.getD j 0).toNat=q:=by rw[(Ct),List.getElem?_eq_getElem Y];show t.1[j].toNat=q;lia
     have zj:(0+W1)=W1:=Int.zero_add _;have s1l:(Str.ofString "*" ++ Tx.sep (UL.getD j 0)).length=2:=by rw[BX,J5];rfl
     have rl:(Gb (Str.ofString "*" ++ Tx.sep (UL.getD j 0)) q).cps.toList=(List.replicate q [42,UL.getD j 0]).flatten:=by
      rw[fh,Tx.app_list,J5];rfl
     have rlen:(Gb (Str.ofString "*" ++ Tx.sep (UL.getD j 0)) q).length<=8:=by
      rw[BI,rl];have:∀m:Nat,(List.replicate m [42,UL.getD j 0]).flatten.length=2*m:=fun m=>by
       induction m with
       |zero=>rfl
       |succ m ih=>rw[(HP),(Hm),(EB),ih];show 2+_=_;lia
      rw[this];lia
     refine⟨_,_,rfl,AU (AI rfl (AI (AI rfl (AI (y:=.int W1) rfl (aH zd zj) (Se AC)) (D7 (by rw[J5];show 1+1<=1000;decide))) (AI (y:=.int W1) rfl (aH zd zj) (LQ gp)) (by rw[hq];exact mS (by rw[s1l];lia) AC)) (D7 AC)),_,_,?_,?_,rfl⟩
     .rw[Tx.app_list,h1,rl,dU,gd,(Ms)]
     .rw[BX];lia
    have rgl:(D3 0 t.1.length).length=t.1.length:=by simp[D3]
    rw[rgl]at h1 h2;exact⟨_,e2,g,M,h1,by lia,rfl⟩
   have ew:g=BM t:=Tx.BL (by
    rw[hacc,gP AC];unfold BM;rw[JI])
   subst ew;refine⟨[.d IF,.d zP,.own (.lst (nw++[.str (BM t)])),.d wL,.d yw,.d (.str (BM t)),M],rfl,?_,.d wL,.d yw,.d (.str (BM t)),M,?_⟩
   .refine AH (AU (AX WP (mC (nu hm)))) (AH e2 ?_);show(if(((ts.take i).map BM).map PyData.str).length<CQ then _ else none)=_;exact if_pos (by rw[wk,wk,(Mb)];show _<1000;lia)
   .rw[List.take_add_one,ht,(Ja),(Ja)];rfl
  obtain⟨a3,T,R,I,rfl⟩:=iv;refine⟨_,e,a3,T,R,I,?_⟩;rw[wk,List.take_length]
 refine AH e ?_;have fin:∀(Z:N1) (b3 b4 b5 M:L),Str.join wK Z=Str.join T0 (Ds ts)->Z.length<=900->(∀w∈Z,w.length<=900)->(Mi 2 (A9 (AF Av (AF Av (AF A8 PP GG) (fC zBR)) (AF Eo (fC xm) LT)))) [.d IF,.d zP,.own (.lst (Z.map .str)),b3,b4,b5,M]=some (.rt (.str (Dm k ts))):=fun Z b3 b4 b5 M ej hw hl=>by
  have l3:(Str.ofString " = ").length=3:=by rw[OB];rfl
  refine(B4 (AI (AI (AI rfl rfl (Se hk)) rfl (D7 (by rw[l3];show 1+3<=1000;decide))) (AI rfl (y:=.list (Z.map .str)) rfl (by rw[Rz];exact IX AS (fun y hy=>by have:=hl y hy;lia) AC)) (D7 (by rw[BX,l3,ej];show 1+3+_<=1000;lia)))).trans ?_;rw[ej,<-Nu];refine aH (fun z=>some (Ou.rt (PyData.str z))) (Tx.BL ?_);rw[Tx.app_list,Tx.app_list,Tx.app_list,Tx.app_list,Tx.app_list];rfl
 have wa:∀w∈ts.map BM,Bg w=true:=fun w hw=>by
  obtain⟨t,_,rfl⟩:=aN.mp hw;exact DY.mpr fun c hc=>by rcases JF hc with z|z|z|z|z<;>lia
 have cb:Zd (AR J9 LT (Ce AG)) [.d IF,.d zP,.own (.lst ((ts.map BM).map .str)),a3,T,R,I]=some (decide (ts.map BM=[])):=by
  obtain⟨l,hδ,h2⟩:∃l,IA [.d (.int ((k:Nat):Int)),.d (Az ts),.own (.lst ((ts.map BM).map .str)),a3,T,R,I]=l/\nm 2 l=some (.list ((ts.map BM).map .str)):=⟨_,rfl,rfl⟩;show AR _ _ _ (IA _)=_;rw[hδ];exact Af (x:=.list ((ts.map BM).map .str)) (y:=.list (([]:List Str).map .str)) h2 rfl (jh wa fun z hz=>by cases hz)
 by_cases hz:ts=[]
 .subst hz;refine AH (δ':=[.d IF,.d (Az []),.own (.lst ([Tx.sep 48].map .str)),a3,T,R,I]) (BO cb ?_) (fin [Tx.sep 48] _ _ _ _ rfl AS fun w hw=>by rw[List.mem_singleton.mp hw];decide);show some (Ou.nx [.d IF,.d (Az []),.own (.lst [.str (Str.ofString "0")]),a3,T,R,I])=_;rw[OI];rfl
 .have ne:ts.map BM≠[]:=by simpa using hz
  rw[decide_eq_false ne]at cb;refine AH (BC cb rfl) (fin xK _ _ _ _ ?_ (by rw[wk];lia) fun w hw=>?_)
  .rw[show Ds ts=Tx.inter xq xK from if_neg hz,Tx.He ne]
  .obtain⟨t,ht,rfl⟩:=aN.mp hw;have:=O7 (h.tm t ht);lia
noncomputable abbrev pV:MD:=Px
def lT{ps:am}(h:∀ts∈ps,ts.length<=900):pV [Cv ps,Cv ps]=some XV:=by
 refine CF rfl ?_;show Pq [.d zv,.d zv,.no]=_;refine AH (BC (BP (EW (b:=true) (Ea rfl)) (Af rfl rfl (Vi (QQ ps) AS))) rfl) ?_;obtain⟨I,U,a,rfl⟩:=Mu (fs:=Di GG) (set:=GX 2) (F:=CI zBV (A9 zM) BH) (δ:=[.d zv,.d zv,.no]) (xs:=ps.map Az) (fun _ δ=>∃a,δ=[.d zv,.d zv,a]) rfl ⟨_,rfl⟩ fun i y δ l M=>by
  obtain⟨a,rfl⟩:=M;rw[xZ]at l;obtain⟨ts,R,rfl⟩:=aC.mp l;have T:=h ts (ar R);refine⟨_,_,rfl,BC (BP (EW (b:=true) (Ea rfl)) (Af (x:=.list []) (y:=.list []) ?_ rfl (Vi (n:=1) (Jo (n:=0) fun d hd=>by cases hd) AS))) rfl,.d zP,rfl⟩;refine(O5 (zs:=ts) (a:=Dp) (g:=Dp) (q:=fun _=>false) rfl (aK T AS) (fun z _=>EW (b:=true) (Ea rfl)) fun z _=>rfl).trans ?_;rw[List.filter_eq_nil_iff.mpr fun a _=>by simp];rfl
 exact AH U rfl
def LI(c:Nat):AD->Option Bool:=fun(C:Nat)=>if C=157 then some (decide (157=c)) else none
def jd:AD->Option Bool:=fun(C:Nat)=>if C=157 then some true else none
def Gv{K:Fg}{c:Nat}{g:V}(l:C0 K 157)(k1:PySem.W.kitOne K (.ref 157) (DD g)=some (decide (157=c)):=by kernel_rfl):∀C z,LI c C=some z->C0 K C/\PySem.W.kitOne K OL (DD g)=some z:=fun C z h=>by
 unfold LI at h;split at h
 .rename_i e;cases e;cases h;exact⟨l,k1⟩
 .cases h
def jJ{K:Fg}{g:V}(l:C0 K 157)(k1:PySem.W.kitOne K (.ref 157) (DD g)=some true:=by kernel_rfl):∀C z,jd C=some z->C0 K C/\PySem.W.kitOne K OL (DD g)=some z:=fun C z h=>by
 unfold jd at h;split at h
 .rename_i e;cases e;cases h;exact⟨l,k1⟩
 .cases h
noncomputable abbrev qk:MD:=OO jd (LI 37) (LI 61) (LI 169) (LI 97) (LI 133) (LI 73) (LI 85) (LI 157) (LI 49) (LI 109) (LI 121) (LI 145) jd
def g9:qk [OW 157]=some XV:=by kernel_rfl
noncomputable abbrev qQ:List PD->Option Xr:=only [157] (Ff KY Qb V3 157)
def kI{x:Str}(h:S4 x):Ys 157 qQ oz qk pV x:=by
 have l:=T6 h;rcases tells h 157 with ⟨ps,e,M⟩|⟨e,M⟩
 .rw[e]at l;obtain⟨ex,R⟩:=fK e;have g:=X0 R;rw[<-ex]at g;have sz:=UM h.len (by rw[ex,K8 R];simp[B8];exact R.four) g;exact .inr ⟨_,kY M,l,lT fun ts I=>(sz ts I).CH⟩
 .rw[e]at l;exact .inl ⟨mQ M EQ,l,g9⟩
open Classical in
noncomputable def X9:MD
 |[.str x]=>if S4 x then some XV else none
 |_=>none
def jc{x:Str}(h:S4 x):X9 [.str x]=some XV:=if_pos h
section
variable{P:F0b}{w:F0c}{K:Fg}{mg:vf}{base:Heap}{CX:Gh}{k:Nat}{f:AD}{fd:F0a}{ps:vo}
def ur(F:CT P w K mg base A4 k f fd ps (dW 157 qQ oz qk pV)):CT P w K mg base A4 k f fd ps (BV X9) :=
 F.imp fun vs H Q E z=>by
  obtain⟨ds,r,G,g,T,R,M⟩:=z;unfold X9 at g;split at g
  .rename_i x;split at g
   .rename_i I;cases g;obtain⟨v,rfl,l⟩:=T.JM;rw[Du]at l;subst l;exact⟨x,rfl,kI I,fun H' e=>M (.bl true) G H' (.refl _) Nw.refl (R.trans e) e GM⟩
   .cases g
  .cases g
def cL{m:rW}(cs:vz)(F:CT P w K mg base CX k f fd ps (Kb m)):CT P w K mg base CX k f fd ps (Kb (only cs m)) :=
 F.imp fun vs H Q E z=>by
  obtain⟨ds,r,G,g,l⟩:=z;refine⟨ds,r,G,?_,l⟩;unfold only at g;split at g
  .rename_i C e;split at g
   .cases g;exact e
   .cases g
  .exact g
end
noncomputable abbrev oi:List PD->Option Xr:=Bs Qb 61
noncomputable abbrev b8:List PD->Option Xr:=CV KY oi 145
def tU{c:PD}(g:c.canLay0=true)(h:HF c=true):oi [c]=some (.inl .none):=by
 refine kj (δ:=[.d c]) rfl ?_;unfold JL;exact YK (EW (b:=true) (Ea (AX (xs:=[c]) rfl (YV g h)))) rfl
def iO{ps:zC}(h:V2 ps):good b8 [Cv ps]=some (.str (KP ps)):=by
 have l:=eV h;have g:=h.CH;have e:b8 [Cv ps]=some (.inl (.str (KP ps))):=by
  refine Xs rfl ?_;show Lv KY oi 145 [.d zv]=_;refine J0 (ik (ds:=[Cv ps]) rfl (tU (QQ ps).1 (Tp l))) ?_;have lm:(ps.map Az).length=ps.length:=List.length_map _;have c:AR IO (AK Be zAz) (AK Be (AB (fC Jg) AG)) [.d zv]=some false:=Af (x:=.int ((ps.map Az).length:Nat)) (y:=.int 4) rfl rfl (by rw[lm];exact aH (fun b=>some (PyData.bool b)) (aV (show ¬(4:Int)<((ps.length:Nat):Int) by lia)));exact J0 (YK c rfl) (Qz (B4 (AX WP (Io g fun ts I=>(o8 g (h.Li ts I)).1))))
 unfold good;rw[e]
def cN{ps:zC}(h:V2 ps):∀y∈B8 ps,okN 20 y:=fun y l=>by
 refine⟨DY.mpr fun c T=>DY.mp (QD ps h.CH) c ((Mh ef l).subset T),?_⟩;obtain⟨k,M,rfl⟩:=aN.mp l;have R:=h.Li _ (getD_mem (bD.mp M));unfold Dm;rw[JI];refine(Oq (.inr rfl) _ _).mpr ?_;have f:∀ {z:Str},z.length<=20->wr 0 z.cps.toList<=20:=fun {z} g=>by have:=(Oa z.cps.toList 0).1;rw[BI]at g;lia
 refine⟨f (show 1<=20 by decide),fun z g=>f ?_⟩;rcases aI.mp g with rfl|g
 .show 1<=20;decide
 unfold Ds at g;split at g
 .rw[List.mem_singleton.mp g];show 1<=20;decide
 .rcases LM g with rfl|g
  .show 1<=20;decide
  .obtain⟨t,I,rfl⟩:=aN.mp g;exact aK (O7 (R.tm t I)) AS
def rE{ps:zC}(h:V2 ps):Ls (B8 ps):=by
 have T:=h.CH;have M:(B8 ps).length=ps.length:=by simp[B8]
 have I:∀y∈B8 ps,y.length<=62:=fun y g=>by
  obtain⟨k,R,rfl⟩:=aN.mp g;have:=(o8 T (h.Li _ (getD_mem (bD.mp R)))).2;rw[Su];lia
 refine⟨fun y g=>(cN h y g).more AS,?_,fun y g=>by have:=I y g;lia,by rw[M];exact h.pos,by lia⟩;have:=jO (f:=fun y:Str=>y.length+1) (c:=63) (l:=B8 ps) fun y g=>by have:=I y g;lia
 unfold BF
 lia
def nM(ns:vj):Yw Cj Ba Au (CA NV) qZ A5 X9 YY b8 [E7 ns]=some XV:=by
 obtain⟨r0,h0⟩:=mh ns 0;obtain⟨ps,I,_,e0⟩:=cy r0 (most:=4) AS AS;have h4:=I.CH;have hw:=eV I;have hL:=rE I;have ht:=hL.BF;obtain⟨x,ex⟩:∃x,KP ps=x:=⟨_,rfl⟩;have Z:Bg x=true:=by rw[<-ex];exact QD ps h4
 have xt:x.length+1=BF (B8 ps):=by rw[<-ex];exact HM (So I.pos)
 have l1:2<=BF (B8 ps):=by
  obtain⟨a,r,e⟩:∃a r,B8 ps=a::r:=by
   cases e:B8 ps with
   |nil=>exact absurd e (So I.pos)
   |cons a b=>exact⟨a,b,rfl⟩
  have hm:a∈B8 ps:=by rw[e];exact .head _
  obtain⟨k,_,rfl⟩:=aN.mp hm;have e2:BF (B8 ps)=(Dm k (ps.getD k [])).length+1+BF r:=by rw[e];simp[BF]
  rw[e2,Su];lia
 have xk:okN 20 x:=by rw[<-ex];exact P5 bv (cN I)
 have hx:S4 x:=⟨Z,by lia,Nat.le_trans xk.2 AS⟩;have Y:Eo ph (.list ((B8 ps).map .str))=some L6:=by rw[<-ex];exact X8 AC
 have told:good b8 [Cv ps]=some L6:=by rw[iO I,ex]
 obtain⟨c2,R⟩:=Xb ns 1;obtain⟨n,hn⟩:=Kk c2 7;obtain⟨m,hm⟩:=Kk c2 8;refine CF rfl ?_;unfold jC;refine AH (AU (AX (xs:=[.int r0,.int 4,.int 4]) (AQ (AX (xs:=[E7 ns,.int 0]) rfl h0) rfl) e0)) ?_;have lm:(ps.map Az).length=ps.length:=List.length_map _;have rg:Cn ES (AB zBy AG) [.d (E7 ns),.d zv,.no,.no,.no,.no,.no,.no]=some ((List.range ps.length).map fun k=>PyData.int zw):=by
  have:=Kh (δ:=[.d (E7 ns),.d zv,.no,.no,.no,.no,.no,.no]) (f:=AK Be zAm) (j:=((ps.map Az).length:Nat)) (AX WP rfl) AC (by rw[lm];lia);rw[this,(FP),lm];rfl
 refine AH (AU (y:=.list ((B8 ps).map .str)) ?_) ?_
 .refine(HR (zs:=List.range ps.length) (a:=fun k=>PyData.int zw) (g:=fun k=>.str (Dm k (ps.getD k []))) rg (by rw[List.length_range];show _<=1000;lia) fun k T=>?_).trans (by unfold B8;rw[(Cu)];rfl);have T:=bD.mp T;rw[Int.zero_add];have gk:(ps.map Az)[k]? = some (Az (ps.getD k [])):=by rw[xZ,(Ct),List.getElem?_eq_getElem T];rfl
  exact AX (AQ rfl (AQ (AI rfl rfl (LQ gk)) rfl)) (Wz h4 AC (I.Li _ (getD_mem T)))
 refine AH (AU (y:=Cv ps) (HR (zs:=ps) (a:=Az) (g:=Az) rfl (by show _<=1000;lia) fun ts _=>rfl)) ?_;refine AH (AU (AX WP told)) ?_;refine AH (BC (BP (EW (b:=true) (Ea rfl)) (BP (Af rfl (AI rfl rfl Y) ((ne_str Z Z).trans A1)) (BP (Af rfl rfl (Vi (QQ ps) AS)) (EW (b:=true) (Ea (AX WP (jc hx))))))) rfl) ?_;refine AH (AU (AX (AQ (AX (xs:=[E7 ns,.int 1]) rfl R) rfl) hn)) ?_;refine AH (AU (AX (AQ (AX (xs:=[E7 ns,.int 1]) rfl R) rfl) hm)) ?_;have l:∀δ:Dv,nm 5 δ=some gv->AF A7 WF MF δ=some (.int (n.fmod 16)):=fun δ e=>Eu e rfl AS;have M:∀δ:Dv,nm 5 δ=some gv->AR LE Go (AF A7 WF MF) δ=some (decide (0<n.fmod 16)):=fun δ e=>Af rfl (l δ e) rfl;have last:∀ {δ:Dv} {y:Str},nm 7 δ=some (.str y)->S4 y->A9 (AK X9 (AB (nm 7) AG)) δ=some (.rt XV):=fun e hy=>B4 (AX (AQ e rfl) (jc hy));by_cases U:6<n.fmod 16
 .obtain⟨zs,e,za,zt⟩:=fe hL n m U;exact AH (BO ((Wg (l _ rfl)).trans (aH some (aX U))) (AU (AX (AQ rfl (AQ rfl WP)) e))) (AH (AU (AI rfl rfl (X8 zt))) (AH (BC (lu (M _ rfl) ((jP (l _ rfl)).trans (aH some (aV AC)))) rfl) (last rfl (have j:=P5 bv za;⟨j.1,Nat.le_trans join_le zt,Nat.le_trans j.2 AS⟩))))
 .by_cases c0:0<n.fmod 16
  .obtain⟨y,e,ya,yl⟩:=j8 xk AC AC n m c0 AC;exact AH (BC ((Wg (l _ rfl)).trans (aH some (aV U))) rfl) (AH (AU (AI rfl rfl Y)) (AH (BO (N4 ((M _ rfl).trans (aH some (aX c0))) ((jP (l _ rfl)).trans (aH some (aX AC)))) (AU (AX (AQ rfl (AQ rfl WP)) e))) (last rfl ⟨ya.1,yl,ya.2⟩)))
  .exact AH (BC ((Wg (l _ rfl)).trans (aH some (aV U))) rfl) (AH (AU (AI rfl rfl Y)) (AH (BC (Rk ((M _ rfl).trans (aH some (aV c0)))) rfl) (last rfl hx)))
def Y3(K:Fg):Sp:=fun vs H Q _=>∃(a:AD) (ns:mo),vs=[.ref a]/\BR K H a wC/\ns.length<=63/\∀H',Q (.bl true) H'
def oO{P:F0b}{w:F0c}{K:Fg}{mg:vf}{base:Heap}{f:AD}{fd:F0a}{k:Nat}(I:UQ K=true)(F:CT P w K mg base A4 k f fd yN (BV (Yw Cj Ba Au (CA NV) qZ A5 X9 YY b8))):CT P w K mg base A4 k f fd yN (Y3 K) :=
 F.imp fun vs H Q E z=>by
  obtain⟨a,ns,rfl,l,hn,q⟩:=z;refine⟨[E7 ns],.bool true,H,nM ns,.cons (ng (rF I l)) .nil,.refl _,fun v M H' _ _ _ _ g=>?_⟩;rw[Du]at g;subst g;exact q H'
section
open PySem.W
def fnX{w:F0c}{mg:vf}{h:Heap}(X:(kH w.params).In h)(G:h.Ns mainGlobals mg)(n:xC)(i:Nat)(m:String×Nat)(c:Nat)(ps:vo)
 (ha:nsIn PX mainGlobals tt=some (some (.ref (c+1))):=by kernel_rfl)(g:(kH w.params).lookup (c+1)=some (fO n i m.1 m.2 c):=by kernel_rfl)(I:codeIn PX (.ref c) tt=true:=by kernel_rfl)(l:keepIn PX (.ref (c+1))=true:=by kernel_rfl)
 (M:∀(kV doc pm:VL) (an:Option AD) (cdv ct:VL) (us:vd),us.length=ps.length->bindArgs (fnOf tt tt (GI (top i)) (Cg (top i)) (AO (top i)) .none kV doc pm an cdv ct) ⟨us,[]⟩=pure (ps.zip us):=by first|(exact fun _ _ _ _ _ _ us g=>match us,g with|[_],_=>rfl)|(exact fun _ _ _ _ _ _ us g=>match us,g with|[_,_],_=>rfl)|(exact fun _ _ _ _ _ _ us g=>match us,g with|[_,_,_],_=>rfl)|(exact fun _ _ _ _ _ _ us g=>match us,g with|[_,_,_,_],_=>rfl)|(exact fun _ _ _ _ _ _ us g=>match us,g with|[_,_,_,_,_],_=>rfl)|(exact fun _ _ _ _ _ _ us g=>match us,g with|[],_=>rfl)) :
  Fn PX mg tt (top i) ps (c+1) (fnOf tt tt (GI (top i)) (Cg (top i)) (AO (top i)) .none .none .none (.str (Str.ofString m.1) m.2) none (.ref c) .none) :=
 ⟨fI g I l,(fI (st:=top i) g I l).binds M,mg_of X G ha⟩
def MA{w:F0c}{mg:vf}{h:Heap}(X:(kH w.params).In h)(G:h.Ns mainGlobals mg)(n:xC)(v:VL)(e:nsIn PX mainGlobals tt=some tz:=by kernel_rfl):mg tt=some v:=mg_of X G e
def Jk{w:F0c}{mg:vf}{h:Heap}(X:(kH w.params).In h)(G:h.Ns mainGlobals mg)(n:xC)(e:nsIn PX mainGlobals tt=some none:=by kernel_rfl):mg tt=none:=mg_none_of X G e
set_option maxHeartbeats 4000000 in
def uN(w:F0c)(mg:vf)(fa:AD)(h:Heap)(X:(kH w.params).In h)(G:h.Ns mainGlobals mg)(hfa:mg "law" = some (.ref fa)):∃fd:F0a,(∀(s:SD) (v:VL),BindsTo s fd ⟨[v],[]⟩ [("_law_script",v)])/\∀base:Heap,(kH w.params).In base->base.Ns mainGlobals mg->CT Cc.prog w PX mg base A4 16 fa fd yN (Y3 PX):=by
 have e:=hfa.symm.trans (mg_of X G (v:=.ref 414) xX);cases e;have D0:=fnX X G "is_fraction" 15 Xv 177 RQ;have Eh:=fnX X G "is_whole" 16 Xv 184 RQ;have Ek:=fnX X G "greatest_divisor" 17 Xv 191 ["one","other"];have LA:=fnX X G "is_poly" 19 XQ 198 M2;have K4:=fnX X G "is_term" 20 XQ 205 M2;have Hy:=fnX X G "are_powers" 21 XQ 212 M2;have Ep:=fnX X G "is_change" 23 jz 219 RQ;have Ej:=fnX X G "refuse_no_change" 24 jz 226 RQ;have GR:=fnX X G "shown_change" 28 HZ 234 l0;have Fh:=fnX X G "read_change" 29 HZ 239 ["text"];have C5:=fnX X G "fraction_text" 30 HZ 246 ["part"];have D6:=fnX X G "change_text" 31 HZ 251 l0;have Iw:=fnX X G "poly_text" 32 HZ 256 ["some"];have Ip:=fnX X G "term_text" 33 HZ 263 yU;have G7:=fnX X G "fraction_in" 34 HZ 270 P3;have ID:=fnX X G "whole_in" 35 HZ 277 P3;have LK:=fnX X G "poly_in" 36 HZ 282 zB;have K7:=fnX X G "term_in" 37 HZ 287 zA;have Cq:=fnX X G "_law_cell_at" 39 Dd 294 JQ;have Ci:=fnX X G "_law_mixed" 40 Dd 301 jw;have Iq:=fnX X G "_law_rest" 41 Dd 308 JQ;have EH:=fnX X G "_law_ratio" 42 Dd 315 iS;have Gw:=fnX X G "_law_change" 45 Dd 334 Pw;have Im:=fnX X G "_law_part" 46 Dd 341 yd;have FW:=fnX X G "_law_number" 47 Dd 348 No;have Fy:=fnX X G "_law_fraction" 48 Dd 355 No;have Iz:=fnX X G "_law_bent" 49 Dd 362 Os;have E2:=fnX X G "_law_bent_lines" 50 Dd 369 On;have Hr:=fnX X G "_law_alone" 51 Dd 374 zAQ;have Iu:=fnX X G "_law_line" 52 Dd 381 wf;have Ir:=fnX X G "_law_term" 53 Dd 386 vh;have Hg:=fnX X G "_law_speed" 54 Dd 391 SZ;have Gq:=fnX X G "_law_reader" 55 Dd 396 No;have Gg:=fnX X G "_law_good" 56 Dd 401 vq;have Gm:=fnX X G "_law_read" 57 Dd 408 No;have so:=fnX X G "law" 58 Dd 413 yN;have R:=Jk X G "len";have CS:=Jk X G "range";have Ho:=Jk X G "abs";have AW:=Jk X G "isinstance";have Ez:=Jk X G "int";have VG:=Jk X G "bool";have CC:=Jk X G "tuple";have EA:=Jk X G "list";have Ld:=Jk X G "enumerate";have Ii:=Jk X G "sorted";have vW:=Jk X G "sum";have Ot:=Jk X G "zip";have FA:=Jk X G "ValueError";have vX:=Jk X G "all";have Mr:=Jk X G "str";have ZA:=Jk X G "min";have a_MF:nsIn PX mainGlobals "MOST_FIGURES" = some (some (.int 40 474)):=by kernel_rfl
 have a_UN:nsIn PX mainGlobals "UNKNOWNS" = some (some (.ref 228)):=by kernel_rfl
 have Ki:=MA X G "GroveError" (.ref 24);have MY:=MA X G "NoBottom" (.ref 37);have QS:=MA X G "NoTree" (.ref 49);have Jv:=MA X G "NoChange" (.ref 61);have OV:=MA X G "NoStart" (.ref 73);have Og:=MA X G "NoTable" (.ref 85);have Qf:=MA X G "NoName" (.ref 97);have Ko:=MA X G "NoWeighing" (.ref 109);have Mm:=MA X G "NotAlike" (.ref 121);have OJ:=MA X G "NoParts" (.ref 133);have LG:=MA X G "TooMany" (.ref 145);have HK:=MA X G "NoText" (.ref 157);have QE:=MA X G "NoLine" (.ref 169);have T:Exc PX mg "NoChange" 61:=⟨Jv,by kernel_rfl⟩;have be_NoChange:Fo PX 61 24 true:=by constructor<;>kernel_rfl
 have Z:C0 PX 61:=by constructor<;>kernel_rfl
 have U:Exc PX mg "TooMany" 145:=⟨LG,by kernel_rfl⟩;have be_TooMany:Fo PX 145 24 true:=by constructor<;>kernel_rfl
 have xk_TooMany:C0 PX 145:=by constructor<;>kernel_rfl
 have Y:Exc PX mg "NoText" 157:=⟨HK,by kernel_rfl⟩;have be_NoText:Fo PX 157 24 true:=by constructor<;>kernel_rfl
 have g:C0 PX 157:=by constructor<;>kernel_rfl
 have I:Fo PX 157 157 true:=by constructor<;>kernel_rfl
 have hK:UQ PX=true:=by kernel_rfl
 refine⟨fnOf (Str.ofString "law") (Str.ofString "law") (GI (top 58)) (Cg (top 58)) (AO (top 58)) .none .none .none (.str (Str.ofString "law_stepgrove_k80_changes_as_texts") 558) none (.ref 413) .none,fun s v=>.of_eq rfl,fun base _ _=>?_⟩;have IQ:=PySem.W.mg_of X G a_MF;have CZ:=PySem.W.mg_of X G a_UN;have uM:=NL (P:=Cc.prog) (w:=w) (base:=base) Ek Ho;have o9:=W3 (P:=Cc.prog) (w:=w) (base:=base) Eh AW Ez VG;have fN:=Sb D0 Eh Ek o9 uM AW CC R;have sQ:=UE Hy Eh o9 AW CC R;have uY:=ZL K4 Hy D0 sQ fN AW CC R;have uX:=ZD LA K4 uY AW EA Ld;have vA:=U5 Ep LA uX AW EA R;have Fp:=uA (q:=HF) vA (fun l d v H Q E hd hq=>⟨l,d,v,rfl,hd,hq⟩);have Fe:=uA (q:=El) fN (fun l d v H Q E hd hq=>⟨l,d,v,rfl,hd,hq H (.refl _)⟩);have E3:=uZ (UB (P:=Cc.prog) (w:=w) (base:=base) EH Ho);have GB:=NP (P:=Cc.prog) (w:=w) (base:=base) (k:=6) Ej Ep (Fp.mono) T;have Dr:=QA (P:=Cc.prog) (w:=w) (base:=base) (k:=0) C5;have LV:=Uk (P:=Cc.prog) (w:=w) (base:=base) (k:=1) Ip C5 (Dr.mono) Ot CZ;have Lh:=Ub (P:=Cc.prog) (w:=w) (base:=base) (k:=2) Iw Ip (LV.mono) R;have EY:=SX (P:=Cc.prog) (w:=w) (base:=base) (k:=3) D6 Iw (Lh.mono) Ot CZ;have IL:=RU (P:=Cc.prog) (w:=w) (base:=base) (k:=7) GR D6 (EY.mono) Ej (GB.mono) R CZ U;have Jq:=Wn (P:=Cc.prog) (w:=w) (base:=base) (k:=4) ID R Ez FA;have Jh:=SN (P:=Cc.prog) (w:=w) (base:=base) (k:=6) G7 C5 (Dr.mono) D0 (Fe.mono) ID (Jq.mono) R;have Nx:=YZ (P:=Cc.prog) (w:=w) (base:=base) (k:=7) K7 G7 (Jh.mono) CC IQ;have OY:=ZU (P:=Cc.prog) (w:=w) (base:=base) (k:=8) LK K7 (Nx.mono);have Gs:=Rr (P:=Cc.prog) (w:=w) (base:=base) (k:=9) Fh D6 (EY.mono) Ep (Fp.mono) LK (OY.mono) R CZ Y;have DQ:=Qr (P:=Cc.prog) (w:=w) (base:=base) (k:=0) Cq R;have C7:=UA (P:=Cc.prog) (w:=w) (base:=base) (k:=0) Ci;have LP:=U2 (P:=Cc.prog) (w:=w) (base:=base) (k:=1) Iq Cq (DQ.mono) Ci (C7.mono) Ho;have JT:=Sh (P:=Cc.prog) (w:=w) (base:=base) (k:=1) Gw EH (E3.mono) CS Ii CC;have Lf:=Um (P:=Cc.prog) (w:=w) (base:=base) (k:=0) Im Ez Mr;have Gz:=Sm (P:=Cc.prog) (w:=w) (base:=base) (k:=0) FW R;have Hb:=P7 (P:=Cc.prog) (w:=w) (base:=base) (k:=4) Fy FW (Gz.mono) EH (E3.mono) Ez R;have La:=V9 (P:=Cc.prog) (w:=w) (base:=base) (k:=0) Iz R ZA;have GY:=Nd (P:=Cc.prog) (w:=w) (base:=base) (k:=0) E2 R EA;have Ln:=We (P:=Cc.prog) (w:=w) (base:=base) (k:=1) Iu Im (Lf.mono) R CS;have Ll:=Vd (P:=Cc.prog) (w:=w) (base:=base) (k:=5) Ir Fy (Hb.mono) R CS Ii CC;have Kt:=T8 (P:=Cc.prog) (w:=w) (base:=base) (k:=6) Hg Ir (Ll.mono) R CS;have JR:=Si (P:=Cc.prog) (w:=w) (base:=base) (k:=7) Gq Hg (Kt.mono) Ez R CS;have JD:=U0 (P:=Cc.prog) (w:=w) (base:=base) (k:=0) Gg AW EA CC;have KA:=T9 (P:=Cc.prog) (w:=w) (base:=base) (k:=0) Hr FA AW R Ki MY Jv QE Qf OJ OV Og HK QS Ko Mm LG (jJ g) (Gv (c:=37) g) (Gv (c:=61) g) (Gv (c:=169) g) (Gv (c:=97) g) (Gv (c:=133) g) (Gv (c:=73) g) (Gv (c:=85) g) (Gv (c:=157) g) (Gv (c:=49) g) (Gv (c:=109) g) (Gv (c:=121) g) (Gv (c:=145) g) (jJ g)
 have M:=cL [157] Gs;have hBt:∀(m:List PD->Option Xr) (ds:wV) (C':AD),only [157] m ds=some (.inr C')->Fo PX C' 157 true:=fun m ds C' h=>by rw[List.mem_singleton.mp (kG h)];exact I
 have vB:=Ui (P:=Cc.prog) (w:=w) (base:=base) (k:=12) Gm Fh Gq Hr Gg (M.mono) (JR.mono) (KA.mono) (JD.mono) HK (hBt _);have Iy:=ur vB;have tV:=q8 (P:=Cc.prog) (w:=w) (base:=base) (k:=14) so Iz (La.mono) E2 (GY.mono) Cq (DQ.mono) Gw (JT.mono) Iu (Ln.mono) Ci (C7.mono) Gm (Iy.mono) Iq (LP.mono) GR (IL.mono) AW R EA CS Mr;exact(oO hK tV).mono
section
open PyProof.Rows PySem.Calls
def openX(M:Cc.row.toRowW.promised)(R:L2.RM qX [] (XL qX []) hX.says Cc.row.toRowW dX []):Cc.Holds :=
 holds_law sq fun g=>L2.W6 (r:=Cc.row) (q:=qX) (loose:=[]) (Xt:=XE) (XP:=XL qX []) (Yf:=hX.obs) (Ya:=hX.val) (YP:=hX.says) (d:=dX) (kwd:=[]) (N:=8020) sd hX.of hX.keeps (fun s e=>xl_of s (Bool.and_eq_true_iff.mp e).1) XL.keeps ue uW vI (fun s e=>recFacts_of (Bool.and_eq_true_iff.mp e).2) rfl g uI sI M R
end
def walkX:L2.RM qX [] (XL qX []) hX.says Cc.row.toRowW dX [] :=
 L2.fD (l:=Cc) (n:=63) (k:=16) (x := "_law_script") (CX:=fun _=>A4) (K:=kH) (da:=228) (its:=pD) (sp:=fun w=>Y3 PX) rfl AS rfl ⟨rfl,by decide,by decide⟩ (fun w h Y=>kIn_of Y) xX AS (fun P=>by kernel_rfl) (fun w mg h X G=>⟨mg_of X G (v:=.ref 228) xX,mg_none_of X G xX⟩) uN (fun _ _ a ns I M=>⟨a,ns,rfl,M,I,fun _=>rfl⟩) fun _ _ _ _ _ z=>z
end
end Q80
open PySem PySem.W PyProof.Rows
set_option maxRecDepth 100000 in
theorem PySem.Challenge.cw_stepgrove_k80_changes_as_texts_holds : PySem.Challenge.rw_stepgrove_k80_changes_as_texts.Holds := by
  refine Q80.openX ?hw Q80.walkX
  w_witness2
#print axioms PySem.Challenge.cw_stepgrove_k80_changes_as_texts_holds
