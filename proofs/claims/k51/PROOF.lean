import PyProof.Rows.All
import Wide.All
import OpenK.AllK
import Wide.FinOn
import Lean
import PyProof.EqAt
import PyProof.EqKinds
import PyProof.TupleCall
import KE.KDictSum
import KE.KMinKey
import PyProof.Rows.CallKwBuiltin
import PyProof.SumWalkG
import PyProof.WalksMore
import PyProof.AutoSeq1
import PySem.Challenge.RW_evenpoints_k51_neighbours_and_gaps
set_option compiler.extract_closed false
set_option bootstrap.genMatcherCode false
set_option Elab.async false
set_option linter.all false
set_option maxRecDepth 100000
set_option maxHeartbeats 4000000
open And renaming intro->Bk, imp_right->Bt
open Array renaming length_toList->Cg, getElem?_eq_getElem->Cq, getD_eq_getD_getElem?->C2, getElem?_toList->Eg, getElem?_eq_none->Fp, toArray_toList->F7, mk->GL
open Bool renaming and_eq_true_iff->Bv, false_ne_true->BO, or_eq_true_iff->B1, false_eq_true->CK, eq_iff_iff->Ez, false_or->Gw
open Classical renaming choose_spec->BQ, choose->C_
open Exists renaming imp->BI
open False renaming elim->CI
open ForInStep renaming yield->DE
open Iff renaming rfl->ER
open Int renaming mul_le_mul_of_nonneg_right->BA, gcd->BU, fdiv_eq_ediv_of_nonneg->Ca, add_mul->Cj, fmod_nonneg_of_pos->Co, natAbs_natCast->Cu, lt_or_eq_of_le->Cv, le_of_lt->CH, dvd_of_emod_eq_zero->CS, mul_nonneg->CV, fmod_eq_emod_of_nonneg->C7, fmod_lt_of_pos->Dd, lt_or_le->Df, sub_mul->Dg, lt_of_mul_lt_mul_left->Dh, lt_trichotomy->Dm, eq_ofNat_of_zero_le->Dq, mul_comm->DF, natAbs_mul->DN, toNat_natCast->D8, mul_le_mul_of_nonneg_left->Eo, gcd_pos_of_ne_zero_right->Ep, mul_pos->EC, add_mul_emod_self_left->EJ, emod_lt_of_pos->EN, emod_eq_of_lt->EY, pos_of_mul_pos_right->EZ, mul_assoc->Fb, fmod_add_mul_fdiv->FE, natCast_mul->FI, emod_nonneg->FK, emod_add_mul_ediv->FP, natAbs_dvd_natAbs->FQ, mul_sub->Go, le_of_dvd->Gy, zero_add->GJ
open List renaming mem_cons_of_mem->Br, length_map->Bu, mem_cons_self->Bw, size_toArray->BB, getElem?_set_ne->BC, getElem?_eq_some_iff->BG, getElem?_set_self->BK, mem_cons->BL, map_cons->BM, mem_append_right->BP, range->BZ, getElem?_eq_getElem->B0, getElem?_set->B5, lookup_cons->B9, find?_cons->B_, getElem?_map->Cd, mem_map->Ch, map_map->Cm, drop_eq_getElem_cons->CB, length_cons->CL, mem_range->CT, map_append->C3, getD_eq_getElem?_getD->C6, not_mem_nil->Da, map_nil->Dc, all_eq_true->Ds, replicate->Du, mem_filter->Dz, append_nil->DB, nodup_cons->DC, any_cons->DI, getElem?_append_left->DM, pairwise_iff_getElem->DP, map_congr_left->DR, length_append->D0, sum_cons->D5, mem_singleton->D6, nodup_nil->Ec, toArray->Eh, ext_getElem->El, drop_length->Em, Nodup->Es, filterMap_cons->Et, mem_append->Eu, find?_some->EE, getElem?_append_right->EI, find?_eq_none->EM, mem_of_find?_eq_some->ES, pairwise_map->EW, getElem?_replicate->E4, getElem_mem->Fe, of_mem_zip->Fw, length_nil->Fz, forIn_cons->FB, range_succ->FR, mem_append_left->FW, mem_of_getElem?->FZ, filter->Gp
open List.Nodup renaming length_le_of_subset->Dp
open List.cons renaming injEq->BN
open Nat renaming lt_of_lt_of_le->Bq, le_refl->By, pow_le_pow_right->BD, ne_of_lt->BV, zero_le->B7, le_trans->CC, lt_irrefl->CP, le_of_succ_le->DL, ne_of_gt->Ee, lt_of_le_of_lt->EL, mul_lt_mul''->Fg, le_of_lt->Fu, mul_ne_zero->FH, lt_trans->GF, pow_add->GX
open Nat.succ renaming inj->GK
open Ne renaming symm->Ek
open Option renaming isSome_iff_exists->CJ, map_eq_some_iff->C5, map_eq_none_iff->Fq, map_map->Gc
open Option.some renaming inj->BW
open Or renaming inr->Di, inl->Do
open PyProof.Rows renaming seqObj->CG, get?_update_seq->C1, IntsAre->D1, callWith_type1->Ey, assignInOrder_cons->EK, listUpdate_at->E8, envOfC->Fd, subscriptTail_builtinR->Fh, args_list_sort->Gb, AllBare->Gg, seqEpoch_at->Gm, subscriptTail->Gv, plain_sorted->GG, entry_sorted->GH, args_sorted1->GI, kind_sorted->GY
open PySem renaming PyData->Bl, wpAny_bind->Bm, Value->Bo, Shared->Bp, wpAny_pure->Bs, Program->BE, starEach->BF, wpAny->BS, Around->BX, model->BY, World->B2, sizeLine_eq->B3, mainGlobals->B4, mem_of_lookup->Cb, wpAny_mono->Cc, Paired->Cf, wpAny_holding->Cr, cellsFrom->Cw, sysModules->Cz, wpAny_typeNameOfWhole_keyiter->CM, compareOp->CN, wpAny_truthy_bool->CY, wpAny_newObj_type->CZ, foldedSetIterable->C0, assignEach->C8, FuncData->Db, backTo->Dj, wpAny_passesOwn->Dk, wpAny_typeNameOf_keyiter->Dl, bootBuiltins->Dn, wpAny_call_entry->Dt, tupleKind_room_in1->Dx, tupleKind->Dy, wpAny_standAt->DH, wpAny_comprehension_free->DS, swappedStores->DT, swapsWith->DU, letOwnedTupleGo->DV, behindInMarks->DW, codeAny->DX, wpAny_Call_Name_kw->DY, NameKind->DZ, wpAny_newList->D3, wpAny_pyIter_list->D7, sliceBounds->D9, newFunctionEnv->Ea, DictEntry->Ed, wpAny_isOneOf_keyiter->Ei, wpAny_eqBool_int->Ej, wpAny_execs_nil->Ev, assign->Ew, wpAny_fieldsOf->ET, wpAny_dictEntries->EX, intKind->E1, swapsWithSole->E2, binaryOp->E3, plainId_quiet->E7, wpAny_callSpecial?_slot->Fa, wpAny_Assign_Subscript->Fi, importedModules->Ft, codeAny_mono->Fv, atKey->FA, wpAny_updateSeq->FJ, wpAny_dictEpoch->FO, wpAny_loadName_local->FX, cLine->FY, intBits_le_iff->F9, wpAny_tryCatch->Ga, wpAny_loadName_cell->Gh, subscripted->Gi, wpAny_letGo->Gk, assignInOrder->Gs, pyNext->Gu, entryOfKey->GA, valueAt->GB, storedH->GC, callerA->GD, seqIndex_neg->GE, Operator->GM, holding->GO, PassesOwn->GP, Result->GQ, BindsTo->GR, keywordEach->GS, getItem->GT, seqIndex_of->GU, pushCells->GW, Params->G0, rawInt->G1, relabel->G4, Model->G5, CmpOp->G6
open PySem.Around renaming under_plainId->F0
open PySem.Builtin.Builtins renaming bindParams->ED
open PySem.Builtin.Dict renaming showsAll->FN
open PySem.Builtin.Dict_items renaming ownsTuple->Er
open PySem.Calls renaming spliced_cons->Dw, call_function_entry->DO, Name_function_global->EH, spliced_nil->EV, callWith_builtin->Fm, evalArgs_plain->F8
open PySem.F renaming plain_max_loop->Cy, slot_dict_get->DG, slot_dict_getitem->EO, plainAttrs_dict->E9, args_dict_get_3->E_, entry_max_loop->Fj, entry_dict_get->Fo, type_dict_get->FM
open PySem.Heap renaming get?_push_of_some->Bn, lt_size->Bx, get?_push_size->BJ, get?_update_other->BR, SameBut->DA, get?_update_self->Ef, size_push->F_
open PySem.Heap.SameBut renaming update->Gn
open PySem.NameKind renaming free->B6, cell->CQ
open PySem.Obj renaming mapSeq->C9
open PySem.Paired renaming length->CO, snoc->GV
open PySem.PassesOwn renaming never->C4
open PySem.PyData renaming int->B8, eqv->CA, tuple->CF, canLayAll0->DK, leavesShort->D2, canLay0->Eb, showable->EA, depthAll->EB, bulkAll->EQ, bool->E5, leavesShortAll->FC, depth->FG, list->Gj
open PySem.PyData.int renaming injEq->DQ
open PySem.PyData.tuple renaming injEq->Ck
open PySem.SeqAt renaming shaped->CD
open PySem.Str renaming ofString->CU
open PySem.Value renaming ref->Ce, none->Ci, int->Dr, bool->EU, str->Gr, type->Gz, isInt->GN
open PySem.W renaming mg_none_of->BH, boot_heap->Cp, Frag->CW, nsIn->FS, fnOf->FT, OpenLaw->FU, boot_drawn->FV, codeIn->Gd, keepIn->Ge, boot_toks->Gq, kas_rev->GZ, OpenLaw->G3
open Rat renaming lt_irrefl->D4, div_def->D_, intCast_mul->EF, intCast_add->EG, normalize->E6
open Sum renaming inl->Cs, inr->Gf
open ToString renaming toString->Gx
open True renaming intro->DJ
open PySem PySem.Spec PyProof.Rows
variable{loose ps:List Str}{α:Type}{xs:List Bl}{us vs:List Bo}{a f r:Addr}{b N u m B:Int}{P:BE}{h:Heap}{o:Obj}{i j n:Nat}{x qual:Str}{A:BX}{E Q:Bo->Bp->Prop}{e tg iter:Expr}{s:Bp}{pos pos':Pos}{pins:List (Addr×Obj)}{fp:List Addr}{op:G6}{fd:Db}{mg:Str->Option Bo}{scope:Scope}{ns:List Int}{kvs:List (List Int×Bl)}{T:String}{XP:(Str->Option Bo)->Heap->Prop}{d:Bl}{rl:Option Addr}{cl:List (Str×Addr)}{R:GQ->Bp->Prop}{ifs:List Expr}{Rp:Addr->GQ->Bp->Prop}{q:Rat}{p:Array Nat}{zs qs:List (Int×Int)}
theorem æa(h:True:=by rfl):True:=trivial
theorem æb(h:True:=by decide):True:=trivial
theorem æc(h:True:=by intro _;rfl):True:=trivial
theorem æd(h:True:=by first|exact Do rfl|exact Di rfl):True:=trivial
theorem æe(h:True:=by first|exact .inl rfl|exact .inr rfl):True:=trivial
theorem æf(h:True:=by first|exact Do rfl|exact Di (Do rfl)|exact Di (Di rfl)):True:=trivial
theorem æg(h:True:=by first|exact .inl rfl|exact .inr rfl|assumption):True:=trivial
theorem æh(h:True:=by with_unfolding_all rfl):True:=trivial
theorem æi(h:True:=by exact fun _ _=>rfl):True:=trivial
theorem æj(h:True:=by exact⟨rfl,rfl,rfl,rfl⟩):True:=trivial
noncomputable section
namespace L2
open PySem
noncomputable def lT(s:Stmt)(j:Nat):Stmt:=match s with
 | .ClassDef _ _ _ body _ _ _ _ _ _ _=>body.getD j (.Pass ⟨0,0,0,0⟩)
 | _=>.Pass ⟨0,0,0,0⟩
noncomputable def defArgs(s:Stmt):Arguments:=match s with
 | .FunctionDef _ a _ _ _ _ _ _ _ _=>a
 | _=>{posonlyargs:=[],args:=[],vararg:=none,kwonlyargs:=[],kw_defaults:=[],kwarg:=none,defaults:=[]}
noncomputable def defBody(s:Stmt):List Stmt:=match s with
 | .FunctionDef _ _ b _ _ _ _ _ _ _=>b
 | _=>[]
noncomputable def defScope(s:Stmt):Scope:=match s with
 | .FunctionDef _ _ _ _ _ _ sc _ _ _=>sc
 | _=>{kind:=.function,names:=[],isGenerator:=false,isCoroutine:=false}
end L2
namespace L2.TT
open PySem PySem.W
noncomputable def Ao(tb:String->Option Builtin)(p:BE)(w:B2)(m:Nat)(ann:Option Bo):Nat->SharedT->Thread->Option SharedT
 | 0,_,_=>none
 | n+1,s,t=>match through t with
   | true=>some s
   | false=>match stepOk m ann t with
     | false=>none
     | true=>match stepT (denote tb) p w s t with
       | some r=>Ao tb p w m ann n r.1 r.2
       | none=>none
theorem o5{tb:String->Option Builtin}{p:BE}{w:B2}{m:Nat}{ann:Option Bo}:∀{n:Nat}{s s':SharedT}{t:Thread},Ao tb p w m ann n s t=some s'->topRun tb p w m ann n s.abs t=some s'.abs
 | 0,_,_,_,h=>by cases h
 | n+1,s,s',t,h=>by
   unfold Ao at h;unfold topRun
   cases he:through t with
   | true=>rw[he]at h;cases h;rfl
   | false =>
     rw[he]at h
     cases hk:stepOk m ann t with
     | false=>rw[hk]at h;cases h
     | true =>
       rw[hk]at h
       cases hs:stepT (denote tb) p w s t with
       | none=>rw[hs]at h;cases h
       | some r=>rw[hs]at h;rw[stepT_spec hs];exact o5 h
noncomputable def bt(os:List Obj):Nat->Nat->Nat->BT
 | 0,_,_=>.nil
 | f+1,a,b=>match os[b]? with
   | some o=>.node o (bt os f (2*a) (a+b)) (bt os f (2*a) (2*a+b))
   | none=>.nil
theorem boot_abs(P:G0):absHeap (bt (Cp P).objs.toList 12 1 0) (Cp P).objs.size (Cp P).life=Cp P:=by kernel_rfl
abbrev t_(p q:BE)(loose:List Str)(Xt:Bp->Bool){α:Type}(Yf:Bp->α)(h₀:Heap)(s:Bp) :=
 (staticsOk (Ft p.main.body) h₀ s.heap&&namesBound p s.heap&&gensDone s&&laidKept h₀ s.heap,openSeen q loose (Ft p.main.body) Xt true s,Yf s)
theorem left_of{p q:BE}{Xt:Bp->Bool}{Yf:Bp->α}{Ya:B2->α}{N m M:Nat}{ann:Option Bo}
 (e:opening p=plainProg p.main.scope.names)(hN:Nat.ble 600 N=true)(f:∀s,fenceModules? p s=some s)(le:Nat.ble M N=true)
 (size:∀w:B2,((Cp w.params).isNs B4,(Cp w.params).objs.size,(Cp w.params).nsMap B4 "__annotations__")=(true,m,ann))
 (run:∀(w:B2)(os:OsState),(Ao treeTable p w m ann M ⟨bt (Cp w.params).objs.toList 12 1 0,(Cp w.params).objs.size,(Cp w.params).life,GL [],FV,Gq,os⟩ (topStub p)).map (fun s=>t_ p q loose Xt Yf (Cp w.params) s.abs)=some (true,openGood q loose,Ya w)) :
 LeftO p q loose Xt Yf Ya N:=fun w=>by
 obtain⟨⟨h,gs,d,k,os⟩,eo,e'⟩:=C5.mp (boot_open e hN f w);obtain⟨rfl,rfl,rfl,rfl⟩:h=Cp w.params/\gs=GL []/\d=FV/\k=Gq:=by simpa using e'
 obtain⟨z1,z2,z3⟩:_/\_/\_:=by simpa only[Prod.mk.injEq]using size w
 obtain⟨s',r,l⟩:=C5.mp (run w os);obtain⟨l1,l2,l3⟩:_/\_/\_:=by simpa only[t_,Prod.mk.injEq]using l
 have r:=o5 r
 have hb:SharedT.abs ⟨bt (Cp w.params).objs.toList 12 1 0,(Cp w.params).objs.size,(Cp w.params).life,GL [],FV,Gq,os⟩=⟨Cp w.params,GL [],FV,Gq,os⟩:=by
  show Bp.mk (absHeap _ _ _) _ _ _ _=_;rw[boot_abs]
 rw[hb]at r;have r:=topRun_mono (N-M) _ _ _ _ r;rw[show M+(N-M)=N by have:=Nat.le_of_ble_eq_true le;omega]at r
 have t:topFrom treeTable p w N ⟨Cp w.params,GL [],FV,Gq,os⟩=some s'.abs:=by
  unfold topFrom;dsimp only;rw[z1,z2,z3,r];show(match staticsOk (Ft p.main.body) (Cp w.params) s'.abs.heap&&namesBound p s'.abs.heap&&gensDone s'.abs&&laidKept (Cp w.params) s'.abs.heap with|true=>_|false=>_)=_;rw[l1]
 unfold openEnds;rw[eo];show(topFrom treeTable p w N _).map _=_;rw[t];exact congrArg some (Prod.ext l2 l3)
end L2.TT
namespace K51
open PySem
def zp(i:Nat):Stmt:=PySem.Challenge.pw_evenpoints_k51_neighbours_and_gaps.main.body.getD i (.Pass ⟨0,0,0,0⟩)
end K51
noncomputable def PySem.W.Fast.tw3853841580522338096:PySem.Program:=PySem.Challenge.pw_evenpoints_k51_neighbours_and_gaps
theorem PySem.W.Fast.te3853841580522338096:PySem.Challenge.pw_evenpoints_k51_neighbours_and_gaps=PySem.W.Fast.tw3853841580522338096:=rfl
namespace K51
open PySem PySem.W L2
def yV:Stmt:=zp 0
def yU:Stmt:=zp 1
def yT:Stmt:=zp 2
def yS:Stmt:=zp 3
def yR:Stmt:=zp 4
def yQ:Stmt:=zp 5
def yP:Stmt:=zp 6
def yO:Stmt:=zp 7
def yN:Stmt:=zp 8
def yM:Stmt:=zp 9
def xC:Stmt:=zp 10
def xB:Stmt:=zp 11
def xA:Stmt:=zp 12
def xz:Stmt:=zp 13
def xx:Stmt:=zp 14
def xw:Stmt:=zp 15
def xv:Stmt:=zp 16
def yj:Stmt:=zp 17
def xu:Stmt:=zp 18
def yi:Stmt:=zp 19
def xt:Stmt:=zp 20
def xq:Stmt:=zp 21
def xp:Stmt:=zp 22
def xo:Stmt:=zp 23
def yh:Stmt:=zp 24
def xn:Stmt:=zp 25
def xl:Stmt:=zp 26
def xk:Stmt:=zp 27
def yg:Stmt:=zp 28
def xj:Stmt:=zp 29
def xi:Stmt:=zp 30
def xh:Stmt:=zp 31
def xg:Stmt:=zp 32
def xf:Stmt:=zp 33
def xb:Stmt:=zp 34
def xa:Stmt:=zp 35
def w_:Stmt:=zp 36
def zQ:BE:={PySem.Challenge.pw_evenpoints_k51_neighbours_and_gaps with main:={PySem.Challenge.pw_evenpoints_k51_neighbours_and_gaps.main with body:=[yV,yU,yT,yS,yR,yQ,yP,yO,yN,yM,xC,xB,xA,xz,xx,xw,xv,yj,xu,yi,xt,xq,xp,xo,yh,xn,xl,xk,yg,xj,xi,xh,xg,xf,xb,xa,w_]}}
def rwN:G3:={PySem.Challenge.rw_evenpoints_k51_neighbours_and_gaps with prog:=zQ}
noncomputable def zview:BE:={PySem.Challenge.pw_evenpoints_k51_neighbours_and_gaps with main:={PySem.Challenge.pw_evenpoints_k51_neighbours_and_gaps.main with body:=[yU,yT,yS,yQ,yP,yO,yN,yM,xC,xB,xA,xz,xx,xw,xv,xu,xt,xq,xp,xo,xn,xl,xk,xj,xi,xh,xg,xf,xb,xa,w_]}}
theorem rw_eq:PySem.Challenge.rw_evenpoints_k51_neighbours_and_gaps=rwN:=rfl
noncomputable def za(P:G0)(x:Str)(t:Nat)(v:Bo):Ed:=⟨Bl.keyHash P x,.str x t,v⟩
noncomputable def y_(n q:Str)(s:Stmt)(pm cd:Bo):Obj:=⟨.type "function", none,.func (fnOf n q (defArgs s) (defBody s) (defScope s) .none .none .none pm none cd .none),#[]⟩
noncomputable def zc(n q:Str)(a b c:Nat)(l x y:Int)(r:Nat)(z:Int)(r2:Nat)(v1 v2 v3:Bo)(r3:Nat)(u:Int)(c2:Nat):Obj:=⟨.type "code", none,.fields #[.str n a,.str q b,.str "/claim/cut.py" c,.int l 0,.int x 0,.int 0 0,.int 0 0,.int y 0,.ref r,.bool true,.int z 0,.ref r2,v1,v2,v3,.ref r3,.int u 0,.int l 0,.str "/claim/cut.py" c2],#[]⟩
noncomputable def y8:Bo:=.str "evenpoints.errors" 187
noncomputable def y7:Bo:=.str "evenpoints.fractions" 259
noncomputable def yZ:Bo:=.str "evenpoints.steps" 344
noncomputable def yY:Bo:=.str "evenpoints.gapchecker" 355
noncomputable def yX:Bo:=.str "evenpoints.gaps" 390
noncomputable def yW:Bo:=.str "law_evenpoints_k51_neighbours_and_gaps" 422
abbrev y9(n:Str):=y_ n n
abbrev zb(n:Str):=zc n n
noncomputable def heapK(P:G0):Frag :=
 (nat_lit 2,(.mk .none none (.dict #[] 0) #[])) ::
 (nat_lit 3,(.mk (.type "dict") none (.dict #[za P "__name__" 165 (.str "law_evenpoints_k51_neighbours_and_gaps" 422),za P "__doc__" 166 .none,za P "__package__" 167 .none,za P "__loader__" 168 (.builtin "__main__.__loader__#opaque"),za P "__spec__" 169 .none,za P "__annotations__" 170 (.ref 6),za P "__builtins__" 171 (.ref 4),za P "__file__" 173 (.str "/claim/cut.py" 172),za P "__cached__" 174 .none,za P "EvenError" 206 (.ref 24),za P "Nought" 231 (.ref 44),za P "NoPaper" 258 (.ref 63),za P "ZERO" 263 (.ref 66),za P "ONE" 266 (.ref 67),za P "is_whole" 273 (.ref 74),za P "is_place" 281 (.ref 81),za P "common_divisor" 289 (.ref 88),za P "fraction" 298 (.ref 95),za P "plus" 306 (.ref 102),za P "less" 314 (.ref 109),za P "times" 322 (.ref 116),za P "rounded_up" 330 (.ref 123),za P "wrapped" 337 (.ref 130),za P "in_size" 343 (.ref 135),za P "step_number" 354 (.ref 142),za P "is_pair" 362 (.ref 147),za P "gap_above" 370 (.ref 154),za P "gap_below" 378 (.ref 161),za P "lets_neighbours" 389 (.ref 168),za P "neighbours" 404 (.ref 175),za P "next_of" 415 (.ref 182),za P "gaps" 421 (.ref 187),za P "_law_feed" 430 (.ref 194),za P "_law_draw" 441 (.ref 201),za P "_law_gcd" 449 (.ref 208),za P "_law_frac" 458 (.ref 215),za P "_law_step_of" 468 (.ref 222),za P "_law_gaps" 474 (.ref 227),za P "_law_all_right" 480 (.ref 232),za P "law" 493 (.ref 239)] 40) #[])) ::
 (nat_lit 6,(.mk (.type "dict") none (.dict #[] 0) #[])) ::
 (nat_lit 15,(.mk (.type "tuple") none (.seq #[(.type "ValueError")] 0) #[])) ::
 (nat_lit 22,(.mk (.type "tuple") none (.seq #[] 0) #[])) ::
 (nat_lit 23,(.mk (.type "dict") none (.dict #[za P "__module__" 196 (.str "evenpoints.errors" 187),za P "__firstlineno__" 200 (.int 2 199),za P "__static_attributes__" 201 (.ref 22),za P "__weakref__" 203 (.ref 25),za P "__doc__" 204 .none] 3) #[])) ::
 (nat_lit 24,(.mk (.type "type") none (.cls (.mk "EvenError" [(.type "ValueError")] [(.ref 24),(.type "ValueError"),(.type "Exception"),(.type "BaseException"),(.type "object")] 23 "EvenError" true [] [(.ref 44),(.ref 63)] false none false)) #[(some (.ref 15)),none,(some (.str "EvenError" 189)),(some (.str "EvenError" 197)),(some (.builtin "ValueError.__new__")),(some (.bool true))])) ::
 (nat_lit 25,(.mk (.type "getset_descriptor") none (.fields #[(.str "__weakref__" 202),(.ref 24),(.builtin "ExceptionGroup.__weakref__"),.none]) #[])) ::
 (nat_lit 28,(.mk (.type "tuple") none (.seq #[(.ref 24)] 0) #[])) ::
 (nat_lit 40,zc "__init__" "Nought.__init__" 219 220 221 6 2 3 35 181 36 .none (.ref 37) (.ref 38) 39 224 225) ::
 (nat_lit 41,y_ "__init__" "Nought.__init__" (lT (zp 2) 0) y8 (.ref 40)) ::
 (nat_lit 42,(.mk (.type "tuple") none (.seq #[(.str "word" 227)] 0) #[])) ::
 (nat_lit 43,(.mk (.type "dict") none (.dict #[za P "__module__" 214 (.str "evenpoints.errors" 187),za P "__firstlineno__" 218 (.int 4 217),za P "__init__" 226 (.ref 41),za P "__static_attributes__" 228 (.ref 42),za P "__doc__" 229 .none] 2) #[])) ::
 (nat_lit 44,(.mk (.type "type") none (.cls (.mk "Nought" [(.ref 24)] [(.ref 44),(.ref 24),(.type "ValueError"),(.type "Exception"),(.type "BaseException"),(.type "object")] 43 "Nought" true [] [] false none false)) #[(some (.ref 28)),none,(some (.str "Nought" 207)),(some (.str "Nought" 215)),(some (.builtin "ValueError.__new__")),(some (.bool true))])) ::
 (nat_lit 47,(.mk (.type "tuple") none (.seq #[(.ref 24)] 0) #[])) ::
 (nat_lit 59,zc "__init__" "NoPaper.__init__" 244 245 246 10 3 3 54 181 55 .none (.ref 56) (.ref 57) 58 250 251) ::
 (nat_lit 60,y_ "__init__" "NoPaper.__init__" (lT (zp 3) 0) y8 (.ref 59)) ::
 (nat_lit 61,(.mk (.type "tuple") none (.seq #[(.str "path" 253),(.str "word" 254)] 0) #[])) ::
 (nat_lit 62,(.mk (.type "dict") none (.dict #[za P "__module__" 239 (.str "evenpoints.errors" 187),za P "__firstlineno__" 243 (.int 8 242),za P "__init__" 252 (.ref 60),za P "__static_attributes__" 255 (.ref 61),za P "__doc__" 256 .none] 2) #[])) ::
 (nat_lit 63,(.mk (.type "type") none (.cls (.mk "NoPaper" [(.ref 24)] [(.ref 63),(.ref 24),(.type "ValueError"),(.type "Exception"),(.type "BaseException"),(.type "object")] 62 "NoPaper" true [] [] false none false)) #[(some (.ref 47)),none,(some (.str "NoPaper" 232)),(some (.str "NoPaper" 240)),(some (.builtin "ValueError.__new__")),(some (.bool true))])) ::
 (nat_lit 66,(.mk (.type "tuple") none (.seq #[(.int 0 261),(.int 1 262)] 0) #[])) ::
 (nat_lit 67,(.mk (.type "tuple") none (.seq #[(.int 1 264),(.int 1 265)] 0) #[])) ::
 (nat_lit 73,zb "is_whole" 267 268 269 16 1 3 68 181 69 .none (.ref 70) (.ref 71) 72 271 272) ::
 (nat_lit 74,y9 "is_whole" (zp 7) y7 (.ref 73)) ::
 (nat_lit 80,zb "is_place" 274 275 276 18 2 3 75 181 76 .none (.ref 77) (.ref 78) 79 279 280) ::
 (nat_lit 81,y9 "is_place" (zp 8) y7 (.ref 80)) ::
 (nat_lit 87,zb "common_divisor" 282 283 284 20 2 3 82 181 83 .none (.ref 84) (.ref 85) 86 287 288) ::
 (nat_lit 88,y9 "common_divisor" (zp 9) y7 (.ref 87)) ::
 (nat_lit 94,zb "fraction" 290 291 292 24 2 3 89 181 90 .none (.ref 91) (.ref 92) 93 296 297) ::
 (nat_lit 95,y9 "fraction" (zp 10) y7 (.ref 94)) ::
 (nat_lit 101,zb "plus" 299 300 301 31 2 3 96 181 97 .none (.ref 98) (.ref 99) 100 304 305) ::
 (nat_lit 102,y9 "plus" (zp 11) y7 (.ref 101)) ::
 (nat_lit 108,zb "less" 307 308 309 33 2 3 103 181 104 .none (.ref 105) (.ref 106) 107 312 313) ::
 (nat_lit 109,y9 "less" (zp 12) y7 (.ref 108)) ::
 (nat_lit 115,zb "times" 315 316 317 35 2 3 110 181 111 .none (.ref 112) (.ref 113) 114 320 321) ::
 (nat_lit 116,y9 "times" (zp 13) y7 (.ref 115)) ::
 (nat_lit 122,zb "rounded_up" 323 324 325 37 2 3 117 181 118 .none (.ref 119) (.ref 120) 121 328 329) ::
 (nat_lit 123,y9 "rounded_up" (zp 14) y7 (.ref 122)) ::
 (nat_lit 129,zb "wrapped" 331 332 333 39 1 3 124 181 125 .none (.ref 126) (.ref 127) 128 335 336) ::
 (nat_lit 130,y9 "wrapped" (zp 15) y7 (.ref 129)) ::
 (nat_lit 134,zb "in_size" 338 339 340 41 1 3 131 181 132 .none .none .none 133 341 342) ::
 (nat_lit 135,y9 "in_size" (zp 16) y7 (.ref 134)) ::
 (nat_lit 141,zb "step_number" 346 347 348 47 3 3 136 181 137 .none (.ref 138) (.ref 139) 140 352 353) ::
 (nat_lit 142,y9 "step_number" (zp 18) yZ (.ref 141)) ::
 (nat_lit 146,zb "is_pair" 357 358 359 50 2 3 143 181 144 .none .none .none 145 360 361) ::
 (nat_lit 147,y9 "is_pair" (zp 20) yY (.ref 146)) ::
 (nat_lit 153,zb "gap_above" 363 364 365 54 2 3 148 181 149 .none (.ref 150) (.ref 151) 152 368 369) ::
 (nat_lit 154,y9 "gap_above" (zp 21) yY (.ref 153)) ::
 (nat_lit 160,zb "gap_below" 371 372 373 56 2 3 155 181 156 .none (.ref 157) (.ref 158) 159 376 377) ::
 (nat_lit 161,y9 "gap_below" (zp 22) yY (.ref 160)) ::
 (nat_lit 167,zb "lets_neighbours" 379 380 381 58 3 3 162 181 163 .none (.ref 164) (.ref 165) 166 387 388) ::
 (nat_lit 168,y9 "lets_neighbours" (zp 23) yY (.ref 167)) ::
 (nat_lit 174,zb "neighbours" 392 393 394 68 2 3 169 181 170 .none (.ref 171) (.ref 172) 173 402 403) ::
 (nat_lit 175,y9 "neighbours" (zp 25) yX (.ref 174)) ::
 (nat_lit 181,zb "next_of" 405 406 407 81 3 3 176 181 177 .none (.ref 178) (.ref 179) 180 413 414) ::
 (nat_lit 182,y9 "next_of" (zp 26) yX (.ref 181)) ::
 (nat_lit 186,zb "gaps" 416 417 418 86 2 3 183 181 184 .none .none .none 185 419 420) ::
 (nat_lit 187,y9 "gaps" (zp 27) yX (.ref 186)) ::
 (nat_lit 193,zb "_law_feed" 424 425 426 95 1 3 188 181 189 .none (.ref 190) (.ref 191) 192 428 429) ::
 (nat_lit 194,y9 "_law_feed" (zp 29) yW (.ref 193)) ::
 (nat_lit 200,zb "_law_draw" 431 432 433 97 2 3 195 181 196 .none (.ref 197) (.ref 198) 199 439 440) ::
 (nat_lit 201,y9 "_law_draw" (zp 30) yW (.ref 200)) ::
 (nat_lit 207,zb "_law_gcd" 442 443 444 113 2 3 202 181 203 .none (.ref 204) (.ref 205) 206 447 448) ::
 (nat_lit 208,y9 "_law_gcd" (zp 31) yW (.ref 207)) ::
 (nat_lit 214,zb "_law_frac" 450 451 452 117 2 3 209 181 210 .none (.ref 211) (.ref 212) 213 456 457) ::
 (nat_lit 215,y9 "_law_frac" (zp 32) yW (.ref 214)) ::
 (nat_lit 221,zb "_law_step_of" 459 460 461 120 2 3 216 181 217 .none (.ref 218) (.ref 219) 220 466 467) ::
 (nat_lit 222,y9 "_law_step_of" (zp 33) yW (.ref 221)) ::
 (nat_lit 226,zb "_law_gaps" 469 470 471 124 2 3 223 181 224 .none .none .none 225 472 473) ::
 (nat_lit 227,y9 "_law_gaps" (zp 34) yW (.ref 226)) ::
 (nat_lit 231,zb "_law_all_right" 475 476 477 130 2 3 228 181 229 .none .none .none 230 478 479) ::
 (nat_lit 232,y9 "_law_all_right" (zp 35) yW (.ref 231)) ::
 (nat_lit 238,zb "law" 481 482 483 138 1 3 233 181 234 .none (.ref 235) (.ref 236) 237 491 492) ::
 (nat_lit 239,y9 "law" (zp 36) yW (.ref 238))::[]
noncomputable def heapA:List Addr:=nat_lit 2::nat_lit 3::nat_lit 6::nat_lit 15::nat_lit 22::nat_lit 23::nat_lit 24::nat_lit 25::nat_lit 28::nat_lit 40::nat_lit 41::nat_lit 42::nat_lit 43::nat_lit 44::nat_lit 47::nat_lit 59::nat_lit 60::nat_lit 61::nat_lit 62::nat_lit 63::nat_lit 66::nat_lit 67::nat_lit 73::nat_lit 74::nat_lit 80::nat_lit 81::nat_lit 87::nat_lit 88::nat_lit 94::nat_lit 95::nat_lit 101::nat_lit 102::nat_lit 108::nat_lit 109::nat_lit 115::nat_lit 116::nat_lit 122::nat_lit 123::nat_lit 129::nat_lit 130::nat_lit 134::nat_lit 135::nat_lit 141::nat_lit 142::nat_lit 146::nat_lit 147::nat_lit 153::nat_lit 154::nat_lit 160::nat_lit 161::nat_lit 167::nat_lit 168::nat_lit 174::nat_lit 175::nat_lit 181::nat_lit 182::nat_lit 186::nat_lit 187::nat_lit 193::nat_lit 194::nat_lit 200::nat_lit 201::nat_lit 207::nat_lit 208::nat_lit 214::nat_lit 215::nat_lit 221::nat_lit 222::nat_lit 226::nat_lit 227::nat_lit 231::nat_lit 232::nat_lit 238::nat_lit 239::[]
theorem heapE:∀P,heapA=(heapK P).map (·.1):=fun _=>rfl
theorem vd:∀w:B2,((Cp w.params).isNs B4,(Cp w.params).objs.size,(Cp w.params).nsMap B4 "__annotations__")=(true,11,some (.ref 6)):=fun w=>by kernel_rfl
set_option maxHeartbeats 0 in
theorem zleft:LeftO zQ zview [] (fun s=>xlAt zview [] s&&recOk (RowW.records rwN.row.toRowW) s) (Hook.obs (kHook heapK heapA heapE)) (Hook.val (kHook heapK heapA heapE)) 3800 :=
 L2.TT.left_of (M:=3800) (by kernel_rfl) rfl (fun s=>by kernel_rfl) rfl vd fun w os=>by kernel_rfl
end K51
namespace L2
abbrev A5:=Sum Int Str
noncomputable def iq:A5->Bo->Bool
 | .inl k,v=>GN k v
 | .inr x,v=>Bo.isStrOf x v
noncomputable def yC(w:B2):A5->Int
 | .inl k=>hashInt k
 | .inr x=>hashStr w x
theorem aJ:∀{k:A5}{v:Bo},iq k v=true->(∃i t,k=Cs i/\v=Dr i t)\/(∃x t,k=Gf x/\v=Gr x t)
 | .inl i,v,h=>by
   obtain⟨t,e⟩:=Bo.isInt_shape (k:=i) (v:=v) h
   exact .inl ⟨i,t,rfl,e⟩
 | .inr x,v,h=>by
   obtain⟨t,e⟩:=Bo.isStrOf_shape (x:=x) (v:=v) h;exact .inr ⟨x,t,rfl,e⟩
theorem lJ(i:Int)(t:Tok):iq (.inl i) (.int i t)=true:=by simp[iq,GN]
theorem lI(x:Str)(t:Tok):iq (.inr x) (.str x t)=true:=by simp[iq,Bo.isStrOf]
theorem ue(a b:Int):decide ((Cs a:A5)=Cs b)=(a==b):=by
 by_cases e:a=b
 · subst e;simp
 · have h:¬(Cs a:A5)=Cs b:=fun q=>e (Cs.inj q);rw[decide_eq_false h];exact(beq_eq_false_iff_ne.mpr e).symm
theorem ub(a b:Str):decide ((Gf a:A5)=Gf b)=decide (a=b):=by
 by_cases e:a=b
 · subst e;simp
 · have h:¬(Gf a:A5)=Gf b:=fun q=>e (Gf.inj q);rw[decide_eq_false h,decide_eq_false e]
theorem ud(a:Int)(b:Str):decide ((Cs a:A5)=Gf b)=false:=decide_eq_false (fun q=>nomatch q)
theorem uc(a:Str)(b:Int):decide ((Gf a:A5)=Cs b)=false:=decide_eq_false (fun q=>nomatch q)
noncomputable def aV(prog:BE)(w:B2):PySem.KeyKind prog w A5 where
 is:=iq
 hash:=yC w
 inj:=fun v a b ha hb=>by
  rcases aJ ha with⟨i,t,rfl,rfl⟩|⟨x,t,rfl,rfl⟩
  · rcases aJ hb with⟨j,u,rfl,e⟩|⟨y,u,rfl,e⟩
    · injection e with e1 _;rw[e1]
    · exact nomatch e
  · rcases aJ hb with⟨j,u,rfl,e⟩|⟨y,u,rfl,e⟩
    · exact nomatch e
    · injection e with e1 _;rw[e1]
 byValue:=fun k v h=>by
   rcases aJ h with⟨i,t,rfl,rfl⟩|⟨x,t,rfl,rfl⟩<;>rfl
 pyHash:=fun hv h=>by
  rcases aJ hv with⟨i,t,rfl,rfl⟩|⟨x,t,rfl,rfl⟩
  · exact wpAny_pyHash_int h
  · exact wpAny_pyHash_str h
 eqBool:=fun hu hv h=>by
  rcases aJ hu with⟨i,t,rfl,rfl⟩|⟨x,t,rfl,rfl⟩
  · rcases aJ hv with⟨j,u,rfl,rfl⟩|⟨y,u,rfl,rfl⟩
    · rw[ue]at h;exact Ej h
    · rw[ud]at h;exact SeqAt.EqAt.int_str i t y u _ _ _ _ h
  · rcases aJ hv with⟨j,u,rfl,rfl⟩|⟨y,u,rfl,rfl⟩
    · rw[uc]at h;exact SeqAt.EqAt.str_int x t j u _ _ _ _ h
    · rw[ub]at h;exact wpAny_eqBool_str h
 «strs»:=fun k x t v h=>by
  rcases aJ h with⟨i,u,rfl,e⟩|⟨y,u,rfl,e⟩
  · exact nomatch e
  · injection e with e1 _
    subst e1;cases v<;>rfl
theorem io(prog:BE)(w:B2)(i:Int)(t:Tok):(aV prog w).is (.inl i) (.int i t)=true:=lJ i t
theorem im(prog:BE)(w:B2)(x:Str)(t:Tok):(aV prog w).is (.inr x) (.str x t)=true:=lI x t
inductive V where
 | non|bl (b:Bool)|int (i:Int)|str (x:Str)|byt (b:Array UInt8)|flt (b:UInt64)|ref (a:Addr)|ty (n:String)
 deriving DecidableEq
noncomputable def RelV:V->Bo->Prop
 | .non,u=>u=Ci
 | .bl b,u=>u=EU b
 | .int i,u=>∃t,u=Dr i t
 | .str x,u=>∃t,u=Gr x t
 | .byt b,u=>∃t,u=Bo.bytes b t
 | .flt b,u=>∃t,u=Bo.float b t
 | .ref a,u=>u=Ce a
 | .ty n,u=>u=Gz n
abbrev bp:List V->List Bo->Prop:=Cf RelV
theorem bp.length{xs:List V}(r:bp xs us):xs.length=us.length:=CO r
theorem bp.get:∀{xs:List V}{us:List Bo}{i:Nat}{x:V},bp xs us->xs[i]?=some x->∃u,us[i]?=some u/\RelV x u
 | _,_,_,_,.nil,e=>by simp at e
 | _,_,0,_,.cons r _,e=>by simp at e;subst e;exact⟨_,rfl,r⟩
 | _,_,i+1,x,.cons _ t,e=>by
   obtain⟨u,h1,h2⟩:=bp.get (i:=i) (x:=x) t (by simpa using e);exact⟨u,by simpa using h1,h2⟩
theorem bp.set{x:V}{u:Bo}(r:RelV x u):∀{xs:List V}{us:List Bo}(i:Nat),bp xs us->bp (xs.set i x) (us.set i u)
 | _,_,_,.nil=>.nil
 | _,_,0,.cons _ t=>.cons r t
 | _,_,i+1,.cons q t=>.cons q (bp.set r i t)
theorem bp.append:∀{xs ys:List V}{us ws:List Bo},bp xs us->bp ys ws->bp (xs++ys) (us++ws)
 | _,_,_,_,.nil,s=>s
 | _,_,_,_,.cons r t,s=>.cons r (bp.append t s)
theorem bp.take:∀{xs:List V}{us:List Bo}(n:Nat),bp xs us->bp (xs.take n) (us.take n)
 | _,_,0,_=>.nil
 | _,_,_+1,.nil=>.nil
 | _,_,n+1,.cons r t=>.cons r (bp.take n t)
theorem bp.drop:∀{xs:List V}{us:List Bo}(n:Nat),bp xs us->bp (xs.drop n) (us.drop n)
 | _,_,0,r=>r
 | _,_,_+1,.nil=>.nil
 | _,_,n+1,.cons _ t=>bp.drop n t
noncomputable def rQ:Option V->Option Bo->Prop
 | some v,some u=>RelV v u
 | none,none=>True
 | _,_=>False
noncomputable def KV{κ:Type}:List (κ×V)->List (κ×Bo)->Prop:=Cf fun(p:κ×V)(q:κ×Bo)=>p.1=q.1/\RelV p.2 q.2
noncomputable def kV:A5->V
 | .inl i=>.int i
 | .inr x=>.str x
inductive HO where
 | lst (xs:List V)
 | tup (xs:List V)
 | dK (kvs:List (A5×V))|dT (kvs:List (List A5×V))
 | set (S:Int->Bool) (n:Nat)
 | ins (C dx:Addr) (fs:List (Str×V))
 | own (x:Addr)
 | xd (fs:List (Str×V))
 | met (f x:Addr)
 | rng (lo hi:Int)
 | frz (o:Obj) (u:HO)
 | tbl (ps:Array Bo)
 | ext (φ:Heap->Prop)
abbrev Hp:=Addr->Option HO
noncomputable def upd(H:Hp)(a:Addr)(o:HO):Hp:=fun b=>if b=a then some o else H b
theorem ak{H:Hp}{o:HO}:upd H a o a=some o:=by unfold upd;rw[if_pos rfl]
theorem upd_ne{H:Hp}{b:Addr}{o:HO}(h:b≠a):upd H a o b=H b:=by unfold upd;rw[if_neg h]
theorem dk{H:Hp}{o u:HO}:upd (upd H a o) a u=upd H a u:=by
 funext b;unfold upd;split<;>rfl
theorem wg{H:Hp}{b:Addr}{o u:HO}(h:H a=some o)(h':H b=some u)(d:o≠u):a≠b:=by
 intro e;subst e;rw[h]at h';exact d (BW h')
theorem aw{H:Hp}{b:Addr}{o:HO}(h:H a=some o)(h':H b=none):a≠b:=by
 intro e;subst e;rw[h]at h';cases h'
section
variable(P:BE)(w:B2)
noncomputable def mP(h:Heap)(a:Addr)(items:Array Bo):Prop:=∃o,h.get? a=some o/\o.cls = .type "tuple" /\ (∃n,o.data = .seq items n)/\o.dict=none
theorem mP.tup{h:Heap}{a:Addr}{items:Array Bo}(x:mP h a items):IsTup h a items:=let ⟨o,e1,e2,e3,_⟩:=x;⟨o,e1,e2,e3⟩
theorem mP.new(h:Heap)(items:Array Bo):mP (h.push {cls:=.type "tuple", data:=.seq items}) h.objs.size items:=⟨_,BJ _ rfl,rfl,⟨_,rfl⟩,rfl⟩
noncomputable def bI(H:Hp)(h:Heap)(a:Addr):HO->Prop
 | .lst xs=>xs.length<=sizeLine/\∃(its:List Bo)(n:Nat),bp xs its/\h.get? a=some {cls:=.type "list", data:=.seq its.toArray n}
 | .tup xs=>xs.length<=sizeLine/\∃its:List Bo,bp xs its/\mP h a its.toArray
 | .dK kvs=>kvs.length<=sizeLine/\(a==Cz)=false/\∃vs,KV kvs vs/\h.DictOf (aV P w) a vs
 | .dT kvs=>kvs.length<=sizeLine/\(a==Cz)=false/\∃xs:List (List A5×Addr×Bo),
     Cf (fun(p:List A5×V)(q:List A5×Addr×Bo)=>p.1=q.1/\H q.2.1=some (.tup (p.1.map kV))/\RelV p.2 q.2.2) kvs xs /\
     ∃o es ep,h.get? a=some o/\o.ExactDict/\o.data = .dict es ep/\es.toList=xs.map (GA (Dy (aV P w)))/\(xs.map (·.1)).Nodup
 | .set S n=>h.SetOf (E1 P w) a S n
 | .ins C dx fs=>H dx=some (.own a)/\fs.length<=1000/\dx≠a/\h.get? a=some (W.instObj C dx) /\
     ∃mA,h.Ns1 dx mA/\(∀f,rQ (fs.lookup f) (mA f))/\PySem.Within mA (fs.map (·.1))
 | .own _=>∃o,h.get? a=some o
 | .xd fs=>∃mA,h.Ns1 a mA/\∀f,rQ (fs.lookup f) (mA f)
 | .rng lo hi=>∃t u v,h.get? a=some {cls:=.type "range", data:=.fields #[.int lo t,.int hi u,.int 1 v]}
 | .frz o u=>h.get? a=some o/\bI H h a u
 | .tbl ps=>h.get? a=some {cls:=.none,data:=.fields ps}
 | .met f x=>h.get? a=some (W.methodObj (.ref f) (.ref x))
 | .ext φ=>φ h/\(∃o,h.get? a=some o)/\∀h1 h2:Heap,φ h1->(∀o,h1.get? a=some o->h2.get? a=some o)->φ h2
noncomputable def Bb(H:Hp)(h:Heap):Prop:=∀a o,H a=some o->bI P w H h a o
end
section
variable{P:BE}{w:B2}{H H':Hp}{h h':Heap}{a:Addr}{o:HO}
theorem bI.lt(x:bI P w H h a o):a<h.objs.size:=by
 cases o with
 | lst xs=>obtain⟨_,_,_,_,e⟩:=x;exact Bx e
 | tup xs=>obtain⟨_,_,_,p⟩:=x;exact p.tup.lt
 | dK kvs=>obtain⟨_,_,_,_,o,_,_,e,_⟩:=x;exact Bx e
 | dT kvs=>obtain⟨_,_,_,_,o,_,_,e,_⟩:=x;exact Bx e
 | set S n=>obtain⟨o,_,_,_,e,_⟩:=x;exact Bx e
 | ins C dx fs=>obtain⟨_,_,_,e,_⟩:=x;exact Bx e
 | own y=>obtain⟨_,e⟩:=x;exact Bx e
 | xd fs=>obtain⟨_,⟨_,_,_,e,_⟩,_⟩:=x;exact Bx e
 | rng lo hi=>obtain⟨_,_,_,e⟩:=x;exact Bx e
 | frz ob u=>obtain⟨e,_⟩:=x;exact Bx e
 | tbl ps=>exact Bx (show h.get? a=some _ from x)
 | met f y=>exact Bx (show h.get? a=some _ from x)
 | ext φ=>obtain⟨_,⟨_,e⟩,_⟩:=x;exact Bx e
theorem Cf.mapP{α β:Type}{F G:α->β->Prop}:∀{l₁:List α}{l₂:List β},Cf F l₁ l₂->(∀a b,F a b->G a b)->Cf G l₁ l₂
 | _,_,.nil,_=>.nil
 | _,_,.cons r t,f=>.cons (f _ _ r) (Cf.mapP t f)
theorem bI.stay(x:bI P w H h a o)(k:∀b u,(b=a\/H b=some (.own a))->h.get? b=some u->h'.get? b=some u)
 (ho:∀b,H b=some (.own a)->H' b=some (.own a))(ht:∀b xs,H b=some (.tup xs)->H' b=some (.tup xs)):bI P w H' h' a o:=by
 induction o with
 | lst xs=>obtain⟨z,its,n,r,e⟩:=x;exact⟨z,its,n,r,k _ _ (.inl rfl) e⟩
 | tup xs=>obtain⟨z,its,r,ob,e,c⟩:=x;exact⟨z,its,r,ob,k _ _ (.inl rfl) e,c⟩
 | dK kvs=>obtain⟨z,y,vs,r,ob,es,ep,e,c⟩:=x;exact⟨z,y,vs,r,ob,es,ep,k _ _ (.inl rfl) e,c⟩
 | dT kvs =>
   obtain⟨z,y,xs,r,ob,es,ep,e,c⟩:=x
   exact⟨z,y,xs,Cf.mapP r fun p q z=>⟨z.1,ht _ _ z.2.1,z.2.2⟩,ob,es,ep,k _ _ (.inl rfl) e,c⟩
 | set S n=>obtain⟨ob,es,ep,t,e,c⟩:=x;exact⟨ob,es,ep,t,k _ _ (.inl rfl) e,c⟩
 | ins C dx fs =>
   obtain⟨d,z,ne,e,mA,⟨od,es,ep,e2,c⟩,r⟩:=x
   exact⟨ho _ d,z,ne,k _ _ (.inl rfl) e,mA,⟨od,es,ep,k _ _ (.inr d) e2,c⟩,r⟩
 | own y=>obtain⟨ob,e⟩:=x;exact⟨ob,k _ _ (.inl rfl) e⟩
 | xd fs=>obtain⟨mA,⟨od,es,ep,e,c⟩,r⟩:=x;exact⟨mA,⟨od,es,ep,k _ _ (.inl rfl) e,c⟩,r⟩
 | rng lo hi=>obtain⟨t,u,v,e⟩:=x;exact⟨t,u,v,k _ _ (.inl rfl) e⟩
 | frz ob u ih=>obtain⟨e,q⟩:=x;exact⟨k _ _ (.inl rfl) e,ih q⟩
 | tbl ps =>
   have e:h.get? a=some {cls:=.none,data:=.fields ps}:=x;show h'.get? a=some {cls:=.none,data:=.fields ps}
   exact k a _ (.inl rfl) e
 | met f y =>
   have e:h.get? a=some (W.methodObj (.ref f) (.ref y)):=x;show h'.get? a=some (W.methodObj (.ref f) (.ref y))
   exact k a _ (.inl rfl) e
 | ext φ=>obtain⟨p,⟨o,e⟩,st⟩:=x;exact⟨st _ _ p fun o q=>k _ _ (.inl rfl) q,⟨o,k _ _ (.inl rfl) e⟩,st⟩
theorem Bb.lt(x:Bb P w H h)(e:H a=some o):a<h.objs.size:=(x a o e).lt
theorem Bb.fresh(x:Bb P w H h)(e:h.objs.size<=a):H a=none:=by
 cases q:H a with
 | none=>rfl
 | some u=>exact absurd (Bq (x.lt q) e) (CP _)
theorem Bb.kept(x:Bb P w H h)(k:∀b u,h.get? b=some u->h'.get? b=some u):Bb P w H h':=fun a o e =>
 (x a o e).stay (fun b u _ q=>k b u q) (fun _ q=>q) fun _ _ q=>q
theorem Bb.laid(x:Bb P w H h)(k:∀b u,h.get? b=some u->h'.get? b=some u)(hp:h.objs.size<=a)(new:bI P w (upd H a o) h' a o):Bb P w (upd H a o) h':=fun b u e=>by
 have hn:=x.fresh hp;by_cases hb:b=a
 · subst hb;rw[ak]at e;cases e;exact new
 · rw[upd_ne hb]at e;exact(x b u e).stay (fun c v _ q=>k c v q) (fun c q=>by rw[upd_ne (aw q hn)];exact q) fun c xs q=>by rw[upd_ne (aw q hn)];exact q
end
noncomputable def Rd(H:Hp)(a:Addr)(u:HO):Prop:=H a=some u\/∃o,H a=some (.frz o u)
theorem Rd.ok{w:B2}{H:Hp}{u:HO}(r:Rd H a u)(x:Bb P w H h):bI P w H h a u:=by
 rcases r with r|⟨o,r⟩
 · exact x a u r
 · obtain⟨_,q⟩:=x a _ r;exact q
noncomputable def A3:Option HO->Prop
 | some (.lst _)=>True
 | some (.dK _)=>True
 | some (.dT _)=>True
 | some (.set _ _)=>True
 | some (.ins _ _ _)=>True
 | some (.ext _)=>True
 | _=>False
section
variable{P:BE}{w:B2}{H:Hp}{h h':Heap}{x e:Addr}{o':HO}
theorem Bb.write(ok:Bb P w H h)(mu:A3 (H x))(he:e=x\/H e=some (.own x))(k:∀b u,b≠e->h.get? b=some u->h'.get? b=some u)(heo:∃u,h'.get? e=some u)
 (new:bI P w (upd H x o') h' x o'):Bb P w (upd H x o') h':=fun b u q=>by
 have nown:∀c y,H c=some (.own y)->c≠x:=fun c y r z=>by subst z;rw[r]at mu;exact mu
 have ntup:∀c xs,H c=some (.tup xs)->c≠x:=fun c xs r z=>by subst z;rw[r]at mu;exact mu
 by_cases hb:b=x
 · subst hb;rw[ak]at q;cases q;exact new
 · rw[upd_ne hb]at q;by_cases hbe:b=e
   · have q':H b=some (.own x):=by
       rcases he with z|z
       · exact absurd (hbe.trans z) hb
       · rw[hbe];exact z
     rw[q]at q';cases q';obtain⟨v,hv⟩:=heo;exact⟨v,by rw[hbe];exact hv⟩
   · refine(ok b u q).stay (fun c v hc r=>k c v ?_ r) (fun c r=>by rw[upd_ne (nown c b r)];exact r) fun c xs r=>by rw[upd_ne (ntup c xs r)];exact r
     rcases hc with rfl|hc
     · exact hbe
     · rintro rfl;rcases he with z|z
       · exact nown c b hc z
       · rw[hc]at z;cases z;exact hb rfl
end
structure Un (fs ex:List Addr) (H H':Hp) (h h':Heap):Prop where
 keep:∀b o,h.get? b=some o->H b=none->b∉fs->b∉ex->h'.get? b=some o
 slot:∀b o,h.get? b=some o->H b=none->b∈fs->b∉ex->∃sl,h'.get? b=some {o with slots:=sl}
 free:∀b o,h.get? b=some o->H b=none->b∉ex->H' b=none
 there:∀b o,h.get? b=some o->b∉ex->∃o',h'.get? b=some o'
 tups:∀b xs,H b=some (.tup xs)->H' b=some (.tup xs)
 frzs:∀b o u,H b=some (.frz o u)->H' b=some (.frz o u)
 tbls:∀b ps,H b=some (.tbl ps)->∃more,H' b=some (.tbl (ps++more))
section
variable{fs fs' ex ex':List Addr}{H H1 H2:Hp}{h h1 h2 h':Heap}{a x e:Addr}{o:HO}
theorem Un.any(u:Un fs ex H H1 h h1){b:Addr}{ob:Obj}(q:h.get? b=some ob)(n:H b=none)(hx:b∉ex):∃sl,h1.get? b=some {ob with slots:=sl}:=by
 by_cases hb:b∈fs
 · exact u.slot b ob q n hb hx
 · exact⟨ob.slots,u.keep b ob q n hb hx⟩
theorem Un.kept(k:∀b u,h.get? b=some u->h'.get? b=some u):Un fs ex H H h h' :=
 ⟨fun b ob q _ _ _=>k b ob q,fun b ob q _ _ _=>⟨ob.slots,k b ob q⟩,fun _ _ _ n _=>n,fun b ob q _=>⟨ob,k b ob q⟩,fun _ _ q=>q,fun _ _ _ q=>q,fun _ ps q=>⟨#[],by rw[q];simp⟩⟩
theorem Un.refl:Un fs ex H H h h:=Un.kept fun _ _ q=>q
theorem Un.laid(k:∀b u,h.get? b=some u->h'.get? b=some u)(hp:h.objs.size<=a)(hn:H a=none):Un fs ex H (upd H a o) h h' where
 keep:=fun b u q _ _ _=>k b u q
 slot:=fun b u q _ _ _=>⟨u.slots,k b u q⟩
 free:=fun b u q n _=>by rw[upd_ne (BV (Bq (Bx q) hp))];exact n
 there:=fun b u q _=>⟨u,k b u q⟩
 tups:=fun b xs q=>by rw[upd_ne (aw q hn)];exact q
 frzs:=fun b u xs q=>by rw[upd_ne (aw q hn)];exact q
 tbls:=fun b ps q=>⟨#[],by rw[upd_ne (aw q hn),q];simp⟩
theorem Un.write(mu:A3 (H x))(he:e=x\/H e=some (.own x))(k:∀b u,b≠e->h.get? b=some u->h'.get? b=some u)(heo:∃u,h'.get? e=some u):Un fs ex H (upd H x o) h h':=by
 have hx:∀b,H b=none->b≠x:=fun b n z=>by subst z;rw[n]at mu;exact mu
 have hb:∀b,H b=none->b≠e:=fun b n z=>by
  subst z;rcases he with r|r
  · exact hx b n r
  · rw[n]at r;cases r
 have hm:∀b u,H b=some u->¬A3 (some u)->b≠x:=fun b u q nm z=>by subst z;rw[q]at mu;exact nm mu
 refine⟨fun b u q n _ _=>k b u (hb b n) q,fun b u q n _ _=>⟨u.slots,k b u (hb b n) q⟩,fun b u q n _=>by rw[upd_ne (hx b n)];exact n,fun b u q _=>?_,
  fun b xs q=>by rw[upd_ne (hm b _ q fun z=>z)];exact q,fun b u xs q=>by rw[upd_ne (hm b _ q fun z=>z)];exact q,fun b ps q=>⟨#[],by rw[upd_ne (hm b _ q fun z=>z),q];simp⟩⟩
 by_cases hbe:b=e
 · subst hbe;exact heo
 · exact⟨u,k b u hbe q⟩
end
noncomputable def zo(h:Heap)(H:Hp):List Addr:=(BZ h.objs.size).filter fun a=>(H a).isSome
noncomputable def oa(h:Heap)(H:Hp):Heap:=W.hideAll h (zo h H)
theorem lU(h:Heap)(H:Hp):(oa h H).objs.size=h.objs.size:=W.hideAll_size _ _
theorem n_{H:Hp}{b:Addr}(e:h.get? b=some o)(n:H b=none):(oa h H).get? b=some o :=
 W.hideAll_get _ e fun hm=>by
  have q:(H b).isSome=true:=(Dz.mp hm).2;rw[n]at q;simp at q
theorem qM{H:Hp}{b:Addr}(e:(oa h H).get? b=some o):h.get? b=some o/\H b=none:=by
 have e':h.get? b=some o:=W.of_hideAll (zo h H) e;refine⟨e',?_⟩
 cases q:H b with
 | none=>rfl
 | some x =>
   have hm:b∈zo h H:=Dz.mpr ⟨CT.mpr (Bx e'),by simp[q]⟩;have z:(oa h H).get? b=none:=W.hideAll_none (zo h H) hm;rw[z]at e;cases e
noncomputable def rP(g h:Heap)(L:Addr):List (Addr×Obj):=(BZ h.objs.size).filterMap fun a=>if a=L\/(g.get? a).isSome=true then none else(h.get? a).map fun o=>(a,o)
noncomputable def rest(g h:Heap)(L d:Addr):List (Addr×Obj):=(rP g h L).filter fun p=>decide (p.1≠d)
structure Mod (K:W.Frag) (mg:Str->Option Bo) (base:Heap):Prop where
 kin:K.In base
 glob:base.Ns B4 mg
 blt:∃mb,base.Ns builtinsNs mb/\∀x:Str,x ≠ "__name__" -> mb x=Dn x
 nolimit:base.NoLimit
structure Cx where
 prog:BE
 w:B2
 K:W.Frag
 mg:Str->Option Bo
 base:Heap
 A:BX
 N:List Str
 s₀:Bp
 H₀:Hp
 env:Env
 outer:List Env
 stack:List Env
 ex:List Addr
 fn:Str->Bool
 calm:Bool
 pn:List (Addr×Obj)
 xe:Bo->Bp->Prop
noncomputable def frs(l:List Env):List Addr:=l.filterMap (·.frame)
abbrev Cx.fs(X:Cx):List Addr:=frs X.outer
noncomputable def AC(sc:Scope)(x:Str):Prop:=sc.names.lookup x=some .local\/sc.names.lookup x=some .cell\/sc.names.lookup x=some .free
noncomputable def Loc(sc:Scope)(x:Str):Prop:=sc.names.lookup x=some .local\/sc.names.lookup x=some .cell
noncomputable def Look(env:Env)(h:Heap)(m:Str->Option Bo)(x:Str)(u:Bo):Prop :=
 (env.kindOf x=some .local/\m x=some u)\/((env.kindOf x=some .cell\/env.kindOf x=some .free)/\∃c,env.cells.lookup x=some c/\h.IsCell c (some u))
structure Cx.Ok (X:Cx):Prop where
 mod:Mod X.K X.mg X.base
 kind:X.env.scope.kind = .function
 glob:X.env.globals=B4
 blt:X.env.builtins=builtinsNs
 above:X.s₀.heap.objs.size<=X.env.locals
 inj:∀x y c,X.env.cells.lookup x=some c->X.env.cells.lookup y=some c->x=y
 has:∀x,(X.env.kindOf x=some .cell\/X.env.kindOf x=some .free)->∃c,X.env.cells.lookup x=some c
 cab:∀x c,X.fn x=true->X.env.cells.lookup x=some c->X.s₀.heap.objs.size<=c
 hd:X.calm=true->X.A.handled=none
 frames:X.A.frames=some X.stack
 stk:X.stack=X.outer\/(X.stack=X.env::X.outer/\X.env.frame=some X.env.locals)
 exf:∀b∈X.ex,b≠X.env.locals/\∀x c,X.env.cells.lookup x=some c->c≠b
 bs:∀b o,X.base.get? b=some o->X.s₀.heap.get? b=some o/\X.H₀ b=none
 bsz:X.base.objs.size<=X.s₀.heap.objs.size
 noex:∀b o,X.base.get? b=some o->b∉X.ex
 exfs:∀b∈X.ex,b∉X.fs
 funs:X.s₀.heap.FunFrames X.base X.outer
 frf:∀b∈X.fs,X.H₀ b=none
structure Inv (X:Cx) (pins:List (Addr×Obj)) (σ:List (Option V)) (H:Hp) (s:Bp):Prop where
 ok:X.Ok
 os:s.os=X.s₀.os
 bare:Gg s.gens
 base:Un X.fs X.ex X.H₀ H X.s₀.heap s.heap
 loc:∃m,s.heap.Ns X.env.locals m/\∀(i:Nat)(x:Str)(v:V),X.N[i]?=some x->σ[i]?=some (some v)->AC X.env.scope x->∃u,RelV v u/\Look X.env s.heap m x u
 cell:∀x c,X.env.cells.lookup x=some c->∃v,s.heap.IsCell c v
 free:H X.env.locals=none
 freeC:∀x c,X.env.cells.lookup x=some c->H c=none
 pin:∀p∈X.pn++pins,s.heap.get? p.1=some p.2/\H p.1=none/\p.1≠X.env.locals/\p.1∉X.fs/\∀v,p.2.data ≠ .cell v
 hok:Bb X.prog X.w H s.heap
 len:σ.length=X.N.length
section
variable{X:Cx}{pins:List (Addr×Obj)}{σ:List (Option V)}{H H':Hp}{s:Bp}{h':Heap}
theorem Cx.Ok.nofr(ok:X.Ok){b:Addr}(e:X.base.get? b=some o):b∉X.fs:=fun hb=>by
 have:=(ok.funs.mem hb).1;rw[e]at this;cases this
theorem Inv.bs(I:Inv X pins σ H s):∀b o,X.base.get? b=some o->s.heap.get? b=some o/\H b=none:=fun b o e =>
 ⟨I.base.keep b o (I.ok.bs b o e).1 (I.ok.bs b o e).2 (I.ok.nofr e) (I.ok.noex b o e),I.base.free b o (I.ok.bs b o e).1 (I.ok.bs b o e).2 (I.ok.noex b o e)⟩
theorem Inv.bk(I:Inv X pins σ H s):∀b o,X.base.get? b=some o->s.heap.get? b=some o:=fun b o e=>(I.bs b o e).1
theorem Inv.mod(I:Inv X pins σ H s):Mod X.K X.mg X.base:=I.ok.mod
theorem Inv.kIn(I:Inv X pins σ H s):X.K.In s.heap:=I.ok.mod.kin.keeps I.bk
theorem Inv.lt(I:Inv X pins σ H s):X.env.locals<s.heap.objs.size:=let ⟨_,hn,_⟩:=I.loc;hn.lt
theorem Inv.sz(I:Inv X pins σ H s):X.s₀.heap.objs.size<=s.heap.objs.size:=CC I.ok.above (Fu I.lt)
theorem Inv.nofs(I:Inv X pins σ H s)(h:s.heap.objs.size<=a):a∉X.fs:=fun hb=>by
 obtain⟨_,o,ho,_⟩:=I.ok.funs.mem hb;exact absurd (Bq (Bx ho) (CC I.sz h)) (CP _)
theorem Inv.cne(I:Inv X pins σ H s):∀x c,X.env.cells.lookup x=some c->c≠X.env.locals:=fun x c e z=>by
 obtain⟨v,o,ho,hd⟩:=I.cell x c e;obtain⟨m,⟨o',es,ep,ho',hd',_⟩,_⟩:=I.loc;rw[z,ho']at ho;cases ho;rw[hd']at hd;cases hd
theorem Inv.funs(I:Inv X pins σ H s):s.heap.FunFrames X.base X.outer:=by
 have all:∀(l:List Env),(∀b∈frs l,b∈X.fs)->X.s₀.heap.FunFrames X.base l->s.heap.FunFrames X.base l:=by
  intro l
  induction l with
  | nil=>intro _ _;trivial
  | cons env r ih =>
    intro hs hl;obtain⟨hk,⟨L,o,hf,hn,ho,hd⟩,hr⟩:=hl;have hL:L∈X.fs:=hs L (by unfold frs;rw[Et,hf];exact Bw);obtain⟨sl,e⟩:=I.base.slot L o ho (I.ok.frf L hL) hL fun z=>I.ok.exfs L z hL;exact⟨hk,⟨L,_,hf,hn,e,hd⟩,ih (fun b hb=>hs b (by unfold frs;rw[Et,hf];exact Br _ hb)) hr⟩
 exact all X.outer (fun _ hb=>hb) I.ok.funs
theorem Inv.stack(I:Inv X pins σ H s):s.heap.FunFrames X.base X.stack:=by
 rcases I.ok.stk with e|⟨e,hf⟩
 · rw[e];exact I.funs
 · rw[e];obtain⟨m,hn,_⟩:=I.loc;refine .cons (by rw[I.ok.kind];decide) hf hn ?_ I.funs;exact Heap.get?_none_of_le (CC I.ok.bsz I.ok.above)
theorem Inv.stkSub(I:Inv X pins σ H s):∀b∈frs X.stack,b∈X.env.locals::X.fs:=fun b hb=>by
 rcases I.ok.stk with e|⟨e,hf⟩
 · rw[e]at hb;exact Br _ hb
 · rw[e]at hb;unfold frs at hb;rw[Et,hf]at hb;exact hb
theorem Inv.stkFree(I:Inv X pins σ H s):∀b∈frs X.stack,H b=none:=fun b hb=>by
 rcases BL.mp (I.stkSub b hb)with e|hb
 · rw[e];exact I.free
 · obtain⟨_,o,ho,_⟩:=I.ok.funs.mem hb;exact I.base.free b o ho (I.ok.frf b hb) fun z=>I.ok.exfs b z hb
theorem Inv.step{g':Array GenState}{t':Nat}{d':Drawn}{ch:List Addr}(I:Inv X pins σ H s)
 (hch:∀b∈ch,(b∈X.ex\/X.s₀.heap.objs.size<=b)/\b≠X.env.locals/\(∀x c,X.env.cells.lookup x=some c->c≠b)/\∀p∈X.pn++pins,p.1≠b)
 (keep:∀b o,b≠X.env.locals->b∉X.fs->b∉ch->s.heap.get? b=some o->H b=none->h'.get? b=some o)
 (slot:∀b o,b≠X.env.locals->b∈X.fs->b∉ch->s.heap.get? b=some o->H b=none->∃sl,h'.get? b=some {o with slots:=sl})(free:∀b o,b∉ch->s.heap.get? b=some o->H b=none->H' b=none)
 (there:∀b o,b∉ch->s.heap.get? b=some o->∃o',h'.get? b=some o')
 (tups:∀b xs,H b=some (.tup xs)->H' b=some (.tup xs))(frzs:∀b o u,H b=some (.frz o u)->H' b=some (.frz o u))(tbls:∀b ps,H b=some (.tbl ps)->∃more,H' b=some (.tbl (ps++more)))
 (ns:∀m,s.heap.Ns X.env.locals m->h'.Ns X.env.locals m)(hok:Bb X.prog X.w H' h')(hg:Gg g') :
 Inv X pins σ H' {s with heap:=h',gens:=g',drawn:=d',toks:=t' }:=by
 have neL:∀b o,X.s₀.heap.get? b=some o->b≠X.env.locals:=fun b o e=>BV (Bq (Bx e) I.ok.above)
 have neC:∀b o,X.s₀.heap.get? b=some o->b∉X.ex->b∉ch:=fun b o e hx hb=>by
  rcases(hch b hb).1 with z|z
  · exact hx z
  · exact absurd (Bq (Bx e) z) (CP _)
 have cellK:∀x c,X.env.cells.lookup x=some c->∀v,s.heap.IsCell c v->h'.IsCell c v:=fun x c e v ⟨o,ho,hd⟩=>by
  have nch:c∉ch:=fun z=>(hch c z).2.2.1 x c e rfl;by_cases hc:c∈X.fs
  · obtain⟨sl,q⟩:=slot c o (I.cne x c e) hc nch ho (I.freeC x c e);exact⟨_,q,hd⟩
  · exact⟨o,keep c o (I.cne x c e) hc nch ho (I.freeC x c e),hd⟩
 refine⟨I.ok,I.os,hg,⟨fun b o e n hb hx=>?_,fun b o e n hb hx=>?_,fun b o e n hx=>?_,fun b o e hx=>?_,fun b xs e=>tups b xs (I.base.tups b xs e),fun b o xs e=>frzs b o xs (I.base.frzs b o xs e),fun b ps e=>?_⟩,?_,fun x c e=>?_,?_,fun x c e=>?_,fun p hp=>?_,hok,I.len⟩
 · exact keep b o (neL b o e) hb (neC b o e hx) (I.base.keep b o e n hb hx) (I.base.free b o e n hx)
 · obtain⟨sl,e1⟩:=I.base.slot b o e n hb hx;obtain⟨sl',e2⟩:=slot b _ (neL b o e) hb (neC b o e hx) e1 (I.base.free b o e n hx);exact⟨sl',e2⟩
 · obtain⟨o',e1⟩:=I.base.there b o e hx;exact free b o' (neC b o e hx) e1 (I.base.free b o e n hx)
 · obtain⟨o',e1⟩:=I.base.there b o e hx;exact there b o' (neC b o e hx) e1
 · obtain⟨m1,e1⟩:=I.base.tbls b ps e;obtain⟨m2,e2⟩:=tbls b _ e1;exact⟨m1++m2,by rw[e2,Array.append_assoc]⟩
 · obtain⟨m,hn,hl⟩:=I.loc;refine⟨m,ns m hn,fun i x v e1 e2 e3=>?_⟩;obtain⟨u,r,l⟩:=hl i x v e1 e2 e3;refine⟨u,r,?_⟩;rcases l with l|⟨k,c,e,z⟩
   · exact .inl l
   · exact .inr ⟨k,c,e,cellK x c e _ z⟩
 · obtain⟨v,z⟩:=I.cell x c e;exact⟨v,cellK x c e v z⟩
 · obtain⟨m,⟨o,_,_,ho,_⟩,_⟩:=I.loc;exact free _ o (fun z=>(hch _ z).2.1 rfl) ho I.free
 · obtain⟨v,o,ho,hd⟩:=I.cell x c e;exact free c o (fun z=>(hch c z).2.2.1 x c e rfl) ho (I.freeC x c e)
 · obtain⟨e,n,ne,nf,d⟩:=I.pin p hp;have nch:p.1∉ch:=fun z=>(hch p.1 z).2.2.2 p hp rfl;exact⟨keep p.1 p.2 ne nf nch e n,free p.1 p.2 nch e n,ne,nf,d⟩
theorem Inv.un{t':Nat}(I:Inv X pins σ H s)(u:Un X.fs [] H H' s.heap h')(hok:Bb X.prog X.w H' h'):Inv X pins σ H' {s with heap:=h',toks:=t' }:=by
 obtain⟨m,⟨o,es,ep,ho,r⟩,_⟩:=id I.loc;obtain⟨sl,hL⟩:=u.any ho I.free (by simp)
 exact I.step (g':=s.gens) (d':=s.drawn) (ch:=[]) (fun _ z=>nomatch z) (fun b o _ hb _ e n=>u.keep b o e n hb (by simp)) (fun b o _ hb _ e n=>u.slot b o e n hb (by simp)) (fun b o _ e n=>u.free b o e n (by simp)) (fun b o _ e=>u.there b o e (by simp)) u.tups u.frzs u.tbls (fun m' hm=>by
  obtain⟨o',es',ep',ho',r'⟩:=hm;rw[ho]at ho';cases ho'
  exact⟨_,es',ep',hL,r'⟩) hok I.bare
theorem Inv.call{g':Array GenState}{t':Nat}{d':Drawn}{ch:List Addr}(I:Inv X pins σ H s)(u:Un (frs X.stack) ch H H' s.heap h')(hok:Bb X.prog X.w H' h')(hg:Gg g')
 (hch:∀b∈ch,(b∈X.ex\/X.s₀.heap.objs.size<=b)/\b≠X.env.locals/\(∀x c,X.env.cells.lookup x=some c->c≠b)/\∀p∈X.pn++pins,p.1≠b) :
 Inv X pins σ H' {s with heap:=h',gens:=g',drawn:=d',toks:=t' }:=by
 obtain⟨m,⟨o,es,ep,ho,r⟩,_⟩:=id I.loc;obtain⟨sl,hL⟩:=u.any ho I.free fun z=>(hch _ z).2.1 rfl
 exact I.step (ch:=ch) hch (fun b o hL hb hc e n=>u.keep b o e n (fun z=>(BL.mp (I.stkSub b z)).elim hL hb) hc) (fun b o _ _ hc e n=>u.any e n hc) (fun b o hc e n=>u.free b o e n hc) (fun b o hc e=>u.there b o e hc) u.tups u.frzs u.tbls (fun m' hm=>by
  obtain⟨o',es',ep',ho',r'⟩:=hm;rw[ho]at ho';cases ho'
  exact⟨_,es',ep',hL,r'⟩) hok hg
theorem Inv.turned{t':Nat}{it:Addr}(I:Inv X pins σ H s)(k:∀b o,b≠it->s.heap.get? b=some o->h'.get? b=some o)(hn:H it=none)(hL:it≠X.env.locals)
 (h1:it∈X.ex\/X.s₀.heap.objs.size<=it)(h2:∀x c,X.env.cells.lookup x=some c->c≠it)(h3:∀p∈X.pn++pins,p.1≠it):Inv X pins σ H {s with heap:=h',toks:=t' }:=by
 have nit:∀b u,H b=some u->b≠it:=fun b u e z=>by rw[z,hn]at e;cases e
 refine I.step (g':=s.gens) (d':=s.drawn) (ch:=[it]) (fun b hb=>?_) (fun b o _ _ hc e _=>k b o (fun z=>hc (by simp[z])) e) (fun b o _ _ hc e _=>⟨o.slots,k b o (fun z=>hc (by simp[z])) e⟩) (fun _ _ _ _ n=>n)
  (fun b o hc e=>⟨o,k b o (fun z=>hc (by simp[z])) e⟩) (fun _ _ e=>e) (fun _ _ _ e=>e) (fun b ps e=>⟨#[],by rw[e];simp⟩) (fun m hm=>?_) (fun b u e=>?_) I.bare
 · have e:b=it:=by simpa using hb
   subst e;exact⟨h1,hL,h2,h3⟩
 · obtain⟨o,es,ep,ho,r⟩:=hm;exact⟨o,es,ep,k _ o (Ek hL) ho,r⟩
 · refine(I.hok b u e).stay (fun c v hc q=>k c v ?_ q) (fun _ q=>q) fun _ _ q=>q;rcases hc with z|z
   · rw[z];exact nit b u e
   · exact nit c _ z
theorem Inv.tok(I:Inv X pins σ H s)(t:Nat):Inv X pins σ H {s with toks:=t}:=I.un (h':=s.heap) (t':=t) Un.refl I.hok
theorem Inv.kept{t':Nat}(I:Inv X pins σ H s)(k:∀b u,s.heap.get? b=some u->h'.get? b=some u):Inv X pins σ H {s with heap:=h',toks:=t' }:=I.un (Un.kept k) (I.hok.kept k)
theorem Inv.laid{a:Addr}{o:HO}{t':Nat}(I:Inv X pins σ H s)(k:∀b u,s.heap.get? b=some u->h'.get? b=some u)(hp:s.heap.objs.size<=a)(new:bI X.prog X.w (upd H a o) h' a o) :
 Inv X pins σ (upd H a o) {s with heap:=h',toks:=t' }:=I.un (Un.laid k hp (I.hok.fresh hp)) (I.hok.laid k hp new)
theorem Inv.write{x e:Addr}{o:HO}{t':Nat}(I:Inv X pins σ H s)(mu:A3 (H x))(he:e=x\/H e=some (.own x))(k:∀b u,b≠e->s.heap.get? b=some u->h'.get? b=some u)(heo:∃u,h'.get? e=some u)
 (new:bI X.prog X.w (upd H x o) h' x o):Inv X pins σ (upd H x o) {s with heap:=h',toks:=t' }:=I.un (Un.write mu he k heo) (I.hok.write mu he k heo new)
theorem Inv.pins_of{pins':List (Addr×Obj)}(I:Inv X pins σ H s)(h:∀p∈pins',s.heap.get? p.1=some p.2/\H p.1=none/\p.1≠X.env.locals/\p.1∉X.fs/\∀v,p.2.data ≠ .cell v):Inv X pins' σ H s :=
 ⟨I.ok,I.os,I.bare,I.base,I.loc,I.cell,I.free,I.freeC,fun p hp=>(Eu.mp hp).elim (fun z=>I.pin p (FW _ z)) (h p),I.hok,I.len⟩
theorem i5{N:List Str}(hN:N.Nodup)(a:N[i]?=some x)(b:N[j]?=some x):i=j:=by
 obtain⟨h1,e1⟩:=BG.mp a;obtain⟨h2,e2⟩:=BG.mp b;exact(List.getElem_inj hN).mp (e1.trans e2.symm)
theorem ga{M:G5}{v:V}{u:Bo}{Q:Unit->Bp->Prop}(I:Inv X pins σ H s)(hN:X.N.Nodup)(hi:X.N[i]?=some x)(hx:Loc X.env.scope x)(r:RelV v u)
 (h:∀s',Inv X pins (σ.set i (some v)) H s'->(∃a,DA a s.heap s'.heap/\(a=X.env.locals\/X.env.cells.lookup x=some a))->Q () s')(hf:autoParam (X.fn x=true\/X.env.scope.names.lookup x=some .local) æg._auto_1):BS M A (storeName X.env x u) Q E s:=by
 obtain⟨m,hn,hl⟩:=id I.loc;have hcls:(X.env.scope.kind == .class||(X.env.scope.kind == .module&&X.env.locals != X.env.globals))=false:=by rw[I.ok.kind];rfl
 have hiσ:i<σ.length:=by rw[I.len];exact(BG.mp hi).1
 have cne:=I.cne
 have tracked:∀{a:Addr}{h':Heap},(∃o,s.heap.get? a=some o/\H a=none)->DA a s.heap h'->Bb X.prog X.w H h':=fun{a h'} ha hs b ob e=>by
  obtain⟨_,_,hfree⟩:=ha;refine(I.hok b ob e).stay (fun c w' hc q=>(hs.2 c ?_).trans q) (fun _ q=>q) fun _ _ q=>q;rintro rfl;rcases hc with rfl|hc
  · rw[hfree]at e;cases e
  · rw[hfree]at hc;cases hc
 rcases hx with hk|hk
 · refine wpAny_storeName_local hk hn (fun h' hn' hs=>?_) hcls;obtain⟨oL,_,_,hoL,_⟩:=id hn;refine h _ ⟨I.ok,I.os,I.bare,⟨fun b o e n hb hx=>?_,fun b o e n hb hx=>?_,I.base.free,fun b o e hx=>?_,I.base.tups,I.base.frzs,I.base.tbls⟩,⟨_,hn',fun j y v' e1 e2 e3=>?_⟩,fun y c e=>?_,I.free,I.freeC,fun p hp=>?_,tracked ⟨oL,hoL,I.free⟩ hs,by simpa using I.len⟩ ⟨_,hs,.inl rfl⟩
   · exact(hs.2 b (BV (Bq (Bx e) I.ok.above))).trans (I.base.keep b o e n hb hx)
   · obtain⟨sl,e1⟩:=I.base.slot b o e n hb hx;exact⟨sl,(hs.2 b (BV (Bq (Bx e) I.ok.above))).trans e1⟩
   · obtain⟨o',e1⟩:=I.base.there b o e hx;exact⟨o',(hs.2 b (BV (Bq (Bx e) I.ok.above))).trans e1⟩
   · by_cases hj:j=i
     · subst hj;rw[hi]at e1;cases e1;rw[BK hiσ]at e2;cases e2;exact⟨u,r,.inl ⟨hk,by simp⟩⟩
     · rw[BC (Ek hj)]at e2;obtain⟨u',r',q⟩:=hl j y v' e1 e2 e3;refine⟨u',r',?_⟩;rcases q with⟨k,e⟩|⟨k,c,e,z⟩
       · refine .inl ⟨k,?_⟩;have:y≠x:=fun e=>hj (i5 hN e1 (e▸hi));simp[this,e]
       · exact .inr ⟨k,c,e,z.sameBut hs (cne y c e)⟩
   · obtain⟨w',z⟩:=I.cell y c e;exact⟨w',z.sameBut hs (cne y c e)⟩
   · obtain⟨e,n,ne,nf,d⟩:=I.pin p hp;exact⟨(hs.2 p.1 ne).trans e,n,ne,nf,d⟩
 · have hfn:X.fn x=true:=by
     rcases hf with z|z
     · exact z
     · rw[z]at hk;cases hk
   obtain⟨c,hc⟩:=I.ok.has x (.inl hk);obtain⟨w',z⟩:=I.cell x c hc;refine wpAny_storeName_cell I.ok.kind hk hc z (fun h' hc' hs=>?_);obtain⟨oc,hoc,hocd⟩:=id z;refine h {s with heap:=h' } ⟨I.ok,I.os,I.bare,⟨fun b o e n hb hx=>?_,fun b o e n hb hx=>?_,I.base.free,fun b o e hx=>?_,I.base.tups,I.base.frzs,I.base.tbls⟩,⟨m,hn.sameBut hs (Ek (cne x c hc)),fun j y v' e1 e2 e3=>?_⟩,fun y c' e=>?_,I.free,I.freeC,fun p hp=>?_,tracked ⟨oc,hoc,I.freeC x c hc⟩ hs,by simpa using I.len⟩ ⟨c,hs,.inr hc⟩
   · exact(hs.2 b (BV (Bq (Bx e) (I.ok.cab x c hfn hc)))).trans (I.base.keep b o e n hb hx)
   · obtain⟨sl,e1⟩:=I.base.slot b o e n hb hx;exact⟨sl,(hs.2 b (BV (Bq (Bx e) (I.ok.cab x c hfn hc)))).trans e1⟩
   · obtain⟨o',e1⟩:=I.base.there b o e hx;exact⟨o',(hs.2 b (BV (Bq (Bx e) (I.ok.cab x c hfn hc)))).trans e1⟩
   · by_cases hj:j=i
     · subst hj;rw[hi]at e1;cases e1;rw[BK hiσ]at e2;cases e2;exact⟨u,r,.inr ⟨.inl hk,c,hc,hc'⟩⟩
     · rw[BC (Ek hj)]at e2;obtain⟨u',r',q⟩:=hl j y v' e1 e2 e3;refine⟨u',r',?_⟩;rcases q with q|⟨k,c',e,z'⟩
       · exact .inl q
       · refine .inr ⟨k,c',e,z'.sameBut hs ?_⟩;rintro rfl;exact hj (i5 hN e1 (I.ok.inj _ _ _ e hc▸hi))
   · by_cases hcc:c'=c
     · subst hcc;exact⟨_,hc'⟩
     · obtain⟨w2,z2⟩:=I.cell y c' e;exact⟨w2,z2.sameBut hs hcc⟩
   · obtain⟨e,n,ne,nf,d⟩:=I.pin p hp;refine⟨(hs.2 p.1 ?_).trans e,n,ne,nf,d⟩;intro q;rw[q,hoc]at e;have q':oc=p.2:=BW e;exact d w' (by rw[<- q'];exact hocd)
theorem cF{M:G5}{v:V}{u:Bo}{Q:Unit->Bp->Prop}(I:Inv X pins σ H s)(hN:X.N.Nodup)(hi:X.N[i]?=some x)(hx:Loc X.env.scope x)(r:RelV v u)
 (h:∀s',Inv X pins (σ.set i (some v)) H s'->Q () s')(hf:autoParam (X.fn x=true\/X.env.scope.names.lookup x=some .local) æg._auto_1):BS M A (storeName X.env x u) Q E s :=
 ga I hN hi hx r (fun s' I' _=>h s' I') hf
end
abbrev XK:=Bo->Option Addr->Hp->Prop
abbrev St:=List (Option V)
abbrev VK:=V->Hp->Prop
abbrev TE:=St->Hp->VK->Prop
abbrev TT:=St->Hp->(Bool->Hp->Prop)->Prop
abbrev TA:=St->Hp->(List V->Hp->Prop)->Prop
structure Ends where
 nx:St->Hp->Prop
 rt:VK
 bk:St->Hp->Prop:=fun _ _=>False
 ct:St->Hp->Prop:=fun _ _=>False
abbrev TS:=Ends->St->Hp->Prop
noncomputable def EP(X:Cx)(pins:List (Addr×Obj))(σ:St)(Q:VK)(u:Bo)(s':Bp):Prop:=∃v H',Inv X pins σ H' s'/\RelV v u/\Q v H'
noncomputable def TP(X:Cx)(pins:List (Addr×Obj))(σ:St)(Q:Bool->Hp->Prop)(b:Bool)(s':Bp):Prop:=∃H',Inv X pins σ H' s'/\Q b H'
noncomputable def AP(X:Cx)(pins:List (Addr×Obj))(σ:St)(Q:List V->Hp->Prop)(us:List Bo)(s':Bp):Prop:=∃vs H',Inv X pins σ H' s'/\bp vs us/\Q vs H'
noncomputable def SP(X:Cx)(pins:List (Addr×Obj))(D:Ends)(f:Flow)(s':Bp):Prop :=
 match f with
 | .next=>∃σ' H',Inv X pins σ' H' s'/\D.nx σ' H'
 | .brk=>∃σ' H',Inv X pins σ' H' s'/\D.bk σ' H'
 | .cont=>∃σ' H',Inv X pins σ' H' s'/\D.ct σ' H'
 | .ret u=>∃v σ' H',Inv X pins σ' H' s'/\RelV v u/\D.rt v H'
noncomputable def PE(X:Cx)(e:Expr)(t:TE):Prop :=
 ∀(pins:List (Addr×Obj))(s:Bp)(σ:St)(H:Hp)(Q:VK),Inv X pins σ H s->t σ H Q->BS (BY X.prog X.w) X.A (eval e X.env) (EP X pins σ Q) X.xe s
noncomputable def PT(X:Cx)(e:Expr)(t:TT):Prop :=
 ∀(pins:List (Addr×Obj))(s:Bp)(σ:St)(H:Hp)(Q:Bool->Hp->Prop),Inv X pins σ H s->t σ H Q->BS (BY X.prog X.w) X.A (isTrue e X.env (eval e X.env)) (TP X pins σ Q) X.xe s
noncomputable def PW(X:Cx)(e:Expr)(t:TT):Prop :=
 ∀(whole:Sem Bo)(pins:List (Addr×Obj))(s:Bp)(σ:St)(H:Hp)(Q:Bool->Hp->Prop),Inv X pins σ H s->t σ H Q->BS (BY X.prog X.w) X.A (isTrue e X.env whole) (TP X pins σ Q) X.xe s
theorem PW.pt{X:Cx}{t:TT}(h:PW X e t):PT X e t:=h _
noncomputable def PA(X:Cx)(es:List Expr)(t:TA):Prop :=
 ∀(pos:Pos)(pins:List (Addr×Obj))(s:Bp)(σ:St)(H:Hp)(Q:List V->Hp->Prop),Inv X pins σ H s->t σ H Q->BS (BY X.prog X.w) X.A (spliced (Dj pos (BF es X.env))) (AP X pins σ Q) X.xe s
noncomputable def PS(X:Cx)(st:Stmt)(t:TS):Prop :=
 ∀(pins:List (Addr×Obj))(s:Bp)(σ:St)(H:Hp)(D:Ends),Inv X pins σ H s->t D σ H->BS (BY X.prog X.w) X.A (exec st X.env) (SP X pins D) X.xe s
noncomputable def AU(X:Cx)(st:List Stmt)(t:TS):Prop :=
 ∀(pins:List (Addr×Obj))(s:Bp)(σ:St)(H:Hp)(D:Ends),Inv X pins σ H s->t D σ H->BS (BY X.prog X.w) X.A (execs st X.env) (SP X pins D) X.xe s
theorem zr{t:Sem α}{Q Q':α->Bp->Prop}{M:G5}(h:BS M A t Q E s)(hQ:∀a s,Q a s->Q' a s):BS M A t Q' E s:=Cc h hQ fun _ _ x=>x
section
variable{X:Cx}
noncomputable def xQ(i:Nat):TE:=fun σ H Q=>∃v,σ[i]?=some (some v)/\Q v H
noncomputable def tC(v:V):TE:=fun _ H Q=>Q v H
theorem dw(hN:X.N[i]?=some x)(hv:AC X.env.scope x)(hd:autoParam ((x==("__debug__" : Str))=false) æb._auto_1)(hcd:autoParam ((x==("__classdict__" : Str))=false) æb._auto_1):PE X (.Name x pos) (xQ i):=by
 intro pins s σ H Q I h;obtain⟨v,e,h⟩:=h;obtain⟨m,hn,hl⟩:=I.loc;obtain⟨u,r,l⟩:=hl i x v hN e hv;have fin:EP X pins σ Q u s:=⟨v,H,I,r,h⟩;rcases l with⟨hk,hm⟩|⟨hk,c,hc,hcell⟩
 · exact wpAny_Name (FX I.ok.kind hk hn hm fin) hd
 · rcases hk with hk|hk
   · exact wpAny_Name (Gh I.ok.kind hk hc hcell fin) hd
   · exact wpAny_Name (wpAny_loadName_free I.ok.kind hk hc hcell fin hcd) hd
theorem au{i j pos}:PE X (.Constant (.int i) j pos) (tC (.int i)):=fun _ _ _ H _ I h=>wpAny_Constant_int ⟨.int i,H,I.tok _,⟨_,rfl⟩,h⟩
theorem we{b j pos}:PE X (.Constant (.bool b) j pos) (tC (.bl b)):=fun _ _ _ H _ I h=>Constant_bool ⟨.bl b,H,I,rfl,h⟩
noncomputable def Gl(X:Cx)(x:Str):Prop:=X.env.kindOf x=some .globalImplicit
theorem lF{σ:St}{H:Hp}{u:Bo}(I:Inv X pins σ H s)(hg:Gl X x)(hm:X.mg x=some u)(h:Q u s)
 (hd:autoParam ((x==("__debug__" : Str))=false) æb._auto_1):BS (BY X.prog X.w) X.A (eval (.Name x pos) X.env) Q E s :=
 EH I.ok.kind hg (Calls.loadGlobal_global (by rw[I.ok.glob];exact I.mod.glob.keeps I.bk) hm h) hd
theorem gH{σ:St}{H:Hp}{u:Bo}(I:Inv X pins σ H s)(hg:Gl X x)(hm:X.mg x=none)(hv:Dn x=some u)(h:Q u s)
 (hn:autoParam (x ≠ "__name__") æb._auto_1)(hd:autoParam ((x==("__debug__" : Str))=false) æb._auto_1):BS (BY X.prog X.w) X.A (eval (.Name x pos) X.env) Q E s:=by
 obtain⟨mb,h1,h2⟩:=I.mod.blt;exact EH I.ok.kind hg (Calls.loadGlobal_builtin (by rw[I.ok.glob];exact I.mod.glob.keeps I.bk) hm (by rw[I.ok.blt];exact h1.keeps I.bk) ((h2 x hn).trans hv) h) hd
theorem qG{v:V}{u:Bo}(hg:Gl X x)(hm:X.mg x=some u)(r:RelV v u)(hd:autoParam ((x==("__debug__" : Str))=false) æb._auto_1):PE X (.Name x pos) (tC v) :=
 fun _ _ _ H _ I h=>lF I hg hm ⟨v,H,I,r,h⟩ hd
theorem qJ{v:V}{u:Bo}(hg:Gl X x)(hm:X.mg x=none)(hv:Dn x=some u)(r:RelV v u)(hn:autoParam (x ≠ "__name__") æb._auto_1)(hd:autoParam ((x==("__debug__" : Str))=false) æb._auto_1):PE X (.Name x pos) (tC v) :=
 fun _ _ _ H _ I h=>gH I hg hm hv ⟨v,H,I,r,h⟩ hn hd
variable{a b:Expr}{ta tb:TE}{pos:Pos}
noncomputable def tB(t:TE):TT:=fun σ H Q=>t σ H fun x H1=>∃c,x = .bl c/\Q c H1
theorem tG{t:TE}(h:PE X e t)(he:autoParam (∀whole,isTrue e X.env whole=(do let v <- whole;standAt e.pos;GO [v] (truthy v))) æc._auto_1):PT X e (tB t):=by
 intro pins s σ H Q I hw;refine isTrue_plain (zr (h pins s σ H _ I hw) fun v s1 ⟨x,H1,I1,r1,q1⟩=>?_) (he _);obtain⟨d,rfl,q⟩:=q1;cases r1;exact CY ⟨H1,I1,q⟩
variable{tA tB':TT}{rest:List Expr}
noncomputable def yz(t u:TT):TT:=fun σ H Q=>t σ H fun c H1=>if c=true then u σ H1 Q else Q false H1
noncomputable def zw(t u:TT):TT:=fun σ H Q=>t σ H fun c H1=>if c=true then Q true H1 else u σ H1 Q
noncomputable def yt(t:TT):TT:=fun σ H Q=>t σ H fun c H1=>Q (!c) H1
theorem k8(ha:PT X a tA):PW X (.BoolOp .And [a] pos) tA:=by
 intro wh pins s σ H Q I h;refine isTrue_and (zr (ha pins s σ H Q I h) fun c s1 e=>?_)
 cases c with
 | true=>exact isTrue_and_nil e
 | false=>exact e
theorem tF(ha:PT X a tA):PW X (.BoolOp .Or [a] pos) tA:=by
 intro wh pins s σ H Q I h;refine isTrue_or (zr (ha pins s σ H Q I h) fun c s1 e=>?_)
 cases c with
 | false=>exact isTrue_or_nil e
 | true=>exact e
theorem oX(ha:PT X a tA)(hb:PW X (.BoolOp .And (b::rest) pos) tB'):PW X (.BoolOp .And (a::b::rest) pos) (yz tA tB'):=by
 intro wh pins s σ H Q I h;refine isTrue_and (zr (ha pins s σ H _ I h) fun c s1 ⟨H1,I1,q1⟩=>?_)
 cases c with
 | true=>exact hb wh pins s1 σ H1 Q I1 q1
 | false=>exact⟨H1,I1,q1⟩
theorem wb(ha:PT X a tA)(hb:PW X (.BoolOp .Or (b::rest) pos) tB'):PW X (.BoolOp .Or (a::b::rest) pos) (zw tA tB'):=by
 intro wh pins s σ H Q I h;refine isTrue_or (zr (ha pins s σ H _ I h) fun c s1 ⟨H1,I1,q1⟩=>?_)
 cases c with
 | true=>exact⟨H1,I1,q1⟩
 | false=>exact hb wh pins s1 σ H1 Q I1 q1
theorem tH(ha:PT X a tA):PT X (.UnaryOp .Not a pos) (yt tA):=by
 intro pins s σ H Q I h;exact isTrue_not (ha pins s σ H (fun c H1=>Q (!c) H1) I h)
noncomputable def vW(ta tb:TE):TE:=fun σ H Q=>ta σ H fun x H1=>∃c,x = .bl c/\if c=true then tb σ H1 Q else Q (.bl false) H1
noncomputable def vP(ta:TE):TE:=fun σ H Q=>ta σ H fun x H1=>∃c,x = .bl c/\Q (.bl (!c)) H1
theorem tR{op}{t:TE}(h:PE X a t):PE X (.BoolOp op [a] pos) t:=fun pins s σ H Q I hw=>BoolOp_one (h pins s σ H Q I hw)
theorem tT(ha:PE X a ta)(hb:PE X (.BoolOp .And (b::rest) pos) tb):PE X (.BoolOp .And (a::b::rest) pos) (vW ta tb):=by
 intro pins s σ H Q I h;refine BoolOp_and (zr (ha pins s σ H _ I h) fun v s1 ⟨x,H1,I1,r1,q1⟩=>?_);obtain⟨c,rfl,q1⟩:=q1;cases r1;refine CY ?_
 cases c with
 | true=>exact hb pins s1 σ H1 Q I1 q1
 | false=>exact⟨.bl false,H1,I1,rfl,q1⟩
theorem tS(ha:PE X a ta):PE X (.UnaryOp .Not a pos) (vP ta):=by
 intro pins s σ H Q I h;refine UnaryOp_ (zr (ha pins s σ H _ I h) fun v s1 ⟨x,H1,I1,r1,q1⟩=>?_);obtain⟨c,rfl,q1⟩:=q1;cases r1;exact not_of (CY ⟨.bl (!c),H1,I1,rfl,q1⟩)
noncomputable def zy(t:TT)(ta tb:TE):TE:=fun σ H Q=>t σ H fun c H1=>if c=true then ta σ H1 Q else tb σ H1 Q
theorem nJ{c:Expr}(hc:PT X c tA)(ha:PE X a ta)(hb:PE X b tb):PE X (.IfExp c a b pos) (zy tA ta tb):=by
 intro pins s σ H Q I h;refine wpAny_IfExp (zr (hc pins s σ H _ I h) fun d s1 ⟨H1,I1,q1⟩=>?_)
 cases d with
 | true=>exact ha pins s1 σ H1 Q I1 q1
 | false=>exact hb pins s1 σ H1 Q I1 q1
end
noncomputable def AM(K:W.Frag)(H:Hp)(a:Addr)(xs:List V):Prop :=
 Rd H a (.lst xs) \/
  ∃(o:Obj)(its:Array Bo)(n:Nat),K.lookup a=some o/\o.cls = .type "list" /\ o.dict=none/\o.data = .seq its n/\its.size<=sizeLine/\bp xs its.toList
noncomputable def AL(K:W.Frag)(H:Hp)(a:Addr)(xs:List V):Prop :=
 Rd H a (.tup xs) \/
  ∃(o:Obj)(its:Array Bo)(n:Nat),K.lookup a=some o/\o.cls = .type "tuple" /\ o.data = .seq its n/\its.size<=sizeLine/\bp xs its.toList/\o.dict=none
noncomputable def yK:Bo->Option V
 | .none=>some .non
 | .bool b=>some (.bl b)
 | .int i _=>some (.int i)
 | .str x _=>some (.str x)
 | .bytes b _=>some (.byt b)
 | .float b _=>some (.flt b)
 | .ref a=>some (.ref a)
 | .type n=>some (.ty n)
 | _=>none
theorem RelV.abs{x:V}{u:Bo}(r:RelV x u):yK u=some x:=by
 cases x with
 | non=>cases r;rfl
 | bl _=>cases r;rfl
 | int _=>obtain⟨t,rfl⟩:=r;rfl
 | str _=>obtain⟨t,rfl⟩:=r;rfl
 | byt _=>obtain⟨t,rfl⟩:=r;rfl
 | flt _=>obtain⟨t,rfl⟩:=r;rfl
 | ref _=>cases r;rfl
 | ty _=>cases r;rfl
theorem RelV.inj{x y:V}{u:Bo}(r:RelV x u)(q:RelV y u):x=y:=BW (r.abs.symm.trans q.abs)
theorem bp.inj:∀{xs ys:List V}{us:List Bo},bp xs us->bp ys us->xs=ys
 | _,_,_,.nil,.nil=>rfl
 | _,_,_,.cons r t,.cons r' t'=>by rw[r.inj r',bp.inj t t']
section
variable{X:Cx}{pins:List (Addr×Obj)}{σ:St}{H:Hp}{s:Bp}{a:Addr}{xs ys:List V}
theorem Inv.list(I:Inv X pins σ H s)(h:AM X.K H a xs):∃its:List Bo,bp xs its/\PlainL s.heap a its.toArray/\xs.length<=sizeLine:=by
 rcases h with h|⟨o,its,n,hk,hc,hd,hs,hz,r⟩
 · obtain⟨z,its,n,r,e⟩:=h.ok I.hok;exact⟨its,r,⟨_,n,e,rfl,rfl,rfl⟩,z⟩
 · refine⟨its.toList,r,⟨o,n,I.kIn a o hk,hc,hd,by simpa using hs⟩,?_⟩;have e:=r.length;simp only[Cg]at e;omega
theorem Inv.tuple(I:Inv X pins σ H s)(h:AL X.K H a xs):∃its:List Bo,bp xs its/\IsTup s.heap a its.toArray/\xs.length<=sizeLine:=by
 rcases h with h|⟨o,its,n,hk,hc,hs,hz,r,hd⟩
 · obtain⟨z,its,r,p⟩:=h.ok I.hok;exact⟨its,r,p.tup,z⟩
 · refine⟨its.toList,r,⟨o,I.kIn a o hk,hc,n,by simpa using hs⟩,?_⟩;have e:=r.length;simp only[Cg]at e;omega
theorem Inv.list_inj(I:Inv X pins σ H s)(h:AM X.K H a xs)(h':AM X.K H a ys):xs=ys:=by
 obtain⟨its,r,⟨o,n,e,_,_,d⟩,_⟩:=I.list h;obtain⟨its',r',⟨o',n',e',_,_,d'⟩,_⟩:=I.list h';rw[e]at e';cases e';rw[d]at d'
 injection d' with d1 _
 have:its=its':=by simpa using congrArg Array.toList d1
 subst this;exact r.inj r'
theorem Inv.tuple_inj(I:Inv X pins σ H s)(h:AL X.K H a xs)(h':AL X.K H a ys):xs=ys:=by
 obtain⟨its,r,⟨o,e,_,n,d⟩,_⟩:=I.tuple h;obtain⟨its',r',⟨o',e',_,n',d'⟩,_⟩:=I.tuple h';rw[e]at e';cases e';rw[d]at d'
 injection d' with d1 _
 have:its=its':=by simpa using congrArg Array.toList d1
 subst this;exact r.inj r'
end
abbrev Cx.wish(X:Cx)(E:Bo->Bp->Prop):Cx:={X with xe:=E}
abbrev Cx.nox(X:Cx):Cx:=X.wish fun _ _=>False
theorem Cx.Ok.wish{X:Cx}(ok:X.Ok)(E:Bo->Bp->Prop):(X.wish E).Ok :=
 ⟨ok.mod,ok.kind,ok.glob,ok.blt,ok.above,ok.inj,ok.has,ok.cab,ok.hd,ok.frames,ok.stk,ok.exf,ok.bs,ok.bsz,ok.noex,ok.exfs,ok.funs,ok.frf⟩
theorem Cx.Ok.unwish{X:Cx}(ok:(X.wish E).Ok):X.Ok :=
 ⟨ok.mod,ok.kind,ok.glob,ok.blt,ok.above,ok.inj,ok.has,ok.cab,ok.hd,ok.frames,ok.stk,ok.exf,ok.bs,ok.bsz,ok.noex,ok.exfs,ok.funs,ok.frf⟩
section
variable{X:Cx}{pins:List (Addr×Obj)}{σ:St}{H:Hp}{s:Bp}{E:Bo->Bp->Prop}
theorem Inv.wish(I:Inv X pins σ H s)(E:Bo->Bp->Prop):Inv (X.wish E) pins σ H s:=⟨I.ok.wish E,I.os,I.bare,I.base,I.loc,I.cell,I.free,I.freeC,I.pin,I.hok,I.len⟩
theorem Inv.unwish(I:Inv (X.wish E) pins σ H s):Inv X pins σ H s:=⟨I.ok.unwish,I.os,I.bare,I.base,I.loc,I.cell,I.free,I.freeC,I.pin,I.hok,I.len⟩
theorem SP.unwish{D:Ends}{f:Flow}{s':Bp}(h:SP (X.wish E) pins D f s'):SP X pins D f s':=by
 cases f with
 | next=>obtain⟨σ',H',I,q⟩:=h;exact⟨σ',H',I.unwish,q⟩
 | brk=>obtain⟨σ',H',I,q⟩:=h;exact⟨σ',H',I.unwish,q⟩
 | cont=>obtain⟨σ',H',I,q⟩:=h;exact⟨σ',H',I.unwish,q⟩
 | ret u=>obtain⟨v,σ',H',I,r,q⟩:=h;exact⟨v,σ',H',I.unwish,r,q⟩
theorem AU.nox{st:List Stmt}{t:TS}(h:AU X.nox st t):AU X st t:=fun pins s σ H D I hw =>
 Cc (h pins s σ H D (I.wish _) hw) (fun _ _ q=>q.unwish) fun _ _ z=>CI z
end
section
variable{X:Cx}{st:Stmt}{rest:List Stmt}{t u:TS}{e:Expr}{te:TE}{pos:Pos}
noncomputable def vQ:TS:=fun D σ H=>D.nx σ H
noncomputable def xR(t u:TS):TS:=fun D σ H=>t {D with nx:=u D} σ H
theorem eZ:AU X [] vQ:=fun _ _ σ H _ I h=>Ev ⟨σ,H,I,h⟩
theorem aZ(h1:PS X st t)(h2:AU X rest u):AU X (st::rest) (xR t u):=by
 intro pins s σ H D I h;refine wpAny_execs_cons (zr (h1 pins s σ H {D with nx:=u D} I h) fun f s1 q=>?_)
 cases f with
 | next =>
   obtain⟨σ',H',I',q⟩:=q
   exact h2 pins s1 σ' H' D I' q
 | ret v=>exact q
 | brk=>exact q
 | cont=>exact q
theorem cv(h1:PS X st t):AU X [st] t:=by
 intro pins s σ H D I h;refine wpAny_execs_cons (zr (h1 pins s σ H D I h) fun f s1 q=>?_)
 cases f with
 | next=>exact Ev q
 | ret v=>exact q
 | brk=>exact q
 | cont=>exact q
noncomputable def yq(te:TE):TS:=fun D σ H=>te σ H D.rt
theorem iW(he:PE X e te):PS X (.Return (some e) pos) (yq te):=by
 intro pins s σ H D I h;exact wpAny_Return_some (zr (he pins s σ H _ I h) fun v s1 ⟨x,H1,I1,r1,q1⟩=>⟨x,σ,H1,I1,r1,q1⟩)
noncomputable def yw(c:TT)(t u:TS):TS:=fun D σ H=>c σ H fun b H1=>if b=true then t D σ H1 else u D σ H1
theorem nA{c:Expr}{a b:List Stmt}{tc:TT}(hc:PT X c tc)(ha:AU X a t)(hb:AU X b u):PS X (.If c a b pos) (yw tc t u):=by
 intro pins s σ H D I h;refine wpAny_If (zr (hc pins s σ H _ I h) fun d s1 ⟨H1,I1,q1⟩=>?_)
 cases d with
 | true=>exact ha pins s1 σ H1 D I1 q1
 | false=>exact hb pins s1 σ H1 D I1 q1
noncomputable def sO:TS:=fun _ _ _=>False
theorem ny:PS X st sO:=fun _ _ _ _ _ _ h=>h.elim
end
abbrev TG:=V->St->Hp->(St->Hp->Prop)->Prop
abbrev AK:=List V->St->Hp->(St->Hp->Prop)->Prop
noncomputable def PG(X:Cx)(target:Expr)(t:TG):Prop :=
 ∀ (pins:List (Addr×Obj))(s:Bp)(σ:St)(H:Hp)(v:V)(u:Bo)(Q:St->Hp->Prop),Inv X pins σ H s->RelV v u->t v σ H Q ->
   BS (BY X.prog X.w) X.A (Ew target X.env u) (fun _ s'=>∃σ' H',Inv X pins σ' H' s'/\Q σ' H') X.xe s
noncomputable def AZ(X:Cx)(ts:List Expr)(t:AK):Prop :=
 ∀ (pins:List (Addr×Obj))(s:Bp)(σ:St)(H:Hp)(vs:List V)(us:List Bo)(Q:St->Hp->Prop),Inv X pins σ H s->bp vs us->t vs σ H Q ->
   BS (BY X.prog X.w) X.A (Gs ((C8 ts X.env).map (·.2)) us) (fun _ s'=>∃σ' H',Inv X pins σ' H' s'/\Q σ' H') X.xe s
abbrev wI:=V->V->V->Hp->(Hp->Prop)->Prop
noncomputable def ye(X:Cx)(t:wI):Prop :=
 ∀ (pins:List (Addr×Obj))(s:Bp)(σ:St)(H:Hp)(o i v:V)(ov iv u:Bo)(Q:Hp->Prop),Inv X pins σ H s->RelV o ov->RelV i iv->RelV v u->t o i v H Q ->
   BS (BY X.prog X.w) X.A (setItem ov iv u) (fun _ s'=>∃H',Inv X pins σ H' s'/\Q H') X.xe s
abbrev AI:=V->V->Hp->VK->Prop
noncomputable def AW(X:Cx)(op:GM)(t:AI):Prop :=
 ∀ (pins:List (Addr×Obj))(s:Bp)(σ:St)(H:Hp)(x y:V)(v u:Bo)(Q:VK),Inv X pins σ H s->RelV x v->RelV y u->t x y H Q ->
   BS (BY X.prog X.w) X.A (inplaceOp op v u) (EP X pins σ Q) X.xe s
section
variable{X:Cx}{pos:Pos}
noncomputable def ot(i:Nat):TG:=fun v σ H Q=>Q (σ.set i (some v)) H
theorem ie(hN:X.N.Nodup)(hi:X.N[i]?=some x)(hx:Loc X.env.scope x)(hf:autoParam (X.fn x=true\/X.env.scope.names.lookup x=some .local) æg._auto_1):PG X (.Name x pos) (ot i):=by
 intro pins s σ H v u Q I r h;exact wpAny_assign_Name (cF I hN hi hx r (fun s' I'=>⟨_,H,I',h⟩) hf)
noncomputable def yJ:AK:=fun vs σ H Q=>vs=[]/\Q σ H
noncomputable def ww(t:TG)(u:AK):AK:=fun vs σ H Q=>∃v r,vs=v::r/\t v σ H fun σ' H'=>u r σ' H' Q
theorem qD:AZ X [] yJ:=by
 intro pins s σ H vs us Q I r h;obtain⟨e,h⟩:=h;subst e;cases r;exact assignInOrder_nil ⟨σ,H,I,h⟩
theorem nD{es:List Expr}{t:TG}{u:AK}(h1:PG X e t)(h2:AZ X es u)
 (hs:autoParam ((C8 (e::es) X.env).map (·.2)=Ew e X.env::(C8 es X.env).map (·.2)) æa._auto_1):AZ X (e::es) (ww t u):=by
 intro pins s σ H vs us Q I r h;obtain⟨v,vr,e1,h⟩:=h;subst e1
 cases r with
 | cons r rr =>
   rw[hs];refine EK (zr (h1 pins s σ H _ _ _ I r h) fun _ s1 ⟨σ1,H1,I1,q1⟩=>?_);exact h2 pins s1 σ1 H1 _ _ Q I1 rr q1
noncomputable def yH(K:W.Frag)(n:Nat)(t:AK):TG:=fun v σ H Q=>∃a xs,v = .ref a/\AL K H a xs/\xs.length=n/\t xs σ H Q
theorem tP{es:List Expr}{k:Nat}{t:AK}(hc:X.calm=true)(h:AZ X es t)
 (hn:autoParam ((C8 es X.env).length=n) æa._auto_1)(hst:autoParam ((C8 es X.env).findIdx? (·.1)=none) æa._auto_1):PG X (.Tuple es k pos) (yH X.K n t):=by
 intro pins s σ H v u Q I r hw;obtain⟨a,xs,e1,hq,hl,hw⟩:=hw;subst e1;cases r;obtain⟨its,rv,ht,hz⟩:=I.tuple hq;refine assign_Tuple_tuple (I.ok.hd hc) ht (by simp[hn,<- hl,rv.length]) hst fun h' hx=>?_;have I1:Inv X pins σ H {s with heap:=h' }:=I.kept (t':=s.toks) fun b o e=>hx b o (BV (Bx e)) e;exact h pins _ σ H xs _ Q I1 (by simpa using rv) hw
noncomputable def yI(to ti:TE)(t:wI):TG:=fun v σ H Q=>to σ H fun o H1=>ti σ H1 fun i H2=>t o i v H2 fun H3=>Q σ H3
theorem iY{o i:Expr}{to ti:TE}{t:wI}(ho:PE X o to)(hi:PE X i ti)(hs:ye X t)
 (ha:autoParam (∀v,Ew (.Subscript o i pos) X.env v=(do
  let ov <- GO [v] (eval o X.env)
  let iv <- GO [v,ov] (eval i X.env)
  standAt pos
  GO [v,ov,iv] (setItem ov iv v)
  release [v,ov,iv] [])) æc._auto_1):PG X (.Subscript o i pos) (yI to ti t):=by
 intro pins s σ H v u Q I r h;rw[ha];refine Bm (Cr (zr (ho pins s σ H _ I h) fun ov s1 ⟨x,H1,I1,r1,q1⟩=>?_));refine Bm (Cr (zr (hi pins s1 σ H1 _ I1 q1) fun iv s2 ⟨y,H2,I2,r2,q2⟩=>?_));refine Bm (DH (Bm (Cr (zr (hs pins s2 σ H2 x y v ov iv u _ I2 r1 r2 r q2) fun _ s3 ⟨H3,I3,q3⟩=>?_))));exact wpAny_release ⟨σ,H3,I3,q3⟩
noncomputable def vV(te:TE)(g:TG):TS:=fun D σ H=>te σ H fun x H1=>g x σ H1 D.nx
theorem gB{te:TE}{g:TG}(he:PE X e te)(hg:PG X tg g)(hs:autoParam (E2 [tg] e pos.line X.env=pure false) æa._auto_1)(hw:autoParam (DT [tg] e X.env=pure none) æa._auto_1)
 (h1:autoParam ((C8 [tg] X.env).map (·.2)=[Ew tg X.env]) æa._auto_1):PS X (.Assign [tg] e pos) (vV te g):=by
 intro pins s σ H D I h;refine wpAny_Assign_stores (zr (he pins s σ H _ I h) fun v s1 ⟨x,H1,I1,r1,q1⟩=>?_) hs hw;rw[h1];exact zr (hg pins s1 σ H1 x v _ I1 r1 q1) fun _ s2 q=>q
theorem cI{te:TE}(hN:X.N.Nodup)(hi:X.N[i]?=some x)(hx:Loc X.env.scope x)(he:PE X e te)(hs:autoParam (DU e (some (.Name x pos')) pos.line X.env=pure false) æa._auto_1)(hf:autoParam (X.fn x=true\/X.env.scope.names.lookup x=some .local) æg._auto_1) :
 PS X (.Assign [.Name x pos'] e pos) (vV te (ot i)):=by
 intro pins s σ H D I h;refine wpAny_Assign_Name (zr (he pins s σ H _ I h) fun v s1 ⟨y,H1,I1,r1,q1⟩=>?_) hs;exact cF I1 hN hi hx r1 (fun s2 I2=>⟨_,H1,I2,q1⟩) hf
noncomputable def yr(i j:Nat)(ta:TA):TS:=fun D σ H=>ta σ H fun vs H1=>∃v w,vs=[v,w]/\D.nx ((σ.set i (some v)).set j (some w)) H1
theorem tI{y:Str}{a b:Expr}{ta:TA}{px py pt:Pos}{kt k2 pt2}(hc:X.calm=true)(hN:X.N.Nodup)(hi:X.N[i]?=some x)(hj:X.N[j]?=some y)(hij:i≠j)
 (hx:X.env.scope.names.lookup x=some .local)(hy:X.env.scope.names.lookup y=some .local)(ha:PA X [a,b] ta)
 (hw:DT [.Tuple [.Name x px,.Name y py] kt pt] (.Tuple [a,b] k2 pt2) X.env=pure (some [x,y]))
 (hs:autoParam (E2 [.Tuple [.Name x px,.Name y py] kt pt] (.Tuple [a,b] k2 pt2) pos.line X.env=pure false) æa._auto_1) :
 PS X (.Assign [.Tuple [.Name x px,.Name y py] kt pt] (.Tuple [a,b] k2 pt2) pos) (yr i j ta):=by
 intro pins s σ H D I h;rw[exec_Assign_arm];refine Bm (DH ?_);rw[hs];refine Bm (Bs ?_);rw[if_neg (by decide)];refine Bm (Tuple_ (zr (ha _ pins s σ H _ I h) fun us s1 ⟨vs,H1,I1,r1,q1⟩=>?_));obtain⟨v,w,e1,q1⟩:=q1;subst e1
 obtain⟨u1,u2,rfl,rv,rw'⟩:∃u1 u2,us=[u1,u2]/\RelV v u1/\RelV w u2:=by
  cases r1 with
  | cons p q =>
    cases q with
    | cons p' q' =>
      cases q';exact⟨_,_,rfl,p,p'⟩
 refine CZ ?_ (by show 2<=sizeLine;decide);have I2:Inv X pins σ H1 {s1 with heap:=s1.heap.push {cls:=.type "tuple", data:=.seq [u1,u2].toArray}}:=I1.kept (t':=s1.toks) fun b o e=>Bn _ e;rw[hw];refine Bm (Bs ?_);show BS (BY X.prog X.w) X.A (do rule "assign.swapped-stores"; let items <- unpackItems (.ref s1.heap.objs.size) 2 none;Gs [fun v=>bindName X.env y v,fun v=>bindName X.env x v] items.reverse;pure Flow.next) _ _ _;refine Bm (wpAny_rule (Bm (unpackItems_tuple (items:=#[u1,u2]) (I.ok.hd hc) (IsTup.new s1.heap _) fun h' hx'=>?_)));have I3:=I2.kept (h':=h') (t':=s1.toks) fun b o e=>hx' b o (BV (Bx e)) e;show BS _ _ (Gs [fun v=>bindName X.env y v,fun v=>bindName X.env x v] [u2,u1] >>= fun _=>pure Flow.next) _ _ _;refine Bm (EK (wpAny_bindName (cF I3 hN hj (.inl hy) rw' (fun s2 I4=>?_) (.inr hy))));refine EK (wpAny_bindName (cF I4 hN hi (.inl hx) rv (fun s3 I5=>assignInOrder_nil (Bs ?_)) (.inr hx)));rw[List.set_comm _ _ (Ek hij)]at I5;exact⟨_,H1,I5,q1⟩
noncomputable def yy(i:Nat)(te:TE)(ti:AI):TS:=fun D σ H=>∃x,σ[i]?=some (some x)/\te σ H fun y H1=>ti x y H1 fun z H2=>D.nx (σ.set i (some z)) H2
theorem tK{te:TE}{op:GM}{ti:AI}(hN:X.N.Nodup)(hi:X.N[i]?=some x)(hx:Loc X.env.scope x)(he:PE X e te)(ho:AW X op ti)(hf:autoParam (X.fn x=true\/X.env.scope.names.lookup x=some .local) æg._auto_1) :
 PS X (.AugAssign (.Name x pos') op e pos) (yy i te ti):=by
 intro pins s σ H D I h;obtain⟨v,e1,h⟩:=h;obtain⟨m,hn,hl⟩:=I.loc;have vis:AC X.env.scope x:=by rcases hx with k|k;exact .inl k;exact .inr (.inl k)
 obtain⟨u,r,l⟩:=hl i x v hi e1 vis;refine wpAny_AugAssign_Name ?_
 have go:BS (BY X.prog X.w) X.A (eval e X.env) (fun w s₂=>BS (BY X.prog X.w) X.A (inplaceOp op u w) (fun r s₃=>BS (BY X.prog X.w) X.A (storeName X.env x r) (fun _=>SP X pins D .next) X.xe s₃) X.xe s₂) X.xe s:=by
  refine zr (he pins s σ H _ I h) fun w s1 ⟨y,H1,I1,r1,q1⟩=>?_;refine zr (ho pins s1 σ H1 v y u w _ I1 r r1 q1) fun z s2 ⟨zv,H2,I2,r2,q2⟩=>?_;exact cF I2 hN hi hx r2 (fun s3 I3=>⟨_,H2,I3,q2⟩) hf
 rcases l with⟨hk,hm⟩|⟨hk,c,hc,hcell⟩
 · exact FX I.ok.kind hk hn hm go
 · rcases hk with hk|hk
   · exact Gh I.ok.kind hk hc hcell go
   · rcases hx with k|k
     · have:X.env.scope.names.lookup x=some .free:=hk;rw[k]at this;cases this
     · have:X.env.scope.names.lookup x=some .free:=hk;rw[k]at this;cases this
noncomputable def Ag(f:Int->Int->Int):AI:=fun x y H Q=>∃i j,x = .int i/\y = .int j/\Q (.int (f i j)) H
theorem uh:AW X .Add (Ag fun i j=>i+j):=by
 intro pins s σ H x y v u Q I r1 r2 h;obtain⟨i,j,e1,e2,q⟩:=h;subst e1;subst e2;obtain⟨t,rfl⟩:=r1;obtain⟨t',rfl⟩:=r2;exact iadd_int ⟨.int _,H,I.tok _,⟨_,rfl⟩,q⟩
theorem ug:AW X .Sub (Ag fun i j=>i-j):=by
 intro pins s σ H x y v u Q I r1 r2 h;obtain⟨i,j,e1,e2,q⟩:=h;subst e1;subst e2;obtain⟨t,rfl⟩:=r1;obtain⟨t',rfl⟩:=r2;exact isub_int ⟨.int _,H,I.tok _,⟨_,rfl⟩,q⟩
end
section
variable{X:Cx}{pos:Pos}
noncomputable def sN(c:TT)(tb:TS):TS:=fun D σ H=>∃W:Nat->St->Hp->Prop,(∃m,W m σ H)/\∀m σ H,W m σ H ->
 c σ H fun b H1=>if b=true then ∃N:St->Hp->Prop,(∀σ' H',N σ' H'->∃m',m'<m/\W m' σ' H')/\tb {D with nx:=N,ct:=N,bk:=D.nx} σ H1 else D.nx σ H1
theorem iV{c:Expr}{body:List Stmt}{tc:TT}{tb:TS}(hp:GP (BY X.prog X.w) X.A X.env X.xe)(hc:PT X c tc)(hb:AU X body tb):PS X (.While c body [] pos) (sN tc tb):=by
 intro pins s σ H D I h;obtain⟨W,⟨m0,w0⟩,turn⟩:=h;refine wpAny_While (codeAny_whileLoop (fun n s'=>∃σ' H',Inv X pins σ' H' s'/\W n σ' H') ?_ m0 ⟨σ,H,I,w0⟩);rintro n s1 ⟨σ1,H1,I1,w1⟩;refine Dk hp (zr (hc pins s1 σ1 H1 _ I1 (turn n σ1 H1 w1)) fun b s2 ⟨H2,I2,q2⟩=>?_)
 cases b with
 | true =>
   obtain⟨N,hN,q2⟩:=q2;rw[if_pos rfl];refine Dk hp (zr (hb pins s2 σ1 H2 _ I2 q2) fun f s3 q3=>?_)
   cases f with
   | next =>
     obtain⟨σ3,H3,I3,n3⟩:=q3;obtain⟨m',hm,w3⟩:=hN σ3 H3 n3
     exact⟨m',hm,σ3,H3,I3,w3⟩
   | cont =>
     obtain⟨σ3,H3,I3,n3⟩:=q3;obtain⟨m',hm,w3⟩:=hN σ3 H3 n3
     exact⟨m',hm,σ3,H3,I3,w3⟩
   | brk=>exact q3
   | ret v=>exact q3
 | false =>
   rw[if_neg BO];exact Ev ⟨σ1,H2,I2,q2⟩
end
structure It where
 go:Nat->Hp->Prop
 yld:Nat->Hp->V->Hp->Prop
 stop:Nat->Hp->Prop
noncomputable def jW(X:Cx)(pins:List (Addr×Obj))(H:Hp)(b:Addr):Prop :=
 H b=none/\b≠X.env.locals/\b∉X.fs/\(b∈X.ex\/X.s₀.heap.objs.size<=b)/\(∀x c,X.env.cells.lookup x=some c->c≠b)/\∀p∈X.pn++pins,p.1≠b
theorem Inv.fpOk{X:Cx}{σ:St}{H H':Hp}{b:Addr}(I:Inv X pins σ H s)(hb:s.heap.objs.size<=b)(hn:H' b=none):jW X pins H' b:=by
 refine⟨hn,Ee (Bq I.lt hb),I.nofs hb,.inr (CC I.sz hb),fun x c e z=>?_,fun p hp z=>?_⟩
 · obtain⟨v,q⟩:=I.cell x c e;exact absurd (Bq q.lt (by rw[z];exact hb)) (CP _)
 · exact absurd (Bq (Bx (I.pin p hp).1) (by rw[z];exact hb)) (CP _)
structure Turn (P:BE) (w:B2) (K:W.Frag) (tg:Expr) (J:It) (fp:List Addr) (it:Addr) (tn:Nat->Heap->Prop):Prop where
 mem:it∈fp
 obj:∀i h,tn i h->∀b∈fp,∃o,h.get? b=some o/\∀v,o.data ≠ .cell v
 keep:∀i h h',tn i h->(∀b∈fp,∀o,h.get? b=some o->h'.get? b=some o)->tn i h'
 item:∀(X:Cx),X.prog=P->X.w=w->X.K=K->X.calm=true->∀(i:Nat)(pins:List (Addr×Obj))(s:Bp)(σ:St)(H:Hp)(E:Bo->Bp->Prop),Inv X pins σ H s->(∀b∈fp,jW X pins H b)->tn i s.heap->J.go i H ->
  BS (BY P w) X.A (Gu (.ref it)) (fun r s1=>∃u,r=some u /\
   BS (BY P w) X.A (DV tg (.ref it) u) (fun _ s2=>∃x H',Inv X pins σ H' s2/\RelV x u/\J.yld i H x H'/\tn (i+1) s2.heap/\∀b∈fp,H' b=none) E s1) E s
 done:∀(X:Cx),X.prog=P->X.w=w->X.K=K->X.calm=true->∀(i:Nat)(pins:List (Addr×Obj))(s:Bp)(σ:St)(H:Hp)(E:Bo->Bp->Prop),Inv X pins σ H s->(∀b∈fp,jW X pins H b)->tn i s.heap->J.stop i H ->
  BS (BY P w) X.A (Gu (.ref it)) (fun r s1=>r=none/\Inv X pins σ H s1) E s
 self:∀(A:BX)(i:Nat)(s:Bp)(Q:Bo->Bp->Prop)(E:Bo->Bp->Prop),tn i s.heap->Q (.ref it) s->BS (BY P w) A (pyIter (.ref it)) Q E s
abbrev TI:=St->Hp->(It->Hp->Prop)->Prop
noncomputable def AY(X:Cx)(pins:List (Addr×Obj))(σ:St)(tg:Expr)(R:It->Hp->Prop)(itv:Bo)(s2:Bp):Prop :=
 ∃(it:Addr)(fp:List Addr)(tn:Nat->Heap->Prop)(J:It)(H':Hp),itv = .ref it/\Inv X pins σ H' s2/\Turn X.prog X.w X.K tg J fp it tn/\tn 0 s2.heap/\(∀b∈fp,jW X pins H' b)/\R J H'
noncomputable def PI(X:Cx)(tg iter:Expr)(wi:TI):Prop :=
 ∀ (pins:List (Addr×Obj))(s:Bp)(σ:St)(H:Hp)(R:It->Hp->Prop),Inv X pins σ H s->wi σ H R ->
   BS (BY X.prog X.w) X.A (eval iter X.env) (fun v s1=>BS (BY X.prog X.w) X.A (pyIter v) (AY X pins σ tg R) X.xe s1) X.xe s
theorem rf{M:G5}{it:Addr}{u:Bo}{n:String}{vs:Array Bo}{Q:Unit->Bp->Prop}(ho:s.heap.get? it=some o)(hc:o.cls = .type n)(hd:o.data = .fields vs)
 (hn:["enumerate", "zip", "dict_itemiterator", "dict_reverseitemiterator", "odict_iterator", "itertools.zip_longest", "itertools.pairwise"].contains n=false)(hQ:Q () s):BS M A (DV tg (.ref it) u) Q E s:=by
 unfold DV
 cases tg<;>first
  | exact Bs hQ
  | (cases u<;>first
      | exact Bs hQ
      | (refine Bm (wpAny_load ho ?_)
         rw[hc,hd];show BS M A (if(["enumerate", "zip", "dict_itemiterator", "dict_reverseitemiterator", "odict_iterator", "itertools.zip_longest", "itertools.pairwise"].contains n&&vs[0]?==some (G1 _))=true then _ else _) Q E s;rw[if_neg (by intro h;rw[hn,Bool.false_and]at h;cases h)]
         exact Bs hQ))
noncomputable def Ba(K:W.Frag)(a:Addr):It :=
 ⟨fun i H=>∃xs x,AM K H a xs/\xs[i]?=some x,fun i H x H'=>H'=H/\∀xs,AM K H a xs->xs[i]?=some x,fun i H=>∃xs,AM K H a xs/\xs.length<=i⟩
noncomputable def A9(K:W.Frag)(a:Addr):It :=
 ⟨fun i H=>∃xs x,AL K H a xs/\xs[i]?=some x,fun i H x H'=>H'=H/\∀xs,AL K H a xs->xs[i]?=some x,fun i H=>∃xs,AL K H a xs/\xs.length<=i⟩
noncomputable def A_(lo:Int)(n:Nat):It:=⟨fun i _=>i<n,fun i H x H'=>H'=H/\x = .int (lo+i),fun i _=>n<=i⟩
theorem fY{w:B2}{K:W.Frag}(a it:Addr):Turn P w K tg (Ba K a) [it] it (fun i h=>h.IsListIter it a i) where
 mem:=by simp
 obj:=fun i h st b hb=>by
  have e:b=it:=by simpa using hb
  subst e;obtain⟨o,e,c,d⟩:=st;exact⟨o,e,fun v z=>by rw[d]at z;cases z⟩
 keep:=fun i h h' st k=>st.at fun o e=>k it (by simp) o e
 item:=by
  intro X hP hw hK hc i pins s σ H E I hf st hg;subst hP hw hK;obtain⟨xs,x,hq,hx⟩:=hg;obtain⟨its,rv,p,hz⟩:=I.list hq;obtain⟨u,hu,ru⟩:=rv.get hx;obtain⟨f0,f1,f2,f3,f4,f5⟩:=hf it (by simp);refine wpAny_pyNext_list_item st p.isList (x:=u) (by simpa using hu) fun h' st' sb=>?_;have I1:Inv X pins σ H {s with heap:=h' }:=I.turned (t':=s.toks) (fun b o hb e=>(sb.2 b hb).trans e) f0 f1 f3 f4 f5;obtain⟨o,e,c,d⟩:=id st';exact⟨u,rfl,rf (s:={s with heap:=h' }) e c d (by decide) ⟨x,H,I1,ru,⟨rfl,fun ys hy=>by rw[I.list_inj hy hq];exact hx⟩,st',fun b hb=>(hf b hb).1⟩⟩
 done:=by
  intro X hP hw hK hc i pins s σ H E I hf st hg;subst hP hw hK;obtain⟨xs,hq,hx⟩:=hg;obtain⟨its,rv,p,hz⟩:=I.list hq;obtain⟨f0,f1,f2,f3,f4,f5⟩:=hf it (by simp);have hl:=rv.length;exact wpAny_pyNext_list_end (I.ok.hd hc) st p.isList (by simp;omega) fun h' eb=>⟨rfl,I.turned (t':=s.toks) (fun b o hb e=>eb b o hb e) f0 f1 f3 f4 f5⟩
 self:=fun _ _ _ _ _ st h=>wpAny_pyIter_listiter st h
theorem d8{w:B2}{K:W.Frag}(a it:Addr):Turn P w K tg (A9 K a) [it] it (fun i h=>h.IsTupleIter it a i) where
 mem:=by simp
 obj:=fun i h st b hb=>by
  have e:b=it:=by simpa using hb
  subst e;obtain⟨o,e,c,d⟩:=st;exact⟨o,e,fun v z=>by rw[d]at z;cases z⟩
 keep:=fun i h h' st k=>st.at fun o e=>k it (by simp) o e
 item:=by
  intro X hP hw hK hc i pins s σ H E I hf st hg;subst hP hw hK;obtain⟨xs,x,hq,hx⟩:=hg;obtain⟨its,rv,p,hz⟩:=I.tuple hq;obtain⟨u,hu,ru⟩:=rv.get hx;obtain⟨f0,f1,f2,f3,f4,f5⟩:=hf it (by simp);refine wpAny_pyNext_tuple_item st (show s.heap.IsTuple a its.toArray from p) (x:=u) (by simpa using hu) fun h' st' sb=>?_;have I1:Inv X pins σ H {s with heap:=h' }:=I.turned (t':=s.toks) (fun b o hb e=>(sb.2 b hb).trans e) f0 f1 f3 f4 f5;obtain⟨o,e,c,d⟩:=id st';exact⟨u,rfl,rf (s:={s with heap:=h' }) e c d (by decide) ⟨x,H,I1,ru,⟨rfl,fun ys hy=>by rw[I.tuple_inj hy hq];exact hx⟩,st',fun b hb=>(hf b hb).1⟩⟩
 done:=by
  intro X hP hw hK hc i pins s σ H E I hf st hg;subst hP hw hK;obtain⟨xs,hq,hx⟩:=hg;obtain⟨its,rv,p,hz⟩:=I.tuple hq;obtain⟨f0,f1,f2,f3,f4,f5⟩:=hf it (by simp);have hl:=rv.length;exact wpAny_pyNext_tuple_end (I.ok.hd hc) st (show s.heap.IsTuple a its.toArray from p) (by simp;omega) fun h' eb=>⟨rfl,I.turned (t':=s.toks) (fun b o hb e=>eb b o hb e) f0 f1 f3 f4 f5⟩
 self:=fun _ _ _ _ _ st h=>wpAny_pyIter_tupleiter st h
theorem js{w:B2}{K:W.Frag}(it:Addr)(lo:Int)(n:Nat):Turn P w K tg (A_ lo n) [it] it (fun i h=>IsRangeIter h it (lo+(i:Nat)*1) ((n:Int)-(i:Nat)) 1) where
 mem:=by simp
 obj:=fun i h st b hb=>by
  have e:b=it:=by simpa using hb
  subst e
  exact⟨_,st,fun v z=>by
   have z':Data.fields _=Data.cell v:=z
   cases z'⟩
 keep:=fun i h h' st k=>k it (by simp) _ st
 item:=by
  intro X hP hw hK hc i pins s σ H E I hf st hg;subst hP hw hK;obtain⟨f0,f1,f2,f3,f4,f5⟩:=hf it (by simp);have W:=Walks.range (prog:=X.prog) (w:=X.w) (I.ok.hd hc) it lo 1 n;refine W.item i s _ _ hg st fun v h' tk hv st' kk=>?_;obtain⟨t,rfl⟩:=hv;have I1:Inv X pins σ H {s with heap:=h',toks:=tk}:=I.turned (fun b o hb e=>kk b o (by simpa using hb) e) f0 f1 f3 f4 f5;refine⟨_,rfl,rf (s:={s with heap:=h',toks:=tk}) (n := "range_iterator") st' rfl rfl (by decide) ⟨.int (lo+i),H,I1,⟨t,?_⟩,⟨rfl,rfl⟩,st',fun b hb=>(hf b hb).1⟩⟩;rw[Int.mul_one]
 done:=by
  intro X hP hw hK hc i pins s σ H E I hf st hg;subst hP hw hK;obtain⟨f0,f1,f2,f3,f4,f5⟩:=hf it (by simp);exact wpAny_pyNext_range_end (I.ok.hd hc) st (by have:n<=i:=hg;omega) fun h' eb=>⟨rfl,I.turned (t':=s.toks) (fun b o hb e=>eb b o hb e) f0 f1 f3 f4 f5⟩
 self:=fun _ _ _ _ _ st h=>wpAny_pyIter_rangeiter st h
section
variable{X:Cx}{tg:Expr}
noncomputable def wq(K:W.Frag)(tl:TE):TI:=fun σ H R=>tl σ H fun x H1=>∃a,x = .ref a/\(∃xs,AM K H1 a xs)/\R (Ba K a) H1
noncomputable def yF(K:W.Frag)(tl:TE):TI:=fun σ H R=>tl σ H fun x H1=>∃a,x = .ref a/\(∃xs,AL K H1 a xs)/\R (A9 K a) H1
theorem qC{l:Expr}{tl:TE}(hl:PE X l tl):PI X tg l (wq X.K tl):=by
 intro pins s σ H R I h;refine zr (hl pins s σ H _ I h) fun v s1 ⟨x,H1,I1,r1,q1⟩=>?_;obtain⟨a,e,⟨xs,hq⟩,q⟩:=q1;subst e;cases r1;obtain⟨its,rv,p,hz⟩:=I1.list hq;refine D7 p.isList ?_;refine⟨s1.heap.objs.size,[s1.heap.objs.size],_,_,H1,rfl,I1.kept (t':=s1.toks) fun b o e=>Bn _ e,fY a _,⟨_,BJ _ rfl,rfl,rfl⟩,fun b hb=>?_,q⟩;have e:b=s1.heap.objs.size:=by simpa using hb
 subst e;exact I1.fpOk (By _) (I1.hok.fresh (By _))
theorem tN{l:Expr}{tl:TE}(hl:PE X l tl):PI X tg l (yF X.K tl):=by
 intro pins s σ H R I h;refine zr (hl pins s σ H _ I h) fun v s1 ⟨x,H1,I1,r1,q1⟩=>?_;obtain⟨a,e,⟨xs,hq⟩,q⟩:=q1;subst e;cases r1;obtain⟨its,rv,p,hz⟩:=I1.tuple hq;refine wpAny_pyIter_tuple (show s1.heap.IsTuple a its.toArray from p) ?_;refine⟨s1.heap.objs.size,[s1.heap.objs.size],_,_,H1,rfl,I1.kept (t':=s1.toks) fun b o e=>Bn _ e,d8 a _,⟨_,BJ _ rfl,rfl,rfl⟩,fun b hb=>?_,q⟩;have e:b=s1.heap.objs.size:=by simpa using hb
 subst e;exact I1.fpOk (By _) (I1.hok.fresh (By _))
theorem nq{σ:St}{H:Hp}{R:It->Hp->Prop}{lo hi:Int}{t u v:Tok}{tk:Nat}(I:Inv X pins σ H s)(h1 : -(2^62)<=lo)(h2:lo<2^62)(h3 : -(2^62)<=hi)(h4:hi<2^62)
 (q:R (A_ lo (hi-lo).toNat) H):BS (BY X.prog X.w) X.A (pyIter (.ref s.heap.objs.size)) (AY X pins σ tg R) E {s with heap:=s.heap.push {cls:=.type "range", data:=.fields #[.int lo t,.int hi u,.int 1 v]},toks:=tk}:=by
 refine wpAny_pyIter_range (IsRange.new ..) (small_one h1 h2 h3 h4) ?_;have I1:Inv X pins σ H {s with heap:=s.heap.push {cls:=.type "range", data:=.fields #[.int lo t,.int hi u,.int 1 v]},toks:=tk}:=I.kept fun b o e=>Bn _ e
 refine⟨(s.heap.push {cls:=.type "range", data:=.fields #[.int lo t,.int hi u,.int 1 v]}).objs.size,[(s.heap.push {cls:=.type "range", data:=.fields #[.int lo t,.int hi u,.int 1 v]}).objs.size],_,_,H,rfl,
  I1.kept (t':=tk) fun b o e=>Bn _ e,js _ lo (hi-lo).toNat,?_,fun b hb=>?_,q⟩
 · have e1:lo+((0:Nat):Int)*1=lo:=by simp
   have e2:(((hi-lo).toNat:Nat):Int)-((0:Nat):Int)=Builtin.Range.rangeSize lo hi 1:=by rw[rangeSize_one];split<;>omega
   show IsRangeIter _ _ (lo+((0:Nat):Int)*1) ((((hi-lo).toNat:Nat):Int)-((0:Nat):Int)) 1;rw[e1,e2];exact BJ _ rfl
 · have e:b=(s.heap.push {cls:=.type "range", data:=.fields #[.int lo t,.int hi u,.int 1 v]}).objs.size:=by simpa using hb
   subst e;exact I1.fpOk (By _) (I1.hok.fresh (By _))
noncomputable def wo(ta:TA):TI:=fun σ H R=>ta σ H fun vs H1=>∃j:Int,vs=[.int j] /\ -(2^62)<=j/\j<2^62/\R (A_ 0 j.toNat) H1
theorem lg{a:Expr}{ta:TA}{p:Pos}(hg:Gl X "range")(hm:X.mg "range" = none)(ha:PA X [a] ta)(hs:autoParam (BF [a] X.env=[(false,eval a X.env)]) æa._auto_1):PI X tg (.Call (.Name "range" p) [a] [] pos) (wo ta):=by
 intro pins s σ H R I h;refine Call_ (gH I hg hm boot_range (Ey (zr (ha pos pins s σ H _ I h) fun us s1 ⟨vs,H1,I1,r1,q1⟩=>?_) hs rfl));obtain⟨j,e,q1,q2,q⟩:=q1;subst e
 cases r1 with
 | cons r rr =>
   cases rr;obtain⟨t,rfl⟩:=r;exact call_range_1 (nq I1 (by omega) (by omega) q1 q2 (by simpa using q))
noncomputable def yx(wi:TI)(g:TG)(tb:TS):TS:=fun D σ H=>wi σ H fun J H1=>∃W:Nat->Nat->St->Hp->Prop,(∃m,W 0 m σ H1)/\∀i m σ H,W i m σ H ->
 (J.stop i H/\D.nx σ H)\/(J.go i H/\∃N:St->Hp->Prop,(∀σ' H',N σ' H'->∃m',m'<m/\W (i+1) m' σ' H')/\∀x H',J.yld i H x H'->g x σ H' fun σ2 H2=>tb {D with nx:=N,ct:=N,bk:=D.nx} σ2 H2)
noncomputable def el(fp:List Addr)(h:Heap):List (Addr×Obj):=fp.filterMap fun b=>(h.get? b).map fun o=>(b,o)
theorem br{b:Addr}(hb:b∈fp)(e:h.get? b=some o):(b,o)∈el fp h:=List.mem_filterMap.mpr ⟨b,hb,by rw[e];rfl⟩
theorem ls{p:Addr×Obj}(hp:p∈el fp h):p.1∈fp/\h.get? p.1=some p.2:=by
 obtain⟨b,hb,e⟩:=List.mem_filterMap.mp hp
 cases q:h.get? b with
 | none=>rw[q]at e;cases e
 | some o =>
   rw[q]at e;have e':(b,o)=p:=BW e;subst e';exact⟨hb,q⟩
theorem Inv.pinned{σ:St}{H:Hp}(I:Inv X pins σ H s)(hf:∀b∈fp,jW X pins H b)(ho:∀b∈fp,∃o,s.heap.get? b=some o/\∀v,o.data ≠ .cell v):Inv X (pins++el fp s.heap) σ H s :=
 I.pins_of fun p hp=>(Eu.mp hp).elim (fun z=>I.pin p (BP _ z)) fun z=>by
  obtain⟨hb,e⟩:=ls z;obtain⟨f0,f1,f2,_⟩:=hf p.1 hb;obtain⟨o,e',d⟩:=ho p.1 hb;rw[e]at e';cases e';exact⟨e,f0,f1,f2,d⟩
theorem Inv.unpinned{pl:List (Addr×Obj)}{σ:St}{H:Hp}(I:Inv X (pins++pl) σ H s):Inv X pins σ H s:=I.pins_of fun p hp=>I.pin p (BP _ (FW _ hp))
theorem tJ{body:List Stmt}{wi:TI}{g:TG}{tb:TS}(hp:GP (BY X.prog X.w) X.A X.env X.xe)(hc:X.calm=true)(hi:PI X tg iter wi)(hg:PG X tg g)(hb:AU X body tb)
 (hs:autoParam (∀x,C0 iter X.env x=pure x) æc._auto_1):PS X (.For tg iter body [] pos) (yx wi g tb):=by
 intro pins s σ H D I h;refine wpAny_For (zr (hi pins s σ H _ I h) fun v s1 h1=>zr h1 fun itv s2 h2=>?_) hs;obtain⟨it,fp,tn,J,H2,e,I2,T,st2,f2,W,⟨m0,w0⟩,turn⟩:=h2;subst e;have stat:∀{H':Hp},(∀b∈fp,H' b=none)->∀b∈fp,jW X pins H' b:=fun hn b hb=>⟨hn b hb,(f2 b hb).2⟩;refine codeAny_forLoop_any (fun n s'=>∃i σ' H',Inv X pins σ' H' s'/\tn i s'.heap/\(∀b∈fp,H' b=none)/\W i n σ' H') ?_ m0 ⟨0,σ,H2,I2,st2,fun b hb=>(f2 b hb).1,w0⟩;rintro n s3 ⟨i,σ3,H3,I3,st3,fr3,w3⟩;rcases turn i n σ3 H3 w3 with⟨stop,qn⟩|⟨go,N,hN,step⟩
 · refine Dk hp (zr (T.done X rfl rfl rfl hc i pins s3 σ3 H3 X.xe I3 (stat fr3) st3 stop) fun r s4 ⟨hr,I4⟩=>?_);subst hr;exact Ev ⟨σ3,H3,I4,qn⟩
 · refine Dk hp (zr (T.item X rfl rfl rfl hc i pins s3 σ3 H3 X.xe I3 (stat fr3) st3 go) fun r s4 ⟨u,hr,h4⟩=>?_);subst hr;refine Dk hp (zr h4 fun _ s5 ⟨x,H5,I5,r5,y5,st5,fr5⟩=>?_);have I5':=I5.pinned (stat fr5) (T.obj _ _ st5);refine Dk hp (zr (hg _ s5 σ3 H5 x u _ I5' r5 (step x H5 y5)) fun _ s6 ⟨σ6,H6,I6,q6⟩=>?_);refine Dk hp (zr (hb _ s6 σ6 H6 _ I6 q6) fun f s7 q7=>?_)
   have again:∀{σ7:St}{H7:Hp},Inv X (pins++el fp s5.heap) σ7 H7 s7->N σ7 H7->∃m,m<n/\∃i σ' H',Inv X pins σ' H' s7/\tn i s7.heap/\(∀b∈fp,H' b=none)/\W i m σ' H':=fun{σ7 H7} I7 n7=>by
    obtain⟨m',hm,w7⟩:=hN σ7 H7 n7;refine⟨m',hm,i+1,σ7,H7,I7.unpinned,T.keep _ _ _ st5 fun b hb o e=>(I7.pin (b,o) (BP _ (BP _ (br hb e)))).1,fun b hb=>?_,w7⟩;obtain⟨o,e,d⟩:=T.obj _ _ st5 b hb;exact(I7.pin (b,o) (BP _ (BP _ (br hb e)))).2.1
   cases f with
   | next=>obtain⟨σ7,H7,I7,n7⟩:=q7;exact again I7 n7
   | cont=>obtain⟨σ7,H7,I7,n7⟩:=q7;exact again I7 n7
   | brk=>obtain⟨σ7,H7,I7,q7⟩:=q7;exact⟨σ7,H7,I7.unpinned,q7⟩
   | ret v=>obtain⟨x7,σ7,H7,I7,r7,q7⟩:=q7;exact⟨x7,σ7,H7,I7.unpinned,r7,q7⟩
end
abbrev R2:=V->V->Hp->VK->Prop
noncomputable def A2(X:Cx)(f:Bo->Bo->Sem Bo)(r:R2):Prop :=
 ∀ (pins:List (Addr×Obj))(s:Bp)(σ:St)(H:Hp)(x y:V)(v u:Bo)(Q:VK),Inv X pins σ H s->RelV x v->RelV y u->r x y H Q ->
   BS (BY X.prog X.w) X.A (f v u) (EP X pins σ Q) X.xe s
noncomputable def AE(X:Cx)(f:Bo->Sem Bo)(r:V->Hp->VK->Prop):Prop :=
 ∀ (pins:List (Addr×Obj))(s:Bp)(σ:St)(H:Hp)(x:V)(v:Bo)(Q:VK),Inv X pins σ H s->RelV x v->r x H Q ->
   BS (BY X.prog X.w) X.A (f v) (EP X pins σ Q) X.xe s
noncomputable def ca(X:Cx)(f:Bo)(r:List V->Hp->VK->Prop):Prop :=
 ∀ (pins:List (Addr×Obj))(s:Bp)(σ:St)(H:Hp)(xs:List V)(us:List Bo)(Q:VK),Inv X pins σ H s->bp xs us->r xs H Q ->
   BS (BY X.prog X.w) X.A (call f us) (EP X pins σ Q) X.xe s
noncomputable def zx(r:R2)(ta tb:TE):TE:=fun σ H Q=>ta σ H fun x H1=>tb σ H1 fun y H2=>r x y H2 Q
noncomputable def zt(r:V->Hp->VK->Prop)(ta:TE):TE:=fun σ H Q=>ta σ H fun x H1=>r x H1 Q
noncomputable def rI(C:Int->Int->Prop)(g:Int->Int->V):R2:=fun x y H Q=>∃i j,x = .int i/\y = .int j/\C i j/\Q (g i j) H
noncomputable def zN(g:Int->Int->V):R2:=fun x y H Q=>∃i j,x = .int i/\y = .int j/\Q (g i j) H
noncomputable def rU(g:Int->V):V->Hp->VK->Prop:=fun x H Q=>∃i,x = .int i/\Q (g i) H
section
variable{X:Cx}{a b c:Expr}{ta tb tc:TE}{pos:Pos}
theorem wE(ha:PE X a ta)(hb:PE X b tb){σ:St}{H:Hp}{R:V->V->Hp->Prop}(I:Inv X pins σ H s)
 (h:ta σ H fun x H1=>tb σ H1 fun y H2=>R x y H2){f:Bo->Bo->Sem Bo}
 (hf:∀v u s2 x y H2,Inv X pins σ H2 s2->RelV x v->RelV y u->R x y H2->BS (BY X.prog X.w) X.A (f v u) Q X.xe s2) :
 BS (BY X.prog X.w) X.A (eval a X.env) (fun v s₁=>BS (BY X.prog X.w) X.A (eval b X.env) (fun u s₂=>BS (BY X.prog X.w) X.A (f v u) Q X.xe s₂) X.xe s₁) X.xe s:=by
 refine zr (ha pins s σ H _ I h) fun v s1 ⟨x,H1,I1,r1,q1⟩=>?_;refine zr (hb pins s1 σ H1 _ I1 q1) fun u s2 ⟨y,H2,I2,r2,q2⟩=>?_;exact hf v u s2 x y H2 I2 r1 r2 q2
theorem bW{op:GM}{r:R2}(ho:A2 X (E3 op) r)(ha:PE X a ta)(hb:PE X b tb):PE X (.BinOp a op b pos) (zx r ta tb):=by
 intro pins s σ H Q I h;exact wpAny_BinOp (wE ha hb I h fun v u s2 x y H2 I2 rx ry q=>ho pins s2 σ H2 x y v u Q I2 rx ry q)
theorem wd{op:UnaryOp}{r:V->Hp->VK->Prop}(ho:AE X (unaryOp op) r)(ha:PE X a ta):PE X (.UnaryOp op a pos) (zt r ta):=by
 intro pins s σ H Q I h;exact UnaryOp_ (zr (ha pins s σ H _ I h) fun v s1 ⟨x,H1,I1,r1,q1⟩=>ho pins s1 σ H1 x v Q I1 r1 q1)
theorem zV{f:Bo->Bo->Sem Bo}{C:Int->Int->Prop}{g:Int->Int->Int}
 (rule:∀(i j:Int)(t u:Tok)(s:Bp)(Q:Bo->Bp->Prop)(E:Bo->Bp->Prop),C i j->Q (.int (g i j) s.toks) {s with toks:=s.toks+1}->BS (BY X.prog X.w) X.A (f (.int i t) (.int j u)) Q E s) :
 A2 X f (rI C fun i j=>.int (g i j)):=by
 intro pins s σ H x y v u Q I rx ry h;obtain⟨i,j,rfl,rfl,hc,q⟩:=h;obtain⟨t,rfl⟩:=rx;obtain⟨t',rfl⟩:=ry;exact rule i j t t' s _ _ hc ⟨.int (g i j),H,I.tok _,⟨_,rfl⟩,q⟩
theorem xY{f:Bo->Bo->Sem Bo}{g:Int->Int->Int}
 (rule:∀(i j:Int)(t u:Tok)(s:Bp)(Q:Bo->Bp->Prop)(E:Bo->Bp->Prop),Q (.int (g i j) s.toks) {s with toks:=s.toks+1}->BS (BY X.prog X.w) X.A (f (.int i t) (.int j u)) Q E s) :
 A2 X f (zN fun i j=>.int (g i j)):=by
 intro pins s σ H x y v u Q I rx ry h;obtain⟨i,j,rfl,rfl,q⟩:=h;obtain⟨t,rfl⟩:=rx;obtain⟨t',rfl⟩:=ry;exact rule i j t t' s _ _ ⟨.int (g i j),H,I.tok _,⟨_,rfl⟩,q⟩
theorem uX{f:Bo->Bo->Sem Bo}{g:Int->Int->Bool}
 (rule:∀(i j:Int)(t u:Tok)(s:Bp)(Q:Bo->Bp->Prop)(E:Bo->Bp->Prop),Q (.bool (g i j)) s->BS (BY X.prog X.w) X.A (f (.int i t) (.int j u)) Q E s) :
 A2 X f (zN fun i j=>.bl (g i j)):=by
 intro pins s σ H x y v u Q I rx ry h;obtain⟨i,j,rfl,rfl,q⟩:=h;obtain⟨t,rfl⟩:=rx;obtain⟨t',rfl⟩:=ry;exact rule i j t t' s _ _ ⟨.bl (g i j),H,I,rfl,q⟩
noncomputable def vb(i j:Int):Prop:=0<=j/\j<=1000000/\i.natAbs<2^64
theorem eA:A2 X (E3 .Add) (zN fun i j=>.int (i+j)):=xY fun _ _ _ _ _ _ _ q=>add_int q
theorem tV:A2 X (E3 .Sub) (zN fun i j=>.int (i-j)):=xY fun _ _ _ _ _ _ _ q=>sub_int q
theorem b6:A2 X (E3 .Mod) (rI (fun _ j=>j≠0) fun i j=>.int (i.fmod j)):=zV fun _ _ _ _ _ _ _ hc q=>mod_int' hc q
theorem oZ:A2 X (E3 .Pow) (rI vb fun i j=>.int (i^j.toNat)):=zV fun _ _ _ _ _ _ _ hc q=>pow_int_small hc.1 hc.2.1 hc.2.2 q
theorem zm{f:Bo->Sem Bo}{g:Int->Int}
 (rule:∀(i:Int)(t:Tok)(s:Bp)(Q:Bo->Bp->Prop)(E:Bo->Bp->Prop),Q (.int (g i) s.toks) {s with toks:=s.toks+1}->BS (BY X.prog X.w) X.A (f (.int i t)) Q E s) :
 AE X f (rU fun i=>.int (g i)):=by
 intro pins s σ H x v Q I rx h;obtain⟨i,rfl,q⟩:=h;obtain⟨t,rfl⟩:=rx;exact rule i t s _ _ ⟨.int (g i),H,I.tok _,⟨_,rfl⟩,q⟩
theorem sI:AE X (unaryOp .USub) (rU fun i=>.int (-i)):=zm fun _ _ _ _ _ q=>neg_int q
end
noncomputable def xT:V->V->Bool
 | .non,.non=>true | .non,.int _=>true | .int _,.non=>true | .non,.bl _=>true | .bl _,.non=>true | .non,.str _=>true | .str _,.non=>true
 | .int _,.int _=>true | .bl _,.bl _=>true | .str _,.str _=>true | .byt _,.byt _=>true
 | .int _,.str _=>true | .str _,.int _=>true | .bl _,.str _=>true | .str _,.bl _=>true
 | _,_=>false
noncomputable def zO:R2:=fun x y H Q=>xT x y=true/\Q (.bl (decide (x=y))) H
noncomputable def zL:R2:=fun x y H Q=>xT x y=true/\Q (.bl (!decide (x=y))) H
theorem l_{i j:Int}:decide (V.int i=V.int j)=(i==j):=by
 rw[Ez];simp
theorem o8{i j:Bool}:decide (V.bl i=V.bl j)=(i==j):=by
 rw[Ez];simp
theorem l9{i j:Str}:decide (V.str i=V.str j)=(i==j):=by
 rw[Ez];simp
theorem me{i j:Array UInt8}:decide (V.byt i=V.byt j)=(i.toList==j.toList):=by
 rw[Ez];cases i;cases j;simp
section
variable{X:Cx}{a b c:Expr}{ta tb tc:TE}{pos:Pos}
theorem aF{σ:St}{H:Hp}{Q:VK}{k k':Bool}(I:Inv X pins σ H s)(q:Q (.bl k) H)(e:k=k'):EP X pins σ Q (.bool k') s:=by
 subst e;exact⟨.bl k,H,I,rfl,q⟩
theorem t4:A2 X (CN .Eq) zO:=by
 intro pins s σ H x y v u Q I rx ry h;obtain⟨hs,q⟩:=h
 cases x with
 | non =>
   cases rx
   cases y with
   | non=>cases ry;exact PySem.EqNone.eq_none_none (aF I q (by simp))
   | bl j=>cases ry;exact PySem.EqNone.eq_none_bool (aF I q (by simp))
   | int j=>obtain⟨t',rfl⟩:=ry;exact PySem.EqNone.eq_none_int (aF I q (by simp))
   | str j=>obtain⟨t',rfl⟩:=ry;exact PySem.EqNone.eq_none_str (aF I q (by simp))
   | _=>exact absurd (show false=true from hs) BO
 | bl i =>
   cases rx
   cases y with
   | non=>cases ry;exact PySem.EqNone.eq_bool_none (aF I q (by simp))
   | bl j=>cases ry;exact eq_bool (aF I q o8)
   | str j=>obtain⟨t',rfl⟩:=ry;exact PySem.EqMixed.eq_bool_str (aF I q (by simp))
   | _=>exact absurd (show false=true from hs) BO
 | int i =>
   obtain⟨t,rfl⟩:=rx
   cases y with
   | non=>cases ry;exact PySem.EqNone.eq_int_none (aF I q (by simp))
   | int j=>obtain⟨t',rfl⟩:=ry;exact eq_int (aF I q l_)
   | str j=>obtain⟨t',rfl⟩:=ry;exact PySem.EqMixed.eq_int_str (aF I q (by simp))
   | _=>exact absurd (show false=true from hs) BO
 | str i =>
   obtain⟨t,rfl⟩:=rx
   cases y with
   | non=>cases ry;exact PySem.EqNone.eq_str_none (aF I q (by simp))
   | bl j=>cases ry;exact PySem.EqMixed.eq_str_bool (aF I q (by simp))
   | int j=>obtain⟨t',rfl⟩:=ry;exact PySem.EqMixed.eq_str_int (aF I q (by simp))
   | str j=>obtain⟨t',rfl⟩:=ry;exact eq_str (aF I q l9)
   | _=>exact absurd (show false=true from hs) BO
 | byt i =>
   obtain⟨t,rfl⟩:=rx
   cases y with
   | byt j=>obtain⟨t',rfl⟩:=ry;exact W.eq_bytes (aF I q me)
   | _=>exact absurd (show false=true from hs) BO
 | _=>cases y<;>exact absurd (show false=true from hs) BO
theorem tW:A2 X (CN .NotEq) zL:=by
 intro pins s σ H x y v u Q I rx ry h;obtain⟨hs,q⟩:=h
 cases x with
 | non =>
   cases rx
   cases y with
   | non=>cases ry;exact PySem.EqNone.ne_none_none (aF I q (by simp))
   | bl j=>cases ry;exact PySem.EqNone.ne_none_bool (aF I q (by simp))
   | int j=>obtain⟨t',rfl⟩:=ry;exact PySem.EqNone.ne_none_int (aF I q (by simp))
   | str j=>obtain⟨t',rfl⟩:=ry;exact PySem.EqNone.ne_none_str (aF I q (by simp))
   | _=>exact absurd (show false=true from hs) BO
 | bl i =>
   cases rx
   cases y with
   | non=>cases ry;exact PySem.EqNone.ne_bool_none (aF I q (by simp))
   | bl j=>cases ry;exact ne_bool (aF I q (congrArg not o8))
   | str j=>obtain⟨t',rfl⟩:=ry;exact PySem.EqMixed.ne_bool_str (aF I q (by simp))
   | _=>exact absurd (show false=true from hs) BO
 | int i =>
   obtain⟨t,rfl⟩:=rx
   cases y with
   | non=>cases ry;exact PySem.EqNone.ne_int_none (aF I q (by simp))
   | int j=>obtain⟨t',rfl⟩:=ry;exact ne_int (aF I q (congrArg not l_))
   | str j=>obtain⟨t',rfl⟩:=ry;exact PySem.EqMixed.ne_int_str (aF I q (by simp))
   | _=>exact absurd (show false=true from hs) BO
 | str i =>
   obtain⟨t,rfl⟩:=rx
   cases y with
   | non=>cases ry;exact PySem.EqNone.ne_str_none (aF I q (by simp))
   | bl j=>cases ry;exact PySem.EqMixed.ne_str_bool (aF I q (by simp))
   | int j=>obtain⟨t',rfl⟩:=ry;exact PySem.EqMixed.ne_str_int (aF I q (by simp))
   | str j=>obtain⟨t',rfl⟩:=ry;exact ne_str (aF I q (congrArg not l9))
   | _=>exact absurd (show false=true from hs) BO
 | byt i =>
   obtain⟨t,rfl⟩:=rx
   cases y with
   | byt j=>obtain⟨t',rfl⟩:=ry;exact W.ne_bytes (aF I q (congrArg not me))
   | _=>exact absurd (show false=true from hs) BO
 | _=>cases y<;>exact absurd (show false=true from hs) BO
theorem fu:A2 X (CN .Lt) (zN fun i j=>.bl (decide (i<j))):=uX fun _ _ _ _ _ _ _ q=>lt_int q
theorem wf:A2 X (CN .LtE) (zN fun i j=>.bl (decide (i<=j))):=uX fun _ _ _ _ _ _ _ q=>le_int q
theorem jF:A2 X (CN .Gt) (zN fun i j=>.bl (decide (j<i))):=uX fun _ _ _ _ _ _ _ q=>gt_int q
theorem tX:A2 X (CN .GtE) (zN fun i j=>.bl (decide (j<=i))):=uX fun _ _ _ _ _ _ _ q=>ge_int q
theorem aO(b:Expr)(h:autoParam (op ≠ .In) æb._auto_1)(h2:autoParam (op ≠ .NotIn) æb._auto_1):DW op b=false:=by
 have e1:(op==G6.In)=false:=by cases op<;>first|rfl|exact absurd rfl h
 have e2:(op==G6.NotIn)=false:=by cases op<;>first|rfl|exact absurd rfl h2
 cases b<;>simp[DW,e1,e2]
theorem qI{r:R2}(ho:A2 X (CN op) r)(ha:PE X a ta)(hb:PE X b tb)(hm:DW op b=false):PE X (.Compare a [op] [b] pos) (zx r ta tb):=by
 intro pins s σ H Q I h;exact wpAny_Compare1 (wE ha hb I h fun v u s2 x y H2 I2 rx ry q=>ho pins s2 σ H2 x y v u Q I2 rx ry q) hm
noncomputable def vM(t:TE):TT:=fun σ H Q=>t σ H fun x H'=>∃k,x = .bl k/\Q k H'
theorem cS{r:R2}(ho:A2 X (CN op) r)(ha:PE X a ta)(hb:PE X b tb)(hm:DW op b=false):PT X (.Compare a [op] [b] pos) (vM (zx r ta tb)):=by
 intro pins s σ H Q I h
 refine wpAny_isTrue_Compare1 (zr (ha pins s σ H _ I h) fun v s1 ⟨x,H1,I1,r1,q1⟩=>zr (hb pins s1 σ H1 _ I1 q1) fun u s2 ⟨y,H2,I2,r2,q2⟩ =>
  zr (ho pins s2 σ H2 x y v u _ I2 r1 r2 q2) fun c s3 ⟨z,H3,I3,r3,k,e,q3⟩=>?_) hm
 subst e;cases r3;exact CY ⟨H3,I3,q3⟩
noncomputable def sU(r r':R2)(ta tb tc:TE):TE:=fun σ H Q=>ta σ H fun x H1=>tb σ H1 fun y H2=>r x y H2 fun z H3=>∃k,z = .bl k /\
 (if k=true then tc σ H3 fun w' H4=>r' y w' H4 Q else Q (.bl false) H3)
theorem nP{op':G6}{r r':R2}(ho:A2 X (CN op) r)(ho':A2 X (CN op') r')(ha:PE X a ta)(hb:PE X b tb)(hc:PE X c tc)
 (hm:autoParam (lastMarks [op,op'] [b,c]=false) æh._auto_1):PE X (.Compare a [op,op'] [b,c] pos) (sU r r' ta tb tc):=by
 intro pins s σ H Q I h
 refine Compare_chain (zr (ha pins s σ H _ I h) fun v s1 ⟨x,H1,I1,r1,q1⟩=>chain_link (zr (hb pins s1 σ H1 _ I1 q1) fun u s2 ⟨y,H2,I2,r2,q2⟩ =>
  zr (ho pins s2 σ H2 x y v u _ I2 r1 r2 q2) fun d s3 ⟨z,H3,I3,r3,k,e,q3⟩=>?_)) hm
 subst e;cases r3;refine CY ?_
 cases k with
 | false=>exact ite_ff ⟨.bl false,H3,I3,rfl,q3⟩
 | true=>exact ite_tt (chain_last (zr (hc pins s3 σ H3 _ I3 q3) fun w' s4 ⟨z',H4,I4,r4,q4⟩=>ho' pins s4 σ H4 y z' u w' Q I4 r2 r4 q4))
theorem gG:(sizeLine:Nat)<2^63:=by rw[sizeLine_eq];decide
theorem vals1{x:V}(r:bp [x] us):∃u,us=[u]/\RelV x u:=by
 cases r with
 | cons r1 r2=>cases r2;exact⟨_,rfl,r1⟩
theorem vals2{x y:V}(r:bp [x,y] us):∃u w',us=[u,w']/\RelV x u/\RelV y w':=by
 cases r with
 | cons r1 r2 =>
   cases r2 with
   | cons r3 r4=>cases r4;exact⟨_,_,rfl,r1,r3⟩
theorem fL:ca X (.builtin "abs") (fun xs H Q=>∃i,xs=[.int i]/\Q (.int (if i<0 then -i else i)) H):=by
 intro pins s σ H xs us Q I r h;obtain⟨i,rfl,q⟩:=h;obtain⟨u,rfl,t,rfl⟩:=vals1 r;exact call_abs_int fun u tk=>⟨.int (if i<0 then -i else i),H,I.tok _,⟨_,rfl⟩,q⟩
theorem mE(hc:X.calm=true):ca X (.builtin "max") (fun xs H Q=>∃i j,xs=[.int i,.int j]/\Q (.int (if j>i then j else i)) H):=by
 intro pins s σ H xs us Q I r h;obtain⟨i,j,rfl,q⟩:=h;obtain⟨u,w',rfl,⟨t,rfl⟩,⟨t',rfl⟩⟩:=vals2 r;refine max_two_ints (I.ok.hd hc) fun h' tk k=>⟨_,H,I.kept k,?_,q⟩;by_cases hj:j>i
 · rw[if_pos hj,if_pos hj];exact⟨_,rfl⟩
 · rw[if_neg hj,if_neg hj];exact⟨_,rfl⟩
theorem mD(hc:X.calm=true):ca X (.builtin "min") (fun xs H Q=>∃i j,xs=[.int i,.int j]/\Q (.int (if j<i then j else i)) H):=by
 intro pins s σ H xs us Q I r h;obtain⟨i,j,rfl,q⟩:=h;obtain⟨u,w',rfl,⟨t,rfl⟩,⟨t',rfl⟩⟩:=vals2 r;refine min_two_ints (I.ok.hd hc) fun h' tk k=>⟨_,H,I.kept k,?_,q⟩;by_cases hj:j<i
 · rw[if_pos hj,if_pos hj];exact⟨_,rfl⟩
 · rw[if_neg hj,if_neg hj];exact⟨_,rfl⟩
end
section
variable{prog:BE}{w:B2}{A:BX}{E:Bo->Bp->Prop}{s:Bp}{K:W.Frag}{x dx C f:Addr}{mA:Str->Option Bo}{name:Str}{v:Bo}
end
noncomputable def putF(f:Str)(v:V):List (Str×V)->List (Str×V)
 | []=>[(f,v)]
 | (g,x)::r=>if g=f then(g,v)::r else(g,x)::putF f v r
theorem rQ.some_of{v:V}{o:Option Bo}(r:rQ (some v) o):∃u,o=some u/\RelV v u:=by
 cases o with
 | none=>exact(show False from r).elim
 | some u=>exact⟨u,rfl,r⟩
section
variable{P:BE}{w:B2}{H H':Hp}{h h':Heap}{a C dx:Addr}{fs fs':List (Str×V)}
end
section
variable{X:Cx}{pins:List (Addr×Obj)}{σ:St}{H:Hp}{s:Bp}{a C dx:Addr}{fs:List (Str×V)}{f:Str}{v:V}{A:BX}{E:Bo->Bp->Prop}
end
section
variable{X:Cx}{o e value:Expr}{f:Str}{pos pos' tpos:Pos}{ta tv:TE}
end
section
variable{X:Cx}{pins:List (Addr×Obj)}{σ:St}{H:Hp}{s:Bp}{A:BX}{E:Bo->Bp->Prop}{Q:Bo->Bp->Prop}{c:Bo}{b:Bool}
end
structure Room (k:Nat) (A:BX):Prop where
 hd:A.handled=none
 dp:A.depth+3*k+5<recursionLimit
 un:A.units+16*k+200<FY
 gd:A.guards=some []
theorem Room.mono{k:Nat}(r:Room k A)(h:j<=k):Room j A:=⟨r.hd,by have:=r.dp;omega,by have:=r.un;omega,r.gd⟩
theorem Room.deeper{k:Nat}(r:Room (k+1) A)(env:Env):Room k (A.deeper env) :=
 ⟨r.hd,by have:=r.dp;show A.depth+1+3*k+5<_;omega,by have:=r.un;show A.units+3+16*k+200<_;omega,r.gd⟩
theorem Room.depth{k:Nat}(r:Room k A):A.depth<recursionLimit:=by have:=r.dp;omega
theorem Room.units{k:Nat}(r:Room k A):A.units+64<FY:=by have:=r.un;omega
noncomputable def xS:TA:=fun _ H Q=>Q [] H
noncomputable def sS(ta:TE)(tr:TA):TA:=fun σ H Q=>ta σ H fun x H1=>tr σ H1 fun xs H2=>Q (x::xs) H2
section
variable{X:Cx}{e:Expr}{es:List Expr}{te:TE}{t:TA}{pos:Pos}
theorem c4:PA X [] xS:=fun _ _ _ _ H Q I h=>EV ⟨[],H,I,.nil,h⟩
theorem bC(ha:PE X e te)(hr:PA X es t)(hs:autoParam (BF (e::es) X.env=(false,eval e X.env)::BF es X.env) æa._auto_1):PA X (e::es) (sS te t):=by
 intro pos pins s σ H Q I h;rw[hs];show BS _ _ (spliced ((false,eval e X.env)::Dj pos (BF es X.env))) _ _ s;refine Dw (zr (ha pins s σ H _ I h) fun u s1 ⟨x,H1,I1,r1,q1⟩=>?_);exact zr (hr pos pins s1 σ H1 _ I1 q1) fun us s2 ⟨xs,H2,I2,r2,q2⟩=>⟨x::xs,H2,I2,.cons r1 r2,q2⟩
noncomputable def yp(t:TA):TE:=fun σ H Q=>t σ H fun xs H1=>xs.length<=sizeLine/\∀p,H1 p=none->Q (.ref p) (upd H1 p (.tup xs))
noncomputable def yu(t:TA):TE:=fun σ H Q=>t σ H fun xs H1=>xs.length<=sizeLine/\∀p,H1 p=none->Q (.ref p) (upd H1 p (.lst xs))
theorem tQ{x1}(h:PA X es t):PE X (.Tuple es x1 pos) (yp t):=by
 intro pins s σ H Q I hq;refine wpAny_Tuple_spliced (zr (h pos pins s σ H _ I hq) fun us s1 ⟨xs,H1,I1,r,z,q⟩=>⟨by rw[<- r.length];exact z,?_⟩);have hf:H1 s1.heap.objs.size=none:=I1.hok.fresh (By _);refine⟨.ref s1.heap.objs.size,upd H1 s1.heap.objs.size (.tup xs),I1.laid (t':=s1.toks) (fun b u e=>Bn _ e) (By _) ?_,rfl,q _ hf⟩;exact⟨z,us,r,mP.new _ _⟩
theorem oY(h:PA X es t):PE X (.List es pos) (yu t):=by
 intro pins s σ H Q I hq;refine wpAny_List_spliced (zr (h pos pins s σ H _ I hq) fun us s1 ⟨xs,H1,I1,r,z,q⟩=>⟨by rw[<- r.length];exact z,?_⟩);have hf:H1 s1.heap.objs.size=none:=I1.hok.fresh (By _);refine⟨.ref s1.heap.objs.size,upd H1 s1.heap.objs.size (.lst xs),I1.laid (t':=s1.toks) (fun b u e=>Bn _ e) (By _) ?_,rfl,q _ hf⟩;exact⟨z,us,0,r,BJ _ rfl⟩
end
abbrev Sp:=List V->Hp->VK->XK->Prop
abbrev Bd:=List Env->Hp->Bp->XK->Bo->Bp->Prop
structure Env0 (P:BE) (w:B2) (K:W.Frag) (mg:Str->Option Bo) (base:Heap) (A:BX) (outer:List Env) (s:Bp) (H:Hp):Prop where
 frames:A.frames=some outer
 mod:Mod K mg base
 bs:∀b o,base.get? b=some o->s.heap.get? b=some o/\H b=none
 bsz:base.objs.size<=s.heap.objs.size
 funs:s.heap.FunFrames base outer
 frf:∀b∈frs outer,H b=none
 hok:Bb P w H s.heap
 bare:Gg s.gens
noncomputable def CE(outer:List Env)(P:BE)(w:B2)(H:Hp)(s:Bp)(Q:VK)(u:Bo)(s':Bp):Prop :=
 ∃v H',s'.os=s.os/\Gg s'.gens/\Un (frs outer) [] H H' s.heap s'.heap/\Bb P w H' s'.heap/\RelV v u/\Q v H'
noncomputable def CR(CX:Bd)(outer:List Env)(P:BE)(w:B2)(H:Hp)(s:Bp)(Q:VK)(E:XK)(r:GQ)(s':Bp):Prop :=
 match r with
 | .ok (.ret u)=>CE outer P w H s Q u s'
 | .ok _=>False
 | .error e=>CX outer H s E e s'
structure FnOk (P:BE) (w:B2) (K:W.Frag) (mg:Str->Option Bo) (base:Heap) (CX:Bd) (k:Nat) (f:Addr) (fd:Db) (ps:List Str) (sp:Sp):Prop where
 len:∀vs H Q E,sp vs H Q E->vs.length=ps.length
 run:∀(A:BX)(outer:List Env)(s:Bp)(H:Hp)(args:Args)(us:List Bo)(vs:List V)(Q:VK)(E:XK),Room k A->Env0 P w K mg base A outer s H->GR s fd args (ps.zip us)->bp vs us->sp vs H Q E ->
  DX (BY P w) A (.call (.ref f) args) (CR CX outer P w H s Q E) s
section
variable{X:Cx}{pins:List (Addr×Obj)}{σ:St}{H:Hp}{s s':Bp}
theorem Inv.env0(I:Inv X pins σ H s):Env0 X.prog X.w X.K X.mg X.base X.A X.stack s H :=
 ⟨I.ok.frames,I.ok.mod,I.bs,CC I.ok.bsz I.sz,I.stack,I.stkFree,I.hok,I.bare⟩
theorem Inv.after{Q:VK}{u:Bo}(I:Inv X pins σ H s)(h:CE X.stack X.prog X.w H s Q u s'):EP X pins σ Q u s':=by
 obtain⟨v,H',os,bare,un,hok,r,q⟩:=h;obtain⟨hh,g,d,t,os'⟩:=s';obtain rfl:os'=s.os:=os;exact⟨v,H',I.call (h':=hh) (g':=g) (d':=d) (t':=t) (ch:=[]) un hok bare (fun b z=>absurd z (by simp)),r,q⟩
end
noncomputable def vT(sp:Sp)(dvs:List V)(E:XK)(t:TA):TE:=fun σ H Q=>t σ H fun vs H1=>sp (vs++dvs) H1 Q E
noncomputable def Binds(K:W.Frag)(fd:Db)(ps:List Str)(ds:List Bo):Prop :=
 ∀(s:Bp)(us:List Bo),K.In s.heap->(us++ds).length=ps.length->GR s fd ⟨us,[]⟩ (ps.zip (us++ds))
theorem Binds.all{K:W.Frag}(h:∀us:List Bo,us.length=ps.length->bindArgs fd ⟨us,[]⟩=pure (ps.zip us)):Binds K fd ps []:=fun s us _ hl=>by
 rw[DB]at hl ⊢;exact .of_eq (h us hl)
noncomputable def mL(CX:Bd)(X:Cx)(E:XK):Prop:=∀(pins:List (Addr×Obj))(σ:St)(H:Hp)(s:Bp)(e:Bo)(s':Bp),Inv X pins σ H s->CX X.stack H s E e s'->X.xe e s'
section
variable{X:Cx}{CX:Bd}{k:Nat}{f C:Addr}{fd:Db}{ps:List Str}{sp:Sp}{dvs:List V}{ds:List Bo}{E:XK}{x m:Str}{p pos apos:Pos}{e o:Expr}{es:List Expr}{ta:TE}{t:TA}
theorem s_{σ:St}{H:Hp}{Q:VK}{vs:List V}(F:FnOk X.prog X.w X.K X.mg X.base CX k f fd ps sp)(hr:Room k X.A)(hb:Binds X.K fd ps ds)(hd:bp dvs ds)(hx:mL CX X E)
 (I:Inv X pins σ H s)(r:bp vs us)(h:sp (vs++dvs) H Q E):BS (BY X.prog X.w) X.A (call (.ref f) us) (EP X pins σ Q) X.xe s:=by
 have r2:bp (vs++dvs) (us++ds):=r.append hd;have hl:(us++ds).length=ps.length:=by rw[<- r2.length];exact F.len _ _ _ _ h
 refine wpAny_call (Fv (F.run X.A X.stack s H ⟨us,[]⟩ (us++ds) (vs++dvs) Q E hr I.env0 (hb s us I.kIn hl) r2 h) fun r s' hq=>?_)
 cases r with
 | error e=>exact hx pins σ H s e s' I hq
 | ok fl =>
   cases fl with
   | ret u=>exact I.after hq
   | next=>exact CI hq
   | brk=>exact CI hq
   | cont=>exact CI hq
theorem lj(F:FnOk X.prog X.w X.K X.mg X.base CX k f fd ps sp)(hr:Room k X.A)(hg:Gl X x)(hm:X.mg x=some (.ref f))(hk:W.keepIn X.K (.ref f)=true)(hb:Binds X.K fd ps ds)(hd:bp dvs ds)(hx:mL CX X E)
 (ha:PA X (e::es) t)(hdb:autoParam ((x==("__debug__" : Str))=false) æb._auto_1)(he:autoParam (BF (e::es) X.env=(false,eval e X.env)::BF es X.env) æa._auto_1)(hpl:autoParam ((Dj pos (BF es X.env)).any (·.1)=false) æa._auto_1) :
 PE X (.Call (.Name x p) (e::es) [] pos) (vT sp dvs E t):=by
 intro pins s σ H Q I h;refine DY (lF I hg hm ?_ hdb);refine W.callWith_K (h₀:=X.base) I.ok.mod.kin hk (zr (ha pos pins s σ H _ I h) fun us s1 ⟨vs,H1,I1,r,q⟩=>⟨I1.kIn,?_⟩) he hpl;exact s_ F hr hb hd hx I1 r q
end
noncomputable def PK(X:Cx)(kws:List Keyword)(t:TA):Prop :=
 ∀(pos:Pos)(pins:List (Addr×Obj))(s:Bp)(σ:St)(H:Hp)(Q:List V->Hp->Prop),Inv X pins σ H s->t σ H Q->BS (BY X.prog X.w) X.A (evalAll ((backToKw pos (GS kws X.env)).map (·.2))) (AP X pins σ Q) X.xe s
section
variable{X:Cx}{CX:Bd}{k:Nat}{f C:Addr}{fd:Db}{ps ks:List Str}{sp:Sp}{E:XK}{x m:Str}{p pos apos kpos:Pos}{e o:Expr}{es:List Expr}{kws:List Keyword}{te ta:TE}{t tk:TA}{nm:Option Str}
theorem tM:PK X [] xS:=fun _ _ _ _ H Q I h=>wpAny_evalAll_nil ⟨[],H,I,.nil,h⟩
theorem qB(ha:PE X e te)(hr:PK X kws t):PK X (⟨nm,e,kpos⟩::kws) (sS te t):=by
 intro pos pins s σ H Q I h;show BS _ _ (evalAll ((do let v <- eval e X.env;standAt pos;pure v)::(backToKw pos (GS kws X.env)).map (·.2))) _ _ s;refine wpAny_evalAll_cons (Bm (zr (ha pins s σ H _ I h) fun u s1 ⟨x,H1,I1,r1,q1⟩=>Bm (DH (Bs ?_))));exact zr (hr pos pins s1 σ H1 _ I1 q1) fun us s2 ⟨xs,H2,I2,r2,q2⟩=>⟨x::xs,H2,I2,.cons r1 r2,q2⟩
variable{g:List Bo->List Bo->List Bo}{gV:List V->List V->List V}
end
structure FnScope (N P:List Str) (sc:Scope):Prop where
 kind:sc.kind = .function
 co:sc.isCoroutine=false
 gen:sc.isGenerator=false
 nd:N.Nodup
 pre:N.take P.length=P
 par:∀x∈P,sc.names.lookup x=some .local\/sc.names.lookup x=some .cell
 nofree:∀y∈sc.names,y.2 ≠ .free
theorem gX{kindOf:Str->Option DZ}{x:Str}:∀{binds:List (Str×Bo)}{m:Str->Option Bo},(∀v,(x,v)∉binds)->bindL kindOf binds m x=m x
 | [],_,_=>rfl
 | (n,v)::r,m,h=>by
   unfold bindL;rw[gX fun w hw=>h w (Br _ hw)];split
   · have:x≠n:=by rintro rfl;exact h v Bw
     simp[this]
   · rfl
theorem gZ{kindOf:Str->Option DZ}{x:Str}:∀{binds:List (Str×Bo)}{m:Str->Option Bo},(∀v,(x,v)∉binds)->bindC kindOf binds m x=m x
 | [],_,_=>rfl
 | (n,v)::r,m,h=>by
   unfold bindC;rw[gZ fun w hw=>h w (Br _ hw)];split
   · rfl
   · have:x≠n:=by rintro rfl;exact h v Bw
     simp[this]
theorem gY{kindOf:Str->Option DZ}{x:Str}{v:Bo}:∀{P:List Str}{vs:List Bo}{i:Nat}{m:Str->Option Bo},P.Nodup->P[i]?=some x->vs[i]?=some v->kindOf x=some .local ->
 bindL kindOf (P.zip vs) m x=some v
 | [],_,_,_,_,h,_,_=>by simp at h
 | _::_,[],_,_,_,_,h,_=>by simp at h
 | p::P,w::vs,0,m,nd,h1,h2,hk=>by
   simp at h1 h2;subst h1;subst h2;show bindL kindOf ((p,w)::P.zip vs) m p=_;unfold bindL;rw[gX fun v hv=>(DC.mp nd).1 (Fw hv).1,if_pos hk]
   simp
 | p::P,w::vs,i+1,m,nd,h1,h2,hk=>by
   show bindL kindOf ((p,w)::P.zip vs) m x=_;unfold bindL;exact gY (i:=i) (DC.mp nd).2 (by simpa using h1) (by simpa using h2) hk
theorem g7{kindOf:Str->Option DZ}{x:Str}{v:Bo}:∀{P:List Str}{vs:List Bo}{i:Nat}{m:Str->Option Bo},P.Nodup->P[i]?=some x->vs[i]?=some v->kindOf x≠some .local ->
 bindC kindOf (P.zip vs) m x=some v
 | [],_,_,_,_,h,_,_=>by simp at h
 | _::_,[],_,_,_,_,h,_=>by simp at h
 | p::P,w::vs,0,m,nd,h1,h2,hk=>by
   simp at h1 h2;subst h1;subst h2;show bindC kindOf ((p,w)::P.zip vs) m p=_;unfold bindC;rw[gZ fun v hv=>(DC.mp nd).1 (Fw hv).1,if_neg hk]
   simp
 | p::P,w::vs,i+1,m,nd,h1,h2,hk=>by
   show bindC kindOf ((p,w)::P.zip vs) m x=_;unfold bindC;exact g7 (i:=i) (DC.mp nd).2 (by simpa using h1) (by simpa using h2) hk
noncomputable def start(N:List Str)(vs:List V):St:=vs.map some++Du (N.length-vs.length) none
noncomputable def mU(CX:Bd)(P:BE)(w:B2)(K:W.Frag)(mg:Str->Option Bo)(base:Heap)(N:List Str)(qual:Str)(scope:Scope)(f:Addr)(cd:Bo)(A:BX)(outer:List Env)(s:Bp)(H:Hp)(E:XK):Cx where
 prog:=P
 w:=w
 K:=K
 mg:=mg
 base:=base
 A:=A.deeper (Fd qual scope s.heap.objs.size f cd)
 N:=N
 s₀:=s
 H₀:=H
 env:=Fd qual scope s.heap.objs.size f cd
 outer:=outer
 stack:=Fd qual scope s.heap.objs.size f cd::outer
 ex:=[]
 calm:=true
 fn:=fun _=>true
 pn:=[]
 xe:=fun e s'=>BS (BY P w) (A.deeper (Fd qual scope s.heap.objs.size f cd)) (leaving (Fd qual scope s.heap.objs.size f cd) e) (fun _ s''=>CX outer H s E e s'') (fun e' s''=>CX outer H s E e' s'') s'
theorem jj{sc:Scope}(h:sc.names.lookup x=some .cell):∃c,(Cw n sc.names []).lookup x=some c:=by
 have q:=W.cellsFrom_some sc.names n [] (.inl h);exact CJ.mp q
theorem lS{CX:Bd}{w:B2}{K:W.Frag}{base:Heap}{N:List Str}{cd:Bo}{outer:List Env}{s1:Bp}{H:Hp}{E:XK}{vs:List V}
 (S:FnScope N ps scope)(hd:A.handled=none)(e0:Env0 P w K mg base A outer s H)(hl:vs.length=ps.length)(r:bp vs us)
 (x:InCallC s s.heap.objs.size (bindL (Fd qual scope s.heap.objs.size f cd).kindOf (ps.zip us) fun _=>none) (Cw (s.heap.objs.size+1) scope.names []) (bindC (Fd qual scope s.heap.objs.size f cd).kindOf (ps.zip us) fun _=>none) s1) :
 Inv (mU CX P w K mg base N qual scope f cd A outer s H E) [] (start N vs) H s1:=by
 have hpl:ps.length<=N.length:=by have:=congrArg List.length S.pre;rw[List.length_take]at this;omega
 obtain⟨h1,tk,rfl,hk⟩:=x.done;have noA:∀b:Addr,b∉(mU CX P w K mg base N qual scope f cd A outer s H E).ex:=fun b z=>absurd (show b∈([]:List Addr)from z) (by simp)
 refine⟨⟨e0.mod,S.kind,rfl,rfl,By _,fun y z c h1 h2=>?_,fun y hy=>?_,fun y c _ h=>?_,fun _=>hd,BX.frames_deeper e0.frames,.inr ⟨rfl,rfl⟩,fun b z=>absurd z (noA b),e0.bs,e0.bsz,fun b _ _=>noA b,fun b z=>absurd z (noA b),e0.funs,e0.frf⟩,
  rfl,e0.bare,Un.kept hk,⟨_,x.toInCall.ns,fun i y v h1 h2 h3=>?_⟩,fun y c h=>⟨_,x.cell y c h⟩,e0.hok.fresh (By _),fun y c h=>?_,fun p hp=>absurd (show p∈([]:List (Addr×Obj))from hp) (by simp),e0.hok.kept hk,?_⟩
 · exact name_of_addr x.apart (Cb h1) (Cb h2)
 · have hy:scope.names.lookup y=some .cell\/scope.names.lookup y=some .free:=hy;rcases hy with hy|hy
   · exact jj hy
   · exact absurd rfl (S.nofree _ (Cb hy))
 · exact Fu (x.above y c (Cb h))
 · have hi:i<vs.length:=by
     unfold start at h2;by_cases hi:i<vs.length
     · exact hi
     · rw[EI (by simpa using hi)]at h2;rw[E4]at h2;split at h2<;>cases h2
   have ha:vs[i]?=some v:=by
    unfold start at h2;rw[DM (by simpa using hi),Cd]at h2
    cases e:vs[i]? with
    | none=>rw[e]at h2;cases h2
    | some a=>rw[e]at h2;cases h2;rfl
   obtain⟨u,hu,rv⟩:=r.get ha
   have hp:ps[i]?=some y:=by
    rw[<- S.pre,List.getElem?_take_of_lt (by omega)];exact h1
   have ndP:ps.Nodup:=by rw[<- S.pre];exact S.nd.sublist (List.take_sublist _ _)
   refine⟨u,rv,?_⟩;rcases S.par y (FZ hp)with k|k
   · exact .inl ⟨k,gY ndP hp hu k⟩
   · obtain⟨c,e⟩:=jj (n:=s.heap.objs.size+1) k;refine .inr ⟨.inl k,c,e,?_⟩;have q:=x.cell y c e;rw[g7 ndP hp hu (by show scope.names.lookup y≠_;rw[k];decide)]at q;exact q
 · exact e0.hok.fresh (Fu (x.above y c (Cb h)))
 · unfold start;show _=N.length;rw[D0,Bu,List.length_replicate];omega
theorem wB{CX:Bd}{w:B2}{K:W.Frag}{base:Heap}{k:Nat}{name:Str}{params:Arguments}{body:List Stmt}{dV kV doc pm cdv ct oc:Bo}{an od:Option Addr}
 {osl:Array (Option Bo)}{N:List Str}{sp:Sp}(lk:K.lookup f=some ⟨oc,od,.func (W.fnOf name qual params body scope dV kV doc pm an cdv ct),osl⟩)(hcd:W.codeIn K cdv qual=true)(S:FnScope N ps scope)
 (len:∀vs H Q E,sp vs H Q E->vs.length=ps.length)
 (hbody:∀(A:BX)(outer:List Env)(s:Bp)(H:Hp)(vs:List V)(Q:VK)(E:XK),Room k (A.deeper (Fd qual scope s.heap.objs.size f cdv))->sp vs H Q E ->
  ∃t,AU (mU CX P w K mg base N qual scope f cdv A outer s H E) body t/\t {nx:=fun _ H'=>Q .non H',rt:=Q} (start N vs) H) :
 FnOk P w K mg base CX (k+1) f (W.fnOf name qual params body scope dV kV doc pm an cdv ct) ps sp:=by
 refine⟨len,fun A outer s H args us vs Q E hr e0 hb r hsp=>?_⟩;have hl:=len _ _ _ _ hsp;have KX:K.In s.heap:=e0.mod.kin.keeps fun b o e=>(e0.bs b o e).1;have lim:s.heap.NoLimit:=e0.mod.nolimit.keeps fun b o e=>(e0.bs b o e).1
 have hkind:∀y∈ps.zip us,scope.names.lookup y.1=some .local\/(scope.names.lookup y.1=some .cell/\((Cw (s.heap.objs.size+1) scope.names []).lookup y.1).isSome=true):=fun⟨n,v⟩ hy=>by
  rcases S.par n (Fw hy).1 with q|q
  · exact .inl q
  · exact .inr ⟨q,W.cellsFrom_some _ _ _ (.inl q)⟩
 refine codeAny_call_function hr.depth (KX _ _ lk) rfl S.co S.gen rfl (W.codeRec_of KX hcd) (hb _ _ _ _ ?_);refine wpAny_newFunctionEnv_cells S.kind hkind fun env he s1 x=>?_;subst he;refine⟨lim.keeps x.toInCall.keep,codeAny_func ?_⟩;obtain⟨t,ht,hq⟩:=hbody A outer s H vs Q E (hr.deeper _) hsp;have I:Inv (mU CX P w K mg base N qual scope f cdv A outer s H E) [] (start N vs) H s1:=lS S hr.hd e0 hl r x;refine Cc (ht [] s1 (start N vs) H _ I hq) (fun fl s' hs=>?_) fun e s' hs=>hs
 have fin:∀{σ':St}{H':Hp}{v:V}{u:Bo},Inv (mU CX P w K mg base N qual scope f cdv A outer s H E) [] σ' H' s'->RelV v u->Q v H'->CE outer P w H s Q u s' :=
  fun{σ' H' v u} J rv q=>⟨v,H',J.os,J.bare,J.base,J.hok,rv,q⟩
 cases fl with
 | ret u =>
   obtain⟨v,σ',H',J,rv,q⟩:=hs
   exact fin J rv q
 | next =>
   obtain⟨σ',H',J,q⟩:=hs
   exact fin (v:=V.non) (u:=Ci) J rfl q
 | brk =>
   obtain⟨_,_,_,q⟩:=hs
   exact CI q
 | cont =>
   obtain⟨_,_,_,q⟩:=hs;exact CI q
section
variable{X:Cx}{x:Str}{p pos:Pos}{e:Expr}{es:List Expr}{t:TA}{id T:String}{r:List V->Hp->VK->Prop}
noncomputable def zz(r:List V->Hp->VK->Prop)(t:TA):TE:=fun σ H Q=>t σ H fun vs H1=>r vs H1 Q
theorem b_(hc:ca X (.builtin id) r)(hg:Gl X x)(hm:X.mg x=none)(hv:Dn x=some (.builtin id))(ha:PA X (e::es) t)(hn:autoParam (x ≠ "__name__") æb._auto_1)(hdb:autoParam ((x==("__debug__" : Str))=false) æb._auto_1)
 (he:autoParam (BF (e::es) X.env=(false,eval e X.env)::BF es X.env) æa._auto_1)(hpl:autoParam ((Dj pos (BF es X.env)).any (·.1)=false) æa._auto_1):PE X (.Call (.Name x p) (e::es) [] pos) (zz r t):=by
 intro pins s σ H Q I h;refine DY (gH I hg hm hv ?_ hn hdb);exact PyProof.Rows.callWith_builtin1 (zr (ha pos pins s σ H _ I h) fun us s1 ⟨vs,H1,I1,r1,q1⟩=>hc pins s1 σ H1 vs us Q I1 r1 q1) he hpl
theorem gE(hc:ca X (.type T) r)(hg:Gl X x)(hm:X.mg x=none)(hv:Dn x=some (.type T))(ha:PA X (e::es) t)(hn:autoParam (x ≠ "__name__") æb._auto_1)(hdb:autoParam ((x==("__debug__" : Str))=false) æb._auto_1)
 (he:autoParam (BF (e::es) X.env=(false,eval e X.env)::BF es X.env) æa._auto_1)(hpl:autoParam ((Dj pos (BF es X.env)).any (·.1)=false) æa._auto_1):PE X (.Call (.Name x p) (e::es) [] pos) (zz r t):=by
 intro pins s σ H Q I h;refine DY (gH I hg hm hv ?_ hn hdb);exact Ey (zr (ha pos pins s σ H _ I h) fun us s1 ⟨vs,H1,I1,r1,q1⟩=>hc pins s1 σ H1 vs us Q I1 r1 q1) he hpl
end
end L2
variable{H H' F F' F₀ H₀:L2.Hp}{v:L2.V}{X:L2.Cx}{σ:L2.St}
namespace HT
open PySem PyProof.Rows
section
open PySem.SeqAt
open PySem.AutoSeq1 (wpAny_loadPart')
open PySem.MeetsSeq PySem.MeetsSeq2 PySem.MeetsSeq3
end
section
variable{prog:BE}{w:B2}{A:BX}{E:Bo->Bp->Prop}{s:Bp}
noncomputable def sIx(n d:Nat):Option Int->Nat
 | none=>d
 | some v=>if v<0 then(v+(n:Int)).toNat else min v.toNat n
theorem sIx_none(n d:Nat):sIx n d none=d:=rfl
theorem sIx_nat(n d k:Nat):sIx n d (some (k:Int))=min k n:=by
 show(if(k:Int)<0 then((k:Int)+(n:Int)).toNat else min (k:Int).toNat n)=min k n;rw[if_neg (by omega),D8]
end
end HT
namespace L2
abbrev TO:=St->Hp->(Option Int->Hp->Prop)->Prop
noncomputable def PO(X:Cx)(e:Option Expr)(t:TO):Prop :=
 ∀ (pins:List (Addr×Obj))(s:Bp)(σ:St)(H:Hp)(Q:Option Int->Hp->Prop),Inv X pins σ H s->t σ H Q ->
   BS (BY X.prog X.w) X.A (evalPart e X.env) (fun u s'=>∃o H',Inv X pins σ H' s'/\IsPart u o/\Q o H') X.xe s
noncomputable def pW:TO:=fun _ H Q=>Q none H
noncomputable def vO(t:TE):TO:=fun σ H Q=>t σ H fun x H1=>∃i,x = .int i/\Q (some i) H1
theorem intsAre_of:∀{us:List Bo},bp (ns.map V.int) us->D1 us ns:=by
 induction ns with
 | nil=>intro us r;rw[Dc]at r;cases r;exact .nil
 | cons n ns ih =>
   intro us r;rw[BM]at r
   cases r with
   | cons r1 r2 =>
     obtain⟨t,e⟩:=r1;subst e;exact .cons n t (ih r2)
section
variable{X:Cx}{e:Expr}{te:TE}{lo hi:Option Expr}{tl th:TO}{pos p2:Pos}
theorem qA:PO X none pW:=by
 intro pins s σ H Q I h;rw[evalPart_none];exact Bs ⟨none,H,I,.none,h⟩
theorem qz(h:PE X e te):PO X (some e) (vO te):=by
 intro pins s σ H Q I hw;rw[evalPart_some];refine zr (h pins s σ H _ I hw) fun u s1 ⟨x,H1,I1,r1,q1⟩=>?_;obtain⟨i,rfl,q⟩:=q1;obtain⟨t,rfl⟩:=r1;exact⟨some i,H1,I1,.int i t,q⟩
noncomputable def AN(X:Cx)(r:V->Option Int->Option Int->Hp->VK->Prop):Prop :=
 ∀ (pins:List (Addr×Obj))(s:Bp)(σ:St)(H:Hp)(x:V)(v vl vu:Bo)(lo hi:Option Int)(sl:Addr)(Q:VK),Inv X pins σ H s->RelV x v->s.heap.IsSliceOf sl vl vu .none->IsPart vl lo->IsPart vu hi->r x lo hi H Q ->
   ∃T id,typeLookup (.type T) "__getitem__" = pure (some (.builtin id))/\s.TypeIs v T/\BS (BY X.prog X.w) X.A (GT v (.ref sl)) (EP X pins σ Q) X.xe s
noncomputable def zu(r:V->Option Int->Option Int->Hp->VK->Prop)(te:TE)(tl th:TO):TE:=fun σ H Q=>te σ H fun x H1=>tl σ H1 fun l H2=>th σ H2 fun u H3=>r x l u H3 Q
theorem nG{r:V->Option Int->Option Int->Hp->VK->Prop}(hr:AN X r)(he:PE X e te)(hl:PO X lo tl)(hu:PO X hi th):PE X (.Subscript e (.Slice lo hi none p2) pos) (zu r te tl th):=by
 intro pins s σ H Q I h;refine Subscript_ (zr (he pins s σ H _ I h) fun v s1 ⟨x,H1,I1,r1,q1⟩=>?_);refine wpAny_Slice (zr (hl pins s1 σ H1 _ I1 q1) fun vl s2 ⟨l,H2,I2,pl,q2⟩=>zr (hu pins s2 σ H2 _ I2 q2) fun vu s3 ⟨u,H3,I3,pu,q3⟩=>?_);rw[evalPart_none];refine Bs ?_;have I4:Inv X pins σ H3 {s3 with heap:=s3.heap.push {cls:=.type "slice", data:=.fields #[vl,vu,.none]}}:=I3.kept (t':=s3.toks) fun b ob q=>Bn _ q;obtain⟨T,id,hT,ht,hg⟩:=hr pins {s3 with heap:=s3.heap.push {cls:=.type "slice", data:=.fields #[vl,vu,.none]}} σ H3 x v vl vu l u s3.heap.objs.size Q I4 r1 (Heap.IsSliceOf.new ..) pl pu q3;show BS (BY X.prog X.w) X.A (Gv e (.Slice lo hi none p2) v (.ref s3.heap.objs.size)) (EP X pins σ Q) X.xe {s3 with heap:=s3.heap.push {cls:=.type "slice", data:=.fields #[vl,vu,.none]}};exact tail_any (ops:=[.ref s3.heap.objs.size,v]) ht hT hg (by with_unfolding_all rfl)
noncomputable def rW(xs:List V)(lo hi:Option Int):List V:=(xs.drop (HT.sIx xs.length 0 lo)).take (HT.sIx xs.length xs.length hi-HT.sIx xs.length 0 lo)
theorem iz(xs:List V)(lo hi:Option Int):(rW xs lo hi).length<=xs.length:=by
 unfold rW;rw[List.length_take,List.length_drop];omega
end
noncomputable def ixN(n:Nat)(i:Int):Option Nat:=if 0<=i then(if i<n then some i.toNat else none)else if -(n:Int)<=i then some (i+n).toNat else none
noncomputable def atI{α:Type}(xs:List α)(i:Int):Option α:=(ixN xs.length i).bind fun j=>xs[j]?
theorem lN{i:Int}(h:ixN n i=some j):seqIndex? i n=some j/\j<n /\ -(n:Int)<=i/\i<n:=by
 unfold ixN at h;by_cases h0:0<=i
 · rw[if_pos h0]at h;by_cases h1:i<n
   · rw[if_pos h1]at h;have e:i.toNat=j:=BW h;exact⟨by rw[GU h0 h1,e],by omega,by omega,h1⟩
   · rw[if_neg h1]at h;cases h
 · rw[if_neg h0]at h;by_cases h1 : -(n:Int)<=i
   · rw[if_pos h1]at h;have e:(i+n).toNat=j:=BW h;exact⟨by rw[GE (by omega) h1,e],by omega,h1,by omega⟩
   · rw[if_neg h1]at h;cases h
theorem iC{xs:List α}{i:Int}{v:α}(h:atI xs i=some v):∃j,seqIndex? i xs.length=some j/\xs[j]?=some v/\j<xs.length /\ -(xs.length:Int)<=i/\i<xs.length:=by
 unfold atI at h
 cases e:ixN xs.length i with
 | none=>rw[e]at h;cases h
 | some j =>
   rw[e]at h;obtain⟨h1,h2,h3,h4⟩:=lN e;exact⟨j,h1,h,h2,h3,h4⟩
theorem fP{xs:List α}{v:α}(h:xs[j]?=some v):atI xs (j:Int)=some v:=by
 have hj:j<xs.length:=(BG.mp h).1
 have e:ixN xs.length (j:Int)=some j:=by
  unfold ixN;rw[if_pos (by omega),if_pos (by omega)];simp
 unfold atI;rw[e];exact h
theorem oE(xs:List α)(v:α):atI (xs++[v]) (-1)=some v:=by
 have hl:(xs++[v]).length=xs.length+1:=by simp
 have e:ixN (xs++[v]).length (-1)=some xs.length:=by
  unfold ixN;rw[hl,if_neg (by decide),if_pos (by omega)];congr 1;omega
 unfold atI;rw[e];show(xs++[v])[xs.length]?=some v;simp
noncomputable def mK(b:Expr):Prop:=∀o i,Gi b false o i=operate [o,i] (GT o i)
noncomputable def A8(X:Cx)(r:R2):Prop :=
 ∀ (value slice:Expr)(pins:List (Addr×Obj))(s:Bp)(σ:St)(H:Hp)(x y:V)(v u:Bo)(Q:VK),Inv X pins σ H s->RelV x v->RelV y u->r x y H Q ->
   Gi slice false v u=operate [v,u] (GT v u)->BS (BY X.prog X.w) X.A (Gv value slice v u) (EP X pins σ Q) X.xe s
section
variable{X:Cx}{a b:Expr}{ta tb:TE}{pos:Pos}
theorem A8.or{r r':R2}(h:A8 X r)(h':A8 X r'):A8 X (fun x y H Q=>r x y H Q\/r' x y H Q):=by
 intro value slice pins s σ H x y v u Q I rx ry q hs;rcases q with q|q
 · exact h value slice pins s σ H x y v u Q I rx ry q hs
 · exact h' value slice pins s σ H x y v u Q I rx ry q hs
theorem bO{r:R2}(hr:A8 X r)(ha:PE X a ta)(hb:PE X b tb)(hs:mK b):PE X (.Subscript a b pos) (zx r ta tb):=by
 intro pins s σ H Q I h;exact Subscript_ (wE ha hb I h fun v u s2 x y H2 I2 rx ry q=>hr a b pins s2 σ H2 x y v u Q I2 rx ry q (hs _ _))
noncomputable def xW(K:W.Frag):R2:=fun x y H Q=>∃p xs i v,x = .ref p/\y = .int i/\AM K H p xs/\atI xs i=some v/\Q v H
noncomputable def xU(K:W.Frag):R2:=fun x y H Q=>∃p xs i v,x = .ref p/\y = .int i/\AL K H p xs/\atI xs i=some v/\Q v H
noncomputable def xV:R2:=fun x y H Q=>∃z i c,x = .str z/\y = .int i/\z.length<=sizeLine/\atI z.cps.toList i=some c/\Q (.str ⟨#[c]⟩) H
theorem wl:A8 X (xW X.K):=by
 intro value slice pins s σ H x y v u Q I rx ry h hs;obtain⟨p,xs,i,z,rfl,rfl,hq,he,q⟩:=h;cases rx;obtain⟨t,rfl⟩:=ry;obtain⟨its,r,pl,hz⟩:=I.list hq;obtain⟨j,h1,h2,h3,h4,h5⟩:=iC he;obtain⟨w,ew,rw'⟩:=r.get h2;have hl:=r.length;have hn:=gG;have fin:EP X pins σ Q w s:=⟨z,H,I,rw',q⟩;by_cases h0:0<=i
 · have hj:i.toNat=j:=by
     rw[GU h0 h5]at h1;exact BW h1
   exact item_listR pl.isList h0 (by omega) (by rw[hj];simpa using ew) fin hs
 · have hj:(i+(its.toArray.size:Int)).toNat=j:=by
     rw[GE (by omega) h4]at h1;rw[BB,<- hl];exact BW h1
   exact Fh (x:=w) pl.isList.typeIs slot_list_getitem.lookup
    (wpAny_getItem_list_neg (Q:=fun r s'=>r=w/\EP X pins σ Q r s') pl.isList (by omega) (by rw[BB]<;>omega) (by omega) (by rw[hj];simpa using ew) ⟨rfl,fin⟩) hs
theorem xZ:A8 X (xU X.K):=by
 intro value slice pins s σ H x y v u Q I rx ry h hs;obtain⟨p,xs,i,z,rfl,rfl,hq,he,q⟩:=h;cases rx;obtain⟨t,rfl⟩:=ry;obtain⟨its,r,pl,hz⟩:=I.tuple hq;obtain⟨j,h1,h2,h3,h4,h5⟩:=iC he;obtain⟨w,ew,rw'⟩:=r.get h2;have hl:=r.length;have hn:=gG;have fin:EP X pins σ Q w s:=⟨z,H,I,rw',q⟩
 exact Fh (x:=w) pl.typeIs slot_tuple_getitem.lookup
  (getItem_tuple (j:=j) (Q:=fun r s'=>r=w/\EP X pins σ Q r s') pl (by omega) (by omega) (by rw[BB,<- hl];exact h1) (by simpa using ew) ⟨rfl,fin⟩) hs
theorem uf:A8 X xV:=by
 intro value slice pins s σ H x y v u Q I rx ry h hs;obtain⟨z,i,c,rfl,rfl,hz,he,q⟩:=h;obtain⟨t,rfl⟩:=rx;obtain⟨t',rfl⟩:=ry;obtain⟨j,h1,h2,h3,h4,h5⟩:=iC he;have hl:z.cps.toList.length=z.length:=by simp[Str.length]
 rw[hl]at h1 h4 h5;have hn:=gG
 exact tail_any (typeIs_str s z t) slot_str_getitem.lookup (getItem_str (c:=c) (by
  have e1:decide (i < -(2^63:Int))=false:=decide_eq_false (by omega);have e2:decide (i ≥ 2^63)=false:=decide_eq_false (by omega)
  rw[e1,e2,Bool.or_false]) (by rw[h1];simpa using h2) ⟨.str ⟨#[c]⟩,H,I.tok _,⟨_,rfl⟩,q⟩) hs
noncomputable def zM(K:W.Frag):R2:=fun x y H Q=>xW K x y H Q\/xU K x y H Q\/xV x y H Q
theorem aY:A8 X (zM X.K):=wl.or (xZ.or uf)
theorem jH(its:List Bo)(n j:Nat)(u:Bo):C9 (·.setIfInBounds j u) {cls:=.type "list", data:=.seq its.toArray n}={cls:=.type "list", data:=.seq (its.set j u).toArray n}:=by
 simp[C9]
theorem Inv.lst{pins:List (Addr×Obj)}{σ:St}{H:Hp}{s:Bp}{p:Addr}{xs:List V}(I:Inv X pins σ H s)(h:H p=some (.lst xs)) :
 ∃(its:List Bo)(n:Nat),bp xs its/\s.heap.get? p=some {cls:=.type "list", data:=.seq its.toArray n}/\xs.length<=sizeLine:=by
 obtain⟨z,its,n,r,e⟩:=I.hok p _ h;exact⟨its,n,r,e,z⟩
theorem Inv.lstUpd{p:Addr}{xs ys:List V}{its its':List Bo}{n':Nat}{f:Obj->Obj}(I:Inv X pins σ H s)(h:H p=some (.lst xs))
 (ho:s.heap.get? p=some {cls:=.type "list", data:=.seq its.toArray n})(hf:f {cls:=.type "list", data:=.seq its.toArray n}={cls:=.type "list", data:=.seq its'.toArray n' })(r:bp ys its')(hz:ys.length<=sizeLine)(t:Nat) :
 Inv X pins σ (upd H p (.lst ys)) {s with heap:=s.heap.update p f,toks:=t}:=by
 have e:(s.heap.update p f).get? p=some {cls:=.type "list", data:=.seq its'.toArray n' }:=by
  rw[Ef f ho (by rw[hf]<;>rfl),hf]
 refine I.write (x:=p) (e:=p) (by rw[h];trivial) (.inl rfl) (fun b u hb q=>(BR _ _ (Ek hb)).trans q) ⟨_,e⟩ ?_;exact⟨hz,its',n',r,e⟩
noncomputable def tm:V->V->V->Hp->(Hp->Prop)->Prop:=fun o i v H Q=>∃p xs k j,o = .ref p/\i = .int k/\H p=some (.lst xs)/\ixN xs.length k=some j/\Q (upd H p (.lst (xs.set j v)))
theorem c_:ye X tm:=by
 intro pins s σ H o i v ov iv u Q I ro ri rv h;obtain⟨p,xs,k,j,rfl,rfl,hp,hj,q⟩:=h;cases ro;obtain⟨t,rfl⟩:=ri;obtain⟨its,n,r,ho,hz⟩:=I.lst hp;obtain⟨h1,h2,h3,h4⟩:=lN hj;have hl:=r.length;have hn:=gG
 have I':Inv X pins σ (upd H p (.lst (xs.set j v))) {s with heap:=s.heap.update p (C9 (·.setIfInBounds j u))} :=
  I.lstUpd hp ho (jH its n j u) (r.set rv j) (by rw[List.length_set];exact hz) s.toks
 by_cases h0:0<=k
 · have hk:k.toNat=j:=by
     rw[GU h0 h4]at h1;exact BW h1
   exact W.ki_setAt ho h0 (by omega) (by rw[BB,<- hl];exact h4) (by rw[hk];exact⟨_,I',q⟩)
 · have hk:(k+(its.toArray.size:Int)).toNat=j:=by
     rw[GE (by omega) h3]at h1;rw[BB,<- hl];exact BW h1
   exact W.ki_setBack ho (by omega) (by rw[BB,<- hl];exact h3) (by omega) (by rw[hk];exact⟨_,I',q⟩)
theorem gh(lo hi:Option Int)(n:Nat):(D9 lo hi none n).1=((HT.sIx n 0 lo:Nat):Int)/\(D9 lo hi none n).2.1=((HT.sIx n n hi:Nat):Int)/\(D9 lo hi none n).2.2=1:=by
 refine⟨?_,?_,rfl⟩
 · cases lo with
   | none=>simp[D9,HT.sIx]
   | some i =>
     simp only[D9,HT.sIx,Option.getD_none,show(1:Int)>0 by decide,if_true];by_cases h:i<0
     · simp only[h,if_true]<;>omega
     · simp only[h,if_false]<;>omega
 · cases hi with
   | none=>simp[D9,HT.sIx]
   | some i =>
     simp only[D9,HT.sIx,Option.getD_none,show(1:Int)>0 by decide,if_true];by_cases h:i<0
     · simp only[h,if_true]<;>omega
     · simp only[h,if_false]<;>omega
theorem eS(its:List Bo)(lo hi:Option Int):slicePick its.toArray lo hi none=((its.drop (HT.sIx its.length 0 lo)).take (HT.sIx its.length its.length hi-HT.sIx its.length 0 lo)).toArray:=by
 obtain⟨h1,h2,h3⟩:=gh lo hi its.toArray.size;unfold slicePick;rw[h1,h2,h3];simp only[sliceRange_one,pick_run,BB]<;>rfl
noncomputable def yA(K:W.Frag):V->Option Int->Option Int->Hp->VK->Prop:=fun x lo hi H Q=>∃a xs,x = .ref a/\AM K H a xs/\∀p,H p=none->Q (.ref p) (upd H p (.lst (rW xs lo hi)))
theorem p6:AN X (yA X.K):=by
 intro pins s σ H x v vl vu lo hi sl Q I rx hs pl pu h;obtain⟨a,xs,rfl,hx,q⟩:=h;cases rx;obtain⟨its,r,ht,hz⟩:=I.list hx;have hlen:=r.length;refine⟨"list", _,slot_list_getitem.lookup,ht.isList.typeIs,?_⟩;refine wpAny_getItem_list_slice ht.isList hs pl pu .none (by simp) ?_ (by rw[BB]<;>omega);rw[eS,<- hlen];refine⟨.ref s.heap.objs.size,_,I.laid (t':=s.toks) (o:=.lst (rW xs lo hi)) (fun b ob q=>Bn _ q) (By _) ?_,rfl,q _ (I.hok.fresh (By _))⟩;exact⟨CC (iz xs lo hi) hz,_,0,(r.drop (HT.sIx xs.length 0 lo)).take (HT.sIx xs.length xs.length hi-HT.sIx xs.length 0 lo),BJ _ rfl⟩
theorem bM:ca X (.builtin "len") (fun xs H Q=>∃p ys,xs=[.ref p]/\(AM X.K H p ys\/AL X.K H p ys)/\Q (.int ys.length) H):=by
 intro pins s σ H xs us Q I r h;obtain⟨p,ys,rfl,hq,q⟩:=h;obtain⟨u,rfl,rx⟩:=vals1 r;cases rx;have hn:=gG;rcases hq with hq|hq
 · obtain⟨its,r',pl,hz⟩:=I.list hq;have hlen:=r'.length;exact Calls.call_len_list pl.isList (by simp only[BB]<;>omega) ⟨.int ys.length,H,I.tok _,⟨s.toks+1,by rw[BB,hlen]⟩,q⟩
 · obtain⟨its,r',pl,hz⟩:=I.tuple hq;have hlen:=r'.length;exact len_tuple pl (by simp only[BB]<;>omega) ⟨.int ys.length,H,I.tok _,⟨s.toks+1,by rw[BB,hlen]⟩,q⟩
theorem gW:ca X (.type "list") (fun xs H Q=>∃p ys,xs=[.ref p]/\(AM X.K H p ys\/AL X.K H p ys)/\∀l,H l=none->Q (.ref l) (upd H l (.lst ys))):=by
 intro pins s σ H xs us Q I r h;obtain⟨p,ys,rfl,hq,q⟩:=h;obtain⟨u,rfl,rx⟩:=vals1 r;cases rx
 have fin:∀(its:List Bo),bp ys its->ys.length<=sizeLine->∀(h':Heap)(c':Nat),(∀b o',s.heap.get? b=some o'->h'.get? b=some o') ->
  h'.get? s.heap.objs.size=some {cls:=.type "list", dict:=none,data:=.seq its.toArray c',slots:=#[]}->EP X pins σ Q (.ref s.heap.objs.size) {s with heap:=h' }:=fun its r' hz h' c' kp e =>
  ⟨.ref s.heap.objs.size,_,I.laid (t':=s.toks) kp (By _) (show bI X.prog X.w _ h' _ (.lst ys)from⟨hz,its,c',r',e⟩),rfl,q _ (I.hok.fresh (By _))⟩
 rcases hq with hq|hq
 · obtain⟨its,r',pl,hz⟩:=I.list hq;have hlen:=r'.length;obtain⟨o,ho,hc,n,hd⟩:=pl.isList;exact call_list_seq p (.inl rfl) ho hc hd (fun h' c' kp e=>fin its r' hz h' c' kp e) (by simp only[BB]<;>omega)
 · obtain⟨its,r',pl,hz⟩:=I.tuple hq;have hlen:=r'.length;obtain⟨o,ho,hc,n,hd⟩:=pl;exact call_list_seq p (.inr rfl) ho hc hd (fun h' c' kp e=>fin its r' hz h' c' kp e) (by simp only[BB]<;>omega)
theorem fK:ca X (.type "tuple") (fun xs H Q=>∃p ys,xs=[.ref p]/\((AM X.K H p ys/\∀l,H l=none->Q (.ref l) (upd H l (.tup ys)))\/(AL X.K H p ys/\Q (.ref p) H))):=by
 intro pins s σ H xs us Q I r h;obtain⟨p,ys,rfl,h⟩:=h;obtain⟨u,rfl,rx⟩:=vals1 r;cases rx;rcases h with⟨hq,q⟩|⟨hq,q⟩
 · obtain⟨its,r',pl,hz⟩:=I.list hq;have hlen:=r'.length;refine call_tuple_list pl.isList (fun h' kp=>?_) (by simp only[BB]<;>omega);have I1:Inv X pins σ H {s with heap:=h' }:=I.kept (t':=s.toks) kp
   have I2:Inv X pins σ (upd H h'.objs.size (.tup ys)) {s with heap:=h'.push {cls:=.type "tuple", data:=.seq its.toArray}} :=
    I1.laid (t':=s.toks) (fun b o e=>Bn _ e) (By _) (show bI X.prog X.w _ _ _ (.tup ys)from⟨hz,its,r',mP.new _ _⟩)
   exact⟨.ref h'.objs.size,_,I2,rfl,q _ (I1.hok.fresh (By _))⟩
 · obtain⟨its,r',pl,hz⟩:=I.tuple hq;exact call_tuple_same pl ⟨.ref p,H,I,rfl,q⟩
variable{o e:Expr}{es:List Expr}{to:TE}{t:TA}{name:Str}{apos cpos:Pos}{T id:String}{r:V->List V->Hp->VK->Prop}
end
noncomputable def A4(X:Cx)(id:String)(r:V->List V->Hp->VK->Prop):Prop :=
 ∀ (pins:List (Addr×Obj))(s:Bp)(σ:St)(H:Hp)(x:V)(xs:List V)(v:Bo)(us:List Bo)(Q:VK),Inv X pins σ H s->RelV x v->bp xs us->r x xs H Q ->
   BS (BY X.prog X.w) X.A (call (.builtin id) (v::us)) (EP X pins σ Q) X.xe s
theorem bp.one:∀{x:V}{us:List Bo},bp [x] us->∃u,us=[u]/\RelV x u
 | _,_,.cons r .nil=>⟨_,rfl,r⟩
section
variable{X:Cx}{pins:List (Addr×Obj)}{σ:St}{H:Hp}{s:Bp}{l b:Addr}{xs ys zs:List V}
theorem Inv.lset{its its':List Bo}{f:Array Bo->Array Bo}{t':Nat}(I:Inv X pins σ H s)(hH:H l=some (.lst xs))
 (e:s.heap.get? l=some {cls:=.type "list", data:=.seq its.toArray n})(hf:f its.toArray=its'.toArray)(hv:bp ys its')(hz:ys.length<=sizeLine) :
 Inv X pins σ (upd H l (.lst ys)) {s with heap:=s.heap.update l (C9 f),toks:=t' }:=by
 have q:=PySem.IsL.update e f;rw[hf]at q;refine I.write (x:=l) (e:=l) (by rw[hH];exact trivial) (.inl rfl) (fun b' u hb hu=>(BR s.heap (C9 f) (Ek hb)).trans hu) ⟨_,q⟩ ?_;exact⟨hz,its',_,hv,q⟩
theorem Inv.lstM(I:Inv X pins σ H s)(hH:H l=some (.lst xs)):xs.length<=sizeLine/\∃(its:List Bo)(n:Nat),bp xs its/\xs.length=its.length/\s.heap.get? l=some {cls:=.type "list", data:=.seq its.toArray n}:=by
 obtain⟨z,its,n,r,e⟩:=I.hok l _ hH;exact⟨z,its,n,r,r.length,e⟩
end
section
variable{X:Cx}
noncomputable def qj:V->List V->Hp->VK->Prop:=fun x vs H Q=>∃l xs y,x = .ref l/\vs=[y]/\H l=some (.lst xs)/\xs.length<sizeLine/\Q .non (upd H l (.lst (xs++[y])))
theorem lv:A4 X "list.append" qj:=by
 intro pins s σ H x vs v us Q I rx rv h;obtain⟨l,xs,y,rfl,rfl,hH,hz,q⟩:=h;cases rx;obtain⟨u,rfl,ru⟩:=rv.one;obtain⟨z,its,n,r,hl,e⟩:=I.lstM hH;refine call_meets F.slot_list_append ⟨_,e,rfl⟩ F.entry_list_append (F.args_list_append_2 _ _) (PySem.list_append l its.toArray n u (by rw[BB];omega)) ⟨e,?_⟩;refine⟨.non,_,I.lset (its':=its++[u]) hH e (by simp) (r.append (.cons ru .nil)) ?_,rfl,q⟩;rw[D0,List.length_singleton];omega
end
section
variable{prog:BE}{w:B2}{A:BX}{E:Bo->Bp->Prop}{s:Bp}
end
section
variable{X:Cx}
end
section
variable{κ:Type}[DecidableEq κ]
noncomputable def hE(kvs:List (κ×V))(k:κ):Option V:=(kvs.find? fun kv=>decide (kv.1=k)).map (·.2)
noncomputable def gz(kvs:List (κ×V))(k:κ)(v:V):List (κ×V) :=
 if(kvs.any fun kv=>decide (kv.1=k))=true then kvs.map (fun kv=>if kv.1=k then(kv.1,v)else kv)else kvs++[(k,v)]
theorem eP{p:κ×V}{r:List (κ×V)}{k:κ}(e:p.1=k):hE (p::r) k=some p.2:=by simp[hE,B_,e]
theorem eQ{p:κ×V}{r:List (κ×V)}{k:κ}(e:¬p.1=k):hE (p::r) k=hE r k:=by simp[hE,B_,e]
theorem iN(k:κ):∀kvs:List (κ×V),(kvs.any fun kv=>decide (kv.1=k))=(hE kvs k).isSome
 | []=>rfl
 | p::r=>by
   rw[DI];by_cases e:p.1=k
   · simp only[eP e,decide_eq_true e,Bool.true_or,Option.isSome_some]
   · rw[eQ e,decide_eq_false e,Gw];exact iN k r
theorem cx(kvs:List (κ×V))(k:κ)(v:V):(gz kvs k v).length<=kvs.length+1:=by
 unfold gz;split
 · rw[Bu];omega
 · rw[D0,CL,Fz];omega
theorem rQ.isSome_eq{o:Option V}{u:Option Bo}(r:rQ o u):o.isSome=u.isSome:=by
 cases o with
 | none=>cases u with
   | none=>rfl
   | some _=>exact(show False from r).elim
 | some _=>cases u with
   | none=>exact(show False from r).elim
   | some _=>rfl
theorem rQ.getD{o:Option V}{u:Option Bo}{d:V}{d':Bo}(r:rQ o u)(rd:RelV d d'):RelV (o.getD d) (u.getD d'):=by
 cases o with
 | none=>cases u with
   | none=>exact rd
   | some _=>exact(show False from r).elim
 | some _=>cases u with
   | none=>exact(show False from r).elim
   | some _=>exact r
theorem KV.val{kvs:List (κ×V)}{vs:List (κ×Bo)}(r:KV kvs vs)(k:κ):rQ (hE kvs k) (GB vs k):=by
 unfold KV at r
 induction r with
 | nil=>exact DJ
 | @cons p q ps qs h t ih =>
   obtain⟨h1,h2⟩:=h;by_cases e:p.1=k
   · have e':q.1=k:=h1.symm.trans e;have b:GB (q::qs) k=some q.2:=by simp[GB,B_,e']
     rw[eP e,b];exact h2
   · have e':¬q.1=k:=fun z=>e (h1.trans z);have b:GB (q::qs) k=GB qs k:=by simp[GB,B_,e']
     rw[eQ e,b];exact ih
theorem KV.any{kvs:List (κ×V)}{vs:List (κ×Bo)}(r:KV kvs vs)(k:κ):(kvs.any fun kv=>decide (kv.1=k))=vs.any fun kv=>decide (kv.1=k):=by
 unfold KV at r
 induction r with
 | nil=>rfl
 | cons h t ih=>rw[DI,DI,ih,h.1]
theorem KV.repl{kvs:List (κ×V)}{vs:List (κ×Bo)}(r:KV kvs vs)(k:κ){y:V}{u:Bo}(ry:RelV y u) :
 KV (kvs.map fun kv=>if kv.1=k then(kv.1,y)else kv) (vs.map fun kv=>if kv.1=k then(kv.1,u)else kv):=by
 unfold KV at r ⊢
 induction r with
 | nil=>exact .nil
 | @cons p q ps qs h t ih =>
   rw[BM,BM];refine .cons ?_ ih;obtain⟨h1,h2⟩:=h;by_cases e:p.1=k
   · rw[if_pos e,if_pos (h1.symm.trans e)];exact⟨h1,ry⟩
   · rw[if_neg e,if_neg (fun z=>e (h1.trans z))];exact⟨h1,h2⟩
theorem KV.put{kvs:List (κ×V)}{vs:List (κ×Bo)}(r:KV kvs vs)(k:κ){y:V}{u:Bo}(ry:RelV y u):KV (gz kvs k y) (stored vs k u):=by
 unfold gz stored;rw[r.any k];by_cases e:(vs.any fun kv=>decide (kv.1=k))=true
 · rw[if_pos e,if_pos e];exact r.repl k ry
 · rw[if_neg e,if_neg e];exact GV r ⟨rfl,ry⟩
theorem KV.keys{kvs:List (κ×V)}{vs:List (κ×Bo)}(r:KV kvs vs):kvs.map (·.1)=vs.map (·.1):=by
 unfold KV at r
 induction r with
 | nil=>rfl
 | cons h t ih=>rw[BM,BM,ih,h.1]
theorem KV.length{kvs:List (κ×V)}{vs:List (κ×Bo)}(r:KV kvs vs):kvs.length=vs.length:=CO r
end
theorem lM{w:B2}{k:A5}{u:Bo}(r:RelV (kV k) u):(aV P w).is k u=true:=by
 cases k with
 | inl i=>obtain⟨t,e⟩:=(show ∃t,u=Dr i t from r);subst e;exact io P w i t
 | inr x=>obtain⟨t,e⟩:=(show ∃t,u=Gr x t from r);subst e;exact im P w x t
theorem gK{P:BE}{w:B2}:∀{ks:List A5}{us:List Bo},bp (ks.map kV) us->ItemsAre (aV P w) ks us
 | [],_,r=>by rw[Dc]at r;cases r;exact .nil
 | k::ks,_,r=>by
   rw[BM]at r
   cases r with
   | cons h t=>exact .cons (lM h) (gK t)
abbrev KT(H:Hp):List (List A5×V)->List (List A5×Addr×Bo)->Prop:=Cf fun p q=>p.1=q.1/\H q.2.1=some (.tup (p.1.map kV))/\RelV p.2 q.2.2
theorem KT.val{kvs:List (List A5×V)}{xs:List (List A5×Addr×Bo)}(r:KT H kvs xs)(k:List A5):rQ (hE kvs k) ((FA xs k).map (·.2)):=by
 induction r with
 | nil=>exact DJ
 | @cons p q ps qs h t ih =>
   obtain⟨h1,_,h2⟩:=h;by_cases e:p.1=k
   · have e':q.1=k:=h1.symm.trans e;have b:FA (q::qs) k=some q.2:=by simp[FA,B_,e']
     rw[eP e,b];exact h2
   · have e':¬q.1=k:=fun z=>e (h1.trans z);have b:FA (q::qs) k=FA qs k:=by simp[FA,B_,e']
     rw[eQ e,b];exact ih
theorem KT.repl{kvs:List (List A5×V)}{xs:List (List A5×Addr×Bo)}(r:KT H kvs xs)(k:List A5){y:V}{u:Bo}(ry:RelV y u) :
 KT H (kvs.map fun kv=>if kv.1=k then(kv.1,y)else kv) (xs.map (putAt k u)):=by
 induction r with
 | nil=>exact .nil
 | @cons p q ps qs h t ih =>
   rw[BM,BM];refine .cons ?_ ih;obtain⟨h1,h2,h3⟩:=h;unfold putAt;by_cases e:p.1=k
   · rw[if_pos e,if_pos (h1.symm.trans e)];exact⟨h1,h2,ry⟩
   · rw[if_neg e,if_neg (fun z=>e (h1.trans z))];exact⟨h1,h2,h3⟩
theorem KT.put{kvs:List (List A5×V)}{xs:List (List A5×Addr×Bo)}(r:KT H kvs xs)(k:List A5){b:Addr}{y:V}{u:Bo}(hb:H b=some (.tup (k.map kV)))(ry:RelV y u) :
 KT H (gz kvs k y) (GC xs k b u):=by
 have e:(kvs.any fun kv=>decide (kv.1=k))=(FA xs k).isSome:=by
  rw[iN,(r.val k).isSome_eq,Option.isSome_map]
 unfold gz GC;rw[e];by_cases q:(FA xs k).isSome=true
 · rw[if_pos q,if_pos q];exact r.repl k ry
 · rw[if_neg q,if_neg q];exact GV r ⟨rfl,hb,ry⟩
theorem KT.keeps{kvs:List (List A5×V)}{xs:List (List A5×Addr×Bo)}(r:KT H kvs xs)(ht:∀b ys,H b=some (.tup ys)->H' b=some (.tup ys)):KT H' kvs xs :=
 Cf.mapP r fun _ _ z=>⟨z.1,ht _ _ z.2.1,z.2.2⟩
section
variable{P:BE}{w:B2}{H:Hp}{h:Heap}{a:Addr}
theorem tj{u:HO}(ok:Bb P w H h)(e:Rd H a u):bI P w H h a u:=e.ok ok
theorem jM{kvs:List (A5×V)}(ok:Bb P w H h)(e:Rd H a (.dK kvs)):kvs.length<=sizeLine/\(a==Cz)=false/\∃vs,KV kvs vs/\h.DictOf (aV P w) a vs :=
 show bI P w H h a (.dK kvs)from tj ok e
theorem uE{kvs:List (A5×V)}(ok:Bb P w H h)(e:H a=some (.dK kvs)):kvs.length<=sizeLine/\(a==Cz)=false/\∃vs,KV kvs vs/\h.DictOf (aV P w) a vs:=jM ok (.inl e)
theorem lH{ks:List A5}(ok:Bb P w H h)(e:H a=some (.tup (ks.map kV))):(Dy (aV P w)).is h ks a:=by
 obtain⟨_,its,r,o,h1,h2,⟨n,h3⟩,_⟩:=(show bI P w H h a (.tup (ks.map kV))from ok a _ e);exact⟨o,its.toArray,n,h1,h2,h3,by simpa using gK r⟩
theorem rB{kvs:List (List A5×V)}(ok:Bb P w H h)(e:Rd H a (.dT kvs)):kvs.length<=sizeLine/\(a==Cz)=false /\
 ∃xs,KT H kvs xs/\h.DictOfH (Dy (aV P w)) a xs:=by
 obtain⟨z,y,xs,r,o,es,ep,h1,h2,h3,h4,h5⟩:=(show bI P w H h a (.dT kvs)from tj ok e);refine⟨z,y,xs,r,o,es,ep,h1,h2,h3,h4,fun x hx=>?_,h5⟩
 have all:∀{l:List (List A5×V)}{m:List (List A5×Addr×Bo)},KT H l m->∀x∈m,(Dy (aV P w)).is h x.1 x.2.1:=by
  intro l m q
  induction q with
  | nil=>intro x hx;exact nomatch hx
  | @cons p q ps qs hq t ih =>
    intro x hx;rcases BL.mp hx with e|hx
    · subst e;exact lH ok (by rw[<- hq.1];exact hq.2.1)
    · exact ih x hx
 exact all r x hx
theorem wD{kvs:List (List A5×V)}(ok:Bb P w H h)(e:H a=some (.dT kvs)):kvs.length<=sizeLine/\(a==Cz)=false /\
 ∃xs,KT H kvs xs/\h.DictOfH (Dy (aV P w)) a xs:=rB ok (.inl e)
end
noncomputable def va(H:Hp)(a:Addr)(y:V)(r:Option V):Prop :=
 (∃kvs k,Rd H a (.dK kvs)/\y=kV k/\r=hE kvs k)\/∃kvs k b,Rd H a (.dT kvs)/\y = .ref b/\H b=some (.tup (k.map kV))/\r=hE kvs k
noncomputable def yf(H:Hp)(a:Addr)(y v:V)(H':Hp):Prop :=
 (∃kvs k,H a=some (.dK kvs)/\y=kV k/\kvs.length<sizeLine/\H'=upd H a (.dK (gz kvs k v))) \/
 ∃kvs k b,H a=some (.dT kvs)/\y = .ref b/\H b=some (.tup (k.map kV))/\kvs.length<sizeLine/\H'=upd H a (.dT (gz kvs k v))
theorem va.k{H:Hp}{a:Addr}{kvs:List (A5×V)}{k:A5}(e:H a=some (.dK kvs)):va H a (kV k) (hE kvs k):=.inl ⟨kvs,k,.inl e,rfl,rfl⟩
section
variable{X:Cx}{pins:List (Addr×Obj)}{σ:St}{H:Hp}{s:Bp}{a:Addr}{y v:V}{u r:Bo}{o:Option V}{A:BX}{E:Bo->Bp->Prop}
theorem Inv.big(I:Inv X pins σ H s):Cz<s.heap.objs.size:=by
 have h:B4<s.heap.objs.size:=(I.mod.glob.keeps I.bk).lt;exact GF (by decide) h
theorem mh(hu:A.units+1<FY)(I:Inv X pins σ H s)(g:va H a y (some v))(ry:RelV y u)(h:∀w' s',Inv X pins σ H s'->RelV v w'->Q w' s') :
 BS (BY X.prog X.w) A (GT (.ref a) u) Q E s:=by
 rcases g with⟨kvs,k,e,ey,l⟩|⟨kvs,k,b,e,ey,eb,l⟩
 · subst ey;obtain⟨z,hd,vs,rel,dd⟩:=jM I.hok e;obtain⟨w',hw,rw'⟩:=rQ.some_of (v:=v) (o:=GB vs k) (by rw[l];exact rel.val k);exact wpAny_getItem_of (lM ry) dd.mapOf hw (h w' _ (I.tok _) rw')
 · subst ey;cases(show u=Ce b from ry);obtain⟨z,hd,xs,rel,dd⟩:=rB I.hok e;obtain⟨w',hw,rw'⟩:=rQ.some_of (v:=v) (o:=(FA xs k).map (·.2)) (by rw[l];exact rel.val k);obtain⟨p,hp,hp2⟩:=C5.mp hw;refine wpAny_getItem_heap (Dx hu) (lH I.hok eb) dd hp ?_;rw[hp2];exact h w' _ (I.tok _) rw'
theorem fJ{h':Heap}{t':Nat}{ob:HO}(I:Inv X pins σ H s)(mu:A3 (H a))(hs:DA a s.heap h')(he:∃q,h'.get? a=some q)(new:bI X.prog X.w (upd H a ob) h' a ob) :
 Inv X pins σ (upd H a ob) {s with heap:=h',toks:=t' } :=
 I.write (x:=a) (e:=a) mu (.inl rfl) (fun b q hb z=>(hs.2 b hb).trans z) he new
theorem dk_new{w:B2}{h':Heap}{kvs:List (A5×V)}{vs:List (A5×Bo)}(z:kvs.length<=sizeLine)(hd:(a==Cz)=false)(rel:KV kvs vs)(dd:h'.DictOf (aV P w) a vs) :
 bI P w H' h' a (.dK kvs):=⟨z,hd,vs,rel,dd⟩
theorem mf{Q:Unit->Bp->Prop}(hu:A.units+1<FY)(I:Inv X pins σ H s)(g:yf H a y v H')(ry:RelV y u)(rv:RelV v r)(h:∀s',Inv X pins σ H' s'->Q () s') :
 BS (BY X.prog X.w) A (setItem (.ref a) u r) Q E s:=by
 rcases g with⟨kvs,k,e,ey,l,eH⟩|⟨kvs,k,b,e,ey,eb,l,eH⟩
 · subst ey eH;obtain⟨z,hd,vs,rel,dd⟩:=uE I.hok e;have hz:vs.length<=sizeLine:=by rw[<- rel.length];exact z
   have hl:(gz kvs k v).length<=sizeLine:=by have:=cx kvs k v;omega
   refine wpAny_setItem_pairs (hsz:=hz) (lM ry) dd fun h' dd' hs=>h _ ?_;have he:∃q,h'.get? a=some q:=let ⟨q,_,_,hq,_⟩:=dd';⟨q,hq⟩
   exact fJ I (by rw[e];exact DJ) hs he (dk_new hl hd (rel.put k rv) dd')
 · subst ey eH;cases(show u=Ce b from ry);obtain⟨z,hd,xs,rel,dd⟩:=wD I.hok e;have hz:xs.length<=sizeLine:=by rw[<- CO rel];exact z
   have hl:(gz kvs k v).length<=sizeLine:=by have:=cx kvs k v;omega
   refine wpAny_setItem_heap (hsz:=hz) (Dx hu) (lH I.hok eb) dd fun h' dd' hs=>h _ ?_;obtain⟨q,es,ep,hq,h2,h3,h4,_,h5⟩:=dd';refine fJ I (by rw[e];exact DJ) hs ⟨q,hq⟩ ⟨hl,hd,_,(rel.put k eb rv).keeps fun c ys ec=>?_,q,es,ep,hq,h2,h3,h4,h5⟩;rw[upd_ne (wg ec e (fun z=>nomatch z))];exact ec
end
section
variable{X:Cx}{pins:List (Addr×Obj)}{σ:St}{H:Hp}{s:Bp}{a:Addr}{kvs:List (A5×V)}{k:A5}{u:Bo}{A:BX}{E:Bo->Bp->Prop}
end
noncomputable def uP(i:Expr):Prop:=∀ov iv,Gi i false ov iv=operate [ov,iv] (GT ov iv)
theorem kH{prog:BE}{w:B2}{env:Env}{value slice:Expr}{id:String}
 (hl:typeLookup (.type T) "__getitem__" = pure (some (.builtin id)))(hs:uP slice)
 (h:BS (BY prog w) A (eval value env) (fun o s₁=>BS (BY prog w) A (eval slice env) (fun i s₂=>s₂.TypeIs o T/\BS (BY prog w) A (GT o i) Q E s₂) E s₁) E s) :
 BS (BY prog w) A (eval (.Subscript value slice pos) env) Q E s:=by
 refine Subscript_ (Cc h (fun o s₁ h₁=>Cc h₁ (fun i s₂ h₂=>?_) fun _ _ x=>x) fun _ _ x=>x);obtain⟨hT,h₂⟩:=h₂;unfold Gv;refine Bm ?_;rw[getitemInPython_of_ne hT.not_modules];refine Bm (wpAny_specialOf hT hl ?_)
 have fin:BS (BY prog w) A (Gi slice false o i) (fun r s₃=>BS (BY prog w) A (letTemporaryGo value o r >>= fun _=>pure r) Q E s₃) E s₂:=by
  rw[hs o i];exact wpAny_operating (Cc h₂ (fun r s₃ h₃=>Bm (wpAny_letTemporaryGo (Bs h₃))) fun _ _ x=>x)
 first
  | exact Bs (Bm fin)
  | exact Bm (Bs (Bm fin))
  | exact Bm fin
theorem iy{y:V}{o:Option V}(I:Inv X pins σ H s)(g:va H a y o):s.TypeIs (.ref a) "dict" := by
 rcases g with⟨kvs,k,e,_,_⟩|⟨kvs,k,b,e,_,_,_⟩
 · obtain⟨_,_,vs,_,dd⟩:=jM I.hok e;exact dd.typeIs
 · obtain⟨_,_,xs,_,dd⟩:=rB I.hok e;exact dd.typeIs
noncomputable def vS(td ty:TE):TE:=fun σ H Q=>td σ H fun x H1=>ty σ H1 fun y H2=>∃a v,x = .ref a/\va H2 a y (some v)/\Q v H2
noncomputable def v4(td ty tv:TE):TS:=fun D σ H=>tv σ H fun v H1=>td σ H1 fun x H2=>ty σ H2 fun y H3=>∃a H4,x = .ref a/\yf H3 a y v H4/\D.nx σ H4
section
variable{X:Cx}{o i e value:Expr}{pos pos' tpos:Pos}{td ty tv:TE}
theorem qH(hu:X.A.units+1<FY)(ho:PE X o td)(hi:PE X i ty)(hs:uP i):PE X (.Subscript o i pos) (vS td ty):=by
 intro pins s σ H Q I h;refine kH EO.lookup hs (zr (ho pins s σ H _ I h) fun u s1 ⟨x,H1,I1,rx,q1⟩=>zr (hi pins s1 σ H1 _ I1 q1) fun iv s2 ⟨y,H2,I2,ry,a,v,ex,g,q2⟩=>?_);subst ex;obtain rfl:u=Ce a:=rx;exact⟨iy I2 g,mh hu I2 g ry fun w' s3 I3 rw'=>⟨v,H2,I3,rw',q2⟩⟩
theorem qx(hu:X.A.units+1<FY)(ho:PE X o td)(hi:PE X i ty)(hv:PE X value tv)(hs:DU value (some (.Subscript o i pos')) pos.line X.env=pure false) :
 PS X (.Assign [.Subscript o i pos'] value pos) (v4 td ty tv):=by
 intro pins s σ H D I h;refine Fi (zr (hv pins s σ H _ I h) fun r s1 ⟨v,H1,I1,rv,q1⟩=>zr (ho pins s1 σ H1 _ I1 q1) fun u s2 ⟨x,H2,I2,rx,q2⟩=>zr (hi pins s2 σ H2 _ I2 q2) fun iv s3 ⟨y,H3,I3,ry,a,H4,ex,g,q3⟩=>?_) hs;subst ex;obtain rfl:u=Ce a:=rx;exact mf hu I3 g ry rv fun s4 I4=>⟨σ,H4,I4,q3⟩
end
theorem fG{w:B2}(h:Heap)(hb:Cz<h.objs.size):bI P w H (h.push {cls:=.type "dict", data:=.dict #[]}) h.objs.size (.dK []) :=
 ⟨B7 _,beq_eq_false_iff_ne.mpr (Ek (BV hb)),[],.nil,Heap.DictOf.new h⟩
noncomputable def sQ:TE:=fun _ H Q=>∀p,H p=none->Q (.ref p) (upd H p (.dK []))
section
variable{X:Cx}{pos:Pos}
theorem nL:PE X (.Dict [] [] pos) sQ:=fun pins s σ H Q I h =>
 wpAny_Dict_empty ⟨.ref s.heap.objs.size,_,I.laid (a:=s.heap.objs.size) (o:=.dK []) (t':=s.toks) (fun _ _ q=>Bn _ q) (By _) (fG s.heap I.big),rfl,h _ (I.hok.fresh (By _))⟩
end
structure M2 (X:Cx) (o:Expr) (m:Str) (apos:Pos) (e f:Expr) (cpos:Pos):Prop where
 base:attributeBase o m X.env (eval o X.env)=eval o X.env
 few:((Dj cpos (BF [e,f] X.env)).all (fun x=>!x.1)&&(backToKw cpos (GS [] X.env)).all (fun x=>x.1.isSome)
  && decide (([e,f]:List Expr).length+([]:List Keyword).length+(if([]:List Keyword).isEmpty then 0 else 1)<30))=true
 line:(apos.endLine==cpos.line)=true
 trees:Dj cpos (BF [e,f] X.env)=[(false,eval e X.env),(false,eval f X.env)]
section
variable{X:Cx}{pins:List (Addr×Obj)}{σ:St}{H:Hp}{s:Bp}{a:Addr}{y d:V}{u r:Bo}{o:Option V}{A:BX}{E:Bo->Bp->Prop}
end
section
variable{X:Cx}{o e f:Expr}{apos cpos:Pos}{td ty tx:TE}
end
section
variable{X:Cx}{pins:List (Addr×Obj)}{σ:St}{H:Hp}{s:Bp}{a:Addr}{kvs:List (A5×V)}{A:BX}{E:Bo->Bp->Prop}
end
section
variable{X:Cx}{pins:List (Addr×Obj)}{σ:St}{H:Hp}{s:Bp}{a:Addr}{y:V}{u:Bo}{A:BX}{E:Bo->Bp->Prop}
end
end L2
namespace Att
open PySem PySem.W PySem.Calls PyProof.Rows
theorem dF{P:G0}:∀(ns:List Int)(vs:List Bo),WellAll P h vs (ns.map WData.int)->D1 vs ns:=by
 intro ns
 induction ns with
 | nil =>
   intro vs w;rw[Dc]at w;cases w
   exact .nil
 | cons n ns ih =>
   intro vs w;rw[BM]at w
   cases w with
   | cons a b =>
     cases a;exact .cons _ _ (ih _ b)
theorem kO{l:G3}(hn:l.most=some n){P:G0}{args:List WData}{vals:List Bo}
 (hpre:l.row.toRowW.claim.pre args=true)(hwl:WellAll P h vals args) :
 ∃a vs ns,vals=[Ce a]/\args=[WData.list (ns.map WData.int)]/\h.get? a=some {cls:=.type "list", data:=.seq vs.toArray}/\D1 vs ns/\ns.length<=n:=by
 have hsh:WShape.hasAll [] args [.list .int]=true:=(pre_splitW hpre).1;have hc:l.pre.holds [] {args:=args}=true:=(pre_splitW hpre).2;obtain⟨d,r,rfl,h1,h2⟩:=hasAllW_cons hsh;obtain rfl:=hasAllW_nil h2;obtain⟨xs,rfl,h3⟩:=hasW_list h1;obtain⟨ns,rfl⟩:=items_int h3
 have hlen:ns.length<=n:=by
  unfold G3.pre at hc
  have h4:(WTm.not (.lt (.lit (.int (n:Int))) (.len (.arg 0)))).holds [] {args:=[.list (ns.map .int)]}=true:=by
   have h4:=(holds_andW hc).1;rw[hn]at h4;exact h4
  have h5:=condW_of h4 (w_not (w_lt w_lit (w_len_list (w_arg rfl))));rw[Bu]at h5;refine Nat.le_of_not_lt fun q=>?_;have q':(n:Int)<((ns.length:Nat):Int):=by omega
  first
   | (rw[decide_eq_true q']at h5;exact absurd h5 (by decide))
   | (simp at h5;omega)
 cases hwl with
 | cons w1 w2 =>
   cases w2
   cases w1 with
   | list ho hall=>exact⟨_,_,ns,rfl,rfl,ho,dF ns _ hall,hlen⟩
theorem lf(l:G3)(args:List WData):l.row.toRowW.claim.post args (.bool true) args=true :=
 postW_of (r:=l.row.toRowW) (X:=(true==true))
  (show WShape.has [] (.bool true) .bool=true by first|rfl|decide|simp[WShape.has,WShape.arms,WShape.armsAll])
  (show(WTm.eq .res (.lit (.bool true))).value [] {args:=args,res:=some (.bool true),after:=args}=some (.bool (true==true))from w_eq_bool (w_res rfl) w_lit) rfl
theorem attach_call{l:G3}{q:BE}{YP:B2->Heap->Prop}{d:DefRec}
 (hn:l.most=some n)(hdf:d.params.defaults=[])
 (call:∀(w:B2)(s₀ s₁:Bp)(mg mb:Str->Option Bo)(fa:Addr)(o:Obj)(pm cd doc:Bo)(a:Addr)(vs:List Bo)(ns:List Int),
  Ground q loose [] XP w s₀ mg mb s₁.heap->YP w s₁.heap ->
  s₁.heap.get? fa=some o->o.data = .func (docDef d.name d.params d.body d.scope pm cd doc)->s₁.heap.CodeRec cd d.name->mg d.name=some (.ref fa) ->
  s₁.heap.get? a=some {cls:=.type "list", data:=.seq vs.toArray}->D1 vs ns->ns.length<=n->s₁.gens = #[] ->
  DX (BY l.prog w) GD (.call (.ref fa) ⟨[.ref a],[]⟩) (fun r s'=>r = .ok (.ret (.bool true))/\OldK s₁.heap s'.heap/\s'.os=s₁.os/\Gg s'.gens) s₁) :
 WalkO q loose XP YP l.row.toRowW d [] (fun f vs=>PySem.call f vs):=by
 intro w s₀ s₁ mg mb G Y fa o pm cd doc dV kV ho hd hcd hD hmg hg args vals as hpre hlay hrd hwl hlo;obtain rfl:dV = .none:=Dflts.none hD hdf;obtain rfl:kV = .none:=Dflts.noKw hD;obtain⟨a,vs,ns,rfl,rfl,hobj,hints,hlen⟩:=kO hn hpre hwl;refine enter_call (Fv (call w s₀ s₁ mg mb fa o pm cd doc a vs ns G Y ho (fd_plain hd) hcd hmg hobj hints hlen hg) fun r s' hq=>?_);obtain⟨rfl,h2,h3,h4⟩:=hq;exact⟨.inl ⟨.bool true,.bool true,[],rfl,fun _=>rfl,.bool true,lf l _,fun _=>⟨List.Pairwise.nil,fun _ hm=>(nomatch hm)⟩⟩,h2,h3,h4⟩
section
variable{prog:BE}{w:B2}{A:BX}{E:Bo->Bp->Prop}{s:Bp}{K:Frag}
end
end Att
namespace L2
theorem fW:∀{vs:List Bo}{ns:List Int},D1 vs ns->bp (ns.map V.int) vs
 | _,_,.nil=>.nil
 | _,_,.cons n t h=>.cons ⟨t,rfl⟩ (fW h)
noncomputable def wJ(H:Hp):Prop:=∀b,H b=none\/∃o xs,H b=some (.frz o (.lst xs))
theorem nZ{w:B2}{K:W.Frag}{mb:Str->Option Bo}{CX:Bd}{k:Nat}{fa:Addr}{sp:Sp}{s₁:Bp}
 (KX:K.In s₁.heap)(hns:s₁.heap.Ns B4 mg)(hb:s₁.heap.Ns builtinsNs mb)(hbb:∀x:Str,x ≠ "__name__" -> mb x=Dn x)(hlim:s₁.heap.NoLimit)(hg:s₁.gens = #[])
 (ha:s₁.heap.get? a=some {cls:=.type "list", data:=.seq vs.toArray})(hi:D1 vs ns)(hl:ns.length<=sizeLine)(hr:Room k GD)
 (F:∀base:Heap,K.In base->base.Ns B4 mg->FnOk P w K mg base CX k fa fd [x] sp)(hbind:∀(s:Bp)(u:Bo),GR s fd ⟨[u],[]⟩ [(x,u)])
 (hsp:∀H:Hp,wJ H->AM K H a (ns.map V.int)->sp [.ref a] H (fun v _=>v = .bl true) fun _ _ _=>False)
 (hCX:∀H e s',CX [] H s₁ (fun _ _ _=>False) e s'->False) :
 DX (BY P w) GD (.call (.ref fa) ⟨[.ref a],[]⟩) (fun r s'=>r = .ok (.ret (.bool true))/\OldK s₁.heap s'.heap/\s'.os=s₁.os/\Gg s'.gens) s₁:=by
 have rv:=fW hi;have lenV:=hi.length
 have core:∀H:Hp,wJ H->AM K H a (ns.map V.int)->Bb P w H s₁.heap->(∀b,H b≠none->b=a)->(H a≠none->K.lookup a=none) ->
  DX (BY P w) GD (.call (.ref fa) ⟨[.ref a],[]⟩) (fun r s'=>r = .ok (.ret (.bool true))/\OldK s₁.heap s'.heap/\s'.os=s₁.os/\Gg s'.gens) s₁:=by
  intro H hO hS hok hA hK;have base_of:∀{b:Addr}{o:Obj},s₁.heap.get? b=some o->H b=none->(oa s₁.heap H).get? b=some o:=fun e n=>n_ e n
  have noA:∀{b:Addr}{o:Obj}{es:Array Ed}{ep:Nat},s₁.heap.get? b=some o->o.data = .dict es ep->H b=none:=fun{b o es ep} e d=>by
   cases q:H b with
   | none=>rfl
   | some u =>
     have e':b=a:=hA b (by rw[q];simp);subst e';rw[ha]at e;cases e;have d':Data.seq vs.toArray _=Data.dict es ep:=d;cases d'
  have nsK:∀{b:Addr}{m:Str->Option Bo},s₁.heap.Ns b m->(oa s₁.heap H).Ns b m:=fun{b m} ⟨o,es,ep,e,d,r⟩=>⟨o,es,ep,base_of e (noA e d),d,r⟩
  have hKb:K.In (oa s₁.heap H):=fun b o e=>base_of (KX b o e) (by
   cases q:H b with
   | none=>rfl
   | some u =>
     have e':b=a:=hA b (by rw[q];simp);subst e'
     rw[hK (by rw[q];simp)]at e;cases e)
  have hM:Mod K mg (oa s₁.heap H):=⟨hKb,nsK hns,⟨mb,nsK hb,hbb⟩,let ⟨mc,h1,h2⟩:=hlim;⟨mc,nsK h1,h2⟩⟩;have e0:Env0 P w K mg (oa s₁.heap H) GD [] s₁ H:=⟨rfl,hM,fun b o e=>qM e,Nat.le_of_eq (lU _ _),trivial,fun b hb=>absurd (show b∈([]:List Addr)from hb) (by simp),hok,.of_eq hg⟩;refine Fv ((F _ hKb (nsK hns)).run GD [] s₁ H ⟨[.ref a],[]⟩ [.ref a] [.ref a] _ _ hr e0 (hbind s₁ (.ref a)) (.cons rfl .nil) (hsp H hO hS)) fun r s' h=>?_
  cases r with
  | error e=>exact(hCX H e s' h).elim
  | ok fl =>
    cases fl with
    | next=>exact CI h
    | brk=>exact CI h
    | cont=>exact CI h
    | ret u =>
      obtain⟨v,H',os,bare,un,hok',r',q⟩:=h;have q':v = .bl true:=q;subst q';obtain rfl:u=EU true:=r';refine⟨rfl,OldK.of_keep fun b o e=>?_,os,bare⟩
      cases q:H b with
      | none=>exact un.keep b o e q (by intro z;exact absurd (show b∈([]:List Addr)from z) (by simp)) (by simp)
      | some u =>
        rcases hO b with z|⟨ob,xs,z⟩
        · rw[q]at z;cases z
        · have z2:=un.frzs b ob _ z;obtain⟨e1,_⟩:=hok b _ z;obtain⟨e2,_⟩:=hok' b _ z2;rw[e]at e1;cases e1;exact e2
 cases hk:K.lookup a with
 | some o =>
   have e:=KX a o hk;rw[ha]at e;cases e
   refine core (fun _=>none) (fun _=>.inl rfl) (.inr ⟨_,vs.toArray,_,hk,rfl,rfl,rfl,by rw[BB,lenV];exact hl,by simpa using rv⟩) (fun b u z=>by have z':(none:Option HO)=some u:=z;cases z') (fun b z=>absurd rfl z) fun z=>absurd rfl z
 | none =>
   refine core (fun b=>if b=a then some (.frz {cls:=.type "list", data:=.seq vs.toArray} (.lst (ns.map V.int)))else none) (fun b=>?_) (.inl (.inr ⟨{cls:=.type "list", data:=.seq vs.toArray},if_pos rfl⟩)) (fun b u z=>?_) (fun b z=>?_) fun _=>hk
   · by_cases hb:b=a
     · exact .inr ⟨_,_,if_pos hb⟩
     · exact .inl (if_neg hb)
   · by_cases hb:b=a
     · have z':=(if_pos hb).symm.trans z;cases z';subst hb;exact⟨ha,by rw[Bu];exact hl,vs,_,rv,ha⟩
     · have z':=(if_neg hb).symm.trans z;cases z'
   · by_cases hb:b=a
     · exact hb
     · exact absurd (if_neg hb) z
theorem walk_of{l:W.OpenLaw}{k:Nat}{q:BE}{YP:B2->Heap->Prop}{d:DefRec}{K:G0->W.Frag}{CX:B2->Bd}{sp:B2->Sp}
 (hn:l.most=some n)(hn2:n<=sizeLine)(hdf:d.params.defaults=[])(hr:Room k GD)
 (hY:∀(w:B2)(h:Heap),YP w h->(K w.params).In h)
 (F:∀(w:B2)(mg:Str->Option Bo)(fa:Addr)(h:Heap),(K w.params).In h->h.Ns B4 mg->mg d.name=some (.ref fa) ->
  ∃ fd:Db,(∀(s:Bp)(u:Bo),GR s fd ⟨[u],[]⟩ [(x,u)]) /\
    ∀base:Heap,(K w.params).In base->base.Ns B4 mg->FnOk l.prog w (K w.params) mg base (CX w) k fa fd [x] (sp w))
 (hsp:∀(w:B2)(H:Hp)(a:Addr)(ns:List Int),ns.length<=n->wJ H->AM (K w.params) H a (ns.map V.int)->sp w [.ref a] H (fun v _=>v = .bl true) fun _ _ _=>False)
 (hCX:∀(w:B2)(H:Hp)(s:Bp)(e:Bo)(s':Bp),CX w [] H s (fun _ _ _=>False) e s'->False) :
 W.WalkO q loose XP YP l.row.toRowW d [] (fun f vs=>PySem.call f vs):=by
 refine Att.attach_call hn hdf fun w s₀ s₁ mg mb fa o pm cd doc a vs ns G Y ho hd hcd hmg hobj hints hlen hg=>?_;have KX:=hY w _ Y;obtain⟨fd,hb,hF⟩:=F w mg fa _ KX G.T.g hmg;exact nZ KX G.T.g G.T.b G.T.builtins G.T.nolimit hg hobj hints (CC hlen hn2) hr hF hb (fun H hO hS=>hsp w H a ns hlen hO hS) fun H e s'=>hCX w H s₁ e s'
abbrev Be:Bd:=fun _ _ _ _ _ _=>False
abbrev E0:XK:=fun _ _ _=>False
theorem tU:mL Be X E0:=fun _ _ _ _ _ _ _ h=>h.elim
structure Fun (K:W.Frag) (x qual:Str) (st:Stmt) (f:Addr) (fd:Db):Prop where
 ex:∃(oc:Bo)(od:Option Addr)(kV doc pm:Bo)(an:Option Addr)(cdv ct:Bo)(osl:Array (Option Bo)),
  fd=W.fnOf x qual (defArgs st) (defBody st) (defScope st) .none kV doc pm an cdv ct/\K.lookup f=some ⟨oc,od,.func fd,osl⟩/\W.codeIn K cdv qual=true
 kp:W.keepIn K (.ref f)=true
section
variable{P:BE}{w:B2}{K:W.Frag}{mg:Str->Option Bo}{base:Heap}
theorem Fun.ok{st:Stmt}{N:List Str}{k:Nat}{sp:Sp}(F:Fun K x qual st f fd)(S:FnScope N ps (defScope st))(len:∀vs H Q E,sp vs H Q E->vs.length=ps.length)
 (hbody:∀(cdv:Bo)(A:BX)(outer:List Env)(s:Bp)(H:Hp)(vs:List V)(Q:VK)(E:XK),Room k (A.deeper (Fd qual (defScope st) s.heap.objs.size f cdv))->sp vs H Q E ->
  ∃t,AU (mU Be P w K mg base N qual (defScope st) f cdv A outer s H E).nox (defBody st) t/\t {nx:=fun _ H'=>Q .non H',rt:=Q} (start N vs) H):FnOk P w K mg base Be (k+1) f fd ps sp:=by
 obtain⟨oc,od,kV,doc,pm,an,cdv,ct,osl,rfl,lk,hcd⟩:=F.ex;refine wB lk hcd S len fun A outer s H vs Q E hr hsp=>?_;obtain⟨t,h,q⟩:=hbody cdv A outer s H vs Q E hr hsp;exact⟨t,h.nox,q⟩
theorem Fun.binds{st:Stmt}(F:Fun K x qual st f fd)
 (h:∀(kV doc pm:Bo)(an:Option Addr)(cdv ct:Bo)(us:List Bo),us.length=ps.length->bindArgs (W.fnOf x qual (defArgs st) (defBody st) (defScope st) .none kV doc pm an cdv ct) ⟨us,[]⟩=pure (ps.zip us)):Binds K fd ps []:=by
 obtain⟨oc,od,kV,doc,pm,an,cdv,ct,osl,rfl,lk,hcd⟩:=F.ex;exact .all (h kV doc pm an cdv ct)
theorem l6{st:Stmt}{oc:Bo}{od an:Option Addr}{osl:Array (Option Bo)}{kV doc pm cdv ct:Bo}(l:K.lookup f=some ⟨oc,od,.func (W.fnOf x qual (defArgs st) (defBody st) (defScope st) .none kV doc pm an cdv ct),osl⟩)
 (c:W.codeIn K cdv qual=true)(k:W.keepIn K (.ref f)=true):Fun K x qual st f (W.fnOf x qual (defArgs st) (defBody st) (defScope st) .none kV doc pm an cdv ct):=⟨⟨oc,od,kV,doc,pm,an,cdv,ct,osl,rfl,l,c⟩,k⟩
end
section
variable{X:Cx}
theorem pv(i:Nat)(hN:autoParam (X.N[i]?=some x) æa._auto_1)(hv:autoParam (AC X.env.scope x) æf._auto_1)(hd:autoParam ((x==("__debug__" : Str))=false) æb._auto_1)
 (hcd:autoParam ((x==("__classdict__" : Str))=false) æb._auto_1):PE X (.Name x pos) (xQ i):=dw hN hv hd hcd
end
noncomputable def a_(H H':Hp):Prop:=∀b o,H b=some o->H' b=some o
theorem a_.refl(H:Hp):a_ H H:=fun _ _ h=>h
theorem a_.trans{H1 H2:Hp}(a:a_ H H1)(b:a_ H1 H2):a_ H H2:=fun c o h=>b c o (a c o h)
theorem a_.free(e:a_ H H'){l:Addr}(h:H' l=Option.none):H l=Option.none:=by
 cases q:H l with
 | none=>rfl
 | some o =>
   rw[e l o q]at h;cases h
section
variable{X:Cx}
end
section
variable{κ:Type}[DecidableEq κ]
end
end L2
namespace L2.VL
noncomputable def RO(F:Hp)(o:HO):Prop:=∃(c:Addr)(ns:List Int)(a l t:Int),o = .lst [.ref c,.int a,.int l,.int t]/\F c=some (.lst (ns.map V.int))/\ns.length<=63/\0<=a/\0<=l/\0<=t
theorem RO.mono{o:HO}(s:a_ F F')(h:RO F o):RO F' o:=by
 obtain⟨c,ns,a,l,t,e,q,r⟩:=h;exact⟨c,ns,a,l,t,e,s _ _ q,r⟩
mutual
inductive Rep (K:W.Frag) (F:Hp):V->Bl->Prop
 | non:Rep K F .non .none
 | bl (b:Bool):Rep K F (.bl b) (.bool b)
 | int (i:Int):Rep K F (.int i) (.int i)
 | str (x:Str):Rep K F (.str x) (.str x)
 | tup {a:Addr} {vs:List V} {ds:List Bl}:AL K F a vs->Reps K F vs ds->Rep K F (.ref a) (.tuple ds)
 | lst {a:Addr} {vs:List V} {ds:List Bl}:F a=some (.lst vs)->Reps K F vs ds->Rep K F (.ref a) (.list ds)
inductive Reps (K:W.Frag) (F:Hp):List V->List Bl->Prop
 | nil:Reps K F [] []
 | cons {v:V} {d:Bl} {vs:List V} {ds:List Bl}:Rep K F v d->Reps K F vs ds->Reps K F (v::vs) (d::ds)
end
theorem cr{K:W.Frag}{xs:List V}(e:a_ H H')(h:AL K H a xs):AL K H' a xs:=by
 rcases h with(h|⟨o,h⟩)|h
 · exact .inl (.inl (e _ _ h))
 · exact .inl (.inr ⟨o,e _ _ h⟩)
 · exact .inr h
theorem kP{K:W.Frag}{xs:List V}(e:a_ H H')(h:AM K H a xs):AM K H' a xs:=by
 rcases h with(h|⟨o,h⟩)|h
 · exact .inl (.inl (e _ _ h))
 · exact .inl (.inr ⟨o,e _ _ h⟩)
 · exact .inr h
mutual
theorem Rep.mono{K:W.Frag}{F F':Hp}(s:a_ F F'):∀{v:V}{d:Bl},Rep K F v d->Rep K F' v d
 | _,_,.non=>.non
 | _,_,.bl b=>.bl b
 | _,_,.int i=>.int i
 | _,_,.str x=>.str x
 | _,_,.tup h r=>.tup (cr s h) (Reps.mono s r)
 | _,_,.lst h r=>.lst (s _ _ h) (Reps.mono s r)
theorem Reps.mono{K:W.Frag}{F F':Hp}(s:a_ F F'):∀{vs:List V}{ds:List Bl},Reps K F vs ds->Reps K F' vs ds
 | _,_,.nil=>.nil
 | _,_,.cons h r=>.cons (Rep.mono s h) (Reps.mono s r)
end
theorem Reps.length{K:W.Frag}{F:Hp}:∀{vs:List V}{ds:List Bl},Reps K F vs ds->vs.length=ds.length
 | _,_,.nil=>rfl
 | _,_,.cons _ r=>by simp[Reps.length r]
theorem Reps.get{K:W.Frag}{F:Hp}:∀{vs:List V}{ds:List Bl}{i:Nat}{d:Bl},Reps K F vs ds->ds[i]?=some d->∃v,vs[i]?=some v/\Rep K F v d
 | _,_,_,_,.nil,e=>by simp at e
 | _,_,0,_,.cons h _,e=>by simp at e;subst e;exact⟨_,rfl,h⟩
 | _,_,i+1,d,.cons _ r,e=>by
   obtain⟨v,h1,h2⟩:=Reps.get (i:=i) (d:=d) r (by simpa using e);exact⟨v,by simpa using h1,h2⟩
theorem Reps.append{K:W.Frag}{F:Hp}:∀{vs us:List V}{ds es:List Bl},Reps K F vs ds->Reps K F us es->Reps K F (vs++us) (ds++es)
 | _,_,_,_,.nil,s=>s
 | _,_,_,_,.cons h r,s=>.cons h (Reps.append r s)
theorem Reps.snoc{K:W.Frag}{vs:List V}{ds:List Bl}(r:Reps K F vs ds)(h:Rep K F v d):Reps K F (vs++[v]) (ds++[d]):=r.append (.cons h .nil)
theorem Reps.nil_iff{K:W.Frag}{vs:List V}(h:Reps K F vs []):vs=[]:=by cases h;rfl
mutual
theorem Rep.reads{X:Cx}{pins:List (Addr×Obj)}{σ:St}{H F:Hp}{s:Bp}(I:Inv X pins σ H s)(sub:a_ F H):∀{v:V}{d:Bl},Rep X.K F v d->∀u,RelV v u->∃as,Reads s.heap u d as
 | _,_,.non,u,r=>by cases(show u=Ci from r);exact⟨_,.none⟩
 | _,_,.bl b,u,r=>by cases(show u=EU b from r);exact⟨_,.bool b⟩
 | _,_,.int i,u,r=>by obtain⟨t,q⟩:=(show ∃t,u=Dr i t from r);cases q;exact⟨_,.int i t⟩
 | _,_,.str x,u,r=>by obtain⟨t,q⟩:=(show ∃t,u=Gr x t from r);cases q;exact⟨_,.str x t⟩
 | _,_,.tup (a:=a) h q,u,r=>by
   cases(show u=Ce a from r);obtain⟨its,rv,⟨o,h1,h2,n,h3⟩,hz⟩:=I.tuple (cr sub h);obtain⟨as,ra⟩:=Reps.reads I sub q its rv
   exact⟨_,.tuple h1 h2 h3 (by simpa using ra)⟩
 | _,_,.lst (a:=a) h q,u,r=>by
   cases(show u=Ce a from r);obtain⟨its,rv,p,hz⟩:=I.list (.inl (.inl (sub _ _ h)));obtain⟨o,h1,h2,n,h3⟩:=p.isList;obtain⟨as,ra⟩:=Reps.reads I sub q its rv;exact⟨_,.list h1 h2 h3 (by simpa using ra)⟩
theorem Reps.reads{X:Cx}{pins:List (Addr×Obj)}{σ:St}{H F:Hp}{s:Bp}(I:Inv X pins σ H s)(sub:a_ F H):∀{vs:List V}{ds:List Bl},Reps X.K F vs ds->∀us,bp vs us->∃as,ReadsAll s.heap us ds as
 | _,_,.nil,us,r=>by cases r;exact⟨_,.nil⟩
 | _,_,.cons h q,us,r=>by
   cases r with
   | cons r1 r2 =>
     obtain⟨as,a1⟩:=Rep.reads I sub h _ r1;obtain⟨bs,a2⟩:=Reps.reads I sub q _ r2;exact⟨_,.cons a1 a2⟩
end
structure ReelOk (F H:Hp) (r:Addr):Prop where
 ex:∃o,H r=some o/\RO F o
noncomputable def AQ(rl:Option Addr)(F H:Hp):Prop:=∀r,rl=some r->F r=none/\ReelOk F H r
theorem AQ.live(h:AQ rl F H)(e:rl=some r):∃o,H r=some o:=by
 obtain⟨_,⟨o,q,_⟩⟩:=h r e;exact⟨_,q⟩
structure Grow (rl:Option Addr) (F H F' H':Hp):Prop where
 same:∀b o,H b=some o->rl≠some b->H' b=some o
 fs:a_ F F'
 sub:a_ F' H'
 old:∀b o,H b=some o->F' b=F b
 reel:AQ rl F' H'
theorem Grow.refl{rl:Option Addr}{F H:Hp}(s:a_ F H)(r:AQ rl F H):Grow rl F H F H:=⟨fun _ _ e _=>e,.refl F,s,fun _ _ _=>rfl,r⟩
theorem Grow.live{rl:Option Addr}{F H F' H':Hp}(g:Grow rl F H F' H'){b:Addr}{o:HO}(e:H b=some o):∃o',H' b=some o':=by
 by_cases h:rl=some b
 · exact g.reel.live h
 · exact⟨o,g.same b o e h⟩
theorem Grow.trans{rl:Option Addr}{F H F1 H1 F2 H2:Hp}(a:Grow rl F H F1 H1)(b:Grow rl F1 H1 F2 H2):Grow rl F H F2 H2 :=
 ⟨fun c o e n=>b.same c o (a.same c o e n) n,a.fs.trans b.fs,b.sub,fun c o e=>by obtain⟨o',e'⟩:=a.live e;rw[b.old c o' e',a.old c o e],b.reel⟩
theorem Grow.freeB(g:Grow rl F H F' H'){b:Addr}(e:H' b=none):H b=none:=by
 cases q:H b with
 | none=>rfl
 | some o=>obtain⟨o',e'⟩:=g.live q;rw[e]at e';cases e'
theorem Grow.laid{o:HO}(s:a_ F H)(r:AQ rl F H)(n:H a=none):Grow rl F H F (upd H a o):=by
 have ne:∀b u,H b=some u->b≠a:=fun b u e=>aw e n;refine⟨fun b u e _=>by rw[upd_ne (ne b u e)];exact e,.refl F,fun b u e=>by rw[upd_ne (ne b u (s b u e))];exact s b u e,fun _ _ _=>rfl,fun q e=>?_⟩;obtain⟨z,⟨u,h1,h2⟩⟩:=r q e;exact⟨z,⟨u,by rw[upd_ne (ne _ _ h1)];exact h1,h2⟩⟩
theorem Grow.data{o:HO}(s:a_ F H)(r:AQ rl F H)(n:H a=none):Grow rl F H (upd F a o) (upd H a o):=by
 have ne:∀b u,H b=some u->b≠a:=fun b u e=>aw e n;have neF:∀b u,F b=some u->b≠a:=fun b u e=>ne b u (s b u e);refine⟨fun b u e _=>by rw[upd_ne (ne b u e)];exact e,fun b u e=>by rw[upd_ne (neF b u e)];exact e,fun b u e=>?_,fun b u e=>by rw[upd_ne (ne b u e)],fun q e=>?_⟩
 · by_cases hb:b=a
   · subst hb;rw[ak]at e ⊢;exact e
   · rw[upd_ne hb]at e ⊢;exact s b u e
 · obtain⟨z,⟨u,h1,h2⟩⟩:=r q e;exact⟨by rw[upd_ne (ne _ _ h1)];exact z,⟨u,by rw[upd_ne (ne _ _ h1)];exact h1,RO.mono (fun b u e=>by rw[upd_ne (neF b u e)];exact e) h2⟩⟩
theorem Grow.freeze{F1 H1:Hp}{o:HO}(g:Grow rl F H F1 H1)(n:H a=none)(e:H1 a=some o)(f:F1 a=none)(hr:rl≠some a):Grow rl F H (upd F1 a o) H1:=by
 have neF:∀b u,F1 b=some u->b≠a:=fun b u q z=>by subst z;rw[f]at q;cases q
 refine⟨g.same,fun b u q=>by rw[upd_ne (neF b u (g.fs b u q))];exact g.fs b u q,fun b u q=>?_,fun b u q=>by rw[upd_ne (aw q n)];exact g.old b u q,fun q z=>?_⟩
 · by_cases hb:b=a
   · subst hb;rw[ak]at q;rw[e];exact q
   · rw[upd_ne hb]at q;exact g.sub b u q
 · obtain⟨z1,⟨u,h1,h2⟩⟩:=g.reel q z;exact⟨by rw[upd_ne (fun y=>hr (by rw[<- y];exact z))];exact z1,⟨u,h1,RO.mono (fun b u e=>by rw[upd_ne (neF b u e)];exact e) h2⟩⟩
inductive W where
 | d (x:Bl)
 | ml (xs:List Bl)
 | pk (xs:List Bl)
 | reel
 | vv (v:V)
 | md (kvs:List (List A5×Bl))
 | mk (kvs:List (A5×Bl))
 | xm (kvs:List (List Int×Bl))
 | nt (ds:List Bl)
 | lk
 | sc (ns:List Int)
 | fd (kvs:List (A5×Bl))
 | xr (kvs:List (List Int×Bl))
 | fw (kvs:List (A5×Bl))
 | ft (kvs:List (List A5×Bl))
 | xc (x:Str) (fs:List (Str×Bl))
 | dp (kvs:List (A5×Bl)) (x:Bl)
noncomputable def W.dat:W->Option Bl
 | .d x=>some x
 | .ml xs=>some (.list xs)
 | .pk xs=>some (.list xs)
 | .nt ds=>some (.tuple ds)
 | _=>none
noncomputable def W.peek:W->W
 | .ml xs=>.pk xs
 | .md _=>.lk
 | .mk _=>.lk
 | .xm _=>.lk
 | w=>w
noncomputable def W.own:W->Bool
 | .ml _=>true
 | .md _=>true
 | .mk _=>true
 | .xm _=>true
 | _=>false
abbrev KD(K:W.Frag)(F:Hp):List (List A5×V)->List (List A5×Bl)->Prop:=Cf fun p q=>p.1=q.1/\Rep K F p.2 q.2
abbrev A7(K:W.Frag)(F:Hp):List (A5×V)->List (A5×Bl)->Prop:=Cf fun p q=>p.1=q.1/\Rep K F p.2 q.2
abbrev A6(K:W.Frag)(F:Hp):List (Str×V)->List (Str×Bl)->Prop:=Cf fun p q=>p.1=q.1/\Rep K F p.2 q.2
noncomputable def wK(e C dx:Addr):Heap->Prop:=fun h=>∃oe vs,h.get? e=some oe/\oe.cls = .ref C/\oe.dict=some dx/\oe.data = .fields vs
noncomputable def rR(K:W.Frag)(rl:Option Addr)(F H:Hp)(v:V)(kvs:List (List A5×Bl)):Prop:=∃a us,v = .ref a/\F a=none/\rl≠some a/\H a=some (.dT us)/\KD K F us kvs
noncomputable def DAt(a:Addr)(xs:List (List Int×Addr×Bo)):Heap->Prop:=fun h=>∃o es ep,h.get? a=some o/\o.ExactDict/\o.data = .dict es ep/\(∀(P:BE)(w:B2),es.toList=xs.map (GA (Dy (E1 P w))))/\(xs.map (·.1)).Nodup/\(a==Cz)=false/\xs.length<=sizeLine
noncomputable def KX(K:W.Frag)(F:Hp):List (List Int×Addr×Bo)->List (List Int×Bl)->Prop:=Cf fun p q=>p.1=q.1/\AL K F p.2.1 (p.1.map V.int)/\∃v,RelV v p.2.2/\Rep K F v q.2
theorem KX.mono{K:W.Frag}{F F':Hp}{xs:List (List Int×Addr×Bo)}{kvs:List (List Int×Bl)}(h:KX K F xs kvs)(s:a_ F F'):KX K F' xs kvs:=Cf.mapP h fun _ _ z=>⟨z.1,cr s z.2.1,let ⟨v,r,q⟩:=z.2.2;⟨v,r,q.mono s⟩⟩
noncomputable def mM(K:W.Frag)(rl:Option Addr)(F H:Hp)(v:V)(kvs:List (List Int×Bl)):Prop:=∃a xs,v = .ref a/\F a=none/\rl≠some a/\H a=some (.ext (DAt a xs))/\KX K F xs kvs
noncomputable def mO(K:W.Frag)(rl:Option Addr)(F H:Hp)(v:V)(kvs:List (A5×Bl)):Prop:=∃a us,v = .ref a/\F a=none/\rl≠some a/\H a=some (.dK us)/\A7 K F us kvs
noncomputable def jV(K:W.Frag)(rl:Option Addr)(F H:Hp)(v:V)(xs:List Bl):Prop:=∃a vs,v = .ref a/\F a=none/\rl≠some a/\H a=some (.lst vs)/\Reps K F vs xs
noncomputable def ck(K:W.Frag)(rl:Option Addr)(F H:Hp)(v:V):W->Prop
 | .d x=>Rep K F v x
 | .ml xs=>jV K rl F H v xs
 | .pk xs=>jV K rl F H v xs
 | .reel=>∃r,rl=some r/\v = .ref r
 | .vv u=>v=u
 | .md kvs=>rR K rl F H v kvs
 | .mk kvs=>mO K rl F H v kvs
 | .xm kvs=>mM K rl F H v kvs
 | .nt ds=>∃a vs,v = .ref a/\F a=some (.tup vs)/\Reps K F vs ds
 | .lk=>True
 | .sc ns=>∃a,v = .ref a/\AM K F a (ns.map V.int)
 | .fd kvs=>∃a us,v = .ref a/\F a=some (.dK us)/\A7 K F us kvs
 | .xr kvs=>∃a us,v = .ref a/\F a=some (.ext (DAt a us))/\KX K F us kvs
 | .fw kvs=>∃a us o,v = .ref a/\F a=some (.frz o (.dK us))/\A7 K F us kvs
 | .ft kvs=>∃a us o,v = .ref a/\F a=some (.frz o (.dT us))/\KD K F us kvs
 | .xc x fs=>∃e dx us C,v = .ref e/\W.nsIn K B4 x=some (some (.ref C))/\F e=some (.ext (wK e C dx))/\F dx=some (.xd us)/\A6 K F us fs
 | .dp kvs x=>∃a b us u o,v = .ref a/\F a=some (.tup [.ref b,u])/\F b=some (.frz o (.dK us))/\A7 K F us kvs/\Rep K F u x
theorem rR.grow{K:W.Frag}{kvs:List (List A5×Bl)}(g:Grow rl F H F' H')(r:rR K rl F H v kvs):rR K rl F' H' v kvs:=by
 obtain⟨a,us,rfl,h1,h2,h3,h4⟩:=r;exact⟨a,us,rfl,by rw[g.old a _ h3];exact h1,h2,g.same a _ h3 h2,Cf.mapP h4 fun _ _ z=>⟨z.1,z.2.mono g.fs⟩⟩
theorem mO.grow{K:W.Frag}{kvs:List (A5×Bl)}(g:Grow rl F H F' H')(r:mO K rl F H v kvs):mO K rl F' H' v kvs:=by
 obtain⟨a,us,rfl,h1,h2,h3,h4⟩:=r;exact⟨a,us,rfl,by rw[g.old a _ h3];exact h1,h2,g.same a _ h3 h2,Cf.mapP h4 fun _ _ z=>⟨z.1,z.2.mono g.fs⟩⟩
theorem mM.grow{K:W.Frag}(g:Grow rl F H F' H')(r:mM K rl F H v kvs):mM K rl F' H' v kvs:=by
 obtain⟨a,us,rfl,h1,h2,h3,h4⟩:=r;exact⟨a,us,rfl,by rw[g.old a _ h3];exact h1,h2,g.same a _ h3 h2,h4.mono g.fs⟩
theorem jV.grow{K:W.Frag}(g:Grow rl F H F' H')(r:jV K rl F H v xs):jV K rl F' H' v xs:=by
 obtain⟨a,vs,rfl,h1,h2,h3,h4⟩:=r;exact⟨a,vs,rfl,by rw[g.old a _ h3];exact h1,h2,g.same a _ h3 h2,h4.mono g.fs⟩
theorem ck.grow{K:W.Frag}{rl:Option Addr}{F H F' H':Hp}{v:V}{w:W}(g:Grow rl F H F' H')(r:ck K rl F H v w):ck K rl F' H' v w:=by
 cases w with
 | d x=>exact Rep.mono g.fs r
 | ml xs=>exact jV.grow g r
 | pk xs=>exact jV.grow g r
 | reel=>exact r
 | vv u=>exact r
 | md kvs=>exact rR.grow g r
 | mk kvs=>exact mO.grow g r
 | xm kvs=>exact mM.grow g r
 | nt ds=>obtain⟨a,vs,e,h,q⟩:=r;exact⟨a,vs,e,g.fs _ _ h,q.mono g.fs⟩
 | lk=>trivial
 | sc ns=>obtain⟨a,e,h⟩:=r;exact⟨a,e,kP g.fs h⟩
 | fd kvs=>obtain⟨a,us,e,h,q⟩:=r;exact⟨a,us,e,g.fs _ _ h,Cf.mapP q fun _ _ z=>⟨z.1,z.2.mono g.fs⟩⟩
 | xr kvs=>obtain⟨a,us,e,h,q⟩:=r;exact⟨a,us,e,g.fs _ _ h,KX.mono q g.fs⟩
 | fw kvs=>obtain⟨a,us,o,e,h,q⟩:=r;exact⟨a,us,o,e,g.fs _ _ h,Cf.mapP q fun _ _ z=>⟨z.1,z.2.mono g.fs⟩⟩
 | ft kvs=>obtain⟨a,us,o,e,h,q⟩:=r;exact⟨a,us,o,e,g.fs _ _ h,Cf.mapP q fun _ _ z=>⟨z.1,z.2.mono g.fs⟩⟩
 | xc _ _=>obtain⟨a,dx,us,C,e,n,h1,h2,q⟩:=r;exact⟨a,dx,us,C,e,n,g.fs _ _ h1,g.fs _ _ h2,Cf.mapP q fun _ _ z=>⟨z.1,z.2.mono g.fs⟩⟩
 | dp _ _=>obtain⟨a,b,us,u,o,e,h1,h2,q,z⟩:=r;exact⟨a,b,us,u,o,e,g.fs _ _ h1,g.fs _ _ h2,Cf.mapP q fun _ _ z=>⟨z.1,z.2.mono g.fs⟩,z.mono g.fs⟩
theorem ck.peek{K:W.Frag}{w:W}(r:ck K rl F H v w):ck K rl F H v w.peek:=by cases w<;>first|exact r|trivial
theorem jV.rep{K:W.Frag}(s:a_ F H)(r:jV K rl F H v xs):Rep K H v (.list xs):=by
 obtain⟨a,vs,rfl,h1,h2,h3,h4⟩:=r;exact .lst h3 (h4.mono s)
theorem ck.dat{K:W.Frag}{w:W}{x:Bl}(s:a_ F H)(r:ck K rl F H v w)(e:w.dat=some x):Rep K H v x:=by
 cases w with
 | d y=>cases e;exact Rep.mono s r
 | ml xs=>cases e;exact jV.rep s r
 | pk xs=>cases e;exact jV.rep s r
 | reel=>cases e
 | vv u=>cases e
 | md kvs=>cases e
 | mk kvs=>cases e
 | xm kvs=>cases e
 | nt ds=>cases e;obtain⟨a,vs,rfl,h,q⟩:=r;exact .tup (.inl (.inl (s _ _ h))) (q.mono s)
 | lk=>cases e
 | sc _=>cases e
 | fd _=>cases e
 | xr _=>cases e
 | fw _=>cases e
 | ft _=>cases e
 | xc _ _=>cases e
 | dp _ _=>cases e
theorem ck.items{K:W.Frag}{w:W}(s:a_ F H)(r:ck K rl F H v w)(e:w.dat=some (.list xs)):∃a vs,v = .ref a/\AM K H a vs/\Reps K F vs xs:=by
 have own:jV K rl F H v xs->∃a vs,v = .ref a/\AM K H a vs/\Reps K F vs xs:=fun⟨a,vs,e1,_,_,e2,e3⟩=>⟨a,vs,e1,.inl (.inl e2),e3⟩
 cases w with
 | d y =>
   cases e
   cases(show Rep K F v (.list xs)from r)with
   | lst h q=>exact⟨_,_,rfl,.inl (.inl (s _ _ h)),q⟩
 | ml ys=>cases e;exact own r
 | pk ys=>cases e;exact own r
 | reel=>cases e
 | vv u=>cases e
 | md kvs=>cases e
 | mk kvs=>cases e
 | xm kvs=>cases e
 | nt ds=>cases e
 | lk=>cases e
 | sc _=>cases e
 | fd _=>cases e
 | xr _=>cases e
 | fw _=>cases e
 | ft _=>cases e
 | xc _ _=>cases e
 | dp _ _=>cases e
theorem ck.itemsT{K:W.Frag}{w:W}(s:a_ F H)(r:ck K rl F H v w)(e:w.dat=some (.tuple xs)):∃a vs,v = .ref a/\AL K H a vs/\Reps K F vs xs:=by
 cases w with
 | d y =>
   cases e
   cases(show Rep K F v (.tuple xs)from r)with
   | tup h q=>exact⟨_,_,rfl,cr s h,q⟩
 | ml ys=>cases e
 | pk ys=>cases e
 | reel=>cases e
 | vv u=>cases e
 | md kvs=>cases e
 | mk kvs=>cases e
 | xm kvs=>cases e
 | nt ds=>cases e;obtain⟨a,vs,rfl,h,q⟩:=r;exact⟨a,vs,rfl,.inl (.inl (s _ _ h)),q⟩
 | lk=>cases e
 | sc _=>cases e
 | fd _=>cases e
 | xr _=>cases e
 | fw _=>cases e
 | ft _=>cases e
 | xc _ _=>cases e
 | dp _ _=>cases e
noncomputable def c8(H:Hp)(v:V):W->Prop
 | .ml _=>∀a,v = .ref a->H a=none
 | .md _=>∀a,v = .ref a->H a=none
 | .mk _=>∀a,v = .ref a->H a=none
 | .xm _=>∀a,v = .ref a->H a=none
 | _=>True
theorem ck.live{K:W.Frag}{w:W}(r:ck K rl F H v w)(h:w.own=true):∃a o,v = .ref a/\H a=some o:=by
 cases w with
 | ml xs=>obtain⟨a,vs,e,_,_,hh,_⟩:=r;exact⟨a,_,e,hh⟩
 | md xs=>obtain⟨a,vs,e,_,_,hh,_⟩:=r;exact⟨a,_,e,hh⟩
 | mk xs=>obtain⟨a,vs,e,_,_,hh,_⟩:=r;exact⟨a,_,e,hh⟩
 | xm xs=>obtain⟨a,vs,e,_,_,hh,_⟩:=r;exact⟨a,_,e,hh⟩
 | _=>cases h
theorem c8.none{w:W}(n:c8 H v w)(h:w.own=true)(e:v = .ref a):H a=none:=by
 cases w with
 | ml xs=>exact n a e
 | md xs=>exact n a e
 | mk xs=>exact n a e
 | xm xs=>exact n a e
 | _=>cases h
abbrev En:=List (Option W)
structure VR (K:W.Frag) (rl:Option Addr) (F₀ H₀ F H:Hp) (σ:St) (ρ:En):Prop where
 g:Grow rl F₀ H₀ F H
 sl:∀(i:Nat) w,ρ[i]?=some (some w)->∃v,σ[i]?=some (some v)/\ck K rl F H v w/\c8 H₀ v w
 ap:∀(i j:Nat)(x y:W) v,i≠j->ρ[i]?=some (some x)->ρ[j]?=some (some y)->x.own=true->y.own=true->σ[i]?=some (some v)->σ[j]?=some (some v)->False
 np:∀(i:Nat) xs,ρ[i]?≠some (some (W.pk xs))
 len:ρ.length=σ.length
section
variable{K:W.Frag}{rl:Option Addr}{F₀ H₀ F H F' H':Hp}{σ:St}{ρ:En}
theorem VR.sub(r:VR K rl F₀ H₀ F H σ ρ):a_ F H:=r.g.sub
theorem VR.reel(r:VR K rl F₀ H₀ F H σ ρ):AQ rl F H:=r.g.reel
theorem VR.grow(r:VR K rl F₀ H₀ F H σ ρ)(g:Grow rl F H F' H'):VR K rl F₀ H₀ F' H' σ ρ :=
 ⟨r.g.trans g,fun i w e=>let ⟨v,e1,e2,e3⟩:=r.sl i w e;⟨v,e1,e2.grow g,e3⟩,r.ap,r.np,r.len⟩
theorem VR.set(r:VR K rl F₀ H₀ F H σ ρ){H1 F1:Hp}(g:Grow rl F H F1 H1){w:W}(rw':ck K rl F1 H1 v w)(hn:c8 H v w)(hp:∀xs,w ≠ .pk xs)(i:Nat):VR K rl F₀ H₀ F1 H1 (σ.set i (some v)) (ρ.set i (some w)):=by
 have r1:=r.grow g;refine⟨r1.g,fun j w' e=>?_,fun j k xs ys u hjk e1 e2 w1 w2 s1 s2=>?_,fun j xs z=>?_,by simp[r.len]⟩
 · by_cases hj:i=j
   · subst hj
     have hi:i<ρ.length:=by
      rw[B5]at e;by_cases hi:i<ρ.length
      · exact hi
      · simp[hi]at e
     rw[BK hi]at e;cases e;refine⟨v,by rw[BK (by rw[<- r.len];exact hi)],rw',?_⟩
     cases w with
     | ml xs=>exact fun a ea=>r.g.freeB (hn a ea)
     | d x=>trivial
     | pk xs=>trivial
     | reel=>trivial
     | vv u=>trivial
     | md xs=>exact fun a ea=>r.g.freeB (hn a ea)
     | mk xs=>exact fun a ea=>r.g.freeB (hn a ea)
     | xm xs=>exact fun a ea=>r.g.freeB (hn a ea)
     | nt ds=>trivial
     | lk=>trivial
     | sc _=>trivial
     | fd _=>trivial
     | xr _=>trivial
     | fw _=>trivial
     | ft _=>trivial
     | xc _ _=>trivial
     | dp _ _=>trivial
   · rw[BC hj]at e;obtain⟨u,h1,h2,h3⟩:=r1.sl j w' e;exact⟨u,by rw[BC hj];exact h1,h2,h3⟩
 · have key:∀(k:Nat)(x y:W),ρ[k]?=some (some y)->some (some w)=some (some x)->x.own=true->y.own=true->σ[k]?=some (some v)->False:=fun k x y d2 e1 o1 o2 s2=>by
     cases e1;obtain⟨u',h1,h2,h3⟩:=r.sl k _ d2;rw[s2]at h1;cases h1;obtain⟨a,o,ea,hh⟩:=h2.live o2;rw[hn.none o1 ea]at hh;cases hh
   by_cases hj:i=j
   · subst hj;have hk:i≠k:=hjk
     have hi:i<ρ.length:=by
      rw[B5]at e1;by_cases hi:i<ρ.length
      · exact hi
      · simp[hi]at e1
     rw[BK hi]at e1;rw[BC hk]at e2 s2;rw[BK (by rw[<- r.len];exact hi)]at s1;cases s1;exact key k xs ys e2 e1 w1 w2 s2
   · by_cases hk:i=k
     · subst hk
       have hi:i<ρ.length:=by
        rw[B5]at e2;by_cases hi:i<ρ.length
        · exact hi
        · simp[hi]at e2
       rw[BK hi]at e2;rw[BC hj]at e1 s1;rw[BK (by rw[<- r.len];exact hi)]at s2;cases s2;exact key j ys xs e1 e2 w2 w1 s1
     · rw[BC hj]at e1 s1;rw[BC hk]at e2 s2;exact r.ap j k xs ys u hjk e1 e2 w1 w2 s1 s2
 · rw[B5]at z;split at z
   · split at z
     · exact hp xs (BW (BW z))
     · cases z
   · exact r.np j xs z
end
abbrev TV:=En->(W->Prop)->Prop
abbrev TB:=En->(Bool->Prop)->Prop
abbrev AF:=En->(List W->Prop)->Prop
abbrev dU(K:W.Frag)(rl:Option Addr)(F H:Hp):List V->List W->Prop:=Cf (ck K rl F H)
noncomputable def PV(X:Cx)(rl:Option Addr)(e:Expr)(f:TV):Prop:=∃t,PE X e t/\∀{F₀ H₀ F H:Hp}{σ:St}{ρ:En},VR X.K rl F₀ H₀ F H σ ρ->∀(Qd:W->Prop)(Q:VK),f ρ Qd ->
 (∀v w F' H',Grow rl F H F' H'->ck X.K rl F' H' v w->c8 H v w->Qd w->Q v H')->t σ H Q
noncomputable def PB(X:Cx)(rl:Option Addr)(e:Expr)(f:TB):Prop:=∃t,PT X e t/\∀{F₀ H₀ F H:Hp}{σ:St}{ρ:En},VR X.K rl F₀ H₀ F H σ ρ->∀(Qd:Bool->Prop)(Q:Bool->Hp->Prop),f ρ Qd ->
 (∀b F' H',Grow rl F H F' H'->Qd b->Q b H')->t σ H Q
noncomputable def AS(X:Cx)(rl:Option Addr)(es:List Expr)(f:AF):Prop:=∃t,PA X es t/\∀{F₀ H₀ F H:Hp}{σ:St}{ρ:En},VR X.K rl F₀ H₀ F H σ ρ->∀(Qd:List W->Prop)(Q:List V->Hp->Prop),f ρ Qd ->
 (∀vs ws F' H',Grow rl F H F' H'->dU X.K rl F' H' vs ws->Qd ws->Q vs H')->t σ H Q
noncomputable def W.fz:W->W
 | .ml xs=>.d (.list xs)
 | .nt ds=>.d (.tuple ds)
 | w=>w
theorem ck.fz{K:W.Frag}{F1 H1:Hp}{w:W}(g:Grow rl F H F1 H1)(r:ck K rl F1 H1 v w)(n:c8 H v w):∃F2,Grow rl F H F2 H1/\a_ F1 F2/\ck K rl F2 H1 v w.fz:=by
 cases w with
 | d x=>exact⟨F1,g,.refl _,r⟩
 | pk xs=>exact⟨F1,g,.refl _,r⟩
 | reel=>exact⟨F1,g,.refl _,r⟩
 | vv u=>exact⟨F1,g,.refl _,r⟩
 | md u=>exact⟨F1,g,.refl _,r⟩
 | mk u=>exact⟨F1,g,.refl _,r⟩
 | xm u=>exact⟨F1,g,.refl _,r⟩
 | lk=>exact⟨F1,g,.refl _,r⟩
 | sc _=>exact⟨F1,g,.refl _,r⟩
 | fd _=>exact⟨F1,g,.refl _,r⟩
 | xr _=>exact⟨F1,g,.refl _,r⟩
 | fw _=>exact⟨F1,g,.refl _,r⟩
 | ft _=>exact⟨F1,g,.refl _,r⟩
 | xc _ _=>exact⟨F1,g,.refl _,r⟩
 | dp _ _=>exact⟨F1,g,.refl _,r⟩
 | nt ds=>obtain⟨a,vs,rfl,h,q⟩:=r;exact⟨F1,g,.refl _,.tup (.inl (.inl h)) q⟩
 | ml xs =>
   obtain⟨a,vs,rfl,f,hr,hh,q⟩:=(show jV K rl F1 H1 v xs from r);have neF:∀b u,F1 b=some u->b≠a:=fun b u q z=>by subst z;rw[f]at q;cases q
   have fsm:a_ F1 (upd F1 a (.lst vs)):=fun b u z=>by rw[upd_ne (neF b u z)];exact z
   exact⟨upd F1 a (.lst vs),g.freeze (n a rfl) hh f hr,fsm,.lst ak (q.mono fsm)⟩
section
variable{X:Cx}{rl:Option Addr}{a b e:Expr}{es:List Expr}{fa fb fc:TV}{fs:AF}{pos p:Pos}
noncomputable def vC(x:Bl):TV:=fun _ Q=>Q (.d x)
theorem eV{x:Bl}(h:PE X e (tC v))(r:∀F,Rep X.K F v x):PV X rl e (vC x) :=
 ⟨_,h,fun R Qd Q q k=>k v (.d x) _ _ (Grow.refl R.sub R.reel) (r _) trivial q⟩
theorem ag{i:Int}{j pos}:PV X rl (.Constant (.int i) j pos) (vC (.int i)):=eV au fun _=>.int i
theorem eW{i:Bool}{j pos}:PV X rl (.Constant (.bool i) j pos) (vC (.bool i)):=eV we fun _=>.bl i
theorem qp{n:String}{pos:Pos}(hm:X.mg x=none)(hv:Dn x=some (.type n))(hg:autoParam (Gl X x) æa._auto_1)(hn:autoParam (x ≠ "__name__") æb._auto_1)(hd:autoParam ((x==("__debug__" : Str))=false) æb._auto_1) :
 PV X rl (.Name x pos) (fun _ Q=>Q (.vv (.ty n))) :=
 ⟨_,qJ (v:=.ty n) hg hm hv rfl hn hd,fun R Qd Q q k=>k (.ty n) (.vv (.ty n)) _ _ (Grow.refl R.sub R.reel) rfl trivial q⟩
theorem qq{u:Bo}{pos:Pos}(hm:X.mg x=some u)(r:RelV v u)(h:∀F,Rep X.K F v d)(hg:autoParam (Gl X x) æa._auto_1)(hd:autoParam ((x==("__debug__" : Str))=false) æb._auto_1):PV X rl (.Name x pos) (vC d) :=
 eV (qG hg hm r hd) h
noncomputable def dX(i:Nat):TV:=fun ρ Q=>∃w,ρ[i]?=some (some w)/\Q w.peek
theorem vn(i:Nat){pos:Pos}(hN:autoParam (X.N[i]?=some x) æa._auto_1)(hv:autoParam (AC X.env.scope x) æf._auto_1)(hd:autoParam ((x==("__debug__" : Str))=false) æb._auto_1)
 (hcd:autoParam ((x==("__classdict__" : Str))=false) æb._auto_1):PV X rl (.Name x pos) (dX i) :=
 ⟨_,dw hN hv hd hcd,fun R Qd Q ⟨w,e,q⟩ k=>by
  obtain⟨v,e1,r,_⟩:=R.sl i w e;refine⟨v,e1,k v w.peek _ _ (Grow.refl R.sub R.reel) r.peek ?_ q⟩
  cases w<;>trivial⟩
noncomputable def mR:AF:=fun _ Q=>Q []
noncomputable def aD(f:TV)(fs:AF):AF:=fun ρ Q=>f ρ fun w=>fs ρ fun ws=>Q (w.fz::ws)
theorem ac:AS X rl [] mR:=⟨_,c4,fun R Qd Q q k=>k [] [] _ _ (Grow.refl R.sub R.reel) .nil q⟩
theorem aa(h1:PV X rl e fa)(h2:AS X rl es fs)(hs:autoParam (BF (e::es) X.env=(false,eval e X.env)::BF es X.env) æa._auto_1):AS X rl (e::es) (aD fa fs):=by
 obtain⟨t,p1,k1⟩:=h1;obtain⟨ts,p2,k2⟩:=h2;refine⟨_,bC p1 p2 hs,fun R Qd Q q k=>?_⟩;refine k1 R _ _ q fun v w F1 H1 g1 r1 n1 q1=>?_;obtain⟨F2,g2,s2,r2⟩:=ck.fz g1 r1 n1;refine k2 (R.grow g2) _ _ q1 fun vs ws F3 H3 g3 r3 q3=>?_;exact k (v::vs) (w.fz::ws) F3 H3 (g2.trans g3) (.cons (r2.grow g3) r3) q3
noncomputable def AD(X:Cx)(rl:Option Addr)(r:R2)(g:W->W->(W->Prop)->Prop):Prop:=∀{F H:Hp}{x y:V}{wx wy:W}(Qd:W->Prop)(Q:VK),a_ F H->AQ rl F H->ck X.K rl F H x wx->ck X.K rl F H y wy->g wx wy Qd ->
 (∀v w F' H',Grow rl F H F' H'->ck X.K rl F' H' v w->c8 H v w->Qd w->Q v H')->r x y H Q
noncomputable def zi(g:W->W->(W->Prop)->Prop)(fa fb:TV):TV:=fun ρ Q=>fa ρ fun x=>fb ρ fun y=>g x y Q
theorem jZ{r:R2}{g:W->W->(W->Prop)->Prop}(vo:AD X rl r g)(ha:PV X rl a fa)(hb:PV X rl b fb){e:Expr}(hp:∀ta tb,PE X a ta->PE X b tb->PE X e (zx r ta tb)):PV X rl e (zi g fa fb):=by
 obtain⟨ta,p1,k1⟩:=ha;obtain⟨tb,p2,k2⟩:=hb;refine⟨_,hp ta tb p1 p2,fun R Qd Q q k=>?_⟩;refine k1 R _ _ q fun v w F1 H1 g1 r1 n1 q1=>?_;refine k2 (R.grow g1) _ _ q1 fun v2 w2 F2 H2 g2 r2 n2 q2=>?_
 exact vo Qd Q g2.sub g2.reel (r1.grow g2) r2 q2 fun v3 w3 F3 H3 g3 r3 n3 q3=>k v3 w3 F3 H3 ((g1.trans g2).trans g3) r3 (by
  cases w3 with
  | ml xs=>exact fun a ea=>g1.freeB (g2.freeB (n3 a ea))
  | md xs=>exact fun a ea=>g1.freeB (g2.freeB (n3 a ea))
  | mk xs=>exact fun a ea=>g1.freeB (g2.freeB (n3 a ea))
  | xm xs=>exact fun a ea=>g1.freeB (g2.freeB (n3 a ea))
  | nt _=>trivial
  | lk=>trivial
  | sc _=>trivial
  | fd _=>trivial
  | xr _=>trivial
  | fw _=>trivial
  | ft _=>trivial
  | xc _ _=>trivial
  | dp _ _=>trivial
  | d _=>trivial
  | pk _=>trivial
  | reel=>trivial
  | vv _=>trivial) q3
theorem jC{op:GM}{r:R2}{g:W->W->(W->Prop)->Prop}(ho:A2 X (E3 op) r)(vo:AD X rl r g)(ha:PV X rl a fa)(hb:PV X rl b fb):PV X rl (.BinOp a op b pos) (zi g fa fb) :=
 jZ vo ha hb fun _ _ p1 p2=>bW ho p1 p2
noncomputable def gI(C:Int->Int->Prop)(g:Int->Int->Bl):W->W->(W->Prop)->Prop:=fun x y Q=>∃i j,x = .d (.int i)/\y = .d (.int j)/\C i j/\Q (.d (g i j))
theorem aM{K:W.Frag}{i:Int}(h:Rep K F v (.int i)):v = .int i:=by cases h;rfl
theorem eM{C:Int->Int->Prop}{g:Int->Int->V}{gd:Int->Int->Bl}(h:∀K F i j,Rep K F (g i j) (gd i j)):AD X rl (rI C g) (gI C gd):=fun{F H x y wx wy} Qd Q s ra r1 r2 q k=>by
 obtain⟨i,j,rfl,rfl,c,q⟩:=q;exact⟨i,j,aM r1,aM r2,c,k _ (.d _) _ _ (Grow.refl s ra) (h _ _ i j) trivial q⟩
noncomputable def At(g:Int->Int->Bl):W->W->(W->Prop)->Prop:=fun x y Q=>∃i j,x = .d (.int i)/\y = .d (.int j)/\Q (.d (g i j))
theorem cD{g:Int->Int->V}{gd:Int->Int->Bl}(h:∀K F i j,Rep K F (g i j) (gd i j)):AD X rl (zN g) (At gd):=fun{F H x y wx wy} Qd Q s ra r1 r2 q k=>by
 obtain⟨i,j,rfl,rfl,q⟩:=q;exact⟨i,j,aM r1,aM r2,k _ (.d _) _ _ (Grow.refl s ra) (h _ _ i j) trivial q⟩
theorem v_add(ha:PV X rl a fa)(hb:PV X rl b fb):PV X rl (.BinOp a .Add b pos) (zi (At fun i j=>.int (i+j)) fa fb):=jC eA (cD fun _ _ _ _=>.int _) ha hb
theorem v_sub(ha:PV X rl a fa)(hb:PV X rl b fb):PV X rl (.BinOp a .Sub b pos) (zi (At fun i j=>.int (i-j)) fa fb):=jC tV (cD fun _ _ _ _=>.int _) ha hb
noncomputable def Bf(i:Int):Prop:=i.natAbs<2^60000
theorem Bf.bits{i:Int}(h:Bf i):Builtin.Int.intBits i<=60000:=F9.mpr h
noncomputable def bo(i j:Int):Prop:=i.natAbs<2^64\/j.natAbs<2^64\/(Bf i/\Bf j)
theorem bo.lt{i j:Int}(h:i.natAbs<2^64):bo i j:=.inl h
theorem bo.rt{i j:Int}(h:j.natAbs<2^64):bo i j:=.inr (.inl h)
theorem bo.bb{i j:Int}(h:Bf i)(h':Bf j):bo i j:=.inr (.inr ⟨h,h'⟩)
theorem bo.ok{i j:Int}(h:bo i j):IntMulOk i j:=by
 rcases h with h|h|h
 · exact .of_left (F9.mpr h)
 · exact .of_right (F9.mpr h)
 · exact IntMulOk.of_le h.1.bits h.2.bits (by decide)
theorem dD:A2 X (E3 .Mult) (rI bo fun i j=>.int (i*j)):=zV fun _ _ _ _ _ _ _ hc q=>mul_int q hc.ok
theorem v_mul(ha:PV X rl a fa)(hb:PV X rl b fb):PV X rl (.BinOp a .Mult b pos) (zi (gI bo fun i j=>.int (i*j)) fa fb):=jC dD (eM fun _ _ _ _=>.int _) ha hb
noncomputable def cB(_ j:Int):Prop:=j≠0/\j.natAbs<2^9000
theorem i4:A2 X (E3 .FloorDiv) (rI cB fun i j=>.int (i.fdiv j)):=zV fun _ j _ _ _ _ _ hc q=>floordiv_int hc.1 q (.inl (PyProof.noPylong_of_log2 ((Nat.log2_lt (by have:=hc.1;omega)).mpr hc.2)))
theorem v_div(ha:PV X rl a fa)(hb:PV X rl b fb):PV X rl (.BinOp a .FloorDiv b pos) (zi (gI cB fun i j=>.int (i.fdiv j)) fa fb):=jC i4 (eM fun _ _ _ _=>.int _) ha hb
theorem v_mod(ha:PV X rl a fa)(hb:PV X rl b fb):PV X rl (.BinOp a .Mod b pos) (zi (gI (fun _ j=>j≠0) fun i j=>.int (i.fmod j)) fa fb):=jC b6 (eM fun _ _ _ _=>.int _) ha hb
theorem v_pow(ha:PV X rl a fa)(hb:PV X rl b fb):PV X rl (.BinOp a .Pow b pos) (zi (gI vb fun i j=>.int (i^j.toNat)) fa fb):=jC oZ (eM fun _ _ _ _=>.int _) ha hb
noncomputable def vD(fa:TV):TV:=fun ρ Q=>fa ρ fun x=>∃i,x = .d (.int i)/\Q (.d (.int (-i)))
theorem m8(ha:PV X rl a fa):PV X rl (.UnaryOp .USub a pos) (vD fa):=by
 obtain⟨ta,p1,k1⟩:=ha;refine⟨_,wd sI p1,fun R Qd Q q k=>k1 R _ _ q fun v w F1 H1 g1 r1 n1 ⟨i,ew,q1⟩=>?_⟩;subst ew;exact⟨i,aM r1,k _ (.d _) F1 H1 g1 (.int _) trivial q1⟩
theorem sv{r:R2}{g:W->W->(W->Prop)->Prop}(ho:A2 X (CN op) r)(vo:AD X rl r g)(hm:DW op b=false)(ha:PV X rl a fa)(hb:PV X rl b fb):PV X rl (.Compare a [op] [b] pos) (zi g fa fb) :=
 jZ vo ha hb fun _ _ p1 p2=>qI ho p1 p2 hm
noncomputable def nc(f:TV):TB:=fun ρ Q=>f ρ fun w=>∃k,w = .d (.bool k)/\Q k
theorem cY{K:W.Frag}{i:Bool}(h:Rep K F v (.bool i)):v = .bl i:=by cases h;rfl
theorem bf{r:R2}{g:W->W->(W->Prop)->Prop}(ho:A2 X (CN op) r)(vo:AD X rl r g)(hm:DW op b=false)(ha:PV X rl a fa)(hb:PV X rl b fb):PB X rl (.Compare a [op] [b] pos) (nc (zi g fa fb)):=by
 obtain⟨ta,p1,k1⟩:=ha;obtain⟨tb,p2,k2⟩:=hb;refine⟨_,cS ho p1 p2 hm,fun R Qd Q q k=>?_⟩;refine k1 R _ _ q fun v w F1 H1 g1 r1 n1 q1=>?_;refine k2 (R.grow g1) _ _ q1 fun v2 w2 F2 H2 g2 r2 n2 q2=>?_;refine vo _ _ g2.sub g2.reel (r1.grow g2) r2 q2 fun v3 w3 F3 H3 g3 r3 n3 ⟨kb,ew,q3⟩=>?_;subst ew;exact⟨kb,cY r3,k kb F3 H3 ((g1.trans g2).trans g3) q3⟩
theorem fS(ha:PV X rl e fa)(he:autoParam (∀whole,isTrue e X.env whole=(do let v <- whole;standAt e.pos;GO [v] (truthy v))) æc._auto_1):PB X rl e (nc fa):=by
 obtain⟨ta,p1,k1⟩:=ha;refine⟨_,tG p1 he,fun R Qd Q q k=>k1 R _ _ q fun v w F1 H1 g1 r1 n1 ⟨kb,ew,q1⟩=>?_⟩;subst ew;exact⟨kb,cY r1,k kb F1 H1 g1 q1⟩
abbrev wz(p:Int->Int->Bool):=At fun i j=>.bool (p i j)
theorem g_:AD X rl (zN fun i j=>.bl (decide (i<j))) (wz fun i j=>decide (i<j)):=cD fun _ _ _ _=>.bl _
theorem m7:AD X rl (zN fun i j=>.bl (decide (j<i))) (wz fun i j=>decide (j<i)):=cD fun _ _ _ _=>.bl _
theorem vm:AD X rl (zN fun i j=>.bl (decide (j<=i))) (wz fun i j=>decide (j<=i)):=cD fun _ _ _ _=>.bl _
noncomputable def v8(K:W.Frag)(neg:Bool):R2:=fun x y H Q=>∃dx dy,Rep K H x dx/\Rep K H y dy/\CD dx=true/\CD dy=true/\Q (.bl (if neg then !CA dx dy else CA dx dy)) H
theorem tZ(hu:X.A.units+64<FY):A2 X (CN .Eq) (v8 X.K false):=by
 intro pins s σ H x y v u Q I rx ry ⟨dx,dy,h1,h2,s1,s2,q⟩;obtain⟨as,a1⟩:=Rep.reads I (.refl H) h1 v rx;obtain⟨bs,a2⟩:=Rep.reads I (.refl H) h2 u ry;exact SeqAt.compareEq_shaped a1 a2 s1 s2 hu ⟨.bl _,H,I,rfl,q⟩
theorem lm(hu:X.A.units+64<FY):A2 X (CN .NotEq) (v8 X.K true):=by
 intro pins s σ H x y v u Q I rx ry ⟨dx,dy,h1,h2,s1,s2,q⟩;obtain⟨as,a1⟩:=Rep.reads I (.refl H) h1 v rx;obtain⟨bs,a2⟩:=Rep.reads I (.refl H) h2 u ry;exact SeqAt.compareNe_shaped a1 a2 s1 s2 hu ⟨.bl _,H,I,rfl,q⟩
noncomputable def wv(neg:Bool):W->W->(W->Prop)->Prop:=fun x y Q=>∃dx dy,x.dat=some dx/\y.dat=some dy/\CD dx=true/\CD dy=true/\Q (.d (.bool (if neg then !CA dx dy else CA dx dy)))
theorem iJ{neg:Bool}:AD X rl (v8 X.K neg) (wv neg):=fun{F H x y wx wy} Qd Q s ra r1 r2 q k=>by
 obtain⟨dx,dy,e1,e2,s1,s2,q⟩:=q;exact⟨dx,dy,r1.dat s e1,r2.dat s e2,s1,s2,k _ (.d _) _ _ (Grow.refl s ra) (.bl _) trivial q⟩
noncomputable def x_(neg:Bool):W->W->(W->Prop)->Prop:=fun x y Q=>∃dx ys,x.dat=some dx/\(y.dat=some (.list ys)\/y.dat=some (.tuple ys))/\CD dx=true/\DK ys=true/\Q (.d (.bool (if neg then !(ys.any fun z=>CA z dx)else ys.any fun z=>CA z dx)))
noncomputable def vJ(f g:TB):TB:=fun ρ Q=>f ρ fun b=>if b=true then g ρ Q else Q false
noncomputable def zh(f g:TB):TB:=fun ρ Q=>f ρ fun b=>if b=true then Q true else g ρ Q
noncomputable def xL(f:TB):TB:=fun ρ Q=>f ρ fun b=>Q (!b)
noncomputable def A1(X:Cx)(rl:Option Addr)(e:Expr)(f:TB):Prop:=∃t,PW X e t/\∀{F₀ H₀ F H:Hp}{σ:St}{ρ:En},VR X.K rl F₀ H₀ F H σ ρ->∀(Qd:Bool->Prop)(Q:Bool->Hp->Prop),f ρ Qd ->
 (∀b F' H',Grow rl F H F' H'->Qd b->Q b H')->t σ H Q
variable{f g:TB}{rest:List Expr}
theorem A1.pb(h:A1 X rl e f):PB X rl e f:=let ⟨t,p,k⟩:=h;⟨t,p.pt,k⟩
theorem j8(ha:PB X rl a f):A1 X rl (.BoolOp .And [a] pos) f:=let ⟨t,p,k⟩:=ha;⟨t,k8 p,k⟩
theorem oI(ha:PB X rl a f):A1 X rl (.BoolOp .Or [a] pos) f:=let ⟨t,p,k⟩:=ha;⟨t,tF p,k⟩
theorem j9(ha:PB X rl a f)(hb:A1 X rl (.BoolOp .And (b::rest) pos) g):A1 X rl (.BoolOp .And (a::b::rest) pos) (vJ f g):=by
 obtain⟨t,p,k⟩:=ha;obtain⟨t2,p2,k2⟩:=hb;refine⟨_,oX p p2,fun R Qd Q q h=>k R _ _ q fun c F1 H1 g1 q1=>?_⟩
 cases c with
 | true=>exact k2 (R.grow g1) _ _ q1 fun c F2 H2 g2 q2=>h c F2 H2 (g1.trans g2) q2
 | false=>exact h false F1 H1 g1 q1
theorem sf(ha:PB X rl a f)(hb:A1 X rl (.BoolOp .Or (b::rest) pos) g):A1 X rl (.BoolOp .Or (a::b::rest) pos) (zh f g):=by
 obtain⟨t,p,k⟩:=ha;obtain⟨t2,p2,k2⟩:=hb;refine⟨_,wb p p2,fun R Qd Q q h=>k R _ _ q fun c F1 H1 g1 q1=>?_⟩
 cases c with
 | true=>exact h true F1 H1 g1 q1
 | false=>exact k2 (R.grow g1) _ _ q1 fun c F2 H2 g2 q2=>h c F2 H2 (g1.trans g2) q2
theorem fT(ha:PB X rl a f):PB X rl (.UnaryOp .Not a pos) (xL f):=by
 obtain⟨t,p,k⟩:=ha;exact⟨_,tH p,fun R Qd Q q h=>k R _ _ q fun c F1 H1 g1 q1=>h (!c) F1 H1 g1 q1⟩
noncomputable def pU(fa fb:TV):TV:=fun ρ Q=>fa ρ fun w=>∃c,w = .d (.bool c)/\if c=true then fb ρ Q else Q (.d (.bool false))
noncomputable def xK(fa fb:TV):TV:=fun ρ Q=>fa ρ fun w=>∃c,w = .d (.bool c)/\if c=true then Q (.d (.bool true))else fb ρ Q
noncomputable def pQ(fa:TV):TV:=fun ρ Q=>fa ρ fun w=>∃c,w = .d (.bool c)/\Q (.d (.bool (!c)))
theorem c8.back{rl:Option Addr}{w:W}(g:Grow rl F H F' H')(n:c8 H' v w):c8 H v w:=by
 cases w with
 | ml xs=>exact fun a ea=>g.freeB (n a ea)
 | md xs=>exact fun a ea=>g.freeB (n a ea)
 | mk xs=>exact fun a ea=>g.freeB (n a ea)
 | xm xs=>exact fun a ea=>g.freeB (n a ea)
 | nt _=>trivial
 | lk=>trivial
 | sc _=>trivial
 | fd _=>trivial
 | xr _=>trivial
 | fw _=>trivial
 | ft _=>trivial
 | xc _ _=>trivial
 | dp _ _=>trivial
 | d _=>trivial
 | pk _=>trivial
 | reel=>trivial
 | vv _=>trivial
theorem pH{op}(ha:PV X rl a fa):PV X rl (.BoolOp op [a] pos) fa:=let ⟨t,p,k⟩:=ha;⟨t,tR p,k⟩
theorem v_and(ha:PV X rl a fa)(hb:PV X rl (.BoolOp .And (b::rest) pos) fb):PV X rl (.BoolOp .And (a::b::rest) pos) (pU fa fb):=by
 obtain⟨t,p,k⟩:=ha;obtain⟨t2,p2,k2⟩:=hb;refine⟨_,tT p p2,fun R Qd Q q h=>k R _ _ q fun v w F1 H1 g1 r1 n1 ⟨c,ew,q1⟩=>?_⟩;subst ew;refine⟨c,cY r1,?_⟩
 cases c with
 | true=>exact k2 (R.grow g1) _ _ q1 fun v w F2 H2 g2 r2 n2 q2=>h v w F2 H2 (g1.trans g2) r2 (n2.back g1) q2
 | false=>exact h _ (.d _) F1 H1 g1 (.bl false) trivial q1
theorem v_not(ha:PV X rl a fa):PV X rl (.UnaryOp .Not a pos) (pQ fa):=by
 obtain⟨t,p,k⟩:=ha;refine⟨_,tS p,fun R Qd Q q h=>k R _ _ q fun v w F1 H1 g1 r1 n1 ⟨c,ew,q1⟩=>?_⟩;subst ew;exact⟨c,cY r1,h _ (.d _) F1 H1 g1 (.bl _) trivial q1⟩
noncomputable def zk(t:TB)(fa fb:TV):TV:=fun ρ Q=>t ρ fun c=>if c=true then fa ρ Q else fb ρ Q
theorem pL{c:Expr}(hc:PB X rl c f)(ha:PV X rl a fa)(hb:PV X rl b fb):PV X rl (.IfExp c a b pos) (zk f fa fb):=by
 obtain⟨t,p,k⟩:=hc;obtain⟨t1,p1,k1⟩:=ha;obtain⟨t2,p2,k2⟩:=hb;refine⟨_,nJ p p1 p2,fun R Qd Q q h=>k R _ _ q fun c F1 H1 g1 q1=>?_⟩
 cases c with
 | true=>exact k1 (R.grow g1) _ _ q1 fun v w F2 H2 g2 r2 n2 q2=>h v w F2 H2 (g1.trans g2) r2 (n2.back g1) q2
 | false=>exact k2 (R.grow g1) _ _ q1 fun v w F2 H2 g2 r2 n2 q2=>h v w F2 H2 (g1.trans g2) r2 (n2.back g1) q2
noncomputable def dh:List W->Option (List Bl)
 | []=>some []
 | .d x::r=>(dh r).map (x :: ·)
 | _::_=>none
theorem cM{K:W.Frag}{F H:Hp}:∀{vs:List V}{ws:List W}{ds:List Bl},dU K rl F H vs ws->dh ws=some ds->Reps K F vs ds
 | _,_,_,.nil,e=>by cases e;exact .nil
 | _,.d x::ws,ds,.cons r rs,e=>by
   have e:(dh ws).map (x :: ·)=some ds:=e
   cases q:dh ws with
   | none=>rw[q]at e;cases e
   | some es=>rw[q]at e;cases e;exact .cons r (cM rs q)
 | _,.ml x::ws,ds,.cons r rs,e=>by cases(show none=some ds from e)
 | _,.pk x::ws,ds,.cons r rs,e=>by cases(show none=some ds from e)
 | _,.reel::ws,ds,.cons r rs,e=>by cases(show none=some ds from e)
 | _,.vv u::ws,ds,.cons r rs,e=>by cases(show none=some ds from e)
 | _,.md u::ws,ds,.cons r rs,e=>by cases(show none=some ds from e)
 | _,.nt u::ws,ds,.cons r rs,e=>by cases(show none=some ds from e)
 | _,.lk::ws,ds,.cons r rs,e=>by cases(show none=some ds from e)
 | _,.sc _::ws,ds,.cons r rs,e=>by cases(show none=some ds from e)
 | _,.fd _::ws,ds,.cons r rs,e=>by cases(show none=some ds from e)
 | _,.xr _::ws,ds,.cons r rs,e=>by cases(show none=some ds from e)
 | _,.xc _ _::ws,ds,.cons r rs,e=>by cases(show none=some ds from e)
 | _,.mk _::ws,ds,.cons r rs,e=>by cases(show none=some ds from e)
 | _,.xm _::ws,ds,.cons r rs,e=>by cases(show none=some ds from e)
 | _,.fw _::ws,ds,.cons r rs,e=>by cases(show none=some ds from e)
 | _,.ft _::ws,ds,.cons r rs,e=>by cases(show none=some ds from e)
 | _,.dp _ _::ws,ds,.cons r rs,e=>by cases(show none=some ds from e)
noncomputable def vw(fs:AF):TV:=fun ρ Q=>fs ρ fun ws=>∃ds,dh ws=some ds/\ds.length<=sizeLine/\Q (.d (.tuple ds))
noncomputable def vE(fs:AF):TV:=fun ρ Q=>fs ρ fun ws=>∃ds,dh ws=some ds/\ds.length<=sizeLine/\Q (.ml ds)
theorem cn{x1}(h:AS X rl es fs):PV X rl (.Tuple es x1 pos) (vw fs):=by
 obtain⟨t,p,k⟩:=h;refine⟨_,tQ p,fun R Qd Q q h=>k R _ _ q fun vs ws F1 H1 g1 r1 ⟨ds,e1,z,q1⟩=>?_⟩;have rs:=cM r1 e1;refine⟨by rw[rs.length];exact z,fun p hp=>?_⟩;have g2:=g1.trans (Grow.data (a:=p) (o:=.tup vs) g1.sub g1.reel hp);exact h _ (.d (.tuple ds)) _ _ g2 (.tup (.inl (.inl ak)) (rs.mono (Grow.data (o:=.tup vs) g1.sub g1.reel hp).fs)) trivial q1
theorem fj{K:W.Frag}{p:Addr}{vs:List V}{ds:List Bl}(s:a_ F H)(ra:AQ rl F H)(hp:H p=none)(rs:Reps K F vs ds):jV K rl F (upd H p (.lst vs)) (.ref p) ds:=by
 refine⟨p,vs,rfl,s.free hp,fun e=>?_,ak,rs⟩;obtain⟨o,q⟩:=ra.live e;rw[hp]at q;cases q
theorem su(h:AS X rl es fs):PV X rl (.List es pos) (vE fs):=by
 obtain⟨t,p,k⟩:=h;refine⟨_,oY p,fun R Qd Q q h=>k R _ _ q fun vs ws F1 H1 g1 r1 ⟨ds,e1,z,q1⟩=>?_⟩;have rs:=cM r1 e1;refine⟨by rw[rs.length];exact z,fun p hp=>?_⟩;exact h _ (.ml ds) _ _ (g1.trans (Grow.laid (a:=p) (o:=.lst vs) g1.sub g1.reel hp)) (fj g1.sub g1.reel hp rs) (fun a ea=>by cases ea;exact g1.freeB hp) q1
noncomputable def itemAt:Bl->Int->Option Bl
 | .list xs,i=>atI xs i
 | .tuple xs,i=>atI xs i
 | _,_=>none
theorem Reps.atI{K:W.Frag}{F:Hp}{vs:List V}{ds:List Bl}{i:Int}{d:Bl}(r:Reps K F vs ds)(e:L2.atI ds i=some d):∃v,L2.atI vs i=some v/\Rep K F v d:=by
 unfold L2.atI at e ⊢;rw[r.length]
 cases q:ixN ds.length i with
 | none=>rw[q]at e;cases e
 | some j =>
   rw[q]at e;exact r.get e
noncomputable def Aq:W->W->(W->Prop)->Prop:=fun x y Q=>∃dx i z,x.dat=some dx/\y = .d (.int i)/\itemAt dx i=some z/\Q (.d z)
theorem vj:AD X rl (zM X.K) Aq:=fun{F H x y wx wy} Qd Q s ra r1 r2 q k=>by
 obtain⟨dx,i,z,e1,rfl,e3,q⟩:=q;have ey:=aM r2;subst ey
 cases dx with
 | list xs =>
   obtain⟨a,vs,rfl,sq,rs⟩:=r1.items s e1;obtain⟨v,e4,rz⟩:=Reps.atI rs e3
   exact .inl ⟨a,vs,i,v,rfl,rfl,sq,e4,k _ (.d _) _ _ (Grow.refl s ra) rz trivial q⟩
 | tuple xs =>
   obtain⟨a,vs,rfl,sq,rs⟩:=r1.itemsT s e1;obtain⟨v,e4,rz⟩:=Reps.atI rs e3
   exact .inr (.inl ⟨a,vs,i,v,rfl,rfl,sq,e4,k _ (.d _) _ _ (Grow.refl s ra) rz trivial q⟩)
 | none=>cases e3
 | bool b=>cases e3
 | int b=>cases e3
 | str b=>cases e3
 | dict b=>cases e3
theorem bH(ha:PV X rl a fa)(hb:PV X rl b fb)(hs:autoParam (mK b) æi._auto_1):PV X rl (.Subscript a b pos) (zi Aq fa fb):=jZ vj ha hb fun _ _ p1 p2=>bO aY p1 p2 hs
noncomputable def dS(X:Cx)(rl:Option Addr)(r:List V->Hp->VK->Prop)(g:List W->(W->Prop)->Prop):Prop:=∀{F H:Hp}{vs:List V}{ws:List W}(Qd:W->Prop)(Q:VK),a_ F H->AQ rl F H->dU X.K rl F H vs ws->g ws Qd ->
 (∀v w F' H',Grow rl F H F' H'->ck X.K rl F' H' v w->c8 H v w->Qd w->Q v H')->r vs H Q
noncomputable def cp(g:List W->(W->Prop)->Prop)(fs:AF):TV:=fun ρ Q=>fs ρ fun ws=>g ws Q
theorem iM{r:List V->Hp->VK->Prop}{g:List W->(W->Prop)->Prop}{t:TA->TE}(vc:dS X rl r g)(ha:AS X rl es fs){e:Expr}(hp:∀ta,PA X es ta->PE X e (zz r ta)):PV X rl e (cp g fs):=by
 obtain⟨ta,p1,k1⟩:=ha;refine⟨_,hp ta p1,fun R Qd Q q k=>k1 R _ _ q fun vs ws F1 H1 g1 r1 q1=>?_⟩;exact vc Qd Q g1.sub g1.reel r1 q1 fun v w F2 H2 g2 r2 n2 q2=>k v w F2 H2 (g1.trans g2) r2 (n2.back g1) q2
theorem bT{id:String}{r:List V->Hp->VK->Prop}{g:List W->(W->Prop)->Prop}(hc:ca X (.builtin id) r)(vc:dS X rl r g)(hm:X.mg x=none)(hv:Dn x=some (.builtin id))(ha:AS X rl (e::es) fs)(hg:autoParam (Gl X x) æa._auto_1)(hn:autoParam (x ≠ "__name__") æb._auto_1)(hdb:autoParam ((x==("__debug__" : Str))=false) æb._auto_1)
 (he:autoParam (BF (e::es) X.env=(false,eval e X.env)::BF es X.env) æa._auto_1)(hpl:autoParam ((Dj pos (BF es X.env)).any (·.1)=false) æa._auto_1):PV X rl (.Call (.Name x p) (e::es) [] pos) (cp g fs) :=
 iM (t:=fun _=>tC .non) vc ha fun _ p1=>b_ hc hg hm hv p1 hn hdb he hpl
theorem iP{r:List V->Hp->VK->Prop}{g:List W->(W->Prop)->Prop}(hc:ca X (.type T) r)(vc:dS X rl r g)(hm:X.mg x=none)(hv:Dn x=some (.type T))(ha:AS X rl (e::es) fs)(hg:autoParam (Gl X x) æa._auto_1)(hn:autoParam (x ≠ "__name__") æb._auto_1)(hdb:autoParam ((x==("__debug__" : Str))=false) æb._auto_1)
 (he:autoParam (BF (e::es) X.env=(false,eval e X.env)::BF es X.env) æa._auto_1)(hpl:autoParam ((Dj pos (BF es X.env)).any (·.1)=false) æa._auto_1):PV X rl (.Call (.Name x p) (e::es) [] pos) (cp g fs) :=
 iM (t:=fun _=>tC .non) vc ha fun _ p1=>gE hc hg hm hv p1 hn hdb he hpl
theorem jS{K:W.Frag}{vs:List V}{w:W}(r:dU K rl F H vs [w]):∃v,vs=[v]/\ck K rl F H v w:=by
 cases r with
 | cons r1 r2=>cases r2;exact⟨_,rfl,r1⟩
theorem v7{K:W.Frag}{vs:List V}{w w':W}(r:dU K rl F H vs [w,w']):∃v u,vs=[v,u]/\ck K rl F H v w/\ck K rl F H u w':=by
 cases r with
 | cons r1 r2 =>
   cases r2 with
   | cons r3 r4=>cases r4;exact⟨_,_,rfl,r1,r3⟩
noncomputable def u7:List W->(W->Prop)->Prop:=fun ws Q=>∃i,ws=[.d (.int i)]/\Q (.d (.int (if i<0 then -i else i)))
theorem se:dS X rl (fun xs H Q=>∃i,xs=[.int i]/\Q (.int (if i<0 then -i else i)) H) u7:=fun{F H vs ws} Qd Q s ra r ⟨i,ew,q⟩ k=>by
 subst ew;obtain⟨v,rfl,r1⟩:=jS r;have e:=aM r1;subst e;exact⟨i,rfl,k _ (.d _) _ _ (Grow.refl s ra) (.int _) trivial q⟩
noncomputable def qV:Bl->Option Nat
 | .list xs=>some xs.length
 | .tuple xs=>some xs.length
 | _=>none
noncomputable def uY:List W->(W->Prop)->Prop:=fun ws Q=>∃w d n,ws=[w]/\w.dat=some d/\qV d=some n/\Q (.d (.int n))
theorem r8:dS X rl (fun xs H Q=>∃p ys,xs=[.ref p]/\(AM X.K H p ys\/AL X.K H p ys)/\Q (.int ys.length) H) uY:=fun{F H vs ws} Qd Q s ra r ⟨w,d,n,ew,e1,e2,q⟩ k=>by
 subst ew;obtain⟨v,rfl,r1⟩:=jS r
 cases d with
 | list xs =>
   obtain⟨a,vs,rfl,sq,rs⟩:=r1.items s e1;cases e2
   exact⟨a,vs,rfl,.inl sq,k _ (.d _) _ _ (Grow.refl s ra) (by rw[rs.length];exact .int _) trivial q⟩
 | tuple xs =>
   obtain⟨a,vs,rfl,sq,rs⟩:=r1.itemsT s e1;cases e2
   exact⟨a,vs,rfl,.inr sq,k _ (.d _) _ _ (Grow.refl s ra) (by rw[rs.length];exact .int _) trivial q⟩
 | none=>cases e2
 | bool b=>cases e2
 | int b=>cases e2
 | str b=>cases e2
 | dict b=>cases e2
end
structure VEnds where
 nx:En->Prop
 rt:W->Prop
 bk:En->Prop:=fun _=>False
 ct:En->Prop:=fun _=>False
structure EndsOk (K:W.Frag) (rl:Option Addr) (F₀ H₀ Fs:Hp) (Dv:VEnds) (D:Ends):Prop where
 nx:∀F H σ ρ,a_ Fs F->VR K rl F₀ H₀ F H σ ρ->Dv.nx ρ->D.nx σ H
 rt:∀v w F H,Grow rl F₀ H₀ F H->ck K rl F H v w->c8 H₀ v w->Dv.rt w->D.rt v H
 bk:∀F H σ ρ,a_ Fs F->VR K rl F₀ H₀ F H σ ρ->Dv.bk ρ->D.bk σ H
 ct:∀F H σ ρ,a_ Fs F->VR K rl F₀ H₀ F H σ ρ->Dv.ct ρ->D.ct σ H
theorem EndsOk.on{K:W.Frag}{Fs:Hp}{Dv:VEnds}{D:Ends}(ok:EndsOk K rl F₀ H₀ Fs Dv D)(s:a_ Fs F):EndsOk K rl F₀ H₀ F Dv D :=
 ⟨fun F1 H σ ρ s1=>ok.nx F1 H σ ρ (s.trans s1),ok.rt,fun F1 H σ ρ s1=>ok.bk F1 H σ ρ (s.trans s1),fun F1 H σ ρ s1=>ok.ct F1 H σ ρ (s.trans s1)⟩
abbrev AG:=VEnds->En->Prop
noncomputable def AV(X:Cx)(rl:Option Addr)(st:Stmt)(t:AG):Prop:=∃T,PS X st T/\∀{F₀ H₀ F H:Hp}{σ:St}{ρ:En},VR X.K rl F₀ H₀ F H σ ρ->∀Dv D,EndsOk X.K rl F₀ H₀ F Dv D->t Dv ρ->T D σ H
noncomputable def jR(X:Cx)(rl:Option Addr)(st:List Stmt)(t:AG):Prop:=∃T,AU X st T/\∀{F₀ H₀ F H:Hp}{σ:St}{ρ:En},VR X.K rl F₀ H₀ F H σ ρ->∀Dv D,EndsOk X.K rl F₀ H₀ F Dv D->t Dv ρ->T D σ H
section
variable{X:Cx}{rl:Option Addr}{st:Stmt}{rest body:List Stmt}{t u:AG}{a b c e:Expr}{es:List Expr}{fa fb:TV}{fs:AF}{f:TB}{pos p:Pos}
noncomputable def sD:AG:=fun D ρ=>D.nx ρ
noncomputable def xH(t u:AG):AG:=fun D ρ=>t {D with nx:=u D} ρ
theorem bP:jR X rl [] sD:=⟨_,eZ,fun R Dv D ok q=>ok.nx _ _ _ _ (.refl _) R q⟩
theorem aq(h:AV X rl st t):jR X rl [st] t:=let ⟨T,p,k⟩:=h;⟨T,cv p,k⟩
theorem ai(h:AV X rl st t)(h2:jR X rl rest u):jR X rl (st::rest) (xH t u):=by
 obtain⟨T,p,k⟩:=h;obtain⟨T2,p2,k2⟩:=h2;exact⟨_,aZ p p2,fun R Dv D ok q=>k R {Dv with nx:=u Dv} {D with nx:=T2 D} ⟨fun F H σ ρ s' R' q'=>k2 R' Dv D (ok.on s') q',ok.rt,ok.bk,ok.ct⟩ q⟩
noncomputable def vG(fa:TV):AG:=fun D ρ=>fa ρ fun _=>D.nx ρ
noncomputable def xI(fa:TV):AG:=fun D ρ=>fa ρ D.rt
theorem aC(h:PV X rl e fa):AV X rl (.Return (some e) pos) (xI fa):=by
 obtain⟨t,p,k⟩:=h;exact⟨_,iW p,fun R Dv D ok q=>k R _ _ q fun v w F1 H1 g1 r1 n1 q1=>ok.rt v w F1 H1 (R.g.trans g1) r1 (n1.back R.g) q1⟩
noncomputable def vA:AG:=fun D _=>D.rt (.d .none)
noncomputable def vF(f:TB)(t u:AG):AG:=fun D ρ=>f ρ fun b=>if b=true then t D ρ else u D ρ
theorem cC{A B:List Stmt}(hc:PB X rl c f)(ha:jR X rl A t)(hb:jR X rl B u):AV X rl (.If c A B pos) (vF f t u):=by
 obtain⟨t0,p0,k0⟩:=hc;obtain⟨t1,p1,k1⟩:=ha;obtain⟨t2,p2,k2⟩:=hb;refine⟨_,nA p0 p1 p2,fun R Dv D ok q=>k0 R _ _ q fun b F1 H1 g1 q1=>?_⟩
 cases b with
 | true=>exact k1 (R.grow g1) Dv D (ok.on g1.fs) q1
 | false=>exact k2 (R.grow g1) Dv D (ok.on g1.fs) q1
theorem c9:AV X rl st (fun _ _=>False):=⟨_,ny,fun _ _ _ _ q=>q.elim⟩
noncomputable def W.isPk:W->Bool
 | .pk _=>true
 | _=>false
noncomputable def vy(i:Nat)(fa:TV):AG:=fun D ρ=>fa ρ fun w=>w.isPk=false/\D.nx (ρ.set i (some w))
theorem oF(i:Nat)(hN:X.N.Nodup)(he:PV X rl e fa)(hi:autoParam (X.N[i]?=some x) æa._auto_1)(hx:autoParam (Loc X.env.scope x) æd._auto_1)
 (hs:autoParam (DU e (some (.Name x pos')) pos.line X.env=pure false) æa._auto_1)(hf:autoParam (X.fn x=true\/X.env.scope.names.lookup x=some .local) æe._auto_1) :
 AV X rl (.Assign [.Name x pos'] e pos) (vy i fa):=by
 obtain⟨t,p,k⟩:=he;refine⟨_,cI hN hi hx p hs hf,fun R Dv D ok q=>k R _ _ q fun v w F1 H1 g1 r1 n1 ⟨hp,q1⟩=>?_⟩;exact ok.nx _ _ _ _ g1.fs (R.set g1 r1 n1 (fun xs z=>by subst z;cases hp) i) q1
noncomputable def mV(ρ:En):Prop:=∀(i:Nat)(w:W),ρ[i]?=some (some w)->w.own=false
theorem mV.set{ρ:En}(h:mV ρ)(i:Nat)(x:Bl):mV (ρ.set i (some (.d x))):=fun j w z=>by
 rw[B5]at z;split at z
 · split at z
   · cases z;rfl
   · cases z
 · exact h j w z
abbrev AJ:=Bl->En->(En->Prop)->Prop
abbrev jU:=List Bl->En->(En->Prop)->Prop
noncomputable def A0(X:Cx)(rl:Option Addr)(tg:Expr)(g:AJ):Prop:=∃G,PG X tg G/\∀{F₀ H₀ F H:Hp}{σ:St}{ρ:En},VR X.K rl F₀ H₀ F H σ ρ->∀(v:V)(x:Bl)(Qd:En->Prop)(Q:St->Hp->Prop),Rep X.K F v x->g x ρ Qd ->
 (∀F' H' σ' ρ',Grow rl F H F' H'->(mV ρ->mV ρ')->VR X.K rl F₀ H₀ F' H' σ' ρ'->Qd ρ'->Q σ' H')->G v σ H Q
noncomputable def u_(X:Cx)(rl:Option Addr)(tgs:List Expr)(g:jU):Prop:=∃G,AZ X tgs G/\∀{F₀ H₀ F H:Hp}{σ:St}{ρ:En},VR X.K rl F₀ H₀ F H σ ρ->∀(vs:List V)(xs:List Bl)(Qd:En->Prop)(Q:St->Hp->Prop),Reps X.K F vs xs->g xs ρ Qd ->
 (∀F' H' σ' ρ',Grow rl F H F' H'->(mV ρ->mV ρ')->VR X.K rl F₀ H₀ F' H' σ' ρ'->Qd ρ'->Q σ' H')->G vs σ H Q
noncomputable def uj(i:Nat):AJ:=fun x ρ Q=>Q (ρ.set i (some (.d x)))
theorem aQ(i:Nat)(hN:X.N.Nodup)(hi:autoParam (X.N[i]?=some x) æa._auto_1)(hx:autoParam (Loc X.env.scope x) æd._auto_1)(hf:autoParam (X.fn x=true\/X.env.scope.names.lookup x=some .local) æe._auto_1):A0 X rl (.Name x pos) (uj i) :=
 ⟨_,ie hN hi hx hf,fun R v x Qd Q r q k=>k _ _ _ _ (Grow.refl R.sub R.reel) (fun n=>n.set i x) (R.set (w:=.d x) (Grow.refl R.sub R.reel) r trivial (fun _ z=>by cases z) i) q⟩
noncomputable def wu:jU:=fun xs ρ Q=>xs=[]/\Q ρ
noncomputable def oi(g:AJ)(gs:jU):jU:=fun xs ρ Q=>∃y r,xs=y::r/\g y ρ fun ρ'=>gs r ρ' Q
theorem eO:u_ X rl [] wu:=⟨_,qD,fun R vs xs Qd Q r ⟨e,q⟩ k=>by subst e;exact⟨r.nil_iff,k _ _ _ _ (Grow.refl R.sub R.reel) (fun n=>n) R q⟩⟩
theorem bJ{g:AJ}{gs:jU}(h1:A0 X rl e g)(h2:u_ X rl es gs)(hs:autoParam ((C8 (e::es) X.env).map (·.2)=Ew e X.env::(C8 es X.env).map (·.2)) æa._auto_1):u_ X rl (e::es) (oi g gs):=by
 obtain⟨G,p,k⟩:=h1;obtain⟨G2,p2,k2⟩:=h2;refine⟨_,nD p p2 hs,fun R vs xs Qd Q r ⟨y,ys,ex,q⟩ h=>?_⟩;subst ex
 cases r with
 | cons r1 r2 =>
   refine⟨_,_,rfl,k R _ y _ _ r1 q fun F1 H1 σ1 ρ1 s1 n1 R1 q1=>?_⟩;exact k2 R1 _ ys _ _ (r2.mono s1.fs) q1 fun F2 H2 σ2 ρ2 s2 n2 R2 q2=>h F2 H2 σ2 ρ2 (s1.trans s2) (fun n=>n2 (n1 n)) R2 q2
noncomputable def wr(n:Nat)(gs:jU):AJ:=fun x ρ Q=>∃xs,x = .tuple xs/\xs.length=n/\gs xs ρ Q
theorem iK{kk:Nat}{gs:jU}(hc:X.calm=true)(h:u_ X rl es gs)(hn:autoParam ((C8 es X.env).length=n) æa._auto_1)(hst:autoParam ((C8 es X.env).findIdx? (·.1)=none) æa._auto_1):A0 X rl (.Tuple es kk pos) (wr n gs):=by
 obtain⟨G,p,k⟩:=h;refine⟨_,tP hc p hn hst,fun R v x Qd Q r ⟨xs,ex,hl,q⟩ h=>?_⟩;subst ex
 cases r with
 | tup sq rs=>exact⟨_,_,rfl,cr R.sub sq,by rw[rs.length];exact hl,k R _ xs _ _ rs q h⟩
noncomputable def vI(fa:TV)(g:AJ):AG:=fun D ρ=>fa ρ fun w=>∃x,w = .d x/\g x ρ D.nx
theorem jY{g:AJ}(he:PV X rl e fa)(hg:A0 X rl tg g)(hs:autoParam (E2 [tg] e pos.line X.env=pure false) æa._auto_1)(hw:autoParam (DT [tg] e X.env=pure none) æa._auto_1)
 (h1:autoParam ((C8 [tg] X.env).map (·.2)=[Ew tg X.env]) æa._auto_1):AV X rl (.Assign [tg] e pos) (vI fa g):=by
 obtain⟨t,p,k⟩:=he;obtain⟨G,p2,k2⟩:=hg;refine⟨_,gB p p2 hs hw h1,fun R Dv D ok q=>k R _ _ q fun v w F1 H1 g1 r1 n1 ⟨x,ew,q1⟩=>?_⟩;subst ew;exact k2 (R.grow g1) v x _ _ r1 q1 fun F2 H2 σ2 ρ2 s2 n2 R2 q2=>ok.nx _ _ _ _ (g1.fs.trans s2.fs) R2 q2
noncomputable def xJ(i j:Nat)(fs:AF):AG:=fun D ρ=>fs ρ fun ws=>∃x y,dh ws=some [x,y]/\D.nx ((ρ.set i (some (.d x))).set j (some (.d y)))
theorem iF(i j:Nat){y:Str}{px py pt:Pos}{kt k2 pt2}(hc:X.calm=true)(hN:X.N.Nodup)(ha:AS X rl [a,b] fs)
 (hw:autoParam (DT [.Tuple [.Name x px,.Name y py] kt pt] (.Tuple [a,b] k2 pt2) X.env=pure (some [x,y])) æa._auto_1)(hi:autoParam (X.N[i]?=some x) æa._auto_1)(hj:autoParam (X.N[j]?=some y) æa._auto_1)(hij:autoParam (i≠j) æb._auto_1)
 (hx:autoParam (X.env.scope.names.lookup x=some .local) æa._auto_1)(hy:autoParam (X.env.scope.names.lookup y=some .local) æa._auto_1)
 (hs:autoParam (E2 [.Tuple [.Name x px,.Name y py] kt pt] (.Tuple [a,b] k2 pt2) pos.line X.env=pure false) æa._auto_1) :
 AV X rl (.Assign [.Tuple [.Name x px,.Name y py] kt pt] (.Tuple [a,b] k2 pt2) pos) (xJ i j fs):=by
 obtain⟨t,p,k⟩:=ha;refine⟨_,tI hc hN hi hj hij hx hy p hw hs,fun R Dv D ok q=>k R _ _ q fun vs ws F1 H1 g1 r1 ⟨x,y,e1,q1⟩=>?_⟩;have rs:=cM r1 e1
 cases rs with
 | cons rx rs =>
   cases rs with
   | cons ry rs =>
     cases rs;have R1:=(R.grow g1).set (w:=.d x) (Grow.refl g1.sub g1.reel) rx trivial (fun _ z=>by cases z) i;exact⟨_,_,rfl,ok.nx _ _ _ _ g1.fs (R1.set (w:=.d y) (Grow.refl g1.sub g1.reel) ry trivial (fun _ z=>by cases z) j) q1⟩
structure VIt (K:W.Frag) (rl:Option Addr) (F:Hp) (J:It) (xs:List Bl):Prop where
 go:∀i H x,xs[i]?=some x->a_ F H->J.go i H
 stop:∀i H,xs.length<=i->a_ F H->J.stop i H
 yld:∀i H v H' x F2,xs[i]?=some x->a_ F F2->a_ F2 H->AQ rl F2 H->J.yld i H v H'->∃F3,Grow rl F2 H F3 H'/\Rep K F3 v x
theorem VIt.of{K:W.Frag}{rl:Option Addr}{J:It}(go:∀i H x,xs[i]?=some x->a_ F H->J.go i H)(stop:∀i H,xs.length<=i->a_ F H->J.stop i H)
 (yld:∀i H v H' x,xs[i]?=some x->a_ F H->J.yld i H v H'->H'=H/\Rep K F v x):VIt K rl F J xs :=
 ⟨go,stop,fun i H v H' x F2 e s s2 ra y=>by
  obtain⟨e1,r⟩:=yld i H v H' x e (s.trans s2) y;subst e1
  exact⟨F2,Grow.refl s2 ra,r.mono s⟩⟩
noncomputable def AX(X:Cx)(rl:Option Addr)(tg iter:Expr)(fi:En->(List Bl->Prop)->Prop):Prop:=∃wi,PI X tg iter wi/\∀{F₀ H₀ F H:Hp}{σ:St}{ρ:En},VR X.K rl F₀ H₀ F H σ ρ->∀(Qd:List Bl->Prop)(R:It->Hp->Prop),fi ρ Qd ->
 (∀J xs F' H',Grow rl F H F' H'->VIt X.K rl F' J xs->Qd xs->R J H')->wi σ H R
end
section
variable{X:Cx}{rl:Option Addr}{st:Stmt}{rest body:List Stmt}{t u:AG}{a b c e:Expr}{es:List Expr}{fa fb:TV}{fs:AF}{f:TB}{pos p:Pos}{tg:Expr}
noncomputable def xN(i:Nat)(t:AG):AG:=fun D ρ=>∃xs,ρ[i]?=some (some (.ml xs))/\t D (ρ.set i (some (.d (.list xs))))
noncomputable def iL(fa:TV):En->(List Bl->Prop)->Prop:=fun ρ Q=>fa ρ fun w=>∃xs,w.fz = .d (.list xs)/\Q xs
noncomputable def iT(fa:TV):En->(List Bl->Prop)->Prop:=fun ρ Q=>fa ρ fun w=>∃xs,w.fz = .d (.tuple xs)/\Q xs
theorem j7{l:Expr}(hl:PV X rl l fa):AX X rl tg l (iL fa):=by
 obtain⟨t,p,k⟩:=hl;refine⟨_,qC p,fun R Qd Q q h=>k R _ _ q fun v w F1 H1 g1 r1 n1 ⟨xs,ew,q1⟩=>?_⟩;obtain⟨F2,g2,s2,r2⟩:=ck.fz g1 r1 n1;rw[ew]at r2
 cases(show Rep X.K F2 v (.list xs)from r2)with
 | @lst a vs _ sq rs =>
   have sqH:∀H,a_ F2 H->AM X.K H a vs:=fun H s=>.inl (.inl (s _ _ sq));refine⟨a,rfl,⟨vs,sqH H1 g2.sub⟩,h _ xs F2 H1 g2 (.of (fun i H x e s=>?_) (fun i H hl s=>⟨vs,sqH H s,by rw[rs.length];exact hl⟩) (fun i H v H' x e s y=>?_)) q1⟩
   · obtain⟨v,ev,_⟩:=rs.get e;exact⟨vs,v,sqH H s,ev⟩
   · obtain⟨e',hy⟩:=y;obtain⟨v',ev,rv⟩:=rs.get e;have:=hy vs (sqH H s);rw[ev]at this;cases this;exact⟨e',rv⟩
theorem j6{l:Expr}(hl:PV X rl l fa):AX X rl tg l (iT fa):=by
 obtain⟨t,p,k⟩:=hl;refine⟨_,tN p,fun R Qd Q q h=>k R _ _ q fun v w F1 H1 g1 r1 n1 ⟨xs,ew,q1⟩=>?_⟩;obtain⟨F2,g2,s2,r2⟩:=ck.fz g1 r1 n1;rw[ew]at r2
 cases(show Rep X.K F2 v (.tuple xs)from r2)with
 | @tup a vs _ sq rs =>
   have sqH:∀H,a_ F2 H->AL X.K H a vs:=fun H s=>cr s sq;refine⟨a,rfl,⟨vs,sqH H1 g2.sub⟩,h _ xs F2 H1 g2 (.of (fun i H x e s=>?_) (fun i H hl s=>⟨vs,sqH H s,by rw[rs.length];exact hl⟩) (fun i H v H' x e s y=>?_)) q1⟩
   · obtain⟨v,ev,_⟩:=rs.get e;exact⟨vs,v,sqH H s,ev⟩
   · obtain⟨e',hy⟩:=y;obtain⟨v',ev,rv⟩:=rs.get e;have:=hy vs (sqH H s);rw[ev]at this;cases this;exact⟨e',rv⟩
noncomputable def aA(lo:Int)(n:Nat):List Bl:=(BZ n).map fun(i:Nat)=>.int (lo+i)
theorem eh{lo:Int}{x:Bl}(h:(aA lo n)[i]?=some x):i<n/\x = .int (lo+i):=by
 unfold aA at h;rw[Cd]at h;by_cases hi:i<n
 · rw[B0 (by simpa using hi)]at h;simp at h;exact⟨hi,h.symm⟩
 · rw[List.getElem?_eq_none (by simpa using hi)]at h;cases h
theorem bV{lo:Int}:(aA lo n).length=n:=by simp[aA]
theorem j5{K:W.Frag}(lo:Int)(n:Nat):VIt K rl F (A_ lo n) (aA lo n) :=
 .of (fun i H x e s=>(eh e).1) (fun i H hl s=>by rw[bV]at hl;exact hl) (fun i H v H' x e s y=>by
  obtain⟨e1,e2⟩:=y;subst e2;rw[(eh e).2]
  exact⟨e1,.int _⟩)
noncomputable def Am(fs:AF):En->(List Bl->Prop)->Prop:=fun ρ Q=>fs ρ fun ws=>∃j:Int,ws=[.d (.int j)]/\(-(2^62)<=j/\j<2^62)/\Q (aA 0 j.toNat)
noncomputable def Ak(fs:AF):En->(List Bl->Prop)->Prop:=fun ρ Q=>fs ρ fun ws=>∃i j:Int,ws=[.d (.int i),.d (.int j)]/\(-(2^62)<=i/\i<2^62 /\ -(2^62)<=j/\j<2^62)/\Q (aA i (j-i).toNat)
theorem cE(hm:X.mg "range" = none)(ha:AS X rl [a] fs)(hg:autoParam (Gl X "range") æa._auto_1)(hs:autoParam (BF [a] X.env=[(false,eval a X.env)]) æa._auto_1):AX X rl tg (.Call (.Name "range" p) [a] [] pos) (Am fs):=by
 obtain⟨t,p1,k⟩:=ha;refine⟨_,lg hg hm p1 hs,fun R Qd Q q h=>k R _ _ q fun vs ws F1 H1 g1 r1 ⟨j,ew,b,q1⟩=>?_⟩;subst ew;obtain⟨v,rfl,rv⟩:=jS r1;have e:=aM rv;subst e;exact⟨j,rfl,b.1,b.2,h _ _ F1 H1 g1 (j5 0 _) q1⟩
noncomputable def xM(i:Nat)(g:List Bl->List W->(List Bl->Prop)->Prop)(fs:AF):AG:=fun D ρ=>∃xs,ρ[i]?=some (some (.ml xs))/\fs ρ fun ws=>g xs ws fun ys=>D.nx (ρ.set i (some (.ml ys)))
noncomputable def yb:List Bl->List W->(List Bl->Prop)->Prop:=fun xs ws Q=>∃x,dh ws=some [x]/\xs.length<sizeLine/\Q (xs++[x])
noncomputable def ya:List Bl->List W->(List Bl->Prop)->Prop:=fun xs ws Q=>∃ys,dh ws=some [.list ys]/\xs.length+ys.length<=sizeLine/\Q (xs++ys)
noncomputable def cX:W->Bool
 | .ml _=>false
 | .md _=>false
 | .mk _=>false
 | .xm _=>false
 | .pk _=>false
 | _=>true
noncomputable def ze(K:W.Frag)(rl:Option Addr)(P:List W->(Bl->Prop)->Prop):Sp:=fun vs H Q _=>∃F ws,a_ F H/\AQ rl F H/\dU K rl F H vs ws/\ws.all cX=true/\P ws fun d=>∀v F' H',Grow rl F H F' H'->Rep K F' v d->Q v H'
noncomputable def cc(N:List Str)(ws:List W):En:=ws.map some++Du (N.length-ws.length) none
theorem gw{K:W.Frag}{F H:Hp}:∀{vs:List V}{ws:List W}{i:Nat}{w:W},dU K rl F H vs ws->ws[i]?=some w->∃v,vs[i]?=some v/\ck K rl F H v w
 | _,_,_,_,.nil,e=>by simp at e
 | _,_,0,_,.cons h _,e=>by simp at e;subst e;exact⟨_,rfl,h⟩
 | _,_,i+1,w,.cons _ r,e=>by
   obtain⟨v,h1,h2⟩:=gw (i:=i) (w:=w) r (by simpa using e);exact⟨v,by simpa using h1,h2⟩
theorem gb{N:List Str}{ws:List W}{w:W}(h:(cc N ws)[i]?=some (some w)):ws[i]?=some w:=by
 unfold cc at h;by_cases hi:i<ws.length
 · rw[DM (by simpa using hi),Cd]at h
   cases q:ws[i]? with
   | none=>rw[q]at h;cases h
   | some x=>rw[q]at h;cases h;rfl
 · rw[EI (by simpa using hi),E4]at h;split at h<;>cases h
theorem iH{K:W.Frag}{N:List Str}{vs:List V}{ws:List W}(s:a_ F H)(ra:AQ rl F H)(r:dU K rl F H vs ws)(ok:ws.all cX=true):VR K rl F H F H (start N vs) (cc N ws):=by
 have hl:vs.length=ws.length:=CO r;have no:∀(i:Nat) w,(cc N ws)[i]?=some (some w)->cX w=true:=fun i w e=>(Ds.mp ok) w (FZ (gb e));refine⟨Grow.refl s ra,fun i w e=>?_,fun i j xs ys v _ e1 _ o _ _ _=>(by have:=no i _ e1;cases xs<;>first|exact Bool.noConfusion o|exact Bool.noConfusion this),fun i xs e=>(by have:=no i _ e;cases this),?_⟩
 · obtain⟨v,h1,h2⟩:=gw r (gb e);refine⟨v,?_,h2,?_⟩
   · unfold start;rw[DM (by simpa using(BG.mp h1).1),Cd,h1];rfl
   · have:=no i w e
     cases w with
     | ml xs=>cases this
     | md xs=>cases this
     | mk xs=>cases this
     | xm xs=>cases this
     | nt _=>trivial
     | lk=>trivial
     | sc _=>trivial
     | fd _=>trivial
     | xr _=>trivial
     | fw _=>trivial
     | ft _=>trivial
     | xc _ _=>trivial
     | dp _ _=>trivial
     | d _=>trivial
     | pk _=>trivial
     | reel=>trivial
     | vv _=>trivial
 · unfold cc start;simp[hl]
noncomputable def ng(Q:Bl->Prop):VEnds:=⟨fun _=>Q .none,fun w=>∃d,w.fz = .d d/\Q d,fun _=>False,fun _=>False⟩
theorem zf{w:B2}{K:W.Frag}{base:Heap}{st:Stmt}{fa:Addr}{N:List Str}{k:Nat}{Pd:List W->(Bl->Prop)->Prop}{t:AG}
 (Fn:Fun K x qual st fa fd)(S:FnScope N ps (defScope st))(len:∀ws Q,Pd ws Q->ws.length=ps.length)
 (hbody:∀(cdv:Bo)(A:BX)(outer:List Env)(s:Bp)(H:Hp)(E:XK),Room k (A.deeper (Fd qual (defScope st) s.heap.objs.size fa cdv)) ->
  jR (mU Be P w K mg base N qual (defScope st) fa cdv A outer s H E).nox rl (defBody st) t)
 (hread:∀ws Q,Pd ws Q->t (ng Q) (cc N ws)):FnOk P w K mg base Be (k+1) fa fd ps (ze K rl Pd):=by
 refine Fn.ok S (fun vs H Q E ⟨F,ws,_,_,r,_,q⟩=>(CO r).trans (len ws _ q)) fun cdv A outer s H vs Q E hr h=>?_;obtain⟨F,ws,sm,ra,r,ok,q⟩:=h;obtain⟨T,p,kk⟩:=hbody cdv A outer s H E hr;refine⟨T,p,kk (iH sm ra r ok) (ng _) _ ⟨?_,?_,fun _ _ _ _ _ _ z=>CI z,fun _ _ _ _ _ _ z=>CI z⟩ (hread ws _ q)⟩
 · intro F1 H1 σ1 ρ1 _ R1 q1;exact q1 .non F1 H1 R1.g .non
 · rintro v w1 F1 H1 g1 r1 n1 ⟨d,ed,q1⟩;obtain⟨F2,g2,s2,r2⟩:=ck.fz g1 r1 n1;rw[ed]at r2;exact q1 v F2 H1 g2 r2
structure Dfn (P:BE) (w:B2) (K:W.Frag) (mg:Str->Option Bo) (base:Heap) (rl:Option Addr) (x:Str) (ps:List Str) (k:Nat) (Pd:List W->(Bl->Prop)->Prop):Prop where
 mono:∀ws Q Q',(∀d,Q d->Q' d)->Pd ws Q->Pd ws Q'
 ex:∃f fd,mg x=some (.ref f)/\W.keepIn K (.ref f)=true/\Binds K fd ps []/\FnOk P w K mg base Be k f fd ps (ze K rl Pd)
noncomputable def xD(Pd:List W->(Bl->Prop)->Prop)(fs:AF):TV:=fun ρ Q=>fs ρ fun ws=>ws.all cX=true/\Pd ws fun d=>Q (.d d)
theorem ar{k:Nat}{Pd:List W->(Bl->Prop)->Prop}(D:Dfn X.prog X.w X.K X.mg X.base rl x ps k Pd)(hr:Room k X.A)(ha:AS X rl (e::es) fs)(hg:autoParam (Gl X x) æa._auto_1)
 (hdb:autoParam ((x==("__debug__" : Str))=false) æb._auto_1)(he:autoParam (BF (e::es) X.env=(false,eval e X.env)::BF es X.env) æa._auto_1)(hpl:autoParam ((Dj pos (BF es X.env)).any (·.1)=false) æa._auto_1) :
 PV X rl (.Call (.Name x p) (e::es) [] pos) (xD Pd fs):=by
 obtain⟨f,fd,hm,hk,hb,F⟩:=D.ex;obtain⟨t,p1,kk⟩:=ha;refine⟨_,lj F hr hg hm hk hb .nil tU p1 hdb he hpl,fun R Qd Q q h=>kk R _ _ q fun vs ws F1 H1 g1 r1 ⟨ok,q1⟩=>?_⟩;refine⟨F1,ws,g1.sub,g1.reel,by rw[DB];exact r1,ok,?_⟩;exact D.mono ws _ _ (fun d qd v F2 H2 g2 r2=>h v (.d d) F2 H2 (g1.trans g2) r2 trivial qd) q1
end
end L2.VL
variable{w:L2.VL.W}{ρ:L2.VL.En}
namespace L2
theorem cW{env:Env}:∀(names:List (Str×DZ))(acc:List (Str×Addr)),(∀x∈names,x.2 = .free->∃c,env.cells.lookup x.1=some c)->(∀x c,acc.lookup x=some c->env.cells.lookup x=some c) ->
 ∃ cl,(forIn names acc (fun(x:Str×DZ)(cs:List (Str×Addr))=>if(x.2==B6)=true then do let c <- cellOf env x.1;pure (DE ((x.1,c)::cs))else pure (DE cs)):Sem (List (Str×Addr)))=pure cl /\
   (∀x c,cl.lookup x=some c->env.cells.lookup x=some c)/\(∀x,(acc.lookup x).isSome=true->(cl.lookup x).isSome=true)/\∀x,(x,B6)∈names->(cl.lookup x).isSome=true
 | [],acc,_,h2=>⟨acc,rfl,h2,fun _ z=>z,fun _ z=>nomatch z⟩
 | (n,k)::r,acc,h1,h2=>by
   by_cases hk:k = .free
   · subst hk;obtain⟨c,hc⟩:=h1 (n,.free) Bw rfl
     have h2':∀x c',((n,c)::acc).lookup x=some c'->env.cells.lookup x=some c':=fun x c' z=>by
      rw[B9]at z
      cases e:x==n with
      | true =>
        rw[e]at z;have e':x=n:=by simpa using e
        cases z;rw[e']
        exact hc
      | false =>
        rw[e]at z;exact h2 x c' z
     obtain⟨cl,e,g1,g2,g3⟩:=cW r ((n,c)::acc) (fun x hx=>h1 x (Br _ hx)) h2';refine⟨cl,?_,g1,fun x z=>g2 x ?_,fun x z=>?_⟩
     · rw[FB];simp only[beq_self_eq_true,if_true];have e0:cellOf env n=pure c:=by unfold cellOf;rw[hc]
       rw[e0,pure_bind,pure_bind];exact e
     · rw[B9];split
       · rfl
       · exact z
     · rcases BL.mp z with z|z
       · cases z;refine g2 _ ?_;rw[B9];simp
       · exact g3 x z
   · obtain⟨cl,e,g1,g2,g3⟩:=cW r acc (fun x hx=>h1 x (Br _ hx)) h2;refine⟨cl,?_,g1,g2,fun x z=>?_⟩
     · rw[FB];have hb:(k==B6)=false:=by simpa using hk
       simp only[hb,CK,if_false];rw[pure_bind];exact e
     · rcases BL.mp z with z|z
       · cases z;exact absurd rfl hk
       · exact g3 x z
theorem cA{env:Env}(h:∀x∈scope.names,x.2 = .free->∃c,env.cells.lookup x.1=some c) :
 ∃cl,closureFor scope env=pure cl/\(∀x c,cl.lookup x=some c->env.cells.lookup x=some c)/\∀x,(x,B6)∈scope.names->(cl.lookup x).isSome=true:=by
 obtain⟨cl,e,g1,_,g3⟩:=cW scope.names [] h (fun _ _ z=>by cases z);refine⟨cl,?_,g1,g3⟩;unfold closureFor
 first
  | exact e
  | (simp only[bind_pure];exact e)
theorem gv{env:Env}(h:(G4 scope env).names.lookup x=some .cell\/(G4 scope env).names.lookup x=some .free):(x,B6)∈scope.names\/(x,CQ)∈scope.names:=by
 have key:∀names:List (Str×DZ),∀k,(k = .cell\/k = .free) ->
  (names.map fun(n,k)=>if(k==B6&&env.scope.kind == .function&&env.kindOf n==some .cell)then(n,CQ)else(n,k)).lookup x=some k->(x,B6)∈names\/(x,CQ)∈names:=by
  intro names
  induction names with
  | nil=>intro k _ z;cases z
  | cons y r ih =>
    intro k hk z;obtain⟨n,kn⟩:=y;have step:((x,B6)∈r\/(x,CQ)∈r)->((x,B6)∈(n,kn)::r\/(x,CQ)∈(n,kn)::r):=fun z=>z.imp (Br _) (Br _);rw[BM]at z;dsimp only at z;by_cases hc:(kn==B6&&env.scope.kind == .function&&env.kindOf n==some .cell)=true
    · rw[if_pos hc,B9]at z
      have hf:kn = .free:=by
       have:=(Bv.mp (Bv.mp hc).1).1;simpa using this
      cases e:x==n with
      | true =>
        have e':x=n:=by simpa using e
        rw[e',<- hf]
        exact .inl Bw
      | false =>
        rw[e]at z;exact step (ih k hk z)
    · rw[if_neg hc,B9]at z
      cases e:x==n with
      | true =>
        rw[e]at z;have e':x=n:=by simpa using e
        cases z;rcases hk with hk|hk
        · rw[e',hk];exact .inr Bw
        · rw[e',hk];exact .inl Bw
      | false =>
        rw[e]at z;exact step (ih k hk z)
 rcases h with h|h
 · exact key scope.names .cell (.inl rfl) h
 · exact key scope.names .free (.inr rfl) h
theorem aN:∀(names:List (Str×DZ))(n:Nat)(acc:List (Str×Addr)),Cw n names acc=Cw n names []++acc
 | [],_,_=>rfl
 | (x,k)::r,n,acc=>by
   unfold Cw;split
   · rw[aN r (n+1) ((x,n)::acc),aN r (n+1) [(x,n)],List.append_assoc];rfl
   · exact aN r n acc
theorem bY{x:Str}{c:Addr}:∀{names:List (Str×DZ)}{n:Nat},(x,c)∈Cw n names []->(x,CQ)∈names
 | (y,k)::r,n,h=>by
   unfold Cw at h;split at h
   · rename_i hk;rw[aN]at h;rcases Eu.mp h with h|h
     · exact Br _ (bY h)
     · simp at h;have:k = .cell:=by simpa using hk
       rw[h.1,this];exact Bw
   · exact Br _ (bY h)
theorem cU{a b:List (Str×Addr)}:(a++b).lookup x=(a.lookup x).or (b.lookup x):=by
 induction a with
 | nil=>simp
 | cons y a ih =>
   obtain⟨n,c⟩:=y;rw[List.cons_append,B9,B9];cases x==n<;>simp[ih]
theorem il{M:G5}{globals:Addr}{o:Env}{Q:Env->Bp->Prop}
 (hQ:Q {scope,locals:=s.heap.objs.size,globals,cells:=Cw (s.heap.objs.size+1) scope.names cl,qual,func:=none,code:=o.code,frame:=o.frame,builtins:=o.builtins} {s with heap:=GW (s.heap.push {cls:=.type "dict", data:=.dict #[]}) scope.names}) :
 BS M A (Ea scope globals cl [] qual none .none (some o)) Q E s:=by
 simp only[Ea,Option.isSome_some,if_true];refine Bm (wpAny_alloc ?_);refine Bm (wpAny_layCells _ (fun name kind cells=>by cases hkc:kind==CQ<;>simp[hkc]) _ _ _ _ ?_);rw[show({s with heap:=s.heap.push {cls:=.type "dict", data:=.dict #[]}}:Bp).heap.objs.size=s.heap.objs.size+1 from F_ ..];exact Bm (Bs (Bs hQ))
noncomputable def aH(X:Cx)(N':List Str)(scope:Scope)(cl:List (Str×Addr))(fp:List Addr)(pn:List (Addr×Obj))(s:Bp)(H:Hp):Cx :=
 {X with N:=N',s₀:=s,H₀:=H,env:={compEnvC scope cl s.heap.objs.size X.env with cells:=Cw (s.heap.objs.size+1) scope.names cl},outer:=X.stack,ex:=fp,fn:=fun x=>scope.names.lookup x==some .cell,pn:=pn,xe:=fun _ _=>False}
abbrev hU(ifs:List Expr)(env:Env):Sem Bool:=forIn ifs true fun c r=>if r=true then do let ok <- isTrue c env (eval c env);pure (DE ok)else pure (DE r)
noncomputable def AT(X:Cx)(ifs:List Expr)(t:TT):Prop :=
 ∀(pins:List (Addr×Obj))(s:Bp)(σ:St)(H:Hp)(Q:Bool->Hp->Prop),Inv X pins σ H s->t σ H Q->BS (BY X.prog X.w) X.A (hU ifs X.env) (TP X pins σ Q) X.xe s
theorem qr:AT X [] (fun _ H Q=>Q true H):=fun _ _ _ H _ I h=>wpAny_tests_nil ⟨H,I,h⟩
theorem mx{prog:BE}{w:B2}{elt target:Expr}{it acc:Bo}{env:Env}(I:Nat->Bp->Prop)
 (turn:∀n s,I n s->BS (BY prog w) A (Gu it) (fun r s₁=>(r=none/\R (.ok .next) s₁)\/∃v,r=some v /\
  BS (BY prog w) A (DV target it v) (fun _ s₂=>BS (BY prog w) A (Ew target env v) (fun _ s₃=>BS (BY prog w) A (hU ifs env) (fun ok s₄ =>
   if ok=true then BS (BY prog w) A (eval elt env) (fun x s₅=>BS (BY prog w) A (call (.builtin "list.append") [acc,x]) (fun _ s₆=>∃m,m<n/\I m s₆) (fun _ _=>False) s₅) (fun _ _=>False) s₄
   else ∃m,m<n/\I m s₄) (fun _ _=>False) s₃) (fun _ _=>False) s₂) (fun _ _=>False) s₁) (fun _ _=>False) s)
 (n:Nat)(h:I n s):DX (BY prog w) A (.compLoop (.ListComp elt [⟨target,iter,ifs,0⟩] scope pos) 0 it acc env) R s:=by
 refine codeAny_loop rfl I (fun n s hI=>?_) n h;show BS _ A ((compTurn (.ListComp elt [⟨target,iter,ifs,0⟩] scope pos) 0 it acc env).onRaise (fun x=>do noteFrame x env;theTreesLotGoes x)) _ _ s;refine wpAny_noted ?_;rw[compTurn_list];refine Bm (DH (Bm (Cc (turn n s hI) (fun r s₁ h₁=>?_) fun _ _ h'=>h'.elim)));rcases h₁ with⟨rfl,h₁⟩|⟨v,rfl,h₁⟩
 · exact Bs h₁
 · refine Bm (Cc h₁ (fun _ s₂ h₂=>Bm (Cc h₂ (fun _ s₃ h₃=>Bm (Cc h₃ (fun ok s₄ h₄=>?_) fun _ _ z=>z.elim)) fun _ _ z=>z.elim)) fun _ _ z=>z.elim)
   cases ok with
   | false=>exact Bs ⟨rfl,h₄⟩
   | true=>exact Bm (Bm (Cc h₄ (fun x s₅ h₅=>Bm (Cc h₅ (fun _ s₆ h₆=>Bs (Bs ⟨rfl,h₆⟩)) fun _ _ z=>z.elim)) fun _ _ z=>z.elim))
noncomputable def l7(fr:List (Option Nat))(σ:St):St:=fr.map fun o=>o.bind fun j=>(σ[j]?).join
noncomputable def rm(fr:List (Option Nat))(N' N:List Str)(sc scX:Scope):Bool :=
 decide (fr.length=N'.length)&&(BZ fr.length).all fun i=>match fr[i]? with
  | some (some j)=>match N'[i]? with
    | some x=>decide (N[j]?=some x)&&decide (sc.names.lookup x=some .free)&&(decide (scX.names.lookup x=some .cell)||decide (scX.names.lookup x=some .free))
    | none=>false
  | _=>true
noncomputable def sZ(sc scX:Scope):Bool :=
 decide (sc.kind = .function)&&sc.names.all fun y=>(decide (y.2 ≠ .cell)||decide (sc.names.lookup y.1=some .cell))&&(decide (y.2 ≠ .local)||decide (sc.names.lookup y.1=some .local)) &&
  (decide (y.2 ≠ .free)||(decide (scX.names.lookup y.1=some .cell)||decide (scX.names.lookup y.1=some .free)))
theorem rm.get{fr:List (Option Nat)}{N' N:List Str}{sc scX:Scope}(h:rm fr N' N sc scX=true):fr.length=N'.length/\∀(i j:Nat),fr[i]?=some (some j)->∃x,N'[i]?=some x/\N[j]?=some x/\sc.names.lookup x=some .free/\(scX.names.lookup x=some .cell\/scX.names.lookup x=some .free):=by
 unfold rm at h;obtain⟨h1,h2⟩:=Bv.mp h;refine⟨of_decide_eq_true h1,fun i j e=>?_⟩;have hi:i<fr.length:=(BG.mp e).1;have q:=Ds.mp h2 i (CT.mpr hi);rw[e]at q;dsimp only at q
 cases en:N'[i]? with
 | none=>rw[en]at q;cases q
 | some x =>
   rw[en]at q;dsimp only at q;obtain⟨q1,q2⟩:=Bv.mp q;obtain⟨q3,q4⟩:=Bv.mp q1;exact⟨x,rfl,of_decide_eq_true q3,of_decide_eq_true q4,(B1.mp q2).imp of_decide_eq_true of_decide_eq_true⟩
theorem jJ{k:DZ}:∀{names:List (Str×DZ)},names.lookup x=some k->(x,k)∈names:=fun h=>Cb h
structure CompA where
 cl:List (Str×Addr)
 fp:List Addr
 pn:List (Addr×Obj)
 s:Bp
 H:Hp
abbrev blk(X:Cx)(N':List Str)(scope:Scope)(y:CompA):Cx:=aH X N' scope y.cl y.fp y.pn y.s y.H
noncomputable def sT(wi:TI)(fr:List (Option Nat))(g:CompA->TG)(tt:CompA->TT)(te:CompA->TE):TE:=fun σ H Q=>wi σ H fun J H1=>∀D,H1 D=none->∃Wv:Nat->Nat->List V->St->Hp->Prop,(∃m,Wv 0 m [] (l7 fr σ) (upd H1 D (.lst []))) /\
 ∀ (z:CompA) i m acc σc H,Wv i m acc σc H->(J.stop i H/\Q (.ref D) H)\/(J.go i H/\∀x H',J.yld i H x H'->g z x σc H' fun σ2 H2=>tt z σ2 H2 fun b H3 =>
   if b=true then te z σ2 H3 fun y H4=>H4 D=some (.lst acc)/\acc.length<sizeLine/\∃m',m'<m/\Wv (i+1) m' (acc++[y]) σ2 (upd H4 D (.lst (acc++[y])))else ∃m',m'<m/\Wv (i+1) m' acc σ2 H3)
theorem cZ{env:Env}:∀{names:List (Str×DZ)}{x:Str},names.lookup x=some .free ->
 (names.map fun(n,k)=>if(k==B6&&env.scope.kind == .function&&env.kindOf n==some .cell)then(n,CQ)else(n,k)).lookup x=some .cell \/
 (names.map fun(n,k)=>if(k==B6&&env.scope.kind == .function&&env.kindOf n==some .cell)then(n,CQ)else(n,k)).lookup x=some .free
 | [],_,h=>by simp at h
 | (n,k)::r,x,h=>by
   have ih:=@cZ env r x;rw[BM];dsimp only
   cases hx:x==n with
   | true =>
     simp only[B9,hx]at h;cases h;by_cases hc:((B6==B6)&&env.scope.kind == .function&&env.kindOf n==some .cell)=true
     · rw[if_pos hc];simp[B9,hx]
     · rw[if_neg hc];simp[B9,hx]
   | false =>
     simp only[B9,hx]at h;by_cases hc:(k==B6&&env.scope.kind == .function&&env.kindOf n==some .cell)=true
     · rw[if_pos hc];simp only[B9,hx];exact ih h
     · rw[if_neg hc];simp only[B9,hx];exact ih h
theorem dM{ex:Expr}{H3:Hp}{s3:Bp}{it D:Addr}{tn:Nat->Heap->Prop}{J:It}{Q:VK}
 (N':List Str)(fr:List (Option Nat))(hc:X.calm=true)(hkind:scope.kind = .function)(hcell:∀y∈scope.names,y.2 = .cell->scope.names.lookup y.1=some .cell)
 (hfree:∀y∈scope.names,y.2 = .free->X.env.kindOf y.1=some .cell\/X.env.kindOf y.1=some .free)(frl:fr.length=N'.length)
 (frg:∀(i j:Nat),fr[i]?=some (some j)->∃x,N'[i]?=some x/\X.N[j]?=some x/\scope.names.lookup x=some .free/\(X.env.scope.names.lookup x=some .cell\/X.env.scope.names.lookup x=some .free))
 (cl1:∀x c,cl.lookup x=some c->X.env.cells.lookup x=some c)(cl2:∀x,(x,B6)∈scope.names->(cl.lookup x).isSome=true)
 (I3:Inv X pins σ H3 s3)(T:Turn X.prog X.w X.K tg J fp it tn)(tn3:tn 0 s3.heap)(fpD:∀b∈fp,H3 b=none)(fp3:∀b∈fp,b<s3.heap.objs.size)
 (fpk:∀b∈fp,b≠X.env.locals/\b∉X.fs/\(b∈X.ex\/X.s₀.heap.objs.size<=b)/\(∀x c,X.env.cells.lookup x=some c->c≠b)/\∀p∈X.pn++pins,p.1≠b)
 (loop:∀s',Inv (aH X N' scope cl fp (X.pn++pins) s3 H3) [] (l7 fr σ) H3 s'->tn 0 s'.heap->(∀{H':Hp},(∀b∈fp,H' b=none)->∀b∈fp,jW (aH X N' scope cl fp (X.pn++pins) s3 H3) [] H' b) ->
  DX (BY X.prog X.w) X.A (.compStart ex 0 (.ref it) (.ref D) (aH X N' scope cl fp (X.pn++pins) s3 H3).env) (fun r s5=>r = .ok .next/\∃σ5 H4,Inv (aH X N' scope cl fp (X.pn++pins) s3 H3) [] σ5 H4 s5/\Q (.ref D) H4) s')
 (fin:∀s5 H4 m,s5.heap.Ns s3.heap.objs.size m->(∀h',DA s3.heap.objs.size s5.heap h'->Inv X pins σ H4 {s5 with heap:=h' })->jW X pins H4 s3.heap.objs.size->Q (.ref D) H4->Rp s3.heap.objs.size (.ok .next) s5) :
 BS (BY X.prog X.w) X.A (Ea scope X.env.globals cl [] X.env.qual none .none (some X.env)) (fun cenv s₄ =>
  DX (BY X.prog X.w) X.A (.compStart ex 0 (.ref it) (.ref D) {cenv with scope:=G4 scope X.env})
   (Rp cenv.locals) s₄) X.xe s3:=by
 refine il ?_;have ok:=cellsFrom_ok scope.names (s3.heap.push {cls:=.type "dict", data:=.dict #[]}) (s3.heap.objs.size+1) [] ⟨fun _ _ hm=>(nomatch hm),List.Pairwise.nil⟩ (by rw[F_];exact By _);rw[F_]at ok;have kp:∀b o,s3.heap.get? b=some o->(GW (s3.heap.push {cls:=.type "dict", data:=.dict #[]}) scope.names).get? b=some o:=fun b o e=>pushCells_keeps _ _ b o (Bn _ e);have hns₁:(GW (s3.heap.push {cls:=.type "dict", data:=.dict #[]}) scope.names).Ns s3.heap.objs.size (fun _=>none):=(Heap.Ns.new s3.heap (.type "dict")).keeps (pushCells_keeps _ _);generalize GW (s3.heap.push {cls:=.type "dict", data:=.dict #[]}) scope.names=h₁ at ok kp hns₁ ⊢
 have cs:∀x c,(Cw (s3.heap.objs.size+1) scope.names cl).lookup x=some c->(Cw (s3.heap.objs.size+1) scope.names []).lookup x=some c\/cl.lookup x=some c:=fun x c e=>by
  rw[aN,cU]at e
  cases q:(Cw (s3.heap.objs.size+1) scope.names []).lookup x with
  | none=>rw[q]at e;exact .inr (by simpa using e)
  | some c'=>rw[q]at e;exact .inl (by simpa using e)
 have own:∀x c,(Cw (s3.heap.objs.size+1) scope.names []).lookup x=some c->h₁.IsCell c none/\s3.heap.objs.size+1<=c:=fun x c e=>ok.empty x c (Cb e)
 have clt:∀x c,cl.lookup x=some c->c<s3.heap.objs.size:=fun x c e=>by
  obtain⟨v,o,ho,_⟩:=I3.cell x c (cl1 x c e);exact Bx ho
 have frn:∀x,scope.names.lookup x=some .free->(Cw (s3.heap.objs.size+1) scope.names []).lookup x=none:=fun x e=>by
  cases q:(Cw (s3.heap.objs.size+1) scope.names []).lookup x with
  | none=>rfl
  | some c =>
    have:=hcell (x,.cell) (bY (Cb q)) rfl;rw[e]at this;cases this
 have notC:∀b o,s3.heap.get? b=some o->b≠s3.heap.objs.size:=fun b o e=>BV (Bx e);have fpstk:∀b∈fp,b∉frs X.stack:=fun b hb z=>(BL.mp (I3.stkSub b z)).elim (fpk b hb).1 (fpk b hb).2.1;have cellK:∀c v,s3.heap.IsCell c v->h₁.IsCell c v:=fun c v ⟨o,ho,hd⟩=>⟨o,kp c o ho,hd⟩
 have IY:Inv (aH X N' scope cl fp (X.pn++pins) s3 H3) [] (l7 fr σ) H3 {s3 with heap:=h₁}:=by
  refine⟨⟨I3.ok.mod,hkind,I3.ok.glob,I3.ok.blt,By _,fun x y c e1 e2=>?_,fun x hx=>?_,fun x c _ e=>?_,I3.ok.hd,I3.ok.frames,.inl rfl,
   fun b hb=>⟨BV (fp3 b hb),fun x c e=>?_⟩,I3.bs,CC I3.ok.bsz I3.sz,fun b o e hb=>?_,fun b hb=>fpstk b hb,I3.stack,I3.stkFree⟩,
   rfl,I3.bare,Un.kept kp,⟨_,hns₁,fun i x v e1 e2 e3=>?_⟩,fun x c e=>?_,I3.hok.fresh (By _),fun x c e=>?_,fun p hp=>?_,I3.hok.kept kp,?_⟩
  · rcases cs x c e1 with q1|q1<;>rcases cs y c e2 with q2|q2
    · exact name_of_addr ok.apart (Cb q1) (Cb q2)
    · exact absurd (Bq (clt y c q2) (DL (own x c q1).2)) (CP _)
    · exact absurd (Bq (clt x c q1) (DL (own y c q2).2)) (CP _)
    · exact I3.ok.inj x y c (cl1 x c q1) (cl1 y c q2)
  · refine CJ.mp ?_;show((Cw (s3.heap.objs.size+1) scope.names cl).lookup x).isSome=true;rcases gv hx with q|q
    · exact W.cellsFrom_some _ _ _ (.inr (cl2 x q))
    · exact W.cellsFrom_some _ _ _ (.inl (hcell _ q rfl))
  · rename_i hfn;rcases cs x c e with q|q
    · have:=(own x c q).2;show s3.heap.objs.size<=c;omega
    · have hfn:(scope.names.lookup x==some CQ)=true:=hfn;have hl:scope.names.lookup x=some .cell:=by simpa using hfn
      obtain⟨c',ec'⟩:=CJ.mp (W.cellsFrom_some scope.names (s3.heap.objs.size+1) [] (.inl hl));have e':(Cw (s3.heap.objs.size+1) scope.names cl).lookup x=some c:=e;rw[aN,cU,ec']at e';simp at e';subst e';exact DL (own x c' ec').2
  · rcases cs x c e with q|q
    · exact fun z=>absurd (Bq (fp3 b hb) (DL (by rw[<- z];exact(own x c q).2))) (CP _)
    · exact(fpk b hb).2.2.2.1 x c (cl1 x c q)
  · rcases(fpk b hb).2.2.1 with z|z
    · exact I3.ok.noex b o e z
    · exact absurd (Bq (Bx e) (CC I3.ok.bsz z)) (CP _)
  · have e2':(fr[i]?).map (fun o=>o.bind fun j=>(σ[j]?).join)=some (some v):=by unfold l7 at e2;rw[Cd]at e2;exact e2
    cases ef:fr[i]? with
    | none=>rw[ef]at e2';cases e2'
    | some o =>
      cases o with
      | none=>rw[ef]at e2';cases e2'
      | some j =>
        rw[ef]at e2';have e3':(σ[j]?).join=some v:=BW e2'
        have e4:σ[j]?=some (some v):=by
         cases q:σ[j]? with
         | none=>rw[q]at e3';cases e3'
         | some z=>rw[q]at e3';cases e3';rfl
        obtain⟨x',n1,n2,n3,n4⟩:=frg i j ef;have ex:x'=x:=BW (n1.symm.trans e1);subst ex;obtain⟨m,hn,hl⟩:=I3.loc;obtain⟨u,ru,lk⟩:=hl j x' v n2 e4 (n4.elim (fun z=>.inr (.inl z)) fun z=>.inr (.inr z));refine⟨u,ru,?_⟩;rcases lk with⟨kl,_⟩|⟨_,c,ec,hcl⟩
        · exact absurd (show X.env.scope.names.lookup x'=some .local from kl) (by rcases n4 with z|z<;>rw[z]<;>decide)
        · obtain⟨c',ec'⟩:=CJ.mp (cl2 x' (jJ n3));have:=cl1 x' c' ec';rw[ec]at this;cases this;refine .inr ⟨cZ n3,c,?_,cellK _ _ hcl⟩;show(Cw (s3.heap.objs.size+1) scope.names cl).lookup x'=some c;rw[aN,cU,frn x' n3];simpa using ec'
  · rcases cs x c e with q|q
    · exact⟨_,(own x c q).1⟩
    · obtain⟨v,z⟩:=I3.cell x c (cl1 x c q);exact⟨v,cellK _ _ z⟩
  · rcases cs x c e with q|q
    · exact I3.hok.fresh (by have:=(own x c q).2;omega)
    · exact I3.freeC x c (cl1 x c q)
  · rw[DB]at hp;obtain⟨e,n,ne,nf,d⟩:=I3.pin p hp;exact⟨kp _ _ e,n,notC _ _ e,fun z=>(BL.mp (I3.stkSub p.1 z)).elim ne nf,d⟩
  · unfold l7;rw[Bu];exact frl
 have stat:∀{H':Hp},(∀b∈fp,H' b=none)->∀b∈fp,jW (aH X N' scope cl fp (X.pn++pins) s3 H3) [] H' b:=fun hn b hb =>
  ⟨hn b hb,BV (fp3 b hb),fpstk b hb,.inl hb,fun x c e=>(by
   rcases cs x c e with q|q
   · exact fun z=>absurd (Bq (fp3 b hb) (DL (by rw[<- z];exact(own x c q).2))) (CP _)
   · exact(fpk b hb).2.2.2.1 x c (cl1 x c q)),fun p hp=>by rw[DB]at hp;exact(fpk b hb).2.2.2.2 p hp⟩
 refine Fv (loop _ IY (T.keep _ _ _ tn3 fun b _ o e=>kp b o e) stat) fun r s5 ⟨hr,σ5,H4,I5,qn⟩=>?_;subst hr;obtain⟨m,hn,_⟩:=I5.loc;refine fin s5 H4 m hn (fun h' hs'=>?_) (I3.fpOk (By _) I5.free) qn;have k':∀b o,b≠s3.heap.objs.size->s5.heap.get? b=some o->h'.get? b=some o:=fun b o nb e=>hs'.extBut b o nb e;have u5:Un (frs X.stack) fp H3 H4 s3.heap s5.heap:=I5.base
 have un:Un (frs X.stack) fp H3 H4 s3.heap h' :=
  ⟨fun b o e n hb hx=>k' b o (notC b o e) (u5.keep b o e n hb hx),fun b o e n hb hx=>by obtain⟨sl,q⟩:=u5.slot b o e n hb hx;exact⟨sl,k' b _ (notC b o e) q⟩,u5.free,
   fun b o e hx=>by obtain⟨o',q⟩:=u5.there b o e hx;exact⟨o',k' b _ (notC b o e) q⟩,u5.tups,u5.frzs,u5.tbls⟩
 have nC:H4 s3.heap.objs.size=none:=I5.free
 have hok':Bb X.prog X.w H4 h':=fun b u e=>(I5.hok b u e).stay (fun c v hcv q=>k' c v (by
  rintro rfl;rcases hcv with z|z
  · rw[<- z]at e;rw[nC]at e;cases e
  · rw[nC]at z;cases z) q) (fun _ q=>q) fun _ _ q=>q
 obtain⟨hh,g5,d5,t5,os5⟩:=s5;have os':os5=s3.os:=I5.os;subst os';have I':=Inv.call (s:=s3) (h':=h') (g':=g5) (d':=d5) (t':=t5) (ch:=fp) I3 un hok' I5.bare (fun b hb=>⟨(fpk b hb).2.2.1,(fpk b hb).1,(fpk b hb).2.2.2.1,(fpk b hb).2.2.2.2⟩);exact I'
theorem jP{elt:Expr}{g:TG}{tt:TT}{te:TE}{H3:Hp}{s3:Bp}{it D:Addr}{tn:Nat->Heap->Prop}{J:It}{Q:VK}
 (N':List Str)(fr:List (Option Nat))(hc:X.calm=true)(hkind:scope.kind = .function)(hcell:∀y∈scope.names,y.2 = .cell->scope.names.lookup y.1=some .cell)
 (hfree:∀y∈scope.names,y.2 = .free->X.env.kindOf y.1=some .cell\/X.env.kindOf y.1=some .free)(frl:fr.length=N'.length)
 (frg:∀(i j:Nat),fr[i]?=some (some j)->∃x,N'[i]?=some x/\X.N[j]?=some x/\scope.names.lookup x=some .free/\(X.env.scope.names.lookup x=some .cell\/X.env.scope.names.lookup x=some .free))
 (cl1:∀x c,cl.lookup x=some c->X.env.cells.lookup x=some c)(cl2:∀x,(x,B6)∈scope.names->(cl.lookup x).isSome=true)
 (I3:Inv X pins σ H3 s3)(T:Turn X.prog X.w X.K tg J fp it tn)(tn3:tn 0 s3.heap)(fpD:∀b∈fp,H3 b=none)(fp3:∀b∈fp,b<s3.heap.objs.size)
 (fpk:∀b∈fp,b≠X.env.locals/\b∉X.fs/\(b∈X.ex\/X.s₀.heap.objs.size<=b)/\(∀x c,X.env.cells.lookup x=some c->c≠b)/\∀p∈X.pn++pins,p.1≠b)
 (hg:PG (aH X N' scope cl fp (X.pn++pins) s3 H3) tg g)(ht:AT (aH X N' scope cl fp (X.pn++pins) s3 H3) ifs tt)(he:PE (aH X N' scope cl fp (X.pn++pins) s3 H3) elt te)
 {Wv:Nat->Nat->List V->St->Hp->Prop}{m0:Nat}(w0:Wv 0 m0 [] (l7 fr σ) H3)
 (turn:∀i m acc σc H,Wv i m acc σc H->(J.stop i H/\Q (.ref D) H)\/(J.go i H/\∀x H',J.yld i H x H'->g x σc H' fun σ2 H2=>tt σ2 H2 fun b H3 =>
  if b=true then te σ2 H3 fun y H4=>H4 D=some (.lst acc)/\acc.length<sizeLine/\∃m',m'<m/\Wv (i+1) m' (acc++[y]) σ2 (upd H4 D (.lst (acc++[y])))else ∃m',m'<m/\Wv (i+1) m' acc σ2 H3))
 (fin:∀s5 H4 m,s5.heap.Ns s3.heap.objs.size m->(∀h',DA s3.heap.objs.size s5.heap h'->Inv X pins σ H4 {s5 with heap:=h' })->jW X pins H4 s3.heap.objs.size->Q (.ref D) H4->Rp s3.heap.objs.size (.ok .next) s5) :
 BS (BY X.prog X.w) X.A (Ea scope X.env.globals cl [] X.env.qual none .none (some X.env)) (fun cenv s₄ =>
  DX (BY X.prog X.w) X.A (.compStart (.ListComp elt [⟨tg,iter,ifs,0⟩] scope pos) 0 (.ref it) (.ref D) {cenv with scope:=G4 scope X.env})
   (Rp cenv.locals) s₄) X.xe s3:=by
 refine dM N' fr hc hkind hcell hfree frl frg cl1 cl2 I3 T tn3 fpD fp3 fpk (fun s' IY tY stat=>?_) fin
 have loop:DX (BY X.prog X.w) X.A (.compLoop (.ListComp elt [⟨tg,iter,ifs,0⟩] scope pos) 0 (.ref it) (.ref D) (aH X N' scope cl fp (X.pn++pins) s3 H3).env)
  (fun r s5=>r = .ok .next/\∃σ5 H4,Inv (aH X N' scope cl fp (X.pn++pins) s3 H3) [] σ5 H4 s5/\Q (.ref D) H4) s':=by
  refine mx (fun n s'=>∃i acc σ' H',Inv (aH X N' scope cl fp (X.pn++pins) s3 H3) [] σ' H' s'/\tn i s'.heap/\(∀b∈fp,H' b=none)/\Wv i n acc σ' H') ?_ m0
   ⟨0,[],_,_,IY,tY,fpD,w0⟩
  rintro n s4 ⟨i,acc,σ4,H4,I4,st4,fr4,w4⟩;rcases turn i n acc σ4 H4 w4 with⟨stop,qn⟩|⟨go,step⟩
  · exact zr (T.done (aH X N' scope cl fp (X.pn++pins) s3 H3) rfl rfl rfl hc i [] s4 σ4 H4 (fun _ _=>False) I4 (stat fr4) st4 stop) fun r s5 ⟨hr,I5⟩=>.inl ⟨hr,rfl,σ4,H4,I5,qn⟩
  · refine zr (T.item (aH X N' scope cl fp (X.pn++pins) s3 H3) rfl rfl rfl hc i [] s4 σ4 H4 (fun _ _=>False) I4 (stat fr4) st4 go) fun r s5 ⟨u,hr,h5⟩=>.inr ⟨u,hr,?_⟩;refine zr h5 fun _ s6 ⟨x,H6,I6,r6,y6,st6,fr6⟩=>?_;have I6':=I6.pinned (stat fr6) (T.obj _ _ st6)
    have again:∀{σ7:St}{H7:Hp}{s7:Bp},Inv (aH X N' scope cl fp (X.pn++pins) s3 H3) ([]++el fp s6.heap) σ7 H7 s7->∀{acc':List V}{m':Nat},m'<n->Wv (i+1) m' acc' σ7 H7 ->
     ∃m,m<n/\∃i acc σ' H',Inv (aH X N' scope cl fp (X.pn++pins) s3 H3) [] σ' H' s7/\tn i s7.heap/\(∀b∈fp,H' b=none)/\Wv i m acc σ' H':=fun{σ7 H7 s7} I7 {acc' m'} hm w7=>by
     refine⟨m',hm,i+1,acc',σ7,H7,I7.unpinned,T.keep _ _ _ st6 fun b hb o e=>(I7.pin (b,o) (BP _ (BP _ (br hb e)))).1,fun b hb=>?_,w7⟩;obtain⟨o,e,d⟩:=T.obj _ _ st6 b hb;exact(I7.pin (b,o) (BP _ (BP _ (br hb e)))).2.1
    refine zr (hg _ s6 σ4 H6 x u _ I6' r6 (step x H6 y6)) fun _ s7 ⟨σ7,H7,I7,q7⟩=>?_;refine zr (ht _ s7 σ7 H7 _ I7 q7) fun ok s8 ⟨H8,I8,q8⟩=>?_
    cases ok with
    | false =>
      rw[if_neg BO]at q8 ⊢;obtain⟨m',hm,w8⟩:=q8
      exact again I8 hm w8
    | true =>
      rw[if_pos rfl]at q8 ⊢;refine zr (he _ s8 σ7 H8 _ I8 q8) fun y s9 ⟨yv,H9,I9,r9,eD,hl,m',hm,w9⟩=>?_
      exact zr (lv (X:=aH X N' scope cl fp (X.pn++pins) s3 H3) _ s9 σ7 H9 (.ref D) [yv] (.ref D) [y] (fun _ H'=>H'=upd H9 D (.lst (acc++[yv]))) I9 rfl (.cons r9 .nil) ⟨D,acc,yv,rfl,rfl,eD,hl,rfl⟩)
       fun _ s10 ⟨_,H10,I10,_,e10⟩=>by subst e10;exact again I10 hm w9
 exact codeAny_compStart_list loop (T.self X.A 0 _ _ _ tY loop)
section
variable{X:Cx}{elt tg iter:Expr}{ifs:List Expr}{scope:Scope}{pos:Pos}{wi:TI}{g:CompA->TG}{tt:CompA->TT}{te:CompA->TE}
theorem nI(N':List Str)(fr:List (Option Nat))(hc:X.calm=true)(hi:PI X tg iter wi)(hfr:rm fr N' X.N scope X.env.scope=true)(hsc:sZ scope X.env.scope=true)
 (hg:∀y,PG (blk X N' scope y) tg (g y))(ht:∀y,AT (blk X N' scope y) ifs (tt y))(he:∀y,PE (blk X N' scope y) elt (te y))
 (hs:autoParam (∀x,C0 iter X.env x=pure x) æc._auto_1):PE X (.ListComp elt [⟨tg,iter,ifs,0⟩] scope pos) (sT wi fr g tt te):=by
 intro pins s σ H Q I h;obtain⟨sk,sn⟩:=Bv.mp hsc;have hkind:scope.kind = .function:=of_decide_eq_true sk;have hall:=Ds.mp sn
 have hcell:∀y∈scope.names,y.2 = .cell->scope.names.lookup y.1=some .cell:=fun y hy hl=>by
  rcases B1.mp (Bv.mp (Bv.mp (hall y hy)).1).1 with z|z
  · exact absurd hl (of_decide_eq_true z)
  · exact of_decide_eq_true z
 have hnames:∀y∈scope.names,y.2 = .local->scope.names.lookup y.1=some .local:=fun y hy hl=>by
  rcases B1.mp (Bv.mp (Bv.mp (hall y hy)).1).2 with z|z
  · exact absurd hl (of_decide_eq_true z)
  · exact of_decide_eq_true z
 have hfree:∀y∈scope.names,y.2 = .free->X.env.kindOf y.1=some .cell\/X.env.kindOf y.1=some .free:=fun y hy hl=>by
  rcases B1.mp (Bv.mp (hall y hy)).2 with z|z
  · exact absurd hl (of_decide_eq_true z)
  · exact(B1.mp z).imp of_decide_eq_true of_decide_eq_true
 obtain⟨frl,frg⟩:=rm.get hfr;obtain⟨cl,hclos,cl1,cl2⟩:=cA (env:=X.env) (scope:=scope) fun y hy hl=>I.ok.has y.1 (hfree y hy hl);rw[eval_ListComp];refine DS (use:=none) rfl hs hclos hkind hnames (zr (hi pins s σ H _ I h) fun v s1 h1=>zr h1 fun itv s2 h2=>?_);obtain⟨it,fp,tn,J,H2,e,I2,T,st2,f2,q2⟩:=h2;subst e;refine CZ ?_;have hD:H2 s2.heap.objs.size=none:=I2.hok.fresh (By _)
 have I3:Inv X pins σ (upd H2 s2.heap.objs.size (.lst [])) {s2 with heap:=s2.heap.push {cls:=.type "list", data:=.seq ([]:List Bo).toArray}} :=
  I2.laid (t':=s2.toks) (fun b u e=>Bn _ e) (By _) ⟨by show 0<=sizeLine;exact B7 _,[],0,.nil,BJ _ rfl⟩
 obtain⟨Wv,⟨m0,w0⟩,turn⟩:=q2 _ hD;have tn3:tn 0 (s2.heap.push {cls:=.type "list", data:=.seq ([]:List Bo).toArray}):=T.keep _ _ _ st2 fun b _ o e=>Bn _ e
 have fpD:∀b∈fp,(upd H2 s2.heap.objs.size (.lst [])) b=none:=fun b hb=>by
  obtain⟨o,e,_⟩:=T.obj _ _ st2 b hb;rw[upd_ne (BV (Bx e))];exact(f2 b hb).1
 have fp3:∀b∈fp,b<(s2.heap.push {cls:=.type "list", data:=.seq ([]:List Bo).toArray}).objs.size:=fun b hb=>by
  obtain⟨o,e,_⟩:=T.obj _ _ tn3 b hb;exact Bx e
 exact jP N' fr hc hkind hcell hfree frl frg cl1 cl2 I3 T tn3 fpD fp3 (fun b hb=>(f2 b hb).2) (hg ⟨cl,fp,X.pn++pins,_,_⟩) (ht ⟨cl,fp,X.pn++pins,_,_⟩) (he ⟨cl,fp,X.pn++pins,_,_⟩) w0 (turn ⟨cl,fp,X.pn++pins,_,_⟩)
  (Rp:=compPost (BY X.prog X.w) X.A X.xe none (EP X pins σ Q) (.ref s2.heap.objs.size)) fun s5 H4 m hn k _ qn=>⟨m,hn,fun h' hs'=>⟨.ref _,H4,k h' hs',rfl,qn⟩⟩
end
end L2
namespace L2.VL
noncomputable def W.cap:W->Option W
 | .d x=>some (.d x)
 | .reel=>some .reel
 | .vv u=>some (.vv u)
 | .sc ns=>some (.sc ns)
 | .fd kvs=>some (.fd kvs)
 | .xr kvs=>some (.xr kvs)
 | .fw kvs=>some (.fw kvs)
 | .ft kvs=>some (.ft kvs)
 | .xc x fs=>some (.xc x fs)
 | .dp kvs x=>some (.dp kvs x)
 | _=>none
noncomputable def fR(fr:List (Option Nat))(ρ:En):En:=fr.map fun o=>o.bind fun j=>((ρ[j]?).join).bind W.cap
noncomputable def uO(X:Cx)(rl:Option Addr)(ifs:List Expr)(f:TB):Prop:=∃t,AT X ifs t/\∀{F₀ H₀ F H:Hp}{σ:St}{ρ:En},VR X.K rl F₀ H₀ F H σ ρ->∀(Qd:Bool->Prop)(Q:Bool->Hp->Prop),f ρ Qd ->
 (∀b F' H',Grow rl F H F' H'->Qd b->Q b H')->t σ H Q
theorem di:uO X rl [] (fun _ Q=>Q true):=⟨_,qr,fun R Qd Q q k=>k true _ _ (Grow.refl R.sub R.reel) q⟩
theorem dg{fr:List (Option Nat)}(h:(fR fr ρ)[i]?=some (some w)):∃j w',fr[i]?=some (some j)/\ρ[j]?=some (some w')/\w'.cap=some w:=by
 unfold fR at h;rw[Cd]at h
 cases ef:fr[i]? with
 | none=>rw[ef]at h;cases h
 | some o =>
   cases o with
   | none=>rw[ef]at h;cases h
   | some j =>
     rw[ef]at h;have h':((ρ[j]?).join).bind W.cap=some w:=BW h
     cases q:ρ[j]? with
     | none=>rw[q]at h';cases h'
     | some o =>
       cases o with
       | none=>rw[q]at h';cases h'
       | some w'=>rw[q]at h';exact⟨j,w',rfl,q,h'⟩
theorem jl{w':W}(h:w'.cap=some w):w=w'/\w.own=false/\∀xs,w ≠ .pk xs:=by
 cases w'<;>cases h<;>exact⟨rfl,rfl,(fun _ z=>by cases z)⟩
theorem iI{K:W.Frag}{fr:List (Option Nat)}(R:VR K rl F₀ H₀ F H σ ρ)(g:Grow rl F H F H'):VR K rl F H F H' (l7 fr σ) (fR fr ρ):=by
 refine⟨g,fun i w e=>?_,fun i j xs ys v _ e1 _ o1 _ _ _=>?_,fun i xs e=>?_,by simp[l7,fR]⟩
 · obtain⟨j,w',e1,e2,e3⟩:=dg e;obtain⟨rfl,n1,n2⟩:=jl e3;obtain⟨v,s1,r1,_⟩:=R.sl j w e2;refine⟨v,?_,r1.grow g,?_⟩
   · unfold l7;rw[Cd,e1];show some ((σ[j]?).join)=_;rw[s1];rfl
   · cases w with
     | ml xs=>cases n1
     | md xs=>cases n1
     | mk xs=>cases n1
     | xm xs=>cases n1
     | nt _=>trivial
     | lk=>trivial
     | sc _=>trivial
     | fd _=>trivial
     | xr _=>trivial
     | fw _=>trivial
     | ft _=>trivial
     | xc _ _=>trivial
     | dp _ _=>trivial
     | d _=>trivial
     | pk _=>trivial
     | reel=>trivial
     | vv _=>trivial
 · obtain⟨_,_,_,_,e3⟩:=dg e1;rw[(jl e3).2.1]at o1;cases o1
 · obtain⟨_,_,_,_,e3⟩:=dg e;exact absurd rfl ((jl e3).2.2 xs)
theorem eB{fr:List (Option Nat)}:mV (fR fr ρ):=fun i xs e=>by
 obtain⟨_,_,_,_,e3⟩:=dg e;exact(jl e3).2.1
theorem VR.other{K:W.Frag}(R:VR K rl F₀ H₀ F H σ ρ)(n:mV ρ){D:Addr}{o:HO}(h0:H₀ D=none)(f:F D=none)(hr:rl≠some D):VR K rl F₀ H₀ F (upd H D o) σ ρ:=by
 have neF:∀b u,F b=some u->b≠D:=fun b u q z=>by subst z;rw[f]at q;cases q
 have g:Grow rl F₀ H₀ F (upd H D o):=by
  refine⟨fun b o q1 n=>by rw[upd_ne (aw q1 h0)];exact R.g.same b o q1 n,R.g.fs,fun b o q1=>by rw[upd_ne (neF b o q1)];exact R.sub b o q1,R.g.old,fun y z=>?_⟩;obtain⟨z1,⟨u,h1,h2⟩⟩:=R.reel y z;exact⟨z1,⟨u,by rw[upd_ne (fun q=>hr (by rw[<- q];exact z))];exact h1,h2⟩⟩
 refine⟨g,fun i w e=>?_,R.ap,R.np,R.len⟩;obtain⟨v,h1,h2,h3⟩:=R.sl i w e;refine⟨v,h1,?_,h3⟩
 cases w with
 | d x=>exact h2
 | reel=>exact h2
 | vv u=>exact h2
 | ml xs=>cases n i _ e
 | md xs=>cases n i _ e
 | mk xs=>cases n i _ e
 | xm xs=>cases n i _ e
 | nt ds=>exact h2
 | lk=>trivial
 | sc _=>exact h2
 | fd _=>exact h2
 | xr _=>exact h2
 | fw _=>exact h2
 | ft _=>exact h2
 | xc _ _=>exact h2
 | dp _ _=>exact h2
 | pk xs=>exact absurd e (R.np i xs)
section
variable{X:Cx}{rl:Option Addr}{elt tg iter:Expr}{ifs:List Expr}{scope:Scope}{pos:Pos}{fi:En->(List Bl->Prop)->Prop}{g:AJ}{ft:TB}{fe:TV}
end
mutual
def rX:Bl->Prop
 | .none=>True
 | .bool _=>True
 | .int i=>i.natAbs<2^1900
 | .str x=>Bl.strOk x=true
 | .list xs=>dW xs
 | .tuple xs=>dW xs
 | .dict _=>False
def dW:List Bl->Prop
 | []=>True
 | x::xs=>rX x/\dW xs
end
theorem jK{k:Nat}(h:n<2^k)(hk:0<k):n.log2<k:=by
 by_cases h0:n=0
 · subst h0;simpa using hk
 · exact(Nat.log2_lt h0).mpr h
mutual
theorem rX.facts:∀d:Bl,rX d->d.showable=true/\d.canLay0=true/\d.hasDict=false/\d.leavesShort 1921=true
 | .none,_=>⟨rfl,rfl,rfl,rfl⟩
 | .bool _,_=>⟨rfl,rfl,rfl,rfl⟩
 | .int i,h=>by
   have hl:i.natAbs.log2<1920:=jK (Bq (show i.natAbs<2^1900 from h) (BD (by decide) (by decide))) (by decide);refine⟨by simp[EA,hl],rfl,rfl,?_⟩;simp only[D2,decide_eq_true_eq]
   exact int_text_len_1921 hl
 | .str x,h=>by
   refine⟨rfl,(show Eb (.str x)=true by simp only[Eb];exact h),rfl,?_⟩;have h:x.cps.all (· < 0x110000)=true:=h;simp only[D2];rw[Ds];intro c hc;have:=(Array.all_eq_true_iff_forall_mem.mp h) c (by simpa using hc);simp at this ⊢
   omega
 | .list xs,h=>by
   obtain⟨a,b,c,d⟩:=dW.facts xs h
   exact⟨by simpa[EA]using a,by simpa[Eb]using b,by simpa[Bl.hasDict]using c,by simpa[D2]using d⟩
 | .tuple xs,h=>by
   obtain⟨a,b,c,d⟩:=dW.facts xs h
   exact⟨by simpa[EA]using a,by simpa[Eb]using b,by simpa[Bl.hasDict]using c,by simpa[D2]using d⟩
 | .dict _,h=>CI h
theorem dW.facts:∀xs:List Bl,dW xs->Bl.showableAll xs=true/\DK xs=true/\Bl.hasDictAll xs=false/\FC 1921 xs=true
 | [],_=>⟨rfl,rfl,rfl,rfl⟩
 | x::xs,h=>by
   obtain⟨a,b,c,d⟩:=rX.facts x h.1;obtain⟨a',b',c',d'⟩:=dW.facts xs h.2;exact⟨by simp[Bl.showableAll,a,a'],by simp[DK,b,b'],by simp[Bl.hasDictAll,c,c'],by simp[FC,d,d']⟩
end
noncomputable def AO(d:Bl):Prop:=rX d/\d.depth<=60/\d.bulk<=8000
theorem AO.len(h:AO d):d.shown.length<=sizeLine:=by
 have q:=Bl.shown_le_bulk 1921 (by decide) d (rX.facts d h.1).2.2.2;have:=h.2.2;have e:sizeLine=16777216:=by decide
 omega
section
variable{X:Cx}{rl:Option Addr}{a b e:Expr}{es:List Expr}{fa fb fc:TV}{fs:AF}{pos p:Pos}
noncomputable def tq(K:W.Frag):List V->Hp->VK->Prop:=fun xs H Q=>∃x d,xs=[x]/\Rep K H x d/\AO d/\Q (.str d.shown) H
theorem mC(hgd:X.A.guards=some [])(hu:X.A.units+64<FY):ca X (.builtin "repr") (tq X.K):=by
 intro pins s σ H xs us Q I r ⟨x,d,ex,rx,sh,q⟩;subst ex;obtain⟨u,rfl,ru⟩:=vals1 r;have fin:∀tk h' , (∀b o,s.heap.get? b=some o->h'.get? b=some o)->∀t,EP X pins σ Q (.str d.shown t) {s with heap:=h',toks:=tk}:=fun tk h' k t=>⟨.str d.shown,H,I.kept k,⟨t,rfl⟩,q⟩;obtain⟨as,rd⟩:=Rep.reads I (.refl H) rx u ru;have hs:=(rX.facts d sh.1)
 cases rx with
 | non=>cases(show u=Ci from ru);exact P.repr_of_none (fin _ _ (fun _ _ e=>e) _)
 | bl b=>cases(show u=EU b from ru);exact P.repr_of_bool (fin _ _ (fun _ _ e=>e) _)
 | int i =>
   obtain⟨t,e⟩:=(show ∃t,u=Dr i t from ru);cases e
   exact P.repr_of_int (by simpa[EA]using hs.1) (fin _ _ (fun _ _ e=>e) _)
 | str x =>
   obtain⟨t,e⟩:=(show ∃t,u=Gr x t from ru);cases e
   exact P.repr_of_str (fin _ _ (fun _ _ e=>e) _) sh.len
 | tup sq rs =>
   cases(show u=Ce _ from ru)
   exact repr_of_reads' rd hs.1 (Bl.noDict_hsm hs.2.2.1) hgd (by have:=sh.2.1;omega) (fun _ _ e=>e) (fun h' t tk hk=>fin tk h' hk t) sh.len
 | lst sq rs =>
   cases(show u=Ce _ from ru);exact repr_of_reads' rd hs.1 (Bl.noDict_hsm hs.2.2.1) hgd (by have:=sh.2.1;omega) (fun _ _ e=>e) (fun h' t tk hk=>fin tk h' hk t) sh.len
noncomputable def oq:List W->(W->Prop)->Prop:=fun ws Q=>∃w d,ws=[w]/\w.dat=some d/\AO d/\Q (.d (.str d.shown))
theorem pF:dS X rl (tq X.K) oq:=fun{F H vs ws} Qd Q s ra r ⟨w,d,ew,e1,sh,q⟩ k=>by
 subst ew;obtain⟨v,rfl,r1⟩:=jS r;exact⟨v,d,rfl,r1.dat s e1,sh,k _ (.d _) _ _ (Grow.refl s ra) (.str _) trivial q⟩
theorem d6(hr:Room 0 X.A)(hm:X.mg "repr" = none)(ha:AS X rl [e] fs)(hg:autoParam (Gl X "repr") æa._auto_1)(he:autoParam (BF [e] X.env=(false,eval e X.env)::BF [] X.env) æa._auto_1)(hpl:autoParam ((Dj pos (BF [] X.env)).any (·.1)=false) æa._auto_1) :
 PV X rl (.Call (.Name "repr" p) [e] [] pos) (cp oq fs):=bT (mC hr.gd hr.units) pF hm (by first|rfl|exact boot_repr) ha hg (by decide) (by decide) he hpl
noncomputable def zn:Bl->String
 | .none => "NoneType"
 | .bool _ => "bool"
 | .int _ => "int"
 | .str _ => "str"
 | .list _ => "list"
 | .tuple _ => "tuple"
 | .dict _ => "dict"
noncomputable def ja(d:Bl)(T:String):Bool:=zn d==T||(zn d == "bool" && T == "int")
noncomputable def oQ(T:String):Bool:=["int", "bool", "str", "list", "tuple"].contains T
theorem kit_ok{K:W.Frag}(hd:∀kvs,d ≠ .dict kvs)(h:oQ T=true):W.kitOne K (.type (zn d)) (.type T)=some (ja d T):=by
 have h:T = "int" \/ T = "bool" \/ T = "str" \/ T = "list" \/ T = "tuple" := by simpa[oQ]using h
 cases d with
 | dict kvs=>exact absurd rfl (hd kvs)
 | none=>rcases h with rfl|rfl|rfl|rfl|rfl<;>rfl
 | bool b=>rcases h with rfl|rfl|rfl|rfl|rfl<;>rfl
 | int b=>rcases h with rfl|rfl|rfl|rfl|rfl<;>rfl
 | str b=>rcases h with rfl|rfl|rfl|rfl|rfl<;>rfl
 | list b=>rcases h with rfl|rfl|rfl|rfl|rfl<;>rfl
 | tuple b=>rcases h with rfl|rfl|rfl|rfl|rfl<;>rfl
noncomputable def xX(K:W.Frag):List V->Hp->VK->Prop:=fun xs H Q=>∃x d T,xs=[x,.ty T]/\Rep K H x d/\oQ T=true/\Q (.bl (ja d T)) H
theorem oC:ca X (.builtin "isinstance") (xX X.K):=by
 intro pins s σ H xs us Q I r ⟨x,d,T,ex,rx,ok,q⟩;subst ex;obtain⟨u,u2,rfl,ru,ru2⟩:=vals2 r;cases(show u2=Gz T from ru2);have fin:∀tk,EP X pins σ Q (.bool (ja d T)) {s with toks:=tk}:=fun tk=>⟨.bl _,H,I.tok tk,rfl,q⟩;obtain⟨as,rd⟩:=Rep.reads I (.refl H) rx u ru
 cases rd with
 | none=>exact W.kia_one W.kitx_none I.kIn DJ (kit_ok (d:=Bl.none) (fun _ z=>by cases z) ok) (fun z=>nomatch z) fin
 | bool b=>exact W.kia_one W.kitx_bool I.kIn DJ (kit_ok (d:=E5 b) (fun _ z=>by cases z) ok) (fun z=>nomatch z) fin
 | int i t=>exact W.kia_one W.kitx_int I.kIn DJ (kit_ok (d:=B8 i) (fun _ z=>by cases z) ok) (fun z=>nomatch z) fin
 | str y t=>exact W.kia_one W.kitx_str I.kIn DJ (kit_ok (d:=Bl.str y) (fun _ z=>by cases z) ok) (fun z=>nomatch z) fin
 | list h1 h2 h3 h4=>exact W.kia_one W.kitx_list I.kIn ⟨_,h1,h2⟩ (kit_ok (d:=Gj _) (fun _ z=>by cases z) ok) (fun z=>nomatch z) fin
 | tuple h1 h2 h3 h4=>exact W.kia_one W.kitx_tuple I.kIn ⟨_,h1,h2⟩ (kit_ok (d:=CF _) (fun _ z=>by cases z) ok) (fun z=>nomatch z) fin
 | dict h1 h2 h3 h4 h5=>cases rx
noncomputable def uZ:List W->(W->Prop)->Prop:=fun ws Q=>∃w d T,ws=[w,.vv (.ty T)]/\w.dat=some d/\oQ T=true/\Q (.d (.bool (ja d T)))
theorem r_:dS X rl (xX X.K) uZ:=fun{F H vs ws} Qd Q s ra r ⟨w,d,T,ew,e1,ok,q⟩ k=>by
 subst ew;obtain⟨v,u,rfl,r1,r2⟩:=v7 r;cases(show u=V.ty T from r2);exact⟨v,d,T,rfl,r1.dat s e1,ok,k _ (.d _) _ _ (Grow.refl s ra) (.bl _) trivial q⟩
theorem pK(hm:X.mg "isinstance" = none)(ha:AS X rl [a,b] fs)(hg:autoParam (Gl X "isinstance") æa._auto_1)(he:autoParam (BF [a,b] X.env=(false,eval a X.env)::BF [b] X.env) æa._auto_1)(hpl:autoParam ((Dj pos (BF [b] X.env)).any (·.1)=false) æa._auto_1) :
 PV X rl (.Call (.Name "isinstance" p) [a,b] [] pos) (cp uZ fs):=bT oC r_ hm (by first|rfl|exact boot_isinstance) ha hg (by decide) (by decide) he hpl
theorem pI(hm:X.mg "len" = none)(ha:AS X rl [a] fs)(hg:autoParam (Gl X "len") æa._auto_1)(he:autoParam (BF [a] X.env=(false,eval a X.env)::BF [] X.env) æa._auto_1)(hpl:autoParam ((Dj pos (BF [] X.env)).any (·.1)=false) æa._auto_1) :
 PV X rl (.Call (.Name "len" p) [a] [] pos) (cp uY fs):=bT bM r8 hm boot_len ha hg (by decide) (by decide) he hpl
theorem sw(hm:X.mg "abs" = none)(ha:AS X rl [a] fs)(hg:autoParam (Gl X "abs") æa._auto_1)(he:autoParam (BF [a] X.env=(false,eval a X.env)::BF [] X.env) æa._auto_1)(hpl:autoParam ((Dj pos (BF [] X.env)).any (·.1)=false) æa._auto_1) :
 PV X rl (.Call (.Name "abs" p) [a] [] pos) (cp u7 fs):=bT fL se hm (by first|rfl|exact boot_abs) ha hg (by decide) (by decide) he hpl
noncomputable def ul:List W->(W->Prop)->Prop:=fun ws Q=>∃i,ws=[.d (.int i)]/\i.natAbs.log2<1920/\Q (.d (.str (Gx i)))
end
structure FnIn (K:W.Frag) (mg:Str->Option Bo) (x:Str) (st:Stmt) (ps:List Str):Prop where
 ex:∃f fd,mg x=some (.ref f)/\Fun K x x st f fd/\Binds K fd ps []
structure Bz (mg:Str->Option Bo):Prop where
 int_:mg "int" = none
 bool_:mg "bool" = none
 str_:mg "str" = none
 list_:mg "list" = none
 tuple_:mg "tuple" = none
 dict_:mg "dict" = none
 isinstance_:mg "isinstance" = none
 len_:mg "len" = none
 abs_:mg "abs" = none
 repr_:mg "repr" = none
 range_:mg "range" = none
 all_:mg "all" = none
 any_:mg "any" = none
 sum_:mg "sum" = none
 min_:mg "min" = none
 max_:mg "max" = none
 sorted_:mg "sorted" = none
 zip_:mg "zip" = none
 enumerate_:mg "enumerate" = none
 reversed_:mg "reversed" = none
 divmod_:mg "divmod" = none
 set_:mg "set" = none
section
variable{P:BE}{w:B2}{K:W.Frag}{mg:Str->Option Bo}{base:Heap}{rl:Option Addr}{x:Str}{st:Stmt}{N ps:List Str}{k:Nat}{Pd:List W->(Bl->Prop)->Prop}{t:AG}
theorem Dfn.of(Fn:FnIn K mg x st ps)(S:FnScope N ps (defScope st))(mono:∀ws Q Q',(∀d,Q d->Q' d)->Pd ws Q->Pd ws Q')(len:∀ws Q,Pd ws Q->ws.length=ps.length)
 (hbody:∀{f:Addr}(cdv:Bo)(A:BX)(outer:List Env)(s:Bp)(H:Hp)(E:XK),Room k (A.deeper (Fd x (defScope st) s.heap.objs.size f cdv)) ->
  jR (mU Be P w K mg base N x (defScope st) f cdv A outer s H E).nox rl (defBody st) t)
 (hread:∀ws Q,Pd ws Q->t (ng Q) (cc N ws)):Dfn P w K mg base rl x ps (k+1) Pd:=by
 obtain⟨f,fd,hm,F,hb⟩:=Fn.ex;exact⟨mono,f,fd,hm,F.kp,hb,zf F S len hbody hread⟩
end
section
variable{X:Cx}{rl:Option Addr}{e:Expr}{es:List Expr}{fa fb fc:TV}{fs:AF}{pos p:Pos}
end
noncomputable def fg:List W->(Bl->Prop)->Prop:=fun ws Q=>∃m:Int,ws=[.reel,.d (.int m)]/\0<m/\m<2^60/\∀k:Int,0<=k->k<m->Q (.int k)
theorem fg.mono:∀ws (Q Q':Bl->Prop),(∀d,Q d->Q' d)->fg ws Q->fg ws Q':=fun _ _ _ h ⟨m,e,p,z,q⟩=>⟨m,e,p,z,fun k a b=>h _ (q k a b)⟩
theorem fg.len:∀ws (Q:Bl->Prop),fg ws Q->ws.length=2:=fun _ _ ⟨m,e,_⟩=>by subst e;rfl
theorem fz_d(x:Bl):(W.d x).fz = .d x:=rfl
theorem fz_ml(x:List Bl):(W.ml x).fz = .d (.list x):=rfl
theorem fz_pk(x:List Bl):(W.pk x).fz = .pk x:=rfl
theorem fz_reel:W.reel.fz = .reel:=rfl
theorem fz_vv(x:V):(W.vv x).fz = .vv x:=rfl
theorem pk_d(x:Bl):L2.VL.W.peek (.d x) = .d x:=rfl
theorem pk_ml(x:List Bl):L2.VL.W.peek (.ml x) = .pk x:=rfl
theorem pk_reel:L2.VL.W.peek .reel = .reel:=rfl
theorem pk_vv(x:V):L2.VL.W.peek (.vv x) = .vv x:=rfl
theorem dat_d(x:Bl):(W.d x).dat=some x:=rfl
theorem dat_ml(x:List Bl):(W.ml x).dat=some (.list x):=rfl
theorem dat_pk(x:List Bl):(W.pk x).dat=some (.list x):=rfl
theorem isPk_d(x:Bl):(W.d x).isPk=false:=rfl
theorem isPk_ml(x:List Bl):(W.ml x).isPk=false:=rfl
theorem isPk_reel:W.reel.isPk=false:=rfl
theorem dats_nil:dh []=some []:=rfl
theorem dats_d(x:Bl)(r:List W):dh (.d x::r)=(dh r).map (x :: ·):=rfl
theorem arg_d(x:Bl):cX (.d x)=true:=rfl
theorem arg_reel:cX .reel=true:=rfl
theorem item_l(xs:List Bl)(i:Int):L2.VL.itemAt (.list xs) i=L2.atI xs i:=rfl
theorem item_t(xs:List Bl)(i:Int):L2.VL.itemAt (.tuple xs) i=L2.atI xs i:=rfl
theorem len_l(xs:List Bl):qV (.list xs)=some xs.length:=rfl
theorem len_t(xs:List Bl):qV (.tuple xs)=some xs.length:=rfl
theorem at0{α:Type}(x:α)(r:List α):L2.atI (x::r) 0=some x:=by simp[L2.atI,L2.ixN]
theorem at1{α:Type}(x y:α)(r:List α):L2.atI (x::y::r) 1=some y:=by
 have:(1:Int)<((x::y::r).length:Int):=by simp;omega
 simp only[L2.atI,L2.ixN];rw[if_pos (by decide),if_pos this];rfl
theorem cz{x y:Int}(h:y≠0):(x.fmod y).natAbs<y.natAbs:=by
 rcases Int.lt_or_gt_of_ne h with hy|hy
 · have h1:=FE x y
   have e:x.fmod y = -((-x).fmod (-y)):=by
    have:=Int.neg_fmod_neg x y;omega
   have p:0 < -y:=by omega
   have b1:=Co (-x) p;have b2:=Dd (-x) p;omega
 · have b1:=Co x hy;have b2:=Dd x hy;omega
theorem fD(x y:Int):BU y (x.fmod y)=BU x y:=by
 have e:x.fmod y=x+y*(-(x.fdiv y)):=by
  have:=FE x y;rw[Int.mul_neg];omega
 rw[e,Int.gcd_add_mul_left_right];exact Int.gcd_comm y x
theorem eqv_ii(a b:Int):CA (.int a) (.int b)=(a==b):=by simp[CA]
theorem shaped_i(a:Int):CD (.int a)=true:=rfl
theorem shaped_b(a:Bool):CD (.bool a)=true:=rfl
noncomputable def bL(d:Bl):Bool:=ja d "int" && !ja d "bool"
theorem o4:bL d=true↔∃i,d = .int i:=by
 cases d<;>simp[bL,ja,zn]
theorem b9{x y:Int}(h:y≠0)(b:y.natAbs<2^64):(x.fmod y).natAbs<2^64:=GF (cz h) b
theorem cB.of{i j:Int}(h:j≠0)(b:j.natAbs<2^64):cB i j:=⟨h,Bq b (BD (by decide) (by decide))⟩
theorem rg{a:Int}(h:b≠0):0<(BU a b:Int):=by
 have:=Ep a h;omega
theorem uk{a:Int}(h:b≠0):(BU a b)<=b.natAbs:=Nat.le_of_dvd (by omega) (Int.gcd_dvd_natAbs_right a b)
structure Lf (d:Bl):Prop where
 nice:rX d
 dep:d.depth<=2
 wt:d.bulk<=2000
theorem Lf.int{i:Int}(h:i.natAbs<2^1000):Lf (.int i) :=
 ⟨GF h (Nat.pow_lt_pow_right (by decide) (by decide)),by simp[FG],by simp[Bl.bulk]⟩
theorem wF{xs:List α}{k:Int}(h0:0<=k)(h1:k<(xs.length:Int)):∃z,L2.atI xs k=some z/\z∈xs:=by
 obtain⟨n,rfl⟩:=Dq h0;have hn:n<xs.length:=by omega
 exact⟨xs[n],fP (B0 hn),Fe hn⟩
theorem dt{K:W.Frag}{i:Str}(h:Rep K F v (.str i)):v = .str i:=by cases h;rfl
noncomputable def u3(neg:Bool):W->W->(W->Prop)->Prop:=fun x y Q=>∃a b:Str,x = .d (.str a)/\y = .d (.str b)/\Q (.d (.bool (if neg then !decide (a=b)else decide (a=b))))
theorem rZ:AD X rl zO (u3 false):=fun{F H x y wx wy} Qd Q s ra r1 r2 q k=>by
 obtain⟨a,b,rfl,rfl,q⟩:=q;have e1:=dt r1;have e2:=dt r2;subst e1 e2
 have e:decide (V.str a=V.str b)=decide (a=b):=by
  by_cases h:a=b
  · subst h;simp
  · rw[decide_eq_false h,decide_eq_false fun z=>h (by injection z)]
 exact⟨rfl,by rw[e];exact k _ (.d _) _ _ (Grow.refl s ra) (.bl _) trivial q⟩
theorem oG:AD X rl zL (u3 true):=fun{F H x y wx wy} Qd Q s ra r1 r2 q k=>by
 obtain⟨a,b,rfl,rfl,q⟩:=q;have e1:=dt r1;have e2:=dt r2;subst e1 e2
 have e:decide (V.str a=V.str b)=decide (a=b):=by
  by_cases h:a=b
  · subst h;simp
  · rw[decide_eq_false h,decide_eq_false fun z=>h (by injection z)]
 exact⟨rfl,by rw[e];exact k _ (.d _) _ _ (Grow.refl s ra) (.bl _) trivial q⟩
section
variable{P:BE}{w:B2}{K:W.Frag}{mg:Str->Option Bo}{base:Heap}{rl:Option Addr}{x:Str}{st:Stmt}{N ps:List Str}{k:Nat}{Pd:List W->(List Bl->Prop)->Prop}{t:AG}
end
section
variable{X:Cx}{rl:Option Addr}{e:Expr}{es:List Expr}{fs:AF}{pos p:Pos}
noncomputable def vt(Pd:List W->(List Bl->Prop)->Prop)(fs:AF):TV:=fun ρ Q=>fs ρ fun ws=>ws.all cX=true/\Pd ws fun xs=>Q (.ml xs)
theorem qu(X:Cx)(rest:List Stmt):AU X rest (fun D σ H=>∀pins s,Inv X pins σ H s->BS (BY X.prog X.w) X.A (execs rest X.env) (SP X pins D) X.xe s):=fun pins s σ H D I h=>h pins s I
end
theorem oz(h:ns.length<=63):rW (ns.map V.int) none (some 63)=ns.map V.int:=by
 unfold rW;rw[HT.sIx_none]
 have e:HT.sIx (ns.map V.int).length (ns.map V.int).length (some 63)=(ns.map V.int).length:=by
  have:=HT.sIx_nat (ns.map V.int).length (ns.map V.int).length 63;rw[show((63:Nat):Int)=63 from rfl]at this;rw[this,Bu];omega
 rw[e];simp;exact List.take_of_length_le (by simp)
section
variable{X:Cx}{rl:Option Addr}{a b c e:Expr}{es:List Expr}{fa fb fc:TV}{fs:AF}{pos p:Pos}
noncomputable def ee:Bl->Option (List Bl)
 | .list xs=>some xs
 | .tuple xs=>some xs
 | _=>none
theorem seq_l(xs:List Bl):ee (.list xs)=some xs:=rfl
theorem seq_t(xs:List Bl):ee (.tuple xs)=some xs:=rfl
theorem ee.of{o:Option Bl}(h:o=some d)(e:ee d=some xs):o=some (.list xs)\/o=some (.tuple xs):=by
 cases d<;>cases e
 · exact .inl h
 · exact .inr h
noncomputable def om:List W->(W->Prop)->Prop:=fun ws Q=>∃w d xs,ws=[w]/\w.dat=some d/\ee d=some xs/\Q (.d (.tuple xs))
theorem r0:dS X rl (fun xs H Q=>∃p ys,xs=[.ref p]/\((AM X.K H p ys/\∀l,H l=none->Q (.ref l) (upd H l (.tup ys)))\/(AL X.K H p ys/\Q (.ref p) H))) om:=fun{F H vs ws} Qd Q s ra r ⟨w,d,xs,ew,ed1,ed2,q⟩ k=>by
 have ed:=ee.of ed1 ed2;subst ew;obtain⟨v,rfl,r1⟩:=jS r;rcases ed with ed|ed
 · obtain⟨a,us,rfl,sq,rs⟩:=r1.items s ed;refine⟨a,us,rfl,.inl ⟨sq,fun l hl=>?_⟩⟩;have g:=Grow.data (a:=l) (o:=.tup us) s ra hl;exact k _ (.d (.tuple xs)) _ _ g (.tup (.inl (.inl ak)) (rs.mono g.fs)) trivial q
 · cases w with
   | d y =>
     cases ed
     cases(show Rep X.K F v (.tuple xs)from r1)with
     | tup sq rs=>exact⟨_,_,rfl,.inr ⟨cr s sq,k _ (.d (.tuple xs)) _ _ (Grow.refl s ra) (.tup sq rs) trivial q⟩⟩
   | ml ys=>cases ed
   | pk ys=>cases ed
   | reel=>cases ed
   | vv u=>cases ed
   | md u=>cases ed
   | mk u=>cases ed
   | xm u=>cases ed
   | lk=>cases ed
   | sc _=>cases ed
   | fd _=>cases ed
   | xr _=>cases ed
   | fw _=>cases ed
   | ft _=>cases ed
   | xc _ _=>cases ed
   | dp _ _=>cases ed
   | nt ds =>
     cases ed;obtain⟨b,us,rfl,h,q'⟩:=r1;exact⟨_,_,rfl,.inr ⟨.inl (.inl (s _ _ h)),k _ (.d (.tuple xs)) _ _ (Grow.refl s ra) (.tup (.inl (.inl h)) q') trivial q⟩⟩
theorem hG(hm:X.mg "tuple" = none)(ha:AS X rl [a] fs)(hg:autoParam (Gl X "tuple") æa._auto_1)(he:autoParam (BF [a] X.env=(false,eval a X.env)::BF [] X.env) æa._auto_1)(hpl:autoParam ((Dj pos (BF [] X.env)).any (·.1)=false) æa._auto_1) :
 PV X rl (.Call (.Name "tuple" p) [a] [] pos) (cp om fs):=iP fK r0 hm (by rfl) ha hg (by decide) (by decide) he hpl
noncomputable def ut:List W->(W->Prop)->Prop:=fun ws Q=>∃w d xs,ws=[w]/\w.dat=some d/\ee d=some xs/\Q (.ml xs)
noncomputable def vB(i j l:Nat)(fs:AF):AG:=fun D ρ=>fs ρ fun ws=>∃x y z,dh ws=some [x,y,z]/\D.nx (((ρ.set i (some (.d x))).set j (some (.d y))).set l (some (.d z)))
end
section
variable{X:Cx}{rl:Option Addr}
noncomputable def x9:W->W->(W->Prop)->Prop:=fun x y Q=>∃b c,x = .d (.bool b)/\y = .d (.bool c)/\Q (.d (.bool (b==c)))
end
section
variable{X:Cx}{rl:Option Addr}{a b c e:Expr}{es:List Expr}{fa fb fc:TV}{fs:AF}{pos p p2:Pos}
noncomputable def Ar(f:Int->Int->Bl):List W->(W->Prop)->Prop:=fun ws Q=>∃i j,ws=[.d (.int i),.d (.int j)]/\Q (.d (f i j))
theorem sa{f:Int->Int->V}{g:Int->Int->Bl}(h:∀K F i j,Rep K F (f i j) (g i j)):dS X rl (fun xs H Q=>∃i j,xs=[.int i,.int j]/\Q (f i j) H) (Ar g):=fun{F H vs ws} Qd Q s ra r ⟨i,j,ew,q⟩ k=>by
 subst ew;obtain⟨v,u,rfl,r1,r2⟩:=v7 r;have e1:=aM r1;have e2:=aM r2;subst e1 e2;exact⟨i,j,rfl,k _ (.d _) _ _ (Grow.refl s ra) (h _ _ i j) trivial q⟩
theorem sj(hm:X.mg "max" = none)(ha:AS X rl [a,b] fs)(hc:autoParam (X.calm=true) æa._auto_1)(hg:autoParam (Gl X "max") æa._auto_1)(he:autoParam (BF [a,b] X.env=(false,eval a X.env)::BF [b] X.env) æa._auto_1)(hpl:autoParam ((Dj pos (BF [b] X.env)).any (·.1)=false) æa._auto_1) :
 PV X rl (.Call (.Name "max" p) [a,b] [] pos) (cp (Ar fun i j=>.int (max i j)) fs) :=
 bT (mE hc) (sa (f:=fun i j=>.int (if j>i then j else i)) fun _ _ i j=>(show(if j>i then j else i)=max i j by split<;>omega) ▸ .int _) hm (by rfl) ha hg (by decide) (by decide) he hpl
theorem d7(hm:X.mg "min" = none)(ha:AS X rl [a,b] fs)(hc:autoParam (X.calm=true) æa._auto_1)(hg:autoParam (Gl X "min") æa._auto_1)(he:autoParam (BF [a,b] X.env=(false,eval a X.env)::BF [b] X.env) æa._auto_1)(hpl:autoParam ((Dj pos (BF [b] X.env)).any (·.1)=false) æa._auto_1) :
 PV X rl (.Call (.Name "min" p) [a,b] [] pos) (cp (Ar fun i j=>.int (min i j)) fs) :=
 bT (mD hc) (sa (f:=fun i j=>.int (if j<i then j else i)) fun _ _ i j=>(show(if j<i then j else i)=min i j by split<;>omega) ▸ .int _) hm (by rfl) ha hg (by decide) (by decide) he hpl
noncomputable def l4:List W->(W->Prop)->Prop:=fun ws Q=>∃i j,ws=[.d (.int i),.d (.int j)]/\0<j/\j<1073741824/\Q (.d (.tuple [.int (i / j),.int (i%j)]))
noncomputable def uv:List W->(W->Prop)->Prop:=fun ws Q=>(∃i,ws=[.d (.int i)]/\Q (.d (.int i)))\/∃k:Bool,ws=[.d (.bool k)]/\Q (.d (.int (if k then 1 else 0)))
noncomputable def Ai(C:Int->Int->Prop)(f:Int->Int->Int):AI:=fun x y H Q=>∃i j,x = .int i/\y = .int j/\C i j/\Q (.int (f i j)) H
theorem lR:AW X .Add (Ai (fun _ _=>True) fun i j=>i+j):=fun pins s σ H x y v u Q I r1 r2 ⟨i,j,e1,e2,_,q⟩=>uh pins s σ H x y v u Q I r1 r2 ⟨i,j,e1,e2,q⟩
theorem lQ:AW X .Sub (Ai (fun _ _=>True) fun i j=>i-j):=fun pins s σ H x y v u Q I r1 r2 ⟨i,j,e1,e2,_,q⟩=>ug pins s σ H x y v u Q I r1 r2 ⟨i,j,e1,e2,q⟩
noncomputable def vH(i:Nat)(C:Int->Int->Prop)(f:Int->Int->Int)(fa:TV):AG:=fun D ρ=>∃n,ρ[i]?=some (some (.d (.int n)))/\fa ρ fun w=>∃m,w = .d (.int m)/\C n m/\D.nx (ρ.set i (some (.d (.int (f n m)))))
theorem iG(i:Nat){op:GM}{C:Int->Int->Prop}{f:Int->Int->Int}(hN:X.N.Nodup)(ho:AW X op (Ai C f))(he:PV X rl e fa)(hi:autoParam (X.N[i]?=some x) æa._auto_1)(hx:autoParam (Loc X.env.scope x) æd._auto_1)
 (hf:autoParam (X.fn x=true\/X.env.scope.names.lookup x=some .local) æe._auto_1):AV X rl (.AugAssign (.Name x pos') op e pos) (vH i C f fa):=by
 obtain⟨t,p,k⟩:=he;refine⟨_,tK hN hi hx p ho hf,fun R Dv D ok ⟨n,e1,q⟩=>?_⟩;obtain⟨v,s1,r1,_⟩:=R.sl i _ e1;have ev:=aM r1;subst ev;refine⟨_,s1,k R _ _ q fun v w F1 H1 g1 r1 n1 ⟨m,ew,hc,q1⟩=>?_⟩;subst ew;have ev:=aM r1;subst ev;exact⟨n,m,rfl,rfl,hc,ok.nx _ _ _ _ g1.fs (R.set g1 (v:=.int (f n m)) (w:=.d (.int (f n m))) (.int _) trivial (fun _ z=>by cases z) i) q1⟩
noncomputable def cutD(xs:List Bl)(lo hi:Option Int):List Bl:=(xs.drop (HT.sIx xs.length 0 lo)).take (HT.sIx xs.length xs.length hi-HT.sIx xs.length 0 lo)
abbrev AH:=En->(Option Int->Prop)->Prop
noncomputable def zX:AH:=fun _ Q=>Q none
noncomputable def zY(fa:TV):AH:=fun ρ Q=>fa ρ fun w=>∃i,w = .d (.int i)/\Q (some i)
noncomputable def xF(fa:TV)(fl fh:AH):TV:=fun ρ Q=>fa ρ fun w=>fl ρ fun l=>fh ρ fun h=>∃xs,w.dat=some (.list xs)/\Q (.ml (cutD xs l h))
noncomputable def uw:W->W->(W->Prop)->Prop:=fun x y Q=>∃xs ys,x.dat=some (.list xs)/\y.dat=some (.list ys)/\xs.length+ys.length<=sizeLine/\Q (.ml (xs++ys))
noncomputable def oN(p p':Int->Int->Bool)(fa fb fc:TV):TV:=fun ρ Q=>fa ρ fun x=>fb ρ fun y=>∃i j,x = .d (.int i)/\y = .d (.int j) /\
 if p i j=true then fc ρ fun z=>∃k,z = .d (.int k)/\Q (.d (.bool (p' j k)))else Q (.d (.bool false))
theorem pM{op':G6}{p p':Int->Int->Bool}(ho:A2 X (CN op) (zN fun i j=>.bl (p i j)))(ho':A2 X (CN op') (zN fun i j=>.bl (p' i j)))(ha:PV X rl a fa)(hb:PV X rl b fb)(hc:PV X rl c fc)
 (hm:autoParam (lastMarks [op,op'] [b,c]=false) æh._auto_1):PV X rl (.Compare a [op,op'] [b,c] pos) (oN p p' fa fb fc):=by
 obtain⟨t,p1,k1⟩:=ha;obtain⟨t2,p2,k2⟩:=hb;obtain⟨t3,p3,k3⟩:=hc;refine⟨_,nP ho ho' p1 p2 p3 hm,fun R Qd Q q h=>k1 R _ _ q fun v w F1 H1 g1 r1 n1 q1=>k2 (R.grow g1) _ _ q1 fun v2 w2 F2 H2 g2 r2 n2 q2=>?_⟩;obtain⟨i,j,rfl,rfl,q2⟩:=q2;have e1:=aM r1;have e2:=aM r2;subst e1 e2;refine⟨i,j,rfl,rfl,p i j,rfl,?_⟩
 cases hp:p i j with
 | false =>
   rw[hp]at q2;rw[if_neg (by decide)]at q2 ⊢
   exact h _ (.d _) F2 H2 (g1.trans g2) (.bl _) trivial q2
 | true =>
   rw[hp]at q2;rw[if_pos rfl]at q2 ⊢;refine k3 ((R.grow g1).grow g2) _ _ q2 fun v3 w3 F3 H3 g3 r3 n3 ⟨k,ek,q3⟩=>?_;subst ek;have e3:=aM r3;subst e3;exact⟨j,k,rfl,rfl,h _ (.d _) F3 H3 ((g1.trans g2).trans g3) (.bl _) trivial q3⟩
structure GlD (K:W.Frag) (mg:Str->Option Bo) (x:Str) (d:Bl):Prop where
 ex:∃v u,mg x=some u/\RelV v u/\∀F,Rep K F v d
theorem iO(G:GlD X.K X.mg x d)(hg:autoParam (Gl X x) æa._auto_1)(hd:autoParam ((x==("__debug__" : Str))=false) æb._auto_1):PV X rl (.Name x pos) (vC d):=by
 obtain⟨v,u,h1,h2,h3⟩:=G.ex;exact qq h1 h2 h3 hg hd
structure GlK (K:W.Frag) (x:Str) (d:Bl):Prop where
 ex:∃v u,W.nsIn K B4 x=some (some u)/\RelV v u/\∀F,Rep K F v d
theorem GlK.of{K:W.Frag}(k:GlK K x d)(Y:K.In h)(G:h.Ns B4 mg):GlD K mg x d:=by
 obtain⟨v,u,h1,h2,h3⟩:=k.ex;exact⟨v,u,W.mg_of Y G h1,h2,h3⟩
end
end L2.VL
namespace L2
section
variable{X:Cx}{a b:Expr}{ta:TA}{p q pos pos2:Pos}
end
end L2
namespace L2.VL
section
variable{X:Cx}{rl:Option Addr}{a b c e:Expr}{es:List Expr}{fa fb fc:TV}{fs:AF}{pos pos2 p q:Pos}
noncomputable def yl(fs:AF):TV:=fun ρ Q=>fs ρ fun ws=>∃i j:Int,ws=[.d (.int i),.d (.int j)]/\(-(2^62)<=i/\i<2^62 /\ -(2^62)<=j/\j<2^62)/\(j-i).toNat<=2^24/\Q (.ml (aA i (j-i).toNat))
noncomputable def ym(fs:AF):TV:=fun ρ Q=>fs ρ fun ws=>∃j:Int,ws=[.d (.int j)]/\(-(2^62)<=j/\j<2^62)/\j.toNat<=2^24/\Q (.ml (aA 0 j.toNat))
noncomputable def kA(i j:Nat)(fa:TV):AG:=fun D ρ=>∃xs ys,ρ[i]?=some (some (.ml xs))/\ρ[j]?=some (some (.ml ys))/\fa ρ fun w=>∃k y,w = .d (.int k)/\0<=k/\k<(ys.length:Int)/\ys.length<2^62/\ys[k.toNat]?=some y/\xs.length<sizeLine /\
 D.nx ((ρ.set j (some (.ml (ys.eraseIdx k.toNat)))).set i (some (.ml (xs++[y]))))
end
structure Sm (dp bk:Nat) (d:Bl):Prop where
 nice:rX d
 dep:d.depth<=dp
 blk:d.bulk<=bk
theorem eC:∀{xs:List Bl},(∀d∈xs,rX d)->dW xs
 | [],_=>trivial
 | x::xs,h=>⟨h x Bw,eC fun d hd=>h d (Br _ hd)⟩
theorem dI{k:Nat}:∀{xs:List Bl},(∀d∈xs,d.depth<=k)->EB xs<=k+1
 | [],_=>by simp[EB]
 | x::xs,h=>by
   have h1:=h x Bw;have h2:=dI (k:=k) (xs:=xs) fun d hd=>h d (Br _ hd);simp only[EB];omega
theorem eF{k:Nat}:∀{xs:List Bl},(∀d∈xs,d.bulk<=k)->EQ xs<=(k+1)*xs.length
 | [],_=>by simp[EQ]
 | x::xs,h=>by
   have h1:=h x Bw;have h2:=eF (k:=k) (xs:=xs) fun d hd=>h d (Br _ hd);simp only[EQ,CL,Nat.mul_succ];omega
theorem Sm.seq{dp bk:Nat}(h:∀d∈xs,Sm dp bk d)(hl:xs.length<=n):Sm (dp+2) ((bk+1)*n) (.tuple xs)/\Sm (dp+2) ((bk+1)*n) (.list xs):=by
 have a:=eC fun d hd=>(h d hd).nice;have b:=dI fun d hd=>(h d hd).dep;have c:EQ xs<=(bk+1)*n:=CC (eF fun d hd=>(h d hd).blk) (Nat.mul_le_mul_left _ hl);refine⟨⟨a,?_,c⟩,⟨a,?_,c⟩⟩<;>simp only[FG]<;>omega
theorem Sm.shw{dp bk:Nat}(h:Sm dp bk d)(h1:dp<=60)(h2:bk<=8000):AO d:=⟨h.nice,by have:=h.dep;omega,by have:=h.blk;omega⟩
theorem Sm.int{i:Int}(h:i.natAbs<2^1000):Sm 0 0 (.int i):=⟨(Lf.int h).nice,by simp[FG],by simp[Bl.bulk]⟩
theorem Sm.mono{dp bk dp' bk':Nat}(h:Sm dp bk d)(h1:dp<=dp')(h2:bk<=bk'):Sm dp' bk' d:=⟨h.nice,CC h.dep h1,CC h.blk h2⟩
theorem Sm.pair{a:Int}(ha:a.natAbs<2^1000)(hb:b.natAbs<2^1000):Sm 2 2 (.tuple [.int a,.int b]) :=
 (Sm.seq (dp:=0) (bk:=0) (n:=2) (xs:=[.int a,.int b]) (fun d hd=>by
  rcases BL.mp hd with rfl|hd
  · exact Sm.int ha
  · rcases BL.mp hd with rfl|hd
    · exact Sm.int hb
    · cases hd) (By _)).1
end L2.VL
namespace L2
section
variable{X:Cx}{tg e:Expr}{ta te:TE}{p p2 pos:Pos}
end
end L2
namespace L2.VL
section
variable{X:Cx}{rl:Option Addr}{a b c e tg:Expr}{es:List Expr}{fa fb fc:TV}{fs:AF}{pos pos2 p p2 q:Pos}
noncomputable def sB(fa:TV):TV:=fun ρ Q=>fa ρ fun w=>∃xs,w.dat=some (.list xs)/\Q (.ml xs.reverse)
end
end L2.VL
namespace L2
section
variable{X:Cx}
theorem rK{bs:List Bool}{its:List Bo}(r:bp (bs.map V.bl) its){v:Bo}(e:its[i]?=some v):v = .bool (bs.getD i false):=by
 have hl:=r.length;rw[Bu]at hl;have hi:i<bs.length:=by have:=(BG.mp e).1;omega
 have hb:(bs.map V.bl)[i]?=some (.bl bs[i]):=by simp[hi]
 obtain⟨u,hu,ru⟩:=r.get hb;rw[e]at hu;cases hu;have:bs.getD i false=bs[i]:=by simp[List.getD,hi]
 rw[this];exact ru
theorem k4{bs:List Bool}:(BZ bs.length).all (fun i=>bs.getD i false)=bs.all id:=by
 have:bs=(BZ bs.length).map fun i=>bs.getD i false:=by
  apply El
  · simp
  · intro i h1 h2;simp[List.getD,h1]
 conv=>rhs;rw[this,List.all_map]
 rfl
theorem oD(hc:X.calm=true):ca X (.builtin "all") (fun xs H Q=>∃(p:Addr)(bs:List Bool),xs=[.ref p]/\AM X.K H p (bs.map V.bl)/\Q (.bl (bs.all id)) H):=by
 intro pins s σ H xs us Q I r ⟨p,bs,ex,hq,q⟩;subst ex;obtain⟨u,rfl,ru⟩:=vals1 r;cases ru;obtain⟨its,rv,pl,hz⟩:=I.list hq;have hl:=rv.length;rw[Bu]at hl;refine call_all_walk (D7 pl.isList ?_);have ne:p≠s.heap.objs.size:=by obtain⟨o,ho,_⟩:=pl.isList;exact BV (Bx ho)
 refine⟨s.heap.objs.size,_,_,_,_,_,fun i=>bs.getD i false,rfl,Walks.list (A:=X.A.in1) (I.ok.hd hc) s.heap.objs.size p ne its.toArray,⟨⟨_,BJ _ rfl,rfl,rfl⟩,pl.isList.push _⟩,fun i v s' Q' E' hP hQ=>?_,fun h' tk k=>?_⟩
 · rw[rK rv (show its[i]?=some v by simpa using hP)];exact CY hQ
 · have e:(BZ its.toArray.size).all (fun i=>bs.getD i false)=bs.all id:=by rw[BB,<- hl];exact k4
   rw[e];exact⟨.bl _,H,I.kept (t':=tk) fun b o eb=>k b o (by simp;exact BV (Bx eb)) (Bn _ eb),rfl,q⟩
end
end L2
namespace L2.VL
section
variable{X:Cx}{rl:Option Addr}{a b c e:Expr}{es:List Expr}{fa fb fc:TV}{fs:AF}{pos p p2:Pos}
theorem kR{K:W.Frag}{F:Hp}:∀{vs:List V}{bs:List Bool},Reps K F vs (bs.map .bool)->vs=bs.map V.bl
 | _,[],h=>h.nil_iff
 | _,b::bs,.cons h r=>by rw[cY h,kR r];rfl
noncomputable def u4(f:List Bool->Bool):List W->(W->Prop)->Prop:=fun ws Q=>∃(w:W)(bs:List Bool),ws=[w]/\w.dat=some (.list (bs.map .bool))/\Q (.d (.bool (f bs)))
theorem sd{f:List Bool->Bool}:dS X rl (fun xs H Q=>∃(p:Addr)(bs:List Bool),xs=[.ref p]/\AM X.K H p (bs.map V.bl)/\Q (.bl (f bs)) H) (u4 f):=fun{F H vs ws} Qd Q s ra r ⟨w,bs,ew,ed,q⟩ k=>by
 subst ew;obtain⟨v,rfl,r1⟩:=jS r;obtain⟨a,us,rfl,sq,rs⟩:=r1.items s ed;have e:=kR rs;subst e;exact⟨a,bs,rfl,sq,k _ (.d _) _ _ (Grow.refl s ra) (.bl _) trivial q⟩
theorem v_all(hm:X.mg "all" = none)(ha:AS X rl [a] fs)(hc:autoParam (X.calm=true) æa._auto_1)(hg:autoParam (Gl X "all") æa._auto_1)(he:autoParam (BF [a] X.env=(false,eval a X.env)::BF [] X.env) æa._auto_1)(hpl:autoParam ((Dj pos (BF [] X.env)).any (·.1)=false) æa._auto_1) :
 PV X rl (.Call (.Name "all" p) [a] [] pos) (cp (u4 fun bs=>bs.all id) fs):=bT (oD hc) sd hm (by rfl) ha hg (by decide) (by decide) he hpl
end
end L2.VL
namespace L2.TM
section
variable{prog:BE}{w:B2}{A:BX}{E:Bo->Bp->Prop}{s:Bp}{k:Int}{t:Tok}{l:Addr}{its:Array Bo}
end
end L2.TM
namespace L2
section
variable{X:Cx}
end
end L2
namespace L2.VL
section
variable{X:Cx}{rl:Option Addr}{a b c e:Expr}{es:List Expr}{fa fb fc:TV}{fs:AF}{pos p p2:Pos}
noncomputable def uq:W->W->(W->Prop)->Prop:=fun x y Q=>∃xs k,x = .d (.tuple xs)/\y = .d (.int k)/\xs≠[]/\1<=k/\k<2^62/\xs.length*k.toNat<=sizeLine/\Q (.d (.tuple (Du k.toNat xs).flatten))
end
end L2.VL
namespace L2
section
variable{X:Cx}
section
variable{prog:BE}{w:B2}{A:BX}{E:Bo->Bp->Prop}{s:Bp}
end
theorem jq(h:D1 vs ns):bp (ns.map V.int) vs:=by
 induction h with
 | nil=>exact .nil
 | cons n t r ih=>exact .cons ⟨t,rfl⟩ ih
end
end L2
namespace L2.VL
section
variable{X:Cx}{rl:Option Addr}{a b c e:Expr}{es:List Expr}{fa fb fc:TV}{fs:AF}{pos p p2:Pos}
noncomputable def ux:W->W->(W->Prop)->Prop:=fun x y Q=>∃xs ys,x = .d (.tuple xs)/\y = .d (.tuple ys)/\xs.length+ys.length<=sizeLine/\Q (.d (.tuple (xs++ys)))
theorem cH{K:W.Frag}{F:Hp}:∀{vs:List V}{ns:List Int},Reps K F vs (ns.map .int)->vs=ns.map V.int
 | _,[],h=>h.nil_iff
 | _,n::ns,.cons h r=>by rw[aM h,cH r];rfl
theorem fB{K:W.Frag}{F:Hp}:∀{ns:List Int},Reps K F (ns.map V.int) (ns.map .int)
 | []=>.nil
 | n::ns=>.cons (.int n) fB
noncomputable def um:List W->(W->Prop)->Prop:=fun ws Q=>∃(ns:List Int),ws=[.d (.tuple (ns.map .int))]/\ns.length<64/\∀ns':List Int,ns'.Perm ns->ns'.Pairwise (· <= ·)->Q (.ml (ns'.map .int))
end
end L2.VL
namespace L2.TO
section
variable{prog:BE}{w:B2}{A:BX}{E:Bo->Bp->Prop}{s:Bp}
end
end L2.TO
namespace L2
section
variable{X:Cx}{a b e:Expr}{ta:TA}{te:TE}{p p2 q pos pos2:Pos}
end
end L2
namespace L2.VL
section
variable{X:Cx}{rl:Option Addr}{a b c e:Expr}{es:List Expr}{fa fb fc:TV}{fs:AF}{pos pos2 p q p2:Pos}
noncomputable def yk(fs:AF):TV:=fun ρ Q=>fs ρ fun ws=>∃j:Int,ws=[.d (.int j)]/\(-(2^62)<=j/\j<2^62)/\j.toNat<=2^24/\Q (.d (.tuple (aA 0 j.toNat)))
noncomputable def sA(fa:TV):TV:=fun ρ Q=>fa ρ fun w=>∃xs,w = .d (.tuple xs)/\Q (.d (.tuple xs.reverse))
end
end L2.VL
namespace L2.TW
section
variable{prog:BE}{w:B2}{A:BX}{E:Bo->Bp->Prop}{s:Bp}
end
end L2.TW
namespace L2
section
variable{X:Cx}
end
end L2
namespace L2.VL
section
variable{X:Cx}{rl:Option Addr}{a b c e:Expr}{es:List Expr}{fa fb fc:TV}{fs:AF}{pos p p2:Pos}
noncomputable def xG(fa:TV)(fl fh:AH):TV:=fun ρ Q=>fa ρ fun w=>fl ρ fun l=>fh ρ fun h=>∃xs,w = .d (.tuple xs)/\Q (.d (.tuple (cutD xs l h)))
end
end L2.VL
namespace L2
abbrev yo(D:List (Str×Int)):List (Bl×Bl):=(D.map fun q=>(q.1,B8 q.2)).map fun q=>(Bl.str q.1,q.2)
section
variable{X:Cx}{e:Expr}{ty:TE}{px apos cpos:Pos}
end
end L2
namespace L2.VL
section
variable{X:Cx}{rl:Option Addr}{a b c e:Expr}{es:List Expr}{fa fb fc:TV}{fs:AF}{pos p p2 px apos cpos:Pos}
noncomputable def sL(D:List (Str×Int))(k:Str):Bl:=(PySem.Spec.lookup (.str k) (yo D)).getD .none
noncomputable def sx(D:List (Str×Int))(fk:TV):TV:=fun ρ Q=>fk ρ fun w=>∃k,w = .d (.str k)/\Q (.d (sL D k))
end
end L2.VL
set_option exponentiation.threshold 10000
namespace L2.VL
noncomputable def qS(a b:Int):Bl:=.tuple [.int (a.fdiv (BU a b)),.int (b.fdiv (BU a b))]
theorem fE{a:Int}(hb:0<b)(z:b.natAbs<2^8000)(i:Int):cB i (BU a b:Int):=by
 have h1:=rg (a:=a) (b:=b) (by omega);have h2:=uk (a:=a) (b:=b) (by omega);exact⟨by omega,EL (by omega) (Bq z (BD (by decide) (by decide)))⟩
noncomputable def uQ(bs:List Int):Prop:=bs.length=4/\(∀b∈bs,2<=b/\b<=16)/\bs.Pairwise fun x y=>BU x y=1
instance (bs:List Int):Decidable (uQ bs):=by unfold uQ;infer_instance
noncomputable def pr(a b:Int):Bl:=.tuple [.int a,.int b]
theorem GlK.pair{K:W.Frag}{a:Int}{p:Addr}{sl:Array (Option Bo)}{t u:Tok}(h1:W.nsIn K B4 x=some (some (.ref p)))
 (h2:K.lookup p=some ⟨.type "tuple", none,.seq #[.int a t,.int b u] n,sl⟩):GlK K x (pr a b):=by
 refine⟨.ref p,.ref p,h1,rfl,fun F=>.tup (vs:=[.int a,.int b]) (.inr ⟨_,_,n,h2,rfl,rfl,(by show 2<=sizeLine;decide),.cons ⟨t,rfl⟩ (.cons ⟨u,rfl⟩ .nil),rfl⟩) (.cons (.int a) (.cons (.int b) .nil))⟩
end L2.VL
set_option exponentiation.threshold 10000
namespace L2.VL
noncomputable def stepT(b:Int)(p:List Int)(t:Int)(a:Nat):Int:=t*b+p.getD a 0
noncomputable def zm:Bl->Int
 | .int i=>i
 | _=>0
section
variable{P:BE}{w:B2}{K:W.Frag}{mg:Str->Option Bo}{base:Heap}{rl:Option Addr}{x:Str}{st:Stmt}{N ps:List Str}{k:Nat}{Pd:List W->(List Bl->Prop)->Prop}{t:AG}
end
section
variable{X:Cx}{rl:Option Addr}{a b c e:Expr}{es:List Expr}{fa fb fc:TV}{fs:AF}{pos p p2 px apos cpos:Pos}
end
end L2.VL
namespace L2.IX
section
variable{prog:BE}{w:B2}{A:BX}{E:Bo->Bp->Prop}{s:Bp}
end
end L2.IX
namespace L2
section
variable{X:Cx}
end
end L2
namespace L2.VL
section
variable{X:Cx}{rl:Option Addr}{a b c e:Expr}{es:List Expr}{fa fb fc:TV}{fs:AF}{pos p p2 px apos cpos:Pos}
noncomputable def gN:Bl->Bool
 | .none=>true
 | _=>false
noncomputable def x8(neg:Bool):W->W->(W->Prop)->Prop:=fun x y Q=>∃d,x.dat=some d/\y = .d .none/\Q (.d (.bool (if neg then !gN d else gN d)))
noncomputable def ur:W->W->(W->Prop)->Prop:=fun x y Q=>∃xs k,x.dat=some (.list xs)/\y = .d (.int k) /\ -(2^63)<=k/\k<2^63/\xs.length*k.toNat<=sizeLine/\Q (.ml (Du k.toNat xs).flatten)
noncomputable def sC(i:Nat):AG:=fun D ρ=>∃xs,ρ[i]?=some (some (.ml xs))/\D.rt (.ml xs)
noncomputable def sG(i:Nat)(fa:TV):AG:=fun D ρ=>∃xs,ρ[i]?=some (some (.ml xs))/\fa ρ fun w=>∃ys,w.isPk=false/\w.dat=some (.list ys)/\xs.length+ys.length<=sizeLine/\D.nx (ρ.set i (some (.ml (xs++ys))))
end
end L2.VL
namespace L2.ZP
section
variable{prog:BE}{w:B2}{A:BX}{E:Bo->Bp->Prop}{s:Bp}{it a:Addr}{k:Nat}{xs:Array Bo}{v:Bo}
end
section
variable{prog:BE}{w:B2}{A:BX}{E:Bo->Bp->Prop}{s:Bp}{it a:Addr}{k:Nat}{xs:Array Bo}{v:Bo}
end
section
variable{prog:BE}{w:B2}{A:BX}{E:Bo->Bp->Prop}{s:Bp}{z ti to i1 i2 a1 a2:Addr}{k1 k2:Nat}{xs ys:Array Bo}{x y p q:Bo}
end
noncomputable def Aa(b:Bool):String:=bif b then "tuple_iterator" else "list_iterator"
section
variable{prog:BE}{w:B2}{A:BX}{E:Bo->Bp->Prop}{s:Bp}{b b1 b2:Bool}{a a1 a2:Addr}{xs ys:Array Bo}
abbrev y1(h:Heap)(b1:Bool)(a1:Addr):Heap:=h.push {cls:=.type (Aa b1),data:=.fields #[.ref a1,.int 0 0]}
abbrev y2(h:Heap)(b1 b2:Bool)(a1 a2:Addr):Heap:=(y1 h b1 a1).push {cls:=.type (Aa b2),data:=.fields #[.ref a2,.int 0 0]}
abbrev y3(h:Heap)(b1 b2:Bool)(a1 a2:Addr):Heap:=(y2 h b1 b2 a1 a2).push {cls:=.type "tuple", data:=.seq #[.ref h.objs.size,.ref (y1 h b1 a1).objs.size]}
abbrev y4(h:Heap)(b1 b2:Bool)(a1 a2:Addr):Heap:=(y3 h b1 b2 a1 a2).push {cls:=.type "tuple", data:=.seq #[.none,.none]}
abbrev y5(h:Heap)(b1 b2:Bool)(a1 a2:Addr):Heap:=(y4 h b1 b2 a1 a2).push {cls:=.type "zip", data:=.fields #[.none,.bool false,.bool false,.ref (y2 h b1 b2 a1 a2).objs.size,.ref (y3 h b1 b2 a1 a2).objs.size]}
end
end L2.ZP
namespace L2
open PySem PySem.Spec PyProof.Rows L2.ZP
open PySem PySem.Spec PyProof.Rows L2.ZP
section
variable{X:Cx}{e1 e2:Expr}{ta:TA}{elts:List Expr}{kt:Nat}{pt p pos:Pos}
end
end L2
namespace L2.VL
section
variable{X:Cx}{rl:Option Addr}{a b:Expr}{elts:List Expr}{kt:Nat}{pt p pos:Pos}{fs:AF}
noncomputable def uS(xs ys:List Bl):List Bl:=List.zipWith (fun x y=>.tuple [x,y]) xs ys
noncomputable def cV:Bl->Bool
 | .tuple _=>true
 | _=>false
noncomputable def Aj(b1 b2:Bool)(fs:AF):En->(List Bl->Prop)->Prop:=fun ρ Q=>fs ρ fun ws=>∃dx dy xs ys,ws=[.d dx,.d dy]/\ee dx=some xs/\ee dy=some ys/\cV dx=b1/\cV dy=b2/\Q (uS xs ys)
end
theorem nr{α:Sort u}{a b:α}(h:a=b):a=b:=h
abbrev Mo(α:Type):=(α->Prop)->Prop
noncomputable def ret{α:Type}(a:α):Mo α:=fun Q=>Q a
noncomputable def Ax{α β:Type}(m:Mo α)(f:α->Mo β):Mo β:=fun Q=>m fun a=>f a Q
noncomputable def An{α:Type}(P:Prop)(m:Mo α):Mo α:=fun Q=>P/\m Q
noncomputable def stk{α:Type}:Mo α:=fun _=>False
noncomputable def anyM{α:Type}(P:α->Prop):Mo α:=fun Q=>∀a,P a->Q a
noncomputable def am{α β:Type}(o:Option α)(f:α->Mo β):Mo β:=match o with
 | some a=>f a
 | none=>stk
section
variable{α β γ:Type}
theorem bnd_ret(a:α)(f:α->Mo β):Ax (ret a) f=f a:=nr rfl
theorem bnd_bnd(m:Mo α)(f:α->Mo β)(g:β->Mo γ):Ax (Ax m f) g=Ax m fun a=>Ax (f a) g:=nr rfl
theorem bnd_grd(P:Prop)(m:Mo α)(f:α->Mo β):Ax (An P m) f=An P (Ax m f):=nr rfl
theorem bnd_stk(f:α->Mo β):Ax stk f=stk:=nr rfl
theorem bnd_ite(c:Prop)[Decidable c](a b:Mo α)(f:α->Mo β):Ax (if c then a else b) f=if c then Ax a f else Ax b f:=by split<;>rfl
theorem bnd_opt(o:Option α)(k:α->Mo β)(f:β->Mo γ):Ax (am o k) f=am o fun a=>Ax (k a) f:=by cases o<;>rfl
theorem opt_some(a:α)(k:α->Mo β):am (some a) k=k a:=nr rfl
theorem opt_none(k:α->Mo β):am none k=stk:=nr rfl
theorem aj{P:Prop}(h:P)(m:Mo α):An P m=m:=by funext Q;exact propext ⟨fun z=>z.2,fun z=>⟨h,z⟩⟩
theorem grd_T(m:Mo α):An True m=m:=aj trivial m
theorem c5(c:Prop)[Decidable c](a b:Mo α)(Q:α->Prop):(if c then a else b) Q=if c then a Q else b Q:=by split<;>rfl
theorem ae{m n:Mo α}(h:∀Q,m Q↔n Q):m=n:=funext fun Q=>propext (h Q)
end
noncomputable def asI:W->Option Int
 | .d (.int i)=>some i
 | _=>none
noncomputable def asB:W->Option Bool
 | .d (.bool b)=>some b
 | _=>none
noncomputable def asS:W->Option Str
 | .d (.str b)=>some b
 | _=>none
noncomputable def asD:W->Option Bl
 | .d x=>some x
 | _=>none
noncomputable def lstD:Bl->Option (List Bl)
 | .list xs=>some xs
 | _=>none
noncomputable def tupD:Bl->Option (List Bl)
 | .tuple xs=>some xs
 | _=>none
noncomputable def AB(w:W):Option (List Bl):=w.dat.bind lstD
noncomputable def Az(w:W):Option (List Bl):=(asD w).bind tupD
noncomputable def AA(w:W):Option (List Bl):=w.dat.bind ee
noncomputable def zq:W->Option Int
 | .d (.int i)=>some i
 | .d (.bool b)=>some (if b then 1 else 0)
 | _=>none
noncomputable def isiT:W->Option String
 | .vv (.ty T)=>some T
 | _=>none
noncomputable def pf:List Bl->Option (List Bool)
 | []=>some []
 | .bool b::r=>(pf r).map (b :: ·)
 | _=>none
noncomputable def d0:List Bl->Option (List Int)
 | []=>some []
 | .int b::r=>(d0 r).map (b :: ·)
 | _=>none
theorem blsD_map:∀bs:List Bool,pf (bs.map .bool)=some bs
 | []=>rfl
 | b::bs=>by show(pf (bs.map .bool)).map (b :: ·)=_;rw[blsD_map bs];rfl
theorem iB:∀{xs:List Bl}{bs:List Bool},pf xs=some bs->xs=bs.map .bool
 | [],bs,h=>by cases h;rfl
 | .bool b::r,bs,h=>by
   have h:(pf r).map (b :: ·)=some bs:=h
   cases q:pf r with
   | none=>rw[q]at h;cases h
   | some cs=>rw[q]at h;cases h;rw[iB q];rfl
 | .none::_,_,h=>by cases h
 | .int _::_,_,h=>by cases h
 | .str _::_,_,h=>by cases h
 | .list _::_,_,h=>by cases h
 | .tuple _::_,_,h=>by cases h
 | .dict _::_,_,h=>by cases h
theorem intsD_map:∀bs:List Int,d0 (bs.map .int)=some bs
 | []=>rfl
 | b::bs=>by show(d0 (bs.map .int)).map (b :: ·)=_;rw[intsD_map bs];rfl
theorem df:∀{xs:List Bl}{bs:List Int},d0 xs=some bs->xs=bs.map .int
 | [],bs,h=>by cases h;rfl
 | .int b::r,bs,h=>by
   have h:(d0 r).map (b :: ·)=some bs:=h
   cases q:d0 r with
   | none=>rw[q]at h;cases h
   | some cs=>rw[q]at h;cases h;rw[df q];rfl
 | .none::_,_,h=>by cases h
 | .bool _::_,_,h=>by cases h
 | .str _::_,_,h=>by cases h
 | .list _::_,_,h=>by cases h
 | .tuple _::_,_,h=>by cases h
 | .dict _::_,_,h=>by cases h
theorem asI_d(i:Int):asI (.d (.int i))=some i:=rfl
theorem asB_d(i:Bool):asB (.d (.bool i))=some i:=rfl
theorem asS_d(i:Str):asS (.d (.str i))=some i:=rfl
theorem asD_d(i:Bl):asD (.d i)=some i:=rfl
theorem asT_d(x:Bl):Az (.d x)=tupD x:=rfl
theorem asL_d(x:Bl):AB (.d x)=lstD x:=rfl
theorem asL_ml(x:List Bl):AB (.ml x)=some x:=rfl
theorem asL_pk(x:List Bl):AB (.pk x)=some x:=rfl
theorem asQ_d(x:Bl):AA (.d x)=ee x:=rfl
theorem asQ_ml(x:List Bl):AA (.ml x)=some x:=rfl
theorem asQ_pk(x:List Bl):AA (.pk x)=some x:=rfl
theorem lstD_l(x:List Bl):lstD (.list x)=some x:=rfl
theorem tupD_t(x:List Bl):tupD (.tuple x)=some x:=rfl
theorem toI_i(i:Int):zq (.d (.int i))=some i:=rfl
theorem toI_b(i:Bool):zq (.d (.bool i))=some (if i then 1 else 0):=rfl
theorem isiT_t(T:String):isiT (.vv (.ty T))=some T:=rfl
theorem bq{i:Int}:asI w=some i↔w = .d (.int i):=by
 constructor
 · intro h;unfold asI at h;split at h<;>simp_all
 · rintro rfl;rfl
theorem dR{i:Bool}:asB w=some i↔w = .d (.bool i):=by
 constructor
 · intro h;unfold asB at h;split at h<;>simp_all
 · rintro rfl;rfl
theorem pj{i:Str}:asS w=some i↔w = .d (.str i):=by
 constructor
 · intro h;unfold asS at h;split at h<;>simp_all
 · rintro rfl;rfl
theorem cg{i:Bl}:asD w=some i↔w = .d i:=by
 constructor
 · intro h;unfold asD at h;split at h<;>simp_all
 · rintro rfl;rfl
theorem qY{i:String}:isiT w=some i↔w = .vv (.ty i):=by
 constructor
 · intro h;unfold isiT at h;split at h<;>simp_all
 · rintro rfl;rfl
theorem qR{w:Bl}{i:List Bl}:lstD w=some i↔w = .list i:=by
 constructor
 · intro h;unfold lstD at h;split at h<;>simp_all
 · rintro rfl;rfl
theorem pV{w:Bl}{i:List Bl}:tupD w=some i↔w = .tuple i:=by
 constructor
 · intro h;unfold tupD at h;split at h<;>simp_all
 · rintro rfl;rfl
theorem jn{i:List Bl}:Az w=some i↔w = .d (.tuple i):=by
 constructor
 · intro h;unfold Az at h
   cases q:asD w with
   | none=>rw[q]at h;cases h
   | some x=>rw[q]at h;rw[cg.mp q,pV.mp h]
 · rintro rfl;rfl
theorem eG{i:List Bl}:AB w=some i↔w.dat=some (.list i):=by
 unfold AB;constructor
 · intro h
   cases q:w.dat with
   | none=>rw[q]at h;cases h
   | some x=>rw[q]at h;rw[qR.mp h]
 · intro h;rw[h];rfl
theorem af{β:Type}{o:Option α}{k:α->Mo β}{Q:β->Prop}:am o k Q↔∃a,o=some a/\k a Q:=by
 cases o with
 | none=>exact⟨fun z=>z.elim,fun⟨_,z,_⟩=>by cases z⟩
 | some a=>exact⟨fun z=>⟨a,rfl,z⟩,fun⟨_,e,z⟩=>by cases e;exact z⟩
section
variable{fa fb fc:TV}{fs:AF}{f g:TB}{ρ:En}{t u:AG}
theorem m_vC(x:Bl):vC x ρ=ret (.d x):=nr rfl
theorem be(i:Nat):dX i ρ=am ((ρ[i]?).join) fun w=>ret w.peek:=by
 refine ae fun Q=>?_;rw[af];constructor
 · rintro⟨w,e,q⟩;exact⟨w,by rw[e];rfl,q⟩
 · rintro⟨w,e,q⟩;refine⟨w,?_,q⟩
   cases h:ρ[i]? with
   | none=>rw[h]at e;cases e
   | some o=>rw[h]at e;cases o with
     | none=>cases e
     | some x=>cases e;rfl
theorem m_vOp(h:W->W->(W->Prop)->Prop):zi h fa fb ρ=Ax (fa ρ) fun x=>Ax (fb ρ) fun y=>h x y:=nr rfl
theorem m_gI(C:Int->Int->Prop)(h:Int->Int->Bl)(x y:W):gI C h x y=am (asI x) fun i=>am (asI y) fun j=>An (C i j) (ret (.d (h i j))):=by
 refine ae fun Q=>?_;simp only[af,bq,gI,An,ret];exact⟨fun⟨i,j,a,b,c,q⟩=>⟨i,a,j,b,c,q⟩,fun⟨i,a,j,b,c,q⟩=>⟨i,j,a,b,c,q⟩⟩
theorem m_gI0(h:Int->Int->Bl)(x y:W):At h x y=am (asI x) fun i=>am (asI y) fun j=>ret (.d (h i j)):=by
 refine ae fun Q=>?_;simp only[af,bq,At,ret];exact⟨fun⟨i,j,a,b,q⟩=>⟨i,a,j,b,q⟩,fun⟨i,a,j,b,q⟩=>⟨i,j,a,b,q⟩⟩
theorem m_vNeg:vD fa ρ=Ax (fa ρ) fun x=>am (asI x) fun i=>ret (.d (.int (-i))):=by
 refine ae fun Q=>?_;simp only[vD,Ax,af,bq,ret]
theorem m_vTest{f:TV}:nc f ρ=Ax (f ρ) fun w=>am (asB w) ret:=by
 refine ae fun Q=>?_;simp only[nc,Ax,af,dR,ret]
theorem m_gEqD(neg:Bool)(x y:W):wv neg x y=am x.dat fun dx=>am y.dat fun dy=>An (CD dx=true) (An (CD dy=true) (ret (.d (.bool (if neg then !CA dx dy else CA dx dy))))):=by
 refine ae fun Q=>?_;simp only[af,wv,An,ret];exact⟨fun⟨i,j,a,b,c,d,q⟩=>⟨i,a,j,b,c,d,q⟩,fun⟨i,a,j,b,c,d,q⟩=>⟨i,j,a,b,c,d,q⟩⟩
theorem uL{i:List Bl}:AA w=some i↔(w.dat=some (.list i)\/w.dat=some (.tuple i)):=by
 unfold AA;constructor
 · intro h
   cases q:w.dat with
   | none=>rw[q]at h;cases h
   | some x=>rw[q]at h;exact ee.of (o:=some x) rfl h
 · rintro(h|h)<;>rw[h]<;>rfl
theorem m_gInD(neg:Bool)(x y:W):x_ neg x y=am x.dat fun dx=>am (AA y) fun ys=>An (CD dx=true) (An (DK ys=true) (ret (.d (.bool (if neg then !(ys.any fun z=>CA z dx)else ys.any fun z=>CA z dx))))):=by
 refine ae fun Q=>?_;simp only[af,uL,x_,An,ret];exact⟨fun⟨i,j,a,b,c,d,q⟩=>⟨i,a,j,b,c,d,q⟩,fun⟨i,a,j,b,c,d,q⟩=>⟨i,j,a,b,c,d,q⟩⟩
theorem m_vAnd:vJ f g ρ=Ax (f ρ) fun b=>if b=true then g ρ else ret false:=by
 refine ae fun Q=>?_;simp only[vJ,Ax,c5,ret]
theorem m_vOr:zh f g ρ=Ax (f ρ) fun b=>if b=true then ret true else g ρ:=by
 refine ae fun Q=>?_;simp only[zh,Ax,c5,ret]
theorem m_vNot:xL f ρ=Ax (f ρ) fun b=>ret (!b):=nr rfl
theorem m_vAndV:pU fa fb ρ=Ax (fa ρ) fun w=>am (asB w) fun b=>if b=true then fb ρ else ret (.d (.bool false)):=by
 refine ae fun Q=>?_;simp only[pU,Ax,af,dR,c5,ret]
theorem m_vOrV:xK fa fb ρ=Ax (fa ρ) fun w=>am (asB w) fun b=>if b=true then ret (.d (.bool true))else fb ρ:=by
 refine ae fun Q=>?_;simp only[xK,Ax,af,dR,c5,ret]
theorem m_vNotV:pQ fa ρ=Ax (fa ρ) fun w=>am (asB w) fun b=>ret (.d (.bool (!b))):=by
 refine ae fun Q=>?_;simp only[pQ,Ax,af,dR,ret]
theorem m_vIf{t:TB}:zk t fa fb ρ=Ax (t ρ) fun c=>if c=true then fa ρ else fb ρ:=by
 refine ae fun Q=>?_;simp only[zk,Ax,c5]
theorem m_vTup:vw fs ρ=Ax (fs ρ) fun ws=>am (dh ws) fun ds=>An (ds.length<=sizeLine) (ret (.d (.tuple ds))):=by
 refine ae fun Q=>?_;simp only[vw,Ax,af,An,ret]
theorem m_vLst:vE fs ρ=Ax (fs ρ) fun ws=>am (dh ws) fun ds=>An (ds.length<=sizeLine) (ret (.ml ds)):=by
 refine ae fun Q=>?_;simp only[vE,Ax,af,An,ret]
theorem m_gIx(x y:W):Aq x y=am x.dat fun dx=>am (asI y) fun i=>am (itemAt dx i) fun z=>ret (.d z):=by
 refine ae fun Q=>?_;simp only[Aq,af,bq,ret];exact⟨fun⟨i,j,z,a,b,c,q⟩=>⟨i,a,j,b,z,c,q⟩,fun⟨i,a,j,b,z,c,q⟩=>⟨i,j,z,a,b,c,q⟩⟩
theorem m_vCall(h:List W->(W->Prop)->Prop):cp h fs ρ=Ax (fs ρ) h:=nr rfl
theorem m_gAbs(w:W):u7 [w]=am (asI w) fun i=>ret (.d (.int (if i<0 then -i else i))):=by
 refine ae fun Q=>?_;simp only[u7,af,bq,ret,BN,and_true]
theorem m_gLen(w:W):uY [w]=am w.dat fun d=>am (qV d) fun n=>ret (.d (.int n)):=by
 refine ae fun Q=>?_;simp only[uY,af,ret,BN,and_true];exact⟨fun⟨w',d,n,e,a,b,q⟩=>by subst e;exact⟨d,a,n,b,q⟩,fun⟨d,a,n,b,q⟩=>⟨w,d,n,rfl,a,b,q⟩⟩
theorem m_gRepr(w:W):oq [w]=am w.dat fun d=>An (AO d) (ret (.d (.str d.shown))):=by
 refine ae fun Q=>?_;simp only[oq,af,ret,An,BN,and_true];exact⟨fun⟨w',d,e,a,b,q⟩=>by subst e;exact⟨d,a,b,q⟩,fun⟨d,a,b,q⟩=>⟨w,d,rfl,a,b,q⟩⟩
theorem m_gIsi(w v:W):uZ [w,v]=am w.dat fun d=>am (isiT v) fun T=>An (oQ T=true) (ret (.d (.bool (ja d T)))):=by
 refine ae fun Q=>?_;simp only[uZ,af,qY,ret,An,BN,and_true];exact⟨fun⟨w',d,T,⟨e,e'⟩,a,b,q⟩=>by subst e;exact⟨d,a,T,e',b,q⟩,fun⟨d,a,T,e',b,q⟩=>⟨w,d,T,⟨rfl,e'⟩,a,b,q⟩⟩
theorem m_gStrI(w:W):ul [w]=am (asI w) fun i=>An (i.natAbs.log2<1920) (ret (.d (.str (Gx i)))):=by
 refine ae fun Q=>?_;simp only[ul,af,bq,ret,An,BN,and_true]
theorem m_gTupO(w:W):om [w]=am (AA w) fun xs=>ret (.d (.tuple xs)):=by
 refine ae fun Q=>?_;simp only[om,af,ret,BN,and_true];constructor
 · rintro⟨w',d,xs,e,a,b,q⟩;subst e;exact⟨xs,by unfold AA;rw[a];exact b,q⟩
 · rintro⟨xs,e,q⟩;unfold AA at e
   cases h:w.dat with
   | none=>rw[h]at e;cases e
   | some d=>rw[h]at e;exact⟨w,d,xs,rfl,h,e,q⟩
theorem m_gLstO(w:W):ut [w]=am (AA w) fun xs=>ret (.ml xs):=by
 refine ae fun Q=>?_;simp only[ut,af,ret,BN,and_true];constructor
 · rintro⟨w',d,xs,e,a,b,q⟩;subst e;exact⟨xs,by unfold AA;rw[a];exact b,q⟩
 · rintro⟨xs,e,q⟩;unfold AA at e
   cases h:w.dat with
   | none=>rw[h]at e;cases e
   | some d=>rw[h]at e;exact⟨w,d,xs,rfl,h,e,q⟩
theorem m_gIsB(x y:W):x9 x y=am (asB x) fun i=>am (asB y) fun j=>ret (.d (.bool (i==j))):=by
 refine ae fun Q=>?_;simp only[af,dR,x9,ret];exact⟨fun⟨i,j,a,b,q⟩=>⟨i,a,j,b,q⟩,fun⟨i,a,j,b,q⟩=>⟨i,j,a,b,q⟩⟩
theorem m_gIsN(neg:Bool)(x:W):x8 neg x (.d .none)=am x.dat fun d=>ret (.d (.bool (if neg then !gN d else gN d))):=by
 refine ae fun Q=>?_;simp only[af,x8,ret,true_and]
theorem m_gI2(h:Int->Int->Bl)(x y:W):Ar h [x,y]=am (asI x) fun i=>am (asI y) fun j=>ret (.d (h i j)):=by
 refine ae fun Q=>?_;simp only[af,bq,Ar,ret,BN,and_true];exact⟨fun⟨i,j,⟨a,b⟩,q⟩=>⟨i,a,j,b,q⟩,fun⟨i,a,j,b,q⟩=>⟨i,j,⟨a,b⟩,q⟩⟩
theorem m_gDivmod(x y:W):l4 [x,y]=am (asI x) fun i=>am (asI y) fun j=>An (0<j) (An (j<1073741824) (ret (.d (.tuple [.int (i / j),.int (i%j)])))):=by
 refine ae fun Q=>?_;simp only[af,bq,l4,An,ret,BN,and_true];exact⟨fun⟨i,j,⟨a,b⟩,c,d,q⟩=>⟨i,a,j,b,c,d,q⟩,fun⟨i,a,j,b,c,d,q⟩=>⟨i,j,⟨a,b⟩,c,d,q⟩⟩
theorem sK{i:Int}:zq w=some i↔(w = .d (.int i)\/∃b:Bool,w = .d (.bool b)/\i=if b then 1 else 0):=by
 constructor
 · intro h;unfold zq at h;split at h
   · cases h;exact .inl rfl
   · cases h;exact .inr ⟨_,rfl,rfl⟩
   · cases h
 · rintro(rfl|⟨b,rfl,rfl⟩)<;>rfl
theorem m_gInt1(w:W):uv [w]=am (zq w) fun i=>ret (.d (.int i)):=by
 refine ae fun Q=>?_;simp only[af,sK,uv,ret,BN,and_true];constructor
 · rintro(⟨i,rfl,q⟩|⟨k,rfl,q⟩)
   · exact⟨i,.inl rfl,q⟩
   · exact⟨_,.inr ⟨k,rfl,rfl⟩,q⟩
 · rintro⟨i,rfl|⟨b,rfl,rfl⟩,q⟩
   · exact .inl ⟨i,rfl,q⟩
   · exact .inr ⟨b,rfl,q⟩
theorem m_oNo:zX ρ=ret none:=nr rfl
theorem m_oIt:zY fa ρ=Ax (fa ρ) fun w=>am (asI w) fun i=>ret (some i):=by
 refine ae fun Q=>?_;simp only[zY,Ax,af,bq,ret]
theorem m_vSlL{fl fh:AH}:xF fa fl fh ρ=Ax (fa ρ) fun w=>Ax (fl ρ) fun l=>Ax (fh ρ) fun h=>am (AB w) fun xs=>ret (.ml (cutD xs l h)):=by
 refine ae fun Q=>?_;simp only[xF,Ax,af,eG,ret]
theorem m_vSlA{fl fh:AH}:xG fa fl fh ρ=Ax (fa ρ) fun w=>Ax (fl ρ) fun l=>Ax (fh ρ) fun h=>am (Az w) fun xs=>ret (.d (.tuple (cutD xs l h))):=by
 refine ae fun Q=>?_;simp only[xG,Ax,af,jn,ret]
theorem m_gCatD(x y:W):uw x y=am (AB x) fun xs=>am (AB y) fun ys=>An (xs.length+ys.length<=sizeLine) (ret (.ml (xs++ys))):=by
 refine ae fun Q=>?_;simp only[uw,af,eG,An,ret];exact⟨fun⟨i,j,a,b,c,q⟩=>⟨i,a,j,b,c,q⟩,fun⟨i,a,j,b,c,q⟩=>⟨i,j,a,b,c,q⟩⟩
theorem m_gCatA(x y:W):ux x y=am (Az x) fun xs=>am (Az y) fun ys=>An (xs.length+ys.length<=sizeLine) (ret (.d (.tuple (xs++ys)))):=by
 refine ae fun Q=>?_;simp only[ux,af,jn,An,ret];exact⟨fun⟨i,j,a,b,c,q⟩=>⟨i,a,j,b,c,q⟩,fun⟨i,a,j,b,c,q⟩=>⟨i,j,a,b,c,q⟩⟩
theorem m_vChain(p p':Int->Int->Bool):oN p p' fa fb fc ρ=Ax (fa ρ) fun x=>Ax (fb ρ) fun y=>am (asI x) fun i=>am (asI y) fun j=>if p i j=true then Ax (fc ρ) fun z=>am (asI z) fun k=>ret (.d (.bool (p' j k)))else ret (.d (.bool false)):=by
 show(Ax (fa ρ) fun x=>Ax (fb ρ) fun y=>fun(Q:W->Prop)=>∃i j,x = .d (.int i)/\y = .d (.int j)/\if p i j=true then fc ρ fun z=>∃k,z = .d (.int k)/\Q (.d (.bool (p' j k)))else Q (.d (.bool false)))=_;congr 1;funext x;congr 1;funext y;refine ae fun Q=>?_;simp only[Ax,af,bq,ret,c5];exact⟨fun⟨i,j,a,b,q⟩=>⟨i,a,j,b,q⟩,fun⟨i,a,j,b,q⟩=>⟨i,j,a,b,q⟩⟩
theorem m_vLR1:ym fs ρ=Ax (fs ρ) fun ws=>am (ws.head?.bind asI) fun j=>An (ws.length=1) (An (-(2^62)<=j/\j<2^62) (An (j.toNat<=2^24) (ret (.ml (aA 0 j.toNat))))):=by
 show(Ax (fs ρ) fun ws=>fun(Q:W->Prop)=>∃j:Int,ws=[.d (.int j)]/\(-(2^62)<=j/\j<2^62)/\j.toNat<=2^24/\Q (.ml (aA 0 j.toNat)))=_;congr 1;funext ws;refine ae fun Q=>?_;simp only[af,An,ret];constructor
 · rintro⟨j,rfl,a,b,q⟩;exact⟨j,rfl,rfl,a,b,q⟩
 · rintro⟨j,e,l,a,b,q⟩
   match ws,l with
   | [w],_=>rw[show w = .d (.int j)from bq.mp e];exact⟨j,rfl,a,b,q⟩
theorem m_vTR1:yk fs ρ=Ax (fs ρ) fun ws=>am (ws.head?.bind asI) fun j=>An (ws.length=1) (An (-(2^62)<=j/\j<2^62) (An (j.toNat<=2^24) (ret (.d (.tuple (aA 0 j.toNat)))))):=by
 show(Ax (fs ρ) fun ws=>fun(Q:W->Prop)=>∃j:Int,ws=[.d (.int j)]/\(-(2^62)<=j/\j<2^62)/\j.toNat<=2^24/\Q (.d (.tuple (aA 0 j.toNat))))=_;congr 1;funext ws;refine ae fun Q=>?_;simp only[af,An,ret];constructor
 · rintro⟨j,rfl,a,b,q⟩;exact⟨j,rfl,rfl,a,b,q⟩
 · rintro⟨j,e,l,a,b,q⟩
   match ws,l with
   | [w],_=>rw[show w = .d (.int j)from bq.mp e];exact⟨j,rfl,a,b,q⟩
noncomputable def two(ws:List W):Option (Int×Int):=match ws with
 | [a,b]=>(asI a).bind fun i=>(asI b).map fun j=>(i,j)
 | _=>none
theorem two_d(a b:Int):two [.d (.int a),.d (.int b)]=some (a,b):=rfl
theorem oR{ws:List W}{p:Int×Int}:two ws=some p↔ws=[.d (.int p.1),.d (.int p.2)]:=by
 constructor
 · intro h
   match ws with
   | []=>cases h
   | [_]=>cases h
   | _::_::_::_=>cases h
   | [a,b] =>
     have h:((asI a).bind fun i=>(asI b).map fun j=>(i,j))=some p:=h
     cases ha:asI a with
     | none=>rw[ha]at h;cases h
     | some i =>
       cases hb:asI b with
       | none=>rw[ha,hb]at h;cases h
       | some j=>rw[ha,hb]at h;cases h;rw[bq.mp ha,bq.mp hb]
 · rintro rfl;rfl
theorem m_vLR2:yl fs ρ=Ax (fs ρ) fun ws=>am (two ws) fun p=>An (-(2^62)<=p.1/\p.1<2^62 /\ -(2^62)<=p.2/\p.2<2^62) (An ((p.2-p.1).toNat<=2^24) (ret (.ml (aA p.1 (p.2-p.1).toNat)))):=by
 show(Ax (fs ρ) fun ws=>fun(Q:W->Prop)=>∃i j:Int,ws=[.d (.int i),.d (.int j)]/\(-(2^62)<=i/\i<2^62 /\ -(2^62)<=j/\j<2^62)/\(j-i).toNat<=2^24/\Q (.ml (aA i (j-i).toNat)))=_;congr 1;funext ws;refine ae fun Q=>?_;simp only[af,oR,An,ret];exact⟨fun⟨i,j,a,b,c,q⟩=>⟨(i,j),a,b,c,q⟩,fun⟨p,a,b,c,q⟩=>⟨p.1,p.2,a,b,c,q⟩⟩
theorem m_iL:iL fa ρ=Ax (fa ρ) fun w=>am ((asD w.fz).bind lstD) ret:=by
 show(Ax (fa ρ) fun w=>fun(Q:List Bl->Prop)=>∃xs,w.fz = .d (.list xs)/\Q xs)=_;congr 1;funext w;refine ae fun Q=>?_;simp only[af,ret];constructor
 · rintro⟨xs,e,q⟩;exact⟨xs,by rw[e];rfl,q⟩
 · rintro⟨xs,e,q⟩
   cases h:asD w.fz with
   | none=>rw[h]at e;cases e
   | some x=>rw[h]at e;rw[cg.mp h,qR.mp e];exact⟨xs,rfl,q⟩
theorem m_iT:iT fa ρ=Ax (fa ρ) fun w=>am ((asD w.fz).bind tupD) ret:=by
 show(Ax (fa ρ) fun w=>fun(Q:List Bl->Prop)=>∃xs,w.fz = .d (.tuple xs)/\Q xs)=_;congr 1;funext w;refine ae fun Q=>?_;simp only[af,ret];constructor
 · rintro⟨xs,e,q⟩;exact⟨xs,by rw[e];rfl,q⟩
 · rintro⟨xs,e,q⟩
   cases h:asD w.fz with
   | none=>rw[h]at e;cases e
   | some x=>rw[h]at e;rw[cg.mp h,pV.mp e];exact⟨xs,rfl,q⟩
theorem m_iR1:Am fs ρ=Ax (fs ρ) fun ws=>am (ws.head?.bind asI) fun j=>An (ws.length=1) (An (-(2^62)<=j/\j<2^62) (ret (aA 0 j.toNat))):=by
 show(Ax (fs ρ) fun ws=>fun(Q:List Bl->Prop)=>∃j:Int,ws=[.d (.int j)]/\(-(2^62)<=j/\j<2^62)/\Q (aA 0 j.toNat))=_;congr 1;funext ws;refine ae fun Q=>?_;simp only[af,An,ret];constructor
 · rintro⟨j,rfl,a,q⟩;exact⟨j,rfl,rfl,a,q⟩
 · rintro⟨j,e,l,a,q⟩
   match ws,l with
   | [w],_=>rw[show w = .d (.int j)from bq.mp e];exact⟨j,rfl,a,q⟩
theorem m_iR2:Ak fs ρ=Ax (fs ρ) fun ws=>am (two ws) fun p=>An (-(2^62)<=p.1/\p.1<2^62 /\ -(2^62)<=p.2/\p.2<2^62) (ret (aA p.1 (p.2-p.1).toNat)):=by
 show(Ax (fs ρ) fun ws=>fun(Q:List Bl->Prop)=>∃i j:Int,ws=[.d (.int i),.d (.int j)]/\(-(2^62)<=i/\i<2^62 /\ -(2^62)<=j/\j<2^62)/\Q (aA i (j-i).toNat))=_;congr 1;funext ws;refine ae fun Q=>?_;simp only[af,oR,An,ret];exact⟨fun⟨i,j,a,b,q⟩=>⟨(i,j),a,b,q⟩,fun⟨p,a,b,q⟩=>⟨p.1,p.2,a,b,q⟩⟩
noncomputable def ve(b1 b2:Bool)(ws:List W):Option (List Bl):=match ws with
 | [.d x,.d y]=>if cV x=b1/\cV y=b2 then(ee x).bind fun xs=>(ee y).map fun ys=>uS xs ys else none
 | _=>none
theorem m_iZb(b1 b2:Bool):Aj b1 b2 fs ρ=Ax (fs ρ) fun ws=>am (ve b1 b2 ws) ret:=by
 show(Ax (fs ρ) fun ws=>fun(Q:List Bl->Prop)=>∃dx dy xs ys,ws=[.d dx,.d dy]/\ee dx=some xs/\ee dy=some ys/\cV dx=b1/\cV dy=b2/\Q (uS xs ys))=_;congr 1;funext ws;refine ae fun Q=>?_;simp only[af,ret];constructor
 · rintro⟨dx,dy,xs,ys,rfl,a,b,c,d,q⟩;exact⟨_,by show(if cV dx=b1/\cV dy=b2 then(ee dx).bind fun xs=>(ee dy).map fun ys=>uS xs ys else none)=_;rw[if_pos ⟨c,d⟩,a,b];rfl,q⟩
 · rintro⟨zs,e,q⟩;unfold ve at e;split at e
   · rename_i dx dy;split at e
     · rename_i c
       cases ha:ee dx with
       | none=>rw[ha]at e;cases e
       | some xs =>
         cases hb:ee dy with
         | none=>rw[ha,hb]at e;cases e
         | some ys=>rw[ha,hb]at e;cases e;exact⟨dx,dy,xs,ys,rfl,ha,hb,c.1,c.2,q⟩
     · cases e
   · cases e
theorem m_vUse(Pd:List W->(Bl->Prop)->Prop):xD Pd fs ρ=Ax (fs ρ) fun ws=>An (ws.all cX=true) (Ax (Pd ws) fun d=>ret (.d d)):=nr rfl
theorem m_vUseL(Pd:List W->(List Bl->Prop)->Prop):vt Pd fs ρ=Ax (fs ρ) fun ws=>An (ws.all cX=true) (Ax (Pd ws) fun d=>ret (.ml d)):=nr rfl
theorem m_gAll(h:List Bool->Bool)(w:W):u4 h [w]=am ((AB w).bind pf) fun bs=>ret (.d (.bool (h bs))):=by
 refine ae fun Q=>?_;simp only[u4,af,ret,BN,and_true];constructor
 · rintro⟨w',bs,rfl,e,q⟩;exact⟨bs,by rw[eG.mpr e];exact blsD_map bs,q⟩
 · rintro⟨bs,e,q⟩
   cases hl:AB w with
   | none=>rw[hl]at e;cases e
   | some xs=>rw[hl]at e;refine⟨w,bs,rfl,?_,q⟩;rw[<- iB e];exact eG.mp hl
theorem m_gRepT(x y:W):uq x y=am (Az x) fun xs=>am (asI y) fun k=>An (xs≠[]/\1<=k/\k<2^62/\xs.length*k.toNat<=sizeLine) (ret (.d (.tuple (Du k.toNat xs).flatten))):=by
 refine ae fun Q=>?_;simp only[uq,af,jn,bq,An,ret];exact⟨fun⟨i,j,a,b,c,d,e,f,q⟩=>⟨i,a,j,b,⟨c,d,e,f⟩,q⟩,fun⟨i,a,j,b,⟨c,d,e,f⟩,q⟩=>⟨i,j,a,b,c,d,e,f,q⟩⟩
theorem m_gRepL(x y:W):ur x y=am (AB x) fun xs=>am (asI y) fun k=>An (-(2^63)<=k/\k<2^63/\xs.length*k.toNat<=sizeLine) (ret (.ml (Du k.toNat xs).flatten)):=by
 refine ae fun Q=>?_;simp only[ur,af,eG,bq,An,ret];exact⟨fun⟨i,j,a,b,c,d,e,q⟩=>⟨i,a,j,b,⟨c,d,e⟩,q⟩,fun⟨i,a,j,b,⟨c,d,e⟩,q⟩=>⟨i,j,a,b,c,d,e,q⟩⟩
theorem m_vRevT:sA fa ρ=Ax (fa ρ) fun w=>am (Az w) fun xs=>ret (.d (.tuple xs.reverse)):=by
 refine ae fun Q=>?_;simp only[sA,Ax,af,jn,ret]
theorem m_vRevL:sB fa ρ=Ax (fa ρ) fun w=>am (AB w) fun xs=>ret (.ml xs.reverse):=by
 refine ae fun Q=>?_;simp only[sB,Ax,af,eG,ret]
theorem m_gEqS(neg:Bool)(x y:W):u3 neg x y=am (asS x) fun i=>am (asS y) fun j=>ret (.d (.bool (if neg then !decide (i=j)else decide (i=j)))):=by
 refine ae fun Q=>?_;simp only[af,pj,u3,ret];exact⟨fun⟨i,j,a,b,q⟩=>⟨i,a,j,b,q⟩,fun⟨i,a,j,b,q⟩=>⟨i,j,a,b,q⟩⟩
theorem m_vTGet(D:List (Str×Int)):sx D fa ρ=Ax (fa ρ) fun w=>am (asS w) fun k=>ret (.d (sL D k)):=by
 refine ae fun Q=>?_;simp only[sx,Ax,af,pj,ret]
noncomputable def yd(w:W):Option (List Int):=(Az w).bind d0
theorem m_gSrtT(w:W):um [w]=am (yd w) fun ns=>An (ns.length<64) (Ax (anyM fun ns':List Int=>ns'.Perm ns/\ns'.Pairwise (· <= ·)) fun ns'=>ret (.ml (ns'.map .int))):=by
 refine ae fun Q=>?_;simp only[um,af,ret,An,Ax,anyM,BN,and_true];constructor
 · rintro⟨ns,rfl,a,q⟩;exact⟨ns,intsD_map ns,a,fun n' ⟨h1,h2⟩=>q n' h1 h2⟩
 · rintro⟨ns,e,a,q⟩;unfold yd at e
   cases hl:Az w with
   | none=>rw[hl]at e;cases e
   | some xs=>rw[hl]at e;exact⟨ns,by rw[jn.mp hl,<- df e],a,fun n' h1 h2=>q n' ⟨h1,h2⟩⟩
end
inductive Fl where
 | nx (ρ:En)|rt (w:W)|bk (ρ:En)|ct (ρ:En)
noncomputable def mS(t:AG)(ρ:En):Mo Fl:=fun Q=>t ⟨fun ρ=>Q (.nx ρ),fun w=>Q (.rt w),fun ρ=>Q (.bk ρ),fun ρ=>Q (.ct ρ)⟩ ρ
noncomputable def sq(m:Mo Fl)(k:En->Mo Fl):Mo Fl:=Ax m fun fl=>match fl with
 | .nx ρ=>k ρ
 | .rt w=>ret (.rt w)
 | .bk ρ=>ret (.bk ρ)
 | .ct ρ=>ret (.ct ρ)
noncomputable def rV(Q:Bl->Prop):Fl->Prop
 | .nx _=>Q .none
 | .rt w=>∃d,w.fz = .d d/\Q d
 | _=>False
section
variable{fa fb fc:TV}{fs:AF}{f g:TB}{ρ:En}{t u:AG}{k:En->Mo Fl}
theorem aE{Q:Bl->Prop}(h:mS t ρ (rV Q)):t (ng Q) ρ:=h
theorem end_d(Q:Bl->Prop)(d:Bl):rV Q (.rt (.d d))=Q d:=propext ⟨fun⟨_,e,q⟩=>by cases e;exact q,fun q=>⟨d,rfl,q⟩⟩
theorem end_ml(Q:Bl->Prop)(d:List Bl):rV Q (.rt (.ml d))=Q (.list d):=propext ⟨fun⟨_,e,q⟩=>by cases e;exact q,fun q=>⟨_,rfl,q⟩⟩
theorem end_nx(Q:Bl->Prop)(ρ:En):rV Q (.nx ρ)=Q .none:=nr rfl
theorem sq_nx:sq (ret (.nx ρ)) k=k ρ:=nr rfl
theorem sq_rt(w:W):sq (ret (.rt w)) k=ret (.rt w):=nr rfl
theorem sq_bk:sq (ret (.bk ρ)) k=ret (.bk ρ):=nr rfl
theorem sq_ct:sq (ret (.ct ρ)) k=ret (.ct ρ):=nr rfl
theorem sq_grd(P:Prop)(m:Mo Fl):sq (An P m) k=An P (sq m k):=nr rfl
theorem sq_stk:sq stk k=stk:=nr rfl
theorem sq_ite(c:Prop)[Decidable c](a b:Mo Fl):sq (if c then a else b) k=if c then sq a k else sq b k:=by split<;>rfl
theorem sV(o:Option α)(h:α->Mo Fl):sq (am o h) k=am o fun a=>sq (h a) k:=by cases o<;>rfl
theorem s_next:mS sD ρ=ret (.nx ρ):=nr rfl
theorem s_seq:mS (xH t u) ρ=sq (mS t ρ) (mS u):=by
 refine ae fun Q=>?_;show t ⟨fun ρ=>u ⟨_,_,_,_⟩ ρ,_,_,_⟩ ρ↔_;exact ER
theorem s_drop:mS (vG fa) ρ=Ax (fa ρ) fun _=>ret (.nx ρ):=nr rfl
theorem s_ret:mS (xI fa) ρ=Ax (fa ρ) fun w=>ret (.rt w):=nr rfl
theorem s_retN:mS vA ρ=ret (.rt (.d .none)):=nr rfl
theorem s_ifS:mS (vF f t u) ρ=Ax (f ρ) fun b=>if b=true then mS t ρ else mS u ρ:=by
 refine ae fun Q=>?_;simp only[mS,vF,Ax,c5]
theorem s_set(i:Nat):mS (vy i fa) ρ=Ax (fa ρ) fun w=>An (w.isPk=false) (ret (.nx (ρ.set i (some w)))):=nr rfl
theorem s_never:mS (fun _ _=>False) ρ=stk:=nr rfl
theorem m_hName(i:Nat)(x:Bl):uj i x ρ=ret (ρ.set i (some (.d x))):=nr rfl
theorem t9(xs:List Bl):wu xs ρ=An (xs=[]) (ret ρ):=nr rfl
theorem qO{g:AJ}{gs:jU}(xs:List Bl):oi g gs xs ρ=am (match xs with | []=>none|y::r=>some (y,r)) fun p=>Ax (g p.1 ρ) fun ρ'=>gs p.2 ρ':=by
 refine ae fun Q=>?_;simp only[af,oi,Ax];constructor
 · rintro⟨y,r,rfl,q⟩;exact⟨(y,r),rfl,q⟩
 · rintro⟨p,e,q⟩
   cases xs with
   | nil=>cases e
   | cons y r=>cases e;exact⟨y,r,rfl,q⟩
theorem m_hCons_c{g:AJ}{gs:jU}(y:Bl)(r:List Bl):oi g gs (y::r) ρ=Ax (g y ρ) fun ρ'=>gs r ρ':=by rw[qO];rfl
theorem m_hNil_n:wu [] ρ=ret ρ:=by rw[t9,aj rfl]
theorem m_hTup(n:Nat){gs:jU}(x:Bl):wr n gs x ρ=am (tupD x) fun xs=>An (xs.length=n) (gs xs ρ):=by
 refine ae fun Q=>?_;simp only[af,pV,wr,An]
theorem s_asg{g:AJ}:mS (vI fa g) ρ=Ax (fa ρ) fun w=>am (asD w) fun x=>Ax (g x ρ) fun ρ'=>ret (.nx ρ'):=by
 refine ae fun Q=>?_;simp only[mS,vI,Ax,af,cg,ret]
theorem s_par(i j:Nat):mS (xJ i j fs) ρ=Ax (fs ρ) fun ws=>am (dh ws) fun ds=>am (match ds with | [x,y]=>some (x,y)|_=>none) fun p=>ret (.nx ((ρ.set i (some (.d p.1))).set j (some (.d p.2)))):=by
 show(Ax (fs ρ) fun ws=>fun(Q:Fl->Prop)=>∃x y,dh ws=some [x,y]/\Q (.nx ((ρ.set i (some (.d x))).set j (some (.d y)))))=_;congr 1;funext ws;refine ae fun Q=>?_;simp only[af,ret];constructor
 · rintro⟨x,y,e,q⟩;exact⟨_,e,(x,y),rfl,q⟩
 · rintro⟨ds,e,p,e2,q⟩;split at e2
   · cases e2;exact⟨_,_,e,q⟩
   · cases e2
theorem s_par3(i j l:Nat):mS (vB i j l fs) ρ=Ax (fs ρ) fun ws=>am (dh ws) fun ds=>am (match ds with | [x,y,z]=>some (x,y,z)|_=>none) fun p=>ret (.nx (((ρ.set i (some (.d p.1))).set j (some (.d p.2.1))).set l (some (.d p.2.2)))):=by
 show(Ax (fs ρ) fun ws=>fun(Q:Fl->Prop)=>∃x y z,dh ws=some [x,y,z]/\Q (.nx (((ρ.set i (some (.d x))).set j (some (.d y))).set l (some (.d z)))))=_;congr 1;funext ws;refine ae fun Q=>?_;simp only[af,ret];constructor
 · rintro⟨x,y,z,e,q⟩;exact⟨_,e,(x,y,z),rfl,q⟩
 · rintro⟨ds,e,p,e2,q⟩;split at e2
   · cases e2;exact⟨_,_,_,e,q⟩
   · cases e2
noncomputable def zJ(ρ:En)(i:Nat):Option Int:=((ρ[i]?).join).bind asI
noncomputable def asM:W->Option (List Bl)
 | .ml xs=>some xs
 | _=>none
noncomputable def zG(ρ:En)(i:Nat):Option (List Bl):=((ρ[i]?).join).bind asM
theorem asM_ml(xs:List Bl):asM (.ml xs)=some xs:=rfl
theorem yc:asM w=some xs↔w = .ml xs:=by
 constructor
 · intro h;unfold asM at h;split at h<;>simp_all
 · rintro rfl;rfl
theorem gi:zG ρ i=some xs↔ρ[i]?=some (some (.ml xs)):=by
 unfold zG;constructor
 · intro h
   cases q:ρ[i]? with
   | none=>rw[q]at h;cases h
   | some o=>rw[q]at h;cases o with
     | none=>cases h
     | some w=>rw[yc.mp h]
 · intro h;rw[h];rfl
theorem sX{n:Int}:zJ ρ i=some n↔ρ[i]?=some (some (.d (.int n))):=by
 unfold zJ;constructor
 · intro h
   cases q:ρ[i]? with
   | none=>rw[q]at h;cases h
   | some o=>rw[q]at h;cases o with
     | none=>cases h
     | some w=>rw[bq.mp h]
 · intro h;rw[h];rfl
theorem s_aug(i:Nat)(C:Int->Int->Prop)(h:Int->Int->Int):mS (vH i C h fa) ρ=am (zJ ρ i) fun n=>Ax (fa ρ) fun w=>am (asI w) fun m=>An (C n m) (ret (.nx (ρ.set i (some (.d (.int (h n m))))))):=by
 refine ae fun Q=>?_;simp only[mS,vH,Ax,af,sX,bq,An,ret]
theorem s_augL(i:Nat):mS (sG i fa) ρ=am (zG ρ i) fun xs=>Ax (fa ρ) fun w=>am (AB w) fun ys=>An (w.isPk=false) (An (xs.length+ys.length<=sizeLine) (ret (.nx (ρ.set i (some (.ml (xs++ys))))))):=by
 refine ae fun Q=>?_;simp only[mS,sG,af,gi];refine exists_congr fun xs=>and_congr_right fun _=>?_;show(fa ρ fun w=>∃ys,w.isPk=false/\w.dat=some (.list ys)/\_/\_)↔(fa ρ fun w=>_)
 have:(fun w:W=>∃ys,w.isPk=false/\w.dat=some (.list ys)/\xs.length+ys.length<=sizeLine/\Q (.nx (ρ.set i (some (.ml (xs++ys))))))=fun w=>(am (AB w) fun ys=>An (w.isPk=false) (An (xs.length+ys.length<=sizeLine) (ret (.nx (ρ.set i (some (.ml (xs++ys)))))))) Q:=by
  funext w;refine propext ?_;rw[af];simp only[eG,An,ret];exact⟨fun⟨ys,a,b,c,d⟩=>⟨ys,b,a,c,d⟩,fun⟨ys,b,a,c,d⟩=>⟨ys,a,b,c,d⟩⟩
 rw[this]
theorem s_frz(i:Nat):mS (xN i t) ρ=am (zG ρ i) fun xs=>mS t (ρ.set i (some (.d (.list xs)))):=by
 refine ae fun Q=>?_;simp only[mS,xN,af,gi]
theorem s_mut(i:Nat)(h:List Bl->List W->(List Bl->Prop)->Prop):mS (xM i h fs) ρ=am (zG ρ i) fun xs=>Ax (fs ρ) fun ws=>Ax (h xs ws) fun ys=>ret (.nx (ρ.set i (some (.ml ys)))):=by
 refine ae fun Q=>?_;simp only[mS,xM,Ax,af,gi,ret]
theorem m_gApp(xs:List Bl)(w:W):yb xs [w]=am (asD w) fun x=>An (xs.length<sizeLine) (ret (xs++[x])):=by
 refine ae fun Q=>?_;simp only[yb,af,cg,An,ret];constructor
 · rintro⟨x,e,a,q⟩;cases w<;>first|(cases e;exact⟨_,rfl,a,q⟩)|cases e
 · rintro⟨x,rfl,a,q⟩;exact⟨x,rfl,a,q⟩
theorem m_gExt(xs:List Bl)(w:W):ya xs [w]=am ((asD w).bind lstD) fun ys=>An (xs.length+ys.length<=sizeLine) (ret (xs++ys)):=by
 refine ae fun Q=>?_;simp only[ya,af,An,ret];constructor
 · rintro⟨x,e,a,q⟩;cases w<;>first|(cases e;exact⟨_,rfl,a,q⟩)|cases e
 · rintro⟨x,e,a,q⟩
   cases h:asD w with
   | none=>rw[h]at e;cases e
   | some d=>rw[h]at e;rw[cg.mp h,qR.mp e];exact⟨x,rfl,a,q⟩
theorem s_retO(i:Nat):mS (sC i) ρ=am (zG ρ i) fun xs=>ret (.rt (.ml xs)):=by
 refine ae fun Q=>?_;simp only[mS,sC,af,gi,ret]
theorem s_appPop(i j:Nat):mS (kA i j fa) ρ=am (zG ρ i) fun xs=>am (zG ρ j) fun ys=>Ax (fa ρ) fun w=>am (asI w) fun k=>An (0<=k/\k<(ys.length:Int)/\ys.length<2^62) (am (ys[k.toNat]?) fun y=>An (xs.length<sizeLine) (ret (.nx ((ρ.set j (some (.ml (ys.eraseIdx k.toNat)))).set i (some (.ml (xs++[y]))))))):=by
 refine ae fun Q=>?_;simp only[mS,kA,af,gi]
 have:∀xs ys:List Bl,(fun w:W=>∃k y,w = .d (.int k)/\0<=k/\k<(ys.length:Int)/\ys.length<2^62/\ys[k.toNat]?=some y/\xs.length<sizeLine/\Q (.nx ((ρ.set j (some (.ml (ys.eraseIdx k.toNat)))).set i (some (.ml (xs++[y]))))))=fun w=>(am (asI w) fun k=>An (0<=k/\k<(ys.length:Int)/\ys.length<2^62) (am (ys[k.toNat]?) fun y=>An (xs.length<sizeLine) (ret (.nx ((ρ.set j (some (.ml (ys.eraseIdx k.toNat)))).set i (some (.ml (xs++[y])))))))) Q:=by
  intro xs ys;funext w;refine propext ?_;simp only[af,bq,An,ret];exact⟨fun⟨k,y,a,b,c,d,e,f,q⟩=>⟨k,a,⟨b,c,d⟩,y,e,f,q⟩,fun⟨k,a,⟨b,c,d⟩,y,e,f,q⟩=>⟨k,y,a,b,c,d,e,f,q⟩⟩
 constructor
 · rintro⟨xs,ys,e1,e2,q⟩;refine⟨xs,e1,ys,e2,?_⟩;rw[this]at q;exact q
 · rintro⟨xs,e1,ys,e2,q⟩;refine⟨xs,ys,e1,e2,?_⟩;rw[this];exact q
end
noncomputable def Le(a b:En):Prop:=a.length=b.length/\∀(i:Nat) w,a[i]?=some (some w)->b[i]?=some (some w)
theorem Le.refl(a:En):Le a a:=⟨rfl,fun _ _ h=>h⟩
theorem Le.trans{a b c:En}(h:Le a b)(h':Le b c):Le a c:=⟨h.1.trans h'.1,fun i w e=>h'.2 i w (h.2 i w e)⟩
theorem le_nil:Le [] []=True:=propext ⟨fun _=>trivial,fun _=>Le.refl _⟩
theorem le_cn(x:Option W)(a b:En):Le (none::a) (x::b)=Le a b:=by
 refine propext ⟨fun h=>⟨by have:=h.1;simpa using this,fun i w e=>by have:=h.2 (i+1) w (by simpa using e);simpa using this⟩,fun h=>⟨by simp[h.1],fun i w e=>?_⟩⟩
 cases i with
 | zero=>simp at e
 | succ i=>simpa using h.2 i w (by simpa using e)
theorem le_cs(x:Option W)(a b:En):Le (x::a) (x::b)=Le a b:=by
 refine propext ⟨fun h=>⟨by have:=h.1;simpa using this,fun i w e=>by have:=h.2 (i+1) w (by simpa using e);simpa using this⟩,fun h=>⟨by simp[h.1],fun i w e=>?_⟩⟩
 cases i with
 | zero=>simpa using e
 | succ i=>simpa using h.2 i w (by simpa using e)
theorem VR.le{K:W.Frag}{ρ0:En}(R:VR K rl F₀ H₀ F H σ ρ)(h:Le ρ0 ρ):VR K rl F₀ H₀ F H σ ρ0 :=
 ⟨R.g,fun i w e=>R.sl i w (h.2 i w e),fun i j x y v n e1 e2=>R.ap i j x y v n (h.2 i x e1) (h.2 j y e2),fun i xs e=>R.np i xs (h.2 i _ e),h.1.trans R.len⟩
noncomputable def fo:List Nat->En->En
 | [],ρ=>ρ
 | i::l,ρ=>fo l (ρ.set i none)
theorem ua(ρ:En)(i:Nat):Le (ρ.set i none) ρ:=by
 refine⟨by simp,fun j w e=>?_⟩;rw[B5]at e;split at e
 · split at e
   · cases e
   · cases e
 · exact e
theorem fA:∀(l:List Nat)(ρ:En),Le (fo l ρ) ρ
 | [],ρ=>Le.refl ρ
 | i::l,ρ=>(fA l (ρ.set i none)).trans (ua ρ i)
theorem fo_nil(ρ:En):fo [] ρ=ρ:=rfl
theorem fo_cons(i:Nat)(l:List Nat)(ρ:En):fo (i::l) ρ=fo l (ρ.set i none):=rfl
noncomputable def bZ(fl:List Nat)(g:AJ)(t:AG):List Bl->AG
 | [],D,ρ=>D.nx ρ
 | x::xs,D,ρ=>g x ρ fun ρ2=>t {D with nx:=fun ρ'=>bZ fl g t xs D (fo fl ρ'),ct:=fun ρ'=>bZ fl g t xs D (fo fl ρ'),bk:=fun ρ'=>D.nx (fo fl ρ')} ρ2
noncomputable def sF(fl:List Nat)(fi:En->(List Bl->Prop)->Prop)(g:AJ)(t:AG):AG:=fun D ρ=>fi ρ fun xs=>bZ fl g t xs D (fo fl ρ)
section
variable{X:Cx}{rl:Option Addr}{st:Stmt}{rest body:List Stmt}{t u:AG}{a b c e:Expr}{es:List Expr}{fa fb:TV}{fs:AF}{f:TB}{pos p:Pos}
theorem eK(fl:List Nat){fi:En->(List Bl->Prop)->Prop}{g:AJ}(hp:GP (BY X.prog X.w) X.A X.env X.xe)(hc:X.calm=true)(hi:AX X rl tg iter fi)(hg:A0 X rl tg g)(hb:jR X rl body t)
 (hs:autoParam (∀x,C0 iter X.env x=pure x) æc._auto_1):AV X rl (.For tg iter body [] pos) (sF fl fi g t):=by
 obtain⟨wi,p0,k0⟩:=hi;obtain⟨G,p1,k1⟩:=hg;obtain⟨T,p2,k2⟩:=hb;refine⟨_,tJ hp hc p0 p1 p2 hs,fun{F₀ H₀ F H σ ρ} R Dv D ok q=>k0 R _ _ q fun J xs F1 H1 g1 vi q1=>?_⟩;refine⟨fun i m σ H=>m=xs.length-i/\i<=xs.length/\∃F ρ,a_ F1 F/\VR X.K rl F₀ H₀ F H σ ρ/\bZ fl g t (xs.drop i) Dv ρ,⟨xs.length,by simp,B7 _,F1,fo fl ρ,.refl _,(R.grow g1).le (fA fl ρ),by simpa using q1⟩,?_⟩;rintro i m σ H ⟨rfl,hi,F2,ρ2,s2,R2,j2⟩;have sH:a_ F1 H:=s2.trans R2.sub;by_cases hlt:i<xs.length
 · have ei:xs[i]?=some xs[i]:=by simp[hlt]
   rw[CB hlt]at j2;refine .inr ⟨vi.go i H _ ei sH,fun σ' H'=>∃F ρ,a_ F1 F/\VR X.K rl F₀ H₀ F H' σ' ρ/\bZ fl g t (xs.drop (i+1)) Dv ρ,fun σ' H' z=>⟨xs.length-(i+1),by omega,rfl,hlt,z⟩,fun v H' y=>?_⟩;obtain⟨Fy,gy,rv⟩:=vi.yld i H v H' _ F2 ei s2 R2.sub R2.reel y;refine k1 (R2.grow gy) v _ _ _ rv j2 fun F3 H3 σ3 ρ3 s3 n3 R3 q3=>?_;have s13:a_ F1 F3:=s2.trans (gy.fs.trans s3.fs)
   exact k2 R3 {Dv with nx:=fun ρ'=>bZ fl g t (xs.drop (i+1)) Dv (fo fl ρ'),ct:=fun ρ'=>bZ fl g t (xs.drop (i+1)) Dv (fo fl ρ'),bk:=fun ρ'=>Dv.nx (fo fl ρ')} _
    ⟨fun F4 H4 σ4 ρ4 s4 R4 q4=>⟨F4,fo fl ρ4,s13.trans s4,R4.le (fA fl ρ4),q4⟩,ok.rt,fun F4 H4 σ4 ρ4 s4 R4 q4=>ok.nx _ _ _ _ (g1.fs.trans (s13.trans s4)) (R4.le (fA fl ρ4)) q4,fun F4 H4 σ4 ρ4 s4 R4 q4=>⟨F4,fo fl ρ4,s13.trans s4,R4.le (fA fl ρ4),q4⟩⟩ q3
 · have e:i=xs.length:=by omega
   subst e;rw[Em]at j2;exact .inl ⟨vi.stop _ H (By _) sH,ok.nx _ _ _ _ (g1.fs.trans s2) R2 j2⟩
noncomputable def zg(fl:List Nat)(f:TB)(t:AG)(m:Nat):AG:=fun D ρ=>f ρ fun b=>if b=true then t {D with nx:=fun ρ'=>∃k,∃h:k<m,zg fl f t k D (fo fl ρ'),ct:=fun ρ'=>∃k,∃h:k<m,zg fl f t k D (fo fl ρ'),bk:=fun ρ'=>D.nx (fo fl ρ')} ρ else D.nx ρ
termination_by m
noncomputable def kf(fl:List Nat)(f:TB)(t:AG):AG:=fun D ρ=>∃m,zg fl f t m D (fo fl ρ)
theorem oJ(fl:List Nat)(f:TB)(t:AG)(m:Nat)(D:VEnds)(ρ:En):zg fl f t m D ρ=f ρ fun b=>if b=true then t {D with nx:=fun ρ'=>∃k,∃h:k<m,zg fl f t k D (fo fl ρ'),ct:=fun ρ'=>∃k,∃h:k<m,zg fl f t k D (fo fl ρ'),bk:=fun ρ'=>D.nx (fo fl ρ')} ρ else D.nx ρ:=by
 conv=>lhs;unfold zg
theorem dj(fl:List Nat)(hp:GP (BY X.prog X.w) X.A X.env X.xe)(hc:PB X rl c f)(hb:jR X rl body t):AV X rl (.While c body [] pos) (kf fl f t):=by
 obtain⟨t0,p0,k0⟩:=hc;obtain⟨t1,p1,k1⟩:=hb;refine⟨_,iV hp p0 p1,fun{F₀ H₀ F H σ ρ} R Dv D ok q=>?_⟩;obtain⟨m,j0⟩:=q;refine⟨fun m σ' H'=>∃F' ρ',a_ F F'/\VR X.K rl F₀ H₀ F' H' σ' ρ'/\zg fl f t m Dv ρ',⟨m,F,fo fl ρ,.refl _,R.le (fA fl ρ),j0⟩,?_⟩;rintro m σ2 H2 ⟨F2,ρ2,s2,R2,j⟩;rw[oJ]at j;refine k0 R2 _ _ j fun b F1 H1 g1 q1=>?_
 cases b with
 | false=>exact ok.nx _ _ _ _ (s2.trans g1.fs) (R2.grow g1) q1
 | true =>
   refine⟨fun σ' H'=>∃F' ρ',a_ F F'/\VR X.K rl F₀ H₀ F' H' σ' ρ'/\∃m',m'<m/\zg fl f t m' Dv ρ',fun σ' H' ⟨F',ρ',s',R',m',hm,j⟩=>⟨m',hm,F',ρ',s',R',j⟩,?_⟩
   exact k1 (R2.grow g1) {Dv with nx:=fun ρ'=>∃k,∃h:k<m,zg fl f t k Dv (fo fl ρ'),ct:=fun ρ'=>∃k,∃h:k<m,zg fl f t k Dv (fo fl ρ'),bk:=fun ρ'=>Dv.nx (fo fl ρ')} _
    ⟨fun F3 H3 σ3 ρ3 s3 R3 ⟨m',hm,q3⟩=>⟨F3,fo fl ρ3,(s2.trans g1.fs).trans s3,R3.le (fA fl ρ3),m',hm,q3⟩,ok.rt,fun F3 H3 σ3 ρ3 s3 R3 q3=>ok.nx _ _ _ _ ((s2.trans g1.fs).trans s3) (R3.le (fA fl ρ3)) q3,fun F3 H3 σ3 ρ3 s3 R3 ⟨m',hm,q3⟩=>⟨F3,fo fl ρ3,(s2.trans g1.fs).trans s3,R3.le (fA fl ρ3),m',hm,q3⟩⟩ q1
end
noncomputable def z_(fl:List Nat)(k:En->Mo Fl):Fl->Mo Fl
 | .nx ρ=>k (fo fl ρ)
 | .ct ρ=>k (fo fl ρ)
 | .bk ρ=>ret (.nx (fo fl ρ))
 | .rt w=>ret (.rt w)
noncomputable def bX(fl:List Nat)(b:Bl->En->Mo Fl):List Bl->En->Mo Fl
 | [],ρ=>ret (.nx ρ)
 | x::xs,ρ=>Ax (b x ρ) (z_ fl (bX fl b xs))
theorem lE(fl:List Nat)(g:AJ)(t:AG):∀(xs:List Bl)(ρ:En),mS (bZ fl g t xs) ρ=bX fl (fun x ρ=>Ax (g x ρ) (mS t)) xs ρ
 | [],ρ=>rfl
 | x::xs,ρ=>by
   refine ae fun Q=>?_;show(g x ρ fun ρ2=>t ⟨fun ρ'=>mS (bZ fl g t xs) (fo fl ρ') Q,fun w=>Q (.rt w),fun ρ'=>Q (.nx (fo fl ρ')),fun ρ'=>mS (bZ fl g t xs) (fo fl ρ') Q⟩ ρ2)↔_;simp only[lE fl g t xs];exact ER
noncomputable def Ay(g:AJ)(t:AG):Bl->En->Mo Fl:=fun x ρ=>Ax (g x ρ) (mS t)
theorem bdy_ap(g:AJ)(t:AG)(x:Bl)(ρ:En):Ay g t x ρ=Ax (g x ρ) (mS t):=nr rfl
theorem s_for(fl:List Nat)(fi:En->(List Bl->Prop)->Prop)(g:AJ)(t:AG)(ρ:En):mS (sF fl fi g t) ρ=Ax (fi ρ) fun xs=>bX fl (Ay g t) xs (fo fl ρ):=by
 refine ae fun Q=>?_;show(fi ρ fun xs=>mS (bZ fl g t xs) (fo fl ρ) Q)↔_;simp only[lE];exact ER
noncomputable def z9(fl:List Nat)(J:En->Prop)(Q:Fl->Prop):Fl->Prop
 | .nx ρ=>J (fo fl ρ)
 | .ct ρ=>J (fo fl ρ)
 | .bk ρ=>Q (.nx (fo fl ρ))
 | .rt w=>Q (.rt w)
section
variable{α σ:Type}{fl:List Nat}{b:Bl->En->Mo Fl}
theorem i9(J:Nat->En->Prop){Q:Fl->Prop}:∀{xs:List Bl}{ρ:En}(n:Nat),J n ρ->(∀i x ρ,xs[i]?=some x->J (n+i) ρ->∀k:Fl->Prop,(∀r,z9 fl (J (n+i+1)) Q r->k r)->b x ρ k)->(∀ρ,J (n+xs.length) ρ->Q (.nx ρ))->bX fl b xs ρ Q
 | [],ρ,n,h0,_,fin=>fin ρ h0
 | x::xs,ρ,n,h0,step,fin=>by
   refine step 0 x ρ rfl h0 (fun r=>z_ fl (bX fl b xs) r Q) fun r hr=>?_;have rc:∀ρ',J (n+1) ρ'->bX fl b xs ρ' Q:=fun ρ' h'=>i9 J (n+1) h' (fun i y ρ e j k hk=>step (i+1) y ρ (by simpa using e) (by rw[show n+(i+1)=n+1+i by omega];exact j) k (by rw[show n+(i+1)+1=n+1+i+1 by omega];exact hk)) (fun ρ j=>fin ρ (by rw[CL,show n+(xs.length+1)=n+1+xs.length by omega];exact j))
   cases r with
   | nx ρ'=>exact rc _ hr
   | ct ρ'=>exact rc _ hr
   | bk ρ'=>exact hr
   | rt w=>exact hr
theorem qT{xs:List α}{enc:α->Bl}{Q:Fl->Prop}(J:Nat->En->Prop)(h0:J 0 ρ)
 (step:∀i (h:i<xs.length) ρ,J i ρ->∀k:Fl->Prop,(∀r,z9 fl (J (i+1)) Q r->k r)->b (enc xs[i]) ρ k)(fin:∀ρ,J xs.length ρ->Q (.nx ρ)):bX fl b (xs.map enc) ρ Q:=by
 refine i9 J 0 h0 (fun i x ρ e j k hk=>?_) (fun ρ j=>fin ρ (by simpa using j));have hi:i<xs.length:=by have:=(BG.mp e).1;simpa using this
 rw[Cd,B0 hi]at e;cases e;rw[Nat.zero_add]at j hk;exact step i hi ρ j k hk
theorem nX{lo:Int}{Q:Fl->Prop}(J:Nat->En->Prop)(h0:J 0 ρ)
 (step:∀i,i<n->∀ρ,J i ρ->∀k:Fl->Prop,(∀r,z9 fl (J (i+1)) Q r->k r)->b (.int (lo+i)) ρ k)(fin:∀ρ,J n ρ->Q (.nx ρ)):bX fl b (aA lo n) ρ Q:=by
 refine qT (xs:=BZ n) J h0 (fun i h ρ j k hk=>?_) (fun ρ j=>fin ρ (by simpa using j));rw[List.getElem_range];exact step i (by simpa using h) ρ j k hk
theorem lD{xs:List α}{enc:α->Bl}(st:σ->En)(f:σ->α->σ)(s:σ)(I:σ->Prop)(h0:I s)(step:∀x∈xs,∀s,I s->I (f s x)/\∃ρ',b (enc x) (st s)=ret (.nx ρ')/\fo fl ρ'=st (f s x)):bX fl b (xs.map enc) (st s)=ret (.nx (st (xs.foldl f s))):=by
 induction xs generalizing s with
 | nil=>rfl
 | cons x xs ih =>
   obtain⟨h1,ρ',e1,e2⟩:=step x Bw s h0;show Ax (b (enc x) (st s)) (z_ fl (bX fl b (xs.map enc)))=_;rw[e1,bnd_ret];show bX fl b (xs.map enc) (fo fl ρ')=_;rw[e2];exact ih (f s x) h1 fun y hy=>step y (Br _ hy)
theorem jI{lo:Int}(st:Nat->En)(h0:∀i,i<n->∃ρ',b (.int (lo+i)) (st i)=ret (.nx ρ')/\fo fl ρ'=st (i+1)):bX fl b (aA lo n) (st 0)=ret (.nx (st n)):=by
 have key:∀k m,m+k=n->bX fl b ((aA lo n).drop m) (st m)=ret (.nx (st n)):=by
  intro k
  induction k with
  | zero => intro m e;have e:m=n:=by omega
            subst e;rw[List.drop_of_length_le (by rw[bV];omega)];rfl
  | succ k ih =>
    intro m e;have hm:m<(aA lo n).length:=by rw[bV];omega
    rw[CB hm];have ex:(aA lo n)[m] = .int (lo+m):=by simp[aA]
    rw[ex];obtain⟨ρ',e1,e2⟩:=h0 m (by omega);show Ax (b (.int (lo+m)) (st m)) (z_ fl (bX fl b ((aA lo n).drop (m+1))))=_;rw[e1,bnd_ret];show bX fl b _ (fo fl ρ')=_;rw[e2];exact ih (m+1) (by omega)
 have:=key n 0 (by omega);simpa using this
end
noncomputable def d4(fl:List Nat)(f:TB)(t:AG)(ρ:En):Mo Fl:=fun Q=>∃m,mS (zg fl f t m) ρ Q
theorem s_while(fl:List Nat)(f:TB)(t:AG)(ρ:En):mS (kf fl f t) ρ=d4 fl f t (fo fl ρ):=nr rfl
theorem mX(fl:List Nat)(f:TB)(t:AG)(m:Nat)(ρ:En):mS (zg fl f t m) ρ=Ax (f ρ) fun b=>if b=true then Ax (mS t ρ) (z_ fl fun ρ'=>fun Q=>∃k,∃h:k<m,mS (zg fl f t k) ρ' Q)else ret (.nx ρ):=by
 refine ae fun Q=>?_;show zg fl f t m _ ρ↔_;rw[oJ];simp only[Ax,c5];exact ER
theorem pp{fl:List Nat}{f:TB}{t:AG}(h:f ρ=ret false):d4 fl f t ρ=ret (.nx ρ):=by
 refine ae fun Q=>?_;constructor
 · rintro⟨m,q⟩;rw[mX,h,bnd_ret,if_neg (by decide)]at q;exact q
 · intro q;refine⟨0,?_⟩;rw[mX,h,bnd_ret,if_neg (by decide)];exact q
theorem po{fl:List Nat}{f:TB}{t:AG}{ρ':En}(h:f ρ=ret true)(h2:mS t ρ=ret (.nx ρ')):d4 fl f t ρ=d4 fl f t (fo fl ρ'):=by
 refine ae fun Q=>?_;constructor
 · rintro⟨m,q⟩;rw[mX,h,bnd_ret,if_pos rfl,h2,bnd_ret]at q;obtain⟨k,_,q⟩:=q;exact⟨k,q⟩
 · rintro⟨m,q⟩;refine⟨m+1,?_⟩;rw[mX,h,bnd_ret,if_pos rfl,h2,bnd_ret];exact⟨m,Nat.lt_succ_self m,q⟩
theorem jX{σ:Type}{fl:List Nat}{f:TB}{t:AG}(st:σ->En)(c:σ->Bool)(nxt:σ->σ)(μ:σ->Nat)(I:σ->Prop)
 (hf:∀s,I s->f (st s)=ret (c s))(ht:∀s,I s->c s=true->I (nxt s)/\μ (nxt s)<μ s/\∃ρ',mS t (st s)=ret (.nx ρ')/\fo fl ρ'=st (nxt s))(s:σ)(hs:I s):∃s',I s'/\c s'=false/\d4 fl f t (st s)=ret (.nx (st s')):=by
 induction hm:μ s using Nat.strongRecOn generalizing s with
 | ind n ih =>
   subst hm
   cases hc:c s with
   | false=>exact⟨s,hs,hc,pp (by rw[hf s hs,hc])⟩
   | true =>
     obtain⟨i1,m1,ρ',e1,e2⟩:=ht s hs hc;obtain⟨s',a,b,e⟩:=ih _ m1 (nxt s) i1 rfl;exact⟨s',a,b,by rw[po (by rw[hf s hs,hc]) e1,e2,e]⟩
noncomputable def oK(ρ0:En)(g:AJ)(ft:TB)(fe:TV):List Bl->List Bl->(List Bl->Prop)->Prop
 | [],acc,Q=>Q acc
 | x::xs,acc,Q=>g x ρ0 fun ρ2=>Le ρ0 ρ2/\ft ρ2 fun b=>if b=true then fe ρ2 fun w=>∃d,w.fz = .d d/\acc.length<sizeLine/\oK ρ0 g ft fe xs (acc++[d]) Q else oK ρ0 g ft fe xs acc Q
noncomputable def kw(fi:En->(List Bl->Prop)->Prop)(fr:List (Option Nat))(g:AJ)(ft:TB)(fe:TV):TV:=fun ρ Q=>fi ρ fun xs=>oK (fR fr ρ) g ft fe xs [] fun ds=>Q (.ml ds)
section
variable{X:Cx}{rl:Option Addr}{elt tg iter:Expr}{ifs:List Expr}{scope:Scope}{pos:Pos}{fi:En->(List Bl->Prop)->Prop}{g:AJ}{ft:TB}{fe:TV}
theorem nY{N':List Str}{wi:TI}(fr:List (Option Nat))(k0:∀{F₀ H₀ F H:Hp}{σ:St}{ρ:En},VR X.K rl F₀ H₀ F H σ ρ->∀(Qd:List Bl->Prop)(R:It->Hp->Prop),fi ρ Qd ->
 (∀J xs F' H',Grow rl F H F' H'->VIt X.K rl F' J xs->Qd xs->R J H')->wi σ H R)
 (hg:∀y,A0 (blk X N' scope y) rl tg g)(ht:∀y,uO (blk X N' scope y) rl ifs ft)(he:∀y,PV (blk X N' scope y) rl elt fe)
 (R:VR X.K rl F₀ H₀ F H σ ρ)(Qd:W->Prop)(Q:VK)(q:kw fi fr g ft fe ρ Qd)
 (k:∀v w F' H',Grow rl F H F' H'->ck X.K rl F' H' v w->c8 H v w->Qd w->Q v H'):sT wi fr (fun y=>C_ (hg y)) (fun y=>C_ (ht y)) (fun y=>C_ (he y)) σ H Q:=by
 refine k0 R _ _ q fun J xs F1 H1 g1 vi q1=>?_;intro D hD;have rD:rl≠some D:=fun e=>by obtain⟨o,z⟩:=g1.reel.live e;rw[hD]at z;cases z
 have FD:F1 D=none:=g1.sub.free hD;have gD:Grow rl F1 H1 F1 (upd H1 D (.lst [])):=Grow.laid g1.sub g1.reel hD;have R1:=R.grow g1;have n0:mV (fR fr ρ):=eB
 refine⟨fun i m acc σc Hc=>m=xs.length-i/\i<=xs.length/\∃Fc ds,VR X.K rl F1 H1 Fc Hc σc (fR fr ρ)/\Hc D=some (.lst acc)/\Fc D=none/\Reps X.K Fc acc ds/\oK (fR fr ρ) g ft fe (xs.drop i) ds (fun ds=>Qd (.ml ds)),
  ⟨xs.length,by simp,B7 _,F1,[],iI R1 gD,ak,FD,.nil,by simpa using q1⟩,?_⟩
 rintro z i m acc σc Hc ⟨rfl,hi,Fc,ds,Rc,hDc,fDc,rs,q2⟩;have sH:a_ F1 Hc:=Rc.g.fs.trans Rc.sub;by_cases hlt:i<xs.length
 · have ei:xs[i]?=some xs[i]:=by simp[hlt]
   have ed:xs.drop i=xs[i]::xs.drop (i+1):=CB hlt;rw[ed]at q2;refine .inr ⟨vi.go i Hc _ ei sH,fun v H' y=>?_⟩;obtain⟨Fy,gy,rv⟩:=vi.yld i Hc v H' _ Fc ei Rc.g.fs Rc.sub Rc.reel y;refine(BQ (hg z)).2 (Rc.grow gy) v _ _ _ rv q2 fun F3 H3 σ3 ρ3 g3 n3 R3 ⟨le3,q3⟩=>?_;refine(BQ (ht z)).2 R3 _ _ q3 fun b F4 H4 g4 q4=>?_;have R4:=R3.grow g4;have g34:=(gy.trans g3).trans g4;have keepD:∀{Fx Hx:Hp},Grow rl Fc Hc Fx Hx->Hx D=some (.lst acc)/\Fx D=none:=fun gx=>⟨gx.same D _ hDc rD,by rw[gx.old D _ hDc];exact fDc⟩
   cases b with
   | false=>exact⟨xs.length-(i+1),by omega,rfl,hlt,F4,ds,R4.le le3,(keepD g34).1,(keepD g34).2,rs.mono g34.fs,q4⟩
   | true =>
     refine(BQ (he z)).2 R4 _ _ q4 fun v5 w5 F5 H5 g5 r5 n5 ⟨d,ed5,hl,q5⟩=>?_;obtain⟨F6,g6,s6,r6⟩:=ck.fz g5 r5 n5;rw[ed5]at r6;have g36:=g34.trans g6;refine⟨(keepD g36).1,by rw[rs.length];exact hl,xs.length-(i+1),by omega,rfl,hlt,F6,ds++[d],((R4.grow g6).le le3).other n0 hD (keepD g36).2 rD,ak,(keepD g36).2,(rs.mono g36.fs).snoc r6,q5⟩
 · have e:i=xs.length:=by omega
   subst e;rw[Em]at q2;refine .inl ⟨vi.stop _ Hc (By _) sH,k _ (.ml ds) Fc Hc (g1.trans Rc.g) ⟨D,acc,rfl,fDc,rD,hDc,rs⟩ (fun a ea=>by cases ea;exact g1.freeB hD) q2⟩
theorem b8(N':List Str)(fr:List (Option Nat))(hc:X.calm=true)(hi:AX X rl tg iter fi)
 (hg:∀y,A0 (blk X N' scope y) rl tg g)(ht:∀y,uO (blk X N' scope y) rl ifs ft)(he:∀y,PV (blk X N' scope y) rl elt fe)
 (hfr:autoParam (rm fr N' X.N scope X.env.scope=true) æa._auto_1)(hsc:autoParam (sZ scope X.env.scope=true) æa._auto_1)
 (hs:autoParam (∀x,C0 iter X.env x=pure x) æc._auto_1):PV X rl (.ListComp elt [⟨tg,iter,ifs,0⟩] scope pos) (kw fi fr g ft fe):=by
 obtain⟨wi,p0,k0⟩:=hi;exact⟨_,nI N' fr hc p0 hfr hsc (fun y=>(BQ (hg y)).1) (fun y=>(BQ (ht y)).1) (fun y=>(BQ (he y)).1) hs,fun R Qd Q q k=>nY fr k0 hg ht he R Qd Q q k⟩
end
noncomputable def Ac(ρ0:En)(g:AJ)(ft:TB)(fe:TV)(x:Bl):Mo (Option Bl):=Ax (g x ρ0) fun ρ2=>An (Le ρ0 ρ2) (Ax (ft ρ2) fun b=>if b=true then Ax (fe ρ2) fun w=>am (asD w.fz) fun d=>ret (some d)else ret none)
noncomputable def b7(b:Bl->Mo (Option Bl)):List Bl->List Bl->Mo (List Bl)
 | [],acc=>ret acc
 | x::xs,acc=>Ax (b x) fun o=>match o with
   | some d=>An (acc.length<sizeLine) (b7 b xs (acc++[d]))
   | none=>b7 b xs acc
theorem my(ρ0:En)(g:AJ)(ft:TB)(fe:TV):∀(xs acc:List Bl),oK ρ0 g ft fe xs acc=b7 (Ac ρ0 g ft fe) xs acc
 | [],acc=>rfl
 | x::xs,acc=>by
   refine ae fun Q=>?_;show(g x ρ0 fun ρ2=>Le ρ0 ρ2/\ft ρ2 fun b=>if b=true then fe ρ2 fun w=>∃d,w.fz = .d d/\acc.length<sizeLine/\oK ρ0 g ft fe xs (acc++[d]) Q else oK ρ0 g ft fe xs acc Q)↔(Ax (Ac ρ0 g ft fe x) _) Q;simp only[my ρ0 g ft fe xs]
   have:∀(ρ2:En)(b:Bool),(if b=true then fe ρ2 fun w=>∃d,w.fz = .d d/\acc.length<sizeLine/\b7 (Ac ρ0 g ft fe) xs (acc++[d]) Q else b7 (Ac ρ0 g ft fe) xs acc Q)=(Ax (if b=true then Ax (fe ρ2) fun w=>am (asD w.fz) fun d=>ret (some d)else ret none) fun o=>match o with
   | some d=>An (acc.length<sizeLine) (b7 (Ac ρ0 g ft fe) xs (acc++[d]))
   | none=>b7 (Ac ρ0 g ft fe) xs acc) Q:=by
     intro ρ2 b
     cases b with
     | false=>rfl
     | true =>
       rw[if_pos rfl,if_pos rfl];show _=fe ρ2 fun w=>_;congr 1;funext w;refine propext ?_;show _↔(Ax (am (asD w.fz) fun d=>ret (some d)) _) Q;rw[bnd_opt,af];simp only[cg];exact ER
   simp only[this];exact ER
theorem m_comp(fi:En->(List Bl->Prop)->Prop)(fr:List (Option Nat))(g:AJ)(ft:TB)(fe:TV)(ρ:En):kw fi fr g ft fe ρ=Ax (fi ρ) fun xs=>Ax (b7 (Ac (fR fr ρ) g ft fe) xs []) fun ds=>ret (.ml ds):=by
 refine ae fun Q=>?_;show(fi ρ fun xs=>oK (fR fr ρ) g ft fe xs [] fun ds=>Q (.ml ds))↔_;simp only[my];exact ER
section
variable{α:Type}{b:Bl->Mo (Option Bl)}
theorem dO{enc:α->Bl}(f:α->Option Bl):∀(xs:List α)(acc:List Bl),(∀x∈xs,b (enc x)=ret (f x))->acc.length+xs.length<=sizeLine->b7 b (xs.map enc) acc=ret (acc++xs.filterMap f)
 | [],acc,_,_=>by simp[b7]
 | x::xs,acc,h,hl=>by
   show Ax (b (enc x)) _=_;rw[h x Bw,bnd_ret];simp at hl
   cases e:f x with
   | none =>
     show b7 b (xs.map enc) acc=_
     rw[dO f xs acc (fun y hy=>h y (Br _ hy)) (by omega),List.filterMap_cons_none e]
   | some d =>
     show An (acc.length<sizeLine) (b7 b (xs.map enc) (acc++[d]))=_;rw[aj (by omega),dO f xs (acc++[d]) (fun y hy=>h y (Br _ hy)) (by simp;omega),List.filterMap_cons_some e];simp
theorem rJ{xs:List α}{enc:α->Bl}(f:α->Option Bl)(h:∀x∈xs,b (enc x)=ret (f x))(hl:xs.length<=sizeLine):b7 b (xs.map enc) []=ret (xs.filterMap f):=by
 have:=dO f xs [] h (by simpa using hl);simpa using this
theorem comp_map{xs:List α}{enc:α->Bl}(f:α->Bl)(h:∀x∈xs,b (enc x)=ret (some (f x)))(hl:xs.length<=sizeLine):b7 b (xs.map enc) []=ret (xs.map f):=by
 rw[rJ (fun x=>some (f x)) h hl,List.filterMap_eq_map']
theorem mw{lo:Int}(f:Nat->Bl)(h:∀j,j<n->b (.int (lo+j))=ret (some (f j)))(hl:n<=sizeLine):b7 b (aA lo n) []=ret ((BZ n).map f) :=
 comp_map (xs:=BZ n) f (fun j hj=>h j (CT.mp hj)) (by simpa using hl)
end
section
variable(c:Prop)[Decidable c]
theorem ite_nx(a b:En):(if c then ret (Fl.nx a)else ret (Fl.nx b))=ret (Fl.nx (if c then a else b)):=by split<;>rfl
theorem ite_rt(a b:W):(if c then ret (Fl.rt a)else ret (Fl.rt b))=ret (Fl.rt (if c then a else b)):=by split<;>rfl
theorem ite_retd(a b:Bl):(if c then ret (W.d a)else ret (W.d b))=ret (W.d (if c then a else b)):=by split<;>rfl
theorem ite_retb(a b:Bool):(if c then ret a else ret b)=ret (if c then a else b):=by split<;>rfl
theorem ite_rets(a b:Bl):(if c then ret (some a)else ret (some b))=ret (some (if c then a else b)):=by split<;>rfl
theorem ite_cons{α:Type}(x y:α)(l m:List α):(if c then x::l else y::m)=(if c then x else y)::(if c then l else m):=by split<;>rfl
theorem ite_some{α:Type}(x y:α):(if c then some x else some y)=some (if c then x else y):=by split<;>rfl
theorem ite_d(a b:Bl):(if c then W.d a else W.d b)=W.d (if c then a else b):=by split<;>rfl
theorem ite_pi(a b:Int):(if c then B8 a else B8 b)=B8 (if c then a else b):=by split<;>rfl
theorem ite_pb(a b:Bool):(if c then E5 a else E5 b)=E5 (if c then a else b):=by split<;>rfl
theorem itb_tt(b y:Bool):(if b=true then true else y)=(b||y):=by cases b<;>rfl
theorem itb_ff(b y:Bool):(if b=true then y else false)=(b&&y):=by cases b<;>rfl
theorem itb_ft(b y:Bool):(if b=true then false else y)=(!b&&y):=by cases b<;>rfl
theorem itb_tf(b y:Bool):(if b=true then y else true)=(!b||y):=by cases b<;>rfl
end
theorem ah(h:n<=1000):(n<=sizeLine)=True:=by have:=B3;exact propext ⟨fun _=>trivial,fun _=>by omega⟩
theorem tup2(x y:Bl):(match [x,y]with | [x,y]=>some (x,y)|_=>none)=some (x,y):=rfl
theorem bnd_tt{α β:Type}(a:α)(f:α->Mo β):Ax (fun Q=>Q a) f=f a:=nr rfl
section
variable{α β:Type}
theorem aL{P:α->Prop}{f:α->Mo β}{Q:β->Prop}(h:∀a,P a->f a Q):Ax (anyM P) f Q:=h
theorem fC{P:Prop}{m:Mo α}{Q:α->Prop}(h:P)(h':m Q):An P m Q:=⟨h,h'⟩
end
theorem aK{Q:Bl->Prop}(h:Q d):ret (Fl.rt (.d d)) (rV Q):=⟨d,rfl,h⟩
section
variable{α:Type}{k:En->Mo Fl}{Q:Fl->Prop}
theorem zC{m:Mo α}{h:α->Mo Fl}(z:Ax m (fun a=>sq (h a) k) Q):sq (Ax m h) k Q:=z
theorem zB{o:Option α}{h:α->Mo Fl}(z:am o (fun a=>sq (h a) k) Q):sq (am o h) k Q:=by rw[sV];exact z
noncomputable def kc(k1 k2:En->Mo Fl):En->Mo Fl:=fun ρ=>sq (k1 ρ) k2
theorem kc_ap(k1 k2:En->Mo Fl)(ρ:En):kc k1 k2 ρ=sq (k1 ρ) k2:=nr rfl
theorem sq_sq(m:Mo Fl)(k1 k2:En->Mo Fl):sq (sq m k1) k2=sq m (kc k1 k2):=by
 refine ae fun Q=>?_;show m _↔m _;have:∀fl:Fl,(sq (match fl with | .nx ρ=>k1 ρ | .rt w=>ret (.rt w) | .bk ρ=>ret (.bk ρ) | .ct ρ=>ret (.ct ρ)) k2) Q=(match fl with | .nx ρ=>kc k1 k2 ρ | .rt w=>ret (.rt w) | .bk ρ=>ret (.bk ρ) | .ct ρ=>ret (.ct ρ):Mo Fl) Q:=by intro fl;cases fl<;>rfl
 exact Iff.of_eq (congrArg m (funext this))
theorem aX{P:α->Prop}{f:α->Mo Fl}(z:∀a,P a->sq (f a) k Q):sq (Ax (anyM P) f) k Q:=z
end
theorem pk_sc(x:List Int):L2.VL.W.peek (.sc x) = .sc x:=rfl
theorem fz_sc(x:List Int):(W.sc x).fz = .sc x:=rfl
theorem arg_sc(x:List Int):cX (.sc x)=true:=rfl
theorem isPk_sc(x:List Int):(W.sc x).isPk=false:=rfl
section
variable{X:Cx}{rl:Option Addr}{a b c e:Expr}{es:List Expr}{fa fb fc:TV}{fs:AF}{pos p p2:Pos}{ρ:En}
noncomputable def uu:List W->(W->Prop)->Prop:=fun ws Q=>∃ns,ws=[.sc ns]/\Q (.d (.int ns.length))
noncomputable def asSc:W->Option (List Int)
 | .sc ns=>some ns
 | _=>none
theorem asSc_s(ns:List Int):asSc (.sc ns)=some ns:=rfl
theorem iD{i:List Int}:asSc w=some i↔w = .sc i:=by
 constructor
 · intro h;unfold asSc at h;split at h<;>simp_all
 · rintro rfl;rfl
theorem m_gLenS(w:W):uu [w]=am (asSc w) fun ns=>ret (.d (.int ns.length)):=by
 refine ae fun Q=>?_;simp only[uu,af,iD,ret,BN,and_true]
noncomputable def x6:W->W->(W->Prop)->Prop:=fun x y Q=>∃ns i n,x = .sc ns/\y = .d (.int i)/\atI ns i=some n/\Q (.d (.int n))
theorem dQ{β:Type}(f:α->β)(xs:List α)(i:Int):atI (xs.map f) i=(atI xs i).map f:=by
 unfold atI;rw[Bu];cases ixN xs.length i<;>simp
theorem m_gIxS(x y:W):x6 x y=am (asSc x) fun ns=>am (asI y) fun i=>am (atI ns i) fun n=>ret (.d (.int n)):=by
 refine ae fun Q=>?_;simp only[x6,af,iD,bq,ret];exact⟨fun⟨i,j,z,a,b,c,q⟩=>⟨i,a,j,b,z,c,q⟩,fun⟨i,a,j,b,z,c,q⟩=>⟨i,j,z,a,b,c,q⟩⟩
noncomputable def xE(fa:TV)(fl fh:AH):TV:=fun ρ Q=>fa ρ fun w=>fl ρ fun l=>fh ρ fun h=>∃ns:List Int,w = .sc ns/\Q (.ml (cutD (ns.map .int) l h))
theorem m_vSlS{fl fh:AH}:xE fa fl fh ρ=Ax (fa ρ) fun w=>Ax (fl ρ) fun l=>Ax (fh ρ) fun h=>am (asSc w) fun ns=>ret (.ml (cutD (ns.map .int) l h)):=by
 refine ae fun Q=>?_;simp only[xE,Ax,af,iD,ret]
end
noncomputable def zE(K:W.Frag)(pre:List W->Prop):Sp:=fun vs H Q _=>∃F ws,a_ F H/\dU K none F H vs ws/\ws.all cX=true/\pre ws/\∀r F' H',H r=none->Grow none F H F' H'->AQ (some r) F' H'->Q (.ref r) H'
structure DfnR (P:BE) (w:B2) (K:W.Frag) (mg:Str->Option Bo) (base:Heap) (x:Str) (ps:List Str) (k:Nat) (pre:List W->Prop):Prop where
 ex:∃f fd,mg x=some (.ref f)/\W.keepIn K (.ref f)=true/\Binds K fd ps []/\FnOk P w K mg base Be k f fd ps (zE K pre)
noncomputable def z5:Option W->Option W
 | some .reel=>none
 | o=>o
noncomputable def nR(ρ:En):En:=ρ.map z5
noncomputable def W.isR:W->Bool
 | .reel=>true
 | _=>false
noncomputable def sE(i:Nat)(pre:List W->Prop)(fs:AF)(t:AG):AG:=fun D ρ=>fs ρ fun ws=>ws.all cX=true/\pre ws/\t ⟨fun ρ'=>D.nx (nR ρ'),fun w=>w.isR=false/\D.rt w,fun ρ'=>D.bk (nR ρ'),fun ρ'=>D.ct (nR ρ')⟩ (ρ.set i (some .reel))
theorem re(g:Grow none F₀ H₀ F H)(ra:AQ (some r) F H):Grow (some r) F₀ H₀ F H:=⟨fun b o e _=>g.same b o e (by simp),g.fs,g.sub,g.old,ra⟩
theorem je(g:Grow (some r) F₀ H₀ F H)(n:H₀ r=none):Grow none F₀ H₀ F H:=⟨fun b o e _=>g.same b o e (fun z=>by cases z;rw[n]at e;cases e),g.fs,g.sub,g.old,fun _ z=>by cases z⟩
theorem tf{K:W.Frag}(h:ck K none F H v w)(ne:∀a,w.own=true\/(∃xs,w = .pk xs)->v = .ref a->a≠r):ck K (some r) F H v w:=by
 cases w with
 | d x=>exact h
 | ml xs=>obtain⟨a,vs,e,f,_,g⟩:=h;exact⟨a,vs,e,f,fun z=>ne a (.inl rfl) e (by cases z;rfl),g⟩
 | pk xs=>obtain⟨a,vs,e,f,_,g⟩:=h;exact⟨a,vs,e,f,fun z=>ne a (.inr ⟨_,rfl⟩) e (by cases z;rfl),g⟩
 | reel=>obtain⟨_,z,_⟩:=h;cases z
 | vv u=>exact h
 | md kvs=>obtain⟨a,vs,e,f,_,g⟩:=h;exact⟨a,vs,e,f,fun z=>ne a (.inl rfl) e (by cases z;rfl),g⟩
 | mk kvs=>obtain⟨a,vs,e,f,_,g⟩:=h;exact⟨a,vs,e,f,fun z=>ne a (.inl rfl) e (by cases z;rfl),g⟩
 | xm kvs=>obtain⟨a,vs,e,f,_,g⟩:=h;exact⟨a,vs,e,f,fun z=>ne a (.inl rfl) e (by cases z;rfl),g⟩
 | nt ds=>exact h
 | lk=>trivial
 | sc ns=>exact h
 | fd _=>exact h
 | xr _=>exact h
 | fw _=>exact h
 | ft _=>exact h
 | xc _ _=>exact h
 | dp _ _=>exact h
theorem kS{K:W.Frag}(h:ck K (some r) F H v w)(n:w.isR=false):ck K none F H v w:=by
 cases w with
 | d x=>exact h
 | ml xs=>obtain⟨a,vs,e,f,_,g⟩:=h;exact⟨a,vs,e,f,by simp,g⟩
 | pk xs=>obtain⟨a,vs,e,f,_,g⟩:=h;exact⟨a,vs,e,f,by simp,g⟩
 | reel=>cases n
 | vv u=>exact h
 | md kvs=>obtain⟨a,vs,e,f,_,g⟩:=h;exact⟨a,vs,e,f,by simp,g⟩
 | mk kvs=>obtain⟨a,vs,e,f,_,g⟩:=h;exact⟨a,vs,e,f,by simp,g⟩
 | xm kvs=>obtain⟨a,vs,e,f,_,g⟩:=h;exact⟨a,vs,e,f,by simp,g⟩
 | nt ds=>exact h
 | lk=>trivial
 | sc ns=>exact h
 | fd _=>exact h
 | xr _=>exact h
 | fw _=>exact h
 | ft _=>exact h
 | xc _ _=>exact h
 | dp _ _=>exact h
theorem i6(h:(nR ρ)[i]?=some (some w)):ρ[i]?=some (some w)/\w.isR=false:=by
 unfold nR at h;rw[Cd]at h
 cases e:ρ[i]? with
 | none=>rw[e]at h;cases h
 | some o =>
   rw[e]at h
   cases o with
   | none=>cases h
   | some u=>cases u<;>first|(cases h;exact⟨rfl,rfl⟩)|cases h
theorem VR.out{K:W.Frag}(R:VR K (some r) F₀ H₀ F H σ ρ)(n:H₀ r=none):VR K none F₀ H₀ F H σ (nR ρ):=by
 refine⟨je R.g n,fun i w e=>?_,fun i j x y v hn e1 e2=>R.ap i j x y v hn (i6 e1).1 (i6 e2).1,fun i xs e=>R.np i xs (i6 e).1,?_⟩
 · obtain⟨e1,e2⟩:=i6 e;obtain⟨v,h1,h2,h3⟩:=R.sl i w e1;exact⟨v,h1,kS h2 e2,h3⟩
 · have:=R.len;simpa[nR]using this
theorem VR.into{K:W.Frag}(R:VR K none F₀ H₀ F H σ ρ)(n:H r=none)(g:Grow none F H F' H')(ra:AQ (some r) F' H')(i:Nat):VR K (some r) F₀ H₀ F' H' (σ.set i (some (.ref r))) (ρ.set i (some .reel)):=by
 have R1:=R.grow g;refine⟨re R1.g ra,fun j w e=>?_,fun j k x y v hn e1 e2 o1 o2 s1 s2=>?_,fun j xs e=>?_,by simp[R.len]⟩
 · by_cases hj:i=j
   · subst hj
     have hi:i<ρ.length:=by
      rw[B5]at e;by_cases hi:i<ρ.length
      · exact hi
      · simp[hi]at e
     rw[BK hi]at e;cases e;exact⟨.ref r,by rw[BK (by rw[<- R.len];exact hi)],⟨r,rfl,rfl⟩,trivial⟩
   · rw[BC hj]at e;obtain⟨v,h1,h2,h3⟩:=R1.sl j w e;refine⟨v,by rw[BC hj];exact h1,tf h2 fun a ow ea z=>?_,h3⟩;obtain⟨v0,h10,h20,_⟩:=R.sl j w e;rw[h1]at h10;cases h10;rcases ow with ow|⟨xs,rfl⟩
     · obtain⟨b,o,eb,hb⟩:=h20.live ow;rw[ea]at eb;cases eb;rw[z,n]at hb;cases hb
     · exact absurd e (R.np j xs)
 · have key:∀(m:Nat)(z:W),(ρ.set i (some W.reel))[m]?=some (some z)->z.own=true->i≠m/\ρ[m]?=some (some z):=fun m z e o=>by
     by_cases hm:i=m
     · subst hm;rw[B5]at e;split at e
       · split at e
         · cases e;cases o
         · cases e
       · exact absurd rfl (by assumption)
     · rw[BC hm]at e;exact⟨hm,e⟩
   obtain⟨n1,d1⟩:=key j x e1 o1;obtain⟨n2,d2⟩:=key k y e2 o2;rw[BC n1]at s1;rw[BC n2]at s2;exact R1.ap j k x y v hn d1 d2 o1 o2 s1 s2
 · rw[B5]at e;split at e
   · split at e
     · cases e
     · cases e
   · exact R1.np j xs e
section
variable{X:Cx}{st:Stmt}{rest body:List Stmt}{t u:AG}{a b c e:Expr}{es:List Expr}{fa fb:TV}{fs:AF}{pos p px cpos:Pos}{ρ:En}
theorem pB(i:Nat){f:Str}{k:Nat}{pre:List W->Prop}(D:DfnR X.prog X.w X.K X.mg X.base f ps k pre)(hr:Room k X.A)(hN:X.N.Nodup)(ha:AS X none (e::es) fs)(hrest:∀r,jR X (some r) rest t)
 (hi:autoParam (X.N[i]?=some x) æa._auto_1)(hx:autoParam (Loc X.env.scope x) æd._auto_1)(hg:autoParam (Gl X f) æa._auto_1)(hdb:autoParam ((f==("__debug__" : Str))=false) æb._auto_1)
 (he:autoParam (BF (e::es) X.env=(false,eval e X.env)::BF es X.env) æa._auto_1)(hpl:autoParam ((Dj cpos (BF es X.env)).any (·.1)=false) æa._auto_1)
 (hs:autoParam (DU (.Call (.Name f p) (e::es) [] cpos) (some (.Name x px)) pos.line X.env=pure false) æa._auto_1)(hf:autoParam (X.fn x=true\/X.env.scope.names.lookup x=some .local) æe._auto_1) :
 jR X none (.Assign [.Name x px] (.Call (.Name f p) (e::es) [] cpos) pos::rest) (sE i pre fs t):=by
 obtain⟨fa,fd,hm,hk,hb,F⟩:=D.ex;obtain⟨ta,p1,k1⟩:=ha;refine⟨_,aZ (cI hN hi hx (lj F hr hg hm hk hb .nil tU p1 hdb he hpl) hs hf) (qu X rest),fun{F₀ H₀ F H σ ρ} R Dv D ok q=>k1 R _ _ q fun vs ws F1 H1 g1 r1 ⟨ao,pw,q1⟩=>?_⟩;have R1:=R.grow g1;refine⟨F1,ws,g1.sub,by rw[DB];exact r1,ao,pw,fun r F2 H2 hr2 g2 ra=>?_⟩;intro pins s I;obtain⟨T,pT,kT⟩:=hrest r;have h0:H₀ r=none:=R1.g.freeB hr2;refine pT pins s _ H2 D I (kT (R1.into hr2 g2 ra i) _ D ⟨fun F3 H3 σ3 ρ3 s3 R3 q3=>?_,fun v w F3 H3 g3 r3 n3 q3=>?_,fun F3 H3 σ3 ρ3 s3 R3 q3=>?_,fun F3 H3 σ3 ρ3 s3 R3 q3=>?_⟩ q1)
 · exact ok.nx F3 H3 σ3 _ (g1.fs.trans (g2.fs.trans s3)) (R3.out h0) q3
 · exact ok.rt v w F3 H3 (je g3 h0) (kS r3 q3.1) n3 q3.2
 · exact ok.bk F3 H3 σ3 _ (g1.fs.trans (g2.fs.trans s3)) (R3.out h0) q3
 · exact ok.ct F3 H3 σ3 _ (g1.fs.trans (g2.fs.trans s3)) (R3.out h0) q3
end
noncomputable def zl:Fl->Mo Fl
 | .nx ρ=>ret (.nx (nR ρ))
 | .rt w=>An (w.isR=false) (ret (.rt w))
 | .bk ρ=>ret (.bk (nR ρ))
 | .ct ρ=>ret (.ct (nR ρ))
theorem s_newR(i:Nat)(pre:List W->Prop)(fs:AF)(t:AG)(ρ:En):mS (sE i pre fs t) ρ=Ax (fs ρ) fun ws=>An (ws.all cX=true) (An (pre ws) (Ax (mS t (ρ.set i (some .reel))) zl)):=nr rfl
theorem nR_nil:nR []=[]:=rfl
theorem nR_r(l:En):nR (some .reel::l)=none::nR l:=rfl
theorem nR_n(l:En):nR (none::l)=none::nR l:=rfl
theorem nR_d(x:Bl)(l:En):nR (some (.d x)::l)=some (.d x)::nR l:=rfl
theorem nR_ml(x:List Bl)(l:En):nR (some (.ml x)::l)=some (.ml x)::nR l:=rfl
theorem nR_sc(x:List Int)(l:En):nR (some (.sc x)::l)=some (.sc x)::nR l:=rfl
noncomputable def d9(K:W.Frag):Sp:=fun vs H Q _=>∃(a:Addr)(ns:List Int),vs=[.ref a]/\AM K H a (ns.map V.int)/\ns.length<=63/\∀H',Q (.bl true) H'
noncomputable def yB:VEnds:=⟨fun _=>False,fun w=>w = .d (.bool true),fun _=>False,fun _=>False⟩
noncomputable def rT:Fl->Prop
 | .rt w=>w = .d (.bool true)
 | _=>False
theorem un_law(m:Mo Fl):Ax m zl rT=m rT:=by
 show m (fun fl=>zl fl rT)=m rT;congr 1;funext fl
 cases fl with
 | rt w=>exact propext ⟨fun⟨_,h⟩=>h,fun h=>⟨by rw[show w = .d (.bool true)from h];rfl,h⟩⟩
 | _=>rfl
theorem qW:ret (Fl.rt (.d (.bool true))) rT:=rfl
section
variable{P:BE}{w:B2}{K:W.Frag}{mg:Str->Option Bo}{base:Heap}{st:Stmt}{N:List Str}{k:Nat}{t:AG}{x:Str}
theorem qL(F:Fun K "law" "law" st f fd)(S:FnScope N [x] (defScope st))
 (hbody:∀(cdv:Bo)(A:BX)(outer:List Env)(s:Bp)(H:Hp)(E:XK),Room k (A.deeper (Fd "law" (defScope st) s.heap.objs.size f cdv))->jR (mU Be P w K mg base N "law" (defScope st) f cdv A outer s H E).nox none (defBody st) t)
 (hread:∀ns:List Int,ns.length<=63->mS t (cc N [.sc ns]) rT):FnOk P w K mg base Be (k+1) f fd [x] (d9 K):=by
 refine F.ok S (fun vs H Q E h=>?_) (fun cdv A outer s H vs Q E hr h=>?_)
 · obtain⟨a,ns,rfl,_⟩:=h;rfl
 · obtain⟨a,ns,rfl,hS,hl,kq⟩:=h;obtain⟨T,p,kk⟩:=hbody cdv A outer s H E hr;have rw0:dU K none H H [.ref a] [.sc ns]:=.cons ⟨a,rfl,hS⟩ .nil;have R:VR K none H H H H (start N [.ref a]) (cc N [.sc ns]):=iH (.refl H) (fun _ z=>by cases z) rw0 rfl;refine⟨T,p,kk R yB _ ⟨fun _ _ _ _ _ _ z=>CI z,?_,fun _ _ _ _ _ _ z=>CI z,fun _ _ _ _ _ _ z=>CI z⟩ (hread ns hl)⟩;rintro v w1 F1 H1 g1 r1 n1 z;have z:w1 = .d (.bool true):=z;subst z;have e:=cY r1;subst e;exact kq H1
end
noncomputable def sy(i:Nat)(fa:TV):AG:=fun D ρ=>fa ρ fun w=>∃d,w.fz = .d d/\D.nx (ρ.set i (some (.d d)))
section
variable{X:Cx}{rl:Option Addr}{st:Stmt}{rest body:List Stmt}{t u:AG}{a b c e:Expr}{es:List Expr}{fa fb:TV}{fs:AF}{f:TB}{pos p:Pos}{ρ:En}
theorem ba(i:Nat)(hN:X.N.Nodup)(he:PV X rl e fa)(hi:autoParam (X.N[i]?=some x) æa._auto_1)(hx:autoParam (Loc X.env.scope x) æd._auto_1)
 (hs:autoParam (DU e (some (.Name x pos')) pos.line X.env=pure false) æa._auto_1)(hf:autoParam (X.fn x=true\/X.env.scope.names.lookup x=some .local) æe._auto_1) :
 AV X rl (.Assign [.Name x pos'] e pos) (sy i fa):=by
 obtain⟨t,p,k⟩:=he;refine⟨_,cI hN hi hx p hs hf,fun R Dv D ok q=>k R _ _ q fun v w F1 H1 g1 r1 n1 ⟨d,ed,q1⟩=>?_⟩;obtain⟨F2,g2,s2,r2⟩:=ck.fz g1 r1 n1;rw[ed]at r2;exact ok.nx _ _ _ _ g2.fs (R.set g2 r2 trivial (fun xs z=>by cases z) i) q1
theorem s_setZ(i:Nat):mS (sy i fa) ρ=Ax (fa ρ) fun w=>am (asD w.fz) fun d=>ret (.nx (ρ.set i (some (.d d)))):=by
 show(Ax (fa ρ) fun w=>fun(Q:Fl->Prop)=>∃d,w.fz = .d d/\Q (.nx (ρ.set i (some (.d d)))))=_;congr 1;funext w;refine ae fun Q=>?_;simp only[af,cg,ret]
end
section
variable{X:Cx}{rl:Option Addr}{elt tg iter:Expr}{ifs:List Expr}{scope:Scope}{pos:Pos}{fi:En->(List Bl->Prop)->Prop}{g:AJ}{ft:TB}{fe:TV}
end
noncomputable def uT(xs:List Int):Bl:=.tuple (xs.map .int)
noncomputable def wj(xs:List Int):Bl:=.list (xs.map .int)
theorem cw:∀{xs ys:List Int},xs.map B8=ys.map B8↔xs=ys:=by
 intro xs ys;constructor
 · intro h;have:=congrArg d0 h;rw[intsD_map,intsD_map]at this;exact BW this
 · rintro rfl;rfl
theorem iQ{xs ys:List Int}:uT xs=uT ys↔xs=ys:=by
 unfold uT;rw[Ck,cw]
theorem nW{xs ys:List Int}:wj xs=wj ys↔xs=ys:=by
 unfold wj;rw[Gj.injEq,cw]
theorem bw{α:Type}{f:α->Bl}(h:∀a b,f a=f b↔a=b):∀{xs ys:List α},xs.map f=ys.map f↔xs=ys
 | [],[]=>by simp
 | [],_::_=>by simp
 | _::_,[]=>by simp
 | x::xs,y::ys=>by simp[h,bw h (xs:=xs) (ys:=ys)]
noncomputable def vK(xs:List (List Int)):Bl:=.tuple (xs.map uT)
theorem nh{xs ys:List (List Int)}:vK xs=vK ys↔xs=ys:=by
 unfold vK;rw[Ck,bw fun _ _=>iQ]
section
variable{α σ:Type}{fl:List Nat}{b:Bl->En->Mo Fl}{k:En->Mo Fl}{Q:Fl->Prop}{ρ:En}
theorem eJ{f:TB}{t:AG}(st:σ->En)(c:σ->Bool)(nxt:σ->σ)(μ:σ->Nat)(I:σ->Prop)(s:σ)(h0:ρ=st s)(hs:I s)
 (hf:∀s,I s->f (st s)=ret (c s))(ht:∀s,I s->c s=true->I (nxt s)/\μ (nxt s)<μ s/\∃ρ',mS t (st s)=ret (.nx ρ')/\fo fl ρ'=st (nxt s))(fin:∀s,I s->c s=false->k (st s) Q):sq (d4 fl f t ρ) k Q:=by
 subst h0;obtain⟨s',a,b,e⟩:=jX st c nxt μ I hf ht s hs;rw[e];exact fin s' a b
theorem rn{xs:List α}{enc:α->Bl}{xs':List Bl}(st:σ->En)(f:σ->α->σ)(s:σ)(I:σ->Prop)(h0:ρ=st s)(hx:xs'=xs.map enc)(hs:I s)(step:∀x∈xs,∀s,I s->I (f s x)/\∃ρ',b (enc x) (st s)=ret (.nx ρ')/\fo fl ρ'=st (f s x))
 (fin:k (st (xs.foldl f s)) Q):sq (bX fl b xs' ρ) k Q:=by
 subst h0 hx;rw[lD st f s I hs step];exact fin
theorem ou{lo:Int}(st:Nat->En)(h0:ρ=st 0)(step:∀i,i<n->∃ρ',b (.int (lo+i)) (st i)=ret (.nx ρ')/\fo fl ρ'=st (i+1))(fin:k (st n) Q):sq (bX fl b (aA lo n) ρ) k Q:=by
 subst h0;rw[jI st step];exact fin
noncomputable def z8(fl:List Nat)(J:En->Prop)(k:En->Mo Fl)(Q:Fl->Prop):Fl->Prop
 | .nx ρ=>J (fo fl ρ)
 | .ct ρ=>J (fo fl ρ)
 | .bk ρ=>k (fo fl ρ) Q
 | .rt w=>Q (.rt w)
theorem lC{J:En->Prop}{ρ:En}(h:J (fo fl ρ)):z8 fl J k Q (.nx ρ):=h
theorem qZ{lo:Int}(J:Nat->En->Prop)(h0:J 0 ρ)
 (step:∀i,i<n->∀ρ,J i ρ->∀K:Fl->Prop,(∀r,z8 fl (J (i+1)) k Q r->K r)->b (.int (lo+i)) ρ K)(fin:∀ρ,J n ρ->k ρ Q):sq (bX fl b (aA lo n) ρ) k Q:=by
 refine nX (Q:=fun r=>(match r with | .nx ρ=>k ρ | .rt w=>ret (.rt w) | .bk ρ=>ret (.bk ρ) | .ct ρ=>ret (.ct ρ):Mo Fl) Q) J h0 (fun i hi ρ j K hK=>step i hi ρ j K fun r hr=>hK r ?_) fin;cases r<;>exact hr
theorem jg{lo:Int}(step:∀i,i<n->∀K:Fl->Prop,(∀r,z8 fl (fun ρ'=>ρ'=ρ) k Q r->K r)->b (.int (lo+i)) ρ K)(fin:k ρ Q):sq (bX fl b (aA lo n) ρ) k Q :=
 qZ (fun _ ρ'=>ρ'=ρ) rfl (fun i h ρ' e K hK=>by subst e;exact step i h K hK) fun ρ' e=>by subst e;exact fin
end
section
variable{α β:Type}{b:Bl->Mo (Option Bl)}{k:List Bl->Mo β}{Q:β->Prop}
theorem dP{xs:List α}{enc:α->Bl}{xs':List Bl}(f:α->Bl)(hx:xs'=xs.map enc)(h:∀x∈xs,b (enc x)=ret (some (f x)))(hl:xs.length<=sizeLine)(fin:k (xs.map f) Q):Ax (b7 b xs' []) k Q:=by
 subst hx;rw[comp_map f h hl];exact fin
theorem oB{lo:Int}(f:Nat->Bl)(h:∀j,j<n->b (.int (lo+j))=ret (some (f j)))(hl:n<=sizeLine)(fin:k ((BZ n).map f) Q):Ax (b7 b (aA lo n) []) k Q:=by
 rw[mw f h hl];exact fin
end
section
variable{α β:Type}
theorem lw{i:Int}{k:Bl->Mo β}{Q:β->Prop}(h0:0<=i)(h1:i<(xs.length:Int))(h:∀z∈xs,k z Q):am (atI xs i) k Q:=by
 obtain⟨z,e,m⟩:=wF h0 h1;rw[e];exact h z m
theorem eE{xs:List α}{enc:α->Bl}{xs':List Bl}{i:Int}{k:Bl->Mo β}{Q:β->Prop}(P:α->Prop)(hx:xs'=xs.map enc)(h0:0<=i)(h1:i<(xs.length:Int))(hP:∀z∈xs,P z)(h:∀z,P z->k (enc z) Q):am (atI xs' i) k Q:=by
 subst hx;refine lw h0 (by simpa using h1) fun z mz=>?_;obtain⟨x,hx,rfl⟩:=Ch.mp mz;exact h x (hP x hx)
end
section
variable{X:Cx}{rl:Option Addr}{a b c o e:Expr}{es:List Expr}{fa fb:TV}{fs:AF}{pos p apos cpos:Pos}{ρ:En}
noncomputable def zj(g:List Bl->List W->(W->Prop)->Prop)(fa:TV)(fs:AF):TV:=fun ρ Q=>fa ρ fun x=>∃xs,x.dat=some (.list xs)/\fs ρ fun ws=>g xs ws Q
theorem m_vML(g:List Bl->List W->(W->Prop)->Prop):zj g fa fs ρ=Ax (fa ρ) fun x=>am (AB x) fun xs=>Ax (fs ρ) fun ws=>g xs ws:=by
 show(Ax (fa ρ) fun x=>fun(Q:W->Prop)=>∃xs,x.dat=some (.list xs)/\fs ρ fun ws=>g xs ws Q)=_;congr 1;funext x;refine ae fun Q=>?_;rw[af];simp only[eG];exact ER
noncomputable def l5:List Bl->List W->(W->Prop)->Prop:=fun xs ws Q=>∃(bs:List Bool)(k:Bool),xs=bs.map .bool/\ws=[.d (.bool k)]/\Q (.d (.int (bs.count k)))
theorem m_gCountB(xs:List Bl)(w:W):l5 xs [w]=am (pf xs) fun bs=>am (asB w) fun k=>ret (.d (.int (bs.count k))):=by
 refine ae fun Q=>?_;simp only[l5,af,dR,ret,BN,and_true];constructor
 · rintro⟨bs,k,rfl,e,q⟩;exact⟨bs,blsD_map bs,k,e,q⟩
 · rintro⟨bs,e,k,e',q⟩;exact⟨bs,k,iB e,e',q⟩
theorem qK:A2 X (CN .IsNot) (fun x y H Q=>∃b c,x = .bl b/\y = .bl c/\Q (.bl (b != c)) H):=by
 intro pins s σ H x y v u Q I rx ry ⟨b,c,ex,ey,q⟩;subst ex ey;cases(show v=EU b from rx);cases(show u=EU c from ry);exact isnot_bool ⟨.bl _,H,I,rfl,q⟩
noncomputable def rj:W->W->(W->Prop)->Prop:=fun x y Q=>∃b c,x = .d (.bool b)/\y = .d (.bool c)/\Q (.d (.bool (b != c)))
theorem pD:AD X rl (fun x y H Q=>∃b c,x = .bl b/\y = .bl c/\Q (.bl (b != c)) H) rj:=fun{F H x y wx wy} Qd Q s ra r1 r2 q k=>by
 obtain⟨b,c,rfl,rfl,q⟩:=q;exact⟨b,c,cY r1,cY r2,k _ (.d _) _ _ (Grow.refl s ra) (.bl _) trivial q⟩
theorem m_gNotB(x y:W):rj x y=am (asB x) fun i=>am (asB y) fun j=>ret (.d (.bool (i != j))):=by
 refine ae fun Q=>?_;simp only[af,dR,rj,ret];exact⟨fun⟨i,j,a,b,q⟩=>⟨i,a,j,b,q⟩,fun⟨i,a,j,b,q⟩=>⟨i,j,a,b,q⟩⟩
end
end L2.VL
namespace L2
section
variable{X:Cx}{pos:Pos}
end
end L2
namespace L2.VL
section
variable{X:Cx}{rl:Option Addr}{es:List Expr}{pos:Pos}{ρ:En}
noncomputable def x5(n:Nat)(gs:jU):AJ:=fun x ρ Q=>∃xs,x = .list xs/\xs.length=n/\gs xs ρ Q
theorem m_hLst(n:Nat){gs:jU}(x:Bl):x5 n gs x ρ=am (lstD x) fun xs=>An (xs.length=n) (gs xs ρ):=by
 refine ae fun Q=>?_;simp only[af,qR,x5,An]
end
section
variable{α:Type}{a0 a1 a2 a3 a4 a5 a6 a7 a8 a9 a10 a11 a12 a13 a14 a15 a16 a17 a18 a19 x y:α}{l:List α}
theorem gt0:(x::l)[0]?=some x:=nr rfl
theorem st0:(x::l).set 0 y=y::l:=nr rfl
theorem gt1:(a0::x::l)[1]?=some x:=nr rfl
theorem st1:(a0::x::l).set 1 y=a0::y::l:=nr rfl
theorem gt2:(a0::a1::x::l)[2]?=some x:=nr rfl
theorem st2:(a0::a1::x::l).set 2 y=a0::a1::y::l:=nr rfl
theorem gt3:(a0::a1::a2::x::l)[3]?=some x:=nr rfl
theorem st3:(a0::a1::a2::x::l).set 3 y=a0::a1::a2::y::l:=nr rfl
theorem gt4:(a0::a1::a2::a3::x::l)[4]?=some x:=nr rfl
theorem st4:(a0::a1::a2::a3::x::l).set 4 y=a0::a1::a2::a3::y::l:=nr rfl
theorem gt5:(a0::a1::a2::a3::a4::x::l)[5]?=some x:=nr rfl
theorem st5:(a0::a1::a2::a3::a4::x::l).set 5 y=a0::a1::a2::a3::a4::y::l:=nr rfl
theorem gt6:(a0::a1::a2::a3::a4::a5::x::l)[6]?=some x:=nr rfl
theorem st6:(a0::a1::a2::a3::a4::a5::x::l).set 6 y=a0::a1::a2::a3::a4::a5::y::l:=nr rfl
theorem gt7:(a0::a1::a2::a3::a4::a5::a6::x::l)[7]?=some x:=nr rfl
theorem st7:(a0::a1::a2::a3::a4::a5::a6::x::l).set 7 y=a0::a1::a2::a3::a4::a5::a6::y::l:=nr rfl
theorem gt8:(a0::a1::a2::a3::a4::a5::a6::a7::x::l)[8]?=some x:=nr rfl
theorem st8:(a0::a1::a2::a3::a4::a5::a6::a7::x::l).set 8 y=a0::a1::a2::a3::a4::a5::a6::a7::y::l:=nr rfl
theorem gt9:(a0::a1::a2::a3::a4::a5::a6::a7::a8::x::l)[9]?=some x:=nr rfl
theorem st9:(a0::a1::a2::a3::a4::a5::a6::a7::a8::x::l).set 9 y=a0::a1::a2::a3::a4::a5::a6::a7::a8::y::l:=nr rfl
theorem gt10:(a0::a1::a2::a3::a4::a5::a6::a7::a8::a9::x::l)[10]?=some x:=nr rfl
theorem st10:(a0::a1::a2::a3::a4::a5::a6::a7::a8::a9::x::l).set 10 y=a0::a1::a2::a3::a4::a5::a6::a7::a8::a9::y::l:=nr rfl
theorem gt11:(a0::a1::a2::a3::a4::a5::a6::a7::a8::a9::a10::x::l)[11]?=some x:=nr rfl
theorem st11:(a0::a1::a2::a3::a4::a5::a6::a7::a8::a9::a10::x::l).set 11 y=a0::a1::a2::a3::a4::a5::a6::a7::a8::a9::a10::y::l:=nr rfl
theorem gt12:(a0::a1::a2::a3::a4::a5::a6::a7::a8::a9::a10::a11::x::l)[12]?=some x:=nr rfl
theorem st12:(a0::a1::a2::a3::a4::a5::a6::a7::a8::a9::a10::a11::x::l).set 12 y=a0::a1::a2::a3::a4::a5::a6::a7::a8::a9::a10::a11::y::l:=nr rfl
theorem gt13:(a0::a1::a2::a3::a4::a5::a6::a7::a8::a9::a10::a11::a12::x::l)[13]?=some x:=nr rfl
theorem st13:(a0::a1::a2::a3::a4::a5::a6::a7::a8::a9::a10::a11::a12::x::l).set 13 y=a0::a1::a2::a3::a4::a5::a6::a7::a8::a9::a10::a11::a12::y::l:=nr rfl
theorem gt14:(a0::a1::a2::a3::a4::a5::a6::a7::a8::a9::a10::a11::a12::a13::x::l)[14]?=some x:=nr rfl
theorem st14:(a0::a1::a2::a3::a4::a5::a6::a7::a8::a9::a10::a11::a12::a13::x::l).set 14 y=a0::a1::a2::a3::a4::a5::a6::a7::a8::a9::a10::a11::a12::a13::y::l:=nr rfl
theorem gt15:(a0::a1::a2::a3::a4::a5::a6::a7::a8::a9::a10::a11::a12::a13::a14::x::l)[15]?=some x:=nr rfl
theorem st15:(a0::a1::a2::a3::a4::a5::a6::a7::a8::a9::a10::a11::a12::a13::a14::x::l).set 15 y=a0::a1::a2::a3::a4::a5::a6::a7::a8::a9::a10::a11::a12::a13::a14::y::l:=nr rfl
theorem gt16:(a0::a1::a2::a3::a4::a5::a6::a7::a8::a9::a10::a11::a12::a13::a14::a15::x::l)[16]?=some x:=nr rfl
theorem st16:(a0::a1::a2::a3::a4::a5::a6::a7::a8::a9::a10::a11::a12::a13::a14::a15::x::l).set 16 y=a0::a1::a2::a3::a4::a5::a6::a7::a8::a9::a10::a11::a12::a13::a14::a15::y::l:=nr rfl
theorem gt17:(a0::a1::a2::a3::a4::a5::a6::a7::a8::a9::a10::a11::a12::a13::a14::a15::a16::x::l)[17]?=some x:=nr rfl
theorem st17:(a0::a1::a2::a3::a4::a5::a6::a7::a8::a9::a10::a11::a12::a13::a14::a15::a16::x::l).set 17 y=a0::a1::a2::a3::a4::a5::a6::a7::a8::a9::a10::a11::a12::a13::a14::a15::a16::y::l:=nr rfl
theorem gt18:(a0::a1::a2::a3::a4::a5::a6::a7::a8::a9::a10::a11::a12::a13::a14::a15::a16::a17::x::l)[18]?=some x:=nr rfl
theorem st18:(a0::a1::a2::a3::a4::a5::a6::a7::a8::a9::a10::a11::a12::a13::a14::a15::a16::a17::x::l).set 18 y=a0::a1::a2::a3::a4::a5::a6::a7::a8::a9::a10::a11::a12::a13::a14::a15::a16::a17::y::l:=nr rfl
theorem gt19:(a0::a1::a2::a3::a4::a5::a6::a7::a8::a9::a10::a11::a12::a13::a14::a15::a16::a17::a18::x::l)[19]?=some x:=nr rfl
theorem st19:(a0::a1::a2::a3::a4::a5::a6::a7::a8::a9::a10::a11::a12::a13::a14::a15::a16::a17::a18::x::l).set 19 y=a0::a1::a2::a3::a4::a5::a6::a7::a8::a9::a10::a11::a12::a13::a14::a15::a16::a17::a18::y::l:=nr rfl
end
section
variable{a0 a1 a2 a3 a4 a5 a6 a7 a8 a9 a10 a11 a12 a13 a14 a15 a16 a17 a18 a19:Option W}{w:W}{l:En}
theorem vv0:dX 0 (some w::l)=ret w.peek:=(be 0).trans rfl
theorem vv1:dX 1 (a0::some w::l)=ret w.peek:=(be 1).trans rfl
theorem vv2:dX 2 (a0::a1::some w::l)=ret w.peek:=(be 2).trans rfl
theorem vv3:dX 3 (a0::a1::a2::some w::l)=ret w.peek:=(be 3).trans rfl
theorem vv4:dX 4 (a0::a1::a2::a3::some w::l)=ret w.peek:=(be 4).trans rfl
theorem vv5:dX 5 (a0::a1::a2::a3::a4::some w::l)=ret w.peek:=(be 5).trans rfl
theorem vv6:dX 6 (a0::a1::a2::a3::a4::a5::some w::l)=ret w.peek:=(be 6).trans rfl
theorem vv7:dX 7 (a0::a1::a2::a3::a4::a5::a6::some w::l)=ret w.peek:=(be 7).trans rfl
theorem vv8:dX 8 (a0::a1::a2::a3::a4::a5::a6::a7::some w::l)=ret w.peek:=(be 8).trans rfl
theorem vv9:dX 9 (a0::a1::a2::a3::a4::a5::a6::a7::a8::some w::l)=ret w.peek:=(be 9).trans rfl
theorem vv10:dX 10 (a0::a1::a2::a3::a4::a5::a6::a7::a8::a9::some w::l)=ret w.peek:=(be 10).trans rfl
theorem vv11:dX 11 (a0::a1::a2::a3::a4::a5::a6::a7::a8::a9::a10::some w::l)=ret w.peek:=(be 11).trans rfl
theorem vv12:dX 12 (a0::a1::a2::a3::a4::a5::a6::a7::a8::a9::a10::a11::some w::l)=ret w.peek:=(be 12).trans rfl
theorem vv13:dX 13 (a0::a1::a2::a3::a4::a5::a6::a7::a8::a9::a10::a11::a12::some w::l)=ret w.peek:=(be 13).trans rfl
theorem vv14:dX 14 (a0::a1::a2::a3::a4::a5::a6::a7::a8::a9::a10::a11::a12::a13::some w::l)=ret w.peek:=(be 14).trans rfl
theorem vv15:dX 15 (a0::a1::a2::a3::a4::a5::a6::a7::a8::a9::a10::a11::a12::a13::a14::some w::l)=ret w.peek:=(be 15).trans rfl
theorem vv16:dX 16 (a0::a1::a2::a3::a4::a5::a6::a7::a8::a9::a10::a11::a12::a13::a14::a15::some w::l)=ret w.peek:=(be 16).trans rfl
theorem vv17:dX 17 (a0::a1::a2::a3::a4::a5::a6::a7::a8::a9::a10::a11::a12::a13::a14::a15::a16::some w::l)=ret w.peek:=(be 17).trans rfl
theorem vv18:dX 18 (a0::a1::a2::a3::a4::a5::a6::a7::a8::a9::a10::a11::a12::a13::a14::a15::a16::a17::some w::l)=ret w.peek:=(be 18).trans rfl
theorem vv19:dX 19 (a0::a1::a2::a3::a4::a5::a6::a7::a8::a9::a10::a11::a12::a13::a14::a15::a16::a17::a18::some w::l)=ret w.peek:=(be 19).trans rfl
end
section
variable{f1 f2 f3 f4 f5 f6 f7 f8 f9:TV}{fs:AF}{ρ:En}
theorem vk1:aD f1 mR ρ=Ax (f1 ρ) fun w1=>ret [w1.fz]:=nr rfl
theorem vk2:(aD f1 (aD f2 mR)) ρ=Ax (f1 ρ) fun w1=>Ax (f2 ρ) fun w2=>ret [w1.fz,w2.fz]:=nr rfl
theorem vk3:(aD f1 (aD f2 (aD f3 mR))) ρ=Ax (f1 ρ) fun w1=>Ax (f2 ρ) fun w2=>Ax (f3 ρ) fun w3=>ret [w1.fz,w2.fz,w3.fz]:=nr rfl
theorem vk4:(aD f1 (aD f2 (aD f3 (aD f4 mR)))) ρ=Ax (f1 ρ) fun w1=>Ax (f2 ρ) fun w2=>Ax (f3 ρ) fun w3=>Ax (f4 ρ) fun w4=>ret [w1.fz,w2.fz,w3.fz,w4.fz]:=nr rfl
theorem vk5:(aD f1 (aD f2 (aD f3 (aD f4 (aD f5 mR))))) ρ=Ax (f1 ρ) fun w1=>Ax (f2 ρ) fun w2=>Ax (f3 ρ) fun w3=>Ax (f4 ρ) fun w4=>Ax (f5 ρ) fun w5=>ret [w1.fz,w2.fz,w3.fz,w4.fz,w5.fz]:=nr rfl
theorem vk6:(aD f1 (aD f2 (aD f3 (aD f4 (aD f5 (aD f6 mR)))))) ρ=Ax (f1 ρ) fun w1=>Ax (f2 ρ) fun w2=>Ax (f3 ρ) fun w3=>Ax (f4 ρ) fun w4=>Ax (f5 ρ) fun w5=>Ax (f6 ρ) fun w6=>ret [w1.fz,w2.fz,w3.fz,w4.fz,w5.fz,w6.fz]:=nr rfl
theorem vk7:(aD f1 (aD f2 (aD f3 (aD f4 (aD f5 (aD f6 (aD f7 mR))))))) ρ=Ax (f1 ρ) fun w1=>Ax (f2 ρ) fun w2=>Ax (f3 ρ) fun w3=>Ax (f4 ρ) fun w4=>Ax (f5 ρ) fun w5=>Ax (f6 ρ) fun w6=>Ax (f7 ρ) fun w7=>ret [w1.fz,w2.fz,w3.fz,w4.fz,w5.fz,w6.fz,w7.fz]:=nr rfl
theorem vk8:(aD f1 (aD f2 (aD f3 (aD f4 (aD f5 (aD f6 (aD f7 (aD f8 mR)))))))) ρ=Ax (f1 ρ) fun w1=>Ax (f2 ρ) fun w2=>Ax (f3 ρ) fun w3=>Ax (f4 ρ) fun w4=>Ax (f5 ρ) fun w5=>Ax (f6 ρ) fun w6=>Ax (f7 ρ) fun w7=>Ax (f8 ρ) fun w8=>ret [w1.fz,w2.fz,w3.fz,w4.fz,w5.fz,w6.fz,w7.fz,w8.fz]:=nr rfl
theorem vk9:(aD f1 (aD f2 (aD f3 (aD f4 (aD f5 (aD f6 (aD f7 (aD f8 (aD f9 fs))))))))) ρ=Ax (f1 ρ) fun w1=>Ax (f2 ρ) fun w2=>Ax (f3 ρ) fun w3=>Ax (f4 ρ) fun w4=>Ax (f5 ρ) fun w5=>Ax (f6 ρ) fun w6=>Ax (f7 ρ) fun w7=>Ax (f8 ρ) fun w8=>Ax (aD f9 fs ρ) fun ws=>ret (w1.fz::w2.fz::w3.fz::w4.fz::w5.fz::w6.fz::w7.fz::w8.fz::ws):=nr rfl
theorem vk0:mR ρ=ret []:=nr rfl
end
noncomputable def wT:=Bk @bnd_tt (Bk @bnd_ret (Bk @bnd_bnd (Bk @bnd_grd (Bk @bnd_stk (Bk @bnd_ite (Bk @bnd_opt (Bk @opt_some (Bk @opt_none (Bk @grd_T (Bk @sq_nx (Bk @sq_rt (Bk @sq_bk (Bk @sq_ct (Bk @sq_grd (Bk @sq_stk (Bk @sq_ite (Bk @sq_sq (@kc_ap))))))))))))))))))
noncomputable def wW:=Bk @ite_nx (Bk @ite_rt (Bk @ite_retd (Bk @ite_retb (Bk @ite_rets (Bk @ite_cons (Bk @ite_some (Bk @ite_d (Bk @ite_pi (Bk @ite_pb (Bk @itb_tt (Bk @itb_ff (Bk @itb_ft (Bk @itb_tf (@ite_self.{1}))))))))))))))
noncomputable def wZ:=Bk @m_vC (Bk @m_vOp (Bk @m_gI (Bk @m_gI0 (Bk @m_vNeg (Bk @m_vTest (Bk @m_gEqD (Bk @m_gInD (Bk @m_vAnd (Bk @m_vOr (Bk @m_vNot (Bk @m_vAndV (Bk @m_vOrV (Bk @m_vNotV (Bk @m_vIf (Bk @m_vTup (Bk @m_vLst (Bk @m_gIx (Bk @m_vCall (Bk @m_gAbs (Bk @m_gLen (Bk @m_gRepr (Bk @m_gIsi (@m_gStrI)))))))))))))))))))))))
noncomputable def wY:=Bk @m_gTupO (Bk @m_gLstO (Bk @m_gIsB (Bk @m_gIsN (Bk @m_gI2 (Bk @m_gDivmod (Bk @m_gInt1 (Bk @m_oNo (Bk @m_oIt (Bk @m_vSlL (Bk @m_vSlA (Bk @m_gCatD (Bk @m_gCatA (Bk @m_vChain (Bk @m_vLR1 (Bk @m_vLR2 (Bk @m_vTR1 (Bk @m_iL (Bk @m_iT (Bk @m_iR1 (Bk @m_iR2 (Bk @m_iZb (Bk @m_vUse (@m_vUseL)))))))))))))))))))))))
noncomputable def wX:=Bk @m_gAll (Bk @m_gRepT (Bk @m_gRepL (Bk @m_vRevT (Bk @m_vRevL (Bk @m_gEqS (Bk @m_vTGet (Bk @m_gSrtT (Bk @m_comp (Bk @m_gLenS (Bk @m_gIxS (Bk @m_vSlS (Bk @m_hLst (Bk @m_vML (Bk @m_gCountB (@m_gNotB)))))))))))))))
noncomputable def wM:=Bk @s_next (Bk @s_seq (Bk @s_drop (Bk @s_ret (Bk @s_retN (Bk @s_ifS (Bk @s_set (Bk @s_setZ (Bk @s_never (Bk @s_asg (Bk @s_par (Bk @s_par3 (Bk @s_aug (Bk @s_augL (Bk @s_frz (Bk @s_mut (Bk @s_retO (Bk @s_appPop (Bk @s_for (Bk @bdy_ap (Bk @s_while (Bk @s_newR (Bk @m_hName (@m_hNil_n)))))))))))))))))))))))
noncomputable def wL:=Bk @m_hCons_c (Bk @m_hTup (Bk @m_gApp (@m_gExt)))
noncomputable def wP:=Bk @pk_sc (Bk @fz_sc (Bk @arg_sc (Bk @isPk_sc (Bk @asI_d (Bk @asB_d (Bk @asS_d (Bk @asD_d (Bk @asT_d (Bk @asL_d (Bk @asL_ml (Bk @asL_pk (Bk @asQ_d (Bk @asQ_ml (Bk @asQ_pk (Bk @lstD_l (Bk @tupD_t (Bk @toI_i (Bk @toI_b (Bk @isiT_t (Bk @asM_ml (Bk @asSc_s (Bk @two_d (@fz_d)))))))))))))))))))))))
noncomputable def wO:=Bk @fz_ml (Bk @fz_pk (Bk @fz_reel (Bk @fz_vv (Bk @pk_d (Bk @pk_ml (Bk @pk_reel (Bk @pk_vv (Bk @dat_d (Bk @dat_ml (Bk @dat_pk (Bk @isPk_d (Bk @isPk_ml (Bk @isPk_reel (Bk @dats_nil (Bk @dats_d (Bk @arg_d (Bk @arg_reel (Bk @item_l (Bk @item_t (Bk @len_l (Bk @len_t (Bk @seq_l (@seq_t)))))))))))))))))))))))
noncomputable def wN:=Bk @at0 (Bk @at1 (Bk @blsD_map (Bk @tup2 (Bk @fo_nil (Bk @fo_cons (Bk @nR_nil (Bk @nR_r (Bk @nR_n (Bk @nR_d (Bk @nR_ml (Bk @nR_sc (Bk @le_nil (Bk @le_cn (Bk @le_cs (Bk @end_d (Bk @end_ml (Bk @end_nx (@un_law))))))))))))))))))
noncomputable def wV:=Bk @BM.{0,0} (Bk @Dc.{0,0} (Bk @CL.{0} (Bk @Fz.{0} (Bk @List.set_nil.{0} (Bk @List.cons_append.{0} (Bk @List.nil_append.{0} (Bk @List.all_cons.{0} (Bk @List.all_nil.{0} (Bk @List.head?_cons.{0} (Bk @Bool.and_true (Bk @Option.some.injEq.{0} (Bk @Option.map_some.{0,0} (Bk @Option.bind_some.{0,0} (Bk @Option.bind_none.{0,0} (Bk @Option.join_some.{0} (Bk @Option.join_none.{0} (Bk @CK (Bk @and_self (Bk @and_true (Bk @true_and (Bk @shaped_i (Bk @eqv_ii (@shaped_b)))))))))))))))))))))))
noncomputable def wU:=Bk @Bool.true_and (Bk @Bool.and_self (Bk @Bool.not_true (Bk @Bool.not_false (Bk @Bu.{0,0} (Bk @D8 (Bk @Bool.true_eq_false (Bk @decide_true (Bk @decide_false (Bk @List.isEmpty_cons.{0} (Bk @List.isEmpty_nil.{0} (@List.isEmpty_map.{0,0})))))))))))
noncomputable def wS:=Bk @gt0 (Bk @gt1 (Bk @gt2 (Bk @gt3 (Bk @gt4 (Bk @gt5 (Bk @gt6 (Bk @gt7 (Bk @gt8 (Bk @gt9 (Bk @gt10 (Bk @gt11 (Bk @gt12 (Bk @gt13 (Bk @gt14 (Bk @gt15 (Bk @gt16 (Bk @gt17 (Bk @gt18 (Bk @gt19 (Bk @st0 (Bk @st1 (Bk @st2 (@st3)))))))))))))))))))))))
noncomputable def wR:=Bk @st4 (Bk @st5 (Bk @st6 (Bk @st7 (Bk @st8 (Bk @st9 (Bk @st10 (Bk @st11 (Bk @st12 (Bk @st13 (Bk @st14 (Bk @st15 (Bk @st16 (Bk @st17 (Bk @st18 (Bk @st19 (Bk @vv0 (Bk @vv1 (Bk @vv2 (Bk @vv3 (Bk @vv4 (Bk @vv5 (Bk @vv6 (@vv7)))))))))))))))))))))))
noncomputable def wQ:=Bk @vv8 (Bk @vv9 (Bk @vv10 (Bk @vv11 (Bk @vv12 (Bk @vv13 (Bk @vv14 (Bk @vv15 (Bk @vv16 (Bk @vv17 (Bk @vv18 (Bk @vv19 (Bk @vk0 (Bk @vk1 (Bk @vk2 (Bk @vk3 (Bk @vk4 (Bk @vk5 (Bk @vk6 (Bk @vk7 (Bk @vk8 (@vk9)))))))))))))))))))))
section
variable{α β:Type}
end
noncomputable def Av(c:Addr)(a l t:Int):HO:=.lst [.ref c,.int a,.int l,.int t]
theorem cf{K:W.Frag}{xs:List V}{k:Int}{Q:VK}(h:H r=some (.lst xs))(e:L2.atI xs k=some v)(q:Q v H):zM K (.ref r) (.int k) H Q:=.inl ⟨r,xs,k,v,rfl,rfl,.inl (.inl h),e,q⟩
theorem jL{xs:List V}{k:Int}{Q:Hp->Prop}(h:H r=some (.lst xs))(e:ixN xs.length k=some j)(q:Q (upd H r (.lst (xs.set j v)))):tm (.ref r) (.int k) v H Q:=⟨r,xs,k,j,rfl,rfl,h,e,q⟩
theorem fO{k:Int}(h0:0<=k)(h1:k.toNat<ns.length):L2.atI (ns.map V.int) k=some (.int ns[k.toNat]):=by
 obtain⟨n,rfl⟩:=Dq h0;have h1:n<ns.length:=h1;exact fP (by rw[Cd,B0 h1];rfl)
theorem Ab{b:Bool}{A B:Prop}(h:b=true)(a:A):if b=true then A else B:=by rw[if_pos h];exact a
theorem Ad{b:Bool}{A B:Prop}(h:b=false)(x:B):if b=true then A else B:=by rw[if_neg (by rw[h];decide)];exact x
theorem vq{l:Int}(h:l≠0):decide (V.int l=V.int 0)=false:=decide_eq_false fun z=>h (by injection z)
theorem Grow.turn{o:HO}(s:a_ F H)(ra:AQ (some r) F H)(h:RO F o):Grow (some r) F H F (upd H r o):=by
 have fr:F r=none:=(ra r rfl).1;have neF:∀b u,F b=some u->b≠r:=fun b u q z=>by subst z;rw[fr]at q;cases q
 refine⟨fun b u q n=>by rw[upd_ne (fun z=>n (by rw[z]))];exact q,.refl F,fun b u q=>by rw[upd_ne (neF b u q)];exact s b u q,fun _ _ _=>rfl,fun y z=>?_⟩;cases z;exact⟨fr,⟨o,ak,h⟩⟩
section
variable{P:BE}{w:B2}{K:W.Frag}{mg:Str->Option Bo}{base:Heap}{rl:Option Addr}{x:Str}{st:Stmt}{N ps:List Str}{k:Nat}{Pd:List W->(Bl->Prop)->Prop}
theorem Dfn.hand(Fn:FnIn K mg x st ps)(S:FnScope N ps (defScope st))(mono:∀ws Q Q',(∀d,Q d->Q' d)->Pd ws Q->Pd ws Q')(len:∀ws Q,Pd ws Q->ws.length=ps.length)
 (h:∀(f:Addr)(cdv:Bo)(A:BX)(outer:List Env)(s:Bp)(H:Hp)(E:XK) vs ws F (Q:Bl->Prop) (Qv:VK),Room k (A.deeper (Fd x (defScope st) s.heap.objs.size f cdv))->a_ F H->AQ rl F H->dU K rl F H vs ws->Pd ws Q->(∀v F' H' d,Grow rl F H F' H'->Rep K F' v d->Q d->Qv v H') ->
  ∃T,AU (mU Be P w K mg base N x (defScope st) f cdv A outer s H E).nox (defBody st) T/\T {nx:=fun _ H'=>Qv .non H',rt:=Qv} (start N vs) H):Dfn P w K mg base rl x ps (k+1) Pd:=by
 obtain⟨f,fd,hm,F,hb⟩:=Fn.ex;refine⟨mono,f,fd,hm,F.kp,hb,?_⟩;refine F.ok S (fun vs H Q E ⟨F,ws,_,_,r,_,q⟩=>(CO r).trans (len ws _ q)) fun cdv A outer s H vs Q E hr h=>?_;obtain⟨F,ws,sm,ra,r,ok,q⟩:=h;exact h f cdv A outer s H E vs ws F _ Q hr sm ra r q fun v F' H' d g rp qd=>qd v F' H' g rp
end
end L2.VL
namespace L2.TI
section
variable{prog:BE}{w:B2}{A:BX}{E:Bo->Bp->Prop}{s:Bp}{t:Addr}{vs:List Bo}{ns:List Int}{k:Int}{tok:Tok}{j:Nat}
theorem ir:∀{vs:List Bo}{ns:List Int}{i:Nat}{n:Int},D1 vs ns->ns[i]?=some n->∃u,vs[i]?=some (.int n u)
 | _,_,_,_,.nil,e=>by simp at e
 | _,_,0,_,.cons n t r,e=>by simp at e;subst e;exact⟨t,rfl⟩
 | _,_,i+1,_,.cons n t r,e=>by
   obtain⟨u,h⟩:=ir (i:=i) r (by simpa using e);exact⟨u,by simpa using h⟩
theorem scan{Q:Option Fin×Unit->Bp->Prop}(hI:D1 vs ns)(hj:ns[j]?=some k)(hno:∀m,m<j->ns[m]?≠some k)(q:Q (some (.done (.ret (.int j s.toks))),()) {s with toks:=s.toks+1}) :
 ∀ len start:Nat,start<=j->j<start+len->BS (BY prog w) A (forIn (List.range' start len) ((none,()):Option Fin×Unit) fun(i:Nat)(_:Option Fin×Unit) =>
   match vs.toArray[i]? with
   | some y=>do
     let b <- eqBool y (Dr k tok)
     if b=true then do
      let r <- retInt (i:Int)
      pure (ForInStep.done (some r,()))
     else pure (DE (none,()))
   | _=>pure (DE (none,()))) Q E s
 | 0,start,h1,h2=>by omega
 | len+1,start,h1,h2=>by
   rw[List.range'_succ,FB];have hl:start<ns.length:=by have:=(BG.mp hj).1;omega
   obtain⟨u,hu⟩:=ir (i:=start) (n:=ns[start]) hI (B0 hl);have hv:vs.toArray[start]?=some (.int ns[start] u):=by simpa using hu
   refine Bm ?_;rw[hv];refine Bm (Ej ?_);by_cases e:ns[start]=k
   · have es:start=j:=by
       rcases Nat.lt_or_eq_of_le h1 with z|z
       · exact absurd (by rw[B0 hl,e]) (hno start z)
       · exact z
     subst es;rw[if_pos (by simpa using e)];exact Bm (Bm (wpAny_mkInt (Bs (Bs (Bs q)))))
   · rw[if_neg (by simpa using e)];refine Bs ?_;have ne:start≠j:=fun z=>by subst z;rw[B0 hl]at hj;exact e (BW hj)
     exact scan hI hj hno q len (start+1) (by omega) (by omega)
theorem body(tp:IsTup s.heap t vs.toArray)(hI:D1 vs ns)(hj:ns[j]?=some k)(hno:∀m,m<j->ns[m]?≠some k)
 (q:R (.ok (.ret (.int j s.toks))) {s with toks:=s.toks+1}) :
 BS (BY prog w) A.in1 (Builtin.«tuple.index» ⟨[.ref t,.int k tok],[]⟩) (fun fin s'=>match fin with | .done f=>R (.ok f) s' | .again c'=>c'.quiet=true/\DX (BY prog w) A c' R s') (fun e s'=>R (.error e) s') s:=by
 unfold Builtin.«tuple.index»;show BS _ _ (do let z <- Builtin.Tuple.tupleItemsOf (.ref t);_) _ _ s;refine Bm (tupleItemsOf_ tp ?_);refine Bm (Bs (Bm (Bs ?_)));dsimp only;rw[Std.Legacy.Range.forIn_eq_forIn_range']
 have hl:j<vs.toArray.size:=by
  have h1:=(BG.mp hj).1;have h2:=hI.length;simp only[BB];omega
 refine Bm (scan hI hj hno ?_ _ 0 (B7 _) ?_)
 · exact Bs q
 · show j<0+Std.Legacy.Range.size _;simp[Std.Legacy.Range.size];simpa using hl
end
end L2.TI
namespace L2
section
variable{X:Cx}
end
end L2
namespace L2.VL
section
variable{X:Cx}{rl:Option Addr}{a b c o e:Expr}{es:List Expr}{fa fb:TV}{fs:AF}{pos p apos cpos:Pos}{ρ:En}
end
noncomputable def fr(q:Rat):Bl:=.tuple [.int q.num,.int q.den]
theorem gR{r:Rat}(h:fr q=fr r):q=r:=by
 simp only[fr,Ck,BN,DQ,and_true]at h;exact Rat.ext h.1 (by omega)
theorem cK(n:Int)(d:Nat)(h:d≠0):qS n d=fr (E6 n d h):=by
 unfold qS fr;rw[Rat.normalize_eq];have g:(BU n d:Int)=((n.natAbs.gcd d:Nat):Int):=by simp[BU]
 have gp:0<n.natAbs.gcd d:=Nat.gcd_pos_of_pos_right _ (by omega);have e1:n.fdiv (BU n d)=n / ((n.natAbs.gcd d:Nat):Int):=by rw[g,Ca _ (by omega)]
 have e2:(d:Int).fdiv (BU n d)=((d / n.natAbs.gcd d:Nat):Int):=by rw[g,Ca _ (by omega),Int.natCast_ediv]
 rw[e1,e2]
theorem dE{a:Int}(hb:0<b):qS a b=fr ((a:Rat) / (b:Rat)):=by
 obtain⟨d,rfl⟩:=Dq (show 0<=b by omega);rw[cK a d (by omega)];congr 1;have:(E6 a d (by omega))=mkRat a d:=by rw[Rat.normalize_eq_mkRat]
 rw[this,Rat.mkRat_eq_div];rfl
theorem uB(q r:Rat):qS (q.num*r.den+r.num*q.den) (q.den*r.den)=fr (q+r):=by
 have:=cK (q.num*r.den+r.num*q.den) (q.den*r.den) (FH q.den_nz r.den_nz);rw[FI]at this;rw[this,Rat.add_def]
theorem uy(q r:Rat):qS (q.num*r.den-r.num*q.den) (q.den*r.den)=fr (q-r):=by
 have:=cK (q.num*r.den-r.num*q.den) (q.den*r.den) (FH q.den_nz r.den_nz);rw[FI]at this;rw[this,Rat.sub_def]
theorem uA(q r:Rat):qS (q.num*r.num) (q.den*r.den)=fr (q*r):=by
 have:=cK (q.num*r.num) (q.den*r.den) (FH q.den_nz r.den_nz);rw[FI]at this;rw[this,Rat.mul_def]
noncomputable def zP(n:Nat)(q:Rat):Prop:=q.num.natAbs<2^n/\q.den<2^n
theorem zP.mono{m:Nat}(h:zP n q)(hm:n<=m):zP m q:=⟨Bq h.1 (BD (by decide) hm),Bq h.2 (BD (by decide) hm)⟩
theorem fM{i:Int}(h:i.natAbs<2^2000):Bf i:=Bq h (BD (by decide) (by decide))
theorem zP.bn(h:zP 2000 q):Bf q.num:=fM h.1
theorem zP.bd(h:zP 2000 q):Bf (q.den:Int):=fM (by rw[Cu];exact h.2)
theorem den_pos(q r:Rat):(0:Int)<(q.den:Int)*(r.den:Int):=EC (by have:=q.den_nz;omega) (by have:=r.den_nz;omega)
theorem dJ{r:Rat}(h:zP 2000 q)(h':zP 2000 r):((q.den:Int)*(r.den:Int)).natAbs<2^8000:=by
 rw[DN,Cu,Cu];have:q.den*r.den<2^2000*2^2000:=Fg h.2 h'.2;rw[<- GX]at this;exact Bq this (BD (by decide) (by decide))
inductive Sd where
 | to (t:Rat)|from(a b:Rat)|round (a b:Rat)
noncomputable def Sd.last:Sd->Rat
 | .to t=>t | .from _ b=>b | .round _ b=>b
noncomputable def zK:Sd->Bl
 | .to t=>.tuple [.str "to", fr t]
 | .from a b=>.tuple [.str "from", fr a,fr b]
 | .round a b=>.tuple [.str "round", fr a,fr b]
noncomputable def mn(q r:Rat):Rat:=if q<r then q else r
theorem fr0:pr 0 1=fr 0:=rfl
theorem fr1:pr 1 1=fr 1:=rfl
theorem yL:zP 60 0:=⟨by decide,by decide⟩
theorem wa:zP 60 1:=⟨by decide,by decide⟩
theorem ii{n:Int}{d k:Nat}(hd:d≠0)(h1:n.natAbs<2^k)(h2:d<2^k):zP k (E6 n d hd):=by
 rw[Rat.normalize_eq];refine⟨?_,EL (Nat.div_le_self _ _) h2⟩;show(n / ((n.natAbs.gcd d:Nat):Int)).natAbs<2^k;have hdv:((n.natAbs.gcd d:Nat):Int)∣n:=Int.ofNat_dvd_left.mpr (Nat.gcd_dvd_left _ _);rw[Int.natAbs_ediv_of_dvd hdv,Cu];exact EL (Nat.div_le_self _ _) h1
theorem bQ{a b m:Nat}(h1:a<2^m)(h2:b<2^n):a*b<2^(m+n):=by
 rw[GX];exact Fg h1 h2
theorem i7{m:Nat}{r:Rat}(h:zP m q)(h':zP n r):zP (m+n) (q*r):=by
 rw[Rat.mul_def];refine ii _ ?_ (bQ h.2 h'.2);rw[DN];exact bQ h.1 h'.1
theorem jo{m:Nat}{r:Rat}(h:zP m q)(h':zP n r):zP (m+n+1) (q+r):=by
 rw[Rat.add_def];have a1:=bQ h.1 h'.2;have a2:=bQ h'.1 h.2;rw[Nat.add_comm n m]at a2;have a3:=bQ h.2 h'.2;refine ii _ ?_ (Bq a3 (BD (by decide) (by omega)));have t:=Int.natAbs_add_le (q.num*r.den) (r.num*q.den);rw[DN,DN,Cu,Cu]at t;rw[Nat.pow_succ];omega
theorem kG{m:Nat}{r:Rat}(h:zP m q)(h':zP n r):zP (m+n+1) (q-r):=by
 rw[Rat.sub_eq_add_neg];exact jo h ⟨by rw[Rat.neg_num,Int.natAbs_neg];exact h'.1,h'.2⟩
theorem zP.up(h:zP 60 q):zP 2000 q:=h.mono (by decide)
noncomputable def pe(ss:List Sd):Bl:=.tuple (ss.map zK)
noncomputable def zR(qs:List Rat):Bl:=.tuple (qs.map fr)
noncomputable def qt(ps:List (List Rat)):Bl:=.tuple (ps.map zR)
theorem at_last2{α:Type}(x y:α):L2.atI [x,y] (-1)=some y:=rfl
theorem at_last3{α:Type}(x y z:α):L2.atI [x,y,z] (-1)=some z:=rfl
theorem at_last1{α:Type}(x:α):L2.atI [x] (-1)=some x:=rfl
theorem gS{r:Rat}:fr q=fr r↔q=r:=⟨gR,fun h=>by rw[h]⟩
theorem cq{s t:Sd}:zK s=zK t↔s=t:=by
 constructor
 · intro h;have n1:¬(CU "from" = CU "round"):=by decide +kernel
   cases s<;>cases t<;>simp[zK,gS,n1,Ek n1]at h ⊢ <;> first|exact h|exact(n1 h.1.symm).elim|exact(n1 h.1).elim
 · rintro rfl;rfl
theorem cu{a b:List Rat}:zR a=zR b↔a=b:=by
 unfold zR;rw[Ck,bw fun _ _=>gS]
theorem bN{a b:List Sd}:pe a=pe b↔a=b:=by
 unfold pe;rw[Ck,bw fun _ _=>cq]
theorem bK{a b:List (List Rat)}:qt a=qt b↔a=b:=by
 unfold qt;rw[Ck,bw fun _ _=>cu]
theorem cy{a b:List Rat}:a.map fr=b.map fr↔a=b:=bw fun _ _=>gS
theorem item_fr0(q:Rat):itemAt (fr q) 0=some (.int q.num):=rfl
theorem item_fr1(q:Rat):itemAt (fr q) 1=some (.int q.den):=rfl
theorem tupD_pt(a:List Rat):tupD (zR a)=some (a.map fr):=rfl
theorem seqD_pt(a:List Rat):ee (zR a)=some (a.map fr):=rfl
theorem lenD_pt(a:List Rat):qV (zR a)=some a.length:=by show some (a.map fr).length=_;rw[Bu]
theorem item_pt(a:List Rat)(i:Int):itemAt (zR a) i=(atI a i).map fr:=dQ _ _ _
theorem tupD_bx(a:List Sd):tupD (pe a)=some (a.map zK):=rfl
theorem seqD_bx(a:List Sd):ee (pe a)=some (a.map zK):=rfl
theorem lenD_bx(a:List Sd):qV (pe a)=some a.length:=by show some (a.map zK).length=_;rw[Bu]
theorem item_bx(a:List Sd)(i:Int):itemAt (pe a) i=(atI a i).map zK:=dQ _ _ _
theorem tupD_ps(a:List (List Rat)):tupD (qt a)=some (a.map zR):=rfl
theorem seqD_ps(a:List (List Rat)):ee (qt a)=some (a.map zR):=rfl
theorem lenD_ps(a:List (List Rat)):qV (qt a)=some a.length:=by show some (a.map zR).length=_;rw[Bu]
theorem item_ps(a:List (List Rat))(i:Int):itemAt (qt a) i=(atI a i).map zR:=dQ _ _ _
theorem kind_pt(a:List Rat):cV (zR a)=cV (.tuple []):=rfl
theorem kind_bx(a:List Sd):cV (pe a)=cV (.tuple []):=rfl
noncomputable def qd(a b:Int):Rat:=(a:Rat) / (b:Rat)
theorem i8{a:Int}(hb:0<b):CF [.int (a.fdiv (BU a b)),.int (b.fdiv (BU a b))]=fr (qd a b):=dE hb
theorem k5(q:Rat):qd q.num q.den=q:=by
 unfold qd;have:=Rat.mkRat_self q;rw[Rat.mkRat_eq_div]at this;exact this
theorem tE(q r:Rat):qd (q.num*r.den+r.num*q.den) (q.den*r.den)=q+r:=gR (by rw[<- uB];exact(dE (den_pos q r)).symm)
theorem tu(q r:Rat):qd (q.num*r.den-r.num*q.den) (q.den*r.den)=q-r:=gR (by rw[<- uy];exact(dE (den_pos q r)).symm)
theorem tw(q r:Rat):qd (q.num*r.num) (q.den*r.den)=q*r:=gR (by rw[<- uA];exact(dE (den_pos q r)).symm)
theorem dL(q:Rat):(0:Int)<(q.den:Int):=by have:=q.den_nz;omega
theorem v_{a:Int}{k:Nat}(hb:0<b)(h1:a.natAbs<2^k)(h2:b.natAbs<2^k):zP k (qd a b):=by
 obtain⟨d,rfl⟩:=Dq (show 0<=b by omega);have hd:d≠0:=by omega
 have e:qd a d=E6 a d hd:=gR (by rw[<- cK,dE (by omega)];rfl);rw[e];exact ii _ h1 (by simpa using h2)
theorem at2(x y z:α)(r:List α):L2.atI (x::y::z::r) 2=some z:=by
 rw[show(2:Int)=((2:Nat):Int)from rfl];exact fP rfl
theorem ql{a:Int}(hb:0<b)(h:0<=a):0<=qd a b:=by
 unfold qd;have h1:(0:Rat)<=(a:Rat):=by exact_mod_cast h
 have h2:(0:Rat)<(b:Rat):=by exact_mod_cast hb
 rw[D_];exact Rat.mul_nonneg h1 (Rat.le_of_lt (Rat.inv_pos.mpr h2))
theorem oV{a:Int}(hb:0<b)(h:a<b):qd a b<1:=by
 unfold qd;have h1:(a:Rat)<(b:Rat):=by exact_mod_cast h
 have h2:(0:Rat)<(b:Rat):=by exact_mod_cast hb
 exact(Rat.div_lt_iff h2).mpr (by rw[Rat.one_mul];exact h1)
noncomputable def Bi:=Bk @item_fr0 (Bk @item_fr1 (Bk @tupD_pt (Bk @seqD_pt (Bk @lenD_pt (Bk @item_pt (Bk @tupD_bx (Bk @seqD_bx (Bk @lenD_bx (Bk @item_bx (Bk @tupD_ps (Bk @seqD_ps (Bk @lenD_ps (Bk @item_ps (Bk @at_last1 (Bk @at_last2 (Bk @at_last3 (Bk @kind_pt (Bk @kind_bx (Bk @fr0 (@fr1))))))))))))))))))))
noncomputable def fv(b:Int):List Int->Rat
 | []=>0
 | d::ds=>((d:Rat)+fv b ds) / (b:Rat)
noncomputable def nv(b:Int):List Int->Int
 | []=>0
 | d::ds=>d+b*nv b ds
noncomputable def tv(b:Int)(ds:List Int):Int:=ds.foldl (fun t d=>t*b+d) 0
noncomputable def ix(p:List Int)(f:Int):Int:=(p.idxOf f:Int)
noncomputable def Fx(b:Int)(N:Nat)(q:Rat):Prop:=∃(T:Int)(k:Nat),q=qd T (b^k)/\0<=T/\T<b^k/\b^k<2^N
section
variable{X:Cx}{rl:Option Addr}{e:Expr}{fa:TV}{pos dpos q1 q2 q3 q4:Pos}{ρ:En}{j1 j2 j3 j4:Nat}{a b x y:Str}
end
theorem oO:oQ "int" = true:=by decide
theorem oP:oQ "bool" = true:=by decide
theorem sJ:oQ "tuple" = true:=by decide
theorem uD(a b:Rat):CA (fr a) (fr b)=decide (a=b):=by
 unfold fr;simp only[CA,Bl.eqvAll];by_cases h:a=b
 · subst h;simp[CA]
 · have:¬(a.num=b.num/\a.den=b.den):=fun z=>h (Rat.ext z.1 z.2);simp only[h,decide_false,Bool.and_true,CA];rw[Bool.and_eq_false_iff];by_cases h1:a.num=b.num
   · right
     have:a.den≠b.den:=fun z=>this ⟨h1,z⟩;simp;omega
   · left;simpa using h1
theorem kN(q:Rat):CD (fr q)=true:=by
 simp[CD,fr,Eb,DK,FG,EB]
theorem lW(q:Rat):BU q.num q.den=1:=by
 have:=q.reduced;simpa[BU,Nat.Coprime]using this
noncomputable def q9:Rat:=⟨999999999998,999999999999,by decide,by decide⟩
theorem lO(h:ja d "tuple" = true):∃xs,d = .tuple xs:=by cases d<;>simp[ja,zn]at h<;>exact⟨_,rfl⟩
theorem p5(h:∀d∈xs,Sm 2 68 d)(hl:xs.length<=4):Sm 4 276 (.tuple xs)/\Sm 4 276 (.list xs):=Sm.seq h hl
theorem oU{x y:Bl}(hx:Sm 2 68 x)(hy:Sm 2 68 y):Sm 4 276 (.tuple [x,y]):=by
 refine(p5 (fun d hd=>?_) (by simp)).1;simp only[BL,Da,or_false]at hd;rcases hd with rfl|rfl
 · exact hx
 · exact hy
noncomputable def gM(d:Bl)(m:Int):Bool:=match d with
 | .int k=>decide (0<=k)&&decide (k<m)
 | _=>false
theorem gL(i:Int):bL (.int i)=true:=o4.mpr ⟨i,rfl⟩
theorem n8(h:bL d=false):gM d m=false:=by
 cases d<;>first|rfl|(rw[gL]at h;cases h)
theorem lP(h:gM d m=true):∃k,d = .int k/\0<=k/\k<m:=by
 cases d<;>first|cases h|skip
 rename_i k;refine⟨k,rfl,?_⟩;simpa[gM]using h
theorem jr(h:xs.length=2):∃x y,xs=[x,y]:=match xs,h with | [x,y],_=>⟨x,y,rfl⟩
end L2.VL
namespace L2
theorem jO{prog:BE}{w:B2}{kx vx target:Expr}{it:Bo}{D:Addr}{env:Env}(I:Nat->Bp->Prop)
 (turn:∀n s,I n s->BS (BY prog w) A (Gu it) (fun r s₁=>(r=none/\R (.ok .next) s₁)\/∃v,r=some v /\
  BS (BY prog w) A (DV target it v) (fun _ s₂=>BS (BY prog w) A (Ew target env v) (fun _ s₃=>BS (BY prog w) A (hU ifs env) (fun ok s₄ =>
   if ok=true then BS (BY prog w) A (eval kx env) (fun x s₅=>BS (BY prog w) A (eval vx env) (fun y s₆=>BS (BY prog w) A (dictSet D x y) (fun _ s₇=>∃m,m<n/\I m s₇) (fun _ _=>False) s₆) (fun _ _=>False) s₅) (fun _ _=>False) s₄
   else ∃m,m<n/\I m s₄) (fun _ _=>False) s₃) (fun _ _=>False) s₂) (fun _ _=>False) s₁) (fun _ _=>False) s)
 (n:Nat)(h:I n s):DX (BY prog w) A (.compLoop (.DictComp kx vx [⟨target,iter,ifs,0⟩] scope pos) 0 it (.ref D) env) R s:=by
 refine codeAny_loop rfl I (fun n s hI=>?_) n h;show BS _ A ((compTurn (.DictComp kx vx [⟨target,iter,ifs,0⟩] scope pos) 0 it (.ref D) env).onRaise (fun x=>do noteFrame x env;theTreesLotGoes x)) _ _ s;refine wpAny_noted ?_;rw[compTurn_dict];refine Bm (DH (Bm (Cc (turn n s hI) (fun r s₁ h₁=>?_) fun _ _ h'=>h'.elim)));rcases h₁ with⟨rfl,h₁⟩|⟨v,rfl,h₁⟩
 · exact Bs h₁
 · refine Bm (Cc h₁ (fun _ s₂ h₂=>Bm (Cc h₂ (fun _ s₃ h₃=>Bm (Cc h₃ (fun ok s₄ h₄=>?_) fun _ _ z=>z.elim)) fun _ _ z=>z.elim)) fun _ _ z=>z.elim)
   cases ok with
   | false=>exact Bs ⟨rfl,h₄⟩
   | true=>exact Bm (Bm (Cc h₄ (fun x s₅ h₅=>Bm (Cr (Cc h₅ (fun y s₆ h₆=>Bm (DH (Cr (Cc h₆ (fun _ s₇ h₇=>Bs ⟨rfl,h₇⟩) fun _ _ z=>z.elim)))) fun _ _ z=>z.elim))) fun _ _ z=>z.elim))
noncomputable def kD(wi:TI)(fr:List (Option Nat))(g:CompA->TG)(tt:CompA->TT)(tk te:CompA->TE):TE:=fun σ H Q=>wi σ H fun J H1=>∀D,H1 D=none->∃Wv:Nat->Nat->List (A5×V)->St->Hp->Prop,(∃m,Wv 0 m [] (l7 fr σ) (upd H1 D (.dK []))) /\
 ∀ (z:CompA) i m acc σc H,Wv i m acc σc H->(J.stop i H/\Q (.ref D) H)\/(J.go i H/\∀x H',J.yld i H x H'->g z x σc H' fun σ2 H2=>tt z σ2 H2 fun b H3 =>
   if b=true then tk z σ2 H3 fun ky H4=>te z σ2 H4 fun y H5=>∃k:A5,ky=kV k/\H5 D=some (.dK acc)/\acc.length<sizeLine/\∃m',m'<m/\Wv (i+1) m' (gz acc k y) σ2 (upd H5 D (.dK (gz acc k y)))else ∃m',m'<m/\Wv (i+1) m' acc σ2 H3)
theorem dN{kx vx:Expr}{g:TG}{tt:TT}{tk te:TE}{H3:Hp}{s3:Bp}{it D:Addr}{tn:Nat->Heap->Prop}{J:It}{Q:VK}
 (N':List Str)(fr:List (Option Nat))(hc:X.calm=true)(hkind:scope.kind = .function)(hcell:∀y∈scope.names,y.2 = .cell->scope.names.lookup y.1=some .cell)
 (hfree:∀y∈scope.names,y.2 = .free->X.env.kindOf y.1=some .cell\/X.env.kindOf y.1=some .free)(frl:fr.length=N'.length)
 (frg:∀(i j:Nat),fr[i]?=some (some j)->∃x,N'[i]?=some x/\X.N[j]?=some x/\scope.names.lookup x=some .free/\(X.env.scope.names.lookup x=some .cell\/X.env.scope.names.lookup x=some .free))
 (cl1:∀x c,cl.lookup x=some c->X.env.cells.lookup x=some c)(cl2:∀x,(x,B6)∈scope.names->(cl.lookup x).isSome=true)
 (I3:Inv X pins σ H3 s3)(T:Turn X.prog X.w X.K tg J fp it tn)(tn3:tn 0 s3.heap)(fpD:∀b∈fp,H3 b=none)(fp3:∀b∈fp,b<s3.heap.objs.size)
 (fpk:∀b∈fp,b≠X.env.locals/\b∉X.fs/\(b∈X.ex\/X.s₀.heap.objs.size<=b)/\(∀x c,X.env.cells.lookup x=some c->c≠b)/\∀p∈X.pn++pins,p.1≠b)
 (hg:PG (aH X N' scope cl fp (X.pn++pins) s3 H3) tg g)(ht:AT (aH X N' scope cl fp (X.pn++pins) s3 H3) ifs tt)(hk:PE (aH X N' scope cl fp (X.pn++pins) s3 H3) kx tk)(he:PE (aH X N' scope cl fp (X.pn++pins) s3 H3) vx te)
 {Wv:Nat->Nat->List (A5×V)->St->Hp->Prop}{m0:Nat}(w0:Wv 0 m0 [] (l7 fr σ) H3)
 (turn:∀i m acc σc H,Wv i m acc σc H->(J.stop i H/\Q (.ref D) H)\/(J.go i H/\∀x H',J.yld i H x H'->g x σc H' fun σ2 H2=>tt σ2 H2 fun b H3 =>
  if b=true then tk σ2 H3 fun ky H4=>te σ2 H4 fun y H5=>∃k:A5,ky=kV k/\H5 D=some (.dK acc)/\acc.length<sizeLine/\∃m',m'<m/\Wv (i+1) m' (gz acc k y) σ2 (upd H5 D (.dK (gz acc k y)))else ∃m',m'<m/\Wv (i+1) m' acc σ2 H3))
 (fin:∀s5 H4 m,s5.heap.Ns s3.heap.objs.size m->(∀h',DA s3.heap.objs.size s5.heap h'->Inv X pins σ H4 {s5 with heap:=h' })->jW X pins H4 s3.heap.objs.size->Q (.ref D) H4->Rp s3.heap.objs.size (.ok .next) s5) :
 BS (BY X.prog X.w) X.A (Ea scope X.env.globals cl [] X.env.qual none .none (some X.env)) (fun cenv s₄ =>
  DX (BY X.prog X.w) X.A (.compStart (.DictComp kx vx [⟨tg,iter,ifs,0⟩] scope pos) 0 (.ref it) (.ref D) {cenv with scope:=G4 scope X.env})
   (Rp cenv.locals) s₄) X.xe s3:=by
 refine dM N' fr hc hkind hcell hfree frl frg cl1 cl2 I3 T tn3 fpD fp3 fpk (fun s' IY tY stat=>?_) fin
 have loop:DX (BY X.prog X.w) X.A (.compLoop (.DictComp kx vx [⟨tg,iter,ifs,0⟩] scope pos) 0 (.ref it) (.ref D) (aH X N' scope cl fp (X.pn++pins) s3 H3).env)
  (fun r s5=>r = .ok .next/\∃σ5 H4,Inv (aH X N' scope cl fp (X.pn++pins) s3 H3) [] σ5 H4 s5/\Q (.ref D) H4) s':=by
  refine jO (fun n s'=>∃i acc σ' H',Inv (aH X N' scope cl fp (X.pn++pins) s3 H3) [] σ' H' s'/\tn i s'.heap/\(∀b∈fp,H' b=none)/\Wv i n acc σ' H') ?_ m0
   ⟨0,[],_,_,IY,tY,fpD,w0⟩
  rintro n s4 ⟨i,acc,σ4,H4,I4,st4,fr4,w4⟩;rcases turn i n acc σ4 H4 w4 with⟨stop,qn⟩|⟨go,step⟩
  · exact zr (T.done (aH X N' scope cl fp (X.pn++pins) s3 H3) rfl rfl rfl hc i [] s4 σ4 H4 (fun _ _=>False) I4 (stat fr4) st4 stop) fun r s5 ⟨hr,I5⟩=>.inl ⟨hr,rfl,σ4,H4,I5,qn⟩
  · refine zr (T.item (aH X N' scope cl fp (X.pn++pins) s3 H3) rfl rfl rfl hc i [] s4 σ4 H4 (fun _ _=>False) I4 (stat fr4) st4 go) fun r s5 ⟨u,hr,h5⟩=>.inr ⟨u,hr,?_⟩;refine zr h5 fun _ s6 ⟨x,H6,I6,r6,y6,st6,fr6⟩=>?_;have I6':=I6.pinned (stat fr6) (T.obj _ _ st6)
    have again:∀{σ7:St}{H7:Hp}{s7:Bp},Inv (aH X N' scope cl fp (X.pn++pins) s3 H3) ([]++el fp s6.heap) σ7 H7 s7->∀{acc':List (A5×V)}{m':Nat},m'<n->Wv (i+1) m' acc' σ7 H7 ->
     ∃m,m<n/\∃i acc σ' H',Inv (aH X N' scope cl fp (X.pn++pins) s3 H3) [] σ' H' s7/\tn i s7.heap/\(∀b∈fp,H' b=none)/\Wv i m acc σ' H':=fun{σ7 H7 s7} I7 {acc' m'} hm w7=>by
     refine⟨m',hm,i+1,acc',σ7,H7,I7.unpinned,T.keep _ _ _ st6 fun b hb o e=>(I7.pin (b,o) (BP _ (BP _ (br hb e)))).1,fun b hb=>?_,w7⟩;obtain⟨o,e,d⟩:=T.obj _ _ st6 b hb;exact(I7.pin (b,o) (BP _ (BP _ (br hb e)))).2.1
    refine zr (hg _ s6 σ4 H6 x u _ I6' r6 (step x H6 y6)) fun _ s7 ⟨σ7,H7,I7,q7⟩=>?_;refine zr (ht _ s7 σ7 H7 _ I7 q7) fun ok s8 ⟨H8,I8,q8⟩=>?_
    cases ok with
    | false =>
      rw[if_neg BO]at q8 ⊢;obtain⟨m',hm,w8⟩:=q8
      exact again I8 hm w8
    | true =>
      rw[if_pos rfl]at q8 ⊢;refine zr (hk _ s8 σ7 H8 _ I8 q8) fun ku s9 ⟨ky,H9,I9,rk,q9⟩=>?_;refine zr (he _ s9 σ7 H9 _ I9 q9) fun y s10 ⟨yv,H10,I10,r10,k,ek,eD,hl,m',hm,w10⟩=>?_;subst ek;obtain⟨z,hd,vs,rel,dd⟩:=uE I10.hok eD;have hz:vs.length<=sizeLine:=by rw[<- rel.length];exact z
      have hl2:(gz acc k yv).length<=sizeLine:=by have:=cx acc k yv;omega
      refine wpAny_dictSet_pairs (hsz:=hz) (lM rk) dd fun h' dd' hs=>?_;have hex:∃q,h'.get? D=some q:=let ⟨q,_,_,hq,_⟩:=dd';⟨q,hq⟩
      exact again (fJ I10 (by rw[eD];exact DJ) hs hex (dk_new hl2 hd (rel.put k r10) dd')) hm w10
 exact codeAny_compStart_dict loop (T.self X.A 0 _ _ _ tY loop)
section
variable{X:Cx}{kx vx tg iter:Expr}{ifs:List Expr}{scope:Scope}{pos:Pos}{wi:TI}{g:CompA->TG}{tt:CompA->TT}{tk te:CompA->TE}
theorem nO(N':List Str)(fr:List (Option Nat))(hc:X.calm=true)(hi:PI X tg iter wi)(hfr:rm fr N' X.N scope X.env.scope=true)(hsc:sZ scope X.env.scope=true)
 (hg:∀y,PG (blk X N' scope y) tg (g y))(ht:∀y,AT (blk X N' scope y) ifs (tt y))(hk:∀y,PE (blk X N' scope y) kx (tk y))(he:∀y,PE (blk X N' scope y) vx (te y))
 (hs:autoParam (∀x,C0 iter X.env x=pure x) æc._auto_1):PE X (.DictComp kx vx [⟨tg,iter,ifs,0⟩] scope pos) (kD wi fr g tt tk te):=by
 intro pins s σ H Q I h;obtain⟨sk,sn⟩:=Bv.mp hsc;have hkind:scope.kind = .function:=of_decide_eq_true sk;have hall:=Ds.mp sn
 have hcell:∀y∈scope.names,y.2 = .cell->scope.names.lookup y.1=some .cell:=fun y hy hl=>by
  rcases B1.mp (Bv.mp (Bv.mp (hall y hy)).1).1 with z|z
  · exact absurd hl (of_decide_eq_true z)
  · exact of_decide_eq_true z
 have hnames:∀y∈scope.names,y.2 = .local->scope.names.lookup y.1=some .local:=fun y hy hl=>by
  rcases B1.mp (Bv.mp (Bv.mp (hall y hy)).1).2 with z|z
  · exact absurd hl (of_decide_eq_true z)
  · exact of_decide_eq_true z
 have hfree:∀y∈scope.names,y.2 = .free->X.env.kindOf y.1=some .cell\/X.env.kindOf y.1=some .free:=fun y hy hl=>by
  rcases B1.mp (Bv.mp (hall y hy)).2 with z|z
  · exact absurd hl (of_decide_eq_true z)
  · exact(B1.mp z).imp of_decide_eq_true of_decide_eq_true
 obtain⟨frl,frg⟩:=rm.get hfr;obtain⟨cl,hclos,cl1,cl2⟩:=cA (env:=X.env) (scope:=scope) fun y hy hl=>I.ok.has y.1 (hfree y hy hl);rw[arm_eval_DictComp];refine DS (use:=none) rfl hs hclos hkind hnames (zr (hi pins s σ H _ I h) fun v s1 h1=>zr h1 fun itv s2 h2=>?_);obtain⟨it,fp,tn,J,H2,e,I2,T,st2,f2,q2⟩:=h2;subst e;refine CZ ?_;have hD:H2 s2.heap.objs.size=none:=I2.hok.fresh (By _)
 have I3:Inv X pins σ (upd H2 s2.heap.objs.size (.dK [])) {s2 with heap:=s2.heap.push {cls:=.type "dict", data:=.dict #[]}} :=
  I2.laid (t':=s2.toks) (fun b u e=>Bn _ e) (By _) (fG s2.heap I2.big)
 obtain⟨Wv,⟨m0,w0⟩,turn⟩:=q2 _ hD;have tn3:tn 0 (s2.heap.push {cls:=.type "dict", data:=.dict #[]}):=T.keep _ _ _ st2 fun b _ o e=>Bn _ e
 have fpD:∀b∈fp,(upd H2 s2.heap.objs.size (.dK [])) b=none:=fun b hb=>by
  obtain⟨o,e,_⟩:=T.obj _ _ st2 b hb;rw[upd_ne (BV (Bx e))];exact(f2 b hb).1
 have fp3:∀b∈fp,b<(s2.heap.push {cls:=.type "dict", data:=.dict #[]}).objs.size:=fun b hb=>by
  obtain⟨o,e,_⟩:=T.obj _ _ tn3 b hb;exact Bx e
 exact dN N' fr hc hkind hcell hfree frl frg cl1 cl2 I3 T tn3 fpD fp3 (fun b hb=>(f2 b hb).2) (hg ⟨cl,fp,X.pn++pins,_,_⟩) (ht ⟨cl,fp,X.pn++pins,_,_⟩) (hk ⟨cl,fp,X.pn++pins,_,_⟩) (he ⟨cl,fp,X.pn++pins,_,_⟩) w0 (turn ⟨cl,fp,X.pn++pins,_,_⟩)
  (Rp:=compPost (BY X.prog X.w) X.A X.xe none (EP X pins σ Q) (.ref s2.heap.objs.size)) fun s5 H4 m hn k _ qn=>⟨m,hn,fun h' hs'=>⟨.ref _,H4,k h' hs',rfl,qn⟩⟩
theorem ic{b:Bool}{px spos:Pos}{ix:Nat}(N':List Str)(fr:List (Option Nat))(hc:X.calm=true)(hi:PI X tg iter wi)(hfr:rm fr N' X.N scope X.env.scope=true)(hsc:sZ scope X.env.scope=true)
 (hg:∀y,PG (blk X N' scope y) tg (g y))(ht:∀y,AT (blk X N' scope y) ifs (tt y))(hk:∀y,PE (blk X N' scope y) kx (tk y))(he:∀y,PE (blk X N' scope y) vx (te y))(hN:X.N.Nodup)(hix:X.N[ix]?=some x)(hx:Loc X.env.scope x)
 (hf:X.fn x=true\/X.env.scope.names.lookup x=some .local)(hsw:DU (.DictComp kx vx [⟨tg,iter,ifs,0⟩] scope pos) (some (.Name x px)) spos.line X.env=pure b)
 (hs:∀x,C0 iter X.env x=pure x):PS X (.Assign [.Name x px] (.DictComp kx vx [⟨tg,iter,ifs,0⟩] scope pos) spos) (vV (kD wi fr g tt tk te) (ot ix)):=by
 cases b with
 | false=>exact cI hN hix hx (nO N' fr hc hi hfr hsc hg ht hk he hs) hsw hf
 | true =>
 intro pins s σ H DD I h;obtain⟨sk,sn⟩:=Bv.mp hsc;have hkind:scope.kind = .function:=of_decide_eq_true sk;have hall:=Ds.mp sn
 have hcell:∀y∈scope.names,y.2 = .cell->scope.names.lookup y.1=some .cell:=fun y hy hl=>by
  rcases B1.mp (Bv.mp (Bv.mp (hall y hy)).1).1 with z|z
  · exact absurd hl (of_decide_eq_true z)
  · exact of_decide_eq_true z
 have hnames:∀y∈scope.names,y.2 = .local->scope.names.lookup y.1=some .local:=fun y hy hl=>by
  rcases B1.mp (Bv.mp (Bv.mp (hall y hy)).1).2 with z|z
  · exact absurd hl (of_decide_eq_true z)
  · exact of_decide_eq_true z
 have hfree:∀y∈scope.names,y.2 = .free->X.env.kindOf y.1=some .cell\/X.env.kindOf y.1=some .free:=fun y hy hl=>by
  rcases B1.mp (Bv.mp (hall y hy)).2 with z|z
  · exact absurd hl (of_decide_eq_true z)
  · exact(B1.mp z).imp of_decide_eq_true of_decide_eq_true
 obtain⟨frl,frg⟩:=rm.get hfr;obtain⟨cl,hclos,cl1,cl2⟩:=cA (env:=X.env) (scope:=scope) fun y hy hl=>I.ok.has y.1 (hfree y hy hl);rw[exec_Assign_Name_used _ _ _ _ hsw];refine Bm (DH (Bm ?_));show BS _ X.A (do let _ <- comprehension (.DictComp kx vx [⟨tg,iter,ifs,0⟩] scope pos) scope X.env _ newDict false (eval iter X.env) (some (Ew (.Name x px) X.env))) _ _ s
 refine Bm (Cc (DS (use:=some (Ew (.Name x px) X.env)) (Q:=fun _ s'=>SP X pins DD .next s') rfl hs hclos hkind hnames
  (zr (hi pins s σ H _ I h) fun v s1 h1=>zr h1 fun itv s2 h2=>?_)) (fun _ s' hq=>Bs (Bs hq)) fun _ _ e=>e)
 obtain⟨it,fp,tn,J,H2,e,I2,T,st2,f2,q2⟩:=h2;subst e;refine CZ ?_;have hD:H2 s2.heap.objs.size=none:=I2.hok.fresh (By _)
 have I3:Inv X pins σ (upd H2 s2.heap.objs.size (.dK [])) {s2 with heap:=s2.heap.push {cls:=.type "dict", data:=.dict #[]}} :=
  I2.laid (t':=s2.toks) (fun b u e=>Bn _ e) (By _) (fG s2.heap I2.big)
 obtain⟨Wv,⟨m0,w0⟩,turn⟩:=q2 _ hD;have tn3:tn 0 (s2.heap.push {cls:=.type "dict", data:=.dict #[]}):=T.keep _ _ _ st2 fun b _ o e=>Bn _ e
 have fpD:∀b∈fp,(upd H2 s2.heap.objs.size (.dK [])) b=none:=fun b hb=>by
  obtain⟨o,e,_⟩:=T.obj _ _ st2 b hb;rw[upd_ne (BV (Bx e))];exact(f2 b hb).1
 have fp3:∀b∈fp,b<(s2.heap.push {cls:=.type "dict", data:=.dict #[]}).objs.size:=fun b hb=>by
  obtain⟨o,e,_⟩:=T.obj _ _ tn3 b hb;exact Bx e
 refine dN (Q:=fun v H1=>ot ix v σ H1 DD.nx) N' fr hc hkind hcell hfree frl frg cl1 cl2 I3 T tn3 fpD fp3 (fun b hb=>(f2 b hb).2) (hg ⟨cl,fp,X.pn++pins,_,_⟩) (ht ⟨cl,fp,X.pn++pins,_,_⟩) (hk ⟨cl,fp,X.pn++pins,_,_⟩) (he ⟨cl,fp,X.pn++pins,_,_⟩) w0 (turn ⟨cl,fp,X.pn++pins,_,_⟩)
  (Rp:=compPost (BY X.prog X.w) X.A X.xe (some (Ew (.Name x px) X.env)) (fun _ s'=>SP X pins DD .next s') (.ref s2.heap.objs.size)) fun s5 H4 m hn k fpo qn=>?_
 show BS _ X.A (Ew (.Name x px) X.env (.ref s2.heap.objs.size)) _ _ s5;have I5:Inv X pins σ H4 s5:=k s5.heap (DA.refl _ _);obtain⟨f0,f1,f2',f3,f4,f5⟩:=fpo;refine wpAny_assign_Name (ga I5 hN hix hx (v:=.ref s2.heap.objs.size) rfl (fun s6 I6 sb=>?_) hf);obtain⟨a,sb,ha⟩:=sb
 have hne:(s2.heap.push {cls:=.type "dict", data:=.dict #[]}).objs.size≠a:=by
  rcases ha with rfl|ha
  · exact f1
  · exact fun z=>f4 x a ha z.symm
 refine⟨m,hn.at' fun o e=>sb.extBut _ o hne e,fun h' hs'=>?_⟩;exact⟨_,H4,I6.turned (t':=s6.toks) (fun b o hb e=>hs'.extBut b o hb e) f0 f1 f3 f4 f5,qn⟩
end
noncomputable def bA:Option Int->List Int->Option Int
 | o,[]=>o
 | none,n::r=>bA (some n) r
 | some m,n::r=>bA (some (if n>m then n else m)) r
theorem mJ(a d:Bo):argsOk "max" ⟨[a],[(CU "default", d)]⟩:=by unfold argsOk;kernel_rfl
section
variable{prog:BE}{w:B2}{A:BX}{E:Bo->Bp->Prop}
noncomputable def uR(o:Option Int)(arr:Array Bo):Prop:=match o with
 | none=>arr = #[]
 | some m=>∃t,arr = #[.int m t,.int m t]
theorem ly{I l S:Addr}{d:Bo}(hh:A.handled=none)(hI:D1 vs ns)(hl:l≠I)(hSI:S≠I)(hSl:S≠l) :
 ∀ (k j:Nat)(s:Bp)(o:Option Int)(arr:Array Bo)(c:Nat),vs.length-j=k->j<=vs.length->uR o arr->s.heap.IsListIter I l j->s.heap.IsList l vs.toArray ->
   s.heap.get? S=some {cls:=.type "list", dict:=none,data:=.seq arr c,slots:=#[]} ->
   (∀v h' tk,(bA o (ns.drop j)=none/\v=d\/∃m t,bA o (ns.drop j)=some m/\v = .int m t)->(∀b q,b≠I->b≠S->s.heap.get? b=some q->h'.get? b=some q)->R (.ok (.ret v)) {s with heap:=h',toks:=tk}) ->
   DX (BY prog w) A (.builtin "max.loop" ⟨[.ref I,.none,.ref S],[(CU "default", d)]⟩) R s:=by
 have hn:(Gx "max" ++ Gx ".loop" : String) = "max.loop" := by decide
 have W:=Walks.list (prog:=prog) (w:=w) (A:=A.in1) hh I l hl vs.toArray;have hz:vs.toArray.size=vs.length:=BB ..;have len:vs.length=ns.length:=hI.length;intro k
 induction k with
 | zero =>
   intro j s o arr c hk hj hb h1 h2 hS hR;have ej:j=vs.length:=by omega
   subst ej;have ed:ns.drop vs.length=[]:=by rw[len];exact Em
   rw[ed]at hR;refine codeAny_builtin (Fj) ?_;rw[F0 Cy _];show BS _ A.in1 (seqItems? (.ref S) >>= _) _ _ s;refine Bm (wpAny_seqItems hS rfl ?_);show BS _ A.in1 (tryCatch (Gu (.ref I)) _ >>= _) _ _ s;refine Bm (Ga (W.done s _ _ (by rw[hz];exact⟨h1,h2⟩) fun h' tk kp=>?_));have kp':∀b q,b≠I->s.heap.get? b=some q->h'.get? b=some q:=fun b q n e=>kp b q (by simpa using n) e
   cases o with
   | none =>
     cases(show arr = #[]from hb)
     exact Bm (wpAny_rule (Bs (hR d h' tk (.inl ⟨rfl,rfl⟩) fun b q n _ e=>kp' b q n e)))
   | some m =>
     obtain⟨t,rfl⟩:=(show ∃t,arr = #[.int m t,.int m t]from hb);show BS _ A.in1 (updateSeq S (fun _=>#[]) >>= _) _ _ _;refine Bm (FJ (kp' S _ hSI hS) rfl (Bm (Gk (Bs ?_))))
     exact hR _ _ tk (.inr ⟨m,t,rfl,rfl⟩) fun b q n n2 e=>(BR _ _ n2.symm).trans (kp' b q n e)
 | succ k ih =>
   intro j s o arr c hk hj hb h1 h2 hS hR;have hlt:j<vs.length:=by omega
   refine codeAny_builtin (Fj) ?_;rw[F0 Cy _];show BS _ A.in1 (seqItems? (.ref S) >>= _) _ _ s;refine Bm (wpAny_seqItems hS rfl ?_);show BS _ A.in1 (tryCatch (Gu (.ref I)) _ >>= _) _ _ s;refine Bm (Ga (W.item j s _ _ (by rw[hz];exact hlt) ⟨h1,h2⟩ fun v h' tk hP st kp=>?_));have kp':∀b q,b≠I->s.heap.get? b=some q->h'.get? b=some q:=fun b q n e=>kp b q (by simpa using n) e;have hS':=kp' S _ hSI hS;have hv:vs[j]?=some v:=by simpa using hP
   obtain⟨n,t,en,rfl⟩:∃n t,ns[j]?=some n/\v = .int n t:=by
    have hv':=hv;clear hR ih hk hj hlt h1 h2 hP st W hz len
    induction hI generalizing j with
    | nil=>simp at hv'
    | cons n t r ih2 =>
      cases j with
      | zero=>simp at hv';subst hv';exact⟨n,t,rfl,rfl⟩
      | succ j=>simp at hv';simpa using ih2 j (by simpa using hv) hv'
   have ed:ns.drop j=n::ns.drop (j+1):=by
    have hj2:j<ns.length:=by omega
    rw[CB hj2];rw[B0 hj2]at en;cases en;rfl
   rw[ed]at hR
   have put:∀(o2:Option Int)(t2:Tok),o2=some n->t2=t->bA o (n::ns.drop (j+1))=bA (some n) (ns.drop (j+1)) ->
    DX (BY prog w) A (.builtin "max.loop" ⟨[.ref I,.none,.ref S],[(CU "default", d)]⟩) R {s with heap:=h'.update S (C9 fun _=>#[.int n t,.int n t]),toks:=tk}:=fun o2 t2 _ _ er=>by
    refine ih (j+1) _ (some n) #[.int n t,.int n t] _ (by omega) (by omega) ⟨t,rfl⟩ (st.1.at fun q e=>(BR _ _ hSI).trans e) (st.2.at fun q e=>(BR _ _ hSl).trans e) (Ef _ hS' rfl) fun v2 h2 tk2 hv2 kp2=>?_;rw[<- er]at hv2;exact hR v2 h2 tk2 hv2 fun b q n1 n2 e=>kp2 b q n1 n2 ((BR _ _ n2.symm).trans (kp' b q n1 e))
   cases o with
   | none =>
     cases(show arr = #[]from hb);show BS _ A.in1 (updateSeq S (fun _=>#[.int n t,.int n t]) >>= _) _ _ _;refine Bm (FJ hS' rfl ?_);rw[hn]
     exact Bs ⟨E7 Cy _,put _ _ rfl rfl rfl⟩
   | some m =>
     obtain⟨t0,rfl⟩:=(show ∃t,arr = #[.int m t,.int m t]from hb);show BS _ A.in1 (tryCatch (GO [.int n t,.int n t] (richCompare .Gt (.int n t) (.int m t0) >>= _)) _ >>= _) _ _ _;have cm:CmpOf prog w A.in1 .Gt (fun i v=>∃x t,v=Dr x t/\x=(if i=0 then m else n)) (fun i j=>decide ((if i=0 then m else n)>(if j=0 then m else n))):=PySem.CmpOf.ints_gt (fun i=>if i=0 then m else n) fun i v ⟨x,t,e,e2⟩=>⟨t,by rw[e,e2]⟩;refine Bm (Ga (Cr (Bm (cm 1 0 _ _ _ _ _ ⟨n,t,rfl,rfl⟩ ⟨m,t0,rfl,rfl⟩ ?_))));refine Bm (Cr (CY (Bm (Gk (Bs ?_)))));by_cases hg:n>m
     · simp only[if_neg (show ¬((1:Nat)=0) by decide),if_pos (show(0:Nat)=0 from rfl),decide_eq_true hg,if_true];refine Bm (FJ hS' rfl (Bm (Gk ?_)));rw[hn];exact Bs ⟨E7 Cy _,put _ _ rfl rfl (by simp only[bA,if_pos hg])⟩
     · simp only[if_neg (show ¬((1:Nat)=0) by decide),if_pos (show(0:Nat)=0 from rfl),if_true,decide_eq_false hg,CK,if_false];refine Bm (Gk ?_);rw[hn];refine Bs ⟨E7 Cy _,ih (j+1) _ (some m) _ c (by omega) (by omega) ⟨t0,rfl⟩ st.1 st.2 hS' fun v2 h2 tk2 hv2 kp2=>?_⟩;refine hR v2 h2 tk2 ?_ fun b q n1 n2 e=>kp2 b q n1 n2 (kp' b q n1 e);simp only[bA,if_neg hg];exact hv2
theorem ip{l:Addr}{d:Bo}(hh:A.handled=none)(hI:D1 vs ns)(hls:s.heap.IsList l vs.toArray)
 (hQ:∀v h' tk,(bA none ns=none/\v=d\/∃m t,bA none ns=some m/\v = .int m t)->(∀b q,s.heap.get? b=some q->h'.get? b=some q)->Q v {s with heap:=h',toks:=tk}) :
 BS (BY prog w) A (call (.builtin "max") [.ref l] [(CU "default", d)]) Q E s:=by
 have hn:(Gx "max" ++ Gx ".loop" : String) = "max.loop" := by decide
 obtain⟨ol,hol,_⟩:=id hls;have hll:l<s.heap.objs.size:=Bx hol;refine PyProof.Rows.kmk_tree (PySem.F.kind_max) PySem.F.plain_max PySem.F.entry_max (mJ _ _) ?_;show BS _ A.in1 (ED "max" ["key", "default"] 0 ⟨[],[(CU "default", d)]⟩ >>= _) _ _ s;refine Bm (wpAny_of_eq (show ED "max" ["key", "default"] 0 ⟨[],[(CU "default", d)]⟩=pure [none,some d]from rfl) ?_);refine Bm (Bs (Bm (D7 hls (Bm (D3 ?_ (B7 _))))));rw[hn];have zI:(s.heap.push {cls:=.type "list_iterator", data:=.fields #[.ref l,.int 0 0]}).objs.size=s.heap.objs.size+1:=size_push' ..;refine Bs ⟨E7 Cy _,?_⟩
 refine ly (I:=s.heap.objs.size) (l:=l) hh hI (BV hll) (by rw[zI];exact Ee (Nat.lt_succ_self _)) (by rw[zI];exact Ee (Nat.lt_succ_of_lt hll)) vs.length 0 _ none #[] 0 (by omega) (B7 _) rfl
  ⟨_,Bn _ (BJ _ rfl),rfl,rfl⟩ (hls.at fun q e=>Bn _ (Bn _ e)) (BJ _ rfl) fun v h' tk hv kp=>?_
 refine hQ v h' tk (by simpa using hv) fun b q e=>?_;have hb:=Bx e;exact kp b q (BV hb) (by rw[zI];exact BV (Nat.lt_succ_of_lt hb)) (Bn _ (Bn _ e))
end
section
variable{X:Cx}
theorem cL{P:BE}{w:B2}:∀{vs:List (A5×Bo)}{ns:List Int}{l:List Bo},vs.map (·.1)=ns.map Cs->l.length=vs.length ->
 (∀(i:Nat) v,l[i]?=some v->∃k x,vs[i]?=some (k,x)/\(aV P w).is k v=true)->D1 l ns
 | [],[],[],_,_,_=>.nil
 | [],[],_::_,_,h,_=>by simp at h
 | [],_::_,_,h,_,_=>by simp at h
 | _::_,[],_,h,_,_=>by simp at h
 | _::_,_::_,[],_,h,_=>by simp at h
 | (k,x)::vs,n::ns,v::l,h1,h2,h3=>by
   simp only[BM,BN]at h1;obtain⟨k',x',e,hv⟩:=h3 0 v rfl;simp at e;obtain⟨rfl,rfl⟩:=e;rw[h1.1]at hv;have hv:iq (Cs n) v=true:=hv;rcases aJ hv with⟨i,t,e1,e2⟩|⟨y,t,e1,e2⟩
   · cases e1;subst e2;exact .cons n t (cL (P:=P) (w:=w) h1.2 (by simpa using h2) fun i v hv=>by simpa using h3 (i+1) v (by simpa using hv))
   · cases e1
theorem hV{prog:BE}{w:B2}{vs:List (A5×Bo)}(hh:A.handled=none)(hd:(a==Cz)=false)
 (dd:s.heap.DictOf (aV prog w) a vs)(hk:vs.map (·.1)=ns.map Cs)(h64:ns.length<64)
 (h:∀(h0 h':Heap)(tk:Nat)(out:Array Bo)(ns':List Int)(c:Nat),(∀b o,s.heap.get? b=some o->h0.get? b=some o)->(∀b o,h0.get? b=some o->h'.get? b=some o)->h'.get? h0.objs.size=some (CG "list" out c) ->
  D1 out.toList ns'->ns'.Perm ns->ns'.Pairwise (· <= ·)->Q (.ref h0.objs.size) {s with heap:=h',toks:=tk}) :
 BS (BY prog w) A (call (.builtin "sorted") [.ref a]) Q E s:=by
 obtain⟨ep,da⟩:=dd.dictAt;have sz:=B3;have hl:vs.length=ns.length:=by have:=congrArg List.length hk;simpa using this
 refine DO GY GG GH (GI (.ref a)) ?_;unfold Builtin.«sorted»;refine Bm (m:=checkCount "sorted" 1 1 _) (Bs (Bm (W.kdu_collect (A:=A.in1) (W.kdl_dict (knd:=aV prog w) (kvs:=vs) (ep:=ep) hd) hh da (by omega) fun h0 tk acc k0 hacc=>Bm (D3 ?_ ?_))))
 · have iA:D1 acc.toList ns:=cL (P:=prog) (w:=w) hk (by rw[Cg];exact hacc.1) fun i v e=>hacc.2 i v (by rw[<- Eg];exact e);have l64:acc.toList.length<64:=by rw[iA.length];exact h64
   have hoL:(h0.push (CG "list" acc.toList.toArray 0)).get? h0.objs.size=some (CG "list" acc.toList.toArray 0):=BJ _ rfl;show BS _ _ _ _ _ {s with heap:=h0.push (CG "list" acc.toList.toArray 0),toks:=tk};refine Bm (Cr (Dt slot_list_sort ⟨_,hoL,rfl⟩ entry_list_sort (list_sort_tree (s:={s with heap:=h0.push (CG "list" acc.toList.toArray 0),toks:=tk}) hoL iA l64 fun out ns' q1 q2 q3=>⟨_,rfl,?_⟩) (Gb _)));have e1:=C1 hoL (fun _=>#[])
   have e2:((((h0.push (CG "list" acc.toList.toArray 0)).update h0.objs.size (C9 fun _=>#[])).push (CG "tuple" acc.toList.toArray 0)).push (CG "list" #[] 0)).get? h0.objs.size=_ :=
    Bn _ (Bn _ e1)
   have e3:=C1 e2 (fun _=>out);refine Bs ⟨_,rfl,h h0 _ _ out ns' _ k0 (fun b ob eb=>?_) e3 q1 q2 q3⟩;have ne:h0.objs.size≠b:=Ee (Bx eb);exact(BR _ _ ne).trans (Bn _ (Bn _ ((BR _ _ ne).trans (Bn _ eb))))
 · rw[Cg,hacc.1];omega
theorem gU(hc:X.calm=true):ca X (.builtin "sorted") (fun xs H Q=>∃(a:Addr)(us:List (A5×V))(ns:List Int),xs=[.ref a]/\Rd H a (.dK us)/\us.map (·.1)=ns.map Cs/\ns.length<64 /\
 ∀ns':List Int,ns'.Perm ns->ns'.Pairwise (· <= ·)->∀l,H l=none->Q (.ref l) (upd H l (.lst (ns'.map V.int)))):=by
 intro pins s σ H xs us Q I r ⟨a,vs,ns,ex,hq,hk,h64,q⟩;subst ex;obtain⟨u,rfl,ru⟩:=vals1 r;cases ru;obtain⟨z,hd,ws,rel,dd⟩:=jM I.hok hq;have sz:=B3;refine hV (I.ok.hd hc) hd dd (by rw[<- rel.keys];exact hk) h64 fun h0 h' tk out ns' c k0 k1 e a1 a2 a3=>?_;have I1:Inv X pins σ H {s with heap:=h0}:=I.kept (t':=s.toks) k0;refine⟨.ref h0.objs.size,_,I1.laid (t':=tk) (o:=.lst (ns'.map V.int)) k1 (By _) ⟨?_,out.toList,c,jq a1,by rw[F7];exact e⟩,rfl,q ns' a2 a3 _ (I1.hok.fresh (By _))⟩;rw[Bu,a2.length_eq];omega
noncomputable def z6(d:V)(ns:List Int):V:=match bA none ns with
 | none=>d
 | some m=>.int m
noncomputable def vR(K:W.Frag)(t tk:TA):TE:=fun σ H Q=>t σ H fun vs H1=>tk σ H1 fun zs H2=>∃l ns d,vs=[.ref l]/\zs=[d]/\AM K H2 l (ns.map V.int)/\Q (z6 d ns) H2
theorem qF{c:Expr}{t tk:TA}{p kpos:Pos}(hc:X.calm=true)(hm:X.mg "max" = none)(ha:PA X [e] t)(hk:PK X [⟨some "default", c,kpos⟩] tk)(hg:Gl X "max")
 (he:autoParam (Dj pos (BF [e] X.env)=(false,eval e X.env)::Dj pos (BF [] X.env)) æa._auto_1)(hpl:autoParam ((Dj pos (BF [e] X.env)).any (·.1)=false) æa._auto_1) :
 PE X (.Call (.Name "max" p) [e] [⟨some "default", c,kpos⟩] pos) (vR X.K t tk):=by
 intro pins s σ H Q I h;refine DY (gH I hg hm (by rfl) ?_ (by decide) (by decide));refine PyProof.Rows.callWith_kw (zr (ha pos pins s σ H _ I h) fun us s1 ⟨vs,H1,I1,r1,q1⟩=>?_) he hpl;refine zr (hk pos pins s1 σ H1 _ I1 q1) fun ws s2 ⟨zs,H2,I2,r2,l,ns,d,e1,e2,sq,q2⟩=>?_;subst e1 e2;obtain⟨u,rfl,ru⟩:=vals1 r1;obtain⟨w',rfl,rw'⟩:=vals1 r2;cases ru;obtain⟨its,rv,pl,hz⟩:=I2.list sq;show BS _ _ (call (.builtin "max") [.ref l] [(CU "default", w')]) _ _ _;refine ip (I.ok.hd hc) (intsAre_of rv) pl.isList fun v h' tk hv kp=>⟨z6 d ns,H2,I2.kept kp,?_,q2⟩;rcases hv with⟨e,rfl⟩|⟨m,t,e,rfl⟩
 · unfold z6;rw[e];exact rw'
 · unfold z6;rw[e];exact⟨t,rfl⟩
end
end L2
theorem L2.Room.un1{k:Nat}{A:PySem.Around}(r:L2.Room k A):A.units+1<PySem.cLine:=by have:=r.un;omega
namespace L2.VL
noncomputable def c6(kvs:List (A5×Bl))(k:A5):Option Bl:=(kvs.find? fun kv=>decide (kv.1=k)).map (·.2)
noncomputable def putF(kvs:List (A5×Bl))(k:A5)(x:Bl):List (A5×Bl) :=
 if(kvs.any fun kv=>decide (kv.1=k))=true then kvs.map (fun kv=>if kv.1=k then(kv.1,x)else kv)else kvs++[(k,x)]
section
variable{K:W.Frag}{F:Hp}{us:List (A5×V)}{kvs:List (A5×Bl)}
theorem A7.val(r:A7 K F us kvs)(k:A5):(hE us k=none/\c6 kvs k=none)\/∃v d,hE us k=some v/\c6 kvs k=some d/\Rep K F v d:=by
 induction r with
 | nil=>exact .inl ⟨rfl,rfl⟩
 | @cons p q ps qs h t ih =>
   unfold hE c6 at *;rw[B_,B_,h.1];by_cases e:q.1=k
   · simp only[e,decide_true];exact .inr ⟨p.2,q.2,rfl,rfl,h.2⟩
   · simp only[e,decide_false];exact ih
theorem A7.any(r:A7 K F us kvs)(k:A5):(us.any fun kv=>decide (kv.1=k))=kvs.any fun kv=>decide (kv.1=k):=by
 induction r with
 | nil=>rfl
 | cons h t ih=>rw[DI,DI,ih,h.1]
theorem A7.keys(r:A7 K F us kvs):us.map (·.1)=kvs.map (·.1):=by
 induction r with
 | nil=>rfl
 | cons h t ih=>rw[BM,BM,ih,h.1]
theorem A7.repl(r:A7 K F us kvs)(k:A5)(rv:Rep K F v d):A7 K F (us.map fun kv=>if kv.1=k then(kv.1,v)else kv) (kvs.map fun kv=>if kv.1=k then(kv.1,d)else kv):=by
 induction r with
 | nil=>exact .nil
 | @cons p q ps qs h t ih =>
   refine .cons ?_ ih;show(if p.1=k then(p.1,v)else p).1=(if q.1=k then(q.1,d)else q).1/\Rep K F (if p.1=k then(p.1,v)else p).2 (if q.1=k then(q.1,d)else q).2;by_cases e:q.1=k
   · have e':p.1=k:=h.1.trans e;rw[if_pos e,if_pos e'];exact⟨h.1,rv⟩
   · have e':¬p.1=k:=fun z=>e (h.1.symm.trans z);rw[if_neg e,if_neg e'];exact h
theorem A7.snoc(r:A7 K F us kvs)(k:A5)(rv:Rep K F v d):A7 K F (us++[(k,v)]) (kvs++[(k,d)]):=by
 induction r with
 | nil=>exact .cons ⟨rfl,rv⟩ .nil
 | cons h t ih=>exact .cons h ih
theorem A7.put(r:A7 K F us kvs)(k:A5)(rv:Rep K F v d):A7 K F (gz us k v) (putF kvs k d):=by
 unfold gz putF;rw[r.any k];split
 · exact r.repl k rv
 · exact r.snoc k rv
theorem A7.mono{F':Hp}(s:a_ F F')(r:A7 K F us kvs):A7 K F' us kvs:=Cf.mapP r fun _ _ z=>⟨z.1,z.2.mono s⟩
end
noncomputable def gJ:W->Option A5
 | .d (.int i)=>some (.inl i)
 | .d (.str x)=>some (.inr x)
 | _=>none
noncomputable def asFd:W->Option (List (A5×Bl))
 | .fd kvs=>some kvs
 | _=>none
theorem keyW_i(i:Int):gJ (.d (.int i))=some (.inl i):=rfl
theorem keyW_s(x:Str):gJ (.d (.str x))=some (.inr x):=rfl
theorem asFd_f(kvs:List (A5×Bl)):asFd (.fd kvs)=some kvs:=rfl
theorem rO{kvs:List (A5×Bl)}:asFd w=some kvs↔w = .fd kvs:=by
 constructor
 · intro h;unfold asFd at h;split at h<;>simp_all
 · rintro rfl;rfl
theorem de{K:W.Frag}{k:A5}(e:gJ w=some k)(r:ck K rl F H v w):v=kV k:=by
 unfold gJ at e;split at e
 · cases e;exact aM r
 · cases e;exact dt r
 · cases e
theorem isPk_fd(kvs:List (A5×Bl)):(W.fd kvs).isPk=false:=rfl
theorem fz_fd(kvs:List (A5×Bl)):(W.fd kvs).fz = .fd kvs:=rfl
theorem pk_fd(kvs:List (A5×Bl)):(W.fd kvs).peek = .fd kvs:=rfl
noncomputable def oM(ρ0:En)(g:AJ)(ft:TB)(fk fe:TV):List Bl->List (A5×Bl)->(List (A5×Bl)->Prop)->Prop
 | [],acc,Q=>Q acc
 | x::xs,acc,Q=>g x ρ0 fun ρ2=>Le ρ0 ρ2/\ft ρ2 fun b=>if b=true then fk ρ2 fun wk=>∃k,gJ wk=some k/\fe ρ2 fun w=>∃d,w.fz = .d d/\acc.length<sizeLine/\oM ρ0 g ft fk fe xs (putF acc k d) Q else oM ρ0 g ft fk fe xs acc Q
noncomputable def kz(fi:En->(List Bl->Prop)->Prop)(fr:List (Option Nat))(g:AJ)(ft:TB)(fk fe:TV):TV:=fun ρ Q=>fi ρ fun xs=>oM (fR fr ρ) g ft fk fe xs [] fun kvs=>Q (.fd kvs)
section
variable{X:Cx}{rl:Option Addr}{kx vx tg iter:Expr}{ifs:List Expr}{scope:Scope}{pos:Pos}{fi:En->(List Bl->Prop)->Prop}{g:AJ}{ft:TB}{fk fe:TV}
theorem rE{N':List Str}{wi:TI}(fr:List (Option Nat))(k0:∀{F₀ H₀ F H:Hp}{σ:St}{ρ:En},VR X.K rl F₀ H₀ F H σ ρ->∀(Qd:List Bl->Prop)(R:It->Hp->Prop),fi ρ Qd ->
 (∀J xs F' H',Grow rl F H F' H'->VIt X.K rl F' J xs->Qd xs->R J H')->wi σ H R)
 (hg:∀y,A0 (blk X N' scope y) rl tg g)(ht:∀y,uO (blk X N' scope y) rl ifs ft)(hk:∀y,PV (blk X N' scope y) rl kx fk)(he:∀y,PV (blk X N' scope y) rl vx fe)
 (R:VR X.K rl F₀ H₀ F H σ ρ)(Qd:W->Prop)(Q:VK)(q:kz fi fr g ft fk fe ρ Qd)
 (k:∀v w F' H',Grow rl F H F' H'->ck X.K rl F' H' v w->c8 H v w->Qd w->Q v H'):kD wi fr (fun y=>C_ (hg y)) (fun y=>C_ (ht y)) (fun y=>C_ (hk y)) (fun y=>C_ (he y)) σ H Q:=by
 refine k0 R _ _ q fun J xs F1 H1 g1 vi q1=>?_;intro D hD;have rD:rl≠some D:=fun e=>by obtain⟨o,z⟩:=g1.reel.live e;rw[hD]at z;cases z
 have FD:F1 D=none:=g1.sub.free hD;have gD:Grow rl F1 H1 F1 (upd H1 D (.dK [])):=Grow.laid g1.sub g1.reel hD;have R1:=R.grow g1;have n0:mV (fR fr ρ):=eB
 refine⟨fun i m acc σc Hc=>m=xs.length-i/\i<=xs.length/\∃Fc ds,VR X.K rl F1 H1 Fc Hc σc (fR fr ρ)/\Hc D=some (.dK acc)/\Fc D=none/\A7 X.K Fc acc ds/\oM (fR fr ρ) g ft fk fe (xs.drop i) ds (fun ds=>Qd (.fd ds)),
  ⟨xs.length,by simp,B7 _,F1,[],iI R1 gD,ak,FD,.nil,by simpa using q1⟩,?_⟩
 rintro z i m acc σc Hc ⟨rfl,hi,Fc,ds,Rc,hDc,fDc,rs,q2⟩;have sH:a_ F1 Hc:=Rc.g.fs.trans Rc.sub;by_cases hlt:i<xs.length
 · have ei:xs[i]?=some xs[i]:=by simp[hlt]
   have ed:xs.drop i=xs[i]::xs.drop (i+1):=CB hlt;rw[ed]at q2;refine .inr ⟨vi.go i Hc _ ei sH,fun v H' y=>?_⟩;obtain⟨Fy,gy,rv⟩:=vi.yld i Hc v H' _ Fc ei Rc.g.fs Rc.sub Rc.reel y;refine(BQ (hg z)).2 (Rc.grow gy) v _ _ _ rv q2 fun F3 H3 σ3 ρ3 g3 n3 R3 ⟨le3,q3⟩=>?_;refine(BQ (ht z)).2 R3 _ _ q3 fun b F4 H4 g4 q4=>?_;have R4:=R3.grow g4;have g34:=(gy.trans g3).trans g4;have keepD:∀{Fx Hx:Hp},Grow rl Fc Hc Fx Hx->Hx D=some (.dK acc)/\Fx D=none:=fun gx=>⟨gx.same D _ hDc rD,by rw[gx.old D _ hDc];exact fDc⟩
   cases b with
   | false=>exact⟨xs.length-(i+1),by omega,rfl,hlt,F4,ds,R4.le le3,(keepD g34).1,(keepD g34).2,rs.mono g34.fs,q4⟩
   | true =>
     refine(BQ (hk z)).2 R4 _ _ q4 fun vk wk Fk Hk gk rk nk ⟨kk,ekk,qk⟩=>?_;have evk:=de ekk rk;have R5:=R4.grow gk;refine(BQ (he z)).2 R5 _ _ qk fun v5 w5 F5 H5 g5 r5 n5 ⟨d,ed5,hl,q5⟩=>?_;obtain⟨F6,g6,s6,r6⟩:=ck.fz g5 r5 n5;rw[ed5]at r6;have g36:=(g34.trans gk).trans g6;have lds:acc.length=ds.length:=CO rs;refine⟨kk,evk,(keepD g36).1,by rw[lds];exact hl,xs.length-(i+1),by omega,rfl,hlt,F6,putF ds kk d,((R5.grow g6).le le3).other n0 hD (keepD g36).2 rD,ak,(keepD g36).2,(rs.mono g36.fs).put kk r6,q5⟩
 · have e:i=xs.length:=by omega
   subst e;rw[Em]at q2;have neF:∀b u,Fc b=some u->b≠D:=fun b u q z=>by subst z;rw[fDc]at q;cases q
   have fsm:a_ Fc (upd Fc D (.dK acc)):=fun b u z=>by rw[upd_ne (neF b u z)];exact z
   refine .inl ⟨vi.stop _ Hc (By _) sH,k _ (.fd ds) (upd Fc D (.dK acc)) Hc ((g1.trans Rc.g).freeze (g1.freeB hD) hDc fDc rD) ⟨D,acc,rfl,ak,rs.mono fsm⟩ trivial q2⟩
theorem g9(i:Nat){b:Bool}{px spos:Pos}(hN:X.N.Nodup)(N':List Str)(fr:List (Option Nat))(hc:X.calm=true)(hi:AX X rl tg iter fi)
 (hg:∀y,A0 (blk X N' scope y) rl tg g)(ht:∀y,uO (blk X N' scope y) rl ifs ft)(hk:∀y,PV (blk X N' scope y) rl kx fk)(he:∀y,PV (blk X N' scope y) rl vx fe)
 (hsw:autoParam (DU (.DictComp kx vx [⟨tg,iter,ifs,0⟩] scope pos) (some (.Name x px)) spos.line X.env=pure b) æa._auto_1)
 (hix:autoParam (X.N[i]?=some x) æa._auto_1)(hx:autoParam (Loc X.env.scope x) æd._auto_1)(hf:autoParam (X.fn x=true\/X.env.scope.names.lookup x=some .local) æe._auto_1)
 (hfr:autoParam (rm fr N' X.N scope X.env.scope=true) æa._auto_1)(hsc:autoParam (sZ scope X.env.scope=true) æa._auto_1)
 (hs:autoParam (∀x,C0 iter X.env x=pure x) æc._auto_1):AV X rl (.Assign [.Name x px] (.DictComp kx vx [⟨tg,iter,ifs,0⟩] scope pos) spos) (vy i (kz fi fr g ft fk fe)):=by
 obtain⟨wi,p0,k0⟩:=hi;refine⟨_,ic N' fr hc p0 hfr hsc (fun y=>(BQ (hg y)).1) (fun y=>(BQ (ht y)).1) (fun y=>(BQ (hk y)).1) (fun y=>(BQ (he y)).1) hN hix hx hf hsw hs,fun R Dv D ok q=>rE fr k0 hg ht hk he R _ _ q fun v w F1 H1 g1 r1 n1 ⟨hp,q1⟩=>?_⟩;exact ok.nx _ _ _ _ g1.fs (R.set g1 r1 n1 (fun xs z=>by subst z;cases hp) i) q1
end
noncomputable def Ae(ρ0:En)(g:AJ)(ft:TB)(fk fe:TV)(x:Bl):Mo (Option (A5×Bl)):=Ax (g x ρ0) fun ρ2=>An (Le ρ0 ρ2) (Ax (ft ρ2) fun b=>if b=true then Ax (fk ρ2) fun wk=>am (gJ wk) fun k=>Ax (fe ρ2) fun w=>am (asD w.fz) fun d=>ret (some (k,d))else ret none)
noncomputable def cN(b:Bl->Mo (Option (A5×Bl))):List Bl->List (A5×Bl)->Mo (List (A5×Bl))
 | [],acc=>ret acc
 | x::xs,acc=>Ax (b x) fun o=>match o with
   | some d=>An (acc.length<sizeLine) (cN b xs (putF acc d.1 d.2))
   | none=>cN b xs acc
theorem ji(ρ0:En)(g:AJ)(ft:TB)(fk fe:TV):∀(xs:List Bl)(acc:List (A5×Bl)),oM ρ0 g ft fk fe xs acc=cN (Ae ρ0 g ft fk fe) xs acc
 | [],acc=>rfl
 | x::xs,acc=>by
   refine ae fun Q=>?_;show(g x ρ0 fun ρ2=>Le ρ0 ρ2/\ft ρ2 fun b=>if b=true then fk ρ2 fun wk=>∃k,gJ wk=some k/\fe ρ2 fun w=>∃d,w.fz = .d d/\acc.length<sizeLine/\oM ρ0 g ft fk fe xs (putF acc k d) Q else oM ρ0 g ft fk fe xs acc Q)↔(Ax (Ae ρ0 g ft fk fe x) _) Q;simp only[ji ρ0 g ft fk fe xs]
   have:∀(ρ2:En)(b:Bool),(if b=true then fk ρ2 fun wk=>∃k,gJ wk=some k/\fe ρ2 fun w=>∃d,w.fz = .d d/\acc.length<sizeLine/\cN (Ae ρ0 g ft fk fe) xs (putF acc k d) Q else cN (Ae ρ0 g ft fk fe) xs acc Q)=(Ax (if b=true then Ax (fk ρ2) fun wk=>am (gJ wk) fun k=>Ax (fe ρ2) fun w=>am (asD w.fz) fun d=>ret (some (k,d))else ret none) fun o=>match o with
   | some d=>An (acc.length<sizeLine) (cN (Ae ρ0 g ft fk fe) xs (putF acc d.1 d.2))
   | none=>cN (Ae ρ0 g ft fk fe) xs acc) Q:=by
     intro ρ2 b
     cases b with
     | false=>rfl
     | true =>
       rw[if_pos rfl,if_pos rfl];show _=fk ρ2 fun wk=>_;congr 1;funext wk;refine propext ?_;show _↔(Ax (am (gJ wk) fun k=>Ax (fe ρ2) fun w=>am (asD w.fz) fun d=>ret (some (k,d))) _) Q;rw[bnd_opt,af]
       have e2:∀(k:A5),(fe ρ2 fun w=>∃d,w.fz = .d d/\acc.length<sizeLine/\cN (Ae ρ0 g ft fk fe) xs (putF acc k d) Q)=(Ax (Ax (fe ρ2) fun w=>am (asD w.fz) fun d=>ret (some (k,d))) fun o=>match o with
        | some d=>An (acc.length<sizeLine) (cN (Ae ρ0 g ft fk fe) xs (putF acc d.1 d.2))
        | none=>cN (Ae ρ0 g ft fk fe) xs acc) Q:=fun k=>by
        show _=fe ρ2 fun w=>_;congr 1;funext w;refine propext ?_;show _↔(Ax (am (asD w.fz) fun d=>ret (some (k,d))) _) Q;rw[bnd_opt,af];simp only[cg];exact ER
       simp only[e2]
   simp only[this];exact ER
theorem m_compD(fi:En->(List Bl->Prop)->Prop)(fr:List (Option Nat))(g:AJ)(ft:TB)(fk fe:TV)(ρ:En):kz fi fr g ft fk fe ρ=Ax (fi ρ) fun xs=>Ax (cN (Ae (fR fr ρ) g ft fk fe) xs []) fun kvs=>ret (.fd kvs):=by
 refine ae fun Q=>?_;show(fi ρ fun xs=>oM (fR fr ρ) g ft fk fe xs [] fun ds=>Q (.fd ds))↔_;simp only[ji];exact ER
theorem nw(kvs:List (A5×Bl))(k:A5)(x:Bl):(putF kvs k x).length<=kvs.length+1:=by
 unfold putF;split<;>simp
section
variable{α:Type}{b:Bl->Mo (Option (A5×Bl))}
theorem gT{enc:α->Bl}(f:α->A5×Bl):∀(xs:List α)(acc:List (A5×Bl)),(∀x∈xs,b (enc x)=ret (some (f x)))->acc.length+xs.length<=sizeLine->cN b (xs.map enc) acc=ret ((xs.map f).foldl (fun a p=>putF a p.1 p.2) acc)
 | [],acc,_,_=>rfl
 | x::xs,acc,h,hl=>by
   show Ax (b (enc x)) _=_;rw[h x Bw,bnd_ret];show An (acc.length<sizeLine) (cN b (xs.map enc) (putF acc (f x).1 (f x).2))=_;simp only[CL]at hl;have:=nw acc (f x).1 (f x).2;rw[aj (by omega),gT f xs _ (fun y hy=>h y (Br _ hy)) (by omega)];rfl
theorem rC{β:Type}{Q:β->Prop}{k:List (A5×Bl)->Mo β}{xs:List α}{enc:α->Bl}{xs':List Bl}(f:α->A5×Bl)(hx:xs'=xs.map enc)(h:∀x∈xs,b (enc x)=ret (some (f x)))(hl:xs.length<=sizeLine)
 (fin:k ((xs.map f).foldl (fun a p=>putF a p.1 p.2) []) Q):Ax (cN b xs' []) k Q:=by
 subst hx;rw[gT f xs [] h (by simpa using hl)];exact fin
end
section
variable{X:Cx}{rl:Option Addr}{a c e o i:Expr}{es:List Expr}{fa fb:TV}{fs:AF}{pos p kpos:Pos}{ρ:En}
noncomputable def kr(fa fb:TV):TV:=fun ρ Q=>fa ρ fun x=>fb ρ fun y=>∃kvs k d,x = .fd kvs/\gJ y=some k/\c6 kvs k=some d/\Q (.d d)
theorem kd(hu:X.A.units+1<FY)(ho:PV X rl o fa)(hi:PV X rl i fb)(hs:uP i:=by intro _ _;rfl):PV X rl (.Subscript o i pos) (kr fa fb):=by
 obtain⟨t1,p1,k1⟩:=ho;obtain⟨t2,p2,k2⟩:=hi;refine⟨_,qH hu p1 p2 hs,fun R Qd Q q h=>k1 R _ _ q fun v w F1 H1 g1 r1 n1 q1=>k2 (R.grow g1) _ _ q1 fun v2 w2 F2 H2 g2 r2 n2 ⟨kvs,k,d,ex,ek,ed,q2⟩=>?_⟩;subst ex;obtain⟨x,us,rfl,hx,rk⟩:=r1.grow g2;have ev:=de ek r2;subst ev;rcases rk.val k with⟨_,z⟩|⟨v3,d3,e1,e2,r3⟩
 · rw[ed]at z;cases z
 · rw[ed]at e2;cases e2;refine⟨x,v3,rfl,?_,h v3 (.d d) F2 H2 (g1.trans g2) r3 trivial q2⟩;rw[<- e1];exact va.k (g2.sub _ _ hx)
theorem m_vDGetF:kr fa fb ρ=Ax (fa ρ) fun x=>Ax (fb ρ) fun y=>am (asFd x) fun kvs=>am (gJ y) fun k=>am (c6 kvs k) fun d=>ret (.d d):=by
 refine ae fun Q=>?_;simp only[kr,Ax,af,rO,ret];constructor
 · intro h;refine cast ?_ h;congr 1;funext x;congr 1;funext y;exact propext ⟨fun⟨a,b,c,d,e,f,g⟩=>⟨a,d,b,e,c,f,g⟩,fun⟨a,d,b,e,c,f,g⟩=>⟨a,b,c,d,e,f,g⟩⟩
 · intro h;refine cast ?_ h;congr 1;funext x;congr 1;funext y;exact propext ⟨fun⟨a,d,b,e,c,f,g⟩=>⟨a,b,c,d,e,f,g⟩,fun⟨a,b,c,d,e,f,g⟩=>⟨a,d,b,e,c,f,g⟩⟩
noncomputable def uo:List W->(W->Prop)->Prop:=fun ws Q=>∃(kvs:List (A5×Bl))(ns:List Int),ws=[.fd kvs]/\kvs.map (·.1)=ns.map Cs/\ns.length<64/\∀ns':List Int,ns'.Perm ns->ns'.Pairwise (· <= ·)->Q (.ml (ns'.map .int))
theorem fX(hc:X.calm=true)(hm:X.mg "sorted" = none)(ha:AS X rl [a] fs)(hg:autoParam (Gl X "sorted") æa._auto_1)(he:autoParam (BF [a] X.env=(false,eval a X.env)::BF [] X.env) æa._auto_1)(hpl:autoParam ((Dj pos (BF [] X.env)).any (·.1)=false) æa._auto_1) :
 PV X rl (.Call (.Name "sorted" p) [a] [] pos) (cp uo fs):=by
 refine bT (gU hc) (fun{F H vs ws} Qd Q s ra r ⟨kvs,ns,ew,ek,hl,q⟩ k=>?_) hm (by rfl) ha hg (by decide) (by decide) he hpl;subst ew;obtain⟨v,rfl,b,us,rfl,hb,rk⟩:=jS r;exact⟨b,us,ns,rfl,.inl (s _ _ hb),by rw[rk.keys];exact ek,hl,fun ns' h1 h2 l hl=>k _ (.ml _) _ _ (Grow.laid s ra hl) (fj s ra hl fB) (fun a ea=>by cases ea;exact hl) (q ns' h1 h2)⟩
theorem kJ{Q:α->Prop}{K:W->Mo α}{kvs:List (A5×Bl)}(ns:List Int)(e:kvs.map (·.1)=ns.map Cs)(hl:ns.length<64)(h:∀ns':List Int,ns'.Perm ns->ns'.Pairwise (· <= ·)->K (.ml (ns'.map .int)) Q):Ax (uo [.fd kvs]) K Q :=
 ⟨kvs,ns,rfl,e,hl,fun ns' h1 h2=>h ns' h1 h2⟩
noncomputable def z7(d:Int)(ns:List Int):Int:=(bA none ns).getD d
noncomputable def pR(fs:AF)(fc:TV):TV:=fun ρ Q=>fs ρ fun ws=>fc ρ fun y=>∃ns d,dh ws=some [.list (ns.map .int)]/\y = .d (.int d)/\Q (.d (.int (z7 d ns)))
theorem si(hc:X.calm=true)(hm:X.mg "max" = none)(ha:AS X rl [e] fs)(hk:PV X rl c fb)(hg:autoParam (Gl X "max") æa._auto_1)
 (he:autoParam (Dj pos (BF [e] X.env)=(false,eval e X.env)::Dj pos (BF [] X.env)) æa._auto_1)(hpl:autoParam ((Dj pos (BF [e] X.env)).any (·.1)=false) æa._auto_1) :
 PV X rl (.Call (.Name "max" p) [e] [⟨some "default", c,kpos⟩] pos) (pR fs fb):=by
 obtain⟨t1,p1,k1⟩:=ha;obtain⟨t2,p2,k2⟩:=hk;refine⟨_,qF hc hm p1 (qB p2 tM) hg he hpl,fun R Qd Q q h=>k1 R _ _ q fun vs ws F1 H1 g1 r1 q1=>k2 (R.grow g1) _ _ q1 fun v2 w2 F2 H2 g2 r2 n2 ⟨ns,d,ed,ew,q2⟩=>?_⟩;subst ew;have e2:=aM r2;subst e2;have rs:=cM r1 ed
 cases rs with
 | cons rx rs =>
   cases rs
   cases rx with
   | @lst l us _ hb ry =>
     have eu:=cH ry;subst eu;refine⟨l,ns,.int d,rfl,rfl,.inl (.inl (g2.sub _ _ (g2.fs _ _ hb))),h _ (.d (.int (z7 d ns))) F2 H2 (g1.trans g2) ?_ trivial q2⟩;have:z6 (.int d) ns = .int (z7 d ns):=by unfold z6 z7;cases bA none ns<;>rfl
     rw[this];exact .int _
noncomputable def lp(ws:List W):Option (List Int):=match dh ws with
 | some [.list xs]=>d0 xs
 | _=>none
theorem m_vMaxD{fc:TV}:pR fs fc ρ=Ax (fs ρ) fun ws=>Ax (fc ρ) fun y=>am (lp ws) fun ns=>am (asI y) fun d=>ret (.d (.int (z7 d ns))):=by
 have key:∀(ws:List W)(ns:List Int),lp ws=some ns↔dh ws=some [.list (ns.map .int)]:=by
  intro ws ns;unfold lp;constructor
  · intro h;split at h
    · rename_i xs e;rw[e,df h]
    · cases h
  · intro h;rw[h];exact intsD_map ns
 refine ae fun Q=>?_;simp only[pR,Ax,af,bq,ret,key];constructor
 · intro h;refine cast ?_ h;congr 1;funext x;congr 1;funext y;exact propext ⟨fun⟨a,b,c,d,e⟩=>⟨a,c,b,d,e⟩,fun⟨a,c,b,d,e⟩=>⟨a,b,c,d,e⟩⟩
 · intro h;refine cast ?_ h;congr 1;funext x;congr 1;funext y;exact propext ⟨fun⟨a,c,b,d,e⟩=>⟨a,b,c,d,e⟩,fun⟨a,b,c,d,e⟩=>⟨a,c,b,d,e⟩⟩
theorem oneIs_l(ns:List Int):lp [.d (.list (ns.map .int))]=some ns:=by
 unfold lp dh;exact intsD_map ns
end
noncomputable def Bj:=Bk @m_compD (Bk @m_vDGetF (Bk @m_vMaxD (Bk @keyW_i (Bk @keyW_s (Bk @asFd_f (Bk @isPk_fd (Bk @fz_fd (Bk @pk_fd (@oneIs_l)))))))))
end L2.VL
namespace L2
noncomputable def yG(K:W.Frag)(tl:TE):TI:=fun σ H R=>tl σ H fun x H1=>∃a,x = .ref a/\(((∃xs,AM K H1 a xs)/\R (Ba K a) H1)\/((∃xs,AL K H1 a xs)/\R (A9 K a) H1))
theorem tO{l:Expr}{tl:TE}(hl:PE X l tl):PI X tg l (yG X.K tl):=by
 intro pins s σ H R I h;refine zr (hl pins s σ H _ I h) fun v s1 ⟨x,H1,I1,r1,q1⟩=>?_;obtain⟨a,e,q1⟩:=q1;subst e;cases r1
 have fin:∀b∈[s1.heap.objs.size],jW X pins H1 b:=fun b hb=>by
  have e:b=s1.heap.objs.size:=by simpa using hb
  subst e;exact I1.fpOk (By _) (I1.hok.fresh (By _))
 rcases q1 with⟨⟨xs,hq⟩,q⟩|⟨⟨xs,hq⟩,q⟩
 · obtain⟨its,rv,p,hz⟩:=I1.list hq;exact D7 p.isList ⟨s1.heap.objs.size,[s1.heap.objs.size],_,_,H1,rfl,I1.kept (t':=s1.toks) fun b o e=>Bn _ e,fY a _,⟨_,BJ _ rfl,rfl,rfl⟩,fin,q⟩
 · obtain⟨its,rv,p,hz⟩:=I1.tuple hq;exact wpAny_pyIter_tuple (show s1.heap.IsTuple a its.toArray from p) ⟨s1.heap.objs.size,[s1.heap.objs.size],_,_,H1,rfl,I1.kept (t':=s1.toks) fun b o e=>Bn _ e,d8 a _,⟨_,BJ _ rfl,rfl,rfl⟩,fin,q⟩
end L2
namespace L2.VL
section
variable{X:Cx}{rl:Option Addr}{tg:Expr}{fa:TV}{ρ:En}
noncomputable def iS(fa:TV):En->(List Bl->Prop)->Prop:=fun ρ Q=>fa ρ fun w=>∃xs,(w.fz = .d (.list xs)\/w.fz = .d (.tuple xs))/\Q xs
theorem oH{l:Expr}(hl:PV X rl l fa):AX X rl tg l (iS fa):=by
 obtain⟨t,p,k⟩:=hl;refine⟨_,tO p,fun R Qd Q q h=>k R _ _ q fun v w F1 H1 g1 r1 n1 ⟨xs,ew,q1⟩=>?_⟩;obtain⟨F2,g2,s2,r2⟩:=ck.fz g1 r1 n1;rcases ew with ew|ew
 · rw[ew]at r2
   cases(show Rep X.K F2 v (.list xs)from r2)with
   | @lst a vs _ sq rs =>
     have sqH:∀H,a_ F2 H->AM X.K H a vs:=fun H s=>.inl (.inl (s _ _ sq));refine⟨a,rfl,.inl ⟨⟨vs,sqH H1 g2.sub⟩,h _ xs F2 H1 g2 (.of (fun i H x e s=>?_) (fun i H hl s=>⟨vs,sqH H s,by rw[rs.length];exact hl⟩) (fun i H v H' x e s y=>?_)) q1⟩⟩
     · obtain⟨v,ev,_⟩:=rs.get e;exact⟨vs,v,sqH H s,ev⟩
     · obtain⟨e',hy⟩:=y;obtain⟨v',ev,rv⟩:=rs.get e;have:=hy vs (sqH H s);rw[ev]at this;cases this;exact⟨e',rv⟩
 · rw[ew]at r2
   cases(show Rep X.K F2 v (.tuple xs)from r2)with
   | @tup a vs _ sq rs =>
     have sqH:∀H,a_ F2 H->AL X.K H a vs:=fun H s=>cr s sq;refine⟨a,rfl,.inr ⟨⟨vs,sqH H1 g2.sub⟩,h _ xs F2 H1 g2 (.of (fun i H x e s=>?_) (fun i H hl s=>⟨vs,sqH H s,by rw[rs.length];exact hl⟩) (fun i H v H' x e s y=>?_)) q1⟩⟩
     · obtain⟨v,ev,_⟩:=rs.get e;exact⟨vs,v,sqH H s,ev⟩
     · obtain⟨e',hy⟩:=y;obtain⟨v',ev,rv⟩:=rs.get e;have:=hy vs (sqH H s);rw[ev]at this;cases this;exact⟨e',rv⟩
noncomputable def seqW:W->Option (List Bl)
 | .d (.list xs)=>some xs
 | .d (.tuple xs)=>some xs
 | _=>none
theorem seqW_l(xs:List Bl):seqW (.d (.list xs))=some xs:=rfl
theorem seqW_t(xs:List Bl):seqW (.d (.tuple xs))=some xs:=rfl
theorem p9:seqW w=some xs↔(w = .d (.list xs)\/w = .d (.tuple xs)):=by
 constructor
 · intro h;unfold seqW at h;split at h<;>simp_all
 · rintro(rfl|rfl)<;>rfl
theorem m_iS:iS fa ρ=Ax (fa ρ) fun w=>am (seqW w.fz) ret:=by
 refine ae fun Q=>?_;simp only[iS,Ax,af,p9,ret]
noncomputable def Bg:=Bk @m_iS (Bk @seqW_l (@seqW_t))
end
end L2.VL
namespace L2
variable{X:Cx}
end L2
namespace L2.VL
section
variable{X:Cx}{rl:Option Addr}{a e:Expr}{es:List Expr}{fs:AF}{pos:Pos}
noncomputable def yE(ws:List W):Option (Int×Bl):=match dh ws with
 | some [.int i,x]=>some (i,x)
 | _=>none
theorem ui(i:Int)(x:Bl):yE [.d (.int i),.d x]=some (i,x):=rfl
noncomputable def Bh:=@ui
end
end L2.VL
namespace L2.KS
open PySem PySem.W PyProof.Rows
noncomputable def Kp{α:Type}(n:Nat)(c:Nat->Nat->Bool):KasT α->(α->Prop)->Prop
 | .ret a,R=>R a
 | .ask i j k,R=>i<n/\j<n/\Kp n c (k (c i j)) R
theorem Kp.bind{α β:Type}{n:Nat}{c:Nat->Nat->Bool}{f:α->KasT β}{R:β->Prop}:∀{t:KasT α},Kp n c t (fun a=>Kp n c (f a) R)->Kp n c (t.bind f) R
 | .ret _,h=>h
 | .ask _ _ k,⟨h1,h2,h⟩=>⟨h1,h2,Kp.bind (t:=k _) h⟩
theorem Kp.mono{α:Type}{n:Nat}{c:Nat->Nat->Bool}{R R':α->Prop}(hr:∀a,R a->R' a):∀{t:KasT α},Kp n c t R->Kp n c t R'
 | .ret _,h=>hr _ h
 | .ask _ _ k,⟨h1,h2,h⟩=>⟨h1,h2,Kp.mono hr (t:=k _) h⟩
structure Ord (n:Nat) (c:Nat->Nat->Bool):Prop where
 asym:∀i j,i<n->j<n->c i j=true->c j i=false
 trans:∀i j k,i<n->j<n->k<n->c j i=false->c k j=false->c k i=false
section
variable{n:Nat}{c:Nat->Nat->Bool}
abbrev at_(p:Array Nat)(i:Nat):Nat:=p.getD i 0
noncomputable def Ok(n:Nat)(p:Array Nat):Prop:=p.toList.Perm (BZ n)
theorem Ok.size(h:Ok n p):p.size=n:=by have:=h.length_eq;simpa using this
theorem Ok.lt(h:Ok n p)(hi:i<n):at_ p i<n:=by
 have hs:=h.size
 have e:at_ p i=p.toList[i]'(by simpa[hs]using hi):=by
  unfold at_
  rw[C2,Cq (by omega)];simp
 rw[e];exact CT.mp (h.mem_iff.mp (Fe _))
theorem Ok.perm{q:Array Nat}(h:Ok n p)(hq:q.Perm p):Ok n q:=(Array.perm_iff_toList_perm.mp hq).trans h
theorem mF{q:Array Nat}(h:p[i]?=q[j]?):at_ p i=at_ q j:=by
 unfold at_
 rw[C2,C2,h]
theorem ce(hj:j<=p.size)(k:Nat):at_ (GZ p i j) k=if i<=k/\k<j then at_ p (i+j-1-k)else at_ p k:=by
 have e:=getElem?_mirror_all (xs:=p) (i:=i) hj k;unfold GZ;by_cases h:i<=k/\k<j
 · rw[if_pos h]at e ⊢;exact mF e
 · rw[if_neg h]at e ⊢;exact mF e
theorem iU(h:Ok n p)(i j:Nat):Ok n (GZ p i j):=h.perm (mirror_perm ..)
theorem pd{s d:Nat}(hs:s<p.size)(hd:d<=s)(k:Nat):at_ (bubble p s d) k=if k=s-d then at_ p s else if s-d<k/\k<=s then at_ p (k-1)else at_ p k:=by
 have e:=getElem?_bubble (xs:=p) hs d hd k;by_cases h1:k=s-d
 · rw[if_pos h1]at e ⊢;exact mF e
 · rw[if_neg h1]at e ⊢;by_cases h2:s-d<k/\k<=s
   · rw[if_pos h2]at e ⊢;exact mF e
   · rw[if_neg h2]at e ⊢;exact mF e
noncomputable def As(c:Nat->Nat->Bool)(p:Array Nat)(b:Nat):Prop:=∀i j,i<=j->j<b->c (at_ p j) (at_ p i)=false
noncomputable def De(c:Nat->Nat->Bool)(p:Array Nat)(b:Nat):Prop:=∀i j,i<=j->j<b->c (at_ p i) (at_ p j)=false
variable(O:Ord n c)
include O
theorem Af(h:i<n):c i i=false:=by
 cases e:c i i with
 | false=>rfl
 | true=>have z:=O.asym i i h h e;rw[e]at z;cases z
theorem uH(h:Ok n p)(h1:1<=n):As c p 1:=fun i j hij hj=>by
 have:i=j:=by omega
 subst this;exact Af O (h.lt (by omega))
theorem rL{b:Nat}(h:Ok n p)(hb:b<n)(b1:1<=b)(ha:As c p b)(hc:c (at_ p b) (at_ p (b-1))=false):As c p (b+1):=fun i j hij hj=>by
 by_cases e:j=b
 · subst e;by_cases e2:i=j
   · subst e2;exact Af O (h.lt hb)
   · exact O.trans _ _ _ (h.lt (by omega)) (h.lt (by omega)) (h.lt hb) (ha i (j-1) (by omega) (by omega)) hc
 · exact ha i j hij (by omega)
theorem fI{b:Nat}(h:Ok n p)(hb:b<n)(b1:1<=b)(ha:De c p b)(hc:c (at_ p (b-1)) (at_ p b)=false):De c p (b+1):=fun i j hij hj=>by
 by_cases e:j=b
 · subst e;by_cases e2:i=j
   · subst e2;exact Af O (h.lt hb)
   · exact O.trans _ _ _ (h.lt hb) (h.lt (by omega)) (h.lt (by omega)) hc (ha i (j-1) (by omega) (by omega))
 · exact ha i j hij (by omega)
theorem mG{p:Array Nat}(h:Ok n p):∀(f b:Nat),1<=b->b+f=n->As c p b->Kp n c (kas_asc p f b) fun m=>b<=m/\m<=n/\As c p m/\(m<n->c (at_ p m) (at_ p (m-1))=true)
 | 0,b,b1,hf,ha=>⟨By _,by omega,ha,fun z=>by omega⟩
 | f+1,b,b1,hf,ha=>by
   refine⟨h.lt (by omega),h.lt (by omega),?_⟩
   cases e:c (at_ p b) (at_ p (b-1))with
   | true=>dsimp only;rw[if_pos rfl];exact⟨By _,by omega,ha,fun _=>e⟩
   | false =>
     dsimp only;rw[if_neg (by decide)];exact(mG h f (b+1) (by omega) (by omega) (rL O h (by omega) b1 ha e)).mono fun m ⟨h1,h2,h3⟩=>⟨by omega,h2,h3⟩
noncomputable def Al(c:Nat->Nat->Bool)(p:Array Nat)(b q:Nat):Prop:=q+1<=b/\∀i j,b-(q+1)<=i->i<b->b-(q+1)<=j->j<b->c (at_ p i) (at_ p j)=false
theorem o9{b q:Nat}(h:Ok n p)(hb:b<=n)(hd:De c p b)(ha:Al c p b q):De c (GZ p (b-(q+1)) b) b:=fun i j hij hj=>by
 have hs:=h.size;obtain⟨qb,al⟩:=ha;rw[ce (by omega),ce (by omega)];by_cases c1:b-(q+1)<=i/\i<b
 · rw[if_pos c1,if_pos ⟨by omega,hj⟩];exact al _ _ (by omega) (by omega) (by omega) (by omega)
 · rw[if_neg c1];by_cases c2:b-(q+1)<=j/\j<b
   · rw[if_pos c2];exact hd _ _ (by omega) (by omega)
   · rw[if_neg c2];exact hd _ _ hij hj
theorem fH:∀(f:Nat)(p:Array Nat)(b q:Nat),Ok n p->1<=b->b+f=n->De c p b->Al c p b q->Kp n c (kas_desc f p b q) fun r=>Ok n r.1/\1<=r.2.1/\r.2.1<=n/\De c r.1 r.2.1/\Al c r.1 r.2.1 r.2.2
 | 0,p,b,q,h,b1,hf,hd,ha=>⟨h,b1,(show b<=n by omega),hd,ha⟩
 | f+1,p,b,q,h,b1,hf,hd,ha=>by
   have hs:=h.size;refine⟨h.lt (by omega),h.lt (by omega),?_⟩
   have one:∀{p':Array Nat},Ok n p'->Al c p' (b+1) 0:=fun h'=>⟨by omega,fun i j h1 h2 h3 h4=>by
    have:i=j:=by omega
    subst this
    exact Af O (h'.lt (by omega))⟩
   cases e:c (at_ p b) (at_ p (b-1))with
   | true =>
     dsimp only;rw[if_pos rfl];have e':=O.asym _ _ (h.lt (by omega)) (h.lt (by omega)) e;by_cases hq:q>0
     · rw[if_pos hq];have h':=iU h (b-(q+1)) b;refine fH f _ (b+1) 0 h' (by omega) (by omega) (fI O h' (by omega) b1 (o9 O h (by omega) hd ha) ?_) (one h');rw[ce (by omega),ce (by omega),if_neg (show ¬(b-(q+1)<=b/\b<b) by omega),if_pos ⟨by have:=ha.1;omega,by omega⟩];have a:=ha.2 (b-(q+1)+b-1-(b-1)) (b-1) (by omega) (by have:=ha.1;omega) (by omega) (by omega);exact O.trans _ _ _ (h.lt (by omega)) (h.lt (by omega)) (h.lt (by have:=ha.1;omega)) e' a
     · rw[if_neg hq]
       exact fH f _ (b+1) 0 h (by omega) (by omega) (fI O h (by omega) b1 hd e') (one h)
   | false =>
     dsimp only;rw[if_neg (by decide)];refine⟨h.lt (by omega),h.lt (by omega),?_⟩
     cases e2:c (at_ p (b-1)) (at_ p b)with
     | true=>dsimp only;rw[if_pos rfl];exact⟨h,b1,(show b<=n by omega),hd,ha⟩
     | false =>
       dsimp only;rw[if_neg (by decide)];refine fH f _ (b+1) (q+1) h (by omega) (by omega) (fI O h (by omega) b1 hd e2) ⟨by have:=ha.1;omega,fun i j h1 h2 h3 h4=>?_⟩;have qb:=ha.1
       have to:∀i,b-(q+1)<=i->i<b->c (at_ p i) (at_ p b)=false/\c (at_ p b) (at_ p i)=false:=fun i h1 h2 =>
        ⟨O.trans _ _ _ (h.lt (by omega)) (h.lt (by omega)) (h.lt (by omega)) e2 (ha.2 i (b-1) h1 h2 (by omega) (by omega)),O.trans _ _ _ (h.lt (by omega)) (h.lt (by omega)) (h.lt (by omega)) (ha.2 (b-1) i (by omega) (by omega) h1 h2) e⟩
       by_cases ci:i=b
       · by_cases cj:j=b
         · subst ci;subst cj;exact Af O (h.lt (by omega))
         · subst ci;exact(to j (by omega) (by omega)).2
       · by_cases cj:j=b
         · subst cj;exact(to i (by omega) (by omega)).1
         · exact ha.2 i j (by omega) (by omega) (by omega) (by omega)
theorem uG{b:Nat}(h:Ok n p)(hb:b<=n)(hd:De c p b):As c (GZ p 0 b) b:=fun i j hij hj=>by
 have hs:=h.size;rw[ce (by omega),ce (by omega),if_pos ⟨by omega,hj⟩,if_pos ⟨by omega,by omega⟩];exact hd _ _ (by omega) (by omega)
noncomputable def Cn(n:Nat)(c:Nat->Nat->Bool)(r:Nat×Array Nat):Prop:=Ok n r.2/\1<=r.1/\r.1<=n/\As c r.2 r.1
theorem kC{b:Nat}(h:Ok n p)(b1:1<=b)(hb:b<=n)(hd:De c p b):Kp n c (kas_tail3 b n p) (Cn n c):=by
 have h':=iU h 0 b;exact Kp.bind ((mG O h' (n-b) b b1 (by omega) (uG O h hb hd)).mono fun m ⟨h1,h2,h3,_⟩=>⟨h',by show 1<=m;omega,h2,h3⟩)
theorem dH{b:Nat}(h:Ok n p)(b1:1<=b)(hb:b<n)(hd:De c p b)(hc:c (at_ p (b-1)) (at_ p b)=false):Kp n c (kas_descPart b n p) (Cn n c):=by
 refine Kp.bind ((fH O (n-(b+1)) p (b+1) 0 h (by omega) (by omega) (fI O h hb b1 hd hc) ⟨by omega,fun i j h1 h2 h3 h4=>?_⟩).mono ?_)
 · have:i=j:=by omega
   subst this;exact Af O (h.lt (by omega))
 · rintro⟨p',b',q'⟩ ⟨h',c1,c2,hd',ha'⟩;show Kp n c (if q'>0 then kas_tail3 b' n (GZ p' (b'-(q'+1)) b')else kas_tail3 b' n p') (Cn n c);split
   · exact kC O (iU h' _ _) c1 c2 (o9 O h' c2 hd' ha')
   · exact kC O h' c1 c2 hd'
theorem oA(h:Ok n p)(h1:1<=n):Kp n c (kas_count n p) (Cn n c):=by
 have hs:=h.size;refine Kp.bind ((mG O h (n-1) 1 (By _) (by omega) (uH O h h1)).mono ?_);rintro m ⟨m1,mn,ha,hl⟩;by_cases e:m=n
 · subst e;rw[if_pos (by simp)];exact⟨h,m1,mn,ha⟩
 · rw[if_neg (by simpa using e)];have hl:=hl (by omega);by_cases g:m>1
   · rw[if_pos g];refine⟨h.lt (by omega),h.lt (by omega),?_⟩
     cases e2:c (at_ p 0) (at_ p (m-1))with
     | true=>dsimp only;rw[if_pos rfl];exact⟨h,m1,mn,ha⟩
     | false =>
       dsimp only;rw[if_neg (by decide)]
       have al:∀i j,i<m->j<m->c (at_ p i) (at_ p j)=false:=fun i j hi hj=>by
        have a1:=ha 0 j (by omega) hj;have a2:=ha i (m-1) (by omega) (by omega);have a3:=O.trans _ _ _ (h.lt (by omega)) (h.lt (by omega)) (h.lt (by omega)) a2 e2;have a4:=ha 0 i (by omega) hi;have a5:=O.trans (at_ p j) (at_ p (m-1)) (at_ p 0) (h.lt (by omega)) (h.lt (by omega)) (h.lt (by omega)) (ha j (m-1) (by omega) (by omega)) e2;exact O.trans (at_ p j) (at_ p 0) (at_ p i) (h.lt (by omega)) (h.lt (by omega)) (h.lt (by omega)) a5 a4
       have h':=iU h 0 m;refine dH O h' m1 (by omega) (fun i j hij hj=>?_) ?_
       · rw[ce (by omega),ce (by omega),if_pos ⟨by omega,by omega⟩,if_pos ⟨by omega,by omega⟩];exact al _ _ (by omega) (by omega)
       · rw[ce (by omega),ce (by omega),if_neg (show ¬(0<=m/\m<m) by omega),if_pos ⟨by omega,by omega⟩];have b1:=O.asym _ _ (h.lt (by omega)) (h.lt (by omega)) hl;exact O.trans _ _ _ (h.lt (by omega)) (h.lt (by omega)) (h.lt (by omega)) b1 (al _ _ (by omega) (by omega))
   · rw[if_neg g];have m1':m=1:=by omega
     subst m1'
     exact dH O h (By _) (by omega) (fun i j hij hj=>by
      have:i=j:=by omega
      subst this
      exact Af O (h.lt (by omega))) (O.asym _ _ (h.lt (by omega)) (h.lt (by omega)) hl)
theorem e8{p:Array Nat}{k:Nat}(h:Ok n p)(hk:k<n)(ha:As c p k):∀(f l r:Nat),l<=r->r<=k->r-l<=f->(∀i,i<l->c (at_ p k) (at_ p i)=false)->(∀i,r<=i->i<k->c (at_ p i) (at_ p k)=false) ->
 Kp n c (kas_place p k f l r) fun m=>m<=k/\(∀i,i<m->c (at_ p k) (at_ p i)=false)/\∀i,m<=i->i<k->c (at_ p i) (at_ p k)=false
 | 0,l,r,lr,rk,hf,hl,hr=>⟨by omega,hl,fun i h1 h2=>hr i (by omega) h2⟩
 | f+1,l,r,lr,rk,hf,hl,hr=>by
   unfold kas_place;by_cases g:l ≥ r
   · rw[if_pos g];exact⟨by omega,hl,fun i h1 h2=>hr i (by omega) h2⟩
   · rw[if_neg g];refine⟨h.lt (by omega),h.lt (by omega),?_⟩
     cases e:c (at_ p k) (at_ p ((l+r) / 2))with
     | true =>
       dsimp only;rw[if_pos rfl];refine e8 h hk ha f l ((l+r) / 2) (by omega) (by omega) (by omega) hl fun i h1 h2=>?_
       exact O.trans _ _ _ (h.lt (by omega)) (h.lt (by omega)) (h.lt (by omega)) (O.asym _ _ (h.lt (by omega)) (h.lt (by omega)) e) (ha _ i h1 h2)
     | false =>
       dsimp only;rw[if_neg (by decide)];refine e8 h hk ha f ((l+r) / 2+1) r (by omega) rk (by omega) (fun i h1=>?_) hr;exact O.trans _ _ _ (h.lt (by omega)) (h.lt (by omega)) (h.lt (by omega)) (ha i ((l+r) / 2) (by omega) (by omega)) e
theorem pg:∀(f:Nat)(p:Array Nat)(k:Nat),Ok n p->k+f=n->As c p k->Kp n c (kas_bin f p k) fun q=>Ok n q/\As c q n
 | 0,p,k,h,hf,ha=>⟨h,by rw[show n=k by omega];exact ha⟩
 | f+1,p,k,h,hf,ha=>by
   have hs:=h.size;refine Kp.bind ((e8 O h (by omega) ha k 0 k (by omega) (By _) (by omega) (fun i h1=>by omega) (fun i h1 h2=>by omega)).mono ?_);rintro l ⟨lk,hl,hr⟩;refine pg f _ (k+1) (h.perm (bubble_perm ..)) (by omega) fun i j hij hj=>?_;rw[pd (by omega) (by omega),pd (by omega) (by omega)];rw[show k-(k-l)=l by omega];by_cases j1:j=l
   · rw[if_pos j1];by_cases i1:i=l
     · rw[if_pos i1];exact Af O (h.lt (by omega))
     · rw[if_neg i1,if_neg (by omega)];exact hl i (by omega)
   · rw[if_neg j1];by_cases i1:i=l
     · rw[if_pos i1,if_pos ⟨by omega,by omega⟩];exact hr _ (by omega) (by omega)
     · rw[if_neg i1];by_cases j2:l<j/\j<=k
       · rw[if_pos j2];by_cases i2:l<i/\i<=k
         · rw[if_pos i2];exact ha _ _ (by omega) (by omega)
         · rw[if_neg i2];exact ha _ _ (by omega) (by omega)
       · rw[if_neg j2,if_neg (by omega)];exact ha _ _ hij (by omega)
theorem pZ(h2:2<=n):Kp n c (kas_sort n) fun p=>Ok n p/\As c p n:=by
 refine Kp.bind ((oA O (p:=Eh (BZ n)) (by unfold Ok;simp) (by omega)).mono ?_);rintro⟨m,p⟩ ⟨h,m1,mn,ha⟩;have h:Ok n p:=h;have m1:1<=m:=m1;have mn:m<=n:=mn;have ha:As c p m:=ha;show Kp n c (if m<n then kas_bin (n-max m 1) p (max m 1)else .ret p) _;by_cases g:m<n
 · rw[if_pos g];rw[show max m 1=m by omega];exact pg O (n-m) p m h (by omega) ha
 · rw[if_neg g];exact⟨h,by rw[show n=m by omega];exact ha⟩
end
open PySem PySem.W PyProof.Rows
theorem Kp.wp{α:Type}{n:Nat}{c:Nat->Nat->Bool}{R:α->Prop}{cmp:Nat->Nat->(Bool->Bp->Prop)->Bp->Prop}{s:Bp}(hc:∀i j,i<n->j<n->∀C:Bool->Bp->Prop,C (c i j) s->cmp i j C s):∀{t:KasT α},Kp n c t R->t.kasWp cmp (fun a s'=>s'=s/\R a) s
 | .ret _,h=>⟨rfl,h⟩
 | .ask i j k,⟨h1,h2,h⟩=>hc i j h1 h2 _ (Kp.wp hc (t:=k _) h)
section
variable{prog:BE}{w:B2}{A:BX}{E:Bo->Bp->Prop}{s:Bp}{κ:SortKind}
noncomputable def u9(h:Heap)(a:Addr)(h':Heap):Prop:=∀b o,b≠a->h.get? b=some o->h'.get? b=some o
theorem p4{c:Nat->Nat->Bool}{P:PySem.Fin->Bp->Prop}(ho:s.heap.get? a=some (CG "list" vs.toArray n))(two:2<=vs.length)(most:vs.length<64)(O:Ord vs.length c)
 (kind:∀h',u9 s.heap a h'->BS (BY prog w) A (keyKind' vs.toArray) (fun k s'=>k=κ/\s'={s with heap:=h' }) (fun _ _=>False) {s with heap:=h' })
 (ask:∀h',u9 s.heap a h'->∀i j,i<vs.length->j<vs.length->∀C:Bool->Bp->Prop,C (c i j) {s with heap:=h' }->BS (BY prog w) A (keyLt' κ (vs.getD i Ci) (vs.getD j Ci)) C (fun _ _=>False) {s with heap:=h' })
 (fin:∀p:Array Nat,Ok vs.length p->As c p vs.length->P (.done (.ret .none)) {s with heap:=sortedHeap s.heap a vs (Eh (p.toList.map fun i=>vs.getD i Ci))}) :
 BS (BY prog w) A (Builtin.«list.sort» ⟨[.ref a],[]⟩) P E s:=by
 have la:=Bx ho;have sz:=B3;have le:vs.toArray.size<=sizeLine:=by rw[BB];omega
 obtain⟨k1,o1⟩:∃k1,(s.heap.update a (C9 fun _=>(#[]:Array Bo))).get? a=some (CG "list" #[] k1):=⟨_,C1 ho fun _=>#[]⟩;generalize hH:((s.heap.update a (C9 fun _=>(#[]:Array Bo))).push (CG "tuple" vs.toArray 0)).push (CG "list" #[] 0)=H;have o2:H.get? a=some (CG "list" #[] k1):=by rw[<- hH];exact Bn _ (Bn _ o1)
 have rest:u9 s.heap a H:=fun b o nb e=>by
  rw[<- hH];exact Bn _ (Bn _ ((BR _ _ (Ek nb)).trans e))
 rw[list_sort_plain];refine Bm (listItems_at ho rfl ?_);refine Bm (E8 ho rfl ?_ le (B7 _));refine Bm (Gm o1 rfl ?_);refine Bm (wpAny_newTuple ?_ le);refine Bm (D3 ?_ (B7 _));refine Cr ?_;have gone:¬vs.toArray.size<2:=by rw[BB];omega
 rw[if_neg gone,if_neg gone];dsimp only;rw[hH];refine Bm (Cc (kind H rest) ?_ fun _ _ x=>x.elim);rintro k s' ⟨rfl,rfl⟩
 have run:=kat_run (prog:=prog) (w:=w) (A:=A) (E:=E) (κ:=k) (ks:=vs) (vs:=vs) (s:={s with heap:=H})
  (Q:=fun st' s'=>s'={s with heap:=H}/\∃p:Array Nat,Ok vs.length p/\As c p vs.length/\arrOf st'=p.map (kas_item (vs.toArray.zip vs.toArray))/\failedOf st'=none)
  (G:=fun p s'=>s'={s with heap:=H}/\Ok vs.length p/\As c p vs.length) rfl two most
  (fun p st' s' _ e1 e2 ⟨e3,e4,e5⟩=>⟨e3,p,e4,e5,e1,e2⟩) (Kp.wp (fun i j hi hj C hC=>ask H rest i j hi hj C hC) (pZ O two))
 refine Bm (Cc run ?_ fun _ _ e=>e);rintro⟨⟨⟩,st⟩ s' ⟨rfl,p,hp,hs,har,hf⟩;have out:=kat_snds rfl har;have ln:(Eh (p.toList.map fun i=>vs.getD i Ci)).size=vs.length:=by rw[BB,Bu,Cg];exact hp.size
 dsimp only;rw[out];refine Bm (Gm o2 rfl ?_);refine Bm (E8 o2 rfl ?_ (B7 _) (by rw[ln];omega));rw[hf];simp only[bne_self_eq_false,CK,if_false];rw[<- hH];exact Bs (fin p hp hs)
end
open PySem PySem.W PyProof.Rows
section
variable{prog:BE}{w:B2}{A:BX}{E:Bo->Bp->Prop}{s:Bp}
theorem jw{P:PySem.Fin->Bp->Prop}(ho:s.heap.get? a=some (CG "list" vs.toArray n))(short:vs.length<2)
 (fin:P (.done (.ret .none)) {s with heap:=sortedHeap s.heap a vs vs.toArray}) :
 BS (BY prog w) A (Builtin.«list.sort» ⟨[.ref a],[]⟩) P E s:=by
 have la:=Bx ho;have sz:=B3;have le:vs.toArray.size<=sizeLine:=by rw[BB];omega
 obtain⟨k1,o1⟩:∃k1,(s.heap.update a (C9 fun _=>(#[]:Array Bo))).get? a=some (CG "list" #[] k1):=⟨_,C1 ho fun _=>#[]⟩;generalize hH:((s.heap.update a (C9 fun _=>(#[]:Array Bo))).push (CG "tuple" vs.toArray 0)).push (CG "list" #[] 0)=H;have o2:H.get? a=some (CG "list" #[] k1):=by rw[<- hH];exact Bn _ (Bn _ o1)
 rw[list_sort_plain];refine Bm (listItems_at ho rfl ?_);refine Bm (E8 ho rfl ?_ le (B7 _));refine Bm (Gm o1 rfl ?_);refine Bm (wpAny_newTuple ?_ le);refine Bm (D3 ?_ (B7 _));refine Cr ?_;have gone:vs.toArray.size<2:=by rw[BB];omega
 rw[if_pos gone,if_pos gone];dsimp only;rw[hH];refine Bm (Bs ?_);refine Bm (m:=pure ((),SortSt.mk' general' (vs.toArray.zip vs.toArray) #[] 7 none)) (Bs ?_)
 have out:Array.map (fun x:Bo×Bo=>x.2) (vs.toArray.zip vs.toArray)=vs.toArray:=by
  apply Array.ext
  · simp
  · intro i h1 h2;simp
 refine Bm (Gm o2 rfl ?_);show BS _ _ ((Builtin.List.listUpdate (Ce a) fun _=>Array.map (fun x:Bo×Bo=>x.2) (vs.toArray.zip vs.toArray)) >>= _) _ _ _;rw[out];refine Bm (E8 o2 rfl ?_ (B7 _) (by rw[BB];omega));show BS _ _ (if(k1 != k1)=true then _ else _) _ _ _;simp only[bne_self_eq_false,CK,if_false];rw[<- hH];exact Bs fin
end
open PySem PySem.W PyProof.Rows
noncomputable def lexB(x y:Int×Int):Bool:=decide (x.1<y.1\/(x.1=y.1/\x.2<y.2))
section
variable{prog:BE}{w:B2}{A:BX}{E:Bo->Bp->Prop}{s:Bp}
noncomputable def bR(h:Heap)(v:Bo)(z:Int×Int):Prop:=∃a o t u n,v = .ref a/\h.get? a=some o/\o.cls = .type "tuple" /\ o.data = .seq #[.int z.1 t,.int z.2 u] n
theorem qQ{v u:Bo}{x y:Int×Int}{C:Bool->Bp->Prop}(hv:bR s.heap v x)(hu:bR s.heap u y)(h:C (lexB x y) s):BS (BY prog w) A (keyLt' (tuples' true) v u) C E s:=by
 obtain⟨a,o,t1,t2,n,rfl,ho,_,hd⟩:=hv;obtain⟨b,o',u1,u2,m,rfl,ho',_,hd'⟩:=hu;refine kat_lt ho hd ho' hd' ?_;show KatLex prog w A true _ C [(Dr x.1 t1,Dr y.1 u1),(Dr x.2 t2,Dr y.2 u2)] 0 s;refine kat_cons (Ej (kat_go (fun e=>?_) fun e=>?_))
 · have e:=of_decide_eq_true (p:=x.1=y.1) (by simpa using e);refine kat_yes (kat_cons (Ej (kat_go (fun e2=>?_) fun e2=>?_)))
   · have e2:x.2=y.2:=by simpa using e2
     refine kat_yes (kat_nil ?_);have z:lexB x y=false:=decide_eq_false (by omega);rw[z]at h;exact h
   · have e2:¬x.2=y.2:=by simpa using e2
     refine kat_no (kat_one _ _ (lt_int ?_));show C (decide (x.2<y.2)) s;have z:lexB x y=decide (x.2<y.2):=decide_eq_decide.mpr ⟨fun g=>by omega,fun g=>.inr ⟨e,g⟩⟩;rw[z]at h;exact h
 · have e:¬x.1=y.1:=by simpa using e
   refine kat_no ?_;show BS (BY prog w) A (oneLt' true _ _) C _ s;refine oneLt_int ?_;have z:lexB x y=decide (x.1<y.1):=decide_eq_decide.mpr ⟨fun g=>by omega,fun g=>.inl g⟩;rw[z]at h;exact h
theorem jD{Q:SortKind->Bp->Prop}(hp:Cf (bR s.heap) vs zs)(h1:0<zs.length)(h:Q (tuples' true) s):BS (BY prog w) A (keyKind' vs.toArray) Q E s:=by
 obtain⟨fs,tp,ln,ti⟩:∃fs:List Bo,KatTups s.heap vs fs/\fs.length=zs.length/\∀v∈fs,∃i t,v=Dr i t:=by
  clear h1
  induction hp with
  | nil=>exact⟨[],KatTups.nil,rfl,fun v mv=>nomatch mv⟩
  | @cons v z vs zs r _ ih =>
    obtain⟨fs,tp,ln,ti⟩:=ih;obtain⟨a,o,t,u,n,rfl,ho,hc,hd⟩:=r;refine⟨.int z.1 t::fs,KatTups.cons ho hc hd rfl tp,congrArg (· + 1) ln,fun v mv=>?_⟩;rcases BL.mp mv with rfl|mv
    · exact⟨_,_,rfl⟩
    · exact ti v mv
 exact kat_kind (T:=.type "int") tp (by omega) (fun v mv=>by
  obtain⟨i,t,rfl⟩:=ti v mv
  exact .now) (by decide +kernel) (by
  have:(Gz "int" != Gz "tuple")=true:=by decide +kernel
  rw[this];exact h)
theorem qU(zs:List (Int×Int)):Ord zs.length fun i j=>lexB (zs.getD i (0,0)) (zs.getD j (0,0)) where
 asym i j _ _ h:=by
  have h:=of_decide_eq_true h;exact decide_eq_false (by omega)
 trans i j k _ _ _ h1 h2:=by
  have h1:=of_decide_eq_false h1;have h2:=of_decide_eq_false h2;exact decide_eq_false (by omega)
end
open PySem PySem.W PyProof.Rows
section
variable{prog:BE}{w:B2}{A:BX}{E:Bo->Bp->Prop}{s:Bp}
theorem bR.keep{h':Heap}{v:Bo}{z:Int×Int}(k:∀b o,h.get? b=some o->h'.get? b=some o)(x:bR h v z):bR h' v z:=by
 obtain⟨a,o,t,u,n,e,ho,r⟩:=x;exact⟨a,o,t,u,n,e,k _ _ ho,r⟩
theorem jE{h':Heap}(k:∀b o,h.get? b=some o->h'.get? b=some o)(hp:Cf (bR h) vs zs):Cf (bR h') vs zs:=by
 induction hp with
 | nil=>exact .nil
 | cons r _ ih=>exact .cons (r.keep k) ih
theorem pairs_at(hp:Cf (bR h) vs zs):∀i,i<vs.length->bR h (vs.getD i Ci) (zs.getD i (0,0)):=by
 induction hp with
 | nil=>intro i hi;exact absurd hi (Nat.not_lt_zero _)
 | @cons v z vs zs r _ ih =>
   intro i hi
   cases i with
   | zero=>exact r
   | succ i=>exact ih i (by simpa using hi)
theorem gg{l:Addr}(hT:T = "list" \/ T = "tuple")(ho:s.heap.get? l=some o)(hc:o.cls = .type T)(hd:o.data = .seq vs.toArray n)
 (hp:Cf (bR s.heap) vs zs)(two:2<=vs.length)(most:vs.length<64)
 (h:∀(h0 h':Heap)(p:Array Nat)(c:Nat),(∀b o,s.heap.get? b=some o->h0.get? b=some o)->(∀b o,h0.get? b=some o->h'.get? b=some o)->h'.get? h0.objs.size=some (CG "list" (Eh (p.toList.map fun i=>vs.getD i Ci)) c) ->
  Ok vs.length p->As (fun i j=>lexB (zs.getD i (0,0)) (zs.getD j (0,0))) p vs.length->Q (.ref h0.objs.size) {s with heap:=h' }) :
 BS (BY prog w) A (call (.builtin "sorted") [.ref l]) Q E s:=by
 have sz:=B3;have ln:vs.length=zs.length:=hp.length;have O:Ord vs.length fun i j=>lexB (zs.getD i (0,0)) (zs.getD j (0,0)):=by rw[ln];exact qU zs
 refine DO GY GG GH (GI (.ref l)) ?_;unfold Builtin.«sorted»;refine Bm (m:=checkCount "sorted" 1 1 _) (Bs (Bm (wpAny_collect_seq l hT ho hc hd (fun h0 k0=>Bm (D3 ?_)) (by rw[BB];omega))));rw[show vs.toArray.toList=vs by simp];have oL:(h0.push (CG "list" vs.toArray 0)).get? h0.objs.size=some (CG "list" vs.toArray 0):=BJ _ rfl;show BS _ _ _ _ _ {s with heap:=h0.push (CG "list" vs.toArray 0)}
 have there:∀h',u9 (h0.push (CG "list" vs.toArray 0)) h0.objs.size h'->Cf (bR h') vs zs:=fun h' r=>jE (fun b ob e=>by
  have e0:=k0 _ _ e
  exact r b ob (BV (Bx e0)) (Bn _ e0)) hp
 refine Bm (Cr (Dt slot_list_sort ⟨_,oL,rfl⟩ entry_list_sort (p4 (κ:=tuples' true) (s:={s with heap:=h0.push (CG "list" vs.toArray 0)}) oL two most O
  (fun h' r=>jD (s:={s with heap:=h' }) (there h' r) (by omega) ⟨rfl,rfl⟩)
  (fun h' r i j hi hj C hC=>qQ (s:={s with heap:=h' }) (pairs_at (there h' r) i hi) (pairs_at (there h' r) j hj) hC)
  fun p h1 h2=>⟨_,rfl,?_⟩) (Gb _)))
 have e1:=C1 oL (fun _=>#[])
 have e2:((((h0.push (CG "list" vs.toArray 0)).update h0.objs.size (C9 fun _=>#[])).push (CG "tuple" vs.toArray 0)).push (CG "list" #[] 0)).get? h0.objs.size=_ :=
  Bn _ (Bn _ e1)
 have e3:=C1 e2 (fun _=>Eh (p.toList.map fun i=>vs.getD i Ci));refine Bs ⟨_,rfl,h h0 _ p _ k0 (fun b ob eb=>?_) e3 h1 h2⟩;have ne:h0.objs.size≠b:=Ee (Bx eb);exact(BR _ _ ne).trans (Bn _ (Bn _ ((BR _ _ ne).trans (Bn _ eb))))
end
open PySem PySem.W PyProof.Rows
section
variable{prog:BE}{w:B2}{A:BX}{E:Bo->Bp->Prop}{s:Bp}
theorem gf{l:Addr}(hT:T = "list" \/ T = "tuple")(ho:s.heap.get? l=some o)(hc:o.cls = .type T)(hd:o.data = .seq vs.toArray n)(short:vs.length<2)
 (h:∀(h0 h':Heap)(c:Nat),(∀b o,s.heap.get? b=some o->h0.get? b=some o)->(∀b o,h0.get? b=some o->h'.get? b=some o)->h'.get? h0.objs.size=some (CG "list" vs.toArray c)->Q (.ref h0.objs.size) {s with heap:=h' }) :
 BS (BY prog w) A (call (.builtin "sorted") [.ref l]) Q E s:=by
 have sz:=B3;refine DO GY GG GH (GI (.ref l)) ?_;unfold Builtin.«sorted»;refine Bm (m:=checkCount "sorted" 1 1 _) (Bs (Bm (wpAny_collect_seq l hT ho hc hd (fun h0 k0=>Bm (D3 ?_)) (by rw[BB];omega))));rw[show vs.toArray.toList=vs by simp];have oL:(h0.push (CG "list" vs.toArray 0)).get? h0.objs.size=some (CG "list" vs.toArray 0):=BJ _ rfl;show BS _ _ _ _ _ {s with heap:=h0.push (CG "list" vs.toArray 0)};refine Bm (Cr (Dt slot_list_sort ⟨_,oL,rfl⟩ entry_list_sort (jw (s:={s with heap:=h0.push (CG "list" vs.toArray 0)}) oL short ⟨_,rfl,?_⟩) (Gb _)));have e1:=C1 oL (fun _=>#[])
 have e2:((((h0.push (CG "list" vs.toArray 0)).update h0.objs.size (C9 fun _=>#[])).push (CG "tuple" vs.toArray 0)).push (CG "list" #[] 0)).get? h0.objs.size=_ :=
  Bn _ (Bn _ e1)
 have e3:=C1 e2 (fun _=>vs.toArray);refine Bs ⟨_,rfl,h h0 _ _ k0 (fun b ob eb=>?_) e3⟩;have ne:h0.objs.size≠b:=Ee (Bx eb);exact(BR _ _ ne).trans (Bn _ (Bn _ ((BR _ _ ne).trans (Bn _ eb))))
theorem eR{l:Addr}(hT:T = "list" \/ T = "tuple")(ho:s.heap.get? l=some o)(hc:o.cls = .type T)(hd:o.data = .seq vs.toArray n)
 (hp:Cf (bR s.heap) vs zs)(most:vs.length<64)
 (h:∀(h0 h':Heap)(p:Array Nat)(c:Nat),(∀b o,s.heap.get? b=some o->h0.get? b=some o)->(∀b o,h0.get? b=some o->h'.get? b=some o)->h'.get? h0.objs.size=some (CG "list" (Eh (p.toList.map fun i=>vs.getD i Ci)) c) ->
  Ok vs.length p->As (fun i j=>lexB (zs.getD i (0,0)) (zs.getD j (0,0))) p vs.length->Q (.ref h0.objs.size) {s with heap:=h' }) :
 BS (BY prog w) A (call (.builtin "sorted") [.ref l]) Q E s:=by
 by_cases two:2<=vs.length
 · exact gg hT ho hc hd hp two most h
 · refine gf hT ho hc hd (by omega) fun h0 h' c k0 k1 e=>h h0 h' (BZ vs.length).toArray c k0 k1 ?_ ?_ ?_
   · have e2:((BZ vs.length).map fun i=>vs.getD i Ci)=vs:=by
       refine El (by simp) fun i h1 h2=>?_;simp[C6,h2]
     rw[show(BZ vs.length).toArray.toList=BZ vs.length from rfl,e2];exact e
   · exact List.Perm.refl _
   · intro i j hij hj;have:i=j:=by omega
     subst this;simp[lexB]
end
end L2.KS
namespace L2
open PySem PySem.Spec PyProof.Rows KS
section
variable{X:Cx}
noncomputable def AR(K:W.Frag)(H:Hp):List V->List (Int×Int)->Prop:=Cf fun v z=>∃a,v = .ref a/\AL K H a [.int z.1,.int z.2]
theorem j_{vs:List V}(r:bp vs us):∀i,RelV (vs.getD i .non) (us.getD i Ci):=by
 induction r with
 | nil=>intro i;exact rfl
 | cons h _ ih =>
   intro i
   cases i with
   | zero=>exact h
   | succ i=>exact ih i
theorem fV{vs:List V}{us:List Bo}(r:bp vs us):∀q:List Nat,bp (q.map fun i=>vs.getD i .non) (q.map fun i=>us.getD i Ci)
 | []=>.nil
 | i::q=>.cons (j_ r i) (fV r q)
theorem iZ{pins:List (Addr×Obj)}{σ:List (Option V)}{H:Hp}{s:Bp}(I:Inv X pins σ H s):∀{vs:List V}{us:List Bo}{ps:List (Int×Int)},bp vs us->AR X.K H vs ps->Cf (bR s.heap) us ps
 | _,_,_,.nil,.nil=>.nil
 | _,_,_,.cons r rs,.cons h hs=>.cons (by
     obtain⟨a,rfl,sq⟩:=h;cases r;obtain⟨its,rv,⟨o,h1,h2,n,h3⟩,_⟩:=I.tuple sq
     cases rv with
     | cons r1 rv=>cases rv with
       | cons r2 rv =>
         cases rv;obtain⟨t,rfl⟩:=r1;obtain⟨u,rfl⟩:=r2
         exact⟨a,o,t,u,n,rfl,h1,h2,h3⟩) (iZ I rs hs)
noncomputable def qi(K:W.Frag):List V->Hp->(V->Hp->Prop)->Prop:=fun xs H Q=>∃(p:Addr)(vs:List V)(ps:List (Int×Int)),xs=[.ref p]/\(AL K H p vs\/AM K H p vs)/\AR K H vs ps/\vs.length<64 /\
 ∀q:Array Nat,Ok vs.length q->As (fun i j=>lexB (ps.getD i (0,0)) (ps.getD j (0,0))) q vs.length->∀l,H l=none->Q (.ref l) (upd H l (.lst (q.toList.map fun i=>vs.getD i .non)))
theorem mB:ca X (.builtin "sorted") (qi X.K):=by
 intro pins s σ H xs us Q I r ⟨p,vs,ps,ex,hq,hp,most,q⟩;subst ex;obtain⟨u,rfl,ru⟩:=vals1 r;cases ru
 have h:∃(its:List Bo)(o:Obj)(T:String)(n:Nat),bp vs its/\(T = "list" \/ T = "tuple")/\s.heap.get? p=some o/\o.cls = .type T/\o.data = .seq its.toArray n:=by
  rcases hq with hq|hq
  · obtain⟨its,rv,⟨o,h1,h2,n,h3⟩,_⟩:=I.tuple hq;exact⟨its,o,_,n,rv,.inr rfl,h1,h2,h3⟩
  · obtain⟨its,rv,pl,_⟩:=I.list hq;obtain⟨o,h1,h2,n,h3⟩:=pl.isList;exact⟨its,o,_,n,rv,.inl rfl,h1,h2,h3⟩
 obtain⟨its,o,T,n,rv,hT,h1,h2,h3⟩:=h;have hl:=rv.length;have sz:=B3;refine eR hT h1 h2 h3 (iZ I rv hp) (by omega) fun h0 h' p c k0 k1 e a1 a2=>?_;have I1:Inv X pins σ H {s with heap:=h0}:=I.kept (t':=s.toks) k0;rw[<- hl]at a1 a2;refine⟨.ref h0.objs.size,_,I1.laid (t':=s.toks) (o:=.lst (p.toList.map fun i=>vs.getD i .non)) k1 (By _) ⟨?_,_,c,fV rv _,e⟩,rfl,q p a1 a2 _ (I1.hok.fresh (By _))⟩;rw[Bu,Cg,a1.size];omega
end
end L2
namespace L2.VL
open PySem PySem.Spec PyProof.Rows KS
section
variable{X:Cx}{rl:Option Addr}{a:Expr}{fs:AF}{pos p:Pos}
abbrev Ah(z:Int×Int):Bl:=.tuple [.int z.1,.int z.2]
theorem gu{K:W.Frag}{F:Hp}:∀{vs:List V}{ps:List (Int×Int)},Reps K F vs (ps.map Ah)->AR K F vs ps
 | _,[],h=>by cases h;exact .nil
 | _,z::ps,.cons h r=>.cons (by
     cases h with
     | @tup a us _ sq rs =>
       have e:us=[z.1,z.2].map V.int:=cH (ns:=[z.1,z.2]) rs;subst e
       exact⟨a,rfl,sq⟩) (gu r)
theorem iX{K:W.Frag}{F H:Hp}(s:a_ F H):∀{vs:List V}{ps:List (Int×Int)},AR K F vs ps->AR K H vs ps
 | _,_,.nil=>.nil
 | _,_,.cons ⟨a,e,q⟩ r=>.cons ⟨a,e,cr s q⟩ (iX s r)
theorem gt{K:W.Frag}{F:Hp}{vs:List V}{ps:List (Int×Int)}(h:Reps K F vs (ps.map Ah)):∀q:List Nat,(∀i∈q,i<ps.length)->Reps K F (q.map fun i=>vs.getD i .non) ((q.map fun i=>ps.getD i (0,0)).map Ah)
 | [],_=>.nil
 | i :: q,hi=>.cons (by
     have hl:=hi i (Bw ..);obtain⟨v,e,r⟩:=h.get (i:=i) (d:=Ah (ps.getD i (0,0))) (by simp[C6,hl]);have e2:vs.getD i .non=v:=by rw[C6,e];rfl
     show Rep K F (vs.getD i .non) _;rw[e2]
     exact r) (gt h q fun j m=>hi j (Br _ m))
theorem lh{ps:List (Int×Int)}{q:List Nat}(h:q.Perm (BZ ps.length)):(q.map fun i=>ps.getD i (0,0)).Perm ps:=by
 have e:(BZ ps.length).map (fun i=>ps.getD i (0,0))=ps:=by
  refine El (by simp) fun i h1 h2=>?_;simp[C6,h2]
 have:=h.map fun i=>ps.getD i (0,0)
 rwa [e]at this
theorem qo{ps:List (Int×Int)}{q:Array Nat}(ho:Ok n q)(h:As (fun i j=>lexB (ps.getD i (0,0)) (ps.getD j (0,0))) q n):(q.toList.map fun i=>ps.getD i (0,0)).Pairwise fun x y=>lexB y x=false:=by
 rw[DP];intro i j h1 h2 hij;have hs:=ho.size;simp only[Bu,Cg]at h1 h2;have:=h i j (Fu hij) (by omega);simp only[at_,C2,Cq h1,Cq h2,Option.getD_some]at this;simpa using this
noncomputable def oo:List W->(W->Prop)->Prop:=fun ws Q=>∃ps:List (Int×Int),(ws=[.d (.list (ps.map Ah))]\/ws=[.d (.tuple (ps.map Ah))])/\ps.length<64/\∀qs:List (Int×Int),qs.Perm ps->qs.Pairwise (fun x y=>lexB y x=false)->Q (.ml (qs.map Ah))
theorem pE:dS X rl (qi X.K) oo:=fun{F H vs ws} Qd Q s ra r ⟨ps,ew,most,q⟩ k=>by
 have go:∀{p:Addr}{us:List V},(AL X.K H p us\/AM X.K H p us)->Reps X.K F us (ps.map Ah)->qi X.K [.ref p] H Q:=fun{p us} sq rs=>by
  have hl:us.length=ps.length:=by rw[rs.length,Bu]
  refine⟨p,us,ps,rfl,sq,iX s (gu rs),by omega,fun qa h1 h2 l hl2=>?_⟩;rw[hl]at h1 h2;refine k _ (.ml _) _ _ (Grow.laid s ra hl2) (fj s ra hl2 (gt rs qa.toList fun i m=>?_)) (fun a ea=>by cases ea;exact hl2) (q _ (lh h1) (qo h1 h2));have:=h1.mem_iff.1 m;simpa using this
 rcases ew with rfl|rfl
 · obtain⟨v,rfl,r1⟩:=jS r
   cases(show Rep X.K F v (.list (ps.map Ah))from r1)with
   | @lst a us _ sq rs=>exact go (.inr (kP s (.inl (.inl sq)))) rs
 · obtain⟨v,rfl,r1⟩:=jS r
   cases(show Rep X.K F v (.tuple (ps.map Ah))from r1)with
   | @tup a us _ sq rs=>exact go (.inl (cr s sq)) rs
theorem ka(hm:X.mg "sorted" = none)(ha:AS X rl [a] fs)(hg:autoParam (Gl X "sorted") æa._auto_1)(he:autoParam (BF [a] X.env=(false,eval a X.env)::BF [] X.env) æa._auto_1)(hpl:autoParam ((Dj pos (BF [] X.env)).any (·.1)=false) æa._auto_1) :
 PV X rl (.Call (.Name "sorted" p) [a] [] pos) (cp oo fs):=bT mB pE hm (by rfl) ha hg (by decide) (by decide) he hpl
end
open PySem PySem.Spec PyProof.Rows KS
noncomputable def pairD:Bl->Option (Int×Int)
 | .tuple [.int a,.int b]=>some (a,b)
 | _=>none
theorem nQ{z:Int×Int}(h:pairD d=some z):d=Ah z:=by
 unfold pairD at h;split at h
 · cases h;rfl
 · cases h
noncomputable def et:List Bl->Option (List (Int×Int))
 | []=>some []
 | d::ds=>(pairD d).bind fun z=>(et ds).map (z :: ·)
theorem cT:∀ps:List (Int×Int),et (ps.map Ah)=some ps
 | []=>rfl
 | z::ps=>by
   show(pairD (Ah z)).bind _=_;rw[cT ps];rfl
theorem dA:∀{ds:List Bl}{ps:List (Int×Int)},et ds=some ps->ds=ps.map Ah
 | [],ps,h=>by cases h;rfl
 | d::ds,ps,h=>by
   simp only[et,Option.bind_eq_some_iff,C5]at h;obtain⟨z,h1,qs,h2,rfl⟩:=h;rw[nQ h1,dA h2];rfl
noncomputable def u8:W->Option (List (Int×Int))
 | .d (.list ds)=>et ds
 | .d (.tuple ds)=>et ds
 | _=>none
theorem rN{ps:List (Int×Int)}:u8 w=some ps↔w = .d (.list (ps.map Ah))\/w = .d (.tuple (ps.map Ah)):=by
 constructor
 · intro h;unfold u8 at h;split at h
   · exact .inl (by rw[dA h])
   · exact .inr (by rw[dA h])
   · cases h
 · rintro(rfl|rfl)<;>exact cT ps
theorem mI(ps:List (Int×Int)):u8 (.d (.list (ps.map Ah)))=some ps:=cT ps
theorem qP(w:W):oo [w]=am (u8 w) fun ps=>An (ps.length<64) (Ax (anyM fun qs:List (Int×Int)=>qs.Perm ps/\qs.Pairwise fun x y=>lexB y x=false) fun qs=>ret (.ml (qs.map Ah))):=by
 refine ae fun Q=>?_;simp only[oo,af,ret,An,Ax,anyM,BN,and_true,rN];constructor
 · rintro⟨ps,e,a,q⟩;exact⟨ps,e,a,fun n' ⟨h1,h2⟩=>q n' h1 h2⟩
 · rintro⟨ps,e,a,q⟩;exact⟨ps,e,a,fun n' h1 h2=>q n' ⟨h1,h2⟩⟩
end L2.VL
namespace L2
section
variable{M:G5}{A:BX}{E:Bo->Bp->Prop}{s:Bp}{base:Heap}{env:Env}{outer:List Env}{L a T:Addr}{C:Bo}{d:Option Addr}{Q:Unit->Bp->Prop}
end
section
variable{prog:BE}{w:B2}{A:BX}{E:Bo->Bp->Prop}{s:Bp}{K:W.Frag}{C f:Addr}{us:List Bo}
end
open Builtin Builtin.ObjectAttr
section
variable{prog:BE}{w:B2}{A:BX}{E:Bo->Bp->Prop}{s:Bp}{K:W.Frag}{C a t:Addr}{d:Option Addr}{name:Str}{v:Bo}{mA:Str->Option Bo}{ns:List Str}
end
open Builtin Builtin.ObjectAttr
section
variable{prog:BE}{w:B2}{A:BX}{E:Bo->Bp->Prop}{s:Bp}{K:W.Frag}{C a dx:Addr}{name:Str}{v:Bo}{mA:Str->Option Bo}{oe:Obj}{vs:Array Bo}
end
open Builtin Builtin.ObjectAttr
section
variable{prog:BE}{w:B2}{A:BX}{E:Bo->Bp->Prop}{s:Bp}{K:W.Frag}{C a dx:Addr}{ox od:Obj}
end
section
variable{X:Cx}{pins:List (Addr×Obj)}{σ:St}{H:Hp}{s:Bp}{a C dx:Addr}{f:Str}{v:V}{A:BX}{E:Bo->Bp->Prop}
end
section
variable{M:G5}{A:BX}{E:Bo->Bp->Prop}{s:Bp}{env:Env}{K:W.Frag}
end
section
variable{X:Cx}{o value:Expr}{n:Str}{pos pos':Pos}{ta tv:TE}
end
section
variable{X:Cx}{k:Nat}{f C:Addr}{fd:Db}{ps:List Str}{x n:Str}{p pos rpos:Pos}{e:Expr}{t:TA}
end
section
variable{P:BE}{w:B2}{K:W.Frag}{mg:Str->Option Bo}{base:Heap}{N:List Str}{qual:Str}{scope:Scope}{f:Addr}{cd:Bo}{A:BX}{outer:List Env}{s s1:Bp}{H H1:Hp}{E:XK}{pins:List (Addr×Obj)}{σ:St}{a C dx:Addr}
end
namespace VL
abbrev XQ:=Str->List (Str×Bl)->Prop
section
variable{X:Cx}{rl:Option Addr}{E:XK}{st:Stmt}{rest body:List Stmt}{t:AG}{u:VEnds->XQ->En->Prop}{c e:Expr}{f:TB}{fs:AF}{pos:Pos}
end
section
variable{P:BE}{w:B2}{K:W.Frag}{mg:Str->Option Bo}{base:Heap}{rl:Option Addr}{x:Str}{st:Stmt}{N ps:List Str}{k:Nat}{Pd:List W->(Bl->Prop)->XQ->Prop}{t:VEnds->XQ->En->Prop}
end
end VL
section
variable{X:Cx}{pins:List (Addr×Obj)}{σ:St}{H:Hp}{s:Bp}
end
section
variable{M:G5}{A:BX}{E:Bo->Bp->Prop}{s:Bp}{K:W.Frag}{C B a:Addr}{oe:Obj}
end
end L2
namespace L2.VL
section
variable{X:Cx}{rl:Option Addr}{E:XK}{e:Expr}{es:List Expr}{fs:AF}{pos p:Pos}
end
section
variable{X:Cx}{rl:Option Addr}{tb:VEnds->XQ->En->Prop}{ts:AG}{st b₀:Stmt}{suite:List Stmt}{cb n:Str}{cs:List Str}{B:Addr}{np hpos pos:Pos}
end
section
variable{X:Cx}{rl:Option Addr}{pos p p1:Pos}{c n x:Str}
end
section
variable{X:Cx}{rl:Option Addr}{E:XK}{rest body:List Stmt}{t u:VEnds->XQ->En->Prop}{pos:Pos}
end
section
variable{X:Cx}{rl:Option Addr}
end
end L2.VL
namespace L2
section
variable{M:G5}{A:BX}{env:Env}{outer:List Env}{base:Heap}{s:Bp}{L a T:Addr}{C:Bo}{d:Option Addr}{Q:Unit->Bp->Prop}{E:Bo->Bp->Prop}
end
section
variable{P:BE}{w:B2}{K:W.Frag}{mg:Str->Option Bo}{base:Heap}{N:List Str}{qual:Str}{scope:Scope}{f:Addr}{cd:Bo}{A:BX}{outer:List Env}{s:Bp}{H:Hp}{E:XK}
end
namespace VL
section
variable{X:Cx}{rl:Option Addr}{E:XK}{e a b c:Expr}{es:List Expr}{fs:AF}{fa:TV}{f:En->XQ->Prop}{fb:TB}{t u:VEnds->XQ->En->Prop}{pos p:Pos}{rest A B body:List Stmt}
end
section
variable{t:AG}{u v:VEnds->XQ->En->Prop}{D:VEnds}{R:XQ}{ρ ρ':En}{fs:AF}{fa:TV}{fb:TB}{f:En->XQ->Prop}{ws:List W}
end
end VL
section
variable{X:Cx}{pins:List (Addr×Obj)}{σ:St}{H:Hp}{s:Bp}{a C dx:Addr}{f:Str}{v:V}{A:BX}{E:Bo->Bp->Prop}
end
section
variable{X:Cx}{o value:Expr}{n:Str}{pos pos':Pos}{ta tv:TE}
end
section
variable{X:Cx}{k:Nat}{f C:Addr}{fd:Db}{ps:List Str}{x n m:Str}{p pos rpos:Pos}{e e':Expr}{t:TA}
end
end L2
namespace L2.VL
section
variable{X:Cx}{rl:Option Addr}{E:XK}{c e e':Expr}{es:List Expr}{rest:List Stmt}{f:TB}{fs:AF}{u:VEnds->XQ->En->Prop}{pos p:Pos}
end
section
variable{X:Cx}{rl:Option Addr}{tb:VEnds->XQ->En->Prop}{ts:AG}{st b₀:Stmt}{suite:List Stmt}{cb:Str}{cs:List Str}{B:Addr}{np hpos pos:Pos}
end
section
variable{X:Cx}{rl:Option Addr}{E:XK}{e:Expr}{es:List Expr}{fs:AF}{pos p mpos:Pos}
end
section
variable{D:VEnds}{R:XQ}{ρ:En}{fs:AF}{ws:List W}
end
section
variable{X:Cx}{rl:Option Addr}{E:XK}{e:Expr}{es:List Expr}{fs:AF}{p pos mpos:Pos}
end
section
variable{D:VEnds}{R:XQ}{ρ:En}{fs:AF}{ws:List W}
end
noncomputable def zD(b:Bool)(qs:List Rat):Bl:=if b then .tuple (qs.map fr)else .list (qs.map fr)
theorem vX{b c:Bool}{qs rs:List Rat}:zD b qs=zD c rs↔b=c/\qs=rs:=by
 cases b<;>cases c<;>simp[zD,cy]
theorem bU(b:Bool)(qs:List Rat):seqW (.d (zD b qs))=some (qs.map fr):=by cases b<;>rfl
noncomputable def mT(kvs:List (A5×Bl))(k:A5):Bool:=kvs.any fun kv=>decide (kv.1=k)
theorem oh{kvs:List (A5×Bl)}{k:A5}:mT kvs k=true↔k∈kvs.map (·.1):=by
 unfold mT;simp only[List.any_eq_true,decide_eq_true_iff,Ch]
theorem gA(kvs:List (A5×Bl))(k:A5)(x:Bl):(putF kvs k x).map (·.1)=if mT kvs k=true then kvs.map (·.1)else kvs.map (·.1)++[k]:=by
 unfold putF;show List.map _ (if mT kvs k=true then _ else _)=_;split
 · rw[Cm];congr 1;funext kv;simp only[Function.comp];split<;>rfl
 · rw[C3];rfl
theorem nu(kvs:List (A5×Bl))(k j:A5)(x:Bl):c6 (putF kvs k x) j=if j=k then some x else c6 kvs j:=by
 have one:∀l:List (A5×Bl),c6 (l.map fun kv=>if kv.1=k then(kv.1,x)else kv) j=if j=k then(if mT l k=true then some x else none)else c6 l j:=by
  intro l
  induction l with
  | nil=>by_cases h:j=k<;>simp[c6,mT,h]
  | cons p r ih =>
    unfold c6 mT at *;rw[BM,B_,B_,DI];by_cases h1:p.1=k
    · by_cases h:j=k
      · subst h;simp[h1]
      · have h2:¬k=j:=fun z=>h z.symm;rw[if_pos h1,if_neg h];rw[if_neg h]at ih;simp only[h1,h2,decide_false];exact ih
    · rw[if_neg h1];by_cases h:j=k
      · subst h;rw[if_pos rfl];rw[if_pos rfl]at ih;simp only[h1,decide_false,Gw];exact ih
      · rw[if_neg h];rw[if_neg h]at ih
        cases decide (p.1=j)with
        | true=>rfl
        | false=>exact ih
 unfold putF;show c6 (if mT kvs k=true then _ else _) j=_;by_cases hm:mT kvs k=true
 · rw[if_pos hm,one];by_cases h:j=k<;>simp[h,hm]
 · rw[if_neg hm];unfold c6;rw[List.find?_append];by_cases h:j=k
   · subst h
     have:kvs.find? (fun kv=>decide (kv.1=j))=none:=by
      rw[EM];intro p hp z;exact hm (oh.mpr (Ch.mpr ⟨p,hp,by simpa using z⟩))
     simp[this]
   · have h2:¬k=j:=fun z=>h z.symm;simp[h,h2]
noncomputable def rA(f:Rat->Int)(qs:List Rat):List (A5×Bl):=(qs.map fun q=>((Cs (f q):A5),fr q)).foldl (fun a p=>putF a p.1 p.2) []
theorem fF(f:Rat->Int):∀(qs:List Rat)(acc:List (A5×Bl))(ns:List Int),acc.map (·.1)=ns.map Cs->ns.Nodup->(∀q r,q∈qs->r∈qs->f q=f r->q=r) ->
 ∃ ms:List Int,((qs.map fun q=>((Cs (f q):A5),fr q)).foldl (fun a p=>putF a p.1 p.2) acc).map (·.1)=ms.map Cs/\ms.Nodup/\(∀n,n∈ms↔n∈ns\/∃q∈qs,f q=n) /\
   ∀n,c6 ((qs.map fun q=>((Cs (f q):A5),fr q)).foldl (fun a p=>putF a p.1 p.2) acc) (.inl n)=(match qs.find? (fun q=>decide (f q=n))with|some q=>some (fr q)|none=>c6 acc (.inl n))/\ms.length<=ns.length+qs.length
 | [],acc,ns,h,nd,_=>⟨ns,h,nd,fun n=>by simp,fun n=>⟨rfl,by simp⟩⟩
 | q::qs,acc,ns,h,nd,inj=>by
   have hmem:mT acc (Cs (f q))=true↔f q∈ns:=by
    rw[oh,h,Ch];constructor
    · rintro⟨x,hx,e⟩;cases e;exact hx
    · intro hx;exact⟨_,hx,rfl⟩
   have inj':∀a b,a∈qs->b∈qs->f a=f b->a=b:=fun a b ha hb=>inj a b (Br _ ha) (Br _ hb)
   have val:∀n:Int,∀r,c6 (putF acc (.inl (f q)) (fr q)) (.inl n)=r->(match qs.find? (fun q=>decide (f q=n))with|some q=>some (fr q)|none=>c6 (putF acc (.inl (f q)) (fr q)) (.inl n))=(match(q::qs).find? (fun q=>decide (f q=n))with|some q=>some (fr q)|none=>c6 acc (.inl n)):=by
    intro n r _;rw[nu,B_];by_cases e:f q=n
    · subst e;simp only[decide_true]
      cases e2:qs.find? (fun q'=>decide (f q'=f q))with
      | none=>simp
      | some q' =>
        have m:=ES e2;have p:f q'=f q:=by simpa using EE e2
        have:=inj q' q (Br _ m) Bw p;rw[this]
    · have e':¬n=f q:=fun z=>e z.symm;simp only[e,decide_false,Cs.injEq,e',if_false]
   by_cases hq:f q∈ns
   · obtain⟨ms,a1,a2,a3,a4⟩:=fF f qs (putF acc (.inl (f q)) (fr q)) ns (by rw[gA,if_pos (hmem.mpr hq)];exact h) nd inj';refine⟨ms,a1,a2,fun n=>?_,fun n=>⟨?_,?_⟩⟩
     · rw[a3 n];simp only[BL];constructor
       · rintro(z|⟨r,hr,e⟩)
         · exact .inl z
         · exact .inr ⟨r,.inr hr,e⟩
       · rintro(z|⟨r,rfl|hr,e⟩)
         · exact .inl z
         · exact .inl (e▸hq)
         · exact .inr ⟨r,hr,e⟩
     · rw[<- val n _ rfl];exact(a4 n).1
     · have:=(a4 n).2;simp only[CL];omega
   · obtain⟨ms,a1,a2,a3,a4⟩:=fF f qs (putF acc (.inl (f q)) (fr q)) (ns++[f q]) (by rw[gA,if_neg (fun z=>hq (hmem.mp z)),h,C3];rfl)
       (List.nodup_append.mpr ⟨nd,by simp,fun a ha b hb=>by simp at hb;subst hb;rintro rfl;exact hq ha⟩) inj'
     refine⟨ms,a1,a2,fun n=>?_,fun n=>⟨?_,?_⟩⟩
     · rw[a3 n];simp only[BL,Eu,Da,or_false];constructor
       · rintro((z|z)|⟨r,hr,e⟩)
         · exact .inl z
         · exact .inr ⟨q,.inl rfl,z.symm⟩
         · exact .inr ⟨r,.inr hr,e⟩
       · rintro(z|⟨r,rfl|hr,e⟩)
         · exact .inl (.inl z)
         · exact .inl (.inr e.symm)
         · exact .inr ⟨r,hr,e⟩
     · rw[<- val n _ rfl];exact(a4 n).1
     · have:=(a4 n).2;simp only[D0,CL,Fz]at this ⊢;omega
theorem rq(f:Rat->Int)(qs:List Rat)(inj:∀q r,q∈qs->r∈qs->f q=f r->q=r) :
 ∃ms:List Int,(rA f qs).map (·.1)=ms.map Cs/\ms.Nodup/\(∀n,n∈ms↔∃q∈qs,f q=n)/\(∀q∈qs,c6 (rA f qs) (.inl (f q))=some (fr q))/\ms.length<=qs.length:=by
 obtain⟨ms,a1,a2,a3,a4⟩:=fF f qs [] [] rfl Ec inj;refine⟨ms,a1,a2,fun n=>by rw[a3 n];simp,fun q hq=>?_,by have:=(a4 0).2;simpa using this⟩;have:=(a4 (f q)).1;show c6 ((qs.map fun q=>((Cs (f q):A5),fr q)).foldl (fun a p=>putF a p.1 p.2) []) _=_;rw[this]
 cases e:qs.find? (fun q'=>decide (f q'=f q))with
 | none =>
   rw[EM]at e
   exact absurd (e q hq) (by simp)
 | some q' =>
   have m:=ES e;have p:f q'=f q:=by simpa using EE e
   rw[inj q' q m hq p]
noncomputable def zA(S:Int)(q:Rat):Int:=(q.num*S).fdiv q.den
theorem oS(S:Int)(q:Rat):zA S q*q.den<=q.num*S/\q.num*S<(zA S q+1)*q.den:=by
 have h0:(0:Int)<q.den:=dL q;unfold zA;rw[Ca _ (by omega)];have h1:=FK (q.num*S) (show(q.den:Int)≠0 by omega);have h2:=EN (q.num*S) h0;have h3:=Int.mul_ediv_add_emod (q.num*S) q.den;have e1:q.num*S / (q.den:Int)*(q.den:Int)=(q.den:Int)*(q.num*S / (q.den:Int)):=DF _ _;have e2:(q.num*S / (q.den:Int)+1)*(q.den:Int)=(q.den:Int)*(q.num*S / (q.den:Int))+(q.den:Int):=by rw[Cj,Int.one_mul,e1]
 rw[e1,e2];constructor<;>omega
theorem jB(q r:Rat):q<r↔q.num*r.den<r.num*q.den:=Rat.lt_iff q r
theorem kE{r:Rat}(hq:(q.den:Int)<=B)(hr:(r.den:Int)<=B)(h:q<r):zA (B*B) q<zA (B*B) r:=by
 have h0:(0:Int)<q.den:=dL q;have h1:(0:Int)<r.den:=dL r;rw[jB]at h;obtain⟨a1,a2⟩:=oS (B*B) q;obtain⟨b1,b2⟩:=oS (B*B) r;generalize zA (B*B) q=a at *;generalize zA (B*B) r=b at *;generalize (q.den:Int)=x at *;generalize (r.den:Int)=y at *;by_cases hab:a<b
 · exact hab
 · exfalso;have hba:b+1<=a+1:=by omega
   have e1:a*x*y<=q.num*(B*B)*y:=BA a1 (by omega);have e2:r.num*(B*B)*x<(b+1)*y*x:=Int.mul_lt_mul_of_pos_right b2 h0;have e3:(b+1)*y*x<=(a+1)*y*x:=BA (BA hba (by omega)) (by omega);have hs:x*y<=B*B:=Int.mul_le_mul hq hr (by omega) (by omega);have h2:q.num*y+1<=r.num*x:=h;have e4:(q.num*y+1)*(B*B)<=r.num*x*(B*B):=BA h2 (CV (by omega) (by omega));have e5:(q.num*y+1)*(B*B)=q.num*(B*B)*y+B*B:=by grind
   have e6:r.num*x*(B*B)=r.num*(B*B)*x:=by grind
   have e7:(a+1)*y*x=a*x*y+x*y:=by grind
   omega
theorem kX(q r:Rat):q<r\/q=r\/r<q:=by
 by_cases h:q<r
 · exact .inl h
 · by_cases h2:r<q
   · exact .inr (.inr h2)
   · exact .inr (.inl (Rat.le_antisymm (Rat.not_lt.mp h2) (Rat.not_lt.mp h)))
theorem kF{r:Rat}(hq:(q.den:Int)<=B)(hr:(r.den:Int)<=B)(h:zA (B*B) q=zA (B*B) r):q=r:=by
 rcases kX q r with z|z|z
 · have:=kE hq hr z;omega
 · exact z
 · have:=kE hr hq z;omega
theorem pX{r:Rat}(hq:(q.den:Int)<=B)(hr:(r.den:Int)<=B)(h:zA (B*B) q<zA (B*B) r):q<r:=by
 rcases kX q r with z|z|z
 · exact z
 · subst z;omega
 · have:=kE hr hq z;omega
theorem dq:∀(ns:List Int)(m:Int),∃k,bA (some m) ns=some k/\m<=k/\(∀n∈ns,n<=k)/\(k=m\/k∈ns)
 | [],m=>⟨m,rfl,Int.le_refl _,by simp,.inl rfl⟩
 | n::ns,m=>by
   obtain⟨k,e,h1,h2,h3⟩:=dq ns (if n>m then n else m);refine⟨k,e,by split at h1<;>omega,fun x hx=>?_,?_⟩
   · rcases BL.mp hx with rfl|hx
     · split at h1<;>omega
     · exact h2 x hx
   · rcases h3 with h3|h3
     · split at h3
       · exact .inr (by rw[h3];exact Bw)
       · exact .inl h3
     · exact .inr (Br _ h3)
theorem t8(ns:List Int):(∀n∈ns,n<=z7 1 ns)/\(z7 1 ns=1\/z7 1 ns∈ns):=by
 unfold z7
 cases ns with
 | nil=>exact⟨by simp,.inl rfl⟩
 | cons n ns =>
   obtain⟨k,e,h1,h2,h3⟩:=dq ns n;have e':bA none (n::ns)=some k:=e;rw[e'];refine⟨fun x hx=>?_,.inr ?_⟩
   · rcases BL.mp hx with rfl|hx
     · exact h1
     · exact h2 x hx
   · rcases h3 with rfl|h3
     · exact Bw
     · exact Br _ h3
theorem jm(f:Rat->Int){qs:List Rat}:∀(ns:List Int),(∀n∈ns,∃q∈qs,f q=n)->∃rs:List Rat,ns=rs.map f/\∀r∈rs,r∈qs
 | [],_=>⟨[],rfl,by simp⟩
 | n::ns,h=>by
   obtain⟨rs,e,hr⟩:=jm f ns fun m hm=>h m (Br _ hm);obtain⟨q,hq,eq⟩:=h n Bw;exact⟨q::rs,by rw[BM,eq,<- e],fun r hr'=>(BL.mp hr').elim (fun z=>z▸hq) (hr r)⟩
noncomputable def cO(qs rs:List Rat):Prop:=rs.Pairwise (· < ·)/\∀q,q∈rs↔q∈qs
theorem kK{qs:List Rat}{ms:List Int}(hB:∀q∈qs,(q.den:Int)<=B)(nd:ms.Nodup)(hm:∀n,n∈ms↔∃q∈qs,zA (B*B) q=n)(pm:ns.Perm ms)(pw:ns.Pairwise (· <= ·)) :
 ∃rs:List Rat,ns=rs.map (zA (B*B))/\(∀r∈rs,r∈qs)/\cO qs rs:=by
 obtain⟨rs,e,hr⟩:=jm (zA (B*B)) ns fun n hn=>(hm n).mp (pm.mem_iff.mp hn);refine⟨rs,e,hr,?_,fun q=>⟨hr q,fun hq=>?_⟩⟩
 · have nd':ns.Nodup:=pm.nodup_iff.mpr nd;subst e
   have lt:(rs.map (zA (B*B))).Pairwise (· < ·):=by
    have:=pw.and nd';exact this.imp fun z=>by have:=z.1;have:=z.2;omega
   rw[EW]at lt;exact lt.imp_of_mem fun ha hb z=>pX (hB _ (hr _ ha)) (hB _ (hr _ hb)) z
 · have:zA (B*B) q∈ns:=pm.mem_iff.mpr ((hm _).mpr ⟨q,hq,rfl⟩);rw[e,Ch]at this;obtain⟨r,hr',e2⟩:=this;rw[<- kF (hB r (hr r hr')) (hB q hq) e2];exact hr'
theorem gF:∀{rs qs:List Rat},rs.Nodup->(∀x∈rs,x∈qs)->rs.length<=qs.length
 | [],_,_,_=>B7 _
 | r::rs,qs,nd,h=>by
   rw[DC]at nd;have hm:=h r Bw;have:=gF (rs:=rs) (qs:=qs.erase r) nd.2 fun x hx=>(List.mem_erase_of_ne (fun(z:x=r)=>nd.1 (by rw[<- z];exact hx))).mpr (h x (Br _ hx));rw[List.length_erase_of_mem hm]at this;have:=List.length_pos_of_mem hm;simp only[CL];omega
theorem ju{qs rs:List Rat}(h:cO qs rs):rs.length<=qs.length:=by
 have nd:rs.Nodup:=h.1.imp fun z e=>by subst e;exact absurd z (D4)
 exact gF nd fun x hx=>(h.2 x).mp hx
theorem d_:∀{rs ss:List Rat},rs.Pairwise (· < ·)->ss.Pairwise (· < ·)->(∀q,q∈rs↔q∈ss)->rs=ss
 | [],[],_,_,_=>rfl
 | [],s::_,_,_,h=>by have:=(h s).mpr Bw;simp at this
 | r::_,[],_,_,h=>by have:=(h r).mp Bw;simp at this
 | r::rs,s::ss,h1,h2,h=>by
   rw[List.pairwise_cons]at h1 h2
   have e:r=s:=by
    rcases BL.mp ((h r).mp Bw)with z|z
    · exact z
    · rcases BL.mp ((h s).mpr Bw)with y|y
      · exact y.symm
      · have a:=h2.1 r z;have b:=h1.1 s y;exact absurd (show r<r by grind) D4
   subst e;congr 1;refine d_ h1.2 h2.2 fun q=>?_;constructor
   · intro hq;rcases BL.mp ((h q).mp (Br _ hq))with z|z
     · subst z;exact absurd (h1.1 q hq) D4
     · exact z
   · intro hq;rcases BL.mp ((h q).mpr (Br _ hq))with z|z
     · subst z;exact absurd (h2.1 q hq) D4
     · exact z
end L2.VL
namespace L2
theorem DAt.stab{xs:List (List Int×Addr×Bo)}{h1 h2:Heap}(p:VL.DAt a xs h1)(k:∀o,h1.get? a=some o->h2.get? a=some o):VL.DAt a xs h2:=by
 obtain⟨o,es,ep,h,r⟩:=p;exact⟨o,es,ep,k o h,r⟩
theorem pc{w:B2}{xs:List (List Int×Addr×Bo)}(p:VL.DAt a xs h):bI P w H h a (.ext (VL.DAt a xs)) :=
 ⟨p,(let ⟨o,_,_,e,_⟩:=p;⟨o,e⟩),fun _ _ q k=>DAt.stab q k⟩
noncomputable def eI(K:W.Frag)(H:Hp)(xs:List (List Int×Addr×Bo)):Prop:=∀x∈xs,AL K H x.2.1 (x.1.map V.int)
section
variable{X:Cx}{pins:List (Addr×Obj)}{σ:St}{H:Hp}{s:Bp}{a b:Addr}{xs:List (List Int×Addr×Bo)}{k:List Int}{A:BX}{E:Bo->Bp->Prop}
theorem items_int{prog:BE}{w:B2}:∀{ks:List Int}{its:List Bo},bp (ks.map V.int) its->ItemsAre (E1 prog w) ks its
 | [],_,.nil=>.nil
 | i::ks,_,.cons h r=>by
   obtain⟨t,rfl⟩:=(show ∃t,_=Dr i t from h);exact .cons (by simp[E1,GN]) (items_int r)
theorem i_(I:Inv X pins σ H s)(sq:AL X.K H b (k.map V.int)):(Dy (E1 X.prog X.w)).is s.heap k b:=by
 obtain⟨its,rv,⟨o,h1,h2,n,h3⟩,_⟩:=I.tuple sq;exact⟨o,its.toArray,n,h1,h2,h3,by simpa using items_int rv⟩
theorem jh(I:Inv X pins σ H s)(e:H a=some (.ext (VL.DAt a xs)))(ks:eI X.K H xs):s.heap.DictOfH (Dy (E1 X.prog X.w)) a xs/\(a==Cz)=false/\xs.length<=sizeLine:=by
 obtain⟨⟨o,es,ep,h1,h2,h3,h4,h5,h6,h7⟩,_⟩:=(show bI X.prog X.w H s.heap a (.ext (VL.DAt a xs))from I.hok a _ e);exact⟨⟨o,es,ep,h1,h2,h3,h4 _ _,fun x hx=>i_ I (ks x hx),h5⟩,h6,h7⟩
theorem og{P':BE}{w w':B2}(x:List Int×Addr×Bo):GA (Dy (E1 P w)) x=GA (Dy (E1 P' w')) x:=rfl
theorem uF{w:B2}(d:h.DictOfH (Dy (E1 P w)) a xs)(h6:(a==Cz)=false)(h7:xs.length<=sizeLine):VL.DAt a xs h:=by
 obtain⟨o,es,ep,h1,h2,h3,h4,_,h5⟩:=d;exact⟨o,es,ep,h1,h2,h3,fun P' w'=>by rw[h4];exact DR fun x _=>og x,h5,h6,h7⟩
theorem dZ(xs:List (List Int×Addr×Bo))(k:List Int)(b:Addr)(u:Bo):(GC xs k b u).length<=xs.length+1:=by
 unfold GC;split<;>simp
noncomputable def sP:TE:=fun _ H Q=>∀p,H p=none->Q (.ref p) (upd H p (.ext (VL.DAt p [])))
noncomputable def vL(K:W.Frag)(td ty:TE):TE:=fun σ H Q=>td σ H fun x H1=>ty σ H1 fun y H2=>∃a xs b k p v,x = .ref a/\H2 a=some (.ext (VL.DAt a xs))/\eI K H2 xs/\y = .ref b/\AL K H2 b (k.map V.int)/\FA xs k=some p/\RelV v p.2/\Q v H2
noncomputable def sM(K:W.Frag)(td ty tz:TE):TE:=fun σ H Q=>td σ H fun x H1=>∃a xs,x = .ref a/\H1 a=some (.ext (VL.DAt a xs))/\eI K H1 xs/\ty σ H1 fun y H2=>tz σ H2 fun z H3 =>
 ∃xs b k v,H3 a=some (.ext (VL.DAt a xs))/\eI K H3 xs/\y = .ref b/\AL K H3 b (k.map V.int)/\(FA xs k=none->v=z)/\(∀p,FA xs k=some p->RelV v p.2)/\Q v H3
noncomputable def vZ(K:W.Frag)(td ty tv:TE):TS:=fun D σ H=>tv σ H fun v H1=>td σ H1 fun x H2=>ty σ H2 fun y H3 =>
 ∃a xs b k,x = .ref a/\H3 a=some (.ext (VL.DAt a xs))/\eI K H3 xs/\y = .ref b/\AL K H3 b (k.map V.int)/\xs.length<sizeLine/\∀r,RelV v r->D.nx σ (upd H3 a (.ext (VL.DAt a (GC xs k b r))))
end
section
variable{X:Cx}{o i e f value:Expr}{pos pos' apos cpos:Pos}{td ty tz tv:TE}
theorem nK:PE X (.Dict [] [] pos) sP:=fun pins s σ H Q I h =>
 wpAny_Dict_empty ⟨.ref s.heap.objs.size,_,I.laid (a:=s.heap.objs.size) (o:=.ext (VL.DAt s.heap.objs.size [])) (t':=s.toks) (fun _ _ q=>Bn _ q) (By _)
  (pc ⟨_,#[],0,BJ _ rfl,⟨rfl,rfl,rfl⟩,rfl,fun _ _=>rfl,Ec,beq_eq_false_iff_ne.mpr (Ek (BV I.big)),B7 _⟩),rfl,h _ (I.hok.fresh (By _))⟩
theorem qE(hu:X.A.units+1<FY)(ho:PE X o td)(hi:PE X i ty)(hs:uP i):PE X (.Subscript o i pos) (vL X.K td ty):=by
 intro pins s σ H Q I h;refine kH EO.lookup hs (zr (ho pins s σ H _ I h) fun u s1 ⟨x,H1,I1,rx,q1⟩=>zr (hi pins s1 σ H1 _ I1 q1) fun iv s2 ⟨y,H2,I2,ry,a,xs,b,k,p,v,ex,e,ks,ey,sq,at',rv,q2⟩=>?_);subst ex ey;obtain rfl:u=Ce a:=rx;cases(show iv=Ce b from ry);obtain⟨dd,hd,_⟩:=jh I2 e ks;refine⟨dd.typeIs,wpAny_getItem_heap (Dx hu) (i_ I2 sq) dd at' ?_⟩;exact⟨v,H2,I2.tok _,rv,q2⟩
theorem nE(hu:X.A.units+1<FY)(ho:PE X o td)(he:PE X e ty)(hf:PE X f tz)(m:M2 X o "get" apos e f cpos):PE X (.Call (.Attribute o "get" apos) [e,f] [] cpos) (sM X.K td ty tz):=by
 intro pins s σ H Q I h;refine wpAny_Call_method m.base m.few m.line E9 DG FM (zr (ho pins s σ H _ I h) fun u s1 ⟨x,H1,I1,rx,a,xs,ex,ea,ks,q1⟩=>?_);subst ex;obtain rfl:u=Ce a:=rx;obtain⟨dd,hd,_⟩:=jh I1 ea ks;refine⟨dd.typeIs,fun b q=>(by cases q;obtain⟨ob,_,_,h1,h2,_⟩:=dd;exact⟨ob,h1,h2.2.1⟩),?_⟩;rw[m.trees]
 refine Fm rfl (F8 (Dw (zr (he pins s1 σ H1 _ I1 q1) fun iv s2 ⟨y,H2,I2,ry,q2⟩ =>
  Dw (zr (hf pins s2 σ H2 _ I2 q2) fun fv s3 ⟨z,H3,I3,rz,xs3,b,k,v,ea3,ks3,ey,sq,n1,n2,q3⟩=>EV ?_))))
 subst ey;cases(show iv=Ce b from ry);obtain⟨dd3,hd3,_⟩:=jh I3 ea3 ks3;refine call_meetsIn DG dd3.typeIs Fo (E_ _ _ _) (meetsH_dict_get_default (Dy (E1 X.prog X.w)) a b hd3 fv) ⟨Dx hu,k,xs3,i_ I3 sq,dd3,⟨v,H3,I3.tok _,?_,q3⟩⟩
 cases hk:FA xs3 k with
 | none=>rw[n1 hk];exact rz
 | some p=>exact n2 p hk
theorem qv(hu:X.A.units+1<FY)(ho:PE X o td)(hi:PE X i ty)(hv:PE X value tv)(hs:DU value (some (.Subscript o i pos')) pos.line X.env=pure false) :
 PS X (.Assign [.Subscript o i pos'] value pos) (vZ X.K td ty tv):=by
 intro pins s σ H D I h;refine Fi (zr (hv pins s σ H _ I h) fun r s1 ⟨v,H1,I1,rv,q1⟩=>zr (ho pins s1 σ H1 _ I1 q1) fun u s2 ⟨x,H2,I2,rx,q2⟩=>zr (hi pins s2 σ H2 _ I2 q2) fun iv s3 ⟨y,H3,I3,ry,a,xs,b,k,ex,ea,ks,ey,sq,hl,q3⟩=>?_) hs;subst ex ey;obtain rfl:u=Ce a:=rx;cases(show iv=Ce b from ry);obtain⟨dd,hd,hz⟩:=jh I3 ea ks;refine wpAny_setItem_heap (hsz:=hz) (Dx hu) (i_ I3 sq) dd fun h' dd' hsb=>⟨σ,_,?_,q3 r rv⟩;have lz:=dZ xs k b r;have at':=uF dd' hd (by omega);exact fJ I3 (by rw[ea];exact DJ) hsb (let ⟨o,_,_,e,_⟩:=at';⟨o,e⟩) (pc at')
end
end L2
namespace L2.VL
noncomputable def mQ(kvs:List (List Int×Bl))(k:List Int):Option Bl:=(kvs.find? fun kv=>decide (kv.1=k)).map (·.2)
noncomputable def rS(kvs:List (List Int×Bl))(k:List Int)(x:Bl):List (List Int×Bl) :=
 if(kvs.any fun kv=>decide (kv.1=k))=true then kvs.map (fun kv=>if kv.1=k then(kv.1,x)else kv)else kvs++[(k,x)]
theorem KX.keys{K:W.Frag}{F:Hp}:∀{xs:List (List Int×Addr×Bo)}{kvs:List (List Int×Bl)},KX K F xs kvs->eI K F xs
 | _,_,.nil,x,m=>by cases m
 | _,_,.cons h t,x,m=>by
   rcases BL.mp m with rfl|m
   · rw[h.1]at *;exact h.2.1
   · exact KX.keys t x m
theorem KX.at{K:W.Frag}{F:Hp}{xs:List (List Int×Addr×Bo)}{kvs:List (List Int×Bl)}(r:KX K F xs kvs)(k:List Int):(FA xs k=none/\mQ kvs k=none)\/∃p v d,FA xs k=some p/\mQ kvs k=some d/\RelV v p.2/\Rep K F v d:=by
 induction r with
 | nil=>exact .inl ⟨rfl,rfl⟩
 | @cons p q ps qs h t ih =>
   unfold FA mQ at *;rw[B_,B_,h.1];by_cases e:q.1=k
   · simp only[e,decide_true];obtain⟨_,_,v,rv,rp⟩:=h;exact .inr ⟨p.2,v,q.2,rfl,rfl,rv,rp⟩
   · simp only[e,decide_false];exact ih
theorem KX.put{K:W.Frag}{xs:List (List Int×Addr×Bo)}(r:KX K F xs kvs)(k:List Int){b:Addr}{u:Bo}(sq:AL K F b (k.map V.int))(rv:RelV v u)(rp:Rep K F v d):KX K F (GC xs k b u) (rS kvs k d):=by
 have any:(FA xs k).isSome=kvs.any fun kv=>decide (kv.1=k):=by
  induction r with
  | nil=>rfl
  | @cons p q ps qs h t ih =>
    unfold FA at *;rw[B_,DI,h.1];by_cases e:q.1=k
    · simp[e]
    · simp only[e,decide_false,Gw];exact ih
 unfold GC rS;rw[any];by_cases c:(kvs.any fun kv=>decide (kv.1=k))=true
 · rw[if_pos c,if_pos c];clear any c
   induction r with
   | nil=>exact .nil
   | @cons p q ps qs h t ih =>
     refine .cons ?_ ih;show(putAt k u p).1=(if q.1=k then(q.1,d)else q).1/\AL K F (putAt k u p).2.1 ((putAt k u p).1.map V.int)/\∃v,RelV v (putAt k u p).2.2/\Rep K F v (if q.1=k then(q.1,d)else q).2;unfold putAt;by_cases e:q.1=k
     · rw[if_pos e,if_pos (h.1.trans e)];exact⟨h.1,h.2.1,v,rv,rp⟩
     · rw[if_neg e,if_neg (fun z=>e (h.1.symm.trans z))];exact h
 · rw[if_neg c,if_neg c];exact GV r ⟨rfl,sq,v,rv,rp⟩
section
variable{X:Cx}{rl:Option Addr}{e:Expr}{pos px apos cpos:Pos}{ρ:En}
theorem VR.ownX{K:W.Frag}{ρ:En}(r:VR K rl F₀ H₀ F H σ ρ){xs ys:List (List Int×Bl)}{us:List (List Int×Addr×Bo)}(e:ρ[i]?=some (some (.xm xs)))(es:σ[i]?=some (some (.ref a)))(rs:KX K F us ys) :
 VR K rl F₀ H₀ F (upd H a (.ext (DAt a us))) σ (ρ.set i (some (.xm ys))):=by
 obtain⟨v,h1,h2,h3⟩:=r.sl i _ e;rw[es]at h1;cases h1;obtain⟨a',vs,ev,f,hr,hh,q⟩:=(show mM K rl F H (.ref a) xs from h2);cases ev;have n0:H₀ a=none:=h3 a rfl;have hi:i<ρ.length:=(BG.mp e).1;have neF:∀b u,F b=some u->b≠a:=fun b u q z=>by subst z;rw[f]at q;cases q
 have g:Grow rl F₀ H₀ F (upd H a (.ext (DAt a us))):=by
  refine⟨fun b o q1 n=>by rw[upd_ne (aw q1 n0)];exact r.g.same b o q1 n,r.g.fs,fun b o q1=>by rw[upd_ne (neF b o q1)];exact r.sub b o q1,r.g.old,fun y z=>?_⟩;obtain⟨z1,⟨u,h1,h2⟩⟩:=r.reel y z;exact⟨z1,⟨u,by rw[upd_ne (fun q=>hr (by rw[<- q];exact z))];exact h1,h2⟩⟩
 refine⟨g,fun j w e1=>?_,fun j k ys' zs u hjk e1 e2 w1 w2 s1 s2=>?_,fun j ys' z=>?_,by simp[r.len]⟩
 · by_cases hj:i=j
   · subst hj;rw[BK hi]at e1;cases e1;exact⟨_,es,⟨a,us,rfl,f,hr,ak,rs⟩,h3⟩
   · rw[BC hj]at e1;obtain⟨u,g1,g2,g3⟩:=r.sl j w e1;refine⟨u,g1,?_,g3⟩
     cases w with
     | d x=>exact g2
     | reel=>exact g2
     | vv u=>exact g2
     | ml zs =>
       obtain⟨b,us',eb,f1,f2,f3,f4⟩:=(show jV K rl F H u zs from g2);have ne:b≠a:=fun z=>r.ap i j _ _ (.ref a) hj e e1 rfl rfl es (by rw[g1,eb,z])
       exact⟨b,us',eb,f1,f2,by rw[upd_ne ne];exact f3,f4⟩
     | pk zs=>exact absurd e1 (r.np j zs)
     | md zs =>
       obtain⟨b,us',eb,f1,f2,f3,f4⟩:=(show rR K rl F H u zs from g2);have ne:b≠a:=fun z=>r.ap i j _ _ (.ref a) hj e e1 rfl rfl es (by rw[g1,eb,z])
       exact⟨b,us',eb,f1,f2,by rw[upd_ne ne];exact f3,f4⟩
     | mk zs =>
       obtain⟨b,us',eb,f1,f2,f3,f4⟩:=(show mO K rl F H u zs from g2);have ne:b≠a:=fun z=>r.ap i j _ _ (.ref a) hj e e1 rfl rfl es (by rw[g1,eb,z])
       exact⟨b,us',eb,f1,f2,by rw[upd_ne ne];exact f3,f4⟩
     | xm zs =>
       obtain⟨b,us',eb,f1,f2,f3,f4⟩:=(show mM K rl F H u zs from g2);have ne:b≠a:=fun z=>r.ap i j _ _ (.ref a) hj e e1 rfl rfl es (by rw[g1,eb,z])
       exact⟨b,us',eb,f1,f2,by rw[upd_ne ne];exact f3,f4⟩
     | nt ds=>exact g2
     | lk=>trivial
     | sc _=>exact g2
     | fd _=>exact g2
     | xr _=>exact g2
     | fw _=>exact g2
     | ft _=>exact g2
     | xc _ _=>exact g2
     | dp _ _=>exact g2
 · have nd:∀(j:Nat)(z:W),(ρ.set i (some (W.xm ys)))[j]?=some (some z)->z.own=true->∃z',ρ[j]?=some (some z')/\z'.own=true:=fun j zs z o=>by
     by_cases hj:i=j
     · subst hj;exact⟨_,e,rfl⟩
     · rw[BC hj]at z;exact⟨zs,z,o⟩
   obtain⟨_,d1,o1⟩:=nd j _ e1 w1;obtain⟨_,d2,o2⟩:=nd k _ e2 w2;exact r.ap j k _ _ u hjk d1 d2 o1 o2 s1 s2
 · rw[B5]at z;split at z
   · first|cases z|(split at z<;>cases z)
   · exact r.np j ys' z
noncomputable def kj:TV:=fun _ Q=>Q (.xm [])
theorem m_:PV X rl (.Dict [] [] pos) kj:=by
 refine⟨_,nK,fun R Qd Q q h p hp=>?_⟩;refine h _ (.xm []) _ _ (Grow.laid R.sub R.reel hp) ⟨p,[],rfl,R.sub.free hp,fun e=>?_,ak,.nil⟩ (fun a ea=>by cases ea;exact hp) q;obtain⟨o,z⟩:=R.reel.live e;rw[hp]at z;cases z
noncomputable def gO:List Bl->Option (List Int)
 | []=>some []
 | .int i::ds=>(gO ds).map (i :: ·)
 | _::_=>none
noncomputable def keyI:Bl->Option (List Int)
 | .tuple ds=>gO ds
 | _=>none
theorem jc:∀{ds:List Bl}{k:List Int},gO ds=some k->ds=k.map .int
 | [],k,h=>by cases h;rfl
 | .int i::ds,k,h=>by
   simp only[gO,C5]at h;obtain⟨k',h1,rfl⟩:=h
   rw[jc h1];rfl
 | .none::_,_,h=>by cases h
 | .bool _::_,_,h=>by cases h
 | .str _::_,_,h=>by cases h
 | .list _::_,_,h=>by cases h
 | .tuple _::_,_,h=>by cases h
 | .dict _::_,_,h=>by cases h
theorem dG:∀k:List Int,gO (k.map .int)=some k
 | []=>rfl
 | i::k=>by show(gO (k.map .int)).map (i :: ·)=_;rw[dG k];rfl
theorem qX{k:List Int}(h:keyI d=some k):d = .tuple (k.map .int):=by
 unfold keyI at h;split at h
 · rw[jc h]
 · cases h
theorem lK{K:W.Frag}{k:List Int}(h:Rep K F v d)(e:keyI d=some k):∃b,v = .ref b/\AL K F b (k.map V.int):=by
 rw[qX e]at h
 cases h with
 | @tup a vs ds sq rs =>
   rw[cH rs]at sq;exact⟨a,rfl,sq⟩
end
section
variable{X:Cx}{rl:Option Addr}{a b c o e:Expr}{es:List Expr}{fa fb:TV}{fs:AF}{pos p apos cpos:Pos}{ρ:En}
end
end L2.VL
namespace L2
section
variable{prog:BE}{w:B2}{A:BX}{E:Bo->Bp->Prop}{s:Bp}
end
section
variable{X:Cx}
end
end L2
namespace L2.VL
section
variable{X:Cx}{rl:Option Addr}{e:Expr}{fa:TV}{pos:Pos}{ρ:En}
end
section
variable{X:Cx}{rl:Option Addr}{a b e:Expr}{fa fb:TV}{pos:Pos}{ρ:En}
end
end L2.VL
namespace L2
section
variable{X:Cx}
theorem ir{its:List Bo}(r:bp (ns.map V.int) its){v:Bo}(e:its[i]?=some v):∃t,v = .int (ns.getD i 0) t:=by
 have hl:=r.length;rw[Bu]at hl;have hi:i<ns.length:=by have:=(BG.mp e).1;omega
 have hb:(ns.map V.int)[i]?=some (.int ns[i]):=by simp[hi]
 obtain⟨u,hu,ru⟩:=r.get hb;rw[e]at hu;cases hu;have:ns.getD i 0=ns[i]:=by simp[List.getD,hi]
 rw[this];exact ru
end
end L2
namespace L2.VL
section
variable{X:Cx}{rl:Option Addr}{a:Expr}{fs:AF}{pos p:Pos}
end
end L2.VL
namespace L2
section
variable{X:Cx}
end
end L2
namespace L2.VL
section
variable{X:Cx}{rl:Option Addr}{a e:Expr}{fs:AF}{pos p:Pos}
noncomputable def rb:Bl->Option (List Int)
 | .tuple xs=>d0 xs
 | _=>none
theorem n9:rb d=some ns↔d = .tuple (ns.map .int):=by
 constructor
 · intro h
   cases d with
   | tuple xs=>rw[df h]
   | _=>cases h
 · rintro rfl;exact intsD_map _
theorem q0(ns:List Int):rb (.tuple (ns.map .int))=some ns:=intsD_map ns
end
section
variable{X:Cx}{rl:Option Addr}{a b c o e:Expr}{es:List Expr}{fa fb:TV}{fs:AF}{pos p px apos cpos:Pos}{ρ:En}
end
end L2.VL
namespace L2
section
variable{X:Cx}{o e f:Expr}{apos cpos:Pos}{td ty tx:TE}
end
end L2
namespace L2.VL
section
variable{X:Cx}{rl:Option Addr}{a b c o e:Expr}{es:List Expr}{fa fb:TV}{fs:AF}{pos p px apos cpos:Pos}{ρ:En}
noncomputable def jT(w:W):Option (List Int):=w.dat.bind rb
theorem wG{g:List Int}:jT w=some g↔w.dat=some (.tuple (g.map .int)):=by
 unfold jT
 cases w.dat with
 | none=>simp
 | some d=>simp[n9]
theorem uK(g:List Int):jT (.d (.tuple (g.map .int)))=some g:=q0 g
end
theorem VR.frzX{K:W.Frag}(r:VR K rl F₀ H₀ F H σ ρ){xs:List (List Int×Bl)}(e:ρ[i]?=some (some (.xm xs))):∃F1,a_ F F1/\VR K rl F₀ H₀ F1 H σ (ρ.set i (some (.xr xs))):=by
 obtain⟨v,h1,h2,h3⟩:=r.sl i _ e;obtain⟨a,vs,ev,f,hr,hh,q⟩:=(show mM K rl F H v xs from h2);have neF:∀b u,F b=some u->b≠a:=fun b u q z=>by subst z;rw[f]at q;cases q
 have fsm:a_ F (upd F a (.ext (DAt a vs))):=fun b u z=>by rw[upd_ne (neF b u z)];exact z
 have hi:i<ρ.length:=(BG.mp e).1;refine⟨upd F a (.ext (DAt a vs)),fsm,r.g.freeze (h3 a ev) hh f hr,fun j w e1=>?_,fun j k ys' zs u hjk e1 e2 w1 w2 s1 s2=>?_,fun j ys' z=>?_,by simp[r.len]⟩
 · by_cases hj:i=j
   · subst hj;rw[BK hi]at e1;cases e1;exact⟨v,h1,⟨a,vs,ev,ak,q.mono fsm⟩,trivial⟩
   rw[BC hj]at e1;obtain⟨u,g1,g2,g3⟩:=r.sl j w e1;refine⟨u,g1,?_,g3⟩
   cases w with
   | d x=>exact Rep.mono fsm g2
   | reel=>exact g2
   | vv u=>exact g2
   | ml ys =>
     obtain⟨b,us,eb,f1,f2,f3,f4⟩:=(show jV K rl F H u ys from g2);have ne:b≠a:=fun z=>r.ap i j _ _ v hj e e1 rfl rfl h1 (by rw[g1,eb,z,ev])
     exact⟨b,us,eb,by rw[upd_ne ne];exact f1,f2,f3,f4.mono fsm⟩
   | pk ys=>exact absurd e1 (r.np j ys)
   | md ys =>
     obtain⟨b,us,eb,f1,f2,f3,f4⟩:=(show rR K rl F H u ys from g2);have ne:b≠a:=fun z=>r.ap i j _ _ v hj e e1 rfl rfl h1 (by rw[g1,eb,z,ev])
     exact⟨b,us,eb,by rw[upd_ne ne];exact f1,f2,f3,Cf.mapP f4 fun _ _ z=>⟨z.1,z.2.mono fsm⟩⟩
   | mk ys =>
     obtain⟨b,us,eb,f1,f2,f3,f4⟩:=(show mO K rl F H u ys from g2);have ne:b≠a:=fun z=>r.ap i j _ _ v hj e e1 rfl rfl h1 (by rw[g1,eb,z,ev])
     exact⟨b,us,eb,by rw[upd_ne ne];exact f1,f2,f3,Cf.mapP f4 fun _ _ z=>⟨z.1,z.2.mono fsm⟩⟩
   | xm ys =>
     obtain⟨b,us,eb,f1,f2,f3,f4⟩:=(show mM K rl F H u ys from g2);have ne:b≠a:=fun z=>r.ap i j _ _ v hj e e1 rfl rfl h1 (by rw[g1,eb,z,ev])
     exact⟨b,us,eb,by rw[upd_ne ne];exact f1,f2,f3,KX.mono f4 fsm⟩
   | nt ds=>obtain⟨b,us,eb,f1,f2⟩:=g2;exact⟨b,us,eb,fsm _ _ f1,f2.mono fsm⟩
   | lk=>trivial
   | sc ns=>obtain⟨b,eb,f1⟩:=g2;exact⟨b,eb,kP fsm f1⟩
   | fd kvs=>obtain⟨b,us,eb,f1,f2⟩:=g2;exact⟨b,us,eb,fsm _ _ f1,Cf.mapP f2 fun _ _ z=>⟨z.1,z.2.mono fsm⟩⟩
   | xr kvs=>obtain⟨b,us,eb,f1,f2⟩:=g2;exact⟨b,us,eb,fsm _ _ f1,KX.mono f2 fsm⟩
   | fw kvs=>obtain⟨b,us,o,eb,f1,f2⟩:=g2;exact⟨b,us,o,eb,fsm _ _ f1,Cf.mapP f2 fun _ _ z=>⟨z.1,z.2.mono fsm⟩⟩
   | ft kvs=>obtain⟨b,us,o,eb,f1,f2⟩:=g2;exact⟨b,us,o,eb,fsm _ _ f1,Cf.mapP f2 fun _ _ z=>⟨z.1,z.2.mono fsm⟩⟩
   | xc _ _=>obtain⟨b,dx,us,C,eb,n,f1,f3,f2⟩:=g2;exact⟨b,dx,us,C,eb,n,fsm _ _ f1,fsm _ _ f3,Cf.mapP f2 fun _ _ z=>⟨z.1,z.2.mono fsm⟩⟩
   | dp _ _=>obtain⟨c,b,us,u,o,eb,f1,f3,f2,z⟩:=g2;exact⟨c,b,us,u,o,eb,fsm _ _ f1,fsm _ _ f3,Cf.mapP f2 fun _ _ z=>⟨z.1,z.2.mono fsm⟩,z.mono fsm⟩
 · have nd:∀(j:Nat)(y:W),(ρ.set i (some (W.xr xs)))[j]?=some (some y)->y.own=true->ρ[j]?=some (some y):=fun j y z o=>by
     by_cases hj:i=j
     · subst hj;rw[BK hi]at z;cases z;cases o
     · rw[BC hj]at z;exact z
   exact r.ap j k _ _ u hjk (nd j _ e1 w1) (nd k _ e2 w2) w1 w2 s1 s2
 · rw[B5]at z;split at z
   · first|cases z|(split at z<;>cases z)
   · exact r.np j ys' z
section
variable{X:Cx}{rl:Option Addr}{st:Stmt}{body:List Stmt}{t:AG}{e:Expr}{pos p px apos cpos:Pos}{ρ:En}
noncomputable def pS(i:Nat)(t:AG):AG:=fun D ρ=>∃xs,ρ[i]?=some (some (.xm xs))/\t D (ρ.set i (some (.xr xs)))
theorem pC(i:Nat)(h:AV X rl st t):AV X rl st (pS i t):=by
 obtain⟨T,p,k⟩:=h;refine⟨T,p,fun R Dv D ok ⟨xs,e,q⟩=>?_⟩;obtain⟨F1,s1,R1⟩:=R.frzX e;exact k R1 Dv D (ok.on s1) q
noncomputable def ke(i:Nat)(fk fx:TV):TV:=fun ρ Q=>∃kvs,ρ[i]?=some (some (.xm kvs))/\fk ρ fun wk=>fx ρ fun wx=>∃(g:List Int)(x:Bl),jT wk=some g/\wx = .d x/\Q (.d ((mQ kvs g).getD x))
theorem ck.keyF{rl:Option Addr}{K:W.Frag}{g:List Int}(r:ck K rl F H v w)(e:jT w=some g):∃b,v = .ref b/\AL K F b (g.map V.int):=by
 have e:=wG.mp e
 cases w with
 | d x=>cases e;exact lK r (by show gO (g.map .int)=_;exact dG g)
 | nt ds =>
   obtain⟨a,vs,rfl,h,q⟩:=r;cases e;rw[cH q]at h
   exact⟨a,rfl,.inl (.inl h)⟩
 | ml xs=>cases e
 | pk xs=>cases e
 | _=>cases e
theorem ck.keyI{rl:Option Addr}{K:W.Frag}{g:List Int}(s:a_ F H)(r:ck K rl F H v w)(e:jT w=some g):∃b,v = .ref b/\AL K H b (g.map V.int):=lK (ck.dat s r (wG.mp e)) (by show gO (g.map .int)=_;exact dG g)
theorem pG(i:Nat){f:Expr}{fk fx:TV}(hu:X.A.units+64<FY)(hk:PV X rl e fk)(hx:PV X rl f fx)(hN:autoParam (X.N[i]?=some x) æa._auto_1)(hv:autoParam (AC X.env.scope x) æf._auto_1)
 (hd:autoParam ((x==("__debug__" : Str))=false) æb._auto_1)(hcd:autoParam ((x==("__classdict__" : Str))=false) æb._auto_1)(m:autoParam (M2 X (.Name x px) "get" apos e f cpos) æj._auto_1) :
 PV X rl (.Call (.Attribute (.Name x px) "get" apos) [e,f] [] cpos) (ke i fk fx):=by
 obtain⟨t,p1,k1⟩:=hk;obtain⟨t2,p2,k2⟩:=hx;refine⟨_,nE (by omega) (dw hN hv hd hcd) p1 p2 m,fun{F₀ H₀ F H σ ρ} R Qd Q ⟨kvs,e1,q⟩ h=>?_⟩;obtain⟨v,h1,h2,h3⟩:=R.sl i _ e1;obtain⟨a,xs,rfl,f0,hr,hh,rs⟩:=(show mM X.K rl F H v kvs from h2);refine⟨.ref a,h1,a,xs,rfl,hh,fun x m=>cr R.sub (rs.keys x m),k1 R _ _ q fun v1 w1 F1 H1 g1 r1 n1 q1=>?_⟩;refine k2 (R.grow g1) _ _ q1 fun v2 w2 F2 H2 g2 r2 n2 q2=>?_;obtain⟨gs,d,e2,rfl,q2⟩:=q2;obtain⟨b,rfl,sq⟩:=(ck.grow g2 r1).keyI g2.sub e2;have g:=g1.trans g2;have rs2:=rs.mono g.fs;rcases rs2.at gs with⟨z1,z2⟩|⟨p,v3,d3,z1,z2,z3,z4⟩
 · rw[z2]at q2;exact⟨xs,b,gs,v2,g.same a _ hh hr,fun x m=>cr g2.sub (rs2.keys x m),rfl,sq,fun _=>rfl,(fun p e=>by rw[z1]at e;cases e),h _ (.d d) _ _ g r2 trivial q2⟩
 · rw[z2]at q2;exact⟨xs,b,gs,v3,g.same a _ hh hr,fun x m=>cr g2.sub (rs2.keys x m),rfl,sq,(fun e=>by rw[z1]at e;cases e),(fun p' e=>by rw[z1]at e;cases e;exact z3),h _ (.d d3) _ _ g z4 trivial q2⟩
noncomputable def pO(i:Nat)(fk:TV):TV:=fun ρ Q=>∃kvs,ρ[i]?=some (some (.xr kvs))/\fk ρ fun wk=>∃(g:List Int)(x:Bl),jT wk=some g/\mQ kvs g=some x/\Q (.d x)
theorem sg(i:Nat){fk:TV}(hu:X.A.units+64<FY)(hk:PV X rl e fk)(hN:autoParam (X.N[i]?=some x) æa._auto_1)(hv:autoParam (AC X.env.scope x) æf._auto_1)
 (hd:autoParam ((x==("__debug__" : Str))=false) æb._auto_1)(hcd:autoParam ((x==("__classdict__" : Str))=false) æb._auto_1)(hs:autoParam (uP e) æi._auto_1) :
 PV X rl (.Subscript (.Name x px) e pos) (pO i fk):=by
 obtain⟨t,p1,k1⟩:=hk;refine⟨_,qE (by omega) (dw hN hv hd hcd) p1 hs,fun{F₀ H₀ F H σ ρ} R Qd Q ⟨kvs,e1,q⟩ h=>?_⟩;obtain⟨v,h1,h2,h3⟩:=R.sl i _ e1;obtain⟨a,xs,rfl,hh,rs⟩:=(show ∃a us,v = .ref a/\F a=some (.ext (DAt a us))/\KX X.K F us kvs from h2);refine⟨.ref a,h1,k1 R _ _ q fun v1 w1 F1 H1 g1 r1 n1 q1=>?_⟩;obtain⟨gs,d,e2,ed,q1⟩:=q1;obtain⟨b,rfl,sq⟩:=r1.keyI g1.sub e2;have rs2:=rs.mono g1.fs;rcases rs2.at gs with⟨z1,z2⟩|⟨p,v3,d3,z1,z2,z3,z4⟩
 · rw[z2]at ed;cases ed
 · rw[z2]at ed;cases ed;exact⟨a,xs,b,gs,p,v3,rfl,g1.sub _ _ (g1.fs _ _ hh),fun x m=>cr g1.sub (rs2.keys x m),rfl,sq,z1,z3,h _ (.d _) _ _ g1 z4 trivial q1⟩
noncomputable def pN(i:Nat)(fk fx:TV):AG:=fun D ρ=>∃kvs,ρ[i]?=some (some (.xm kvs))/\fx ρ fun wx=>fk ρ fun wk=>∃(g:List Int)(x:Bl),jT wk=some g/\wx = .d x/\kvs.length<sizeLine/\D.nx (ρ.set i (some (.xm (rS kvs g x))))
theorem pq(i:Nat){f:Expr}{fk fx:TV}(hu:X.A.units+64<FY)(hk:PV X rl e fk)(hx:PV X rl f fx)(hN:autoParam (X.N[i]?=some x) æa._auto_1)(hv:autoParam (AC X.env.scope x) æf._auto_1)
 (hd:autoParam ((x==("__debug__" : Str))=false) æb._auto_1)(hcd:autoParam ((x==("__classdict__" : Str))=false) æb._auto_1)(hs:autoParam (DU f (some (.Subscript (.Name x px) e pos')) pos.line X.env=pure false) æa._auto_1) :
 AV X rl (.Assign [.Subscript (.Name x px) e pos'] f pos) (pN i fk fx):=by
 obtain⟨t,p1,k1⟩:=hk;obtain⟨t2,p2,k2⟩:=hx;refine⟨_,qv (by omega) (dw hN hv hd hcd) p1 p2 hs,fun{F₀ H₀ F H σ ρ} R Dv D ok ⟨kvs,e1,q⟩=>?_⟩;obtain⟨v,h1,h2,h3⟩:=R.sl i _ e1;obtain⟨a,xs,rfl,f0,hr,hh,rs⟩:=(show mM X.K rl F H v kvs from h2);refine k2 R _ _ q fun v2 w2 F2 H2 g2 r2 n2 q2=>⟨.ref a,h1,k1 (R.grow g2) _ _ q2 fun v1 w1 F1 H1 g1 r1 n1 q3=>?_⟩;obtain⟨gs,d,e2,rfl,hz,q3⟩:=q3;obtain⟨b,rfl,sq⟩:=r1.keyI g1.sub e2;have g:=g2.trans g1;have rs1:=rs.mono g.fs;have hl:xs.length=kvs.length:=CO rs
 have sqF:AL X.K F1 b (gs.map V.int):=by
  have:=r1.keyF e2;obtain⟨b',eb,sq'⟩:=this;cases eb;exact sq'
 refine⟨a,xs,b,gs,rfl,g.same a _ hh hr,fun x m=>cr g1.sub (rs1.keys x m),rfl,sq,by omega,fun r rv=>?_⟩;exact ok.nx _ _ _ _ g.fs ((R.grow g).ownX e1 h1 (rs1.put gs sqF rv (Rep.mono g1.fs r2))) q3
end
end L2.VL
namespace L2.ZP
section
variable{prog:BE}{w:B2}{A:BX}{E:Bo->Bp->Prop}{s:Bp}{z it a:Addr}{k:Nat}{xs:Array Bo}{x p:Bo}{b:Bool}
abbrev e2(h:Heap)(b:Bool)(a:Addr):Heap:=(y1 h b a).push {cls:=.type "enumerate", data:=.fields #[.none,.bool false,.ref h.objs.size,G1 0,.none,.none]}
end
end L2.ZP
namespace L2
open PySem PySem.Spec PyProof.Rows L2.ZP
section
variable{X:Cx}{e1:Expr}{ta:TA}{elts:List Expr}{kt:Nat}{pt p pos:Pos}
end
end L2
namespace L2.VL
section
variable{X:Cx}{rl:Option Addr}{a:Expr}{elts:List Expr}{kt:Nat}{pt p pos:Pos}{fs:AF}
end
end L2.VL
namespace L2
section
variable{X:Cx}{e:Expr}{tg:Expr}{te:TE}
end
end L2
namespace L2.VL
section
variable{X:Cx}{rl:Option Addr}{a b e o i':Expr}{es:List Expr}{fa fb:TV}{fs:AF}{pos p px apos cpos:Pos}{ρ:En}{st:Stmt}{t:AG}
noncomputable def km:TV:=fun _ Q=>Q (.mk [])
theorem na:PV X rl (.Dict [] [] pos) km:=by
 refine⟨_,nL,fun R Qd Q q h p hp=>?_⟩;refine h _ (.mk []) _ _ (Grow.laid R.sub R.reel hp) ⟨p,[],rfl,R.sub.free hp,fun e=>?_,ak,.nil⟩ (fun a ea=>by cases ea;exact hp) q;obtain⟨o,z⟩:=R.reel.live e;rw[hp]at z;cases z
theorem lB:km ρ=ret (.mk []):=nr rfl
theorem VR.ownK{K:W.Frag}{ρ:En}(r:VR K rl F₀ H₀ F H σ ρ){xs ys:List (A5×Bl)}{a:Addr}{us:List (A5×V)}(e:ρ[i]?=some (some (.mk xs)))(es:σ[i]?=some (some (.ref a)))(rs:A7 K F us ys) :
 VR K rl F₀ H₀ F (upd H a (.dK us)) σ (ρ.set i (some (.mk ys))):=by
 obtain⟨v,h1,h2,h3⟩:=r.sl i _ e;rw[es]at h1;cases h1;obtain⟨a',vs,ev,f,hr,hh,q⟩:=(show mO K rl F H (.ref a) xs from h2);cases ev;have n0:H₀ a=none:=h3 a rfl;have hi:i<ρ.length:=(BG.mp e).1;have neF:∀b u,F b=some u->b≠a:=fun b u q z=>by subst z;rw[f]at q;cases q
 have g:Grow rl F₀ H₀ F (upd H a (.dK us)):=by
  refine⟨fun b o q1 n=>by rw[upd_ne (aw q1 n0)];exact r.g.same b o q1 n,r.g.fs,fun b o q1=>by rw[upd_ne (neF b o q1)];exact r.sub b o q1,r.g.old,fun y z=>?_⟩;obtain⟨z1,⟨u,h1,h2⟩⟩:=r.reel y z;exact⟨z1,⟨u,by rw[upd_ne (fun q=>hr (by rw[<- q];exact z))];exact h1,h2⟩⟩
 refine⟨g,fun j w e1=>?_,fun j k ys' zs u hjk e1 e2 w1 w2 s1 s2=>?_,fun j ys' z=>?_,by simp[r.len]⟩
 · by_cases hj:i=j
   · subst hj;rw[BK hi]at e1;cases e1;exact⟨_,es,⟨a,us,rfl,f,hr,ak,rs⟩,h3⟩
   · rw[BC hj]at e1;obtain⟨u,g1,g2,g3⟩:=r.sl j w e1;refine⟨u,g1,?_,g3⟩;have ap:w.own=true->∀b,u = .ref b->b≠a:=fun ow b eb z=>r.ap i j _ _ (.ref a) hj e e1 rfl ow es (by rw[g1,eb,z])
     cases w with
     | ml zs=>obtain⟨b,us',eb,f1,f2,f3,f4⟩:=(show jV K rl F H u zs from g2);exact⟨b,us',eb,f1,f2,by rw[upd_ne (ap rfl b eb)];exact f3,f4⟩
     | md zs=>obtain⟨b,us',eb,f1,f2,f3,f4⟩:=(show rR K rl F H u zs from g2);exact⟨b,us',eb,f1,f2,by rw[upd_ne (ap rfl b eb)];exact f3,f4⟩
     | mk zs=>obtain⟨b,us',eb,f1,f2,f3,f4⟩:=(show mO K rl F H u zs from g2);exact⟨b,us',eb,f1,f2,by rw[upd_ne (ap rfl b eb)];exact f3,f4⟩
     | xm zs=>obtain⟨b,us',eb,f1,f2,f3,f4⟩:=(show mM K rl F H u zs from g2);exact⟨b,us',eb,f1,f2,by rw[upd_ne (ap rfl b eb)];exact f3,f4⟩
     | pk zs=>exact absurd e1 (r.np j zs)
     | _=>exact g2
 · have nd:∀(j:Nat)(z:W),(ρ.set i (some (W.mk ys)))[j]?=some (some z)->z.own=true->∃z',ρ[j]?=some (some z')/\z'.own=true:=fun j zs z o=>by
     by_cases hj:i=j
     · subst hj;exact⟨_,e,rfl⟩
     · rw[BC hj]at z;exact⟨zs,z,o⟩
   obtain⟨_,d1,o1⟩:=nd j _ e1 w1;obtain⟨_,d2,o2⟩:=nd k _ e2 w2;exact r.ap j k _ _ u hjk d1 d2 o1 o2 s1 s2
 · rw[B5]at z;split at z
   · first|cases z|(split at z<;>cases z)
   · exact r.np j ys' z
noncomputable def uM:W->Option (List (A5×Bl))
 | .mk kvs=>some kvs
 | _=>none
noncomputable def zH(ρ:En)(i:Nat):Option (List (A5×Bl)):=((ρ[i]?).join).bind uM
theorem kM{kvs:List (A5×Bl)}:zH ρ i=some kvs↔ρ[i]?=some (some (.mk kvs)):=by
 unfold zH;constructor
 · intro h
   cases q:ρ[i]? with
   | none=>rw[q]at h;cases h
   | some o=>rw[q]at h;cases o with
     | none=>cases h
     | some w =>
       have h:uM w=some kvs:=h;unfold uM at h;split at h
       · cases h;rfl
       · cases h
 · intro h;rw[h];rfl
noncomputable def ko(i:Nat)(fk fx:TV):AG:=fun D ρ=>∃kvs,ρ[i]?=some (some (.mk kvs))/\fx ρ fun wx=>fk ρ fun wk=>∃k x,gJ wk=some k/\wx = .d x/\kvs.length<sizeLine/\D.nx (ρ.set i (some (.mk (putF kvs k x))))
theorem m5(i:Nat){f:Expr}{fk fx:TV}(hu:X.A.units+1<FY)(hk:PV X rl e fk)(hx:PV X rl f fx)(hN:autoParam (X.N[i]?=some x) æa._auto_1)(hv:autoParam (AC X.env.scope x) æf._auto_1)
 (hd:autoParam ((x==("__debug__" : Str))=false) æb._auto_1)(hcd:autoParam ((x==("__classdict__" : Str))=false) æb._auto_1)(hs:autoParam (DU f (some (.Subscript (.Name x px) e pos')) pos.line X.env=pure false) æa._auto_1) :
 AV X rl (.Assign [.Subscript (.Name x px) e pos'] f pos) (ko i fk fx):=by
 obtain⟨t,p1,k1⟩:=hk;obtain⟨t2,p2,k2⟩:=hx;refine⟨_,qx hu (dw hN hv hd hcd) p1 p2 hs,fun{F₀ H₀ F H σ ρ} R Dv D ok ⟨kvs,e1,q⟩=>?_⟩;obtain⟨v,h1,h2,h3⟩:=R.sl i _ e1;obtain⟨a,us,rfl,f0,hr,hh,rs⟩:=(show mO X.K rl F H v kvs from h2);refine k2 R _ _ q fun v2 w2 F2 H2 g2 r2 n2 q2=>⟨.ref a,h1,k1 (R.grow g2) _ _ q2 fun v1 w1 F1 H1 g1 r1 n1 q3=>?_⟩;obtain⟨k,d,ek,rfl,hz,q3⟩:=q3;have ev:=de ek r1;subst ev;have g:=g2.trans g1;have hl:us.length=kvs.length:=CO rs;refine⟨a,_,rfl,.inl ⟨us,k,g.same a _ hh hr,rfl,by omega,rfl⟩,?_⟩;have rs1:A7 X.K F1 us kvs:=rs.mono g.fs;exact ok.nx _ _ _ _ g.fs ((R.grow g).ownK e1 h1 (rs1.put k (Rep.mono g1.fs r2))) q3
theorem qh(i:Nat){fk fx:TV}:mS (ko i fk fx) ρ=am (zH ρ i) fun kvs=>Ax (fx ρ) fun wx=>Ax (fk ρ) fun wk=>am (gJ wk) fun k=>am (asD wx) fun x=>An (kvs.length<sizeLine) (ret (.nx (ρ.set i (some (.mk (putF kvs k x)))))):=by
 refine ae fun Q=>?_;simp only[mS,ko,af,kM,Ax,An,ret,cg];refine exists_congr fun kvs=>and_congr_right fun _=>?_;constructor
 · intro h;refine cast ?_ h;congr 1;funext x;congr 1;funext y;exact propext ⟨fun⟨a,b,c,d,e⟩=>⟨a,c,b,d,e⟩,fun⟨a,c,b,d,e⟩=>⟨a,b,c,d,e⟩⟩
 · intro h;refine cast ?_ h;congr 1;funext x;congr 1;funext y;exact propext ⟨fun⟨a,c,b,d,e⟩=>⟨a,b,c,d,e⟩,fun⟨a,b,c,d,e⟩=>⟨a,c,b,d,e⟩⟩
end
section
variable{X:Cx}{rl:Option Addr}{kx vx tg iter:Expr}{ifs:List Expr}{scope:Scope}{pos:Pos}{fi:En->(List Bl->Prop)->Prop}{g:AJ}{ft:TB}{fk fe:TV}
end
abbrev Bc:=List (A5×Bl)×Bl
section
variable{P:BE}{w:B2}{K:W.Frag}{mg:Str->Option Bo}{base:Heap}{rl:Option Addr}{x:Str}{st:Stmt}{N ps:List Str}{k:Nat}{Pd:List W->(Bc->Prop)->Prop}{t:AG}
end
section
variable{X:Cx}{rl:Option Addr}{e:Expr}{es:List Expr}{fs:AF}{pos p:Pos}{ρ:En}
end
section
variable{X:Cx}{rl:Option Addr}{a b c o e:Expr}{es:List Expr}{fa fb:TV}{fs:AF}{pos p apos cpos:Pos}{ρ:En}
end
end L2.VL
namespace L2
noncomputable def mW(h:Heap)(a:Addr)(es:Array Ed)(ep:Nat):Prop:=∃ob,h.get? a=some ob/\ob.ExactDict/\ob.data = .dict es ep
section
variable{P:BE}{w:B2}{A:BX}{E:Bo->Bp->Prop}{s:Bp}{d v it:Addr}{es:Array Ed}{ep i:Nat}
theorem mW.ty(r:mW s.heap d es ep):s.TypeIs (.ref d) "dict" := let ⟨ob,q,x,_⟩:=r;⟨ob,q,x.1⟩
end
section
variable{X:Cx}{o:Expr}{tg:Expr}{te:TE}{apos cpos:Pos}
end
end L2
namespace L2.VL
section
variable{X:Cx}{rl:Option Addr}{a b e o i':Expr}{es:List Expr}{fa fb:TV}{fs:AF}{pos p px apos cpos:Pos}{ρ:En}{st:Stmt}{t:AG}
end
end L2.VL
namespace L2
section
variable{P:BE}{w:B2}{A:BX}{E:Bo->Bp->Prop}{s:Bp}{d v it:Addr}{es:Array Ed}{ep i:Nat}
theorem kU(nd:(d==Cz)=false)(r:mW s.heap d es ep)
 (z:Q (.ref s.heap.objs.size) {s with heap:=s.heap.push {cls:=.type "dict_keyiterator", data:=.fields #[.ref d,.int 0 0,.int es.size 0,.int ep 0]}}):BS (BY P w) A (pyIter (.ref d)) Q E s:=by
 obtain⟨ob,q,x,t⟩:=id r;refine wpAny_pyIter_slot r.ty F.slot_dict_iter (Dt F.slot_dict_iter r.ty F.entry_dict_iter ?_ (F.args_dict_iter_1 _));unfold Builtin.«dict.__iter__»;refine Bm ?_;unfold Builtin.Dict.dictSlotNone;refine Bm (wpAny_notOrdered_dict r.ty ?_);show BS _ _ (pure (Ce d)) _ _ s;refine Bs ?_;show BS _ _ (FN d >>= _) _ _ s;unfold FN;rw[if_neg (by rw[nd];exact BO)];refine Bm (Bs (Bm (EX q t (Bm (FO q t ?_)))));refine Bm (CZ (Bs ⟨_,rfl, "dict_keyiterator", _,⟨_,BJ _ rfl,rfl⟩,F.slot_dict_keyiterator_next.lookup,?_⟩));simpa[G1]using z
theorem kW{x:Bo}{Q:Option Bo->Bp->Prop}(hit:s.heap.IsKeyIter it d i es.size ep)(r:mW s.heap d es ep)(hx:(es[i]?).map (·.key)=some x)
 (z:∀h',h'.IsKeyIter it d (i+1) es.size ep->DA it s.heap h'->Q (some x) {s with heap:=h' }):BS (BY P w) A (Gu (.ref it)) Q E s:=by
 obtain⟨ob,o1,o2,o3⟩:=id hit;obtain⟨od,q,x0,t⟩:=id r
 have li:i<es.size:=by
  rcases Nat.lt_or_ge i es.size with y|y
  · exact y
  · rw[Fp y]at hx;cases hx
 have ex:es[i].key=x:=by rw[Cq li]at hx;exact BW hx
 unfold Gu;refine Bm (wpAny_attempt (Fa (name:=CU "__next__") hit.typeIs F.slot_dict_keyiterator_next (Dt F.slot_dict_keyiterator_next hit.typeIs F.entry_dict_keyiterator_next ?_ (F.args_dict_keyiterator_next_1 _))));refine Bm (Bs (Bm (Bm ?_)))
 first|refine Bm (CM hit.typeIs (Bs (Bm (ET o1 o3 ?_))))|refine Bm (Dl hit.typeIs (Bs (Bm (ET o1 o3 ?_))))
 simp only[show Er "dict_keyiterator" = false by decide,CK,if_false];show BS _ _ (if(Ce d==Ci)=true then _ else _) _ _ s;rw[if_neg (show ¬((Ce d==Ci)=true)from BO)];refine Bm (Bs (Bm (EX q t ?_)));rw[if_neg (by simp)];refine Bm (Bs (Bm (FO q t ?_)));rw[if_neg (by simp)];refine Bs ?_;simp only[show ¬((i:Int)<0)from by omega,if_false,D8,Cq li];refine Bm ?_
 first|refine Bm (CM hit.typeIs (Bs (Bm (Ei hit.typeIs ?_))))|refine Bm (Dl hit.typeIs (Bs (Bm (Ei hit.typeIs ?_))))
 show BS _ _ (setField (.ref it) 1 (G1 ((i:Int)+1)) >>= _) _ _ s;refine Bm (wpAny_setField o1 o3 (by simp) ?_);have h2:(s.heap.update it (Obj.mapFields (·.setIfInBounds 1 (G1 ((i:Int)+1))))).IsKeyIter it d (i+1) es.size ep:=⟨_,Ef _ o1 (Obj.isFreed_of_fields (Obj.data_mapFields o3 _)),(Obj.cls_mapFields ..).trans o2,by rw[Obj.data_mapFields o3];simp[G1]⟩;generalize he:s.heap.update it (Obj.mapFields (·.setIfInBounds 1 (G1 ((i:Int)+1))))=h' at h2 ⊢;refine Bm (Cr (Bm (Ei (s:={s with heap:=h' }) h2.typeIs ?_)));show BS _ _ (pure es[i].key) _ _ _;rw[ex];exact Bs (Bs ⟨_,rfl,Bs (z _ h2 (he▸Gn ..))⟩)
theorem nn{Q:Option Bo->Bp->Prop}(hh:A.handled=none)(hit:s.heap.IsKeyIter it d i es.size ep)(r:mW s.heap d es ep)(hx:es.size<=i)
 (z:∀h',Heap.ExtBut it s.heap h'->Q none {s with heap:=h' }):BS (BY P w) A (Gu (.ref it)) Q E s:=by
 obtain⟨ob,o1,o2,o3⟩:=id hit;obtain⟨od,q,x0,t⟩:=id r;unfold Gu;refine Bm (wpAny_attempt (Fa (name:=CU "__next__") hit.typeIs F.slot_dict_keyiterator_next (Dt F.slot_dict_keyiterator_next hit.typeIs F.entry_dict_keyiterator_next ?_ (F.args_dict_keyiterator_next_1 _))));refine Bm (Bs (Bm (Bm ?_)))
 first|refine Bm (CM hit.typeIs (Bs (Bm (ET o1 o3 ?_))))|refine Bm (Dl hit.typeIs (Bs (Bm (ET o1 o3 ?_))))
 simp only[show Er "dict_keyiterator" = false by decide,CK,if_false];show BS _ _ (if(Ce d==Ci)=true then _ else _) _ _ s;rw[if_neg (show ¬((Ce d==Ci)=true)from BO)];refine Bm (Bs (Bm (EX q t ?_)));rw[if_neg (by simp)];refine Bm (Bs (Bm (FO q t ?_)));rw[if_neg (by simp)];refine Bs ?_;simp only[show ¬((i:Int)<0)from by omega,if_false,D8,Fp hx];refine Bm ?_
 first|refine Bm (CM hit.typeIs (Bs ?_))|refine Bm (Dl hit.typeIs (Bs ?_))
 show BS _ _ (setField (.ref it) 0 .none >>= _) _ _ s;refine Bm (wpAny_setField o1 o3 (by simp) ?_);show BS _ _ (newExc (.type "StopIteration") [] >>= _) _ _ _;refine Bm ?_;simp only[newExc,newTuple];refine Bm (CZ (Bm (m:=firstArgMember _ _) (wpAny_of_eq (a:=Ci) (by first|rfl|(simp only[firstArgMember];rfl)) (CZ ?_ (by size_fits)))) (by size_fits));simp only[raiseNew];refine Bm (wpAny_handled ?_);rw[show A.in1.handled=none from hh];refine Bm (Bs (wpAny_throw ?_));refine Bm (wpAny_isInstance (T := "StopIteration") (b:=true) ⟨_,BJ _ rfl,rfl⟩ isSubtype_stop ?_);exact Bs (z _ (((Gn ..).extBut.push _).push _))
end
open PySem PySem.Spec PyProof.Rows PySem.W
section
variable{P:BE}{w:B2}{A:BX}{E:Bo->Bp->Prop}{s:Bp}{d:Addr}{es:Array Ed}{ep:Nat}
theorem mW.at'{h':Heap}(r:mW h d es ep)(k:∀o,h.get? d=some o->h'.get? d=some o):mW h' d es ep:=let ⟨o,e,c⟩:=r;⟨o,k o e,c⟩
theorem mW.lt(r:mW h d es ep):d<h.objs.size:=let ⟨_,e,_⟩:=r;Bx e
theorem mY(hh:A.handled=none)(I:Addr)(hne:d≠I)(es:Array Ed)(ep:Nat) :
 Walks P w A I [I,d] [I] es.size (fun i v=>(es[i]?).map (·.key)=some v) (fun i h=>h.IsKeyIter I d i es.size ep/\mW h d es ep) where
 sub:=fun b hb=>by simp at hb;simp[hb]
 frame:=fun _ _ _ st hk=>⟨(let ⟨o,ho,r⟩:=st.1;⟨o,hk I (by simp) o ho,r⟩),st.2.at' fun o e=>hk d (by simp) o e⟩
 item:=fun i s Q E hi st hQ=>by
  have hx:(es[i]?).map (·.key)=some (es[i]'hi).key:=by rw[Cq hi];rfl
  refine kW st.1 st.2 hx fun h' hit' hs'=>hQ _ h' s.toks hx ⟨hit',st.2.at' fun o e=>hs'.extBut d o hne e⟩ fun b o hb e=>hs'.extBut b o (fun h=>hb (by simp[h])) e
 done:=fun s Q E st hQ=>nn hh st.1 st.2 (By _) fun h' he'=>hQ h' s.toks fun b o hb e=>he' b o (fun h=>hb (by simp[h])) e
 self:=fun _ _ _ _ st hQ=>wpAny_pyIter_keyiter st.1 hQ
theorem pY(lo:(d==Cz)=false)(es:Array Ed)(ep:Nat):KdlSrc P w "dict" d d es.size (fun i v=>(es[i]?).map (·.key)=some v) (fun h=>mW h d es ep) where
 type:=fun _ hm=>hm.ty
 there:=fun _ hm=>⟨hm.lt,hm.lt⟩
 keep:=fun _ _ hm hk=>hm.at' fun o e=>hk d (.inl rfl) o e
 notList:=by decide
 notTuple:=by decide
 hint:=fun _ _ _ _ hm hq=>kdl_hint_dict hm.ty hq
 iter:=fun _ _ hh hm=>⟨_,_,(fun _ _ hq=>kU lo hm hq),mY hh _ (BV hm.lt) es ep,⟨⟨_,BJ _ rfl,rfl,rfl⟩,hm.at' fun o e=>Bn _ e⟩⟩
end
theorem rF{P:BE}{w:B2}{xs:List (List Int×Addr×Bo)}(p:VL.DAt a xs h):∃(es:Array Ed)(ep:Nat),mW h a es ep/\es.size=xs.length/\(∀i:Nat,(es[i]?).map (·.key)=(xs[i]?).map fun u=>Ce u.2.1)/\(a==Cz)=false/\xs.length<=sizeLine:=by
 obtain⟨o,es,ep,h1,h2,h3,h4,h5,h6,h7⟩:=p;have e:=h4 P w;refine⟨es,ep,⟨o,h1,h2,h3⟩,by rw[<- Cg,e,Bu],fun i=>?_,h6,h7⟩;rw[<- Eg,e,Cd,Gc];rfl
theorem fU:∀{us:List (List Int×Addr×Bo)}{its:List Bo},its.length=us.length->(∀(i:Nat)(v:Bo),its[i]?=some v->(us[i]?).map (fun u=>Ce u.2.1)=some v)->bp (us.map fun u=>V.ref u.2.1) its
 | [],[],_,_=>.nil
 | u::us,[],h,_=>by cases h
 | [],v::its,h,_=>by cases h
 | u::us,v::its,h,k=>.cons (by have:=k 0 v rfl;simp at this;exact this.symm) (fU (by simpa using h) fun i w e=>by simpa using k (i+1) w (by simpa using e))
theorem jQ(hc:X.calm=true):ca X (.type "list") (fun xs H Q=>∃a us,xs=[.ref a]/\H a=some (.ext (VL.DAt a us))/\∀l,H l=none->Q (.ref l) (upd H l (.lst (us.map fun u=>V.ref u.2.1)))):=by
 intro pins s σ H xs vs Q I r ⟨a,us,ex,e,q⟩;subst ex;obtain⟨u,rfl,rx⟩:=vals1 r;cases rx;obtain⟨p,_⟩:=(show bI X.prog X.w H s.heap a (.ext (VL.DAt a us))from I.hok a _ e);obtain⟨es,ep,dr,hz,hk,lo,hl⟩:=rF (P:=X.prog) (w:=X.w) p;refine W.kdl_call (pY lo es ep) (I.ok.hd hc) dr (by omega) fun h' tk acc c' kp en it=>?_;refine⟨.ref s.heap.objs.size,_,I.laid (t':=tk) (o:=.lst (us.map fun u=>V.ref u.2.1)) kp (By _) ⟨by rw[Bu];exact hl,acc.toList,c',fU (by rw[Cg,it.1,hz]) fun i v e=>?_,by rw[F7];exact en⟩,rfl,q _ (I.hok.fresh (By _))⟩;rw[<- hk];exact it.2 i v (by rw[<- Eg];exact e)
end L2
namespace L2.VL
noncomputable def kI(k:List Int):Bl:=.tuple (k.map .int)
theorem KX.reps{K:W.Frag}{F:Hp}:∀{us:List (List Int×Addr×Bo)}{kvs:List (List Int×Bl)},KX K F us kvs->Reps K F (us.map fun u=>V.ref u.2.1) (kvs.map fun p=>kI p.1)
 | _,_,.nil=>.nil
 | _,_,.cons h t=>.cons (.tup h.2.1 (h.1▸fB)) (KX.reps t)
section
variable{X:Cx}{rl:Option Addr}{a b c o e:Expr}{es:List Expr}{fa fb fk fx:TV}{fs:AF}{pos p px apos cpos:Pos}{ρ:En}
noncomputable def uI:W->Option (List (List Int×Bl))
 | .xr kvs=>some kvs
 | _=>none
theorem mH:uI w=some kvs↔w = .xr kvs:=by cases w<;>simp[uI]
theorem ph(kvs:List (List Int×Bl)):uI (.xr kvs)=some kvs:=rfl
noncomputable def uJ:W->Option (List (List Int×Bl))
 | .xm kvs=>some kvs
 | _=>none
theorem rM:uJ w=some kvs↔w = .xm kvs:=by cases w<;>simp[uJ]
noncomputable def zF(ρ:En)(i:Nat):Option (List (List Int×Bl)):=((ρ[i]?).join).bind uJ
theorem kL:zF ρ i=some kvs↔ρ[i]?=some (some (.xm kvs)):=by
 unfold zF;rcases ρ[i]? with _|_|w<;>simp[rM]
noncomputable def uU(ρ:En)(i:Nat):Option (List (List Int×Bl)):=((ρ[i]?).join).bind uI
theorem p7:uU ρ i=some kvs↔ρ[i]?=some (some (.xr kvs)):=by
 unfold uU;rcases ρ[i]? with _|_|w<;>simp[mH]
theorem lA:kj ρ=ret (.xm []):=nr rfl
theorem nT(i:Nat):ke i fk fx ρ=am (zF ρ i) fun kvs=>Ax (fk ρ) fun wk=>Ax (fx ρ) fun wx=>am (jT wk) fun g=>am (asD wx) fun x=>ret (.d ((mQ kvs g).getD x)):=by
 refine ae fun Q=>?_;simp only[ke,af,kL,Ax,ret,cg];refine exists_congr fun kvs=>and_congr_right fun _=>?_;constructor
 · intro h;refine cast ?_ h;congr 1;funext x;congr 1;funext y;exact propext ⟨fun⟨a,b,c,d,e⟩=>⟨a,c,b,d,e⟩,fun⟨a,c,b,d,e⟩=>⟨a,b,c,d,e⟩⟩
 · intro h;refine cast ?_ h;congr 1;funext x;congr 1;funext y;exact propext ⟨fun⟨a,c,b,d,e⟩=>⟨a,b,c,d,e⟩,fun⟨a,b,c,d,e⟩=>⟨a,c,b,d,e⟩⟩
theorem qN(i:Nat):pO i fk ρ=am (uU ρ i) fun kvs=>Ax (fk ρ) fun wk=>am (jT wk) fun g=>am (mQ kvs g) fun x=>ret (.d x):=by
 refine ae fun Q=>?_;simp only[pO,af,p7,Ax,ret];refine exists_congr fun kvs=>and_congr_right fun _=>?_;constructor
 · intro h;refine cast ?_ h;congr 1;funext x;exact propext ⟨fun⟨a,b,c,d,e⟩=>⟨a,c,b,d,e⟩,fun⟨a,c,b,d,e⟩=>⟨a,b,c,d,e⟩⟩
 · intro h;refine cast ?_ h;congr 1;funext x;exact propext ⟨fun⟨a,c,b,d,e⟩=>⟨a,b,c,d,e⟩,fun⟨a,b,c,d,e⟩=>⟨a,c,b,d,e⟩⟩
theorem qf(i:Nat):mS (pN i fk fx) ρ=am (zF ρ i) fun kvs=>Ax (fx ρ) fun wx=>Ax (fk ρ) fun wk=>am (jT wk) fun g=>am (asD wx) fun x=>An (kvs.length<sizeLine) (ret (.nx (ρ.set i (some (.xm (rS kvs g x)))))):=by
 refine ae fun Q=>?_;simp only[mS,pN,af,kL,Ax,ret,cg,An];refine exists_congr fun kvs=>and_congr_right fun _=>?_;constructor
 · intro h;refine cast ?_ h;congr 1;funext x;congr 1;funext y;exact propext ⟨fun⟨a,b,c,d,e,f⟩=>⟨a,c,b,d,e,f⟩,fun⟨a,c,b,d,e,f⟩=>⟨a,b,c,d,e,f⟩⟩
 · intro h;refine cast ?_ h;congr 1;funext x;congr 1;funext y;exact propext ⟨fun⟨a,c,b,d,e,f⟩=>⟨a,b,c,d,e,f⟩,fun⟨a,b,c,d,e,f⟩=>⟨a,c,b,d,e,f⟩⟩
theorem qg(i:Nat){t:AG}:mS (pS i t) ρ=am (zF ρ i) fun xs=>mS t (ρ.set i (some (.xr xs))):=by
 refine ae fun Q=>?_;simp only[mS,pS,af,kL]
theorem vf(kvs:List (List Int×Bl)):(W.xr kvs).peek.fz = .xr kvs:=rfl
noncomputable def l0:List W->(W->Prop)->Prop:=fun ws Q=>∃kvs,ws=[.xr kvs]/\Q (.d (.list (kvs.map fun p=>kI p.1)))
theorem m9(hc:X.calm=true)(hm:X.mg "list" = none)(ha:AS X rl [a] fs)(hg:autoParam (Gl X "list") æa._auto_1)(he:autoParam (BF [a] X.env=(false,eval a X.env)::BF [] X.env) æa._auto_1)(hpl:autoParam ((Dj pos (BF [] X.env)).any (·.1)=false) æa._auto_1) :
 PV X rl (.Call (.Name "list" p) [a] [] pos) (cp l0 fs):=by
 refine iP (jQ hc) (fun{F H vs ws} Qd Q s ra r ⟨kvs,ew,q⟩ k=>?_) hm (by rfl) ha hg (by decide) (by decide) he hpl;subst ew;obtain⟨v,rfl,b,us,rfl,hb,rk⟩:=jS r;refine⟨b,us,rfl,s _ _ hb,fun l hl=>?_⟩;have g:=Grow.data (a:=l) (o:=.lst (us.map fun u=>V.ref u.2.1)) s ra hl;exact k _ (.d _) _ _ g (Rep.lst ak (rk.reps.mono g.fs)) trivial q
theorem nV(w:W):l0 [w]=am (uI w) fun kvs=>ret (.d (.list (kvs.map fun p=>kI p.1))):=by
 refine ae fun Q=>?_;simp only[l0,af,mH,ret,BN,and_true]
end
end L2.VL
namespace L2
section
variable{X:Cx}{o e f:Expr}{apos cpos:Pos}{td ty tx:TE}
noncomputable def sR(td ty tx:TE):TE:=fun σ H Q=>td σ H fun x H1=>∃a kvs,x = .ref a/\Rd H1 a (.dK kvs)/\ty σ H1 fun y H2=>tx σ H2 fun z H3=>∃kvs k,y=kV k/\Rd H3 a (.dK kvs)/\Q ((hE kvs k).getD z) H3
theorem nM(ho:PE X o td)(he:PE X e ty)(hf:PE X f tx)(m:M2 X o "get" apos e f cpos):PE X (.Call (.Attribute o "get" apos) [e,f] [] cpos) (sR td ty tx):=by
 intro pins s σ H Q I h;refine wpAny_Call_method m.base m.few m.line E9 DG FM (zr (ho pins s σ H _ I h) fun u s1 ⟨x,H1,I1,rx,a,kvs1,ex,d,q1⟩=>?_);subst ex;obtain rfl:u=Ce a:=rx;obtain⟨_,hd1,vs1,jS,dd1⟩:=jM I1.hok d;refine⟨dd1.typeIs,fun b q=>(by cases q;obtain⟨ep,ob,_,h1,h2,_⟩:=dd1.dictAt;exact⟨ob,h1,h2.2.1⟩),?_⟩;rw[m.trees]
 refine Fm rfl (F8 (Dw (zr (he pins s1 σ H1 _ I1 q1) fun iv s2 ⟨y,H2,I2,ry,q2⟩ =>
  Dw (zr (hf pins s2 σ H2 _ I2 q2) fun fv s3 ⟨z,H3,I3,rz,kvs,k,ey,ea,q3⟩=>EV ?_))))
 subst ey;obtain⟨z,hd,vs,rel,dd⟩:=jM I3.hok ea;refine call_meetsIn DG dd.typeIs Fo (E_ _ _ _) (meets_dict_get_default (aV X.prog X.w) a (lM ry) hd fv) ⟨_,dd.mapOf,⟨_,H3,I3.tok _,?_,q3⟩⟩;exact(rel.val k).getD rz
end
end L2
namespace L2.VL
theorem VR.frzKd{K:W.Frag}(r:VR K rl F₀ H₀ F H σ ρ){xs:List (A5×Bl)}(e:ρ[i]?=some (some (.mk xs))):∃F1,a_ F F1/\VR K rl F₀ H₀ F1 H σ (ρ.set i (some (.fd xs))):=by
 obtain⟨v,h1,h2,h3⟩:=r.sl i _ e;obtain⟨a,vs,ev,f,hr,hh,q⟩:=(show mO K rl F H v xs from h2);have neF:∀b u,F b=some u->b≠a:=fun b u q z=>by subst z;rw[f]at q;cases q
 have fsm:a_ F (upd F a (.dK vs)):=fun b u z=>by rw[upd_ne (neF b u z)];exact z
 have hi:i<ρ.length:=(BG.mp e).1;refine⟨upd F a (.dK vs),fsm,r.g.freeze (h3 a ev) hh f hr,fun j w e1=>?_,fun j k ys' zs u hjk e1 e2 w1 w2 s1 s2=>?_,fun j ys' z=>?_,by simp[r.len]⟩
 · by_cases hj:i=j
   · subst hj;rw[BK hi]at e1;cases e1;exact⟨v,h1,⟨a,vs,ev,ak,Cf.mapP q fun _ _ z=>⟨z.1,z.2.mono fsm⟩⟩,trivial⟩
   rw[BC hj]at e1;obtain⟨u,g1,g2,g3⟩:=r.sl j w e1;refine⟨u,g1,?_,g3⟩
   cases w with
   | d x=>exact Rep.mono fsm g2
   | reel=>exact g2
   | vv u=>exact g2
   | ml ys =>
     obtain⟨b,us,eb,f1,f2,f3,f4⟩:=(show jV K rl F H u ys from g2);have ne:b≠a:=fun z=>r.ap i j _ _ v hj e e1 rfl rfl h1 (by rw[g1,eb,z,ev])
     exact⟨b,us,eb,by rw[upd_ne ne];exact f1,f2,f3,f4.mono fsm⟩
   | pk ys=>exact absurd e1 (r.np j ys)
   | md ys =>
     obtain⟨b,us,eb,f1,f2,f3,f4⟩:=(show rR K rl F H u ys from g2);have ne:b≠a:=fun z=>r.ap i j _ _ v hj e e1 rfl rfl h1 (by rw[g1,eb,z,ev])
     exact⟨b,us,eb,by rw[upd_ne ne];exact f1,f2,f3,Cf.mapP f4 fun _ _ z=>⟨z.1,z.2.mono fsm⟩⟩
   | mk ys =>
     obtain⟨b,us,eb,f1,f2,f3,f4⟩:=(show mO K rl F H u ys from g2);have ne:b≠a:=fun z=>r.ap i j _ _ v hj e e1 rfl rfl h1 (by rw[g1,eb,z,ev])
     exact⟨b,us,eb,by rw[upd_ne ne];exact f1,f2,f3,Cf.mapP f4 fun _ _ z=>⟨z.1,z.2.mono fsm⟩⟩
   | xm ys =>
     obtain⟨b,us,eb,f1,f2,f3,f4⟩:=(show mM K rl F H u ys from g2);have ne:b≠a:=fun z=>r.ap i j _ _ v hj e e1 rfl rfl h1 (by rw[g1,eb,z,ev])
     exact⟨b,us,eb,by rw[upd_ne ne];exact f1,f2,f3,KX.mono f4 fsm⟩
   | nt ds=>obtain⟨b,us,eb,f1,f2⟩:=g2;exact⟨b,us,eb,fsm _ _ f1,f2.mono fsm⟩
   | lk=>trivial
   | sc ns=>obtain⟨b,eb,f1⟩:=g2;exact⟨b,eb,kP fsm f1⟩
   | fd kvs=>obtain⟨b,us,eb,f1,f2⟩:=g2;exact⟨b,us,eb,fsm _ _ f1,Cf.mapP f2 fun _ _ z=>⟨z.1,z.2.mono fsm⟩⟩
   | xr kvs=>obtain⟨b,us,eb,f1,f2⟩:=g2;exact⟨b,us,eb,fsm _ _ f1,KX.mono f2 fsm⟩
   | fw kvs=>obtain⟨b,us,o,eb,f1,f2⟩:=g2;exact⟨b,us,o,eb,fsm _ _ f1,Cf.mapP f2 fun _ _ z=>⟨z.1,z.2.mono fsm⟩⟩
   | ft kvs=>obtain⟨b,us,o,eb,f1,f2⟩:=g2;exact⟨b,us,o,eb,fsm _ _ f1,Cf.mapP f2 fun _ _ z=>⟨z.1,z.2.mono fsm⟩⟩
   | xc _ _=>obtain⟨b,dx,us,C,eb,n,f1,f3,f2⟩:=g2;exact⟨b,dx,us,C,eb,n,fsm _ _ f1,fsm _ _ f3,Cf.mapP f2 fun _ _ z=>⟨z.1,z.2.mono fsm⟩⟩
   | dp _ _=>obtain⟨c,b,us,u,o,eb,f1,f3,f2,z⟩:=g2;exact⟨c,b,us,u,o,eb,fsm _ _ f1,fsm _ _ f3,Cf.mapP f2 fun _ _ z=>⟨z.1,z.2.mono fsm⟩,z.mono fsm⟩
 · have nd:∀(j:Nat)(y:W),(ρ.set i (some (W.fd xs)))[j]?=some (some y)->y.own=true->ρ[j]?=some (some y):=fun j y z o=>by
     by_cases hj:i=j
     · subst hj;rw[BK hi]at z;cases z;cases o
     · rw[BC hj]at z;exact z
   exact r.ap j k _ _ u hjk (nd j _ e1 w1) (nd k _ e2 w2) w1 w2 s1 s2
 · rw[B5]at z;split at z
   · first|cases z|(split at z<;>cases z)
   · exact r.np j ys' z
section
variable{X:Cx}{rl:Option Addr}{st:Stmt}{t:AG}{e f:Expr}{fk fx:TV}{pos p px apos cpos:Pos}{ρ:En}
noncomputable def kh(i:Nat)(t:AG):AG:=fun D ρ=>∃xs,ρ[i]?=some (some (.mk xs))/\t D (ρ.set i (some (.fd xs)))
theorem mZ(i:Nat)(h:AV X rl st t):AV X rl st (kh i t):=by
 obtain⟨T,p,k⟩:=h;refine⟨T,p,fun R Dv D ok ⟨xs,e,q⟩=>?_⟩;obtain⟨F1,s1,R1⟩:=R.frzKd e;exact k R1 Dv D (ok.on s1) q
noncomputable def kg(i:Nat)(fk fx:TV):TV:=fun ρ Q=>∃kvs,ρ[i]?=some (some (.mk kvs))/\fk ρ fun wk=>fx ρ fun wx=>∃(g:A5)(x:Bl),gJ wk=some g/\wx = .d x/\Q (.d ((c6 kvs g).getD x))
theorem pJ(i:Nat)(hk:PV X rl e fk)(hx:PV X rl f fx)(hN:autoParam (X.N[i]?=some x) æa._auto_1)(hv:autoParam (AC X.env.scope x) æf._auto_1)
 (hd:autoParam ((x==("__debug__" : Str))=false) æb._auto_1)(hcd:autoParam ((x==("__classdict__" : Str))=false) æb._auto_1)(m:autoParam (M2 X (.Name x px) "get" apos e f cpos) æj._auto_1) :
 PV X rl (.Call (.Attribute (.Name x px) "get" apos) [e,f] [] cpos) (kg i fk fx):=by
 obtain⟨t,p1,k1⟩:=hk;obtain⟨t2,p2,k2⟩:=hx;refine⟨_,nM (dw hN hv hd hcd) p1 p2 m,fun{F₀ H₀ F H σ ρ} R Qd Q ⟨kvs,e1,q⟩ h=>?_⟩;obtain⟨v,h1,h2,h3⟩:=R.sl i _ e1;obtain⟨a,us,rfl,f0,hr,hh,rs⟩:=(show mO X.K rl F H v kvs from h2);refine⟨.ref a,h1,a,us,rfl,.inl hh,k1 R _ _ q fun v1 w1 F1 H1 g1 r1 n1 q1=>?_⟩;refine k2 (R.grow g1) _ _ q1 fun v2 w2 F2 H2 g2 r2 n2 q2=>?_;obtain⟨k,d,e2,rfl,q2⟩:=q2;have ev:=de e2 r1;subst ev;have g:=g1.trans g2;have rs2:A7 X.K F2 us kvs:=rs.mono g.fs;refine⟨us,k,rfl,.inl (g.same a _ hh hr),?_⟩;rcases rs2.val k with⟨z1,z2⟩|⟨v3,d3,z1,z2,z3⟩
 · rw[z1];rw[z2]at q2;exact h _ (.d d) _ _ g r2 trivial q2
 · rw[z1];rw[z2]at q2;exact h _ (.d d3) _ _ g z3 trivial q2
theorem nU(i:Nat):kg i fk fx ρ=am (zH ρ i) fun kvs=>Ax (fk ρ) fun wk=>Ax (fx ρ) fun wx=>am (gJ wk) fun g=>am (asD wx) fun x=>ret (.d ((c6 kvs g).getD x)):=by
 refine ae fun Q=>?_;simp only[kg,af,kM,Ax,ret,cg];refine exists_congr fun kvs=>and_congr_right fun _=>?_;constructor
 · intro h;refine cast ?_ h;congr 1;funext x;congr 1;funext y;exact propext ⟨fun⟨a,b,c,d,e⟩=>⟨a,c,b,d,e⟩,fun⟨a,c,b,d,e⟩=>⟨a,b,c,d,e⟩⟩
 · intro h;refine cast ?_ h;congr 1;funext x;congr 1;funext y;exact propext ⟨fun⟨a,c,b,d,e⟩=>⟨a,b,c,d,e⟩,fun⟨a,b,c,d,e⟩=>⟨a,c,b,d,e⟩⟩
theorem nj(i:Nat):mS (kh i t) ρ=am (zH ρ i) fun xs=>mS t (ρ.set i (some (.fd xs))):=by
 refine ae fun Q=>?_;simp only[mS,kh,af,kM]
end
end L2.VL
namespace L2
section
variable{X:Cx}{e:Expr}{te:TE}{pos px py:Pos}{x y:Str}
noncomputable def vU(te:TE)(g g':TG):TS:=fun D σ H=>te σ H fun v H1=>g v σ H1 fun σ2 H2=>g' v σ2 H2 D.nx
theorem qw{g g':TG}(he:PE X e te)(hg:PG X (.Name x px) g)(hg':PG X (.Name y py) g')
 (hw:autoParam (DT [.Name x px,.Name y py] e X.env=pure none) æa._auto_1)(h1:autoParam ((C8 [.Name x px,.Name y py] X.env).map (·.2)=[Ew (.Name x px) X.env,Ew (.Name y py) X.env]) æa._auto_1) :
 PS X (.Assign [.Name x px,.Name y py] e pos) (vU te g g'):=by
 intro pins s σ H D I h;refine wpAny_Assign_two (zr (he pins s σ H _ I h) fun v s1 ⟨u,H1,I1,r1,q1⟩=>zr (hg pins s1 σ H1 u v _ I1 r1 q1) fun _ s2 ⟨σ2,H2,I2,q2⟩=>?_) h1 hw;exact zr (hg' pins s2 σ2 H2 u v _ I2 r1 q2) fun _ s3 q=>q
end
end L2
namespace L2.VL
section
variable{X:Cx}{rl:Option Addr}{e:Expr}{fa:TV}{pos px py:Pos}{x y:Str}{ρ:En}
noncomputable def pP(i j:Nat)(fa:TV):AG:=fun D ρ=>fa ρ fun w=>∃d,w = .d d/\D.nx ((ρ.set i (some (.d d))).set j (some (.d d)))
theorem pA(i j:Nat)(hN:X.N.Nodup)(he:PV X rl e fa)(hi:autoParam (X.N[i]?=some x) æa._auto_1)(hj:autoParam (X.N[j]?=some y) æa._auto_1)(hx:autoParam (Loc X.env.scope x) æd._auto_1)(hy:autoParam (Loc X.env.scope y) æd._auto_1)
 (hw:autoParam (DT [.Name x px,.Name y py] e X.env=pure none) æa._auto_1)(h1:autoParam ((C8 [.Name x px,.Name y py] X.env).map (·.2)=[Ew (.Name x px) X.env,Ew (.Name y py) X.env]) æa._auto_1) 
 (hf:autoParam (X.fn x=true\/X.env.scope.names.lookup x=some .local) æe._auto_1)(hf':autoParam (X.fn y=true\/X.env.scope.names.lookup y=some .local) æe._auto_1) :
 AV X rl (.Assign [.Name x px,.Name y py] e pos) (pP i j fa):=by
 obtain⟨t,p,k⟩:=he;refine⟨_,qw p (ie hN hi hx hf) (ie hN hj hy hf') hw h1,fun R Dv D ok q=>k R _ _ q fun v w F1 H1 g1 r1 n1 ⟨d,ew,q1⟩=>?_⟩;subst ew;have R1:=R.set g1 r1 n1 (fun xs z=>by cases z) i;exact ok.nx _ _ _ _ g1.fs (R1.set (Grow.refl R1.sub R1.reel) r1 trivial (fun xs z=>by cases z) j) q1
theorem s0(i j:Nat):mS (pP i j fa) ρ=Ax (fa ρ) fun w=>am (asD w) fun d=>ret (.nx ((ρ.set i (some (.d d))).set j (some (.d d)))):=by
 refine ae fun Q=>?_;simp only[mS,pP,Ax,af,cg,ret]
end
end L2.VL
namespace K51
open PySem PySem.Spec PyProof.Rows L2 L2.VL
set_option bootstrap.genMatcherCode true in
local macro_rules | `(tactic| simp_arith only [$xs,*])=>`(tactic| simp (maxSteps:=2000000) (disch:=(first | assumption | omega | decide)) only [wT,wW,wZ,wY,wX,wM,wL,wP,wO,wN,wV,wU,wS,wR,wQ,ve,zJ,zG,cV,cc,fR,W.cap,z9,List.replicate,id,↓reduceIte,if_true,Nat.reduceAdd,Nat.reduceSub,Nat.reduceLeDiff,Int.cast_ofNat_Int,Int.reduceBEq,Int.reduceSub,Int.reduceAdd,Int.reduceLT,Int.reduceLE,Int.reduceMul,Int.reduceNeg,reduceCtorEq,gN,$xs,*])
set_option bootstrap.genMatcherCode true in
local macro_rules | `(tactic| simp_arith only [$xs,*] at $h:ident)=>`(tactic| simp only [List.cons.injEq,W.d.injEq,PyData.int.injEq,PyData.bool.injEq,PyData.str.injEq,PyData.list.injEq,PyData.tuple.injEq,iQ,nW,nh,cw,and_true,true_and,reduceCtorEq,$xs,*] at $h:ident)
section
variable{P:BE}{w:B2}{K:CW}{mg:Str->Option Bo}{base:Heap}{rl:Option Addr}
noncomputable def uW(ws:List W):Prop:=∃ns:List Int,ws=[.sc ns]/\ns.length<=63
theorem uW.eq(h:ns.length<=63):uW [.sc ns]=True:=propext ⟨fun _=>trivial,fun _=>⟨ns,rfl,h⟩⟩
theorem gq:FnScope ["_law_script"] ["_law_script"] (defScope (zp 29)):=⟨rfl,rfl,rfl,by decide +kernel,rfl,by decide +kernel,by decide +kernel⟩
theorem d__law_feed(Fn:FnIn K mg "_law_feed" (zp 29) ["_law_script"])(Z:Bz mg):DfnR P w K mg base "_law_feed" ["_law_script"] 1 uW:=by
 obtain⟨f,fd,hm,Ff,hb⟩:=Fn.ex;refine⟨f,fd,hm,Ff.kp,hb,?_⟩;refine Ff.ok gq (fun vs H Q E h=>?_) (fun cdv A outer s H vs Q E hr h=>?_)
 · obtain⟨F,ws,_,r,_,⟨ns,rfl,_⟩,_⟩:=h;have:=CO r;simpa using this
 · obtain⟨F,ws,sm,r,ao,⟨ns,rfl,hl⟩,k⟩:=h;obtain⟨v,rfl,⟨a,rfl,hS⟩⟩:=jS r;refine⟨_,cv (iW (oY (bC (gE gW rfl Z.list_ (by rfl) (bC (nG p6 (pv 0) qA (qz au)) c4)) (bC au (bC au (bC au c4)))))),?_⟩;refine⟨_,rfl,63,rfl,a,ns.map V.int,rfl,kP sm hS,fun q hq=>?_⟩;refine⟨q,_,rfl,.inl (.inl (.inl ak)),fun c hc=>?_⟩;refine⟨(by show 4<=sizeLine;decide),fun p hp=>?_⟩;rw[oz hl]at *;have hcq:c≠q:=fun z=>by rw[z,ak]at hc;cases hc
   have hpc:p≠c:=fun z=>by rw[z,ak]at hp;cases hp
   have hpq:p≠q:=fun z=>by rw[z,upd_ne hcq.symm,ak]at hp;cases hp
   have hp0:H p=none:=by
    have:=hp;rw[upd_ne hpc,upd_ne hpq]at this;exact this
   have hc0:H c=none:=by
    have:=hc;rw[upd_ne hcq]at this;exact this
   have fc:F c=none:=sm.free hc0;have fp:F p=none:=sm.free hp0;have fq:F q=none:=sm.free hq;have nF:∀b u,F b=some u->b≠c/\b≠p/\b≠q:=fun b u e=>⟨(fun z=>by subst z;rw[fc]at e;cases e),(fun z=>by subst z;rw[fp]at e;cases e),(fun z=>by subst z;rw[fq]at e;cases e)⟩;have nH:∀b u,H b=some u->b≠c/\b≠p/\b≠q:=fun b u e=>⟨aw e hc0,aw e hp0,aw e hq⟩;refine k p (upd F c (.lst (ns.map V.int))) _ hp0 ⟨fun b o e _=>?_,fun b o e=>?_,fun b o e=>?_,fun b o e=>?_,fun _ z=>by cases z⟩ (fun r e=>?_)
   · obtain⟨n1,n2,n3⟩:=nH b o e;rw[upd_ne n2,upd_ne n1,upd_ne n3];exact e
   · rw[upd_ne (nF b o e).1];exact e
   · by_cases hb:b=c
     · subst hb;rw[ak]at e;rw[upd_ne hpc.symm,ak];exact e
     · rw[upd_ne hb]at e;obtain⟨n1,n2,n3⟩:=nF b o e;rw[upd_ne n2,upd_ne n1,upd_ne n3];exact sm b o e
   · rw[upd_ne (nH b o e).1]
   · cases e;exact⟨by rw[upd_ne hpc];exact fp,⟨_,ak,c,ns,0,0,0,rfl,ak,hl,by decide,by decide,by decide⟩⟩
theorem fg.eq(m:Int)(hm:0<m)(hb:m<2^60):fg [.reel,.d (.int m)]=Ax (anyM fun k:Int=>0<=k/\k<m) fun k=>VL.ret (.int k:Bl):=by
 refine ae fun Q=>⟨?_,fun q_=>⟨m,rfl,hm,hb,fun k a b=>q_ k ⟨a,b⟩⟩⟩;rintro⟨m',e_,_,_,q_⟩;simp only[BN,W.d.injEq,DQ,and_true,true_and]at e_;subst e_;exact fun k h=>q_ k h.1 h.2
theorem p__law_draw.eq(m:Int)(hm:0<m)(hb:m<2^60):fg [.reel,.d (.int m)]=Ax (anyM fun k:Int=>0<=k/\k<m) fun k=>VL.ret (.int k:Bl):=fg.eq m hm hb
theorem gr:FnScope ["_law_feed_here", "_law_many", "_law_found", "_law_cell", "_law_stirred"] ["_law_feed_here", "_law_many"] (defScope (zp 30)):=⟨rfl,rfl,rfl,by decide +kernel,rfl,by decide +kernel,by decide +kernel⟩
theorem d__law_draw(Fn:FnIn K mg "_law_draw" (zp 30) ["_law_feed_here", "_law_many"])(Z:Bz mg):Dfn P w K mg base rl "_law_draw" ["_law_feed_here", "_law_many"] 2 fg:=by
 have sc:=gr;refine Dfn.hand Fn sc fg.mono fg.len ?_;intro f cdv A outer s H E vs ws F Q Qv hr sm ra rw' hq fin;obtain⟨m,rfl,hm,hb,q⟩:=hq;have hm0:m≠0:=by omega
 have hmd:∀i:Int,cB i m:=fun i=>cB.of hm0 (by omega);obtain⟨v,u,rfl,⟨r,er,ev⟩,r2⟩:=v7 rw';subst ev er;have eu:=aM r2;subst eu;obtain⟨fr,⟨o,ho,c,ns,a,l,t,rfl,hc,hl,ha,hl0,ht⟩⟩:=ra r rfl;have hcr:c≠r:=fun z=>by rw[z,fr]at hc;cases hc
 have hcH:H c=some (.lst (ns.map V.int)):=sm _ _ hc
 have out:∀(k a l t:Int),0<=k->k<m->0<=a->0<=l->0<=t->Qv (.int k) (upd H r (Av c a l t)):=fun k a l t h1 h2 h3 h4 h5 =>
  fin _ F _ (.int k) (Grow.turn sm ra ⟨c,ns,a,l,t,rfl,hc,hl,h3,h4,h5⟩) (.int k) (q k h1 h2)
 have g0:∀{a l t:Int},(upd H r (Av c a l t)) r=some (.lst [.ref c,.int a,.int l,.int t]):=ak;have gc:∀{a l t:Int},(upd H r (Av c a l t)) c=some (.lst (ns.map V.int)):=by intro a l t;rw[upd_ne hcr];exact hcH
 have i0:∀{x0 x1 x2 x3:V},L2.atI [x0,x1,x2,x3] 0=some x0:=rfl;have i1:∀{x0 x1 x2 x3:V},L2.atI [x0,x1,x2,x3] 1=some x1:=rfl;have i2:∀{x0 x1 x2 x3:V},L2.atI [x0,x1,x2,x3] 2=some x2:=rfl;have i3:∀{x0 x1 x2 x3:V},L2.atI [x0,x1,x2,x3] 3=some x3:=rfl;have fm:∀i:Int,0<=i.fmod m/\i.fmod m<m:=fun i=>⟨Co _ hm,Dd _ hm⟩
 refine⟨_,(aZ (gB (bW eA (bO aY (pv 0) au (fun _ _=>rfl)) au) (iY (pv 0) au c_))
  (aZ (iV C4 (oX (cS t4 (bO aY (pv 0) au (fun _ _=>rfl)) au (aO _)) (k8 (cS fu (bO aY (pv 0) au (fun _ _=>rfl)) (b_ bM (by rfl) Z.len_ (by rfl) (bC (bO aY (pv 0) au (fun _ _=>rfl)) c4)) (aO _)))).pt (aZ (nA (cS tX (b_ fL (by rfl) Z.abs_ (by rfl) (bC (bO aY (bO aY (pv 0) au (fun _ _=>rfl)) (bO aY (pv 0) au (fun _ _=>rfl)) (fun _ _=>rfl)) c4)) (bW oZ au au) (aO _)) (cv (gB (b_ fL (by rfl) Z.abs_ (by rfl) (bC (bO aY (bO aY (pv 0) au (fun _ _=>rfl)) (bO aY (pv 0) au (fun _ _=>rfl)) (fun _ _=>rfl)) c4)) (iY (pv 0) au c_))) eZ)
  (cv (gB (bW eA (bO aY (pv 0) au (fun _ _=>rfl)) au) (iY (pv 0) au c_)))))
  (aZ (nA (cS jF (bO aY (pv 0) au (fun _ _=>rfl)) au (aO _)) (aZ (cI (i:=2) sc.nd rfl (Do rfl) (bW b6 (bO aY (pv 0) au (fun _ _=>rfl)) (pv 1)))
  (aZ (gB (bW i4 (bO aY (pv 0) au (fun _ _=>rfl)) (pv 1)) (iY (pv 0) au c_))
  (cv (iW (pv 2))))) eZ)
  (aZ (cI (i:=3) sc.nd rfl (Do rfl) au)
  (aZ (nA (cS jF (b_ bM (by rfl) Z.len_ (by rfl) (bC (bO aY (pv 0) au (fun _ _=>rfl)) c4)) au (aO _)) (cv (cI (i:=3) sc.nd rfl (Do rfl) (bO aY (bO aY (pv 0) au (fun _ _=>rfl)) (bW b6 (bO aY (pv 0) au (fun _ _=>rfl)) (b_ bM (by rfl) Z.len_ (by rfl) (bC (bO aY (pv 0) au (fun _ _=>rfl)) c4))) (fun _ _=>rfl)))) eZ)
  (aZ (cI (i:=4) sc.nd rfl (Do rfl) (bW b6 (bW eA (bW eA (bW dD (bW b6 (pv 3) au) au) (bW dD au (bO aY (pv 0) au (fun _ _=>rfl)))) au) au))
  (aZ (cI (i:=4) sc.nd rfl (Do rfl) (bW b6 (bW dD (pv 4) (bW eA (pv 4) au)) au))
  (cv (iW (bW b6 (bW b6 (bW dD (pv 4) au) au) (pv 1))))))))))),?_⟩
 refine⟨_,rfl,cf ho i1 ⟨a,1,rfl,rfl,?_⟩⟩;refine⟨_,rfl,jL ho rfl ?_⟩;show xR _ _ _ _ (upd H r (Av c (a+1) l t));refine⟨fun n σ' H'=>∃l t,σ'=[some (.ref r),some (.int m),none,none,none]/\H'=upd H r (Av c (a+1) l t)/\0<=l/\0<=t/\n=ns.length-t.toNat,⟨_,l,t,rfl,rfl,hl0,ht,rfl⟩,?_⟩;rintro n σ' H' ⟨l,t,rfl,rfl,hl0,ht,rfl⟩;refine⟨_,rfl,cf g0 i2 ⟨rfl,_,rfl,?_⟩⟩;by_cases hz:l=0
 · subst hz;refine Ab (by simp) ?_;refine⟨_,rfl,cf g0 i3 ⟨_,rfl,cf g0 i0 ⟨c,_,rfl,.inl (.inl (.inl gc)),⟨t,_,rfl,rfl,_,rfl,?_⟩⟩⟩⟩;by_cases hlt:t<((ns.map V.int).length:Int)
   · refine Ab (decide_eq_true hlt) ?_;have hlt':t.toNat<ns.length:=by rw[Bu]at hlt;omega
     have at_:L2.atI (ns.map V.int) t=some (.int ns[t.toNat]):=fO ht hlt'
     refine⟨fun σ' H'=>∃l t',σ'=[some (.ref r),some (.int m),none,none,none]/\H'=upd H r (Av c (a+1) l t')/\0<=l/\0<=t'/\ns.length-t'.toNat<ns.length-t.toNat,fun σ' H' ⟨l,t',h1,h2,h3,h4,h5⟩=>⟨_,h5,l,t',h1,h2,h3,h4,rfl⟩,?_⟩;refine⟨_,rfl,cf g0 i0 ⟨_,rfl,cf g0 i3 (cf gc at_ ⟨_,rfl,10,18,rfl,rfl,⟨by decide,by decide,by decide⟩,⟨_,_,rfl,rfl,_,rfl,?_⟩⟩)⟩⟩;by_cases hbig:(10:Int)^Int.toNat 18<=(if ns[t.toNat]<0 then -ns[t.toNat]else ns[t.toNat])
     · refine Ab (decide_eq_true hbig) ?_;refine⟨_,rfl,cf g0 i0 ⟨_,rfl,cf g0 i3 (cf gc at_ ⟨_,rfl,?_⟩)⟩⟩;refine⟨_,rfl,jL g0 rfl ?_⟩;rw[dk];refine⟨_,rfl,cf g0 i3 ⟨_,_,rfl,rfl,?_⟩⟩;refine⟨_,rfl,jL g0 rfl ?_⟩;rw[dk];exact⟨_,_,rfl,rfl,by split<;>omega,by omega,by omega⟩
     · refine Ad (decide_eq_false hbig) ?_;refine⟨_,rfl,cf g0 i3 ⟨_,_,rfl,rfl,?_⟩⟩;refine⟨_,rfl,jL g0 rfl ?_⟩;rw[dk];exact⟨_,_,rfl,rfl,by omega,by omega,by omega⟩
   · refine Ad (decide_eq_false hlt) ?_;refine⟨_,rfl,cf g0 i2 ⟨_,_,rfl,rfl,_,rfl,?_⟩⟩;by_cases hp:0<(0:Int)
     · refine Ab (decide_eq_true hp) ?_;refine⟨_,rfl,cf g0 i2 ⟨_,rfl,_,_,rfl,rfl,hm0,?_⟩⟩;refine⟨_,rfl,cf g0 i2 ⟨_,rfl,_,_,rfl,rfl,hmd _,?_⟩⟩;refine⟨_,rfl,jL g0 rfl ?_⟩;rw[dk];refine⟨_,rfl,?_⟩;exact out _ _ _ _ (fm _).1 (fm _).2 (by omega) (Int.fdiv_nonneg (by omega) (by omega)) ht
     · refine Ad (decide_eq_false hp) ?_;refine⟨_,rfl,cf g0 i0 ⟨c,_,rfl,.inl (.inl (.inl gc)),⟨_,_,rfl,rfl,_,rfl,?_⟩⟩⟩;by_cases hn:(0:Int)<((ns.map V.int).length:Int)
       · refine Ab (decide_eq_true hn) ?_;have hnn:(0:Int)<(ns.length:Int):=by rw[Bu]at hn;exact hn
         have b1:=Co (a+1) hnn;have b2:=Dd (a+1) hnn;have hk:((a+1).fmod (ns.length:Int)).toNat<ns.length:=by omega
         have at2:L2.atI (ns.map V.int) ((a+1).fmod ((ns.map V.int).length:Int))=some (.int ns[((a+1).fmod (ns.length:Int)).toNat]):=by simpa only[Bu]using fO b1 hk
         refine⟨_,rfl,cf g0 i0 ⟨_,rfl,cf g0 i1 ⟨_,rfl,cf g0 i0 ⟨c,_,rfl,.inl (.inl (.inl gc)),_,_,rfl,rfl,by omega,cf gc at2 ?_⟩⟩⟩⟩;refine⟨_,rfl,_,_,rfl,rfl,(show(2147483647:Int)≠0 by decide),_,_,rfl,rfl,bo.rt (by decide),_,rfl,cf g0 i1 ⟨_,_,rfl,rfl,bo.lt (by decide),_,_,rfl,rfl,_,_,rfl,rfl,_,_,rfl,rfl,(show(2147483629:Int)≠0 by decide),?_⟩⟩;refine⟨_,rfl,_,rfl,_,_,rfl,rfl,_,_,rfl,rfl,bo.lt (b9 (by decide) (by decide)),_,_,rfl,rfl,(show(2147483587:Int)≠0 by decide),?_⟩;refine⟨_,rfl,_,_,rfl,rfl,bo.rt (by decide),_,_,rfl,rfl,(show(2147483563:Int)≠0 by decide),_,rfl,_,_,rfl,rfl,hm0,?_⟩;exact out _ _ _ _ (fm _).1 (fm _).2 (by omega) (by omega) ht
       · refine Ad (decide_eq_false hn) ?_;refine⟨_,rfl,_,_,rfl,rfl,(show(2147483647:Int)≠0 by decide),_,_,rfl,rfl,bo.rt (by decide),_,rfl,cf g0 i1 ⟨_,_,rfl,rfl,bo.lt (by decide),_,_,rfl,rfl,_,_,rfl,rfl,_,_,rfl,rfl,(show(2147483629:Int)≠0 by decide),?_⟩⟩;refine⟨_,rfl,_,rfl,_,_,rfl,rfl,_,_,rfl,rfl,bo.lt (b9 (by decide) (by decide)),_,_,rfl,rfl,(show(2147483587:Int)≠0 by decide),?_⟩;refine⟨_,rfl,_,_,rfl,rfl,bo.rt (by decide),_,_,rfl,rfl,(show(2147483563:Int)≠0 by decide),_,rfl,_,_,rfl,rfl,hm0,?_⟩;exact out _ _ _ _ (fm _).1 (fm _).2 (by omega) (by omega) ht
 · refine Ad (vq hz) ?_;refine⟨_,rfl,cf g0 i2 ⟨_,_,rfl,rfl,_,rfl,?_⟩⟩;by_cases hp:0<l
   · refine Ab (decide_eq_true hp) ?_;refine⟨_,rfl,cf g0 i2 ⟨_,rfl,_,_,rfl,rfl,hm0,?_⟩⟩;refine⟨_,rfl,cf g0 i2 ⟨_,rfl,_,_,rfl,rfl,hmd _,?_⟩⟩;refine⟨_,rfl,jL g0 rfl ?_⟩;rw[dk];refine⟨_,rfl,?_⟩;exact out _ _ _ _ (fm _).1 (fm _).2 (by omega) (Int.fdiv_nonneg (by omega) (by omega)) ht
   · refine Ad (decide_eq_false hp) ?_;refine⟨_,rfl,cf g0 i0 ⟨c,_,rfl,.inl (.inl (.inl gc)),⟨_,_,rfl,rfl,_,rfl,?_⟩⟩⟩;by_cases hn:(0:Int)<((ns.map V.int).length:Int)
     · refine Ab (decide_eq_true hn) ?_;have hnn:(0:Int)<(ns.length:Int):=by rw[Bu]at hn;exact hn
       have b1:=Co (a+1) hnn;have b2:=Dd (a+1) hnn;have hk:((a+1).fmod (ns.length:Int)).toNat<ns.length:=by omega
       have at2:L2.atI (ns.map V.int) ((a+1).fmod ((ns.map V.int).length:Int))=some (.int ns[((a+1).fmod (ns.length:Int)).toNat]):=by simpa only[Bu]using fO b1 hk
       refine⟨_,rfl,cf g0 i0 ⟨_,rfl,cf g0 i1 ⟨_,rfl,cf g0 i0 ⟨c,_,rfl,.inl (.inl (.inl gc)),_,_,rfl,rfl,by omega,cf gc at2 ?_⟩⟩⟩⟩;refine⟨_,rfl,_,_,rfl,rfl,(show(2147483647:Int)≠0 by decide),_,_,rfl,rfl,bo.rt (by decide),_,rfl,cf g0 i1 ⟨_,_,rfl,rfl,bo.lt (by decide),_,_,rfl,rfl,_,_,rfl,rfl,_,_,rfl,rfl,(show(2147483629:Int)≠0 by decide),?_⟩⟩;refine⟨_,rfl,_,rfl,_,_,rfl,rfl,_,_,rfl,rfl,bo.lt (b9 (by decide) (by decide)),_,_,rfl,rfl,(show(2147483587:Int)≠0 by decide),?_⟩;refine⟨_,rfl,_,_,rfl,rfl,bo.rt (by decide),_,_,rfl,rfl,(show(2147483563:Int)≠0 by decide),_,rfl,_,_,rfl,rfl,hm0,?_⟩;exact out _ _ _ _ (fm _).1 (fm _).2 (by omega) (by omega) ht
     · refine Ad (decide_eq_false hn) ?_;refine⟨_,rfl,_,_,rfl,rfl,(show(2147483647:Int)≠0 by decide),_,_,rfl,rfl,bo.rt (by decide),_,rfl,cf g0 i1 ⟨_,_,rfl,rfl,bo.lt (by decide),_,_,rfl,rfl,_,_,rfl,rfl,_,_,rfl,rfl,(show(2147483629:Int)≠0 by decide),?_⟩⟩;refine⟨_,rfl,_,rfl,_,_,rfl,rfl,_,_,rfl,rfl,bo.lt (b9 (by decide) (by decide)),_,_,rfl,rfl,(show(2147483587:Int)≠0 by decide),?_⟩;refine⟨_,rfl,_,_,rfl,rfl,bo.rt (by decide),_,_,rfl,rfl,(show(2147483563:Int)≠0 by decide),_,rfl,_,_,rfl,rfl,hm0,?_⟩;exact out _ _ _ _ (fm _).1 (fm _).2 (by omega) (by omega) ht
namespace Gap
noncomputable def pt(p q n:Int):Int:=(n*p)%q
theorem pt_eq(p q n:Int):pt p q n=n*p-(n*p / q)*q:=by
 unfold pt;have:=FP (n*p) q;rw[DF q]at this;omega
theorem pt_bd{p q n:Int}(hq:0<q):0<=pt p q n/\pt p q n<q:=⟨FK _ (by omega),EN _ hq⟩
theorem eX{p q n:Int}(h0:0<=n*p-m*q)(h1:n*p-m*q<q):pt p q n=n*p-m*q:=by
 unfold pt;have e:n*p=(n*p-m*q)+q*m:=by rw[DF q];omega
 rw[e,EJ,EY (by omega) (by omega)];rw[<- e]
theorem pt_pos{p q n:Int}(hq:0<q)(hg:BU p q=1)(h1:0<n)(h2:n<q):0<pt p q n:=by
 rcases Cv (pt_bd (p:=p) (n:=n) hq).1 with h|h
 · exact h
 · exfalso;have d:q∣n*p:=CS h.symm
   have d2:q∣n:=by
    have a:q.natAbs∣n.natAbs*p.natAbs:=by rw[<- DN];exact FQ.mpr d
    have c:Nat.Coprime q.natAbs p.natAbs:=by show Nat.gcd _ _=1;rw[Nat.gcd_comm];exact hg
    exact FQ.mp (c.dvd_of_dvd_mul_right a)
   have:=Gy h1 d2;omega
structure Nb (p q N u v:Int):Prop where
 u0:0<u
 uN:u<N
 v0:0<v
 vN:v<N
 few:N<=u+v
 round:v*pt p q u+u*(q-pt p q v)=q
structure Ex (p q N u v:Int):Prop where
 u0:0<u
 uN:u<N
 v0:0<v
 vN:v<N
 lo:∀n,0<n->n<N->pt p q u<=pt p q n
 hi:∀n,0<n->n<N->pt p q n<=pt p q v
section
variable{p q N:Int}
theorem lb(hq:0<q)(hg:BU p q=1)(hN:N<=q){n:Int}(m0:0<m)(mN:m<N)(n0:0<n)(nN:n<N)(e:pt p q m=pt p q n):m=n:=by
 have key:∀{m n:Int},0<m->n<N->m<n->pt p q m=pt p q n->False:=fun{m n} m0 nN h e=>by
  have z:pt p q (n-m)=0:=by
   have e1:=pt_eq p q m;have e2:=pt_eq p q n;have x:(n-m)*p-(n*p / q-m*p / q)*q=0:=by rw[Dg,Dg];omega
   rw[eX (m:=n*p / q-m*p / q) (by omega) (by omega),x]
  have:=pt_pos (p:=p) (n:=n-m) hq hg (by omega) (by omega);omega
 rcases Dm m n with h|h|h
 · exact(key m0 nN h e).elim
 · exact h
 · exact(key n0 mN h e.symm).elim
theorem jG{v:Int}(hq:0<q)(hg:BU p q=1)(hN:N<=q)(h:Ex p q N u v){n:Int}(n0:0<n)(nN:n<N)(h1:n*p-m*q<pt p q u)(h2 : -(q-pt p q v)<n*p-m*q):False:=by
 obtain⟨_,bu⟩:=pt_bd (p:=p) (n:=u) hq;obtain⟨bv,_⟩:=pt_bd (p:=p) (n:=v) hq;have lo:=h.lo n n0 nN;have hi:=h.hi n n0 nN;have ps:=pt_pos (p:=p) hq hg n0 (show n<q by omega);by_cases c:0<=n*p-m*q
 · have:=eX (p:=p) (q:=q) c (by omega);omega
 · have e:n*p-(m-1)*q=n*p-m*q+q:=by rw[Dg];omega
   have:=eX (p:=p) (q:=q) (n:=n) (m:=m-1) (by omega) (by omega);omega
theorem ex_of_nb(hq:0<q)(hg:BU p q=1)(hN:N<=q){v:Int}(h:Nb p q N u v):Ex p q N u v:=by
 obtain⟨u0,uN,v0,vN,few,rd⟩:=h;have a0:=pt_pos (p:=p) hq hg u0 (by omega);have b0:0<q-pt p q v:=by have:=(pt_bd (p:=p) (n:=v) hq).2;omega
 have ea:=pt_eq p q u;have eb:=pt_eq p q v;generalize ha:pt p q u=a at rd a0 ea;generalize hb:q-pt p q v=b at rd b0;have eb:b=(v*p / q+1)*q-v*p:=by rw[Cj];omega
 generalize u*p / q=k at ea;generalize v*p / q+1=l at eb
 have det:u*l-v*k=1:=by
  have e:(u*l-v*k)*q=q:=by
   have:v*a+u*b=(u*l-v*k)*q:=by
    rw[ea,eb];rw[Go,Go,Dg];have x1:v*(u*p)=u*(v*p):=by rw[<- Fb,<- Fb,DF v u]
    have x2:v*(k*q)=v*k*q:=by rw[Fb]
    have x3:u*(l*q)=u*l*q:=by rw[Fb]
    rw[x1,x2,x3];omega
   rw[<- this];exact rd
  have:(u*l-v*k)*q=1*q:=by omega
  exact Int.eq_of_mul_eq_mul_right (by omega) this
 have rep:∀n m:Int,∃i j:Int,n=i*u+j*v/\n*p-m*q=i*a-j*b:=fun n m=>by
  refine⟨n*l-m*v,m*u-n*k,?_,?_⟩
  · have x:(n*l-m*v)*u+(m*u-n*k)*v=n*(u*l-v*k):=by grind
    rw[x,det];omega
  · have x:(n*l-m*v)*a-(m*u-n*k)*b=(u*l-v*k)*(n*p-m*q):=by rw[ea,eb];grind
    rw[x,det];omega
 have pos:∀{x y:Int},0<x->0<y->0<x*y:=fun h1 h2=>EC h1 h2;have ge:∀{x y:Int},1<=x->0<y->y<=x*y:=fun{x y} h1 h2=>by have:=BA h1 (CH h2);omega
 have le0:∀{x y:Int},x<=0->0<y->x*y<=0:=fun{x y} h1 h2=>by have:=BA h1 (CH h2);omega
 have lem1:∀{x y:Int},x <= -1->0<y->x*y <= -y:=fun{x y} h1 h2=>by have:=BA h1 (CH h2);omega
 refine⟨u0,uN,v0,vN,fun n n0 nN=>?_,fun n n0 nN=>?_⟩
 · have pn:=pt_pos (p:=p) hq hg n0 (show n<q by omega);rw[ha];rw[pt_eq p q n]at pn ⊢;obtain⟨i,j,e1,e2⟩:=rep n (n*p / q);rw[e2]at pn ⊢;rcases Df i 1 with hi|hi
   · have x1:=le0 (show i<=0 by omega) a0;have x2:=le0 (show i<=0 by omega) u0;rcases Df j 0 with hj|hj
     · have:=lem1 (show j <= -1 by omega) v0;omega
     · have:=CV hj (CH b0);omega
   · have x1:=ge hi a0;have x2:=ge hi u0;rcases Dm j 0 with hj|hj|hj
     · have:=lem1 (show j <= -1 by omega) b0;omega
     · subst hj;omega
     · have:=ge (show 1<=j by omega) v0;omega
 · have pn:=(pt_bd (p:=p) (n:=n) hq).2;have hv:pt p q v=q-b:=by omega
   rw[hv];obtain⟨i,j,e1,e2⟩:=rep n (n*p / q+1);have e3:=pt_eq p q n;rw[Cj]at e2;generalize pt p q n=r at pn e3 ⊢;rcases Df j 1 with hj|hj
   · have x1:=le0 (show j<=0 by omega) b0;have x2:=le0 (show j<=0 by omega) v0;rcases Df i 0 with hi|hi
     · have:=lem1 (show i <= -1 by omega) u0;omega
     · have:=CV hi (CH a0);omega
   · have x1:=ge hj b0;have x2:=ge hj v0;rcases Dm i 0 with hi|hi|hi
     · have:=lem1 (show i <= -1 by omega) a0;omega
     · subst hi;omega
     · have:=ge (show 1<=i by omega) u0;omega
theorem nS(hq:0<q)(hg:BU p q=1)(hN:N<=q){v:Int}(h:Ex p q N u v):Nb p q N u v:=by
 have no:=fun{n m:Int} n0 nN h1 h2=>jG (p:=p) (q:=q) (N:=N) hq hg hN h (n:=n) (m:=m) n0 nN h1 h2;obtain⟨u0,uN,v0,vN,lo,hi⟩:=h;have a0:=pt_pos (p:=p) hq hg u0 (by omega);have b0:0<q-pt p q v:=by have:=(pt_bd (p:=p) (n:=v) hq).2;omega
 have ea:=pt_eq p q u;have eb:=pt_eq p q v
 have few:N<=u+v:=by
  rcases Df (u+v) N with c|c
  · exfalso;refine no (n:=u+v) (m:=u*p / q+(v*p / q+1)) (by omega) c ?_ ?_
    · rw[Cj,Cj,Cj];omega
    · rw[Cj,Cj,Cj];omega
  · exact c
 refine⟨u0,uN,v0,vN,few,?_⟩;generalize pt p q u=a at a0 ea no ⊢;generalize hb:q-pt p q v=b at b0 no ⊢;have eb:b=(v*p / q+1)*q-v*p:=by rw[Cj];omega
 generalize u*p / q=k at ea;generalize v*p / q+1=l at eb;have eD:v*a+u*b=(u*l-v*k)*q:=by rw[ea,eb];grind
 rw[eD];generalize hd:u*l-v*k=d at eD
 have d1:0<d:=by
  rcases Df 0 d with c|c
  · exact c
  · have:=BA c (CH hq);have x1:=EC v0 a0;have x2:=EC u0 b0;omega
 suffices d=1 by rw[this];omega
 rcases Cv (show 1<=d by omega)with d2|d2
 · exfalso
   have key:∀i j n m:Int,0<=i->i<d->0<=j->j<d->(0<i\/0<j)->d*n=i*u+j*v->d*m=i*k+j*l->False:=fun i j n m i0 id j0 jd ij e1 e2=>by
    have val:∀{i j n m:Int},d*n=i*u+j*v->d*m=i*k+j*l->d*(n*p-m*q)=i*a-j*b:=fun{i j n m} e1 e2=>by
     have:d*(n*p-m*q)=(d*n)*p-(d*m)*q:=by grind
     rw[this,e1,e2,ea,eb];grind
    have go:∀{i j n m:Int},0<=i->i<d->0<=j->j<d->(0<i\/0<j)->i+j<=d->d*n=i*u+j*v->d*m=i*k+j*l->False:=fun{i j n m} i0 id j0 jd ij s e1 e2=>by
     have vl:=val e1 e2;have iu:=CV i0 (CH u0);have jv:=CV j0 (CH v0)
     have dn:0<d*n:=by
      rcases ij with h|h
      · have:=EC h u0;omega
      · have:=EC h v0;omega
     have n0:0<n:=Dh (show d*0<d*n by omega) (by omega)
     have nN:n<N:=by
      have x1:i*u<=i*(N-1):=Eo (by omega) i0;have x2:j*v<=j*(N-1):=Eo (by omega) j0;have x3:(i+j)*(N-1)<=d*(N-1):=BA s (by omega);rw[Cj]at x3;have x4:d*n<=d*(N-1):=by omega
      have:=Int.le_of_mul_le_mul_left x4 (by omega);omega
     have ia:i*a<=(d-1)*a:=BA (by omega) (CH a0);have jb:j*b<=(d-1)*b:=BA (by omega) (CH b0);have ia0:=CV i0 (CH a0);have jb0:=CV j0 (CH b0);rw[Dg]at ia jb;refine no (n:=n) (m:=m) n0 nN ?_ ?_
     · have:d*(n*p-m*q)<d*a:=by omega
       exact Dh this (by omega)
     · have:d*(-b)<d*(n*p-m*q):=by rw[Int.mul_neg];omega
       exact Dh this (by omega)
    by_cases s:i+j<=d
    · exact go i0 id j0 jd ij s e1 e2
    · refine go (i:=d-i) (j:=d-j) (n:=u+v-n) (m:=k+l-m) (by omega) (by omega) (by omega) (by omega) (by omega) (by omega) ?_ ?_
      · rw[Go,e1];grind
      · rw[Go,e2];grind
   have md:∀x:Int,0<=x%d/\x%d<d/\x%d=x-d*(x / d):=fun x=>⟨FK _ (by omega),EN _ d1,by have:=FP x d;omega⟩
   have z1:l%d=0/\(-k)%d=0:=by
    obtain⟨a1,a2,a3⟩:=md l;obtain⟨b1,b2,b3⟩:=md (-k);by_cases c:0<l%d\/0<(-k)%d
    · exact(key (l%d) ((-k)%d) (1-(l / d)*u-((-k) / d)*v) (0-(l / d)*k-((-k) / d)*l) a1 a2 b1 b2 c (by rw[a3,b3];grind) (by rw[a3,b3];grind)).elim
    · omega
   have z2:(-v)%d=0/\u%d=0:=by
    obtain⟨a1,a2,a3⟩:=md (-v);obtain⟨b1,b2,b3⟩:=md u;by_cases c:0<(-v)%d\/0<u%d
    · exact(key ((-v)%d) (u%d) (0-((-v) / d)*u-(u / d)*v) (1-((-v) / d)*k-(u / d)*l) a1 a2 b1 b2 c (by rw[a3,b3];grind) (by rw[a3,b3];grind)).elim
    · omega
   obtain⟨x,ex⟩:=CS z1.1;obtain⟨y,ey⟩:=CS z2.2;obtain⟨z,ez⟩:=CS z2.1
   have e:d*(y*l+z*k)=d*1:=by
    have:u*l-v*k=d*(y*l+z*k):=by
     have ev:v = -(d*z):=by omega
     rw[ey,ev];grind
    omega
   have e1:=Int.eq_of_mul_eq_mul_left (show d≠0 by omega) e
   have e2:d∣1:=by
    obtain⟨w,ew⟩:=CS z1.2;refine⟨y*x-z*w,?_⟩;have:k = -(d*w):=by omega
    rw[<- e1,ex,this];grind
   have:=Gy (by omega) e2;omega
 · exact d2.symm
theorem nb_one(hq:0<q)(hg:BU p q=1)(hN:N<=q){v U V:Int}(h:Ex p q N U V):Nb p q N u v↔u=U/\v=V:=by
 constructor
 · intro hn;have he:=ex_of_nb hq hg hN hn;have a1:=he.lo U h.u0 h.uN;have a2:=h.lo u he.u0 he.uN;have b1:=he.hi V h.v0 h.vN;have b2:=h.hi v he.v0 he.vN;exact⟨lb hq hg hN he.u0 he.uN h.u0 h.uN (by omega),lb hq hg hN he.v0 he.vN h.v0 h.vN (by omega)⟩
 · rintro⟨rfl,rfl⟩;exact nS hq hg hN h
end
end Gap
theorem uV(h:zP 2000 q):(q.den:Int).natAbs<2^2000:=by rw[Cu];exact h.2
noncomputable def ax:List W->(Bl->Prop)->Prop:=fun ws Q=>∃(i j:Int),ws=[.d (.int i),.d (.int j)]/\(True)/\Q (.int (BU i j:Nat))
theorem ax.mono:∀ws (Q Q':Bl->Prop),(∀d,Q d->Q' d)->ax ws Q->ax ws Q':=fun _ _ _ h_=>BI fun _=>BI fun _=>Bt (Bt (h_ _))
theorem ax.len:∀ws (Q:Bl->Prop),ax ws Q->ws.length=2:=fun _ _ h_=>by obtain⟨_,_,e_,_⟩:=h_;subst e_;rfl
theorem ax.eq(i j:Int)  : ax [.d (.int i),.d (.int j)]=VL.ret (.int (BU i j:Nat):Bl):=by
 refine ae fun Q=>⟨?_,fun q_=>⟨i,j,rfl,trivial,q_⟩⟩;rintro⟨i',j',e_,_,q_⟩;simp_arith only[and_true]at e_;obtain⟨rfl,rfl⟩:=e_;exact q_
theorem cP:FnScope ["one", "other"] ["one", "other"] (defScope (zp 9)):=⟨rfl,rfl,rfl,by decide +kernel,rfl,by decide +kernel,by decide +kernel⟩
theorem d_common_divisor(Fn:FnIn K mg "common_divisor" (zp 9) ["one", "other"])(Z:Bz mg)    : Dfn P w K mg base rl "common_divisor" ["one", "other"] 1 ax:=by
 have sc:=cP
 refine Dfn.of Fn sc (ax.mono) (ax.len) (fun cdv A outer s H E hr=>(ai (dj [] C4 (bf (lm hr.units) iJ (aO _) (vn 1) ag) (aq (iF 0 1 rfl sc.nd (aa (vn 1) (aa (v_mod (vn 0) (vn 1)) ac)))))
  (aq (aC (sw Z.abs_ (aa (vn 0) ac)))))) ?_
 rintro ws Q ⟨i,j,rfl,_,hQ⟩;refine aE ?_;simp_arith only[ah];refine eJ (σ:=Int×Int) (fun s=>[some (.d (.int s.1)),some (.d (.int s.2))]) (fun s=>!(s.2==0)) (fun s=>(s.2,s.1.fmod s.2)) (fun s=>s.2.natAbs) (fun s=>BU s.1 s.2=BU i j) (i,j) rfl rfl ?_ ?_ ?_
 · intro s _;simp_arith only[ah]
 · intro s e c;have hc:s.2≠0:=by simpa using c
   refine⟨by rw[fD];exact e,cz hc,_,?_,rfl⟩;simp_arith only[aj,ah]
 · intro s e c;have hc:s.2=0:=by simpa using c
   simp_arith only[ah];rw[hc,Int.gcd_zero_right]at e;refine aK ?_;have:(if s.1<0 then -s.1 else s.1)=((BU i j:Nat):Int):=by rw[<- e];split<;>omega
   rw[this];exact hQ
noncomputable def aW:List W->(Bl->Prop)->Prop:=fun ws Q=>∃(a b:Int),ws=[.d (.int a),.d (.int b)]/\((0<b)/\(b.natAbs<2^8000))/\Q (fr (qd a b))
theorem aW.mono:∀ws (Q Q':Bl->Prop),(∀d,Q d->Q' d)->aW ws Q->aW ws Q':=fun _ _ _ h_=>BI fun _=>BI fun _=>Bt (Bt (h_ _))
theorem aW.len:∀ws (Q:Bl->Prop),aW ws Q->ws.length=2:=fun _ _ h_=>by obtain⟨_,_,e_,_⟩:=h_;subst e_;rfl
theorem aW.eq(a b:Int)(hb:0<b)(hz:b.natAbs<2^8000):aW [.d (.int a),.d (.int b)]=VL.ret (fr (qd a b):Bl):=by
 refine ae fun Q=>⟨?_,fun q_=>⟨a,b,rfl,⟨hb,hz⟩,q_⟩⟩;rintro⟨a',b',e_,_,q_⟩;simp_arith only[and_true]at e_;obtain⟨rfl,rfl⟩:=e_;exact q_
theorem hZ:FnScope ["top", "bottom", "divisor"] ["top", "bottom"] (defScope (zp 10)):=⟨rfl,rfl,rfl,by decide +kernel,rfl,by decide +kernel,by decide +kernel⟩
theorem d_fraction(Fn:FnIn K mg "fraction" (zp 10) ["top", "bottom"])(Z:Bz mg)(d_common_divisor:∀rl,Dfn P w K mg base rl "common_divisor" ["one", "other"] 1 ax)   : Dfn P w K mg base rl "fraction" ["top", "bottom"] 2 aW:=by
 have sc:=hZ
 refine Dfn.of Fn sc (aW.mono) (aW.len) (fun cdv A outer s H E hr=>(ai (cC (bf (tZ hr.units) iJ (aO _) (vn 1) ag) (aq c9) bP)
  (ai (ba 2 sc.nd (ar (d_common_divisor _) (hr.mono (by decide)) (aa (vn 0) (aa (vn 1) ac))))
  (ai (cC (bf fu g_ (aO _) (vn 1) ag) (aq (ba 2 sc.nd (m8 (vn 2)))) bP)
  (aq (aC (cn (aa (v_div (vn 0) (vn 2)) (aa (v_div (vn 1) (vn 2)) ac))))))))) ?_
 rintro ws Q ⟨a,b,rfl,⟨hb,hz⟩,hQ⟩;refine aE ?_;have c1:cB a (BU a b:Int):=fE hb hz _;have c2:cB b (BU a b:Int):=fE hb hz _;have h0:(b==0)=false:=by simp;omega
 have h1:decide (b<0)=false:=by simp;omega
 simp_arith only[aj,ah,ax.eq,h0,h1];rw[i8 hb];exact aK hQ
noncomputable def cJ:List W->(Bl->Prop)->Prop:=fun ws Q=>∃(q r:Rat),ws=[.d (fr q),.d (fr r)]/\((zP 2000 q)/\(zP 2000 r))/\Q (fr (q+r))
theorem cJ.mono:∀ws (Q Q':Bl->Prop),(∀d,Q d->Q' d)->cJ ws Q->cJ ws Q':=fun _ _ _ h_=>BI fun _=>BI fun _=>Bt (Bt (h_ _))
theorem cJ.len:∀ws (Q:Bl->Prop),cJ ws Q->ws.length=2:=fun _ _ h_=>by obtain⟨_,_,e_,_⟩:=h_;subst e_;rfl
theorem cJ.eq(q r:Rat)(h1:zP 2000 q)(h2:zP 2000 r):cJ [.d (fr q),.d (fr r)]=VL.ret (fr (q+r):Bl):=by
 refine ae fun Q=>⟨?_,fun q_=>⟨q,r,rfl,⟨h1,h2⟩,q_⟩⟩;rintro⟨q',r',e_,_,q_⟩;simp_arith only[gS,cq,cu,bN,bK,cy]at e_;obtain⟨rfl,rfl⟩:=e_;exact q_
theorem p_:FnScope ["one", "other"] ["one", "other"] (defScope (zp 11)):=⟨rfl,rfl,rfl,by decide +kernel,rfl,by decide +kernel,by decide +kernel⟩
theorem d_plus(Fn:FnIn K mg "plus" (zp 11) ["one", "other"])(Z:Bz mg)(d_fraction:∀rl,Dfn P w K mg base rl "fraction" ["top", "bottom"] 2 aW)   : Dfn P w K mg base rl "plus" ["one", "other"] 3 cJ:=by
 have sc:=p_;refine Dfn.of Fn sc (cJ.mono) (cJ.len) (fun cdv A outer s H E hr=>(aq (aC (ar (d_fraction _) (hr.mono (by decide)) (aa (v_add (v_mul (bH (vn 0) ag) (bH (vn 1) ag)) (v_mul (bH (vn 1) ag) (bH (vn 0) ag))) (aa (v_mul (bH (vn 0) ag) (bH (vn 1) ag)) ac)))))) ?_;rintro ws Q ⟨q,r,rfl,⟨h1,h2⟩,hQ⟩;refine aE ?_;have m1:bo q.num r.den:=.bb h1.bn h2.bd;have m2:bo r.num q.den:=.bb h2.bn h1.bd;have m3:bo q.den r.den:=.bb h1.bd h2.bd;have m4:bo q.num r.num:=.bb h1.bn h2.bn;have d1:=den_pos q r;have d2:=dJ h1 h2;simp_arith only[aj,ah,aW.eq,Bi,tE];exact aK hQ
noncomputable def dB:List W->(Bl->Prop)->Prop:=fun ws Q=>∃(q r:Rat),ws=[.d (fr q),.d (fr r)]/\((zP 2000 q)/\(zP 2000 r))/\Q (fr (q-r))
theorem dB.mono:∀ws (Q Q':Bl->Prop),(∀d,Q d->Q' d)->dB ws Q->dB ws Q':=fun _ _ _ h_=>BI fun _=>BI fun _=>Bt (Bt (h_ _))
theorem dB.len:∀ws (Q:Bl->Prop),dB ws Q->ws.length=2:=fun _ _ h_=>by obtain⟨_,_,e_,_⟩:=h_;subst e_;rfl
theorem dB.eq(q r:Rat)(h1:zP 2000 q)(h2:zP 2000 r):dB [.d (fr q),.d (fr r)]=VL.ret (fr (q-r):Bl):=by
 refine ae fun Q=>⟨?_,fun q_=>⟨q,r,rfl,⟨h1,h2⟩,q_⟩⟩;rintro⟨q',r',e_,_,q_⟩;simp_arith only[gS,cq,cu,bN,bK,cy]at e_;obtain⟨rfl,rfl⟩:=e_;exact q_
theorem qc:FnScope ["one", "other"] ["one", "other"] (defScope (zp 12)):=⟨rfl,rfl,rfl,by decide +kernel,rfl,by decide +kernel,by decide +kernel⟩
theorem d_less(Fn:FnIn K mg "less" (zp 12) ["one", "other"])(Z:Bz mg)(d_fraction:∀rl,Dfn P w K mg base rl "fraction" ["top", "bottom"] 2 aW)   : Dfn P w K mg base rl "less" ["one", "other"] 3 dB:=by
 have sc:=qc;refine Dfn.of Fn sc (dB.mono) (dB.len) (fun cdv A outer s H E hr=>(aq (aC (ar (d_fraction _) (hr.mono (by decide)) (aa (v_sub (v_mul (bH (vn 0) ag) (bH (vn 1) ag)) (v_mul (bH (vn 1) ag) (bH (vn 0) ag))) (aa (v_mul (bH (vn 0) ag) (bH (vn 1) ag)) ac)))))) ?_;rintro ws Q ⟨q,r,rfl,⟨h1,h2⟩,hQ⟩;refine aE ?_;have m1:bo q.num r.den:=.bb h1.bn h2.bd;have m2:bo r.num q.den:=.bb h2.bn h1.bd;have m3:bo q.den r.den:=.bb h1.bd h2.bd;have m4:bo q.num r.num:=.bb h1.bn h2.bn;have d1:=den_pos q r;have d2:=dJ h1 h2;simp_arith only[aj,ah,aW.eq,Bi,tu];exact aK hQ
noncomputable def b5:List W->(Bl->Prop)->Prop:=fun ws Q=>∃(q r:Rat),ws=[.d (fr q),.d (fr r)]/\((zP 2000 q)/\(zP 2000 r))/\Q (fr (q*r))
theorem b5.mono:∀ws (Q Q':Bl->Prop),(∀d,Q d->Q' d)->b5 ws Q->b5 ws Q':=fun _ _ _ h_=>BI fun _=>BI fun _=>Bt (Bt (h_ _))
theorem b5.len:∀ws (Q:Bl->Prop),b5 ws Q->ws.length=2:=fun _ _ h_=>by obtain⟨_,_,e_,_⟩:=h_;subst e_;rfl
theorem b5.eq(q r:Rat)(h1:zP 2000 q)(h2:zP 2000 r):b5 [.d (fr q),.d (fr r)]=VL.ret (fr (q*r):Bl):=by
 refine ae fun Q=>⟨?_,fun q_=>⟨q,r,rfl,⟨h1,h2⟩,q_⟩⟩;rintro⟨q',r',e_,_,q_⟩;simp_arith only[gS,cq,cu,bN,bK,cy]at e_;obtain⟨rfl,rfl⟩:=e_;exact q_
theorem ni:FnScope ["one", "other"] ["one", "other"] (defScope (zp 13)):=⟨rfl,rfl,rfl,by decide +kernel,rfl,by decide +kernel,by decide +kernel⟩
theorem d_times(Fn:FnIn K mg "times" (zp 13) ["one", "other"])(Z:Bz mg)(d_fraction:∀rl,Dfn P w K mg base rl "fraction" ["top", "bottom"] 2 aW)   : Dfn P w K mg base rl "times" ["one", "other"] 3 b5:=by
 have sc:=ni;refine Dfn.of Fn sc (b5.mono) (b5.len) (fun cdv A outer s H E hr=>(aq (aC (ar (d_fraction _) (hr.mono (by decide)) (aa (v_mul (bH (vn 0) ag) (bH (vn 1) ag)) (aa (v_mul (bH (vn 0) ag) (bH (vn 1) ag)) ac)))))) ?_;rintro ws Q ⟨q,r,rfl,⟨h1,h2⟩,hQ⟩;refine aE ?_;have m1:bo q.num r.den:=.bb h1.bn h2.bd;have m2:bo r.num q.den:=.bb h2.bn h1.bd;have m3:bo q.den r.den:=.bb h1.bd h2.bd;have m4:bo q.num r.num:=.bb h1.bn h2.bn;have d1:=den_pos q r;have d2:=dJ h1 h2;simp_arith only[aj,ah,aW.eq,Bi,tw];exact aK hQ
noncomputable def zd(q:Rat):Rat:=qd (q.num.fmod q.den) q.den
theorem wA(q:Rat):CF [.int (q.num.fmod q.den),.int q.den]=fr (zd q):=by
 have hd:=dL q
 have g:BU (q.num.fmod q.den) q.den=1:=by
  rw[Int.gcd_comm,fD];exact lW q
 unfold zd;rw[<- i8 hd,g];simp
noncomputable def bD:List W->(Bl->Prop)->Prop:=fun ws Q=>∃(q:Rat),ws=[.d (fr q)]/\((zP 2000 q))/\Q (fr (zd q))
theorem bD.mono:∀ws (Q Q':Bl->Prop),(∀d,Q d->Q' d)->bD ws Q->bD ws Q':=fun _ _ _ h_=>BI fun _=>Bt (Bt (h_ _))
theorem bD.len:∀ws (Q:Bl->Prop),bD ws Q->ws.length=1:=fun _ _ h_=>by obtain⟨_,e_,_⟩:=h_;subst e_;rfl
theorem bD.eq(q:Rat)(h:zP 2000 q):bD [.d (fr q)]=VL.ret (fr (zd q):Bl):=by
 refine ae fun Q=>⟨?_,fun q_=>⟨q,rfl,h,q_⟩⟩;rintro⟨q',e_,_,q_⟩;simp_arith only[gS,cq,cu,bN,bK,cy]at e_;obtain rfl:=e_;exact q_
theorem jx:FnScope ["one"] ["one"] (defScope (zp 15)):=⟨rfl,rfl,rfl,by decide +kernel,rfl,by decide +kernel,by decide +kernel⟩
theorem d_wrapped(Fn:FnIn K mg "wrapped" (zp 15) ["one"])(Z:Bz mg)    : Dfn P w K mg base rl "wrapped" ["one"] 1 bD:=by
 have sc:=jx;refine Dfn.of Fn sc (bD.mono) (bD.len) (fun cdv A outer s H E hr=>(aq (aC (cn (aa (v_mod (bH (vn 0) ag) (bH (vn 0) ag)) (aa (bH (vn 0) ag) ac)))))) ?_;rintro ws Q ⟨q,rfl,h,hQ⟩;refine aE ?_;have cd:cB q.num q.den:=⟨by have:=dL q;omega,Bq (uV h) (BD (by decide) (by decide))⟩;have dz:(q.den:Int)≠0:=by have:=dL q;omega
 simp_arith only[aj,ah,Bi,wA];exact aK hQ
theorem oW{n d k:Int}(h:d≠0):qd (n-d*k) d=qd n d-k:=by
 have hd:(d:Rat)≠0:=by intro z;exact h (by exact_mod_cast z)
 unfold qd;rw[Rat.intCast_sub,EF];generalize (d:Rat)=D at *;generalize (n:Rat)=N;generalize (k:Rat)=K
 grind
theorem vh(q:Rat):(∃n:Int,zd q=q-n)/\0<=zd q/\zd q<1:=by
 have hd:=dL q;have e1:=Int.mul_fdiv_add_fmod q.num q.den;refine⟨⟨q.num.fdiv q.den,?_⟩,ql hd (Co _ hd),oV hd (Dd _ hd)⟩;have e2:q.num.fmod q.den=q.num-q.den*q.num.fdiv q.den:=by omega
 show qd (q.num.fmod q.den) q.den=_;rw[e2,oW (by omega),k5]
theorem yD{n:Int}(h1:(-1:Rat)<n)(h2:(n:Rat)<1):n=0:=by
 have a:(0:Int)<n+1:=by
  have:((0:Int):Rat)<((n+1:Int):Rat):=by rw[EG];have:((0:Int):Rat)=0:=rfl;have:((1:Int):Rat)=1:=rfl;grind
  exact_mod_cast this
 have b:n<1:=by exact_mod_cast h2
 omega
theorem vg{y:Rat}(n:Int)(e:y=q+n)(h0:0<=y)(h1:y<1):zd q=y:=by
 obtain⟨⟨m,em⟩,a0,a1⟩:=vh q;have k:((m+n:Int):Rat)=y-zd q:=by rw[EG,em,e];grind
 have z:=yD (n:=m+n) (by rw[k];grind) (by rw[k];grind);rw[z]at k;have:((0:Int):Rat)=0:=rfl
 grind
noncomputable def c7(s:Rat)(B:Int):Prop:=0<s.num/\s.num<(s.den:Int)/\(s.den:Int)<=B
theorem c7.sm{s:Rat}(h:c7 s B)(hB:B<=10^9):zP 30 s:=by
 obtain⟨h1,h2,h3⟩:=h;exact⟨by omega,by omega⟩
abbrev ptQ(s:Rat)(n:Int):Int:=Gap.pt s.num s.den n
theorem wC(i:Int)(d:Nat):i.fmod (d:Int)=i%(d:Int):=C7 _ (by omega)
theorem rY(s:Rat)(n:Int):zd (0+(n:Rat)*s)=qd (ptQ s n) s.den:=by
 have hd:=dL s;obtain⟨b0,b1⟩:=Gap.pt_bd (p:=s.num) (n:=n) hd;have e:=Gap.pt_eq s.num s.den n;refine vg (-(n*s.num / (s.den:Int))) ?_ (ql hd b0) (oV hd b1);show qd (Gap.pt s.num s.den n) s.den=_;rw[e,show n*s.num-n*s.num / (s.den:Int)*(s.den:Int)=n*s.num-(s.den:Int)*(n*s.num / (s.den:Int)) by rw[DF (s.den:Int)],oW (by omega),Rat.intCast_neg]
 have e2:qd (n*s.num) s.den=(n:Rat)*s:=by
  have e3:s=qd s.num s.den:=(k5 s).symm;unfold qd;rw[EF];have:((s.num:Int):Rat) / ((s.den:Int):Rat)=s:=e3.symm;rw[D_,Rat.mul_assoc,<- D_,this]
 rw[e2];grind
noncomputable def Ap(s:Rat)(n:Int):Rat:=qd (ptQ s n) s.den
theorem gQ{s:Rat}(h:c7 s B)(hB:B<=10^9)(n:Int):zP 31 (Ap s n):=by
 have hd:=dL s;obtain⟨b0,b1⟩:=Gap.pt_bd (p:=s.num) (n:=n) hd;obtain⟨h1,h2,h3⟩:=h;have b0:0<=ptQ s n:=b0;have b1:ptQ s n<s.den:=b1;exact v_ hd (by omega) (by omega)
theorem gP{n:Int}{k:Nat}(h:n.natAbs<2^k)(hk:0<k):zP k (n:Rat):=⟨by rw[Rat.num_intCast];exact h,by rw[Rat.den_intCast];exact Nat.one_lt_two_pow (by omega)⟩
theorem kQ(s:Rat)(u v:Int):((v:Rat)*Ap s u+(u:Rat)*(1-Ap s v)=1)↔v*ptQ s u+u*((s.den:Int)-ptQ s v)=s.den:=by
 have hd:=dL s
 have hz:((s.den:Int):Rat)≠0:=fun z=>by
  have z2:(s.den:Int)=0:=by exact_mod_cast z
  omega
 have e:((v*ptQ s u+u*((s.den:Int)-ptQ s v):Int):Rat)=((v:Rat)*Ap s u+(u:Rat)*(1-Ap s v))*((s.den:Int):Rat):=by
  unfold Ap qd;rw[EG,EF,EF,Rat.intCast_sub];generalize ((s.den:Int):Rat)=D at *;generalize ((ptQ s u:Int):Rat)=A;generalize ((ptQ s v:Int):Rat)=C;generalize (u:Rat)=U;generalize (v:Rat)=V
  grind
 constructor
 · intro h;rw[h,Rat.one_mul]at e
   exact_mod_cast e
 · intro h;rw[h]at e;have e:((s.den:Int):Rat)*1=((s.den:Int):Rat)*((v:Rat)*Ap s u+(u:Rat)*(1-Ap s v)):=by rw[Rat.mul_one,Rat.mul_comm];exact e
   generalize ((s.den:Int):Rat)=D at *;generalize (v:Rat)*Ap s u+(u:Rat)*(1-Ap s v)=x at *
   grind
noncomputable def zU(N:Int):Bl->Bool
 | .int i=>decide (0<i)&&decide (i<N)
 | _=>false
noncomputable def zT(N:Int):Bl->Bool
 | .tuple [x,y]=>zU N x&&zU N y
 | _=>false
theorem ff:zU N d=true↔∃i,d = .int i/\0<i/\i<N:=by
 cases d<;>simp[zU]
theorem wc:zT N d=true↔∃u v,d = .tuple [.int u,.int v]/\0<u/\u<N/\0<v/\v<N:=by
 constructor
 · intro h;unfold zT at h;split at h
   · rw[Bool.and_eq_true,ff,ff]at h;obtain⟨⟨u,rfl,u0,u1⟩,v,rfl,v0,v1⟩:=h;exact⟨u,v,rfl,u0,u1,v0,v1⟩
   · cases h
 · rintro⟨u,v,rfl,u0,u1,v0,v1⟩;unfold zT;rw[Bool.and_eq_true,ff,ff];exact⟨⟨u,rfl,u0,u1⟩,v,rfl,v0,v1⟩
theorem tL(h:ja d "tuple" = false):zT N d=false:=by
 cases d with
 | tuple xs=>exact absurd h (by unfold ja;simp[zn])
 | _=>rfl
theorem qy(h:xs.length≠2):zT N (.tuple xs)=false:=by
 rcases xs with _|⟨a,_|⟨b,_|⟨c,xs⟩⟩⟩
 · rfl
 · rfl
 · exact absurd rfl h
 · rfl
noncomputable def bg:List W->(Bl->Prop)->Prop:=fun ws Q=>∃(d:Bl),ws=[.d d]/\(True)/\Q (.bool (bL d))
theorem bg.mono:∀ws (Q Q':Bl->Prop),(∀d,Q d->Q' d)->bg ws Q->bg ws Q':=fun _ _ _ h_=>BI fun _=>Bt (Bt (h_ _))
theorem bg.len:∀ws (Q:Bl->Prop),bg ws Q->ws.length=1:=fun _ _ h_=>by obtain⟨_,e_,_⟩:=h_;subst e_;rfl
theorem bg.eq(d:Bl)  : bg [.d d]=VL.ret (.bool (bL d):Bl):=by
 refine ae fun Q=>⟨?_,fun q_=>⟨d,rfl,trivial,q_⟩⟩;rintro⟨d',e_,_,q_⟩;simp_arith only[and_true]at e_;obtain rfl:=e_;exact q_
theorem hW:FnScope ["thing"] ["thing"] (defScope (zp 7)):=⟨rfl,rfl,rfl,by decide +kernel,rfl,by decide +kernel,by decide +kernel⟩
theorem d_is_whole(Fn:FnIn K mg "is_whole" (zp 7) ["thing"])(Z:Bz mg)    : Dfn P w K mg base rl "is_whole" ["thing"] 1 bg:=by
 have sc:=hW;refine Dfn.of Fn sc (bg.mono) (bg.len) (fun cdv A outer s H E hr=>(aq (aC (v_and (pK Z.isinstance_ (aa (vn 0) (aa (qp Z.int_ (by rfl)) ac))) (pH (v_not (pK Z.isinstance_ (aa (vn 0) (aa (qp Z.bool_ (by rfl)) ac))))))))) ?_;rintro ws Q ⟨d,rfl,_,hQ⟩;refine aE ?_;have tb:=oP;have ti:=oO;simp_arith only[aj,ah,oP,oO];unfold bL at hQ;cases h:ja d "int" <;> rw[h]at hQ<;>exact aK hQ
noncomputable def bh:List W->(Bl->Prop)->Prop:=fun ws Q=>∃(d:Bl)(m:Int),ws=[.d d,.d (.int m)]/\(True)/\Q (.bool (gM d m))
theorem bh.mono:∀ws (Q Q':Bl->Prop),(∀d,Q d->Q' d)->bh ws Q->bh ws Q':=fun _ _ _ h_=>BI fun _=>BI fun _=>Bt (Bt (h_ _))
theorem bh.len:∀ws (Q:Bl->Prop),bh ws Q->ws.length=2:=fun _ _ h_=>by obtain⟨_,_,e_,_⟩:=h_;subst e_;rfl
theorem bh.eq(d:Bl)(m:Int)  : bh [.d d,.d (.int m)]=VL.ret (.bool (gM d m):Bl):=by
 refine ae fun Q=>⟨?_,fun q_=>⟨d,m,rfl,trivial,q_⟩⟩;rintro⟨d',m',e_,_,q_⟩;simp_arith only[and_true]at e_;obtain⟨rfl,rfl⟩:=e_;exact q_
theorem hX:FnScope ["thing", "many"] ["thing", "many"] (defScope (zp 8)):=⟨rfl,rfl,rfl,by decide +kernel,rfl,by decide +kernel,by decide +kernel⟩
theorem d_is_place(Fn:FnIn K mg "is_place" (zp 8) ["thing", "many"])(Z:Bz mg)(d_is_whole:∀rl,Dfn P w K mg base rl "is_whole" ["thing"] 1 bg)   : Dfn P w K mg base rl "is_place" ["thing", "many"] 2 bh:=by
 have sc:=hX;refine Dfn.of Fn sc (bh.mono) (bh.len) (fun cdv A outer s H E hr=>(aq (aC (v_and (ar (d_is_whole _) (hr.mono (by decide)) (aa (vn 0) ac)) (pH (pM wf fu ag (vn 0) (vn 1))))))) ?_;rintro ws Q ⟨d,m,rfl,_,hQ⟩;refine aE ?_;simp_arith only[aj,ah,bg.eq]
 cases h:bL d with
 | false=>rw[n8 h]at hQ;exact aK hQ
 | true =>
   obtain⟨i,rfl⟩:=o4.mp h;simp_arith only[aj,ah,bg.eq];exact aK hQ
noncomputable def aG:List W->(Bl->Prop)->Prop:=fun ws Q=>∃(s t:Rat)(n:Int),ws=[.d (fr s),.d (fr t),.d (.int n)]/\((zP 600 s)/\(zP 600 t)/\(n.natAbs<2^600))/\Q (fr (zd (s+(n:Rat)*t)))
theorem aG.mono:∀ws (Q Q':Bl->Prop),(∀d,Q d->Q' d)->aG ws Q->aG ws Q':=fun _ _ _ h_=>BI fun _=>BI fun _=>BI fun _=>Bt (Bt (h_ _))
theorem aG.len:∀ws (Q:Bl->Prop),aG ws Q->ws.length=3:=fun _ _ h_=>by obtain⟨_,_,_,e_,_⟩:=h_;subst e_;rfl
theorem aG.eq(s t:Rat)(n:Int)(h1:zP 600 s)(h2:zP 600 t)(h3:n.natAbs<2^600):aG [.d (fr s),.d (fr t),.d (.int n)]=VL.ret (fr (zd (s+(n:Rat)*t)):Bl):=by
 refine ae fun Q=>⟨?_,fun q_=>⟨s,t,n,rfl,⟨h1,h2,h3⟩,q_⟩⟩;rintro⟨s',t',n',e_,_,q_⟩;simp_arith only[gS,cq,cu,bN,bK,cy]at e_;obtain⟨rfl,rfl,rfl⟩:=e_;exact q_
theorem dY:FnScope ["start", "step", "n"] ["start", "step", "n"] (defScope (zp 18)):=⟨rfl,rfl,rfl,by decide +kernel,rfl,by decide +kernel,by decide +kernel⟩
theorem d_step_number(Fn:FnIn K mg "step_number" (zp 18) ["start", "step", "n"])(Z:Bz mg)(d_wrapped:∀rl,Dfn P w K mg base rl "wrapped" ["one"] 1 bD)(d_plus:∀rl,Dfn P w K mg base rl "plus" ["one", "other"] 3 cJ)(d_times:∀rl,Dfn P w K mg base rl "times" ["one", "other"] 3 b5)   : Dfn P w K mg base rl "step_number" ["start", "step", "n"] 4 aG:=by
 have sc:=dY;refine Dfn.of Fn sc (aG.mono) (aG.len) (fun cdv A outer s H E hr=>(aq (aC (ar (d_wrapped _) (hr.mono (by decide)) (aa (ar (d_plus _) (hr.mono (by decide)) (aa (vn 0) (aa (ar (d_times _) (hr.mono (by decide)) (aa (cn (aa (vn 2) (aa ag ac))) (aa (vn 1) ac))) ac))) ac))))) ?_;rintro ws Q ⟨s,t,n,rfl,⟨h1,h2,h3⟩,hQ⟩;refine aE ?_;have e:CF [.int n,.int 1]=fr (n:Rat):=rfl;have s1:zP 2000 (n:Rat):=(gP h3 (by decide)).mono (by decide);have s2:zP 2000 t:=h2.mono (by decide);have s3:zP 2000 ((n:Rat)*t):=(i7 (gP h3 (by decide)) h2).mono (by decide);have s4:zP 2000 s:=h1.mono (by decide);have s5:zP 2000 (s+(n:Rat)*t):=(jo h1 (i7 (gP h3 (by decide)) h2)).mono (by decide);simp_arith only[aj,ah,bD.eq,cJ.eq,b5.eq,Bi,e];exact aK hQ
noncomputable def aT:List W->(Bl->Prop)->Prop:=fun ws Q=>∃(s:Rat)(n:Int),ws=[.d (fr s),.d (.int n)]/\((∃B,c7 s B/\B<=10^9)/\(n.natAbs<2^600))/\Q (fr (Ap s n))
theorem aT.mono:∀ws (Q Q':Bl->Prop),(∀d,Q d->Q' d)->aT ws Q->aT ws Q':=fun _ _ _ h_=>BI fun _=>BI fun _=>Bt (Bt (h_ _))
theorem aT.len:∀ws (Q:Bl->Prop),aT ws Q->ws.length=2:=fun _ _ h_=>by obtain⟨_,_,e_,_⟩:=h_;subst e_;rfl
theorem aT.eq(s:Rat)(n:Int)(h1:∃B,c7 s B/\B<=10^9)(h3:n.natAbs<2^600):aT [.d (fr s),.d (.int n)]=VL.ret (fr (Ap s n):Bl):=by
 refine ae fun Q=>⟨?_,fun q_=>⟨s,n,rfl,⟨h1,h3⟩,q_⟩⟩;rintro⟨s',n',e_,_,q_⟩;simp_arith only[gS,cq,cu,bN,bK,cy]at e_;obtain⟨rfl,rfl⟩:=e_;exact q_
theorem gl:FnScope ["step", "u"] ["step", "u"] (defScope (zp 21)):=⟨rfl,rfl,rfl,by decide +kernel,rfl,by decide +kernel,by decide +kernel⟩
theorem d_gap_above(Fn:FnIn K mg "gap_above" (zp 21) ["step", "u"])(Z:Bz mg)(d_step_number:∀rl,Dfn P w K mg base rl "step_number" ["start", "step", "n"] 4 aG)(gl_ZERO:GlD K mg "ZERO" (pr 0 1))  : Dfn P w K mg base rl "gap_above" ["step", "u"] 5 aT:=by
 have sc:=gl;refine Dfn.of Fn sc (aT.mono) (aT.len) (fun cdv A outer s H E hr=>(aq (aC (ar (d_step_number _) (hr.mono (by decide)) (aa (iO gl_ZERO) (aa (vn 0) (aa (vn 1) ac))))))) ?_;rintro ws Q ⟨s,n,rfl,⟨h1,h3⟩,hQ⟩;refine aE ?_;obtain⟨B,h1,hB⟩:=h1;have s1:zP 600 s:=(h1.sm hB).mono (by decide);have s2:zP 600 (0:Rat):=yL.mono (by decide);have s3:zP 2000 (Ap s n):=(gQ h1 hB n).mono (by decide);have s4:zP 2000 (1:Rat):=wa.up;have e:fr (zd (0+(n:Rat)*s))=fr (Ap s n):=congrArg fr (rY s n);simp_arith only[aj,ah,aG.eq,Bi,e];exact aK hQ
noncomputable def aS:List W->(Bl->Prop)->Prop:=fun ws Q=>∃(s:Rat)(n:Int),ws=[.d (fr s),.d (.int n)]/\((∃B,c7 s B/\B<=10^9)/\(n.natAbs<2^600))/\Q (fr (1-Ap s n))
theorem aS.mono:∀ws (Q Q':Bl->Prop),(∀d,Q d->Q' d)->aS ws Q->aS ws Q':=fun _ _ _ h_=>BI fun _=>BI fun _=>Bt (Bt (h_ _))
theorem aS.len:∀ws (Q:Bl->Prop),aS ws Q->ws.length=2:=fun _ _ h_=>by obtain⟨_,_,e_,_⟩:=h_;subst e_;rfl
theorem aS.eq(s:Rat)(n:Int)(h1:∃B,c7 s B/\B<=10^9)(h3:n.natAbs<2^600):aS [.d (fr s),.d (.int n)]=VL.ret (fr (1-Ap s n):Bl):=by
 refine ae fun Q=>⟨?_,fun q_=>⟨s,n,rfl,⟨h1,h3⟩,q_⟩⟩;rintro⟨s',n',e_,_,q_⟩;simp_arith only[gS,cq,cu,bN,bK,cy]at e_;obtain⟨rfl,rfl⟩:=e_;exact q_
theorem gj:FnScope ["step", "v"] ["step", "v"] (defScope (zp 22)):=⟨rfl,rfl,rfl,by decide +kernel,rfl,by decide +kernel,by decide +kernel⟩
theorem d_gap_below(Fn:FnIn K mg "gap_below" (zp 22) ["step", "v"])(Z:Bz mg)(d_less:∀rl,Dfn P w K mg base rl "less" ["one", "other"] 3 dB)(d_step_number:∀rl,Dfn P w K mg base rl "step_number" ["start", "step", "n"] 4 aG)(gl_ONE:GlD K mg "ONE" (pr 1 1))(gl_ZERO:GlD K mg "ZERO" (pr 0 1))  : Dfn P w K mg base rl "gap_below" ["step", "v"] 5 aS:=by
 have sc:=gj;refine Dfn.of Fn sc (aS.mono) (aS.len) (fun cdv A outer s H E hr=>(aq (aC (ar (d_less _) (hr.mono (by decide)) (aa (iO gl_ONE) (aa (ar (d_step_number _) (hr.mono (by decide)) (aa (iO gl_ZERO) (aa (vn 0) (aa (vn 1) ac)))) ac)))))) ?_;rintro ws Q ⟨s,n,rfl,⟨h1,h3⟩,hQ⟩;refine aE ?_;obtain⟨B,h1,hB⟩:=h1;have s1:zP 600 s:=(h1.sm hB).mono (by decide);have s2:zP 600 (0:Rat):=yL.mono (by decide);have s3:zP 2000 (Ap s n):=(gQ h1 hB n).mono (by decide);have s4:zP 2000 (1:Rat):=wa.up;have e:fr (zd (0+(n:Rat)*s))=fr (Ap s n):=congrArg fr (rY s n);simp_arith only[aj,ah,dB.eq,aG.eq,Bi,e];exact aK hQ
noncomputable def bF:List W->(Bl->Prop)->Prop:=fun ws Q=>∃(N:Int)(d:Bl),ws=[.d (.int N),.d d]/\(True)/\Q (.bool (zT N d))
theorem bF.mono:∀ws (Q Q':Bl->Prop),(∀d,Q d->Q' d)->bF ws Q->bF ws Q':=fun _ _ _ h_=>BI fun _=>BI fun _=>Bt (Bt (h_ _))
theorem bF.len:∀ws (Q:Bl->Prop),bF ws Q->ws.length=2:=fun _ _ h_=>by obtain⟨_,_,e_,_⟩:=h_;subst e_;rfl
theorem bF.eq(N:Int)(d:Bl)  : bF [.d (.int N),.d d]=VL.ret (.bool (zT N d):Bl):=by
 refine ae fun Q=>⟨?_,fun q_=>⟨N,d,rfl,trivial,q_⟩⟩;rintro⟨N',d',e_,_,q_⟩;simp_arith only[and_true]at e_;obtain⟨rfl,rfl⟩:=e_;exact q_
theorem jz:FnScope ["many", "thing"] ["many", "thing"] (defScope (zp 20)):=⟨rfl,rfl,rfl,by decide +kernel,rfl,by decide +kernel,by decide +kernel⟩
theorem d_is_pair(Fn:FnIn K mg "is_pair" (zp 20) ["many", "thing"])(Z:Bz mg)(d_is_place:∀rl,Dfn P w K mg base rl "is_place" ["thing", "many"] 2 bh)   : Dfn P w K mg base rl "is_pair" ["many", "thing"] 3 bF:=by
 have sc:=jz
 refine Dfn.of Fn sc (bF.mono) (bF.len) (fun cdv A outer s H E hr=>(ai (cC (A1.pb (sf (fT (fS (pK Z.isinstance_ (aa (vn 1) (aa (qp Z.tuple_ (by rfl)) ac))))) (oI (bf (lm hr.units) iJ (aO _) (pI Z.len_ (aa (vn 1) ac)) ag)))) (aq (aC eW)) bP)
  (aq (aC (v_all Z.all_ (aa (b8 ["n", "many"] [none,some 0] rfl (j6 (vn 1)) (fun _=>(aQ 0 (show Es (["n", "many"]:List Str) by decide +kernel))) (fun _=>di) (fun _=>(v_and (ar (d_is_place _) (hr.mono (by decide)) (aa (vn 0) (aa (vn 1) ac))) (pH (sv jF m7 (aO _) (vn 0) ag))))) ac)))))) ?_
 rintro ws Q ⟨N,d,rfl,_,hQ⟩;refine aE ?_;simp_arith only[aj,ah,bh.eq,sJ]
 cases ht:ja d "tuple" with
 | false=>rw[tL ht]at hQ;exact aK hQ
 | true =>
   obtain⟨xs,rfl⟩:=lO ht;by_cases hl:xs.length=2
   · obtain⟨x,y,rfl⟩:=jr hl;have sz:=B3;have one:∀x:Bl,(if gM x N=true then(VL.ret (B8 0):Mo Bl)else VL.ret (B8 0))=VL.ret (B8 0):=fun x=>by split<;>rfl
     simp_arith only[aj,ah,bh.eq];refine dP (xs:=[x,y]) (enc:=id) (fun z=>.bool (zU N z)) rfl ?_ (by show 2<=sizeLine;omega) ?_
     · intro z mz;simp_arith only[aj,ah,Ac,bh.eq,id_eq]
       cases hz:gM z N with
       | false =>
         have:zU N z=false:=by
          cases h:zU N z with
          | false=>rfl
          | true=>obtain⟨i,rfl,i0,i1⟩:=ff.mp h;simp[gM]at hz;omega
         simp_arith only[aj,ah,this]
       | true =>
         obtain⟨k,rfl,k0,k9⟩:=lP hz;have:zU N (.int k)=decide (0<k):=by simp[zU,k9]
         simp_arith only[aj,ah,this]
     · simp_arith only[aj,ah];refine aK ?_;have e:zT N (.tuple [x,y])=(zU N x&&(zU N y&&true)):=by simp[zT]
       rw[e]at hQ;exact hQ
   · have t:((xs.length:Int)==2)=false:=by simp;omega
     rw[qy hl]at hQ;simp_arith only[aj,ah,bh.eq,t];exact aK hQ
noncomputable def bG:List W->(Bl->Prop)->Prop:=fun ws Q=>∃(b:Bool)(qs:List Rat),ws=[.d (zD b qs)]/\((qs.length<60)/\(∀q∈qs,zP 2000 q))/\∀rs:List Rat,(cO qs rs)->Q (.tuple (rs.map fr))
theorem bG.mono:∀ws (Q Q':Bl->Prop),(∀d,Q d->Q' d)->bG ws Q->bG ws Q':=fun _ _ _ h_=>BI fun _=>BI fun _=>Bt (Bt fun q_ o_ ho_=>h_ _ (q_ o_ ho_))
theorem bG.len:∀ws (Q:Bl->Prop),bG ws Q->ws.length=1:=fun _ _ h_=>by obtain⟨_,_,e_,_⟩:=h_;subst e_;rfl
theorem bG.eq(b:Bool)(qs:List Rat)(hl:qs.length<60)(hq:∀q∈qs,zP 2000 q):bG [.d (zD b qs)]=Ax (anyM fun rs:List Rat=>cO qs rs) fun rs=>VL.ret (.tuple (rs.map fr):Bl):=by
 refine ae fun Q=>⟨?_,fun q_=>⟨b,qs,rfl,⟨hl,hq⟩,q_⟩⟩;rintro⟨b',qs',e_,_,q_⟩;simp_arith only[gS,cq,cu,bN,bK,cy,vX]at e_;obtain⟨rfl,rfl⟩:=e_;exact q_
theorem jA:FnScope ["some", "bottom", "scale", "by_size"] ["some"] (defScope (zp 16)):=⟨rfl,rfl,rfl,by decide +kernel,rfl,by decide +kernel,by decide +kernel⟩
theorem d_in_size(Fn:FnIn K mg "in_size" (zp 16) ["some"])(Z:Bz mg)    : Dfn P w K mg base rl "in_size" ["some"] 1 bG:=by
 have sc:=jA
 refine Dfn.of Fn sc (bG.mono) (bG.len) (fun cdv A outer s H E hr=>(ai (ba 1 sc.nd (si rfl Z.max_ (aa (b8 ["one"] [none] rfl (oH (vn 0)) (fun _=>(aQ 0 (show Es (["one"]:List Str) by decide +kernel))) (fun _=>di) (fun _=>(bH (vn 0) ag))) ac) ag))
  (ai (ba 2 sc.nd (v_mul (vn 1) (vn 1)))
  (ai (g9 3 sc.nd ["one", "scale"] [none,some 2] rfl (oH (vn 0)) (fun _=>(aQ 0 (show Es (["one", "scale"]:List Str) by decide +kernel))) (fun _=>di) (fun _=>(v_div (v_mul (bH (vn 0) ag) (vn 1)) (bH (vn 0) ag))) (fun _=>(vn 0)))
  (aq (aC (hG Z.tuple_ (aa (b8 ["size", "by_size"] [none,some 3] rfl (j7 (fX rfl Z.sorted_ (aa (vn 3) ac))) (fun _=>(aQ 0 (show Es (["size", "by_size"]:List Str) by decide +kernel))) (fun _=>di) (fun _=>(kd hr.un1 (vn 1) (vn 0)))) ac)))))))) ?_
 rintro ws Q ⟨b,qs,rfl,⟨hl,hq⟩,hQ⟩;refine aE ?_;have sz:=B3;simp_arith only[aj,ah,Bj,Bg,Bh,bU,Bi];refine zC (dP (xs:=qs) (enc:=fr) (fun q=>.int q.den) rfl ?_ (by omega) ?_)
 · intro q mq;simp_arith only[aj,ah,Ac,Bi]
 have e1:qs.map (fun q=>B8 q.den)=(qs.map fun q=>(q.den:Int)).map .int:=by rw[Cm];rfl
 rw[e1];obtain⟨mx1,mx2⟩:=t8 (qs.map fun q=>(q.den:Int));have hB:∀q∈qs,(q.den:Int)<=z7 1 (qs.map fun q=>(q.den:Int)):=fun q mq=>mx1 _ (Ch.mpr ⟨q,mq,rfl⟩)
 have bB:Bf (z7 1 (qs.map fun q=>(q.den:Int))):=by
  rcases mx2 with z|z
  · rw[z];exact fM (by decide)
  · obtain⟨q,mq,e⟩:=Ch.mp z;rw[<- e];exact fM (uV (hq q mq))
 have b2:(z7 1 (qs.map fun q=>(q.den:Int))).natAbs<2^2000:=by
  rcases mx2 with z|z
  · rw[z];decide
  · obtain⟨q,mq,e⟩:=Ch.mp z;rw[<- e];exact uV (hq q mq)
 simp_arith only[aj,ah,Bj,Bg,Bh,bU,Bi];generalize z7 1 (qs.map fun q=>(q.den:Int))=B at *;have cm:bo B B:=.bb bB bB
 have bS:Bf (B*B):=by
  unfold Bf;rw[DN];exact Bq (Fg b2 b2) (by rw[<- GX];exact BD (by decide) (by decide))
 simp_arith only[aj,ah,Bj,Bg,Bh,bU,Bi];refine zC (rC (xs:=qs) (enc:=fr) (fun q=>((Cs (zA (B*B) q):A5),fr q)) rfl ?_ (by omega) ?_)
 · intro q mq;have c1:bo q.num (B*B):=.bb (hq q mq).bn bS;have c2:cB (q.num*(B*B)) q.den:=⟨by have:=dL q;omega,Bq (uV (hq q mq)) (BD (by decide) (by decide))⟩;simp_arith only[aj,ah,Ae,Bj,Bg,Bh,bU,Bi];rfl
 obtain⟨ms,f1,f2,f3,f4,f5⟩:=rq (zA (B*B)) qs fun q r mq mr e=>kF (hB q mq) (hB r mr) e;have ef:((qs.map fun q=>((Cs (zA (B*B) q):A5),fr q)).foldl (fun a p=>VL.putF a p.1 p.2) [])=rA (zA (B*B)) qs:=rfl;rw[ef];simp_arith only[aj,ah,Bj,Bg,Bh,bU,Bi];refine kJ ms f1 (by omega) ?_;intro ns pm pw;obtain⟨rs,er,hr,so⟩:=kK hB f2 f3 pm pw;subst er;have lr:=ju so;simp_arith only[aj,ah,Bj,Bg,Bh,bU,Bi];refine dP (xs:=rs) (enc:=fun r=>B8 (zA (B*B) r)) fr (by rw[Cm];rfl) ?_ (by omega) ?_
 · intro r mr;have v:=f4 r (hr r mr);simp_arith only[aj,ah,Ac,Bj,Bg,Bh,bU,Bi,v]
 exact aK (hQ rs so)
namespace Ct
section
variable{α κ:Type}[DecidableEq α][DecidableEq κ]
noncomputable def getC(m:List (α×Int))(k:α):Option Int:=(m.find? fun p=>decide (p.1=k)).map (·.2)
noncomputable def addC(m:List (α×Int))(k:α)(o:Int):List (α×Int) :=
 if(m.any fun p=>decide (p.1=k))=true then m.map (fun p=>if p.1=k then(p.1,(getC m k).getD 0+o)else p)else m++[(k,(getC m k).getD 0+o)]
noncomputable def total(xs:List (α×Int))(k:α):Int:=(xs.map fun p=>if p.1=k then p.2 else 0).sum
structure Cnts (xs m:List (α×Int)):Prop where
 nd:(m.map (·.1)).Nodup
 val:∀k,getC m k=if k∈xs.map (·.1)then some (total xs k)else none
theorem Cnts.nil:Cnts ([]:List (α×Int)) []:=⟨Ec,fun k=>rfl⟩
theorem total_snoc(xs:List (α×Int))(j k:α)(o:Int):total (xs++[(j,o)]) k=total xs k+if j=k then o else 0:=by simp[total]
theorem f_{k:α}:∀{xs:List (α×Int)},k∉xs.map (·.1)->total xs k=0
 | [],_=>rfl
 | p::xs,h=>by
   rw[BM,BL,not_or]at h;have:=f_ (xs:=xs) h.2;unfold total at *;rw[BM,D5,if_neg (Ek h.1),this];rfl
theorem lV{m:List (α×Int)}{k:α}:getC m k=none↔k∉m.map (·.1):=by
 unfold getC;rw[Fq,EM,Ch];constructor
 · rintro h ⟨p,mp,e⟩;exact h p mp (by simpa using e)
 · intro h p mp e;exact h ⟨p,mp,by simpa using e⟩
theorem getC_mem{m:List (α×Int)}{k:α}:k∈m.map (·.1)↔∃c,getC m k=some c:=by
 rw[<- CJ,<- Decidable.not_iff_not,Bool.not_eq_true,Option.isSome_eq_false_iff,Option.isNone_iff_eq_none,lV]
theorem wH{m:List (α×Int)}{k:α}:(m.any fun p=>decide (p.1=k))=true↔k∈m.map (·.1):=by
 rw[List.any_eq_true,Ch];constructor
 · rintro⟨p,a,b⟩;exact⟨p,a,of_decide_eq_true b⟩
 · rintro⟨p,a,b⟩;exact⟨p,a,decide_eq_true b⟩
theorem getC_add(m:List (α×Int))(j k:α)(o:Int):getC (addC m j o) k=if j=k then some ((getC m j).getD 0+o)else getC m k:=by
 unfold addC;generalize hv:(getC m j).getD 0+o=v;clear hv;by_cases c:(m.any fun p=>decide (p.1=j))=true
 · rw[if_pos c];have mj:=wH.mp c;unfold getC;rw[List.find?_map]
   have e:((fun p:α×Int=>decide (p.1=k)) ∘ fun p:α×Int=>if p.1=j then(p.1,v)else p)=fun p=>decide (p.1=k):=by
    funext p;show decide ((if p.1=j then(p.1,v)else p).1=k)=_;split<;>rfl
   rw[e];by_cases jk:j=k
   · subst jk;rw[if_pos rfl];obtain⟨x,hx⟩:=getC_mem.mp mj;unfold getC at hx
     cases hf:m.find? (fun p=>decide (p.1=j))with
     | none=>rw[hf]at hx;cases hx
     | some p =>
       have:=EE hf;have:p.1=j:=of_decide_eq_true this;simp[this]
   · rw[if_neg jk]
     cases hf:m.find? (fun p=>decide (p.1=k))with
     | none=>rfl
     | some p =>
       have:=EE hf;have:p.1=k:=of_decide_eq_true this;simp only[Option.map_some];rw[if_neg (fun z=>jk (z.symm.trans this))]
 · rw[if_neg c];have mj:j∉m.map (·.1):=fun z=>c (wH.mpr z);unfold getC;rw[List.find?_append];by_cases jk:j=k
   · subst jk;have:=lV.mpr mj;unfold getC at this;rw[Fq]at this;rw[this,if_pos rfl];simp
   · rw[if_neg jk];simp[jk]
theorem nd_add{m:List (α×Int)}(h:(m.map (·.1)).Nodup)(j:α)(o:Int):((addC m j o).map (·.1)).Nodup:=by
 unfold addC;split
 · rw[Cm]
   have:((fun p:α×Int=>p.1) ∘ fun p:α×Int=>if p.1=j then(p.1,(getC m j).getD 0+o)else p)=fun p=>p.1:=by
    funext p;show(if p.1=j then(p.1,(getC m j).getD 0+o)else p).1=_;split<;>rfl
   rw[this];exact h
 · rename_i c;rw[C3]
   exact List.nodup_append.mpr ⟨h,DC.mpr ⟨Da,Ec⟩,fun a ma b mb e=>c (wH.mpr (by
    rw[D6.mp (show b∈[j]from mb)]at e;rw[<- e];exact ma))⟩
theorem Cnts.add{xs m:List (α×Int)}(h:Cnts xs m)(j:α)(o:Int):Cnts (xs++[(j,o)]) (addC m j o):=by
 refine⟨nd_add h.nd j o,fun k=>?_⟩;rw[getC_add,total_snoc,C3,h.val,h.val];by_cases jk:j=k
 · subst jk;rw[if_pos rfl,if_pos (show j∈xs.map (·.1)++[(j,o)].map (·.1)from BP _ (D6.mpr rfl)),if_pos rfl];by_cases c:j∈xs.map (·.1)
   · rw[if_pos c];rfl
   · rw[if_neg c,f_ c];rfl
 · rw[if_neg jk,if_neg jk,Int.add_zero];have:(k∈xs.map (·.1)++[(j,o)].map (·.1))=(k∈xs.map (·.1)):=by simp[Ek jk]
   simp only[this]
noncomputable def encC(e:α->κ)(m:List (α×Int)):List (κ×Bl):=m.map fun p=>(e p.1,.int p.2)
theorem enc_get{e:α->κ}(inj:∀a b,e a=e b->a=b)(m:List (α×Int))(k:α):((encC e m).find? fun kv=>decide (kv.1=e k)).map (·.2)=(getC m k).map .int:=by
 unfold encC getC;rw[List.find?_map]
 have:((fun kv:κ×Bl=>decide (kv.1=e k)) ∘ fun p:α×Int=>(e p.1,B8 p.2))=fun p=>decide (p.1=k):=by
  funext p;show decide (e p.1=e k)=decide (p.1=k);rw[decide_eq_decide];exact⟨inj _ _,fun z=>by rw[z]⟩
 rw[this,Gc,Gc];rfl
theorem enc_put{e:α->κ}(inj:∀a b,e a=e b->a=b)(m:List (α×Int))(k:α)(o:Int) :
 (if((encC e m).any fun kv=>decide (kv.1=e k))=true then(encC e m).map (fun kv=>if kv.1=e k then(kv.1,B8 ((getC m k).getD 0+o))else kv)else encC e m++[(e k,B8 ((getC m k).getD 0+o))])=encC e (addC m k o):=by
 have a:((encC e m).any fun kv=>decide (kv.1=e k))=m.any fun p=>decide (p.1=k):=by
  unfold encC;rw[List.any_map];congr 1;funext p;show decide (e p.1=e k)=decide (p.1=k);rw[decide_eq_decide];exact⟨inj _ _,fun z=>by rw[z]⟩
 rw[a];unfold addC;split
 · unfold encC;rw[Cm,Cm];refine DR fun p _=>?_;show(if e p.1=e k then(e p.1,B8 _)else(e p.1,B8 p.2))=(e (if p.1=k then _ else p).1,B8 (if p.1=k then _ else p).2);by_cases z:p.1=k
   · rw[if_pos z,if_pos (by rw[z])]
   · rw[if_neg z,if_neg (fun h=>z (inj _ _ h))]
 · unfold encC;rw[C3];rfl
end
end Ct
theorem mi[DecidableEq α]{e:α->List Int}(inj:∀a b,e a=e b->a=b)(m:List (α×Int))(k:α):mQ (Ct.encC e m) (e k)=(Ct.getC m k).map .int:=Ct.enc_get inj m k
theorem rG[DecidableEq α]{e:α->List Int}(inj:∀a b,e a=e b->a=b)(m:List (α×Int))(k:α)(o:Int):rS (Ct.encC e m) (e k) (.int ((Ct.getC m k).getD 0+o))=Ct.encC e (Ct.addC m k o):=Ct.enc_put inj m k o
theorem mm[DecidableEq α]{e:α->A5}(inj:∀a b,e a=e b->a=b)(m:List (α×Int))(k:α):c6 (Ct.encC e m) (e k)=(Ct.getC m k).map .int:=Ct.enc_get inj m k
theorem rH[DecidableEq α]{e:α->A5}(inj:∀a b,e a=e b->a=b)(m:List (α×Int))(k:α)(o:Int):putF (Ct.encC e m) (e k) (.int ((Ct.getC m k).getD 0+o))=Ct.encC e (Ct.addC m k o):=Ct.enc_put inj m k o
namespace Gap
structure NI (p q N u v a b:Int):Prop where
 u1:1<=u
 uN:u<N
 v1:1<=v
 vN:v<N
 a1:1<=a
 b1:1<=b
 ex:∃k l:Int,a=u*p-k*q/\b=l*q-v*p/\u*l-v*k=1
theorem NI.sum{p q v a:Int}(h:NI p q N u v a b):v*a+u*b=q:=by
 obtain⟨_,_,_,_,_,_,k,l,rfl,rfl,d⟩:=h;have:v*(u*p-k*q)+u*(l*q-v*p)=(u*l-v*k)*q:=by grind
 rw[this,d];omega
theorem NI.num{p q v a:Int}(h:NI p q N u v a b):∃x y:Int,p=x*a+y*b:=by
 obtain⟨_,_,_,_,_,_,k,l,rfl,rfl,d⟩:=h;refine⟨l,k,?_⟩;have:l*(u*p-k*q)+k*(l*q-v*p)=(u*l-v*k)*p:=by grind
 rw[this,d];omega
theorem NI.begin{p q:Int}(h0:0<p)(h1:p<q)(hN:2<=N):NI p q N 1 1 p (q-p):=⟨by omega,by omega,by omega,by omega,by omega,by omega,0,1,by omega,by omega,by omega⟩
theorem mul_le_ge{x y:Int}(hx:1<=x)(hy:0<=y):y<=x*y:=by have:=BA hx hy;omega
theorem NI.le{p q v a:Int}(h:NI p q N u v a b):u+v<=q/\a<q/\b<q:=by
 have s:=h.sum;obtain⟨u1,_,v1,_,a1,b1,_⟩:=h;have x1:=mul_le_ge v1 (show 0<=a by omega);have x2:=mul_le_ge u1 (show 0<=b by omega);have y1:=mul_le_ge a1 (show 0<=v by omega);have y2:=mul_le_ge b1 (show 0<=u by omega);rw[DF]at y1 y2;omega
theorem NI.ne{p q v a:Int}(hg:BU p q=1)(h:NI p q N u v a b)(c:u+v<q):a≠b:=by
 intro e;subst e;have s:=h.sum;obtain⟨x,y,hp⟩:=h.num;have d1:a∣p:=⟨x+y,by rw[hp];grind⟩;have d2:a∣q:=⟨v+u,by rw[<- s];grind⟩;have d:a∣(BU p q:Int):=Int.dvd_coe_gcd d1 d2;rw[hg]at d;have:a=1:=by have:=h.a1;exact Int.le_antisymm (Gy (by decide) d) this
 subst this;omega
theorem NI.up{p q v a o:Int}(h:NI p q N u v a b)(h1:o*b<a)(h2:u+o*v<N)(h0:0<=o):NI p q N (u+o*v) v (a-o*b) b:=by
 obtain⟨u1,uN,v1,vN,a1,b1,k,l,ea,eb,d⟩:=h;have:=CV h0 (show 0<=v by omega);refine⟨by omega,h2,v1,vN,by omega,b1,k+o*l,l,?_,eb,?_⟩
 · rw[ea,eb];grind
 · have:(u+o*v)*l-v*(k+o*l)=u*l-v*k:=by grind
   rw[this,d]
theorem NI.down{p q v a o:Int}(h:NI p q N u v a b)(h1:o*a<b)(h2:v+o*u<N)(h0:0<=o):NI p q N u (v+o*u) a (b-o*a):=by
 obtain⟨u1,uN,v1,vN,a1,b1,k,l,ea,eb,d⟩:=h;have:=CV h0 (show 0<=u by omega);refine⟨u1,uN,by omega,h2,a1,by omega,k,l+o*k,ea,?_,?_⟩
 · rw[ea,eb];grind
 · have:u*(l+o*k)-(v+o*u)*k=u*l-v*k:=by grind
   rw[this,d]
theorem NI.nb{p q v a:Int}(h:NI p q N u v a b)(hN:N<=u+v):Nb p q N u v:=by
 have s:=h.sum;obtain⟨_,ha,hb⟩:=h.le;obtain⟨u1,uN,v1,vN,a1,b1,k,l,ea,eb,d⟩:=h;have e1:pt p q u=a:=by rw[eX (m:=k) (by omega) (by omega),ea]
 have x:(l-1)*q=l*q-q:=by rw[Dg];omega
 have e2:pt p q v=q-b:=by rw[eX (m:=l-1) (by omega) (by omega)];omega
 refine⟨by omega,uN,by omega,vN,hN,?_⟩;rw[e1,e2,show q-(q-b)=b by omega];exact s
theorem often_ok{a v:Int}(hb:1<=b)(hab:b<a)(hm:1<=m)(hv:1<=v)(o:Int)(e:o=min ((a-1).fdiv b) (-((-m).fdiv v))):1<=o/\o*b<a/\o*v<m+v:=by
 have x1:(a-1).fdiv b=(a-1) / b:=Ca _ (by omega);have x2:(-m).fdiv v=(-m) / v:=Ca _ (by omega);rw[x1,x2]at e;have p1:1<=(a-1) / b:=(Int.le_ediv_iff_mul_le (by omega)).mpr (by omega);have q1:(a-1) / b*b<=a-1:=Int.ediv_mul_le _ (by omega);have p2:(-m) / v<0:=Int.ediv_neg_of_neg_of_pos (by omega) (by omega);have q2:(-m)<((-m) / v+1)*v:=Int.lt_ediv_add_one_mul_self _ (by omega);rw[Cj]at q2;have o1:1<=o:=by omega
 have l1:=BA (show o<=(a-1) / b by omega) (show 0<=b by omega);have l2:=BA (show o <= -((-m) / v) by omega) (show 0<=v by omega);rw[Int.neg_mul]at l2;exact⟨o1,by omega,by omega⟩
noncomputable def nxN(u v N n:Int):Int:=if n+u<N then n+u else if v<=n then n-v else n+u-v
section
variable{p q N u v:Int}
theorem pt_zero(p q:Int):pt p q 0=0:=by unfold pt;rw[Int.zero_mul,Int.zero_emod]
theorem lc{n:Int}(h0:0<=pt p q m+pt p q n)(h1:pt p q m+pt p q n<q):pt p q (m+n)=pt p q m+pt p q n:=by
 have e1:=pt_eq p q m;have e2:=pt_eq p q n;have e:(m+n)*p-(m*p / q+n*p / q)*q=pt p q m+pt p q n:=by rw[Cj,Cj];omega
 rw[eX (m:=m*p / q+n*p / q) (by omega) (by omega),e]
theorem eY{n:Int}(h0:q<=pt p q m+pt p q n)(h1:pt p q m+pt p q n<q+q):pt p q (m+n)=pt p q m+pt p q n-q:=by
 have e1:=pt_eq p q m;have e2:=pt_eq p q n;have e:(m+n)*p-(m*p / q+n*p / q+1)*q=pt p q m+pt p q n-q:=by rw[Cj,Cj,Cj];omega
 rw[eX (m:=m*p / q+n*p / q+1) (by omega) (by omega),e]
theorem k_{n:Int}(h0:0<=pt p q m-pt p q n)(h1:pt p q m-pt p q n<q):pt p q (m-n)=pt p q m-pt p q n:=by
 have e1:=pt_eq p q m;have e2:=pt_eq p q n;have e:(m-n)*p-(m*p / q-n*p / q)*q=pt p q m-pt p q n:=by rw[Dg,Dg];omega
 rw[eX (m:=m*p / q-n*p / q) (by omega) (by omega),e]
theorem cR{n:Int}(h0:pt p q m-pt p q n<0)(h1:0<=pt p q m-pt p q n+q):pt p q (m-n)=pt p q m-pt p q n+q:=by
 have e1:=pt_eq p q m;have e2:=pt_eq p q n;have e:(m-n)*p-(m*p / q-n*p / q-1)*q=pt p q m-pt p q n+q:=by rw[Dg,Dg,Dg];omega
 rw[eX (m:=m*p / q-n*p / q-1) (by omega) (by omega),e]
theorem pt_inj0(hq:0<q)(hg:BU p q=1)(hN:N<=q){n:Int}(m0:0<=m)(mN:m<N)(n0:0<=n)(nN:n<N)(e:pt p q m=pt p q n):m=n:=by
 rcases Cv m0 with a|a<;>rcases Cv n0 with b|b
 · exact lb hq hg hN a mN b nN e
 · subst b;rw[pt_zero]at e;have:=pt_pos (p:=p) (n:=m) hq hg a (by omega);omega
 · subst a;rw[pt_zero]at e;have:=pt_pos (p:=p) (n:=n) hq hg b (by omega);omega
 · omega
noncomputable def gpN(p q u v N n:Int):Int:=if n+u<N then pt p q u else if v<=n then q-pt p q v else pt p q u+(q-pt p q v)
theorem next_ok(hq:0<q)(hg:BU p q=1)(hN:N<=q)(h:Ex p q N u v)(hf:N<=u+v){n:Int}(n0:0<=n)(nN:n<N) :
 (0<=nxN u v N n/\nxN u v N n<N)/\((n=v/\nxN u v N n=0/\gpN p q u v N n=q-pt p q n) \/
  (n≠v/\pt p q (nxN u v N n)=pt p q n+gpN p q u v N n/\0<gpN p q u v N n/\∀j,0<=j->j<N->pt p q n<pt p q j->pt p q (nxN u v N n)<=pt p q j)):=by
 obtain⟨u0,uN,v0,vN,lo,hi⟩:=h;have bd:=fun n=>pt_bd (p:=p) (n:=n) hq;have inj:=fun{m n:Int}(m0:0<=m)(mN:m<N)(n0:0<=n)(nN:n<N)(e:pt p q m=pt p q n)=>pt_inj0 hq hg hN m0 mN n0 nN e;have pa:=pt_pos (p:=p) (n:=u) hq hg u0 (by omega);have pv:=pt_pos (p:=p) (n:=v) hq hg v0 (by omega);have bu:=bd u;have bv:=bd v;have bn:=bd n;unfold nxN gpN;by_cases c1:n+u<N
 · rw[if_pos c1,if_pos c1];refine⟨⟨by omega,c1⟩,.inr ⟨by omega,?_,pa,fun j j0 jN lt=>?_⟩⟩
   · by_cases w:pt p q n+pt p q u<q
     · exact lc (by omega) w
     · have e:=eY (p:=p) (q:=q) (m:=n) (n:=u) (by omega) (by omega);have:=lo (n+u) (by omega) c1;omega
   · have bj:=bd j;by_cases w:pt p q n+pt p q u<q
     · rw[lc (by omega) w];rcases Df (pt p q j) (pt p q n+pt p q u)with b|b
       · exfalso;rcases Dm j n with x|x|x
         · have e1:=cR (p:=p) (q:=q) (m:=n) (n:=j) (by omega) (by omega);have e2:=eY (p:=p) (q:=q) (m:=n-j) (n:=u) (by omega) (by omega);have:=lo (n-j+u) (by omega) (by omega);omega
         · subst x;omega
         · have e1:=k_ (p:=p) (q:=q) (m:=j) (n:=n) (by omega) (by omega);have:=lo (j-n) (by omega) (by omega);omega
       · exact b
     · exfalso;have e:=eY (p:=p) (q:=q) (m:=n) (n:=u) (by omega) (by omega);have:=lo (n+u) (by omega) c1;omega
 · rw[if_neg c1,if_neg c1];have n1:0<n:=by omega
   have hn:=hi n n1 nN
   have far:∀j,j<N->n<j->pt p q n<pt p q j->pt p q j-pt p q n<pt p q u+(q-pt p q v)->False:=fun j jN x lt b=>by
    have bj:=bd j;have e1:=k_ (p:=p) (q:=q) (m:=j) (n:=n) (by omega) (by omega);have l:=lo (j-n) (by omega) (by omega);rcases Cv l with l|l
    · have e2:=cR (p:=p) (q:=q) (m:=u) (n:=j-n) (by omega) (by omega);have:=hi (u-(j-n)) (by omega) (by omega);omega
    · have:=inj (by omega) uN (by omega) (by omega) l;omega
   by_cases c2:v<=n
   · rw[if_pos c2,if_pos c2];refine⟨⟨by omega,by omega⟩,?_⟩;by_cases nv:n=v
     · subst nv;exact .inl ⟨rfl,by omega,rfl⟩
     refine .inr ⟨nv,?_,by omega,fun j j0 jN lt=>?_⟩
     all_goals
      have ne:pt p q n≠pt p q v:=fun e=>nv (inj (by omega) nN (by omega) vN e);have e0:=cR (p:=p) (q:=q) (m:=n) (n:=v) (by omega) (by omega)
     · omega
     · have bj:=bd j;rw[e0];rcases Df (pt p q j) (pt p q n-pt p q v+q)with b|b
       · exfalso;rcases Dm j n with x|x|x
         · have e1:=cR (p:=p) (q:=q) (m:=n) (n:=j) (by omega) (by omega);have:=hi (n-j) (by omega) (by omega);omega
         · subst x;omega
         · exact far j jN x lt (by omega)
       · omega
   · rw[if_neg c2,if_neg c2];refine⟨⟨by omega,by omega⟩,.inr ⟨by omega,?_,by omega,fun j j0 jN lt=>?_⟩⟩
     all_goals
      have ne:pt p q n≠pt p q v:=fun e=>by have:=inj (by omega) nN (by omega) vN e;omega
      have e0:=cR (p:=p) (q:=q) (m:=n) (n:=v) (by omega) (by omega)
      have w:pt p q (n-v)+pt p q u<q:=by
       rcases Df (pt p q (n-v)+pt p q u) q with w|w
       · exact w
       · exfalso;have e:=eY (p:=p) (q:=q) (m:=n-v) (n:=u) (by omega) (by omega);have l:=lo (n-v+u) (by omega) (by omega);have:n-v+u=u:=inj (by omega) (by omega) (by omega) uN (by omega);omega
      have e1:=lc (p:=p) (q:=q) (m:=n-v) (n:=u) (by omega) w;rw[show n+u-v=n-v+u by omega]
     · omega
     · have bj:=bd j;rw[e1,e0];rcases Df (pt p q j) (pt p q n-pt p q v+q+pt p q u)with b|b
       · exfalso;rcases Dm j n with x|x|x
         · have e2:=cR (p:=p) (q:=q) (m:=n) (n:=j) (by omega) (by omega);have l:=hi (n-j) (by omega) (by omega);rcases Cv l with l|l
           · have e3:=k_ (p:=p) (q:=q) (m:=v) (n:=n-j) (by omega) (by omega);have:=lo (v-(n-j)) (by omega) (by omega);omega
           · have:=inj (by omega) (by omega) (by omega) vN l;omega
         · subst x;omega
         · exact far j jN x lt (by omega)
       · exact b
end
end Gap
noncomputable def aR:List W->(Bl->Prop)->Prop:=fun ws Q=>∃(a b:Int),ws=[.d (.int a),.d (.int b)]/\((0<b)/\(b.natAbs<2^64))/\Q (.int (-((-a).fdiv b)))
theorem aR.mono:∀ws (Q Q':Bl->Prop),(∀d,Q d->Q' d)->aR ws Q->aR ws Q':=fun _ _ _ h_=>BI fun _=>BI fun _=>Bt (Bt (h_ _))
theorem aR.len:∀ws (Q:Bl->Prop),aR ws Q->ws.length=2:=fun _ _ h_=>by obtain⟨_,_,e_,_⟩:=h_;subst e_;rfl
theorem aR.eq(a b:Int)(hb:0<b)(hz:b.natAbs<2^64):aR [.d (.int a),.d (.int b)]=VL.ret (.int (-((-a).fdiv b)):Bl):=by
 refine ae fun Q=>⟨?_,fun q_=>⟨a,b,rfl,⟨hb,hz⟩,q_⟩⟩;rintro⟨a',b',e_,_,q_⟩;simp_arith only[and_true]at e_;obtain⟨rfl,rfl⟩:=e_;exact q_
theorem eT:FnScope ["top", "bottom"] ["top", "bottom"] (defScope (zp 14)):=⟨rfl,rfl,rfl,by decide +kernel,rfl,by decide +kernel,by decide +kernel⟩
theorem d_rounded_up(Fn:FnIn K mg "rounded_up" (zp 14) ["top", "bottom"])(Z:Bz mg)    : Dfn P w K mg base rl "rounded_up" ["top", "bottom"] 1 aR:=by
 have sc:=eT;refine Dfn.of Fn sc (aR.mono) (aR.len) (fun cdv A outer s H E hr=>(aq (aC (m8 (v_div (m8 (vn 0)) (vn 1)))))) ?_;rintro ws Q ⟨a,b,rfl,⟨hb,hz⟩,hQ⟩;refine aE ?_;have c1:cB (-a) b:=.of (by omega) hz;simp_arith only[aj,ah];exact aK hQ
noncomputable def zZ(N:Int)(z:(Int×Int)×Int×Int):(Int×Int)×Int×Int :=
 if z.2.2<z.2.1 then((z.1.1+min ((z.2.1-1).fdiv z.2.2) (-((-(N-z.1.1-z.1.2)).fdiv z.1.2))*z.1.2,z.1.2),(z.2.1-min ((z.2.1-1).fdiv z.2.2) (-((-(N-z.1.1-z.1.2)).fdiv z.1.2))*z.2.2,z.2.2))
 else((z.1.1,z.1.2+min ((z.2.2-1).fdiv z.2.1) (-((-(N-z.1.1-z.1.2)).fdiv z.1.1))*z.1.1),(z.2.1,z.2.2-min ((z.2.2-1).fdiv z.2.1) (-((-(N-z.1.1-z.1.2)).fdiv z.1.1))*z.2.1))
noncomputable def aB:List W->(Bl->Prop)->Prop:=fun ws Q=>∃(s:Rat)(N:Int),ws=[.d (fr s),.d (.int N)]/\((∃B,c7 s B/\B<=10^9)/\(2<=N)/\(N<=s.den))/\∀z:Int×Int,(Gap.Nb s.num s.den N z.1 z.2)->Q (.tuple [.int z.1,.int z.2])
theorem aB.mono:∀ws (Q Q':Bl->Prop),(∀d,Q d->Q' d)->aB ws Q->aB ws Q':=fun _ _ _ h_=>BI fun _=>BI fun _=>Bt (Bt fun q_ o_ ho_=>h_ _ (q_ o_ ho_))
theorem aB.len:∀ws (Q:Bl->Prop),aB ws Q->ws.length=2:=fun _ _ h_=>by obtain⟨_,_,e_,_⟩:=h_;subst e_;rfl
theorem aB.eq(s:Rat)(N:Int)(hs:∃B,c7 s B/\B<=10^9)(h2:2<=N)(hN:N<=s.den):aB [.d (fr s),.d (.int N)]=Ax (anyM fun z:Int×Int=>Gap.Nb s.num s.den N z.1 z.2) fun z=>VL.ret (.tuple [.int z.1,.int z.2]:Bl):=by
 refine ae fun Q=>⟨?_,fun q_=>⟨s,N,rfl,⟨hs,h2,hN⟩,q_⟩⟩;rintro⟨s',N',e_,_,q_⟩;simp_arith only[gS,cq,cu,bN,bK,cy]at e_;obtain⟨rfl,rfl⟩:=e_;exact q_
theorem eU:FnScope ["step", "many", "u", "v", "above", "below", "often"] ["step", "many"] (defScope (zp 25)):=⟨rfl,rfl,rfl,by decide +kernel,rfl,by decide +kernel,by decide +kernel⟩
theorem d_neighbours(Fn:FnIn K mg "neighbours" (zp 25) ["step", "many"])(Z:Bz mg)(d_rounded_up:∀rl,Dfn P w K mg base rl "rounded_up" ["top", "bottom"] 1 aR)   : Dfn P w K mg base rl "neighbours" ["step", "many"] 2 aB:=by
 have sc:=eU
 refine Dfn.of Fn sc (aB.mono) (aB.len) (fun cdv A outer s H E hr=>(ai (pA 2 3 sc.nd ag)
  (ai (iF 4 5 rfl sc.nd (aa (bH (vn 0) ag) (aa (v_sub (bH (vn 0) ag) (bH (vn 0) ag)) ac)))
  (ai (dj [6] C4 (bf fu g_ (aO _) (v_add (vn 2) (vn 3)) (d7 Z.min_ (aa (vn 1) (aa (bH (vn 0) ag) ac)))) (aq (cC (bf jF m7 (aO _) (vn 4) (vn 5)) (ai (ba 6 sc.nd (d7 Z.min_ (aa (v_div (v_sub (vn 4) ag) (vn 5)) (aa (ar (d_rounded_up _) (hr.mono (by decide)) (aa (v_sub (v_sub (vn 1) (vn 2)) (vn 3)) (aa (vn 3) ac))) ac))))
  (ai (iG 2 sc.nd lR (v_mul (vn 6) (vn 3)))
  (aq (iG 4 sc.nd lQ (v_mul (vn 6) (vn 5)))))) (ai (ba 6 sc.nd (d7 Z.min_ (aa (v_div (v_sub (vn 5) ag) (vn 4)) (aa (ar (d_rounded_up _) (hr.mono (by decide)) (aa (v_sub (v_sub (vn 1) (vn 2)) (vn 3)) (aa (vn 2) ac))) ac))))
  (ai (iG 3 sc.nd lR (v_mul (vn 6) (vn 2)))
  (aq (iG 5 sc.nd lQ (v_mul (vn 6) (vn 4)))))))))
  (aq (aC (cn (aa (vn 2) (aa (vn 3) ac))))))))) ?_
 rintro ws Q ⟨s,N,rfl,⟨hs,h2,hN⟩,hQ⟩;refine aE ?_;obtain⟨B,⟨h3,h4,h5⟩,hB⟩:=hs;have hg:=lW s;have mN:min N (s.den:Int)=N:=by omega
 simp_arith only[aj,ah,Bi,s0];refine eJ (σ:=(Int×Int)×(Int×Int)) (fun z=>[some (.d (fr s)),some (.d (.int N)),some (.d (.int z.1.1)),some (.d (.int z.1.2)),some (.d (.int z.2.1)),some (.d (.int z.2.2)),none]) (fun z=>decide (z.1.1+z.1.2<N)) (zZ N) (fun z=>(N-(z.1.1+z.1.2)).toNat) (fun z=>Gap.NI s.num s.den N z.1.1 z.1.2 z.2.1 z.2.2) ((1,1),(s.num,s.den-s.num)) rfl (Gap.NI.begin h3 h4 h2) ?_ ?_ ?_
 · rintro⟨⟨u,v⟩,a,b⟩ h;simp_arith only[aj,ah,Bi,mN]
 · rintro⟨⟨u,v⟩,a,b⟩ h' c;have h:Gap.NI s.num s.den N u v a b:=h';clear h';have c1:u+v<N:=by simpa using c
   have ne:=Gap.NI.ne hg h (show u+v<(s.den:Int) by omega);obtain⟨u1,uN,v1,vN,a1,b1,_⟩:=id h;by_cases ab:b<a
   · have e:zZ N ((u,v),a,b)=((u+min ((a-1).fdiv b) (-((-(N-u-v)).fdiv v))*v,v),(a-min ((a-1).fdiv b) (-((-(N-u-v)).fdiv v))*b,b)):=if_pos ab;rw[e];obtain⟨o1,o2,o3⟩:=Gap.often_ok b1 ab (show 1<=N-u-v by omega) v1 _ rfl;have vp:0<v:=by omega
     have bz:b≠0:=by omega
     generalize ho:min ((a-1).fdiv b) (-((-(N-u-v)).fdiv v))=o at *;have l1:=Gap.mul_le_ge o1 (show 0<=v by omega);have l2:=Gap.mul_le_ge v1 (show 0<=o by omega);have l3:=Gap.mul_le_ge b1 (show 0<=o by omega);rw[DF]at l2 l3;have hl:=h.le;have m3:cB (a-1) b:=.of bz (by omega);have vz:v.natAbs<2^64:=by omega
     have m1:bo o v:=.rt (by omega);have m2:bo o b:=.rt (by omega);refine⟨h.up o2 (by omega) (by omega),(show(N-(u+o*v+v)).toNat<(N-(u+v)).toNat by omega),_,by(simp_arith only[aj,ah,Bi,bz,vp,ho,ab,m1,m2,m3,aR.eq])<;>rfl,rfl⟩
   · have ab':a<b:=by omega
     have e:zZ N ((u,v),a,b)=((u,v+min ((b-1).fdiv a) (-((-(N-u-v)).fdiv u))*u),(a,b-min ((b-1).fdiv a) (-((-(N-u-v)).fdiv u))*a)):=if_neg ab;rw[e];obtain⟨o1,o2,o3⟩:=Gap.often_ok a1 ab' (show 1<=N-u-v by omega) u1 _ rfl;have up:0<u:=by omega
     have az:a≠0:=by omega
     generalize ho:min ((b-1).fdiv a) (-((-(N-u-v)).fdiv u))=o at *;have l1:=Gap.mul_le_ge o1 (show 0<=u by omega);have l2:=Gap.mul_le_ge u1 (show 0<=o by omega);have l3:=Gap.mul_le_ge a1 (show 0<=o by omega);rw[DF]at l2 l3;have hl:=h.le;have m3:cB (b-1) a:=.of az (by omega);have uz:u.natAbs<2^64:=by omega
     have m1:bo o u:=.rt (by omega);have m2:bo o a:=.rt (by omega);refine⟨h.down o2 (by omega) (by omega),(show(N-(u+(v+o*u))).toNat<(N-(u+v)).toNat by omega),_,by(simp_arith only[aj,ah,Bi,az,up,ho,ab,m1,m2,m3,aR.eq])<;>rfl,rfl⟩
 · rintro⟨⟨u,v⟩,a,b⟩ h c;have c0:¬u+v<N:=by simpa using c
   have c1:N<=u+v:=by omega
   simp_arith only[aj,ah,Bi];exact aK (hQ (u,v) (h.nb c1))
noncomputable def bE:List W->(Bl->Prop)->Prop:=fun ws Q=>∃(s:Rat)(N n:Int),ws=[.d (fr s),.d (.int N),.d (.int n)]/\((∃B,c7 s B/\B<=10^9)/\(2<=N)/\(N<=s.den)/\(0<=n)/\(n<N))/\∀m:Int,(∃u v,Gap.Nb s.num s.den N u v/\m=Gap.nxN u v N n)->Q (.int m)
theorem bE.mono:∀ws (Q Q':Bl->Prop),(∀d,Q d->Q' d)->bE ws Q->bE ws Q':=fun _ _ _ h_=>BI fun _=>BI fun _=>BI fun _=>Bt (Bt fun q_ o_ ho_=>h_ _ (q_ o_ ho_))
theorem bE.len:∀ws (Q:Bl->Prop),bE ws Q->ws.length=3:=fun _ _ h_=>by obtain⟨_,_,_,e_,_⟩:=h_;subst e_;rfl
theorem bE.eq(s:Rat)(N n:Int)(hs:∃B,c7 s B/\B<=10^9)(h2:2<=N)(hN:N<=s.den)(n0:0<=n)(nN:n<N):bE [.d (fr s),.d (.int N),.d (.int n)]=Ax (anyM fun m:Int=>∃u v,Gap.Nb s.num s.den N u v/\m=Gap.nxN u v N n) fun m=>VL.ret (.int m:Bl):=by
 refine ae fun Q=>⟨?_,fun q_=>⟨s,N,n,rfl,⟨hs,h2,hN,n0,nN⟩,q_⟩⟩;rintro⟨s',N',n',e_,_,q_⟩;simp_arith only[gS,cq,cu,bN,bK,cy]at e_;obtain⟨rfl,rfl,rfl⟩:=e_;exact q_
theorem jy:FnScope ["step", "many", "n", "u", "v"] ["step", "many", "n"] (defScope (zp 26)):=⟨rfl,rfl,rfl,by decide +kernel,rfl,by decide +kernel,by decide +kernel⟩
theorem d_next_of(Fn:FnIn K mg "next_of" (zp 26) ["step", "many", "n"])(Z:Bz mg)(d_neighbours:∀rl,Dfn P w K mg base rl "neighbours" ["step", "many"] 2 aB)   : Dfn P w K mg base rl "next_of" ["step", "many", "n"] 3 bE:=by
 have sc:=jy
 refine Dfn.of Fn sc (bE.mono) (bE.len) (fun cdv A outer s H E hr=>(ai (jY (ar (d_neighbours _) (hr.mono (by decide)) (aa (vn 0) (aa (vn 1) ac))) (iK (n:=2) rfl (bJ (aQ 3 sc.nd) (bJ (aQ 4 sc.nd) eO))))
  (ai (cC (bf fu g_ (aO _) (v_add (vn 2) (vn 3)) (vn 1)) (aq (aC (v_add (vn 2) (vn 3)))) bP)
  (aq (aC (pL (bf tX vm (aO _) (vn 2) (vn 4)) (v_sub (vn 2) (vn 4)) (v_sub (v_add (vn 2) (vn 3)) (vn 4)))))))) ?_
 rintro ws Q ⟨s,N,n,rfl,⟨hs,h2,hN,n0,nN⟩,hQ⟩;refine aE ?_;simp_arith only[aj,ah,aB.eq,Bi]
 (with_reducible (first|refine aL fun z hz=>?_|refine aX fun z hz=>?_))
 obtain⟨u,v⟩:=z;have hz:Gap.Nb s.num s.den N u v:=hz;simp_arith only[aj,ah,Bi];have fin:=fun m (e:m=Gap.nxN u v N n)=>hQ m ⟨u,v,hz,e⟩;by_cases c1:n+u<N
 · simp_arith only[aj,ah,Bi,c1];exact aK (fin _ (by unfold Gap.nxN;rw[if_pos c1]))
 · by_cases c2:v<=n
   · simp_arith only[aj,ah,Bi,c1,c2];exact aK (fin _ (by unfold Gap.nxN;rw[if_neg c1,if_pos c2]))
   · simp_arith only[aj,ah,Bi,c1,c2];exact aK (fin _ (by unfold Gap.nxN;rw[if_neg c1,if_neg c2]))
noncomputable def Au(q:Rat):List Int:=[q.num,(q.den:Int)]
theorem iw(a b:Rat)(h:Au a=Au b):a=b:=by
 unfold Au at h;simp only[BN,and_true]at h;exact Rat.ext h.1 (by have:=h.2;omega)
noncomputable def iR(s:Rat)(N u v:Int):List (Rat×Int):=[(Ap s u,N-u),(1-Ap s v,N-v),(Ap s u+(1-Ap s v),u+v-N)]
noncomputable def fQ(m:List (Rat×Int))(z:Rat×Int):List (Rat×Int):=if 0<z.2 then Ct.addC m z.1 z.2 else m
noncomputable def gaG(s:Rat)(N u v:Int):List (Rat×Int):=(iR s N u v).foldl fQ []
theorem pi(q:Rat):jT (.d (fr q))=some (Au q):=uK [q.num,(q.den:Int)]
theorem jp[DecidableEq α](m:List (α×Int))(k:α)(o:Int):(Ct.addC m k o).length<=m.length+1:=by
 unfold Ct.addC;split<;>simp
theorem o6(o:Option Int):(o.map B8).getD (.int 0) = .int (o.getD 0):=by cases o<;>rfl
theorem oy(m:List (Rat×Int)):((Ct.encC Au m).map fun p=>kI p.1)=(m.map (·.1)).map fr:=by unfold Ct.encC;rw[Cm,Cm];rfl
theorem lX(m:List (Rat×Int))(k:Rat×Int):(fQ m k).length<=m.length+1:=by
 unfold fQ;split
 · exact jp _ _ _
 · omega
theorem lY(s:Rat)(N u v:Int):(gaG s N u v).length<=3:=by
 have a:=lX [] (Ap s u,N-u);have b:=lX (fQ [] (Ap s u,N-u)) (1-Ap s v,N-v);have c:=lX (fQ (fQ [] (Ap s u,N-u)) (1-Ap s v,N-v)) (Ap s u+(1-Ap s v),u+v-N);have a:(fQ [] (Ap s u,N-u)).length<=1:=a;show(fQ (fQ (fQ [] (Ap s u,N-u)) (1-Ap s v,N-v)) (Ap s u+(1-Ap s v),u+v-N)).length<=3;omega
theorem lZ{s:Rat}{v:Int}{r:Rat}(h:r∈(gaG s N u v).map (·.1)):r∈(iR s N u v).map (·.1):=by
 have key:∀(xs m:List (Rat×Int)),r∈(xs.foldl fQ m).map (·.1)->r∈m.map (·.1)\/r∈xs.map (·.1):=by
  intro xs
  induction xs with
  | nil=>intro m h;exact .inl h
  | cons z xs ih =>
    intro m h;rcases ih _ h with h|h
    · by_cases c:0<z.2
      · rw[show fQ m z=Ct.addC m z.1 z.2 from if_pos c,Ct.getC_mem]at h;obtain⟨x,hx⟩:=h;rw[Ct.getC_add]at hx;by_cases e:z.1=r
        · exact .inr (by rw[<- e];exact Bw)
        · rw[if_neg e]at hx;exact .inl (Ct.getC_mem.mpr ⟨x,hx⟩)
      · rw[show fQ m z=m from if_neg c]at h;exact .inl h
    · exact .inr (Br _ h)
 rcases key _ _ h with h|h
 · cases h
 · exact h
noncomputable def g8(m:List (Rat×Int))(r:Rat):Bl:=.tuple [fr r,.int ((Ct.getC m r).getD 0)]
noncomputable def dC:List W->(Bl->Prop)->Prop:=fun ws Q=>∃(s:Rat)(N:Int),ws=[.d (fr s),.d (.int N)]/\((∃B,c7 s B/\B<=10^9)/\(2<=N)/\(N<=s.den))/\∀z:Int×Int×List Rat,(Gap.Nb s.num s.den N z.1 z.2.1/\cO ((gaG s N z.1 z.2.1).map (·.1)) z.2.2)->Q (.tuple (z.2.2.map (g8 (gaG s N z.1 z.2.1))))
theorem dC.mono:∀ws (Q Q':Bl->Prop),(∀d,Q d->Q' d)->dC ws Q->dC ws Q':=fun _ _ _ h_=>BI fun _=>BI fun _=>Bt (Bt fun q_ o_ ho_=>h_ _ (q_ o_ ho_))
theorem dC.len:∀ws (Q:Bl->Prop),dC ws Q->ws.length=2:=fun _ _ h_=>by obtain⟨_,_,e_,_⟩:=h_;subst e_;rfl
theorem dC.eq(s:Rat)(N:Int)(hs:∃B,c7 s B/\B<=10^9)(h2:2<=N)(hN:N<=s.den):dC [.d (fr s),.d (.int N)]=Ax (anyM fun z:Int×Int×List Rat=>Gap.Nb s.num s.den N z.1 z.2.1/\cO ((gaG s N z.1 z.2.1).map (·.1)) z.2.2) fun z=>VL.ret (.tuple (z.2.2.map (g8 (gaG s N z.1 z.2.1))):Bl):=by
 refine ae fun Q=>⟨?_,fun q_=>⟨s,N,rfl,⟨hs,h2,hN⟩,q_⟩⟩;rintro⟨s',N',e_,_,q_⟩;simp_arith only[gS,cq,cu,bN,bK,cy]at e_;obtain⟨rfl,rfl⟩:=e_;exact q_
theorem qe:FnScope ["step", "many", "u", "v", "rise", "fall", "counts", "length", "often"] ["step", "many"] (defScope (zp 27)):=⟨rfl,rfl,rfl,by decide +kernel,rfl,by decide +kernel,by decide +kernel⟩
theorem d_gaps(Fn:FnIn K mg "gaps" (zp 27) ["step", "many"])(Z:Bz mg)(d_neighbours:∀rl,Dfn P w K mg base rl "neighbours" ["step", "many"] 2 aB)(d_gap_above:∀rl,Dfn P w K mg base rl "gap_above" ["step", "u"] 5 aT)(d_gap_below:∀rl,Dfn P w K mg base rl "gap_below" ["step", "v"] 5 aS)(d_plus:∀rl,Dfn P w K mg base rl "plus" ["one", "other"] 3 cJ)(d_in_size:∀rl,Dfn P w K mg base rl "in_size" ["some"] 1 bG)   : Dfn P w K mg base rl "gaps" ["step", "many"] 6 dC:=by
 have sc:=qe
 refine Dfn.of Fn sc (dC.mono) (dC.len) (fun cdv A outer s H E hr=>(ai (jY (ar (d_neighbours _) (hr.mono (by decide)) (aa (vn 0) (aa (vn 1) ac))) (iK (n:=2) rfl (bJ (aQ 2 sc.nd) (bJ (aQ 3 sc.nd) eO))))
  (ai (iF 4 5 rfl sc.nd (aa (ar (d_gap_above _) (hr.mono (by decide)) (aa (vn 0) (aa (vn 2) ac))) (aa (ar (d_gap_below _) (hr.mono (by decide)) (aa (vn 0) (aa (vn 3) ac))) ac)))
  (ai (oF 6 sc.nd m_)
  (ai (eK [7,8] C4 rfl (j6 (cn (aa (cn (aa (vn 4) (aa (v_sub (vn 1) (vn 2)) ac))) (aa (cn (aa (vn 5) (aa (v_sub (vn 1) (vn 3)) ac))) (aa (cn (aa (ar (d_plus _) (hr.mono (by decide)) (aa (vn 4) (aa (vn 5) ac))) (aa (v_sub (v_add (vn 2) (vn 3)) (vn 1)) ac))) ac))))) (iK (n:=2) rfl (bJ (aQ 7 sc.nd) (bJ (aQ 8 sc.nd) eO))) (aq (cC (bf jF m7 (aO _) (vn 8) ag) (aq (pq 6 hr.units (vn 7) (v_add (pG 6 hr.units (vn 7) ag) (vn 8)))) bP)))
  (aq (pC 6 (aC (hG Z.tuple_ (aa (b8 ["length", "counts"] [none,some 6] rfl (j6 (ar (d_in_size _) (hr.mono (by decide)) (aa (m9 rfl Z.list_ (aa (vn 6) ac)) ac))) (fun _=>(aQ 0 (show Es (["length", "counts"]:List Str) by decide +kernel))) (fun _=>di) (fun _=>(cn (aa (vn 0) (aa (sg 1 hr.units (vn 0)) ac))))) ac)))))))))) ?_
 rintro ws Q ⟨s,N,rfl,⟨hs,h2,hN⟩,hQ⟩;refine aE ?_;have sz:=B3;simp_arith only[aj,ah,aB.eq,Bi]
 (with_reducible (first|refine aL fun z hz=>?_|refine aX fun z hz=>?_))
 obtain⟨u,v⟩:=z;have hz:Gap.Nb s.num s.den N u v:=hz;have hz':=hz;obtain⟨u0,uN,v0,vN,few,rd⟩:=hz';have hs':=hs;obtain⟨B,h1,hB⟩:=hs';have s1:=gQ h1 hB u;have s2:=gQ h1 hB v;have u6:u.natAbs<2^600:=Bq (show u.natAbs<2^30 by obtain⟨_,_,_⟩:=h1;omega) (BD (by decide) (by decide));have v6:v.natAbs<2^600:=Bq (show v.natAbs<2^30 by obtain⟨_,_,_⟩:=h1;omega) (BD (by decide) (by decide));have s3:zP 100 (1-Ap s v):=(kG wa s2).mono (by decide);have s4:zP 2000 (Ap s u):=s1.mono (by decide);have s5:zP 2000 (1-Ap s v):=s3.mono (by decide);have s6:zP 2000 (Ap s u+(1-Ap s v)):=(jo s1 s3).mono (by decide);simp_arith only[aj,ah,aB.eq,aT.eq,aS.eq,cJ.eq,bG.eq,Bi,lA]
 have lenI:∀m:List (Rat×Int),(m.map (·.1)).Nodup/\(∀r∈m.map (·.1),r∈(iR s N u v).map (·.1))->(Ct.encC Au m).length<sizeLine:=fun m h=>by
  have:=Dp h.1 h.2;rw[Bu,Bu]at this;have e:(iR s N u v).length=3:=rfl;unfold Ct.encC;rw[Bu];omega
 refine rn (xs:=iR s N u v) (enc:=fun z=>.tuple [fr z.1,.int z.2]) (fun m:List (Rat×Int)=>[some (W.d (fr s)),some (W.d (B8 N)),some (W.d (B8 u)),some (W.d (B8 v)),
  some (W.d (fr (Ap s u))),some (W.d (fr (1-Ap s v))),some (W.xm (Ct.encC Au m)),none,none]) fQ [] (fun m=>(m.map (·.1)).Nodup/\∀r∈m.map (·.1),r∈(iR s N u v).map (·.1)) rfl rfl ⟨Ec,fun r h=>(by cases h)⟩ ?_ ?_
 · rintro⟨q,o⟩ mz m hm;have hl:=lenI m hm;by_cases c:0<o
   · have e:fQ m (q,o)=Ct.addC m q o:=if_pos c;rw[e];refine⟨⟨Ct.nd_add hm.1 q o,fun r hr=>?_⟩,?_⟩
     · rw[Ct.getC_mem]at hr;obtain⟨x,hx⟩:=hr;rw[Ct.getC_add]at hx;by_cases e:q=r
       · subst e;exact Ch.mpr ⟨_,mz,rfl⟩
       · rw[if_neg e]at hx;exact hm.2 r (Ct.getC_mem.mpr ⟨x,hx⟩)
     have hv:mQ (Ct.encC Au m) (Au q)=(Ct.getC m q).map .int:=mi iw m q;have hp:rS (Ct.encC Au m) (Au q) (.int ((Ct.getC m q).getD 0+o))=Ct.encC Au (Ct.addC m q o):=rG iw m q o;refine⟨_,by(simp_arith only[aj,ah,Bi,qf,nT,pi,zF,uJ,hv,hp,o6,hl,c])<;>rfl,rfl⟩
   · have e:fQ m (q,o)=m:=if_neg c;rw[e];refine⟨hm,_,by(simp_arith only[aj,ah,Bi,c])<;>rfl,rfl⟩
 · have hk:=fun r (h:r∈(gaG s N u v).map (·.1))=>lZ h;have l3:=lY s N u v;have eg:(iR s N u v).foldl fQ []=gaG s N u v:=rfl;rw[eg];have eL:Gj ((Ct.encC Au (gaG s N u v)).map fun p=>kI p.1)=zD false ((gaG s N u v).map (·.1)):=by rw[oy];rfl
   have lq:((gaG s N u v).map (·.1)).length<60:=by rw[Bu];omega
   have qa:∀q∈(gaG s N u v).map (·.1),zP 2000 q:=fun q h=>by
    have:=hk q h;simp only[iR,BM,Dc,BL,Da,or_false]at this;rcases this with rfl|rfl|rfl<;>assumption
   simp_arith only[aj,ah,Bi,qg,zF,uJ,nV,vf,ph,eL,bG.eq]
   (with_reducible (first|refine aL fun rs hrs=>?_|refine aX fun rs hrs=>?_))
   have lr:rs.length<=60:=by
    have:=Dp (hrs.1.imp fun{a b}(h:a<b)=>(fun e=>by subst e;exact absurd h (D4))) (fun q h=>(hrs.2 q).mp h);omega
   refine dP (xs:=rs) (enc:=fr) (g8 (gaG s N u v)) rfl ?_ (by omega) ?_
   · intro r mr;obtain⟨c,hc⟩:=Ct.getC_mem.mp ((hrs.2 r).mp mr);have hv:mQ (Ct.encC Au (gaG s N u v)) (Au r)=some (.int c):=by rw[mi iw,hc];rfl
     have eg:g8 (gaG s N u v) r = .tuple [fr r,.int c]:=by unfold g8;rw[hc];rfl
     rw[eg];simp_arith only[aj,ah,Ac,Bi,qN,uU,ph,pi,hv]
   · exact aK (hQ (u,v,rs) ⟨hz,hrs⟩)
theorem wn{rs:List (Int×Int)}:qs.map Ah=rs.map Ah↔qs=rs:=by
 constructor
 · intro h
   exact(List.map_inj_right (fun x y e=>by
    simp only[Ah,Ck,BN,DQ,and_true]at e
    exact Prod.ext e.1 e.2)).mp h
 · rintro rfl;rfl
noncomputable def zS(qs:List (Int×Int))(k:Nat):Int×Int:=qs[k]?.getD (0,0)
theorem gC{k:Nat}(h:k<qs.length):L2.atI (qs.map Ah) (k:Int)=some (Ah (zS qs k)):=by
 rw[dQ,fP (show qs[k]?=some (zS qs k) by unfold zS;rw[B0 h];rfl)];rfl
noncomputable def Aw(s:Rat)(qs:List (Int×Int))(k:Nat):Int:=((zS qs ((k+1)%qs.length)).1-(zS qs k).1)%(s.den:Int)
noncomputable def zW(s:Rat)(qs:List (Int×Int))(i:Nat):List (Int×Int):=((BZ i).map fun k=>(Aw s qs k,(1:Int))).foldl (fun m z=>Ct.addC m z.1 z.2) []
theorem fy(s:Rat)(qs:List (Int×Int))(i:Nat):zW s qs (i+1)=Ct.addC (zW s qs i) (Aw s qs i) 1:=by
 unfold zW;rw[FR,C3,List.foldl_append];rfl
theorem lu(s:Rat)(qs:List (Int×Int)):∀i,Ct.Cnts ((BZ i).map fun k=>(Aw s qs k,(1:Int))) (zW s qs i)
 | 0=>Ct.Cnts.nil
 | i+1=>by
   rw[fy,FR,C3];exact(lu s qs i).add _ _
theorem ig(s:Rat)(qs:List (Int×Int)):∀i,(zW s qs i).length<=i
 | 0=>By _
 | i+1=>by
   rw[fy];have:=jp (zW s qs i) (Aw s qs i) 1;have:=ig s qs i;omega
noncomputable def kZ(n:Int):A5:=Cs n
theorem lL(a b:Int)(h:kZ a=kZ b):a=b:=Cs.inj h
theorem o0(n:Int):gJ (.d (.int n))=some (kZ n):=rfl
theorem l8(m:List (Int×Int)):(Ct.encC kZ m).map (·.1)=(m.map (·.1)).map Cs:=by unfold Ct.encC;rw[Cm,Cm];rfl
theorem uC(kvs:List (A5×Bl)):(W.fd kvs).peek.fz = .fd kvs:=rfl
noncomputable def lG(s:Rat)(m:List (Int×Int))(n:Int):Bl:=.tuple [fr (qd n s.den),.int ((Ct.getC m n).getD 0)]
theorem v9{a:Int}(h1:0<a)(h2:a<b)(h3:b<=m):c7 (qd a b) m:=by
 have hb:0<b:=by omega
 have e:=i8 hb (a:=a)
 have hg:0<(BU a b:Int):=by
  have:=Ep a (show b≠0 by omega);omega
 unfold qS at e;unfold fr at e;simp only[Ck,BN,DQ,and_true]at e;obtain⟨e1,e2⟩:=e;rw[Ca _ (by omega)]at e1 e2;have da:(BU a b:Int)∣a:=Int.gcd_dvd_left ..;have db:(BU a b:Int)∣b:=Int.gcd_dvd_right ..;generalize (BU a b:Int)=g at *;obtain⟨x,rfl⟩:=da;obtain⟨y,rfl⟩:=db;rw[Int.mul_ediv_cancel_left _ (by omega)]at e1 e2;have x0:0<x:=EZ h1 hg;have y0:0<y:=EZ hb hg;have xy:x<y:=Dh h2 (by omega);refine⟨by omega,by omega,?_⟩;have:1*y<=g*y:=BA (by omega) (by omega);omega
noncomputable def bi:List W->(Bl->Prop)->Prop:=fun ws Q=>∃(i j:Int),ws=[.d (.int i),.d (.int j)]/\((0<=i)/\(0<=j))/\Q (.int (BU i j:Nat))
theorem bi.mono:∀ws (Q Q':Bl->Prop),(∀d,Q d->Q' d)->bi ws Q->bi ws Q':=fun _ _ _ h_=>BI fun _=>BI fun _=>Bt (Bt (h_ _))
theorem bi.len:∀ws (Q:Bl->Prop),bi ws Q->ws.length=2:=fun _ _ h_=>by obtain⟨_,_,e_,_⟩:=h_;subst e_;rfl
theorem bi.eq(i j:Int)(hi:0<=i)(hj:0<=j):bi [.d (.int i),.d (.int j)]=VL.ret (.int (BU i j:Nat):Bl):=by
 refine ae fun Q=>⟨?_,fun q_=>⟨i,j,rfl,⟨hi,hj⟩,q_⟩⟩;rintro⟨i',j',e_,_,q_⟩;simp_arith only[and_true]at e_;obtain⟨rfl,rfl⟩:=e_;exact q_
theorem h8:FnScope ["_law_one", "_law_other"] ["_law_one", "_law_other"] (defScope (zp 31)):=⟨rfl,rfl,rfl,by decide +kernel,rfl,by decide +kernel,by decide +kernel⟩
theorem d__law_gcd(Fn:FnIn K mg "_law_gcd" (zp 31) ["_law_one", "_law_other"])(Z:Bz mg)    : Dfn P w K mg base rl "_law_gcd" ["_law_one", "_law_other"] 1 bi:=by
 have sc:=h8
 refine Dfn.of Fn sc (bi.mono) (bi.len) (fun cdv A outer s H E hr=>(ai (dj [] C4 (bf jF m7 (aO _) (vn 1) ag) (aq (iF 0 1 rfl sc.nd (aa (vn 1) (aa (v_mod (vn 0) (vn 1)) ac)))))
  (aq (aC (vn 0))))) ?_
 rintro ws Q ⟨i,j,rfl,⟨hi,hj⟩,hQ⟩;refine aE ?_;simp_arith only[ah];refine eJ (σ:=Int×Int) (fun s=>[some (.d (.int s.1)),some (.d (.int s.2))]) (fun s=>decide (0<s.2)) (fun s=>(s.2,s.1.fmod s.2)) (fun s=>s.2.natAbs) (fun s=>0<=s.1/\0<=s.2/\BU s.1 s.2=BU i j) (i,j) rfl ⟨hi,hj,rfl⟩ ?_ ?_ ?_
 · intro s _;simp_arith only[ah]
 · rintro⟨x,y⟩ ⟨x0,y0,e⟩ c;have c1:0<y:=by simpa using c
   have hc:y≠0:=by omega
   refine⟨⟨y0,Co _ c1,by rw[fD];exact e⟩,cz hc,_,by(simp_arith only[aj,ah])<;>rfl,rfl⟩
 · rintro⟨x,y⟩ ⟨x0,y0,e⟩ c
   have c1 : y = 0 := by have:¬0<y:=by simpa using c
                         have:0<=y:=y0;omega
   subst c1;have x0:0<=x:=x0;have e:BU x 0=BU i j:=e;simp_arith only[ah];rw[Int.gcd_zero_right]at e;have:x=((BU i j:Nat):Int):=by omega
   rw[this];exact aK hQ
noncomputable def aU:List W->(Bl->Prop)->Prop:=fun ws Q=>∃(a b:Int),ws=[.d (.int a),.d (.int b)]/\((0<b)/\(b.natAbs<2^8000))/\Q (fr (qd a b))
theorem aU.mono:∀ws (Q Q':Bl->Prop),(∀d,Q d->Q' d)->aU ws Q->aU ws Q':=fun _ _ _ h_=>BI fun _=>BI fun _=>Bt (Bt (h_ _))
theorem aU.len:∀ws (Q:Bl->Prop),aU ws Q->ws.length=2:=fun _ _ h_=>by obtain⟨_,_,e_,_⟩:=h_;subst e_;rfl
theorem aU.eq(a b:Int)(hb:0<b)(hz:b.natAbs<2^8000):aU [.d (.int a),.d (.int b)]=VL.ret (fr (qd a b):Bl):=by
 refine ae fun Q=>⟨?_,fun q_=>⟨a,b,rfl,⟨hb,hz⟩,q_⟩⟩;rintro⟨a',b',e_,_,q_⟩;simp_arith only[and_true]at e_;obtain⟨rfl,rfl⟩:=e_;exact q_
theorem gn:FnScope ["_law_top", "_law_bottom", "_law_common"] ["_law_top", "_law_bottom"] (defScope (zp 32)):=⟨rfl,rfl,rfl,by decide +kernel,rfl,by decide +kernel,by decide +kernel⟩
theorem d__law_frac(Fn:FnIn K mg "_law_frac" (zp 32) ["_law_top", "_law_bottom"])(Z:Bz mg)(d__law_gcd:∀rl,Dfn P w K mg base rl "_law_gcd" ["_law_one", "_law_other"] 1 bi)   : Dfn P w K mg base rl "_law_frac" ["_law_top", "_law_bottom"] 2 aU:=by
 have sc:=gn
 refine Dfn.of Fn sc (aU.mono) (aU.len) (fun cdv A outer s H E hr=>(ai (ba 2 sc.nd (ar (d__law_gcd _) (hr.mono (by decide)) (aa (sw Z.abs_ (aa (vn 0) ac)) (aa (vn 1) ac))))
  (aq (aC (cn (aa (v_div (vn 0) (vn 2)) (aa (v_div (vn 1) (vn 2)) ac))))))) ?_
 rintro ws Q ⟨a,b,rfl,⟨hb,hz⟩,hQ⟩;refine aE ?_;have e:BU (if a<0 then -a else a) b=BU a b:=by split<;>simp[BU]
 have c1:cB a (BU a b:Int):=fE hb hz _;have c2:cB b (BU a b:Int):=fE hb hz _;have a0:0<=(if a<0 then -a else a):=by split<;>omega
 simp_arith only[aj,ah,bi.eq,e];rw[i8 hb];exact aK hQ
noncomputable def aI:List W->(Bl->Prop)->Prop:=fun ws Q=>∃(m:Int),ws=[.reel,.d (.int m)]/\((2<=m)/\(m<=10^9))/\∀s:Rat,(c7 s m)->Q (fr s)
theorem aI.mono:∀ws (Q Q':Bl->Prop),(∀d,Q d->Q' d)->aI ws Q->aI ws Q':=fun _ _ _ h_=>BI fun _=>Bt (Bt fun q_ o_ ho_=>h_ _ (q_ o_ ho_))
theorem aI.len:∀ws (Q:Bl->Prop),aI ws Q->ws.length=2:=fun _ _ h_=>by obtain⟨_,e_,_⟩:=h_;subst e_;rfl
theorem aI.eq(m:Int)(h2:2<=m)(h9:m<=10^9):aI [.reel,.d (.int m)]=Ax (anyM fun s:Rat=>c7 s m) fun s=>VL.ret (fr s:Bl):=by
 refine ae fun Q=>⟨?_,fun q_=>⟨m,rfl,⟨h2,h9⟩,q_⟩⟩;rintro⟨m',e_,_,q_⟩;simp_arith only[and_true]at e_;obtain rfl:=e_;exact q_
theorem dm:FnScope ["_law_feed_here", "_law_most", "_law_bottom", "_law_near"] ["_law_feed_here", "_law_most"] (defScope (zp 33)):=⟨rfl,rfl,rfl,by decide +kernel,rfl,by decide +kernel,by decide +kernel⟩
theorem d__law_step_of(Fn:FnIn K mg "_law_step_of" (zp 33) ["_law_feed_here", "_law_most"])(Z:Bz mg)(d__law_frac:∀rl,Dfn P w K mg base rl "_law_frac" ["_law_top", "_law_bottom"] 2 aU)(d__law_draw:∀rl,Dfn P w K mg base rl "_law_draw" ["_law_feed_here", "_law_many"] 2 fg)   : Dfn P w K mg base rl "_law_step_of" ["_law_feed_here", "_law_most"] 3 aI:=by
 have sc:=dm
 refine Dfn.of Fn sc (aI.mono) (aI.len) (fun cdv A outer s H E hr=>(ai (ba 2 sc.nd (v_add ag (ar (d__law_draw _) (hr.mono (by decide)) (aa (vn 0) (aa (v_sub (vn 1) ag) ac)))))
  (ai (ba 3 sc.nd (bH (su (aa (v_add ag (ar (d__law_draw _) (hr.mono (by decide)) (aa (vn 0) (aa (v_sub (vn 2) ag) ac)))) (aa (v_div (v_mul (vn 2) ag) ag) (aa (v_sub (vn 2) ag) (aa ag ac))))) (ar (d__law_draw _) (hr.mono (by decide)) (aa (vn 0) (aa ag ac)))))
  (aq (aC (ar (d__law_frac _) (hr.mono (by decide)) (aa (sj Z.max_ (aa ag (aa (vn 3) ac))) (aa (vn 2) ac)))))))) ?_
 rintro ws Q ⟨m,rfl,⟨h2,h9⟩,hQ⟩;refine aE ?_;simp_arith only[aj,ah,p__law_draw.eq]
 (with_reducible (first|refine aL fun b hb=>?_|refine aX fun b hb=>?_))
 try simp_arith only[aj,ah,p__law_draw.eq]
 (with_reducible (first|refine aL fun a ha=>?_|refine aX fun a ha=>?_))
 have cm:bo (2+b) 377:=.rt (by decide);have cd:cB ((2+b)*377) 610:=cB.of (by decide) (by decide)
 try simp_arith only[aj,ah,p__law_draw.eq]
 (with_reducible (first|refine aL fun k hk=>?_|refine aX fun k hk=>?_))
 refine zB (eE (xs:=[1+a,((2+b)*377).fdiv 610,2+b-1,1]) (enc:=B8) (fun z:Int=>z<2+b) rfl hk.1 (by simpa using hk.2) ?_ fun z hz=>?_)
 · intro z mz;have:((2+b)*377).fdiv 610=((2+b)*377) / 610:=Ca _ (by decide);simp only[BL,Da,or_false]at mz;omega
 have hz0:max 1 z<2+b:=by omega
 have hz1:0<max 1 z:=by omega
 have hb1:(2+b).natAbs<2^8000:=Bq (show(2+b).natAbs<2^31 by omega) (BD (by decide) (by decide));simp_arith only[aj,ah,aU.eq];exact aK (hQ _ (v9 hz1 hz0 (by omega)))
noncomputable def bc:List W->(Bl->Prop)->Prop:=fun ws Q=>∃(s:Rat)(qs:List (Int×Int)),ws=[.d (fr s),.d (.list (qs.map Ah))]/\((∃B,c7 s B/\B<=10^9)/\(1<=qs.length)/\(qs.length<=63))/\∀ns:List Int,(ns.Perm ((zW s qs qs.length).map (·.1))/\ns.Pairwise (· <= ·))->Q (.tuple (ns.map (lG s (zW s qs qs.length))))
theorem bc.mono:∀ws (Q Q':Bl->Prop),(∀d,Q d->Q' d)->bc ws Q->bc ws Q':=fun _ _ _ h_=>BI fun _=>BI fun _=>Bt (Bt fun q_ o_ ho_=>h_ _ (q_ o_ ho_))
theorem bc.len:∀ws (Q:Bl->Prop),bc ws Q->ws.length=2:=fun _ _ h_=>by obtain⟨_,_,e_,_⟩:=h_;subst e_;rfl
theorem bc.eq(s:Rat)(qs:List (Int×Int))(hs:∃B,c7 s B/\B<=10^9)(h1:1<=qs.length)(h63:qs.length<=63):bc [.d (fr s),.d (.list (qs.map Ah))]=Ax (anyM fun ns:List Int=>ns.Perm ((zW s qs qs.length).map (·.1))/\ns.Pairwise (· <= ·)) fun ns=>VL.ret (.tuple (ns.map (lG s (zW s qs qs.length))):Bl):=by
 refine ae fun Q=>⟨?_,fun q_=>⟨s,qs,rfl,⟨hs,h1,h63⟩,q_⟩⟩;rintro⟨s',qs',e_,_,q_⟩;simp_arith only[gS,cq,cu,bN,bK,cy,wn]at e_;obtain⟨rfl,rfl⟩:=e_;exact q_
theorem gm:FnScope ["_law_step", "_law_some", "_law_often", "_law_k", "_law_length"] ["_law_step", "_law_some"] (defScope (zp 34)):=⟨rfl,rfl,rfl,by decide +kernel,rfl,by decide +kernel,by decide +kernel⟩
theorem d__law_gaps(Fn:FnIn K mg "_law_gaps" (zp 34) ["_law_step", "_law_some"])(Z:Bz mg)(d__law_frac:∀rl,Dfn P w K mg base rl "_law_frac" ["_law_top", "_law_bottom"] 2 aU)   : Dfn P w K mg base rl "_law_gaps" ["_law_step", "_law_some"] 3 bc:=by
 have sc:=gm
 refine Dfn.of Fn sc (bc.mono) (bc.len) (fun cdv A outer s H E hr=>(ai (oF 2 sc.nd na)
  (ai (eK [3,4] C4 rfl (cE Z.range_ (aa (pI Z.len_ (aa (vn 1) ac)) ac)) (aQ 3 sc.nd) (ai (ba 4 sc.nd (v_mod (v_sub (bH (bH (vn 1) (v_mod (v_add (vn 3) ag) (pI Z.len_ (aa (vn 1) ac)))) ag) (bH (bH (vn 1) (vn 3)) ag)) (bH (vn 0) ag)))
  (aq (m5 2 hr.un1 (vn 4) (v_add (pJ 2 (vn 4) ag) ag)))))
  (aq (mZ 2 (aC (hG Z.tuple_ (aa (b8 ["_law_length", "_law_step", "_law_often"] [none,some 0,some 2] rfl (j7 (fX rfl Z.sorted_ (aa (vn 2) ac))) (fun _=>(aQ 0 (show Es (["_law_length", "_law_step", "_law_often"]:List Str) by decide +kernel))) (fun _=>di) (fun _=>(cn (aa (ar (d__law_frac _) (hr.mono (by decide)) (aa (vn 0) (aa (bH (vn 1) ag) ac))) (aa (kd hr.un1 (vn 2) (vn 0)) ac))))) ac)))))))) ?_
 rintro ws Q ⟨s,qs,rfl,⟨hs,h1,h63⟩,hQ⟩;refine aE ?_;have sz:=B3;obtain⟨B,⟨h3,h4,h5⟩,hB⟩:=hs;have nz:(s.den:Int)≠0:=by omega
 have nl:(qs.length:Int)≠0:=by omega
 simp_arith only[aj,ah,Bi,lB];refine ou (fun i=>[some (.d (fr s)),some (.d (.list (qs.map Ah))),some (.mk (Ct.encC kZ (zW s qs i))),none,none]) rfl ?_ ?_
 · intro i hi;have e1:=gC hi;have lt:(i+1)%qs.length<qs.length:=Nat.mod_lt _ (by omega);have e2:=gC lt;have em:((i:Int)+1).fmod (qs.length:Int)=(((i+1)%qs.length:Nat):Int):=by rw[C7 _ (by omega)];rfl
   have ed:((zS qs ((i+1)%qs.length)).1-(zS qs i).1).fmod (s.den:Int)=Aw s qs i:=C7 _ (by omega);have hv:c6 (Ct.encC kZ (zW s qs i)) (kZ (Aw s qs i))=(Ct.getC (zW s qs i) (Aw s qs i)).map .int:=mm lL _ _;have hp:putF (Ct.encC kZ (zW s qs i)) (kZ (Aw s qs i)) (.int ((Ct.getC (zW s qs i) (Aw s qs i)).getD 0+1))=Ct.encC kZ (zW s qs (i+1)):=by rw[fy];exact rH lL _ _ 1
   have hl:(Ct.encC kZ (zW s qs i)).length<sizeLine:=by
    have:=ig s qs i;unfold Ct.encC;rw[Bu];omega
   refine⟨_,by(simp_arith only[aj,ah,Bi,e1,e2,em,ed,hv,hp,hl,o6,nU,qh,zH,uM,o0,nl,nz,GJ])<;>rfl,rfl⟩
 · simp_arith only[aj,ah,Bi,nj,zH,uM,uC];have ct:=lu s qs qs.length;have ll:=ig s qs qs.length;refine kJ ((zW s qs qs.length).map (·.1)) (l8 _) (by rw[Bu];omega) ?_;intro ns pm pw;have ln:ns.length<=63:=by rw[pm.length_eq,Bu];omega
   simp_arith only[aj,ah,Bi,uC,Bj,Bg,Bh,bU];refine dP (xs:=ns) (enc:=fun n=>B8 n) (lG s (zW s qs qs.length)) rfl ?_ (by omega) ?_
   · intro n mn;obtain⟨c,hc⟩:=Ct.getC_mem.mp (pm.mem_iff.mp mn);have hv:c6 (Ct.encC kZ (zW s qs qs.length)) (Cs n)=some (.int c):=by rw[show(Cs n:A5)=kZ n from rfl,mm lL,hc];rfl
     have eg:lG s (zW s qs qs.length) n = .tuple [fr (qd n s.den),.int c]:=by unfold lG;rw[hc];rfl
     have bz:(s.den:Int).natAbs<2^8000:=Bq (show(s.den:Int).natAbs<2^40 by omega) (BD (by decide) (by decide));rw[eg];simp_arith only[aj,ah,Ac,Bi,Bj,Bg,Bh,bU,aU.eq,o0,hv]
   · exact aK (hQ ns ⟨pm,pw⟩)
structure Srt (s:Rat) (N:Int) (qs:List (Int×Int)):Prop where
 hp:qs.Perm ((BZ N.toNat).map fun j:Nat=>(ptQ s (j:Int),(j:Int)))
 hs:qs.Pairwise fun x y=>KS.lexB y x=false
section
variable{s:Rat}{N:Int}{qs:List (Int×Int)}
theorem Srt.mem(h:Srt s N qs)(z:Int×Int):z∈qs↔0<=z.2/\z.2<N/\z.1=ptQ s z.2:=by
 rw[h.hp.mem_iff,Ch];constructor
 · rintro⟨j,mj,rfl⟩;have:=CT.mp mj;exact⟨by show 0<=(j:Int);omega,by show(j:Int)<N;omega,rfl⟩
 · rintro⟨a,b,c⟩;refine⟨z.2.toNat,CT.mpr (by omega),?_⟩;have e:((z.2.toNat:Nat):Int)=z.2:=by omega
   rw[e,<- c]
theorem Srt.len(h:Srt s N qs):qs.length=N.toNat:=by rw[h.hp.length_eq,Bu,List.length_range]
theorem b4{k:Nat}(h:k<qs.length):zS qs k=qs[k]:=by unfold zS;rw[B0 h];rfl
theorem Srt.at(h:Srt s N qs){k:Nat}(hk:k<qs.length):0<=(zS qs k).2/\(zS qs k).2<N/\(zS qs k).1=ptQ s (zS qs k).2:=by
 rw[b4 hk];exact(h.mem _).mp (Fe hk)
theorem Srt.ix(h:Srt s N qs){n:Int}(n0:0<=n)(nN:n<N):∃k,k<qs.length/\zS qs k=(ptQ s n,n):=by
 obtain⟨k,hk,e⟩:=List.mem_iff_getElem.mp ((h.mem (ptQ s n,n)).mpr ⟨n0,nN,rfl⟩);exact⟨k,hk,by rw[b4 hk,e]⟩
theorem Srt.nd(h:Srt s N qs):qs.Nodup:=h.hp.nodup_iff.mpr (EW.mpr (List.nodup_range.imp fun{a b} hne e=>hne (Int.ofNat.inj (Prod.ext_iff.mp e).2)))
theorem Srt.lt(h:Srt s N qs)(hq:0<(s.den:Int))(hg:BU s.num s.den=1)(hN:N<=s.den)(ij:i<j)(hj:j<qs.length):(zS qs i).1<(zS qs j).1:=by
 have hi:i<qs.length:=by omega
 have a:=h.at hi;have b:=h.at hj;have lx:=DP.mp h.hs i j hi hj ij;rw[<- b4 hi,<- b4 hj]at lx;simp only[KS.lexB,decide_eq_false_iff_not,not_or]at lx;rcases Cv (show(zS qs i).1<=(zS qs j).1 by omega)with l|l
 · exact l
 · exfalso;have e2:=Gap.pt_inj0 hq hg hN a.1 a.2.1 b.1 b.2.1 (show ptQ s _=ptQ s _ by rw[<- a.2.2,<- b.2.2,l]);have e:=DP.mp h.nd i j hi hj ij;rw[<- b4 hi,<- b4 hj]at e;exact e (Prod.ext l e2)
theorem Srt.lt_of(h:Srt s N qs)(hq:0<(s.den:Int))(hg:BU s.num s.den=1)(hN:N<=s.den)(hi:i<qs.length)(hj:j<qs.length)(l:(zS qs i).1<(zS qs j).1):i<j:=by
 rcases Nat.lt_trichotomy i j with c|c|c
 · exact c
 · subst c;omega
 · have:=h.lt hq hg hN c hi;omega
theorem Srt.first(h:Srt s N qs)(hq:0<(s.den:Int))(hg:BU s.num s.den=1)(hN:N<=s.den)(h2:2<=N):zS qs 0=(0,0):=by
 have hl:=h.len;have z0:ptQ s 0=0:=Gap.pt_zero _ _;obtain⟨k,hk,e⟩:=h.ix (n:=0) (by omega) (by omega);rw[z0]at e;rcases Nat.eq_zero_or_pos k with c|c
 · rw[<- c];exact e
 · have:=h.lt hq hg hN c hk;rw[e]at this;have b:=h.at (k:=0) (by omega);have:=(Gap.pt_bd (p:=s.num) (n:=(zS qs 0).2) hq).1;have e2:(zS qs 0).1=Gap.pt s.num s.den (zS qs 0).2:=b.2.2;simp only at *;omega
theorem Srt.next(h:Srt s N qs)(hq:0<(s.den:Int))(hg:BU s.num s.den=1)(hN:N<=s.den)(h2:2<=N){v:Int}(hz:Gap.Nb s.num s.den N u v){k:Nat}(hk:k<qs.length) :
 Gap.nxN u v N (zS qs k).2=(zS qs ((k+1)%qs.length)).2/\Aw s qs k=Gap.gpN s.num s.den u v N (zS qs k).2/\((zS qs k).2=v↔k+1=qs.length):=by
 have hl:=h.len;have ex:=Gap.ex_of_nb hq hg hN hz;have a:=h.at hk;have f:=h.first hq hg hN h2;obtain⟨⟨m0,mN⟩,nx⟩:=Gap.next_ok hq hg hN ex hz.few a.1 a.2.1;have bx:=Gap.pt_bd (p:=s.num) (n:=(zS qs k).2) hq;have ex1:(zS qs k).1=Gap.pt s.num s.den (zS qs k).2:=a.2.2;unfold Aw;rcases nx with⟨nv,e0,eg⟩|⟨nv,e1,gp,mn⟩
 · have last:k+1=qs.length:=by
     rcases Nat.lt_or_ge (k+1) qs.length with c|c
     · exfalso;have l:=h.lt hq hg hN (show k<k+1 by omega) c;have b:=h.at c;have eb:(zS qs (k+1)).1=Gap.pt s.num s.den (zS qs (k+1)).2:=b.2.2;rcases Cv b.1 with p|p
       · have:=ex.hi _ p b.2.1;rw[nv]at ex1;omega
       · rw[<- p,Gap.pt_zero]at eb;omega
     · omega
   have em:(k+1)%qs.length=0:=by rw[last];exact Nat.mod_self _
   rw[em,f,e0,eg];refine⟨rfl,?_,iff_of_true nv last⟩;have:=Gap.pt_pos (p:=s.num) (n:=v) hq hg hz.v0 (by have:=hz.vN;omega);rw[<- nv,<- ex1]at this;rw[<- ex1]
   have e:(0-(zS qs k).1:Int)%(s.den:Int)=s.den-(zS qs k).1:=by
    rw[show(0-(zS qs k).1:Int)=(s.den-(zS qs k).1)+(s.den:Int)*(-1) by omega,EJ,EY (by omega) (by omega)]
   exact e
 · obtain⟨i,hi,ei⟩:=h.ix m0 mN;have ei1:(zS qs i).1=Gap.pt s.num s.den (Gap.nxN u v N (zS qs k).2):=by rw[ei]
   have ki:=h.lt_of hq hg hN hk hi (by omega);have k1:k+1<qs.length:=by omega
   have em:(k+1)%qs.length=k+1:=Nat.mod_eq_of_lt k1;have l:=h.lt hq hg hN (show k<k+1 by omega) k1;have b:=h.at k1;have eb:(zS qs (k+1)).1=Gap.pt s.num s.den (zS qs (k+1)).2:=b.2.2;have:=mn _ b.1 b.2.1 (by omega)
   have ik:i=k+1:=by
    rcases Nat.lt_or_eq_of_le (show k+1<=i by omega)with c|c
    · have:=h.lt hq hg hN c hi;omega
    · exact c.symm
   subst ik;rw[em];have bm:=Gap.pt_bd (p:=s.num) (n:=(Gap.nxN u v N (zS qs k).2)) hq;refine⟨by rw[ei],?_,iff_of_false nv (by omega)⟩;rw[show(zS qs (k+1)).1-(zS qs k).1=Gap.gpN s.num s.den u v N (zS qs k).2 by omega];exact EY (by omega) (by omega)
end
theorem jt[DecidableEq α]{xs ys:List (α×Int)}(h:xs.Perm ys)(k:α):Ct.total xs k=Ct.total ys k:=by
 unfold Ct.total
 induction h with
 | nil=>rfl
 | cons x _ ih=>rw[BM,BM,D5,D5,ih]
 | swap x y l=>simp only[BM,D5];omega
 | trans _ _ h1 h2=>rw[h1,h2]
section
variable{s:Rat}{N u v:Int}{qs:List (Int×Int)}
theorem jf(hz:Gap.Nb s.num s.den N u v)(d:Int):∀i:Nat,(i:Int)<=N->Ct.total ((BZ i).map fun j:Nat=>(Gap.gpN s.num s.den u v N (j:Int),(1:Int))) d =
 (if Gap.pt s.num s.den u=d then min (i:Int) (N-u)else 0)+(if(s.den:Int)-Gap.pt s.num s.den v=d then max (i:Int) v-v else 0)+(if Gap.pt s.num s.den u+((s.den:Int)-Gap.pt s.num s.den v)=d then max (min (i:Int) v) (N-u)-(N-u)else 0)
 | 0,_=>by
   obtain⟨u0,u1,v0,v1,few,_⟩:=hz;show(0:Int)=_
   repeat' split
   all_goals omega
 | i+1,h=>by
   have ih:=jf hz d i (by omega);obtain⟨u0,u1,v0,v1,few,_⟩:=hz;rw[FR,C3,show [i].map (fun j:Nat=>(Gap.gpN s.num s.den u v N (j:Int),(1:Int)))=[(Gap.gpN s.num s.den u v N (i:Int),1)]from rfl,Ct.total_snoc,ih];clear ih;unfold Gap.gpN;generalize Gap.pt s.num s.den u=a;generalize (s.den:Int)-Gap.pt s.num s.den v=b;by_cases c1:(i:Int)+u<N
   · rw[if_pos c1];by_cases e1:a=d<;>by_cases e2:b=d<;>by_cases e3:a+b=d<;>simp only[e1,e2,e3,if_true,if_false]<;>omega
   · rw[if_neg c1];by_cases c2:v<=(i:Int)
     · rw[if_pos c2];by_cases e1:a=d<;>by_cases e2:b=d<;>by_cases e3:a+b=d<;>simp only[e1,e2,e3,if_true,if_false]<;>omega
     · rw[if_neg c2];by_cases e1:a=d<;>by_cases e2:b=d<;>by_cases e3:a+b=d<;>simp only[e1,e2,e3,if_true,if_false]<;>omega
theorem kY:∀qs:List (Int×Int),(BZ qs.length).map (zS qs)=qs:=fun qs=>by
 refine El (by simp) fun i h1 h2=>?_;rw[List.getElem_map,List.getElem_range,b4 h2]
theorem Srt.gaps(h:Srt s N qs)(hq:0<(s.den:Int))(hg:BU s.num s.den=1)(hN:N<=s.den)(h2:2<=N)(hz:Gap.Nb s.num s.den N u v) :
 ((BZ qs.length).map fun k=>(Aw s qs k,(1:Int))).Perm ((BZ N.toNat).map fun j:Nat=>(Gap.gpN s.num s.den u v N (j:Int),(1:Int))):=by
 have e:((BZ qs.length).map fun k=>(Aw s qs k,(1:Int)))=qs.map fun z=>(Gap.gpN s.num s.den u v N z.2,(1:Int)):=by
  conv=>rhs;rw[<- kY qs]
  rw[Cm];refine DR fun k mk=>?_;show(Aw s qs k,(1:Int))=(Gap.gpN s.num s.den u v N (zS qs k).2,1);rw[(h.next hq hg hN h2 hz (CT.mp mk)).2.1]
 rw[e];have:=h.hp.map fun z=>(Gap.gpN s.num s.den u v N z.2,(1:Int));rw[Cm]at this;exact this
theorem Srt.total(h:Srt s N qs)(hq:0<(s.den:Int))(hg:BU s.num s.den=1)(hN:N<=s.den)(h2:2<=N)(hz:Gap.Nb s.num s.den N u v)(d:Int) :
 Ct.total ((BZ qs.length).map fun k=>(Aw s qs k,(1:Int))) d=(if Gap.pt s.num s.den u=d then N-u else 0)+(if(s.den:Int)-Gap.pt s.num s.den v=d then N-v else 0)+(if Gap.pt s.num s.den u+((s.den:Int)-Gap.pt s.num s.den v)=d then u+v-N else 0):=by
 rw[jt (h.gaps hq hg hN h2 hz) d,jf hz d _ (by omega)];obtain⟨u0,u1,v0,v1,few,_⟩:=hz;have e1:min (N.toNat:Int) (N-u)=N-u:=by omega
 have e2:max (N.toNat:Int) v-v=N-v:=by omega
 have e3:max (min (N.toNat:Int) v) (N-u)-(N-u)=u+v-N:=by omega
 rw[e1,e2,e3]
end
theorem iE{xs m:List (Rat×Int)}(h:Ct.Cnts (xs.filter fun z=>decide (0<z.2)) m)(z:Rat×Int):Ct.Cnts ((xs++[z]).filter fun z=>decide (0<z.2)) (fQ m z):=by
 rw[List.filter_append];unfold fQ;by_cases c:0<z.2
 · rw[if_pos c,show [z].filter (fun z=>decide (0<z.2))=[z] by simp[c]];exact h.add z.1 z.2
 · rw[if_neg c,show [z].filter (fun z=>decide (0<z.2))=[] by simp[c],DB];exact h
theorem o7(s:Rat)(N u v:Int):Ct.Cnts ((iR s N u v).filter fun z=>decide (0<z.2)) (gaG s N u v) :=
 iE (xs:=[_,_]) (iE (xs:=[_]) (iE (xs:=[]) Ct.Cnts.nil _) _) _
theorem k6{D:Nat}(h:0<D)(a:Int):qd a (D:Int)*((D:Int):Rat)=(a:Rat):=by
 unfold qd
 have hz:((D:Int):Rat)≠0:=fun z=>by
  have z2:(D:Int)=0:=by exact_mod_cast z
  omega
 exact Rat.div_mul_cancel hz
theorem k7{D:Nat}(h:0<D){a:Int}(e:qd a (D:Int)=qd b (D:Int)):a=b:=by
 have h1:=k6 h a;rw[e,k6 h b]at h1
 exact_mod_cast h1.symm
theorem ib{D:Nat}(h:0<D)(a b:Int):qd a (D:Int)+qd b (D:Int)=qd (a+b) (D:Int):=by
 unfold qd;rw[D_,D_,D_,<- Rat.add_mul,EG]
theorem tD{D:Nat}(h:0<D){a:Int}(l:a<b):qd a (D:Int)<qd b (D:Int):=by
 have h0:=ql (a:=b-a) (b:=(D:Int)) (by omega) (by omega);have e:=ib h a (b-a);rw[show a+(b-a)=b by omega]at e
 have le:qd a (D:Int)<=qd b (D:Int):=by
  rw[<- e];have:=Rat.add_le_add_left (c:=qd a (D:Int)) |>.mpr h0
  rwa [Rat.add_zero]at this
 exact Rat.lt_of_le_of_ne le fun z=>by have:=k7 h z;omega
theorem qm{D:Nat}(h:0<D)(c:Int):1-qd c (D:Int)=qd ((D:Int)-c) (D:Int):=by
 have e1:qd (D:Int) (D:Int)=1:=by
  unfold qd
  have hz:((D:Int):Rat)≠0:=fun z=>by
   have z2:(D:Int)=0:=by exact_mod_cast z
   omega
  rw[D_];exact Rat.mul_inv_cancel _ hz
 have e2:=ib h ((D:Int)-c) c;rw[show((D:Int)-c)+c=D by omega,e1]at e2;generalize qd ((D:Int)-c) (D:Int)=x at *;generalize qd c (D:Int)=y at *
 grind
theorem Ct.Cnts.key[DecidableEq α]{xs m:List (α×Int)}(h:Ct.Cnts xs m)(k:α):k∈m.map (·.1)↔k∈xs.map (·.1):=by
 rw[Ct.getC_mem,h.val];by_cases c:k∈xs.map (·.1)
 · rw[if_pos c];exact⟨fun _=>c,fun _=>⟨_,rfl⟩⟩
 · rw[if_neg c];exact⟨fun⟨_,e⟩=>(by cases e),fun e=>absurd e c⟩
section
variable{s:Rat}{N u v:Int}{qs:List (Int×Int)}
theorem kB(s:Rat)(N u v:Int):iR s N u v=[(Gap.pt s.num s.den u,N-u),((s.den:Int)-Gap.pt s.num s.den v,N-v),(Gap.pt s.num s.den u+((s.den:Int)-Gap.pt s.num s.den v),u+v-N)].map fun z=>(qd z.1 s.den,z.2):=by
 have h:0<s.den:=s.den_pos;have e:(1:Rat)-Ap s v=qd ((s.den:Int)-Gap.pt s.num s.den v) s.den:=qm h _;unfold iR;rw[e,show Ap s u=qd (Gap.pt s.num s.den u) s.den from rfl,ib h];rfl
theorem fZ(hz:Gap.Nb s.num s.den N u v)(d:Int):Ct.total ((iR s N u v).filter fun z=>decide (0<z.2)) (qd d s.den)=(if Gap.pt s.num s.den u=d then N-u else 0)+(if(s.den:Int)-Gap.pt s.num s.den v=d then N-v else 0)+(if Gap.pt s.num s.den u+((s.den:Int)-Gap.pt s.num s.den v)=d then u+v-N else 0):=by
 obtain⟨u0,u1,v0,v1,few,_⟩:=hz;have h:0<s.den:=s.den_pos;have iff:∀a:Int,(qd a s.den=qd d s.den)=(a=d):=fun a=>propext ⟨k7 h,fun e=>by rw[e]⟩;rw[kB];have p1:0<N-u:=by omega
 have p2:0<N-v:=by omega
 have fp:∀(z:Rat×Int)(l:List (Rat×Int)),0<z.2->Gp (fun z=>decide (0<z.2)) (z::l)=z::Gp (fun z=>decide (0<z.2)) l:=fun z l h=>List.filter_cons_of_pos (decide_eq_true h);have fn:∀(z:Rat×Int)(l:List (Rat×Int)),¬0<z.2->Gp (fun z=>decide (0<z.2)) (z::l)=Gp (fun z=>decide (0<z.2)) l:=fun z l h=>List.filter_cons_of_neg (by simpa using h);simp only[BM,Dc];rw[fp (_,N-u) _ p1,fp (_,N-v) _ p2];by_cases p3:0<u+v-N
 · rw[fp (_,u+v-N) _ p3,List.filter_nil];simp only[Ct.total,BM,Dc,D5,List.sum_nil,iff];omega
 · have e3:u+v-N=0:=by omega
   rw[fn (_,u+v-N) _ p3,List.filter_nil,e3,ite_self];simp only[Ct.total,BM,Dc,D5,List.sum_nil,iff];omega
theorem hJ(hz:Gap.Nb s.num s.den N u v)(r:Rat):r∈((iR s N u v).filter fun z=>decide (0<z.2)).map (·.1)↔∃d,r=qd d s.den/\∃n:Nat,(n:Int)<N/\d=Gap.gpN s.num s.den u v N n:=by
 obtain⟨u0,u1,v0,v1,few,_⟩:=hz;rw[kB];have p1:0<N-u:=by omega
 have p2:0<N-v:=by omega
 have g1:∀n:Int,n+u<N->Gap.gpN s.num s.den u v N n=Gap.pt s.num s.den u:=fun n c=>if_pos c;have g2:∀n:Int,v<=n->Gap.gpN s.num s.den u v N n=(s.den:Int)-Gap.pt s.num s.den v:=fun n c=>by unfold Gap.gpN;rw[if_neg (by omega),if_pos c]
 have g3:∀n:Int,¬n+u<N->¬v<=n->Gap.gpN s.num s.den u v N n=Gap.pt s.num s.den u+((s.den:Int)-Gap.pt s.num s.den v):=fun n c c'=>by unfold Gap.gpN;rw[if_neg c,if_neg c']
 rw[Ch];constructor
 · rintro⟨z,mz,rfl⟩;rw[Dz]at mz;obtain⟨mz,pz⟩:=mz;have pz:=of_decide_eq_true pz;simp only[BM,Dc,BL,Da,or_false]at mz;rcases mz with rfl|rfl|rfl
   · exact⟨_,rfl,0,by omega,(g1 _ (by omega)).symm⟩
   · exact⟨_,rfl,v.toNat,by omega,(g2 _ (by omega)).symm⟩
   · have pz:0<u+v-N:=pz;exact⟨_,rfl,(N-u).toNat,by omega,(g3 _ (by omega) (by omega)).symm⟩
 · rintro⟨d,rfl,n,hn,rfl⟩;by_cases c1:(n:Int)+u<N
   · rw[g1 _ c1];exact⟨(_,N-u),Dz.mpr ⟨Bw,decide_eq_true p1⟩,rfl⟩
   · by_cases c2:v<=(n:Int)
     · rw[g2 _ c2];exact⟨(_,N-v),Dz.mpr ⟨Br _ Bw,decide_eq_true p2⟩,rfl⟩
     · rw[g3 _ c1 c2];exact⟨(_,u+v-N),Dz.mpr ⟨Br _ (Br _ Bw),decide_eq_true (show 0<u+v-N by omega)⟩,rfl⟩
theorem Srt.same(h:Srt s N qs)(hg:BU s.num s.den=1)(hN:N<=s.den)(h2:2<=N)(hz:Gap.Nb s.num s.den N u v){rs:List Rat}(hr:cO ((gaG s N u v).map (·.1)) rs)
 (pm:ns.Perm ((zW s qs qs.length).map (·.1)))(pw:ns.Pairwise (· <= ·)):rs.map (g8 (gaG s N u v))=ns.map (lG s (zW s qs qs.length)):=by
 have hd:0<s.den:=s.den_pos;have hq:0<(s.den:Int):=by omega
 have c1:=o7 s N u v;have c2:=lu s qs qs.length
 have key2:∀n,n∈ns↔∃j:Nat,(j:Int)<N/\n=Gap.gpN s.num s.den u v N j:=fun n=>by
  rw[pm.mem_iff,c2.key,((h.gaps hq hg hN h2 hz).map (·.1)).mem_iff,Cm,Ch];constructor
  · rintro⟨j,mj,rfl⟩;have:=CT.mp mj;exact⟨j,by omega,rfl⟩
  · rintro⟨j,hj,rfl⟩;exact⟨j,CT.mpr (by omega),rfl⟩
 have nd:ns.Nodup:=pm.nodup_iff.mpr c2.nd;have lt:ns.Pairwise (· < ·):=(pw.and nd).imp fun{a b}(x:a<=b/\a≠b)=>by omega
 have ers:rs=ns.map fun n=>qd n s.den:=by
  refine d_ hr.1 (EW.mpr (lt.imp fun{a b} l=>tD hd l)) fun q=>?_;rw[hr.2,c1.key,hJ hz,Ch];constructor
  · rintro⟨d,rfl,n,hn,e⟩;exact⟨d,(key2 d).mpr ⟨n,hn,e⟩,rfl⟩
  · rintro⟨d,md,rfl⟩;obtain⟨j,hj,e⟩:=(key2 d).mp md;exact⟨d,rfl,j,hj,e⟩
 rw[ers,Cm];refine DR fun n mn=>?_;show g8 (gaG s N u v) (qd n s.den)=lG s (zW s qs qs.length) n;obtain⟨j,hj,ej⟩:=(key2 n).mp mn;unfold g8 lG;rw[c1.val,c2.val,if_pos ((hJ hz _).mpr ⟨n,rfl,j,hj,ej⟩),if_pos ((c2.key n).mp (pm.mem_iff.mp mn))];show CF [_,.int (Ct.total _ _)]=CF [_,.int (Ct.total _ _)];rw[fZ hz,h.total hq hg hN h2 hz]
end
theorem nB(h:qs≠[]):L2.atI (qs.map Ah) (-1)=some (Ah (zS qs (qs.length-1))):=by
 have e:=List.dropLast_concat_getLast h;have hp:=List.length_pos_iff.mpr h;have g:qs.getLast h=zS qs (qs.length-1):=by rw[b4 (by omega),List.getLast_eq_getElem]
 rw[dQ,<- g];generalize qs.getLast h=z at *;generalize qs.dropLast=ini at *;rw[<- e,oE];rfl
theorem t7{p q v u' v':Int}(hq:0<q)(hg:BU p q=1)(hN:N<=q)(h:Gap.Nb p q N u v)(h':Gap.Nb p q N u' v'):u'=u/\v'=v:=(Gap.nb_one hq hg hN (Gap.ex_of_nb hq hg hN h)).mp h'
theorem Srt.ends{s:Rat}{v:Int}(h:Srt s N qs)(hq:0<(s.den:Int))(hg:BU s.num s.den=1)(hN:N<=s.den)(h2:2<=N)(hz:Gap.Nb s.num s.den N u v):(zS qs 1).2=u/\(zS qs (qs.length-1)).2=v:=by
 have hl:=h.len;have a:=(h.next hq hg hN h2 hz (k:=0) (by omega)).1;rw[h.first hq hg hN h2,Nat.mod_eq_of_lt (by omega)]at a;have u1:=hz.uN;have e:Gap.nxN u v N 0=u:=by unfold Gap.nxN;rw[if_pos (by omega)];omega
 exact⟨a.symm.trans e,(h.next hq hg hN h2 hz (k:=qs.length-1) (by omega)).2.2.mpr (by omega)⟩
theorem vY{i:Int}(h:i.natAbs<2^40):Sm 0 30 (.int i):=(Sm.int (Bq h (BD (by decide) (by decide)))).mono (by decide) (by decide)
theorem sW(h:∀d∈xs,Sm 0 30 d)(hl:xs.length<=3):AO (.tuple xs)/\AO (.list xs):=⟨(Sm.seq h hl).1.shw (by decide) (by decide),(Sm.seq h hl).2.shw (by decide) (by decide)⟩
theorem oU{a b:Bl}(ha:Sm 0 30 a)(hb:Sm 0 30 b):∀d∈[a,b],Sm 0 30 d:=fun d m=>by
 rcases BL.mp m with rfl|m
 · exact ha
 · cases D6.mp m;exact hb
theorem p8{a:Int}(ha:a.natAbs<2^40)(hb:b.natAbs<2^40):AO (.tuple [.int a,.int b]):=(sW (oU (vY ha) (vY hb)) (by simp)).1
noncomputable def av:List W->(Bl->Prop)->Prop:=fun ws Q=>∃(s:Rat)(N u v:Int),ws=[.d (fr s),.d (.int N),.d (.tuple [.int u,.int v])]/\((∃B,c7 s B/\B<=10^9)/\(N<=10^9)/\(Gap.Nb s.num s.den N u v))/\Q (.bool true)
theorem av.mono:∀ws (Q Q':Bl->Prop),(∀d,Q d->Q' d)->av ws Q->av ws Q':=fun _ _ _ h_=>BI fun _=>BI fun _=>BI fun _=>BI fun _=>Bt (Bt (h_ _))
theorem av.len:∀ws (Q:Bl->Prop),av ws Q->ws.length=3:=fun _ _ h_=>by obtain⟨_,_,_,_,e_,_⟩:=h_;subst e_;rfl
theorem av.eq(s:Rat)(N u v:Int)(hs:∃B,c7 s B/\B<=10^9)(hN:N<=10^9)(hn:Gap.Nb s.num s.den N u v):av [.d (fr s),.d (.int N),.d (.tuple [.int u,.int v])]=VL.ret (.bool true:Bl):=by
 refine ae fun Q=>⟨?_,fun q_=>⟨s,N,u,v,rfl,⟨hs,hN,hn⟩,q_⟩⟩;rintro⟨s',N',u',v',e_,_,q_⟩;simp_arith only[gS,cq,cu,bN,bK,cy]at e_;obtain⟨rfl,rfl,rfl,rfl⟩:=e_;exact q_
theorem cG:FnScope ["step", "many", "thing", "u", "v"] ["step", "many", "thing"] (defScope (zp 23)):=⟨rfl,rfl,rfl,by decide +kernel,rfl,by decide +kernel,by decide +kernel⟩
theorem d_lets_neighbours(Fn:FnIn K mg "lets_neighbours" (zp 23) ["step", "many", "thing"])(Z:Bz mg)(d_is_pair:∀rl,Dfn P w K mg base rl "is_pair" ["many", "thing"] 3 bF)(d_plus:∀rl,Dfn P w K mg base rl "plus" ["one", "other"] 3 cJ)(d_times:∀rl,Dfn P w K mg base rl "times" ["one", "other"] 3 b5)(d_gap_above:∀rl,Dfn P w K mg base rl "gap_above" ["step", "u"] 5 aT)(d_gap_below:∀rl,Dfn P w K mg base rl "gap_below" ["step", "v"] 5 aS)(gl_ONE:GlD K mg "ONE" (pr 1 1))  : Dfn P w K mg base rl "lets_neighbours" ["step", "many", "thing"] 6 av:=by
 have sc:=cG
 refine Dfn.of Fn sc (av.mono) (av.len) (fun cdv A outer s H E hr=>(ai (cC (fT (fS (ar (d_is_pair _) (hr.mono (by decide)) (aa (vn 1) (aa (vn 2) ac))))) (aq c9) bP)
  (ai (jY (vn 2) (iK (n:=2) rfl (bJ (aQ 3 sc.nd) (bJ (aQ 4 sc.nd) eO))))
  (ai (cC (bf fu g_ (aO _) (v_add (vn 3) (vn 4)) (vn 1)) (aq c9) bP)
  (ai (cC (bf (lm hr.units) iJ (aO _) (ar (d_plus _) (hr.mono (by decide)) (aa (ar (d_times _) (hr.mono (by decide)) (aa (cn (aa (vn 4) (aa ag ac))) (aa (ar (d_gap_above _) (hr.mono (by decide)) (aa (vn 0) (aa (vn 3) ac))) ac))) (aa (ar (d_times _) (hr.mono (by decide)) (aa (cn (aa (vn 3) (aa ag ac))) (aa (ar (d_gap_below _) (hr.mono (by decide)) (aa (vn 0) (aa (vn 4) ac))) ac))) ac))) (iO gl_ONE)) (aq c9) bP)
  (aq (aC eW))))))) ?_
 rintro ws Q ⟨s,N,u,v,rfl,⟨hs,hN,hn⟩,hQ⟩;refine aE ?_;obtain⟨B,h1,hB⟩:=hs;obtain⟨u0,u1,v0,v1,few,rd⟩:=hn;have hp:zT N (.tuple [.int u,.int v])=true:=wc.mpr ⟨u,v,rfl,u0,u1,v0,v1⟩;have c1:¬u+v<N:=by omega
 have hs:∃B,c7 s B/\B<=10^9:=⟨B,h1,hB⟩;have hu:u.natAbs<2^600:=Bq (show u.natAbs<2^30 by omega) (BD (by decide) (by decide));have hv:v.natAbs<2^600:=Bq (show v.natAbs<2^30 by omega) (BD (by decide) (by decide));have iu:zP 30 (u:Rat):=gP (by omega) (by decide);have iv:zP 30 (v:Rat):=gP (by omega) (by decide);have eu:CF [.int u,.int 1]=fr (u:Rat):=rfl;have ev:CF [.int v,.int 1]=fr (v:Rat):=rfl;have g1:=gQ h1 hB u;have g2:zP 100 (1-Ap s v):=(kG wa (gQ h1 hB v)).mono (by decide);have m1:=i7 iv g1;have m2:=i7 iu g2;have s1:zP 2000 (u:Rat):=iu.mono (by decide);have s2:zP 2000 (v:Rat):=iv.mono (by decide);have s3:zP 2000 (Ap s u):=g1.mono (by decide);have s4:zP 2000 (1-Ap s v):=g2.mono (by decide);have s5:zP 2000 ((v:Rat)*Ap s u):=m1.mono (by decide);have s6:zP 2000 ((u:Rat)*(1-Ap s v)):=m2.mono (by decide);have e:decide ((v:Rat)*Ap s u+(u:Rat)*(1-Ap s v)=1)=true:=decide_eq_true ((kQ s u v).mpr rd);simp_arith only[aj,ah,bF.eq,cJ.eq,b5.eq,aT.eq,aS.eq,Bi,hp,c1,eu,ev,e,uD,kN];exact aK hQ
theorem rh{s:Rat}{v:Int}(hs:c7 s B)(hB:B<=10^9)(h62:N<=62)(hz:Gap.Nb s.num s.den N u v){r:Rat}(mr:r∈(gaG s N u v).map (·.1)):Sm 10 200 (g8 (gaG s N u v) r):=by
 have g1:=gQ hs hB u;have g2:zP 100 (1-Ap s v):=(kG wa (gQ hs hB v)).mono (by decide);have g3:=jo g1 g2;have hk:=lZ mr
 have sr:zP 300 r:=by
  simp only[iR,BM,Dc,BL,Da,or_false]at hk;rcases hk with rfl|rfl|rfl
  · exact g1.mono (by decide)
  · exact g2.mono (by decide)
  · exact g3.mono (by decide)
 have c:=o7 s N u v;have mk:=(c.key r).mp mr;obtain⟨d,e,n,hn,ed⟩:=(hJ hz r).mp mk;have val:=c.val r;rw[if_pos mk,e,fZ hz]at val;obtain⟨u0,uN,v0,vN,few,_⟩:=hz;have en:∃c:Int,Ct.getC (gaG s N u v) r=some c/\c.natAbs<2^40:=⟨_,by rw[e];exact val,by split<;>split<;>split<;>omega⟩;obtain⟨c',ec,hc⟩:=en;have ed:g8 (gaG s N u v) r = .tuple [fr r,.int c']:=by unfold g8;rw[ec];rfl
 rw[ed];have f1:Sm 2 2 (fr r):=Sm.pair (Bq sr.1 (BD (by decide) (by decide))) (Bq (show(r.den:Int).natAbs<2^300 by rw[Cu];exact sr.2) (BD (by decide) (by decide)));have f2:Sm 2 2 (.int c'):=(Sm.int (Bq hc (BD (by decide) (by decide)))).mono (by decide) (by decide)
 exact((Sm.seq (n:=2) (xs:=[fr r,.int c']) (fun d m=>by
  rcases BL.mp m with rfl|m
  · exact f1
  · cases D6.mp m;exact f2) (by simp)).1).mono (by decide) (by decide)
theorem oj{s:Rat}{v:Int}(hs:c7 s B)(hB:B<=10^9)(h62:N<=62)(hz:Gap.Nb s.num s.den N u v){rs:List Rat}(hr:cO ((gaG s N u v).map (·.1)) rs):AO (.tuple (rs.map (g8 (gaG s N u v)))):=by
 have l3:=lY s N u v
 have lr:rs.length<=3:=by
  have:=Dp (hr.1.imp fun{a b}(h:a<b)=>(fun e=>by subst e;exact absurd h (D4))) (fun q h=>(hr.2 q).mp h);rw[Bu]at this;omega
 refine(Sm.seq (n:=3) (dp:=10) (bk:=200) (fun d md=>?_) (by rw[Bu];exact lr)).1.shw (by decide) (by decide);obtain⟨r,mr,rfl⟩:=Ch.mp md;exact rh hs hB h62 hz ((hr.2 r).mp mr)
noncomputable def ay:List W->(Bl->Prop)->Prop:=fun ws Q=>∃(s:Rat)(N:Int),ws=[.d (fr s),.d (.int N)]/\((∃B,c7 s B/\B<=10^9)/\(2<=N)/\(N<=s.den)/\(N<=62))/\Q (.bool true)
theorem ay.mono:∀ws (Q Q':Bl->Prop),(∀d,Q d->Q' d)->ay ws Q->ay ws Q':=fun _ _ _ h_=>BI fun _=>BI fun _=>Bt (Bt (h_ _))
theorem ay.len:∀ws (Q:Bl->Prop),ay ws Q->ws.length=2:=fun _ _ h_=>by obtain⟨_,_,e_,_⟩:=h_;subst e_;rfl
theorem ay.eq(s:Rat)(N:Int)(hs:∃B,c7 s B/\B<=10^9)(h2:2<=N)(hN:N<=s.den)(h62:N<=62):ay [.d (fr s),.d (.int N)]=VL.ret (.bool true:Bl):=by
 refine ae fun Q=>⟨?_,fun q_=>⟨s,N,rfl,⟨hs,h2,hN,h62⟩,q_⟩⟩;rintro⟨s',N',e_,_,q_⟩;simp_arith only[gS,cq,cu,bN,bK,cy]at e_;obtain⟨rfl,rfl⟩:=e_;exact q_
theorem cQ:FnScope ["_law_step", "_law_many", "_law_some", "_law_k"] ["_law_step", "_law_many"] (defScope (zp 35)):=⟨rfl,rfl,rfl,by decide +kernel,rfl,by decide +kernel,by decide +kernel⟩
theorem d__law_all_right(Fn:FnIn K mg "_law_all_right" (zp 35) ["_law_step", "_law_many"])(Z:Bz mg)(d_neighbours:∀rl,Dfn P w K mg base rl "neighbours" ["step", "many"] 2 aB)(d_gaps:∀rl,Dfn P w K mg base rl "gaps" ["step", "many"] 6 dC)(d__law_gaps:∀rl,Dfn P w K mg base rl "_law_gaps" ["_law_step", "_law_some"] 3 bc)(d_next_of:∀rl,Dfn P w K mg base rl "next_of" ["step", "many", "n"] 3 bE)   : Dfn P w K mg base rl "_law_all_right" ["_law_step", "_law_many"] 7 ay:=by
 have sc:=cQ
 refine Dfn.of Fn sc (ay.mono) (ay.len) (fun cdv A outer s H E hr=>(ai (ba 2 sc.nd (ka Z.sorted_ (aa (b8 ["_law_n", "_law_step"] [none,some 0] rfl (cE Z.range_ (aa (vn 1) ac)) (fun _=>(aQ 0 (show Es (["_law_n", "_law_step"]:List Str) by decide +kernel))) (fun _=>di) (fun _=>(cn (aa (v_mod (v_mul (vn 0) (bH (vn 1) ag)) (bH (vn 1) ag)) (aa (vn 0) ac))))) ac)))
  (ai (cC (bf tW oG (aO _) (d6 (hr.mono (B7 _)) Z.repr_ (aa (ar (d_neighbours _) (hr.mono (by decide)) (aa (vn 0) (aa (vn 1) ac))) ac)) (d6 (hr.mono (B7 _)) Z.repr_ (aa (cn (aa (bH (bH (vn 2) ag) ag) (aa (bH (bH (vn 2) (m8 ag)) ag) ac))) ac))) (aq (aC eW)) bP)
  (ai (eK [3] C4 rfl (cE Z.range_ (aa (vn 1) ac)) (aQ 3 sc.nd) (aq (cC (bf tW oG (aO _) (d6 (hr.mono (B7 _)) Z.repr_ (aa (ar (d_next_of _) (hr.mono (by decide)) (aa (vn 0) (aa (vn 1) (aa (bH (bH (vn 2) (vn 3)) ag) ac)))) ac)) (d6 (hr.mono (B7 _)) Z.repr_ (aa (bH (bH (vn 2) (v_mod (v_add (vn 3) ag) (vn 1))) ag) ac))) (aq (aC eW)) bP)))
  (aq (aC (sv t4 rZ (aO _) (d6 (hr.mono (B7 _)) Z.repr_ (aa (ar (d_gaps _) (hr.mono (by decide)) (aa (vn 0) (aa (vn 1) ac))) ac)) (d6 (hr.mono (B7 _)) Z.repr_ (aa (ar (d__law_gaps _) (hr.mono (by decide)) (aa (vn 0) (aa (vn 2) ac))) ac))))))))) ?_
 rintro ws Q ⟨s,N,rfl,⟨hs,h2,hN,h62⟩,hQ⟩;refine aE ?_;have sz:=B3;have hs':=hs;obtain⟨B,⟨h3,h4,h5⟩,hB⟩:=hs';have nz:(s.den:Int)≠0:=by omega
 have hq:0<(s.den:Int):=by omega
 have hg:=lW s;have g1 : -(2^62)<=N/\N<2^62:=by omega
 simp_arith only[aj,ah,Bi];refine zC (oB (fun j:Nat=>Ah (ptQ s (j:Int),(j:Int))) ?_ (by omega) ?_)
 · intro j hj;have c1:bo (j:Int) s.num:=.rt (by omega);have e1:((j:Int)*s.num).fmod (s.den:Int)=ptQ s (j:Int):=wC _ _;simp_arith only[aj,ah,Ac,Bi,e1,GJ]
 · have em:(BZ N.toNat).map (fun j:Nat=>Ah (ptQ s (j:Int),(j:Int)))=((BZ N.toNat).map fun j:Nat=>(ptQ s (j:Int),(j:Int))).map Ah:=by rw[Cm];rfl
   have e0:(N-0).toNat=N.toNat:=by rw[Int.sub_zero]
   try rw[e0]
   rw[em];simp_arith only[aj,ah,Bi,qP,mI];refine fC (by rw[List.length_range];omega) ?_
   (with_reducible (first|refine aL fun qs hqs=>?_|refine aX fun qs hqs=>?_))
   have hS:Srt s N qs:=⟨hqs.1,hqs.2⟩;simp_arith only[aj,ah,Bi,aB.eq];refine zC ?_
   (with_reducible (first|refine aL fun z hz=>?_|refine aX fun z hz=>?_))
   obtain⟨u,v⟩:=z;have hz:Gap.Nb s.num s.den N u v:=hz;have hl:=hS.len;have e1:L2.atI (qs.map Ah) 1=some (Ah (zS qs 1)):=gC (k:=1) (by omega);have e2:=nB (qs:=qs) (fun z=>by rw[z]at hl;simp at hl;omega);obtain⟨d1,d2⟩:=hS.ends hq hg hN h2 hz;have du:=hz.u0;have dv:=hz.v0;have eu:=hz.uN;have ev:=hz.vN;have w1:AO (.tuple [.int u,.int v]):=p8 (by omega) (by omega);simp_arith only[aj,ah,Bi,e1,e2,d1,d2,w1];refine jg ?_ ?_
   · intro i hi K2 hK2;have hi':i<qs.length:=by omega
     have lt:(i+1)%qs.length<qs.length:=Nat.mod_lt _ (by omega);have f1:=gC hi';have f2:=gC lt;have em:((i:Int)+1).fmod N=(((i+1)%qs.length:Nat):Int):=by rw[C7 _ (by omega),show N=(qs.length:Int) by omega];rfl
     have a1:=hS.at hi';have a2:=hS.at lt;have nx:=(hS.next hq hg hN h2 hz hi').1;simp_arith only[aj,ah,Bi,f1,f2,em,bE.eq,GJ]
     (with_reducible (first|refine aL fun m hm=>?_|refine aX fun m hm=>?_))
     obtain⟨u',v',hz',em'⟩:=hm;obtain⟨q1,q2⟩:=t7 hq hg hN hz hz';subst q1 q2;have em2:m=(zS qs ((i+1)%qs.length)).2:=em'.trans nx;have wm:AO (.int (zS qs ((i+1)%qs.length)).2):=(vY (by omega)).shw (by decide) (by decide);subst em2;simp_arith only[aj,ah,Bi,wm];exact hK2 _ (lC rfl)
   · simp_arith only[aj,ah,Bi,dC.eq,bc.eq]
     (with_reducible (first|refine aL fun g hgz=>?_|refine aX fun g hgz=>?_))
     obtain⟨u',v',rs⟩:=g;obtain⟨hz',hr⟩:=hgz;have hz':Gap.Nb s.num s.den N u' v':=hz';obtain⟨q1,q2⟩:=t7 hq hg hN hz hz';subst q1 q2;have hr:cO ((gaG s N u' v').map (·.1)) rs:=hr;have w2:AO (.tuple (rs.map (g8 (gaG s N u' v')))):=oj ⟨h3,h4,h5⟩ hB h62 hz hr;refine fC (show AO (.tuple (rs.map (g8 (gaG s N u' v'))))from w2) ?_
     (with_reducible (first|refine aL fun ns hns=>?_|refine aX fun ns hns=>?_))
     have sm:=hS.same hg hN h2 hz hr hns.1 hns.2;refine fC (show AO (.tuple (ns.map (lG s (zW s qs qs.length)))) by rw[<- sm];exact w2) ?_;have e:decide ((CF (rs.map (g8 (gaG s N u' v')))).shown=(CF (ns.map (lG s (zW s qs qs.length)))).shown)=true:=by rw[sm];exact decide_eq_true rfl
     show VL.ret (Fl.rt (W.d (.bool (decide ((CF (rs.map (g8 (gaG s N u' v')))).shown=(CF (ns.map (lG s (zW s qs qs.length)))).shown))))) (rV Q);rw[e];exact aK hQ
theorem oT{m:Mo Fl}{k:En->Mo Fl}{Q:Fl->Prop}(P:α->Prop)(g:α->Fl)(h:∀Q':Fl->Prop,(∀a,P a->Q' (g a))->m Q')(fin:∀a,P a->sq (VL.ret (g a)) k Q):sq m k Q:=h _ fun a ha=>fin a ha
theorem sY:FnScope ["_law_script", "_law_feed_here", "_law_turn", "_law_step", "_law_most", "_law_few", "_law_many"] ["_law_script"] (defScope (zp 36)):=⟨rfl,rfl,rfl,by decide +kernel,rfl,by decide +kernel,by decide +kernel⟩
theorem n6(Z:Bz mg)(d__law_feed:DfnR P w K mg base "_law_feed" ["_law_script"] 1 uW)(d__law_step_of:∀rl,Dfn P w K mg base rl "_law_step_of" ["_law_feed_here", "_law_most"] 3 aI)(d_lets_neighbours:∀rl,Dfn P w K mg base rl "lets_neighbours" ["step", "many", "thing"] 6 av)(d__law_draw:∀rl,Dfn P w K mg base rl "_law_draw" ["_law_feed_here", "_law_many"] 2 fg)(d__law_all_right:∀rl,Dfn P w K mg base rl "_law_all_right" ["_law_step", "_law_many"] 7 ay)(d_neighbours:∀rl,Dfn P w K mg base rl "neighbours" ["step", "many"] 2 aB)(F:Fun K "law" "law" (zp 36) f fd):FnOk P w K mg base Be 9 f fd ["_law_script"] (d9 K):=by
 have sc:=sY
 refine qL F sc (fun cdv A outer s H E hr=>(pB 1 d__law_feed (hr.mono (by decide)) sc.nd (aa (vn 0) ac) (fun r=>(ai (eK [2,3,4,5,6] C4 rfl (cE Z.range_ (aa ag ac)) (aQ 2 sc.nd) (ai (ba 3 sc.nd (ar (d__law_step_of _) (hr.mono (by decide)) (aa (vn 1) (aa (bH (su (aa ag (aa ag (aa (v_pow ag ag) ac)))) (ar (d__law_draw _) (hr.mono (by decide)) (aa (vn 1) (aa ag ac)))) ac))))
  (ai (ba 4 sc.nd (d7 Z.min_ (aa (bH (vn 3) ag) (aa (v_pow ag ag) ac))))
  (ai (ba 5 sc.nd (d7 Z.min_ (aa (vn 4) (aa (v_add ag (ar (d__law_draw _) (hr.mono (by decide)) (aa (vn 1) (aa ag ac)))) ac))))
  (ai (cC (A1.pb (sf (fT (fS (ar (d__law_all_right _) (hr.mono (by decide)) (aa (vn 3) (aa (vn 5) ac))))) (oI (A1.pb (j9 (bf fu g_ (aO _) (vn 5) ag) (j9 (bf fu g_ (aO _) (vn 5) (vn 4)) (j8 (fT (fS (ar (d__law_all_right _) (hr.mono (by decide)) (aa (vn 3) (aa (v_add (vn 5) ag) ac)))))))))))) (aq (aC eW)) bP)
  (ai (ba 6 sc.nd (d7 Z.min_ (aa (vn 4) (aa (v_add ag (ar (d__law_draw _) (hr.mono (by decide)) (aa (vn 1) (aa ag ac)))) ac))))
  (ai (cC (bf qK pD (aO _) (ar (d_lets_neighbours _) (hr.mono (by decide)) (aa (vn 3) (aa (vn 6) (aa (ar (d_neighbours _) (hr.mono (by decide)) (aa (vn 3) (aa (vn 6) ac))) ac)))) eW) (aq (aC eW)) bP)
  (aq (cC (A1.pb (j9 (bf fu g_ (aO _) (vn 4) ag) (j8 (fT (fS (ar (d__law_all_right _) (hr.mono (by decide)) (aa (vn 3) (aa (vn 4) ac)))))))) (aq (aC eW)) bP)))))))))
  (aq (aC eW)))))) ?_
 intro ns hn;have ps:=uW.eq hn;have sz:=B3;have cp6:vb 10 6:=⟨by decide,by decide,by decide⟩;have e6:(10:Int)^Int.toNat 6=1000000:=by decide
 have cp9:vb 10 9:=⟨by decide,by decide,by decide⟩;have e9:(10:Int)^Int.toNat 9=1000000000:=by decide
 simp_arith only[aj,ah,ps];refine jg ?_ ?_
 · intro i hi K hK;simp_arith only[aj,ah,p__law_draw.eq,cp9,e9]
   (with_reducible (first|refine aL fun a ha=>?_|refine aX fun a ha=>?_))
   refine zB (eE (xs:=[9,60,1000000000]) (enc:=B8) (fun m:Int=>2<=m/\m<=10^9) rfl ha.1 ha.2 (by decide) ?_);rintro mo ⟨mo2,mo9⟩;simp_arith only[aj,ah,p__law_draw.eq,aI.eq,cp6,e6]
   (with_reducible (first|refine aL fun s hs=>?_|refine aX fun s hs=>?_))
   obtain⟨h1,h2,h3⟩:=hs;simp_arith only[aj,ah,p__law_draw.eq,Bi,cp6,e6];have st:∃B,c7 s B/\B<=10^9:=⟨mo,⟨h1,h2,h3⟩,mo9⟩;have m2:2<=min (s.den:Int) 1000000:=by omega
   have mN:min (s.den:Int) 1000000<=s.den:=by omega
   have m6:min (s.den:Int) 1000000<=1000000:=by omega
   generalize min (s.den:Int) 1000000=most at m2 mN m6 ⊢
   (with_reducible (first|refine aL fun b hb=>?_|refine aX fun b hb=>?_))
   have f2:2<=min most (2+b):=by omega
   have f60:min most (2+b)<=60:=by omega
   have fN:min most (2+b)<=most:=by omega
   generalize min most (2+b)=few at f2 f60 fN ⊢;have g1:few<=s.den:=by omega
   have g2:few<=62:=by omega
   rw[sq_nx,s_seq];refine oT (fun _:Unit=>True) (fun _=>.nx [some (.sc ns),some .reel,some (.d (.int (0+i))),some (.d (fr s)),some (.d (.int most)),some (.d (.int few)),none]) ?_ ?_
   · intro Q' hQ';have fin:=hQ' () trivial;by_cases c1:few<20
     · by_cases c2:few<most
       · have g3:few+1<=s.den:=by omega
         have g4:few+1<=62:=by omega
         have g5:2<=few+1:=by omega
         simp_arith only[aj,ah,ay.eq,c1,c2];exact fin
       · simp_arith only[aj,ah,ay.eq,c1,c2];exact fin
     · simp_arith only[aj,ah,ay.eq,c1];exact fin
   · rintro _ _;simp_arith only[aj,ah,p__law_draw.eq]
     (with_reducible (first|refine aL fun c hc=>?_|refine aX fun c hc=>?_))
     have e2:2<=min most (2+c):=by omega
     have eN:min most (2+c)<=most:=by omega
     generalize min most (2+c)=many at e2 eN ⊢;have g3:many<=s.den:=by omega
     have g4:many<=10^9:=by omega
     rw[sq_nx,s_seq];refine oT (fun _:Unit=>True) (fun _=>.nx [some (.sc ns),some .reel,some (.d (.int (0+i))),some (.d (fr s)),some (.d (.int most)),some (.d (.int few)),some (.d (.int many))]) ?_ ?_
     · intro Q' hQ';have fin:=hQ' () trivial;simp_arith only[aj,ah,aB.eq]
       (with_reducible (first|refine aL fun z hz=>?_|refine aX fun z hz=>?_))
       obtain⟨u,v⟩:=z;have hz:Gap.Nb s.num s.den many u v:=hz;simp_arith only[aj,ah,av.eq];exact fin
     · rintro _ _;by_cases c3:most<61
       · have g5:most<=62:=by omega
         simp_arith only[aj,ah,ay.eq,c3];exact hK _ (lC rfl)
       · simp_arith only[aj,ah,ay.eq,c3];exact hK _ (lC rfl)
 · simp_arith only[aj,ah];exact qW
structure Txt (K:CW) (mg:Str->Option Bo):Prop where
 bz:Bz mg
 f__law_feed:FnIn K mg "_law_feed" (zp 29) ["_law_script"]
 f__law_draw:FnIn K mg "_law_draw" (zp 30) ["_law_feed_here", "_law_many"]
 f_common_divisor:FnIn K mg "common_divisor" (zp 9) ["one", "other"]
 f_fraction:FnIn K mg "fraction" (zp 10) ["top", "bottom"]
 f_plus:FnIn K mg "plus" (zp 11) ["one", "other"]
 f_less:FnIn K mg "less" (zp 12) ["one", "other"]
 f_times:FnIn K mg "times" (zp 13) ["one", "other"]
 f_wrapped:FnIn K mg "wrapped" (zp 15) ["one"]
 f_is_whole:FnIn K mg "is_whole" (zp 7) ["thing"]
 f_is_place:FnIn K mg "is_place" (zp 8) ["thing", "many"]
 f_step_number:FnIn K mg "step_number" (zp 18) ["start", "step", "n"]
 f_gap_above:FnIn K mg "gap_above" (zp 21) ["step", "u"]
 f_gap_below:FnIn K mg "gap_below" (zp 22) ["step", "v"]
 f_is_pair:FnIn K mg "is_pair" (zp 20) ["many", "thing"]
 f_in_size:FnIn K mg "in_size" (zp 16) ["some"]
 f_rounded_up:FnIn K mg "rounded_up" (zp 14) ["top", "bottom"]
 f_neighbours:FnIn K mg "neighbours" (zp 25) ["step", "many"]
 f_next_of:FnIn K mg "next_of" (zp 26) ["step", "many", "n"]
 f_gaps:FnIn K mg "gaps" (zp 27) ["step", "many"]
 f__law_gcd:FnIn K mg "_law_gcd" (zp 31) ["_law_one", "_law_other"]
 f__law_frac:FnIn K mg "_law_frac" (zp 32) ["_law_top", "_law_bottom"]
 f__law_step_of:FnIn K mg "_law_step_of" (zp 33) ["_law_feed_here", "_law_most"]
 f__law_gaps:FnIn K mg "_law_gaps" (zp 34) ["_law_step", "_law_some"]
 f_lets_neighbours:FnIn K mg "lets_neighbours" (zp 23) ["step", "many", "thing"]
 f__law_all_right:FnIn K mg "_law_all_right" (zp 35) ["_law_step", "_law_many"]
 g_ZERO:GlD K mg "ZERO" (pr 0 1)
 g_ONE:GlD K mg "ONE" (pr 1 1)
theorem t6(F:Fun K "law" "law" (zp 36) f fd)(T:Txt K mg)  : FnOk P w K mg base Be 9 f fd ["_law_script"] (d9 K):=by
 have d__law_feed:DfnR P w K mg base "_law_feed" ["_law_script"] 1 uW:=K51.d__law_feed T.f__law_feed T.bz   ;have d__law_draw:∀rl,Dfn P w K mg base rl "_law_draw" ["_law_feed_here", "_law_many"] 2 fg:=fun rl=>K51.d__law_draw T.f__law_draw T.bz   ;have d_common_divisor:∀rl,Dfn P w K mg base rl "common_divisor" ["one", "other"] 1 ax:=fun rl=>K51.d_common_divisor T.f_common_divisor T.bz   ;have d_fraction:∀rl,Dfn P w K mg base rl "fraction" ["top", "bottom"] 2 aW:=fun rl=>K51.d_fraction T.f_fraction T.bz d_common_divisor  ;have d_plus:∀rl,Dfn P w K mg base rl "plus" ["one", "other"] 3 cJ:=fun rl=>K51.d_plus T.f_plus T.bz d_fraction  ;have d_less:∀rl,Dfn P w K mg base rl "less" ["one", "other"] 3 dB:=fun rl=>K51.d_less T.f_less T.bz d_fraction  ;have d_times:∀rl,Dfn P w K mg base rl "times" ["one", "other"] 3 b5:=fun rl=>K51.d_times T.f_times T.bz d_fraction  ;have d_wrapped:∀rl,Dfn P w K mg base rl "wrapped" ["one"] 1 bD:=fun rl=>K51.d_wrapped T.f_wrapped T.bz   ;have d_is_whole:∀rl,Dfn P w K mg base rl "is_whole" ["thing"] 1 bg:=fun rl=>K51.d_is_whole T.f_is_whole T.bz   ;have d_is_place:∀rl,Dfn P w K mg base rl "is_place" ["thing", "many"] 2 bh:=fun rl=>K51.d_is_place T.f_is_place T.bz d_is_whole  ;have d_step_number:∀rl,Dfn P w K mg base rl "step_number" ["start", "step", "n"] 4 aG:=fun rl=>K51.d_step_number T.f_step_number T.bz d_wrapped d_plus d_times  ;have d_gap_above:∀rl,Dfn P w K mg base rl "gap_above" ["step", "u"] 5 aT:=fun rl=>K51.d_gap_above T.f_gap_above T.bz d_step_number T.g_ZERO ;have d_gap_below:∀rl,Dfn P w K mg base rl "gap_below" ["step", "v"] 5 aS:=fun rl=>K51.d_gap_below T.f_gap_below T.bz d_less d_step_number T.g_ONE T.g_ZERO ;have d_is_pair:∀rl,Dfn P w K mg base rl "is_pair" ["many", "thing"] 3 bF:=fun rl=>K51.d_is_pair T.f_is_pair T.bz d_is_place  ;have d_in_size:∀rl,Dfn P w K mg base rl "in_size" ["some"] 1 bG:=fun rl=>K51.d_in_size T.f_in_size T.bz   ;have d_rounded_up:∀rl,Dfn P w K mg base rl "rounded_up" ["top", "bottom"] 1 aR:=fun rl=>K51.d_rounded_up T.f_rounded_up T.bz   ;have d_neighbours:∀rl,Dfn P w K mg base rl "neighbours" ["step", "many"] 2 aB:=fun rl=>K51.d_neighbours T.f_neighbours T.bz d_rounded_up  ;have d_next_of:∀rl,Dfn P w K mg base rl "next_of" ["step", "many", "n"] 3 bE:=fun rl=>K51.d_next_of T.f_next_of T.bz d_neighbours  ;have d_gaps:∀rl,Dfn P w K mg base rl "gaps" ["step", "many"] 6 dC:=fun rl=>K51.d_gaps T.f_gaps T.bz d_neighbours d_gap_above d_gap_below d_plus d_in_size  ;have d__law_gcd:∀rl,Dfn P w K mg base rl "_law_gcd" ["_law_one", "_law_other"] 1 bi:=fun rl=>K51.d__law_gcd T.f__law_gcd T.bz   ;have d__law_frac:∀rl,Dfn P w K mg base rl "_law_frac" ["_law_top", "_law_bottom"] 2 aU:=fun rl=>K51.d__law_frac T.f__law_frac T.bz d__law_gcd  ;have d__law_step_of:∀rl,Dfn P w K mg base rl "_law_step_of" ["_law_feed_here", "_law_most"] 3 aI:=fun rl=>K51.d__law_step_of T.f__law_step_of T.bz d__law_frac d__law_draw  ;have d__law_gaps:∀rl,Dfn P w K mg base rl "_law_gaps" ["_law_step", "_law_some"] 3 bc:=fun rl=>K51.d__law_gaps T.f__law_gaps T.bz d__law_frac  
 have d_lets_neighbours:∀rl,Dfn P w K mg base rl "lets_neighbours" ["step", "many", "thing"] 6 av:=fun rl=>K51.d_lets_neighbours T.f_lets_neighbours T.bz d_is_pair d_plus d_times d_gap_above d_gap_below T.g_ONE ;have d__law_all_right:∀rl,Dfn P w K mg base rl "_law_all_right" ["_law_step", "_law_many"] 7 ay:=fun rl=>K51.d__law_all_right T.f__law_all_right T.bz d_neighbours d_gaps d__law_gaps d_next_of  ;exact n6 T.bz d__law_feed d__law_step_of d_lets_neighbours d__law_draw d__law_all_right d_neighbours   F
end
theorem us_0(hl:us.length=0):us=[]:=List.eq_nil_of_length_eq_zero hl
theorem xP(hl:us.length=1):∃a0,us=[a0]:=by
 cases us with
 | nil=>cases hl
 | cons a0 t=>cases us_0 (GK hl);exact⟨a0,rfl⟩
theorem xO(hl:us.length=2):∃a0 a1,us=[a0,a1]:=by
 cases us with
 | nil=>cases hl
 | cons a0 t=>obtain⟨a1,rfl⟩:=xP (GK hl);exact⟨a0,a1,rfl⟩
theorem yn(hl:us.length=3):∃a0 a1 a2,us=[a0,a1,a2]:=by
 cases us with
 | nil=>cases hl
 | cons a0 t=>obtain⟨a1,a2,rfl⟩:=xO (GK hl);exact⟨a0,a1,a2,rfl⟩
noncomputable def FF(K:CW)(x:Str)(st:Stmt):Prop:=∃(f:Addr)(oc kV dc pm cd ct:Bo)(od an:Option Addr)(sl:Array (Option Bo)),FS K B4 x=some (some (.ref f))/\K.lookup f=some ⟨oc,od,.func (FT x x (defArgs st) (defBody st) (defScope st) .none kV dc pm an cd ct),sl⟩/\Gd K cd x=true/\Ge K (.ref f)=true
theorem ff_mk{K:CW}{st:Stmt}{oc kV dc pm cd ct:Bo}{od an:Option Addr}{sl:Array (Option Bo)}(a:FS K B4 x=some (some (.ref f)))(l:K.lookup f=some ⟨oc,od,.func (FT x x (defArgs st) (defBody st) (defScope st) .none kV dc pm an cd ct),sl⟩)(c:Gd K cd x=true)(k:Ge K (.ref f)=true):FF K x st:=⟨f,oc,kV,dc,pm,cd,ct,od,an,sl,a,l,c,k⟩
theorem aP{K:CW}(X:K.In h)(G:h.Ns B4 mg){st:Stmt}(q:FF K x st)(hb:∀(kV doc pm:Bo)(an:Option Addr)(cdv ct:Bo)(us:List Bo),us.length=ps.length->bindArgs (FT x x (defArgs st) (defBody st) (defScope st) .none kV doc pm an cdv ct) ⟨us,[]⟩=pure (ps.zip us):=by intro _ _ _ _ _ _ us hl;first|(cases us_0 hl;exact rfl)|(obtain⟨_,rfl⟩:=xP hl;exact rfl)|(obtain⟨_,_,rfl⟩:=xO hl;exact rfl)|(obtain⟨_,_,_,rfl⟩:=yn hl;exact rfl)):FnIn K mg x st ps:=by
 obtain⟨f,_,_,_,_,_,_,_,_,_,a,l,c,k⟩:=q;exact⟨⟨f,_,PySem.W.mg_of X G a,l6 l c k,(l6 l c k).binds hb⟩⟩
abbrev NI(K:CW)(x:Str)(f:Addr):Prop:=FS K B4 x=some (some (.ref f))
abbrev NZ(K:CW)(x:Str):Prop:=FS K B4 x=some none
abbrev LK(K:CW)(x:Str)(st:Stmt)(f:Addr)(oc:Bo)(od:Option Addr)(kV dc pm:Bo)(an:Option Addr)(cd ct:Bo)(sl:Array (Option Bo)):Prop:=K.lookup f=some ⟨oc,od,.func (FT x x (defArgs st) (defBody st) (defScope st) .none kV dc pm an cd ct),sl⟩
theorem all_mk{l:FU}{w:B2}{K:CW}{fa:Addr}(X:K.In h)(G:h.Ns B4 mg)(hfa:mg "law" = some (.ref fa))
 {f26:Addr}{od26 an26:Option Addr}{sl26:Array (Option Bo)}{oc26 kV26 dc26 pm26 cd26 ct26:Bo}
 (f1:FF K "_law_feed" (zp 29))(f2:FF K "_law_draw" (zp 30))(f3:FF K "common_divisor" (zp 9))(f4:FF K "fraction" (zp 10))(f5:FF K "plus" (zp 11))(f6:FF K "less" (zp 12))(f7:FF K "times" (zp 13))(f8:FF K "wrapped" (zp 15))(f9:FF K "is_whole" (zp 7))(f10:FF K "is_place" (zp 8))(f11:FF K "step_number" (zp 18))(f12:FF K "gap_above" (zp 21))(f13:FF K "gap_below" (zp 22))(f14:FF K "is_pair" (zp 20))(f15:FF K "in_size" (zp 16))(f16:FF K "rounded_up" (zp 14))(f17:FF K "neighbours" (zp 25))(f18:FF K "next_of" (zp 26))(f19:FF K "gaps" (zp 27))(f20:FF K "_law_gcd" (zp 31))(f21:FF K "_law_frac" (zp 32))(f22:FF K "_law_step_of" (zp 33))(f23:FF K "_law_gaps" (zp 34))(f24:FF K "lets_neighbours" (zp 23))(f25:FF K "_law_all_right" (zp 35))(a26:NI K "law" f26)(l26:LK K "law" (zp 36) f26 oc26 od26 kV26 dc26 pm26 an26 cd26 ct26 sl26)(c26:Gd K cd26 "law" = true)(k26:Ge K (.ref f26)=true)
 (z_int:NZ K "int")(z_bool:NZ K "bool")(z_str:NZ K "str")(z_list:NZ K "list")(z_tuple:NZ K "tuple")(z_dict:NZ K "dict")(z_isinstance:NZ K "isinstance")(z_len:NZ K "len")(z_abs:NZ K "abs")(z_repr:NZ K "repr")(z_range:NZ K "range")(z_all:NZ K "all")(z_any:NZ K "any")(z_sum:NZ K "sum")(z_min:NZ K "min")(z_max:NZ K "max")(z_sorted:NZ K "sorted")(z_zip:NZ K "zip")(z_enumerate:NZ K "enumerate")(z_reversed:NZ K "reversed")(z_divmod:NZ K "divmod")(z_set:NZ K "set")(g_ZERO:GlK K "ZERO" (pr 0 1))(g_ONE:GlK K "ONE" (pr 1 1))  :
 ∃fd:Db,(∀(s:Bp)(v:Bo),GR s fd ⟨[v],[]⟩ [("_law_script", v)])/\∀base:Heap,K.In base->base.Ns B4 mg->FnOk l.prog w K mg base Be 9 fa fd ["_law_script"] (d9 K):=by
 have e:=hfa.symm.trans (PySem.W.mg_of X G a26);cases e;have B:Bz mg:=⟨BH X G z_int,BH X G z_bool,BH X G z_str,BH X G z_list,BH X G z_tuple,BH X G z_dict,BH X G z_isinstance,BH X G z_len,BH X G z_abs,BH X G z_repr,BH X G z_range,BH X G z_all,BH X G z_any,BH X G z_sum,BH X G z_min,BH X G z_max,BH X G z_sorted,BH X G z_zip,BH X G z_enumerate,BH X G z_reversed,BH X G z_divmod,BH X G z_set⟩;have T:Txt K mg:=⟨B,(aP X G f1),(aP X G f2),(aP X G f3),(aP X G f4),(aP X G f5),(aP X G f6),(aP X G f7),(aP X G f8),(aP X G f9),(aP X G f10),(aP X G f11),(aP X G f12),(aP X G f13),(aP X G f14),(aP X G f15),(aP X G f16),(aP X G f17),(aP X G f18),(aP X G f19),(aP X G f20),(aP X G f21),(aP X G f22),(aP X G f23),(aP X G f24),(aP X G f25),g_ZERO.of X G,g_ONE.of X G⟩;have FL:=l6 (st:=zp 36) l26 c26 k26;exact⟨_,fun s v=>.of_eq rfl,fun base _ _=>t6 FL T ⟩
theorem walk{l:FU}{q:BE}{YP:B2->Heap->Prop}{d:DefRec}{K:G0->CW}(hn:l.most=some 63)(hdf:d.params.defaults=[])
 (hY:∀(w:B2)(h:Heap),YP w h->(K w.params).In h)
 (F:∀(w:B2)(mg:Str->Option Bo)(fa:Addr)(h:Heap),(K w.params).In h->h.Ns B4 mg->mg d.name=some (.ref fa) ->
  ∃fd:Db,(∀(s:Bp)(u:Bo),GR s fd ⟨[u],[]⟩ [("_law_script", u)])/\∀base:Heap,(K w.params).In base->base.Ns B4 mg->FnOk l.prog w (K w.params) mg base Be 9 fa fd ["_law_script"] (d9 (K w.params))) :
 PySem.W.WalkO q loose XP YP l.row.toRowW d [] (fun f vs=>PySem.call f vs) :=
 L2.walk_of (n:=63) (k:=9) (x := "_law_script") (CX:=fun _=>Be) (sp:=fun w=>d9 (K w.params)) hn (by decide) hdf ⟨rfl,by decide,by decide,rfl⟩ hY F (fun _ _ a ns hl _ hS=>⟨a,ns,rfl,hS,hl,fun _=>rfl⟩) fun _ _ _ _ _ z=>z
end K51
noncomputable def PySem.W.Fast.tw15669067109988192887:PySem.Params->CW:=K51.heapK
theorem PySem.W.Fast.te15669067109988192887:K51.heapK=PySem.W.Fast.tw15669067109988192887:=rfl
open PySem PySem.W PyProof.Rows
set_option maxRecDepth 100000 in
set_option maxHeartbeats 0 in
theorem PySem.Challenge.cw_evenpoints_k51_neighbours_and_gaps_holds : PySem.Challenge.rw_evenpoints_k51_neighbours_and_gaps.Holds := by
 refine(congrArg FU.Holds K51.rw_eq).mpr ?_
 w_on;o_law
 refine holds_open (loose:=[]) (XP:=XL K51.zview []) (YP:=Hook.says (kHook K51.heapK K51.heapA K51.heapE)) K51.zleft
  (Hook.of _) (Hook.keeps _) (fun s e=>xl_of s (Bv.mp e).1)
  XL.keeps (by rfl) (by rfl) (by rfl) (fun s e=>recFacts_of (Bv.mp e).2) (by rfl)
  (by first|assumption|decide +kernel) (by decide +kernel) ⟨rfl,rfl,rfl,rfl,rfl,by decide +kernel⟩ ?hw ?hc
 (case hw=>w_witness2)
 k_fill
 refine K51.walk (l:=K51.rwN) rfl rfl (fun w h Y=>PySem.W.kIn_of (as:=K51.heapA) (e:=K51.heapE) Y) ?F
 case F =>
  intro w mg fa h KX G hmg
  refine' K51.all_mk KX G hmg ?f1 ?f2 ?f3 ?f4 ?f5 ?f6 ?f7 ?f8 ?f9 ?f10 ?f11 ?f12 ?f13 ?f14 ?f15 ?f16 ?f17 ?f18 ?f19 ?f20 ?f21 ?f22 ?f23 ?f24 ?f25 ?a26 ?l26 ?c26 ?k26 ?zint ?zbool ?zstr ?zlist ?ztuple ?zdict ?zisinstance ?zlen ?zabs ?zrepr ?zrange ?zall ?zany ?zsum ?zmin ?zmax ?zsorted ?zzip ?zenumerate ?zreversed ?zdivmod ?zset ?gZERO ?gONE 
  all_goals (try (refine' K51.ff_mk ?a ?l ?c ?k;(case a=>k_is);(case l=>k_is);(case c=>k_is);(case k=>k_is)))
  all_goals (try change _=_)
  (case a26=>k_is);(case l26=>k_is);(case c26=>k_is);(case k26=>k_is)
  (case zint=>k_is)
  (case zbool=>k_is)
  (case zstr=>k_is)
  (case zlist=>k_is)
  (case ztuple=>k_is)
  (case zdict=>k_is)
  (case zisinstance=>k_is)
  (case zlen=>k_is)
  (case zabs=>k_is)
  (case zrepr=>k_is)
  (case zrange=>k_is)
  (case zall=>k_is)
  (case zany=>k_is)
  (case zsum=>k_is)
  (case zmin=>k_is)
  (case zmax=>k_is)
  (case zsorted=>k_is)
  (case zzip=>k_is)
  (case zenumerate=>k_is)
  (case zreversed=>k_is)
  (case zdivmod=>k_is)
  (case zset=>k_is)
  (case gZERO=>refine' L2.VL.GlK.pair ?h1 ?h2;(case h1=>k_is);(case h2=>k_is))
  (case gONE=>refine' L2.VL.GlK.pair ?h1 ?h2;(case h1=>k_is);(case h2=>k_is))
