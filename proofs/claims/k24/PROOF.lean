import PyProof.Rows.All
import Wide.All
import OpenK.AllK
import Wide.FinOn
import Lean
import PyProof.EqAt
import PyProof.EqKinds
import PyProof.TupleCall
import KE.KDictSum
import KE.KMinKey
import PyProof.Rows.CallKwBuiltin
import PyProof.SumWalkG
import PyProof.WalksMore
import PyProof.AutoSeq1
import PySem.Challenge.RW_evenpoints_k24_whole_no_box_misses_more
set_option Elab.async false
set_option linter.all false
set_option maxRecDepth 100000
set_option maxHeartbeats 4000000
open And renaming intro->HI, imp_right->HP
open Array renaming length_toList->KG, toArray_toList->Np, mk->Oe
open Bool renaming and_eq_true_iff->HV, or_eq_true_iff->Ir, false_ne_true->IF, false_eq_true->Jb, eq_iff_iff->Jn, not_false->Jr, not_true->JQ, and_eq_true->Li, or_eq_true->Nj
open Classical renaming choose_spec->HR, choose->Jm, byContradiction->My
open Exists renaming imp->H0
open False renaming elim->JL
open ForInStep renaming yield->L9
open Iff renaming rfl->Mb
open Int renaming natAbs_natCast->Ik, natAbs_mul->IR, toNat_natCast->Jo, toNat->JD, fmod_nonneg_of_pos->JM, eq_ofNat_of_zero_le->J1, gcd->J3, mul_le_mul_of_nonneg_right->Ke, fdiv_eq_ediv_of_nonneg->Kq, fmod_lt_of_pos->Kt, mul_pos->KI, mul_lt_mul_of_pos_right->Me, le_trans->Mr, natAbs_neg->Mw, natCast_dvd_natCast->MO, fmod_add_mul_fdiv->Nd, natCast_mul->Ni, mul_le_mul->Nw, mul_nonneg->Nx, mul_comm->N9, zero_sub->Oa, le_refl->Op
open List renaming mem_cons_of_mem->HK, mem_cons_self->HM, length_map->HW, mem_append_right->HY, getElem?_eq_getElem->Ia, getD_eq_getElem?_getD->Ib, length_append->Ic, mem_cons->Ih, mem_singleton->Ij, size_toArray->Il, length_cons->Io, mem_append->Ip, getElem?_eq_some_iff->Iy, getElem?_set_ne->IA, replicate->IC, getElem?_set_self->IE, take_of_length_le->IG, take_succ_eq_append_getElem->IJ, mem_append_left->IK, mem_map->IM, mem_flatMap->IU, range->IV, mem_filterMap->I_, map_cons->Ja, getElem?_map->Jd, lookup_cons->Jh, getElem_mem->Ji, map_append->Jk, Nodup->Js, find?_cons->Jv, getElem?_set->Jw, drop_eq_getElem_cons->Jx, lookup->JB, replicate_succ->JE, map_map->JG, length_take->JH, all_eq_true->JP, filterMap_cons->JS, flatMap_cons->JW, foldl_cons->JZ, flatten_cons->J7, mem_map_of_mem->J8, getElem?_append_left->Ka, append_nil->Kc, mem_of_getElem?->Ki, nodup_cons->Kn, map_congr_left->Ko, getElem?_append_right->Kp, drop_length->Ks, foldl_append->KB, length_eq_zero_iff->KJ, length_drop->KM, mem_range->KO, pairwise_cons->KS, length_replicate->KZ, length_singleton->K0, length_nil->K1, length_filter_le->K4, append_assoc->K9, exists_cons_of_ne_nil->Lb, mem_of_mem_take->Lc, getElem_of_mem->Lm, getElem?_replicate->Lu, any_cons->Lw, drop_of_length_le->LA, length_range->LF, filter_congr->LH, take_append_drop->LO, exists_cons_of_length_pos->LP, map_flatMap->LQ, eq_nil_of_length_eq_zero->LR, countP_eq_length_filter->LZ, mem_filter->L5, map_nil->Mn, length_zipIdx->Mq, mem_of_find?_eq_some->Mx, length_filterMap_le->MF, map_take->MN, cons_append->MQ, ext_getElem->MR, not_mem_nil->MV, mem_flatten->MX, filterMap_eq_map'->M0, filter_eq_nil_iff->M2, of_mem_zip->M9, getElem?_eq_none->Na, map->Nn, mem_of_mem_drop->Nr, pairwise_append->Nt, length_pos_iff->NE, flatMap_append->NG, filter_eq_self->NH, length_flatMap->NJ, flatten_append->NK, all_map->N7
open List.Pairwise renaming nil->MA
open List.cons renaming injEq->Jp
open Nat renaming lt_of_lt_of_le->HL, pow_le_pow_right->HS, le_refl->HX, zero_le->Ix, ne_of_lt->IP, le_trans->IT, lt_irrefl->J9, lt_of_le_of_lt->Kf, ne_of_gt->KY, le_of_succ_le->K_, mul_add->LI, pow_lt_pow_right->LS, mul_le_mul_right->LU, pow_add->Md, mul_comm->Mp, lt_succ_of_lt->ME, min_eq_right->MS, mul_lt_mul''->MU, dvd_mul_left->MW, le_of_lt->M5, min_eq_left->Nf, mul_ne_zero->Nh, mul_le_mul_left->NC, add_mul->NF, dvd_trans->NX, succ_mul->N6, pow_succ->N8, sub_self->N_
open Nat.succ renaming inj->Ob
open Ne renaming symm->M6
open Option renaming isSome_iff_exists->Kz, map_eq_some_iff->Ly
open Option.some renaming inj->Jc
open Or renaming inr->Jq, inl->J0
open PyProof.Rows renaming slot_tuple_getitem->Je, callWith_type1->JY, IntsAre->L8, assignInOrder_cons->Mk, subscriptTail_builtinR->MY, envOfC->M_, AllBare->Ny, subscriptTail->NS, seqObj->Oo
open PySem renaming PyData->HH, wpAny_bind->HJ, Value->HQ, Shared->HU, starEach->HZ, wpAny_pure->H_, sizeLine_eq->Is, wpAny->Iv, foldedSetIterable->Iz, model->IH, Program->II, wpAny_mono->IL, mainGlobals->Jf, wpAny_newObj_type->Jg, mem_of_lookup->Jt, World->Ju, Paired->Jy, Around->Jz, wpAny_standAt->JI, wpAny_callSpecial?_slot->JJ, backTo->JR, wpAny_truthy_bool->JT, wpAny_comprehension_free->JU, swapsWith->J4, cellsFrom->J5, wpAny_holding->J_, letOwnedTupleGo->Kb, wpAny_field->Kg, compareOp->Kl, codeAny->Km, wpAny_call_entry->Kr, assignEach->Kx, wpAny_passesOwn->Ky, FuncData->KH, assign->KL, binaryOp->KQ, wpAny_Call_Name_kw->KR, wpAny_setField_rec->KU, sysModules->K7, wpAny_pyIter_list->K8, bootBuiltins->Ln, behindInMarks->Lr, NameKind->Ls, wpAny_assign_Name->LB, keywordEach->LC, sliceBounds->LD, newFunctionEnv->LJ, exec_Assign_Name_used->LN, swapsWithSole->LV, swappedStores->LW, attributeBase->LX, wpAny_rule->L1, wpAny_execs_nil->L6, Keyword->L7, theTreesLotGoes->L_, wpAny_pyIter_tuple->Ml, codeAny_mono->Mm, wpAny_seqItems->Mv, wpAny_sequenceKey->Mz, standAt->MG, holding->MH, getItem->MI, wpAny_letGo->MK, plainId_quiet->ML, noFill_tuple_add->MP, codeAny_compStart_list->MZ, importedModules->M3, pyNext->M7, codeAny_loop->Nb, wpAny_updateSeq->Ng, backToKw->Nm, wpAny_loadName_local->No, intBits_le_iff->Nu, wpAny_tryCatch->Nv, wpAny_loadName_cell->Nz, subscripted->NA, wpAny_noted->NB, tupleKind->NN, assignInOrder->NO, PassesOwn->NP, seq_tuple_add->NQ, IsPart->NR, compTurn->NT, noteFrame->NU, compPost->NV, comprehension->NW, call_meets->N0, valueAt->N1, callerA->N2, concat_meets->N3, wpAny_typeOf->N4, seqIndex_neg->N5, Operator->Of, pyIter->Og, Result->Oh, BindsTo->Oi, seqIndex_of->Oj, pushCells->Ol, seqItems?->Om, wpAny_of_eq->On, IsEnum->Oq, cLine->Ot, Params->Ou, relabel->Ow, CmpOp->Ox, atKey->Oy
open PySem.Around renaming under_plainId->Nq
open PySem.AutoSeq1 renaming wpAny_loadPart'->Lq
open PySem.Builtin.Builtins renaming bindParams->Mc
open PySem.Builtin.List renaming listFitsIndex->La, listTooLong->Lp
open PySem.Builtin.Slice renaming slicePlaces->Kv, sliceAdjust->Ld, sliceApplied->Mi
open PySem.Builtin.SmallTypes renaming nextOf->JO, ownedTupleHandOut->Lh, ownedTupleIsFree->Ll
open PySem.Builtin.Tuple renaming tupleExact->KA, tupleItemsOf->Mj
open PySem.Calls renaming Name_function_global->Mh
open PySem.F renaming plain_max_loop->J6, args_tuple_add_2->Lo, entry_tuple_add->Lv, slot_tuple_add->Lz, slot_list_append->MB, type_list_append->MC, plainAttrs_list->MJ, entry_max_loop->M1
open PySem.Heap renaming get?_push_of_some->HN, lt_size->Ii, get?_push_size->Im, get?_update_other->JA, SameBut->KC, size_push->Lg, get?_update_self->LM
open PySem.Heap.SameBut renaming refl->MD, update->ND
open PySem.NameKind renaming free->Jj, cell->Kk
open PySem.Obj renaming mapSeq->L3
open PySem.Paired renaming length->KF
open PySem.PassesOwn renaming never->IZ
open PySem.PyData renaming int->Iw, eqv->IB, depthAll->JF, canLayAll0->JV, canLay0->JX, tuple->Kd, depth->Ku, str->KP, list->K5, bool->Lj, leavesShort->Lx, showable->Ma, bulkAll->Mu, leavesShortAll->Nc
open PySem.PyData.int renaming injEq->MT
open PySem.PyData.list renaming injEq->LG
open PySem.PyData.tuple renaming injEq->JC
open PySem.SeqAt renaming shaped->IW
open PySem.Str renaming ofString->HG
open PySem.Value renaming ref->Kw, none->L0, int->M4, str->NM, bool->NY
open PySem.W renaming codeIn->Ie, keepIn->Ig, mg_none_of->Iu, boot_heap->JN, Frag->KE, OpenLaw->Nk, boot_drawn->Nl, boot_toks->NL, nsIn->Oc, fnOf->Od, OpenLaw->Ov
open Rat renaming le_of_lt->Iq, le_refl->ID, intCast_mul->IN, mul_le_mul_of_nonneg_right->IQ, le_trans->IS, not_lt->Jl, not_le->JK, div_def->Kh, mul_le_mul_of_nonneg_left->KN, lt_of_le_of_ne->KW, intCast_sub->K6, one_mul->Lk, mul_nonneg->LL, lt_irrefl->LY, intCast_add->Mf, mul_lt_mul_of_pos_right->Mg, zero_mul->Ms, mul_inv_cancel->Mt, normalize->MM, add_mul->Os
open Sum renaming inr->I0, inl->Kj
open True renaming intro->L4
open PySem PySem.Spec PyProof.Rows
variable{loose:List Str}{α β:Type}{xs ds xs':List HH}{us:List HQ}{a it:Addr}{b:Bool}{P:II}{w:Ju}{h h':Heap}{t' i j n:Nat}{N:Nat->List Rat}{x qual:Str}{A:Jz}{E Q:HQ->HU->Prop}{u:HQ}{e r q t:Rat}{s:HU}{pos pos' px spos:Pos}{pins:List (Addr×Obj)}{c tg iter:Expr}{fp:List Addr}{f:Fin 3}{op:Ox}{fd:KH}{ps:List (List Rat)}{mg:Str->Option HQ}{scope:Scope}{ns:List Int}{XP:(Str->Option HQ)->Heap->Prop}{d:HH}{cl:List (Str×Addr)}{ifs:List Expr}{tn:Nat->Heap->Prop}{Rp:Addr->Oh->HU->Prop}{n':Nat×List Int}{xss:List (List HH)}{rs p:List Rat}{B:Int}
noncomputable section
namespace L2
open PySem
noncomputable def pQ(s:Stmt)(j:Nat):Stmt:=match s with
 | .ClassDef _ _ _ body _ _ _ _ _ _ _=>body.getD j (.Pass ⟨0,0,0,0⟩)
 | _=>.Pass ⟨0,0,0,0⟩
noncomputable def defArgs(s:Stmt):Arguments:=match s with
 | .FunctionDef _ a _ _ _ _ _ _ _ _=>a
 | _=>{posonlyargs:=[],args:=[],vararg:=none,kwonlyargs:=[],kw_defaults:=[],kwarg:=none,defaults:=[]}
noncomputable def defBody(s:Stmt):List Stmt:=match s with
 | .FunctionDef _ _ b _ _ _ _ _ _ _=>b
 | _=>[]
noncomputable def defScope(s:Stmt):Scope:=match s with
 | .FunctionDef _ _ _ _ _ _ sc _ _ _=>sc
 | _=>{kind:=.function,names:=[],isGenerator:=false,isCoroutine:=false}
end L2
namespace L2.TT
open PySem PySem.W
noncomputable def Gf(tb:String->Option Builtin)(p:II)(w:Ju)(m:Nat)(ann:Option HQ):Nat->SharedT->Thread->Option SharedT
 | 0,_,_=>none
 | n+1,s,t=>match through t with
   | true=>some s
   | false=>match stepOk m ann t with
     | false=>none
     | true=>match stepT (denote tb) p w s t with
       | some r=>Gf tb p w m ann n r.1 r.2
       | none=>none
theorem tT{tb:String->Option Builtin}{p:II}{w:Ju}{m:Nat}{ann:Option HQ}:∀{n:Nat}{s s':SharedT}{t:Thread},Gf tb p w m ann n s t=some s'->topRun tb p w m ann n s.abs t=some s'.abs
 | 0,_,_,_,h=>by cases h
 | n+1,s,s',t,h=>by
   unfold Gf at h
   unfold topRun
   cases he:through t with
   | true=>rw[he]at h;cases h;rfl
   | false =>
     rw[he]at h
     cases hk:stepOk m ann t with
     | false=>rw[hk]at h;cases h
     | true =>
       rw[hk]at h
       cases hs:stepT (denote tb) p w s t with
       | none=>rw[hs]at h;cases h
       | some r=>rw[hs]at h;rw[stepT_spec hs];exact tT h
noncomputable def bt(os:List Obj):Nat->Nat->Nat->BT
 | 0,_,_=>.nil
 | f+1,a,b=>match os[b]? with
   | some o=>.node o (bt os f (2*a) (a+b)) (bt os f (2*a) (2*a+b))
   | none=>.nil
theorem boot_abs(P:Ou):absHeap (bt (JN P).objs.toList 12 1 0) (JN P).objs.size (JN P).life=JN P:=by kernel_rfl
abbrev zf(p q:II)(loose:List Str)(Xt:HU->Bool){α:Type}(Yf:HU->α)(h₀:Heap)(s:HU) :=
 (staticsOk (M3 p.main.body) h₀ s.heap&&namesBound p s.heap&&gensDone s&&laidKept h₀ s.heap,openSeen q loose (M3 p.main.body) Xt true s,Yf s)
theorem left_of{p q:II}{Xt:HU->Bool}{Yf:HU->α}{Ya:Ju->α}{N m M:Nat}{ann:Option HQ}
 (e:opening p=plainProg p.main.scope.names)(hN:Nat.ble 600 N=true)(f:∀s,fenceModules? p s=some s)(le:Nat.ble M N=true)
 (size:∀w:Ju,((JN w.params).isNs Jf,(JN w.params).objs.size,(JN w.params).nsMap Jf "__annotations__")=(true,m,ann))
 (run:∀(w:Ju)(os:OsState),(Gf treeTable p w m ann M ⟨bt (JN w.params).objs.toList 12 1 0,(JN w.params).objs.size,(JN w.params).life,Oe [],Nl,NL,os⟩ (topStub p)).map (fun s=>zf p q loose Xt Yf (JN w.params) s.abs)=some (true,openGood q loose,Ya w)) :
 LeftO p q loose Xt Yf Ya N:=fun w=>by
 obtain⟨⟨h,gs,d,k,os⟩,eo,e'⟩:=Ly.mp (boot_open e hN f w)
 obtain⟨rfl,rfl,rfl,rfl⟩:h=JN w.params/\gs=Oe []/\d=Nl/\k=NL:=by simpa using e'
 obtain⟨z1,z2,z3⟩:_/\_/\_:=by simpa only[Prod.mk.injEq]using size w
 obtain⟨s',r,l⟩:=Ly.mp (run w os)
 obtain⟨l1,l2,l3⟩:_/\_/\_:=by simpa only[zf,Prod.mk.injEq]using l
 have r:=tT r
 have hb:SharedT.abs ⟨bt (JN w.params).objs.toList 12 1 0,(JN w.params).objs.size,(JN w.params).life,Oe [],Nl,NL,os⟩=⟨JN w.params,Oe [],Nl,NL,os⟩:=by
  show HU.mk (absHeap _ _ _) _ _ _ _=_
  rw[boot_abs]
 rw[hb]at r
 have r:=topRun_mono (N-M) _ _ _ _ r
 rw[show M+(N-M)=N by have:=Nat.le_of_ble_eq_true le;omega]at r
 have t:topFrom treeTable p w N ⟨JN w.params,Oe [],Nl,NL,os⟩=some s'.abs:=by
  unfold topFrom
  dsimp only
  rw[z1,z2,z3,r]
  show(match staticsOk (M3 p.main.body) (JN w.params) s'.abs.heap&&namesBound p s'.abs.heap&&gensDone s'.abs&&laidKept (JN w.params) s'.abs.heap with|true=>_|false=>_)=_
  rw[l1]
 unfold openEnds
 rw[eo]
 show(topFrom treeTable p w N _).map _=_
 rw[t]
 exact congrArg some (Prod.ext l2 l3)
end L2.TT
namespace K24
open PySem
def EG(i:Nat):Stmt:=PySem.Challenge.pw_evenpoints_k24_whole_no_box_misses_more.main.body.getD i (.Pass ⟨0,0,0,0⟩)
end K24
noncomputable def PySem.W.Fast.tw13690015282260327500:PySem.Program:=PySem.Challenge.pw_evenpoints_k24_whole_no_box_misses_more
theorem PySem.W.Fast.te13690015282260327500:PySem.Challenge.pw_evenpoints_k24_whole_no_box_misses_more=PySem.W.Fast.tw13690015282260327500:=rfl
namespace K24
open PySem PySem.W L2
def D_:Stmt:=EG 0
def D9:Stmt:=EG 1
def D8:Stmt:=EG 2
def D7:Stmt:=EG 3
def D6:Stmt:=EG 4
def D5:Stmt:=EG 5
def D4:Stmt:=EG 6
def D3:Stmt:=EG 7
def D2:Stmt:=EG 8
def D1:Stmt:=EG 9
def CL:Stmt:=EG 10
def CK:Stmt:=EG 11
def CJ:Stmt:=EG 12
def CI:Stmt:=EG 13
def CH:Stmt:=EG 14
def CG:Stmt:=EG 15
def Do:Stmt:=EG 16
def CF:Stmt:=EG 17
def CD:Stmt:=EG 18
def CC:Stmt:=EG 19
def Dn:Stmt:=EG 20
def CB:Stmt:=EG 21
def CA:Stmt:=EG 22
def Dl:Stmt:=EG 23
def Cz:Stmt:=EG 24
def Cy:Stmt:=EG 25
def Cw:Stmt:=EG 26
def Cv:Stmt:=EG 27
def Cu:Stmt:=EG 28
def Ct:Stmt:=EG 29
def Cs:Stmt:=EG 30
def Cr:Stmt:=EG 31
def Cq:Stmt:=EG 32
def Cp:Stmt:=EG 33
def Co:Stmt:=EG 34
def Cn:Stmt:=EG 35
def Cm:Stmt:=EG 36
def Dk:Stmt:=EG 37
def Ck:Stmt:=EG 38
def Cj:Stmt:=EG 39
def Ci:Stmt:=EG 40
def Ch:Stmt:=EG 41
def Cg:Stmt:=EG 42
def Cf:Stmt:=EG 43
def Ce:Stmt:=EG 44
def Cd:Stmt:=EG 45
def Cc:Stmt:=EG 46
def Cb:Stmt:=EG 47
def Ca:Stmt:=EG 48
def B_:Stmt:=EG 49
def B9:Stmt:=EG 50
def B8:Stmt:=EG 51
def B7:Stmt:=EG 52
def B6:Stmt:=EG 53
def Fo:II:={PySem.Challenge.pw_evenpoints_k24_whole_no_box_misses_more with main:={PySem.Challenge.pw_evenpoints_k24_whole_no_box_misses_more.main with body:=[D_,D9,D8,D7,D6,D5,D4,D3,D2,D1,CL,CK,CJ,CI,CH,CG,Do,CF,CD,CC,Dn,CB,CA,Dl,Cz,Cy,Cw,Cv,Cu,Ct,Cs,Cr,Cq,Cp,Co,Cn,Cm,Dk,Ck,Cj,Ci,Ch,Cg,Cf,Ce,Cd,Cc,Cb,Ca,B_,B9,B8,B7,B6]}}
def rwN:Ov:={PySem.Challenge.rw_evenpoints_k24_whole_no_box_misses_more with prog:=Fo}
noncomputable def zview:II:={PySem.Challenge.pw_evenpoints_k24_whole_no_box_misses_more with main:={PySem.Challenge.pw_evenpoints_k24_whole_no_box_misses_more.main with body:=[D9,D8,D7,D5,D4,D3,D2,D1,CL,CK,CJ,CI,CH,CG,CF,CD,CC,CB,CA,Cz,Cy,Cw,Cv,Cu,Ct,Cs,Cr,Cq,Cp,Co,Cn,Cm,Ck,Cj,Ci,Ch,Cg,Cf,Ce,Cd,Cc,Cb,Ca,B_,B9,B8,B7,B6]}}
theorem rw_eq:PySem.Challenge.rw_evenpoints_k24_whole_no_box_misses_more=rwN:=rfl
noncomputable def Ei(P:Ou)(x:Str)(t:Nat)(v:HQ):DictEntry:=⟨HH.keyHash P x,.str x t,v⟩
noncomputable def Eh(n q:Str)(s:Stmt)(pm cd:HQ):Obj:=⟨.type "function", none,.func (fnOf n q (defArgs s) (defBody s) (defScope s) .none .none .none pm none cd .none),#[]⟩
noncomputable def Ek(n q:Str)(a b c:Nat)(l x y:Int)(r:Nat)(z:Int)(r2:Nat)(v1 v2 v3:HQ)(r3:Nat)(u:Int)(c2:Nat):Obj:=⟨.type "code", none,.fields #[.str n a,.str q b,.str "/claim/cut.py" c,.int l 0,.int x 0,.int 0 0,.int 0 0,.int y 0,.ref r,.bool true,.int z 0,.ref r2,v1,v2,v3,.ref r3,.int u 0,.int l 0,.str "/claim/cut.py" c2],#[]⟩
noncomputable def Ef:HQ:=.str "evenpoints.errors" 187
noncomputable def Ee:HQ:=.str "evenpoints.fractions" 257
noncomputable def Ed:HQ:=.str "evenpoints.boxes" 336
noncomputable def Ec:HQ:=.str "evenpoints.points" 367
noncomputable def Eb:HQ:=.str "evenpoints.looks" 382
noncomputable def Ea:HQ:=.str "law_evenpoints_k24_whole_no_box_misses_more" 478
abbrev Eg(n:Str):=Eh n n
abbrev Ej(n:Str):=Ek n n
noncomputable def heapK(P:Ou):Frag :=
 (nat_lit 2,(.mk .none none (.dict #[] 0) #[])) ::
 (nat_lit 3,(.mk (.type "dict") none (.dict #[Ei P "__name__" 165 (.str "law_evenpoints_k24_whole_no_box_misses_more" 478),Ei P "__doc__" 166 .none,Ei P "__package__" 167 .none,Ei P "__loader__" 168 (.builtin "__main__.__loader__#opaque"),Ei P "__spec__" 169 .none,Ei P "__annotations__" 170 (.ref 6),Ei P "__builtins__" 171 (.ref 4),Ei P "__file__" 173 (.str "/claim/cut.py" 172),Ei P "__cached__" 174 .none,Ei P "EvenError" 206 (.ref 24),Ei P "Nought" 231 (.ref 44),Ei P "TooMany" 256 (.ref 63),Ei P "ZERO" 261 (.ref 66),Ei P "ONE" 264 (.ref 67),Ei P "common_divisor" 272 (.ref 74),Ei P "fraction" 281 (.ref 81),Ei P "plus" 289 (.ref 88),Ei P "less" 297 (.ref 95),Ei P "times" 305 (.ref 102),Ei P "is_below" 313 (.ref 109),Ei P "lesser" 321 (.ref 116),Ei P "greater" 329 (.ref 123),Ei P "in_size" 335 (.ref 128),Ei P "side_size" 346 (.ref 135),Ei P "goes_ahead" 355 (.ref 142),Ei P "lies" 366 (.ref 149),Ei P "sides_of" 375 (.ref 156),Ei P "numbers_at" 381 (.ref 161),Ei P "MOST_LOOKS" 385 (.int 3000 384),Ei P "BELOW_ALL" 389 (.ref 162),Ei P "side_looks" 395 (.ref 167),Ei P "many_side_looks" 404 (.ref 174),Ei P "many_looks" 414 (.ref 181),Ei P "looks_by_side" 420 (.ref 186),Ei P "marked" 426 (.ref 191),Ei P "widened" 432 (.ref 196),Ei P "counted_looks" 438 (.ref 201),Ei P "misses" 452 (.ref 208),Ei P "first_greatest" 461 (.ref 215),Ei P "worst" 469 (.ref 222),Ei P "unevenness" 477 (.ref 229),Ei P "_law_feed" 486 (.ref 236),Ei P "_law_draw" 498 (.ref 243),Ei P "_law_frac" 508 (.ref 250),Ei P "_law_cmp" 518 (.ref 257),Ei P "_law_number" 531 (.ref 264),Ei P "_law_points" 537 (.ref 269),Ei P "_law_world" 547 (.ref 276),Ei P "_law_lies" 558 (.ref 283),Ei P "_law_side_size" 564 (.ref 288),Ei P "_law_box_miss" 570 (.ref 293),Ei P "_law_end" 584 (.ref 300),Ei P "_law_box" 590 (.ref 305),Ei P "_law_bottom" 596 (.ref 310),Ei P "_law_moved" 610 (.ref 317),Ei P "_law_near_it" 624 (.ref 324),Ei P "law" 644 (.ref 331)] 57) #[])) ::
 (nat_lit 6,(.mk (.type "dict") none (.dict #[] 0) #[])) ::
 (nat_lit 15,(.mk (.type "tuple") none (.seq #[(.type "ValueError")] 0) #[])) ::
 (nat_lit 22,(.mk (.type "tuple") none (.seq #[] 0) #[])) ::
 (nat_lit 23,(.mk (.type "dict") none (.dict #[Ei P "__module__" 196 (.str "evenpoints.errors" 187),Ei P "__firstlineno__" 200 (.int 2 199),Ei P "__static_attributes__" 201 (.ref 22),Ei P "__weakref__" 203 (.ref 25),Ei P "__doc__" 204 .none] 3) #[])) ::
 (nat_lit 24,(.mk (.type "type") none (.cls (.mk "EvenError" [(.type "ValueError")] [(.ref 24),(.type "ValueError"),(.type "Exception"),(.type "BaseException"),(.type "object")] 23 "EvenError" true [] [(.ref 44),(.ref 63)] false none false)) #[(some (.ref 15)),none,(some (.str "EvenError" 189)),(some (.str "EvenError" 197)),(some (.builtin "ValueError.__new__")),(some (.bool true))])) ::
 (nat_lit 25,(.mk (.type "getset_descriptor") none (.fields #[(.str "__weakref__" 202),(.ref 24),(.builtin "ExceptionGroup.__weakref__"),.none]) #[])) ::
 (nat_lit 28,(.mk (.type "tuple") none (.seq #[(.ref 24)] 0) #[])) ::
 (nat_lit 40,Ek "__init__" "Nought.__init__" 219 220 221 6 2 3 35 181 36 .none (.ref 37) (.ref 38) 39 224 225) ::
 (nat_lit 41,Eh "__init__" "Nought.__init__" (pQ (EG 2) 0) Ef (.ref 40)) ::
 (nat_lit 42,(.mk (.type "tuple") none (.seq #[(.str "word" 227)] 0) #[])) ::
 (nat_lit 43,(.mk (.type "dict") none (.dict #[Ei P "__module__" 214 (.str "evenpoints.errors" 187),Ei P "__firstlineno__" 218 (.int 4 217),Ei P "__init__" 226 (.ref 41),Ei P "__static_attributes__" 228 (.ref 42),Ei P "__doc__" 229 .none] 2) #[])) ::
 (nat_lit 44,(.mk (.type "type") none (.cls (.mk "Nought" [(.ref 24)] [(.ref 44),(.ref 24),(.type "ValueError"),(.type "Exception"),(.type "BaseException"),(.type "object")] 43 "Nought" true [] [] false none false)) #[(some (.ref 28)),none,(some (.str "Nought" 207)),(some (.str "Nought" 215)),(some (.builtin "ValueError.__new__")),(some (.bool true))])) ::
 (nat_lit 47,(.mk (.type "tuple") none (.seq #[(.ref 24)] 0) #[])) ::
 (nat_lit 59,Ek "__init__" "TooMany.__init__" 244 245 246 10 2 3 54 181 55 .none (.ref 56) (.ref 57) 58 249 250) ::
 (nat_lit 60,Eh "__init__" "TooMany.__init__" (pQ (EG 3) 0) Ef (.ref 59)) ::
 (nat_lit 61,(.mk (.type "tuple") none (.seq #[(.str "word" 252)] 0) #[])) ::
 (nat_lit 62,(.mk (.type "dict") none (.dict #[Ei P "__module__" 239 (.str "evenpoints.errors" 187),Ei P "__firstlineno__" 243 (.int 8 242),Ei P "__init__" 251 (.ref 60),Ei P "__static_attributes__" 253 (.ref 61),Ei P "__doc__" 254 .none] 2) #[])) ::
 (nat_lit 63,(.mk (.type "type") none (.cls (.mk "TooMany" [(.ref 24)] [(.ref 63),(.ref 24),(.type "ValueError"),(.type "Exception"),(.type "BaseException"),(.type "object")] 62 "TooMany" true [] [] false none false)) #[(some (.ref 47)),none,(some (.str "TooMany" 232)),(some (.str "TooMany" 240)),(some (.builtin "ValueError.__new__")),(some (.bool true))])) ::
 (nat_lit 66,(.mk (.type "tuple") none (.seq #[(.int 0 259),(.int 1 260)] 0) #[])) ::
 (nat_lit 67,(.mk (.type "tuple") none (.seq #[(.int 1 262),(.int 1 263)] 0) #[])) ::
 (nat_lit 73,Ej "common_divisor" 265 266 267 15 2 3 68 181 69 .none (.ref 70) (.ref 71) 72 270 271) ::
 (nat_lit 74,Eg "common_divisor" (EG 7) Ee (.ref 73)) ::
 (nat_lit 80,Ej "fraction" 273 274 275 19 2 3 75 181 76 .none (.ref 77) (.ref 78) 79 279 280) ::
 (nat_lit 81,Eg "fraction" (EG 8) Ee (.ref 80)) ::
 (nat_lit 87,Ej "plus" 282 283 284 26 2 3 82 181 83 .none (.ref 84) (.ref 85) 86 287 288) ::
 (nat_lit 88,Eg "plus" (EG 9) Ee (.ref 87)) ::
 (nat_lit 94,Ej "less" 290 291 292 28 2 3 89 181 90 .none (.ref 91) (.ref 92) 93 295 296) ::
 (nat_lit 95,Eg "less" (EG 10) Ee (.ref 94)) ::
 (nat_lit 101,Ej "times" 298 299 300 30 2 3 96 181 97 .none (.ref 98) (.ref 99) 100 303 304) ::
 (nat_lit 102,Eg "times" (EG 11) Ee (.ref 101)) ::
 (nat_lit 108,Ej "is_below" 306 307 308 32 2 3 103 181 104 .none (.ref 105) (.ref 106) 107 311 312) ::
 (nat_lit 109,Eg "is_below" (EG 12) Ee (.ref 108)) ::
 (nat_lit 115,Ej "lesser" 314 315 316 34 2 3 110 181 111 .none (.ref 112) (.ref 113) 114 319 320) ::
 (nat_lit 116,Eg "lesser" (EG 13) Ee (.ref 115)) ::
 (nat_lit 122,Ej "greater" 322 323 324 36 2 3 117 181 118 .none (.ref 119) (.ref 120) 121 327 328) ::
 (nat_lit 123,Eg "greater" (EG 14) Ee (.ref 122)) ::
 (nat_lit 127,Ej "in_size" 330 331 332 38 1 3 124 181 125 .none .none .none 126 333 334) ::
 (nat_lit 128,Eg "in_size" (EG 15) Ee (.ref 127)) ::
 (nat_lit 134,Ej "side_size" 338 339 340 44 1 3 129 181 130 .none (.ref 131) (.ref 132) 133 344 345) ::
 (nat_lit 135,Eg "side_size" (EG 17) Ed (.ref 134)) ::
 (nat_lit 141,Ej "goes_ahead" 347 348 349 52 3 3 136 181 137 .none (.ref 138) (.ref 139) 140 353 354) ::
 (nat_lit 142,Eg "goes_ahead" (EG 18) Ed (.ref 141)) ::
 (nat_lit 148,Ej "lies" 356 357 358 56 3 3 143 181 144 .none (.ref 145) (.ref 146) 147 364 365) ::
 (nat_lit 149,Eg "lies" (EG 19) Ed (.ref 148)) ::
 (nat_lit 155,Ej "sides_of" 369 370 371 65 1 3 150 181 151 .none (.ref 152) (.ref 153) 154 373 374) ::
 (nat_lit 156,Eg "sides_of" (EG 21) Ec (.ref 155)) ::
 (nat_lit 160,Ej "numbers_at" 376 377 378 67 2 3 157 181 158 .none .none .none 159 379 380) ::
 (nat_lit 161,Eg "numbers_at" (EG 22) Ec (.ref 160)) ::
 (nat_lit 162,(.mk (.type "tuple") none (.seq #[(.int (Neg.neg 1) 387),(.int 1 388)] 0) #[])) ::
 (nat_lit 166,Ej "side_looks" 390 391 392 72 2 3 163 181 164 .none .none .none 165 393 394) ::
 (nat_lit 167,Eg "side_looks" (EG 26) Eb (.ref 166)) ::
 (nat_lit 173,Ej "many_side_looks" 396 397 398 81 2 3 168 181 169 .none (.ref 170) (.ref 171) 172 402 403) ::
 (nat_lit 174,Eg "many_side_looks" (EG 27) Eb (.ref 173)) ::
 (nat_lit 180,Ej "many_looks" 405 406 407 86 2 3 175 181 176 .none (.ref 177) (.ref 178) 179 412 413) ::
 (nat_lit 181,Eg "many_looks" (EG 28) Eb (.ref 180)) ::
 (nat_lit 185,Ej "looks_by_side" 415 416 417 91 2 3 182 181 183 .none .none .none 184 418 419) ::
 (nat_lit 186,Eg "looks_by_side" (EG 29) Eb (.ref 185)) ::
 (nat_lit 190,Ej "marked" 421 422 423 95 2 3 187 181 188 .none .none .none 189 424 425) ::
 (nat_lit 191,Eg "marked" (EG 30) Eb (.ref 190)) ::
 (nat_lit 195,Ej "widened" 427 428 429 99 2 3 192 181 193 .none .none .none 194 430 431) ::
 (nat_lit 196,Eg "widened" (EG 31) Eb (.ref 195)) ::
 (nat_lit 200,Ej "counted_looks" 433 434 435 103 2 3 197 181 198 .none .none .none 199 436 437) ::
 (nat_lit 201,Eg "counted_looks" (EG 32) Eb (.ref 200)) ::
 (nat_lit 207,Ej "misses" 439 440 441 111 2 3 202 181 203 .none (.ref 204) (.ref 205) 206 450 451) ::
 (nat_lit 208,Eg "misses" (EG 33) Eb (.ref 207)) ::
 (nat_lit 214,Ej "first_greatest" 453 454 455 118 1 3 209 181 210 .none (.ref 211) (.ref 212) 213 459 460) ::
 (nat_lit 215,Eg "first_greatest" (EG 34) Eb (.ref 214)) ::
 (nat_lit 221,Ej "worst" 462 463 464 124 2 3 216 181 217 .none (.ref 218) (.ref 219) 220 467 468) ::
 (nat_lit 222,Eg "worst" (EG 35) Eb (.ref 221)) ::
 (nat_lit 228,Ej "unevenness" 470 471 472 126 2 3 223 181 224 .none (.ref 225) (.ref 226) 227 475 476) ::
 (nat_lit 229,Eg "unevenness" (EG 36) Eb (.ref 228)) ::
 (nat_lit 235,Ej "_law_feed" 480 481 482 129 1 3 230 181 231 .none (.ref 232) (.ref 233) 234 484 485) ::
 (nat_lit 236,Eg "_law_feed" (EG 38) Ea (.ref 235)) ::
 (nat_lit 242,Ej "_law_draw" 487 488 489 131 2 3 237 181 238 .none (.ref 239) (.ref 240) 241 496 497) ::
 (nat_lit 243,Eg "_law_draw" (EG 39) Ea (.ref 242)) ::
 (nat_lit 249,Ej "_law_frac" 499 500 501 148 2 3 244 181 245 .none (.ref 246) (.ref 247) 248 506 507) ::
 (nat_lit 250,Eg "_law_frac" (EG 40) Ea (.ref 249)) ::
 (nat_lit 256,Ej "_law_cmp" 509 510 511 153 2 3 251 181 252 .none (.ref 253) (.ref 254) 255 516 517) ::
 (nat_lit 257,Eg "_law_cmp" (EG 41) Ea (.ref 256)) ::
 (nat_lit 263,Ej "_law_number" 519 520 521 157 3 3 258 181 259 .none (.ref 260) (.ref 261) 262 529 530) ::
 (nat_lit 264,Eg "_law_number" (EG 42) Ea (.ref 263)) ::
 (nat_lit 268,Ej "_law_points" 532 533 534 169 3 3 265 181 266 .none .none .none 267 535 536) ::
 (nat_lit 269,Eg "_law_points" (EG 43) Ea (.ref 268)) ::
 (nat_lit 275,Ej "_law_world" 538 539 540 183 1 3 270 181 271 .none (.ref 272) (.ref 273) 274 545 546) ::
 (nat_lit 276,Eg "_law_world" (EG 44) Ea (.ref 275)) ::
 (nat_lit 282,Ej "_law_lies" 548 549 550 192 3 3 277 181 278 .none (.ref 279) (.ref 280) 281 556 557) ::
 (nat_lit 283,Eg "_law_lies" (EG 45) Ea (.ref 282)) ::
 (nat_lit 287,Ej "_law_side_size" 559 560 561 198 1 3 284 181 285 .none .none .none 286 562 563) ::
 (nat_lit 288,Eg "_law_side_size" (EG 46) Ea (.ref 287)) ::
 (nat_lit 292,Ej "_law_box_miss" 565 566 567 207 3 3 289 181 290 .none .none .none 291 568 569) ::
 (nat_lit 293,Eg "_law_box_miss" (EG 47) Ea (.ref 292)) ::
 (nat_lit 299,Ej "_law_end" 571 572 573 217 3 3 294 181 295 .none (.ref 296) (.ref 297) 298 582 583) ::
 (nat_lit 300,Eg "_law_end" (EG 48) Ea (.ref 299)) ::
 (nat_lit 304,Ej "_law_box" 585 586 587 224 3 3 301 181 302 .none .none .none 303 588 589) ::
 (nat_lit 305,Eg "_law_box" (EG 49) Ea (.ref 304)) ::
 (nat_lit 309,Ej "_law_bottom" 591 592 593 231 2 3 306 181 307 .none .none .none 308 594 595) ::
 (nat_lit 310,Eg "_law_bottom" (EG 50) Ea (.ref 309)) ::
 (nat_lit 316,Ej "_law_moved" 597 598 599 237 3 3 311 181 312 .none (.ref 313) (.ref 314) 315 608 609) ::
 (nat_lit 317,Eg "_law_moved" (EG 51) Ea (.ref 316)) ::
 (nat_lit 323,Ej "_law_near_it" 611 612 613 248 2 3 318 181 319 .none (.ref 320) (.ref 321) 322 622 623) ::
 (nat_lit 324,Eg "_law_near_it" (EG 52) Ea (.ref 323)) ::
 (nat_lit 330,Ej "law" 625 626 627 256 1 3 325 181 326 .none (.ref 327) (.ref 328) 329 642 643) ::
 (nat_lit 331,Eg "law" (EG 53) Ea (.ref 330))::[]
noncomputable def heapA:List Addr:=nat_lit 2::nat_lit 3::nat_lit 6::nat_lit 15::nat_lit 22::nat_lit 23::nat_lit 24::nat_lit 25::nat_lit 28::nat_lit 40::nat_lit 41::nat_lit 42::nat_lit 43::nat_lit 44::nat_lit 47::nat_lit 59::nat_lit 60::nat_lit 61::nat_lit 62::nat_lit 63::nat_lit 66::nat_lit 67::nat_lit 73::nat_lit 74::nat_lit 80::nat_lit 81::nat_lit 87::nat_lit 88::nat_lit 94::nat_lit 95::nat_lit 101::nat_lit 102::nat_lit 108::nat_lit 109::nat_lit 115::nat_lit 116::nat_lit 122::nat_lit 123::nat_lit 127::nat_lit 128::nat_lit 134::nat_lit 135::nat_lit 141::nat_lit 142::nat_lit 148::nat_lit 149::nat_lit 155::nat_lit 156::nat_lit 160::nat_lit 161::nat_lit 162::nat_lit 166::nat_lit 167::nat_lit 173::nat_lit 174::nat_lit 180::nat_lit 181::nat_lit 185::nat_lit 186::nat_lit 190::nat_lit 191::nat_lit 195::nat_lit 196::nat_lit 200::nat_lit 201::nat_lit 207::nat_lit 208::nat_lit 214::nat_lit 215::nat_lit 221::nat_lit 222::nat_lit 228::nat_lit 229::nat_lit 235::nat_lit 236::nat_lit 242::nat_lit 243::nat_lit 249::nat_lit 250::nat_lit 256::nat_lit 257::nat_lit 263::nat_lit 264::nat_lit 268::nat_lit 269::nat_lit 275::nat_lit 276::nat_lit 282::nat_lit 283::nat_lit 287::nat_lit 288::nat_lit 292::nat_lit 293::nat_lit 299::nat_lit 300::nat_lit 304::nat_lit 305::nat_lit 309::nat_lit 310::nat_lit 316::nat_lit 317::nat_lit 323::nat_lit 324::nat_lit 330::nat_lit 331::[]
theorem heapE:∀P,heapA=(heapK P).map (·.1):=fun _=>rfl
theorem An:∀w:Ju,((JN w.params).isNs Jf,(JN w.params).objs.size,(JN w.params).nsMap Jf "__annotations__")=(true,11,some (.ref 6)):=fun w=>by kernel_rfl
set_option maxHeartbeats 0 in
theorem zleft:LeftO Fo zview [] (fun s=>xlAt zview [] s&&recOk (RowW.records rwN.row.toRowW) s) (Hook.obs (kHook heapK heapA heapE)) (Hook.val (kHook heapK heapA heapE)) 4774 :=
 L2.TT.left_of (M:=4774) (by kernel_rfl) rfl (fun s=>by kernel_rfl) rfl An fun w os=>by kernel_rfl
end K24
namespace L2
abbrev Hg:=Sum Int Str
noncomputable def kR:Hg->HQ->Bool
 | .inl k,v=>HQ.isInt k v
 | .inr x,v=>HQ.isStrOf x v
noncomputable def DN(w:Ju):Hg->Int
 | .inl k=>hashInt k
 | .inr x=>hashStr w x
theorem bp:∀{k:Hg}{v:HQ},kR k v=true->(∃i t,k=Kj i/\v=M4 i t)\/(∃x t,k=I0 x/\v=NM x t)
 | .inl i,v,h=>by
   obtain⟨t,e⟩:=HQ.isInt_shape (k:=i) (v:=v) h
   exact .inl ⟨i,t,rfl,e⟩
 | .inr x,v,h=>by
   obtain⟨t,e⟩:=HQ.isStrOf_shape (x:=x) (v:=v) h
   exact .inr ⟨x,t,rfl,e⟩
theorem pJ(i:Int)(t:Tok):kR (.inl i) (.int i t)=true:=by simp[kR,HQ.isInt]
theorem pI(x:Str)(t:Tok):kR (.inr x) (.str x t)=true:=by simp[kR,HQ.isStrOf]
theorem zk(a b:Int):decide ((Kj a:Hg)=Kj b)=(a==b):=by
 by_cases e:a=b
 · subst e;simp
 · have h:¬(Kj a:Hg)=Kj b:=fun q=>e (Kj.inj q)
   rw[decide_eq_false h]
   exact(beq_eq_false_iff_ne.mpr e).symm
theorem zh(a b:Str):decide ((I0 a:Hg)=I0 b)=decide (a=b):=by
 by_cases e:a=b
 · subst e;simp
 · have h:¬(I0 a:Hg)=I0 b:=fun q=>e (I0.inj q)
   rw[decide_eq_false h,decide_eq_false e]
theorem zj(a:Int)(b:Str):decide ((Kj a:Hg)=I0 b)=false:=decide_eq_false (fun q=>nomatch q)
theorem zi(a:Str)(b:Int):decide ((I0 a:Hg)=Kj b)=false:=decide_eq_false (fun q=>nomatch q)
noncomputable def bE(prog:II)(w:Ju):PySem.KeyKind prog w Hg where
 is:=kR
 hash:=DN w
 inj:=fun v a b ha hb=>by
  rcases bp ha with⟨i,t,rfl,rfl⟩|⟨x,t,rfl,rfl⟩
  · rcases bp hb with⟨j,u,rfl,e⟩|⟨y,u,rfl,e⟩
    · injection e with e1 _;rw[e1]
    · exact nomatch e
  · rcases bp hb with⟨j,u,rfl,e⟩|⟨y,u,rfl,e⟩
    · exact nomatch e
    · injection e with e1 _;rw[e1]
 byValue:=fun k v h=>by
   rcases bp h with⟨i,t,rfl,rfl⟩|⟨x,t,rfl,rfl⟩<;>rfl
 pyHash:=fun hv h=>by
  rcases bp hv with⟨i,t,rfl,rfl⟩|⟨x,t,rfl,rfl⟩
  · exact wpAny_pyHash_int h
  · exact wpAny_pyHash_str h
 eqBool:=fun hu hv h=>by
  rcases bp hu with⟨i,t,rfl,rfl⟩|⟨x,t,rfl,rfl⟩
  · rcases bp hv with⟨j,u,rfl,rfl⟩|⟨y,u,rfl,rfl⟩
    · rw[zk]at h;exact wpAny_eqBool_int h
    · rw[zj]at h;exact SeqAt.EqAt.int_str i t y u _ _ _ _ h
  · rcases bp hv with⟨j,u,rfl,rfl⟩|⟨y,u,rfl,rfl⟩
    · rw[zi]at h;exact SeqAt.EqAt.str_int x t j u _ _ _ _ h
    · rw[zh]at h;exact wpAny_eqBool_str h
 «strs»:=fun k x t v h=>by
  rcases bp h with⟨i,u,rfl,e⟩|⟨y,u,rfl,e⟩
  · exact nomatch e
  · injection e with e1 _
    subst e1
    cases v<;>rfl
theorem kM(prog:II)(w:Ju)(i:Int)(t:Tok):(bE prog w).is (.inl i) (.int i t)=true:=pJ i t
theorem kK(prog:II)(w:Ju)(x:Str)(t:Tok):(bE prog w).is (.inr x) (.str x t)=true:=pI x t
inductive V where
 | non|bl (b:Bool)|int (i:Int)|str (x:Str)|byt (b:Array UInt8)|flt (b:UInt64)|ref (a:Addr)|ty (n:String)
 deriving DecidableEq
noncomputable def RelV:V->HQ->Prop
 | .non,u=>u=L0
 | .bl b,u=>u=NY b
 | .int i,u=>∃t,u=M4 i t
 | .str x,u=>∃t,u=NM x t
 | .byt b,u=>∃t,u=HQ.bytes b t
 | .flt b,u=>∃t,u=HQ.float b t
 | .ref a,u=>u=Kw a
 | .ty n,u=>u=HQ.type n
abbrev cn:List V->List HQ->Prop:=Jy RelV
theorem cn.length{xs:List V}(r:cn xs us):xs.length=us.length:=KF r
theorem cn.get:∀{xs:List V}{us:List HQ}{i:Nat}{x:V},cn xs us->xs[i]?=some x->∃u,us[i]?=some u/\RelV x u
 | _,_,_,_,.nil,e=>by simp at e
 | _,_,0,_,.cons r _,e=>by simp at e;subst e;exact⟨_,rfl,r⟩
 | _,_,i+1,x,.cons _ t,e=>by
   obtain⟨u,h1,h2⟩:=cn.get (i:=i) (x:=x) t (by simpa using e)
   exact⟨u,by simpa using h1,h2⟩
theorem cn.set{x:V}{u:HQ}(r:RelV x u):∀{xs:List V}{us:List HQ}(i:Nat),cn xs us->cn (xs.set i x) (us.set i u)
 | _,_,_,.nil=>.nil
 | _,_,0,.cons _ t=>.cons r t
 | _,_,i+1,.cons q t=>.cons q (cn.set r i t)
theorem cn.append:∀{xs ys:List V}{us ws:List HQ},cn xs us->cn ys ws->cn (xs++ys) (us++ws)
 | _,_,_,_,.nil,s=>s
 | _,_,_,_,.cons r t,s=>.cons r (cn.append t s)
theorem cn.take:∀{xs:List V}{us:List HQ}(n:Nat),cn xs us->cn (xs.take n) (us.take n)
 | _,_,0,_=>.nil
 | _,_,_+1,.nil=>.nil
 | _,_,n+1,.cons r t=>.cons r (cn.take n t)
theorem cn.drop:∀{xs:List V}{us:List HQ}(n:Nat),cn xs us->cn (xs.drop n) (us.drop n)
 | _,_,0,r=>r
 | _,_,_+1,.nil=>.nil
 | _,_,n+1,.cons _ t=>cn.drop n t
noncomputable def wR:Option V->Option HQ->Prop
 | some v,some u=>RelV v u
 | none,none=>True
 | _,_=>False
noncomputable def KV{κ:Type}:List (κ×V)->List (κ×HQ)->Prop:=Jy fun(p:κ×V)(q:κ×HQ)=>p.1=q.1/\RelV p.2 q.2
noncomputable def kV:Hg->V
 | .inl i=>.int i
 | .inr x=>.str x
inductive HO where
 | lst (xs:List V)
 | tup (xs:List V)
 | dK (kvs:List (Hg×V))|dT (kvs:List (List Hg×V))
 | set (S:Int->Bool) (n:Nat)
 | ins (C dx:Addr) (fs:List (Str×V))
 | own (x:Addr)
 | xd (fs:List (Str×V))
 | met (f x:Addr)
 | rng (lo hi:Int)
 | frz (o:Obj) (u:HO)
 | tbl (ps:Array HQ)
 | ext (φ:Heap->Prop)
abbrev Hp:=Addr->Option HO
noncomputable def EB(H:Hp)(a:Addr)(o:HO):Hp:=fun b=>if b=a then some o else H b
theorem ax{H:Hp}{o:HO}:EB H a o a=some o:=by unfold EB;rw[if_pos rfl]
theorem am{H:Hp}{b:Addr}{o:HO}(h:b≠a):EB H a o b=H b:=by unfold EB;rw[if_neg h]
theorem Bd{H:Hp}{b:Addr}{o u:HO}(h:H a=some o)(h':H b=some u)(d:o≠u):a≠b:=by
 intro e;subst e;rw[h]at h';exact d (Jc h')
theorem aX{H:Hp}{b:Addr}{o:HO}(h:H a=some o)(h':H b=none):a≠b:=by
 intro e;subst e;rw[h]at h';cases h'
section
variable(P:II)(w:Ju)
noncomputable def qD(h:Heap)(a:Addr)(items:Array HQ):Prop:=∃o,h.get? a=some o/\o.cls = .type "tuple" /\ (∃n,o.data = .seq items n)/\o.dict=none
theorem qD.tup{h:Heap}{a:Addr}{items:Array HQ}(x:qD h a items):IsTup h a items:=let ⟨o,e1,e2,e3,_⟩:=x;⟨o,e1,e2,e3⟩
theorem qD.new(h:Heap)(items:Array HQ):qD (h.push {cls:=.type "tuple", data:=.seq items}) h.objs.size items:=⟨_,Im _ rfl,rfl,⟨_,rfl⟩,rfl⟩
noncomputable def cK(H:Hp)(h:Heap)(a:Addr):HO->Prop
 | .lst xs=>xs.length<=sizeLine/\∃(its:List HQ)(n:Nat),cn xs its/\h.get? a=some {cls:=.type "list", data:=.seq its.toArray n}
 | .tup xs=>xs.length<=sizeLine/\∃its:List HQ,cn xs its/\qD h a its.toArray
 | .dK kvs=>kvs.length<=sizeLine/\(a==K7)=false/\∃vs,KV kvs vs/\h.DictOf (bE P w) a vs
 | .dT kvs=>kvs.length<=sizeLine/\(a==K7)=false/\∃xs:List (List Hg×Addr×HQ),
     Jy (fun(p:List Hg×V)(q:List Hg×Addr×HQ)=>p.1=q.1/\H q.2.1=some (.tup (p.1.map kV))/\RelV p.2 q.2.2) kvs xs /\
     ∃o es ep,h.get? a=some o/\o.ExactDict/\o.data = .dict es ep/\es.toList=xs.map (entryOfKey (NN (bE P w)))/\(xs.map (·.1)).Nodup
 | .set S n=>h.SetOf (intKind P w) a S n
 | .ins C dx fs=>H dx=some (.own a)/\fs.length<=1000/\dx≠a/\h.get? a=some (W.instObj C dx) /\
     ∃mA,h.Ns1 dx mA/\(∀f,wR (fs.lookup f) (mA f))/\PySem.Within mA (fs.map (·.1))
 | .own _=>∃o,h.get? a=some o
 | .xd fs=>∃mA,h.Ns1 a mA/\∀f,wR (fs.lookup f) (mA f)
 | .rng lo hi=>∃t u v,h.get? a=some {cls:=.type "range", data:=.fields #[.int lo t,.int hi u,.int 1 v]}
 | .frz o u=>h.get? a=some o/\cK H h a u
 | .tbl ps=>h.get? a=some {cls:=.none,data:=.fields ps}
 | .met f x=>h.get? a=some (W.methodObj (.ref f) (.ref x))
 | .ext φ=>φ h/\(∃o,h.get? a=some o)/\∀h1 h2:Heap,φ h1->(∀o,h1.get? a=some o->h2.get? a=some o)->φ h2
noncomputable def Hu(H:Hp)(h:Heap):Prop:=∀a o,H a=some o->cK P w H h a o
end
section
variable{P:II}{w:Ju}{H H':Hp}{h h':Heap}{a:Addr}{o:HO}
theorem cK.lt(x:cK P w H h a o):a<h.objs.size:=by
 cases o with
 | lst xs=>obtain⟨_,_,_,_,e⟩:=x;exact Ii e
 | tup xs=>obtain⟨_,_,_,p⟩:=x;exact p.tup.lt
 | dK kvs=>obtain⟨_,_,_,_,o,_,_,e,_⟩:=x;exact Ii e
 | dT kvs=>obtain⟨_,_,_,_,o,_,_,e,_⟩:=x;exact Ii e
 | set S n=>obtain⟨o,_,_,_,e,_⟩:=x;exact Ii e
 | ins C dx fs=>obtain⟨_,_,_,e,_⟩:=x;exact Ii e
 | own y=>obtain⟨_,e⟩:=x;exact Ii e
 | xd fs=>obtain⟨_,⟨_,_,_,e,_⟩,_⟩:=x;exact Ii e
 | rng lo hi=>obtain⟨_,_,_,e⟩:=x;exact Ii e
 | frz ob u=>obtain⟨e,_⟩:=x;exact Ii e
 | tbl ps=>exact Ii (show h.get? a=some _ from x)
 | met f y=>exact Ii (show h.get? a=some _ from x)
 | ext φ=>obtain⟨_,⟨_,e⟩,_⟩:=x;exact Ii e
theorem Jy.mapP{α β:Type}{F G:α->β->Prop}:∀{l₁:List α}{l₂:List β},Jy F l₁ l₂->(∀a b,F a b->G a b)->Jy G l₁ l₂
 | _,_,.nil,_=>.nil
 | _,_,.cons r t,f=>.cons (f _ _ r) (Jy.mapP t f)
theorem cK.stay(x:cK P w H h a o)(k:∀b u,(b=a\/H b=some (.own a))->h.get? b=some u->h'.get? b=some u)
 (ho:∀b,H b=some (.own a)->H' b=some (.own a))(ht:∀b xs,H b=some (.tup xs)->H' b=some (.tup xs)):cK P w H' h' a o:=by
 induction o with
 | lst xs=>obtain⟨z,its,n,r,e⟩:=x;exact⟨z,its,n,r,k _ _ (.inl rfl) e⟩
 | tup xs=>obtain⟨z,its,r,ob,e,c⟩:=x;exact⟨z,its,r,ob,k _ _ (.inl rfl) e,c⟩
 | dK kvs=>obtain⟨z,y,vs,r,ob,es,ep,e,c⟩:=x;exact⟨z,y,vs,r,ob,es,ep,k _ _ (.inl rfl) e,c⟩
 | dT kvs =>
   obtain⟨z,y,xs,r,ob,es,ep,e,c⟩:=x
   exact⟨z,y,xs,Jy.mapP r fun p q z=>⟨z.1,ht _ _ z.2.1,z.2.2⟩,ob,es,ep,k _ _ (.inl rfl) e,c⟩
 | set S n=>obtain⟨ob,es,ep,t,e,c⟩:=x;exact⟨ob,es,ep,t,k _ _ (.inl rfl) e,c⟩
 | ins C dx fs =>
   obtain⟨d,z,ne,e,mA,⟨od,es,ep,e2,c⟩,r⟩:=x
   exact⟨ho _ d,z,ne,k _ _ (.inl rfl) e,mA,⟨od,es,ep,k _ _ (.inr d) e2,c⟩,r⟩
 | own y=>obtain⟨ob,e⟩:=x;exact⟨ob,k _ _ (.inl rfl) e⟩
 | xd fs=>obtain⟨mA,⟨od,es,ep,e,c⟩,r⟩:=x;exact⟨mA,⟨od,es,ep,k _ _ (.inl rfl) e,c⟩,r⟩
 | rng lo hi=>obtain⟨t,u,v,e⟩:=x;exact⟨t,u,v,k _ _ (.inl rfl) e⟩
 | frz ob u ih=>obtain⟨e,q⟩:=x;exact⟨k _ _ (.inl rfl) e,ih q⟩
 | tbl ps =>
   have e:h.get? a=some {cls:=.none,data:=.fields ps}:=x
   show h'.get? a=some {cls:=.none,data:=.fields ps}
   exact k a _ (.inl rfl) e
 | met f y =>
   have e:h.get? a=some (W.methodObj (.ref f) (.ref y)):=x
   show h'.get? a=some (W.methodObj (.ref f) (.ref y))
   exact k a _ (.inl rfl) e
 | ext φ=>obtain⟨p,⟨o,e⟩,st⟩:=x;exact⟨st _ _ p fun o q=>k _ _ (.inl rfl) q,⟨o,k _ _ (.inl rfl) e⟩,st⟩
theorem Hu.lt(x:Hu P w H h)(e:H a=some o):a<h.objs.size:=(x a o e).lt
theorem Hu.fresh(x:Hu P w H h)(e:h.objs.size<=a):H a=none:=by
 cases q:H a with
 | none=>rfl
 | some u=>exact absurd (HL (x.lt q) e) (J9 _)
theorem Hu.kept(x:Hu P w H h)(k:∀b u,h.get? b=some u->h'.get? b=some u):Hu P w H h':=fun a o e =>
 (x a o e).stay (fun b u _ q=>k b u q) (fun _ q=>q) fun _ _ q=>q
theorem Hu.laid(x:Hu P w H h)(k:∀b u,h.get? b=some u->h'.get? b=some u)(hp:h.objs.size<=a)(new:cK P w (EB H a o) h' a o):Hu P w (EB H a o) h':=fun b u e=>by
 have hn:=x.fresh hp
 by_cases hb:b=a
 · subst hb;rw[ax]at e;cases e;exact new
 · rw[am hb]at e
   exact(x b u e).stay (fun c v _ q=>k c v q) (fun c q=>by rw[am (aX q hn)];exact q) fun c xs q=>by rw[am (aX q hn)];exact q
end
noncomputable def Rd(H:Hp)(a:Addr)(u:HO):Prop:=H a=some u\/∃o,H a=some (.frz o u)
theorem Rd.ok{H:Hp}{u:HO}(r:Rd H a u)(x:Hu P w H h):cK P w H h a u:=by
 rcases r with r|⟨o,r⟩
 · exact x a u r
 · obtain⟨_,q⟩:=x a _ r
   exact q
noncomputable def Ha:Option HO->Prop
 | some (.lst _)=>True
 | some (.dK _)=>True
 | some (.dT _)=>True
 | some (.set _ _)=>True
 | some (.ins _ _ _)=>True
 | some (.ext _)=>True
 | _=>False
section
variable{P:II}{w:Ju}{H:Hp}{h h':Heap}{x e:Addr}{o':HO}
theorem Hu.write(ok:Hu P w H h)(mu:Ha (H x))(he:e=x\/H e=some (.own x))(k:∀b u,b≠e->h.get? b=some u->h'.get? b=some u)(heo:∃u,h'.get? e=some u)
 (new:cK P w (EB H x o') h' x o'):Hu P w (EB H x o') h':=fun b u q=>by
 have nown:∀c y,H c=some (.own y)->c≠x:=fun c y r z=>by subst z;rw[r]at mu;exact mu
 have ntup:∀c xs,H c=some (.tup xs)->c≠x:=fun c xs r z=>by subst z;rw[r]at mu;exact mu
 by_cases hb:b=x
 · subst hb;rw[ax]at q;cases q;exact new
 · rw[am hb]at q
   by_cases hbe:b=e
   · have q':H b=some (.own x):=by
       rcases he with z|z
       · exact absurd (hbe.trans z) hb
       · rw[hbe];exact z
     rw[q]at q';cases q'
     obtain⟨v,hv⟩:=heo
     exact⟨v,by rw[hbe];exact hv⟩
   · refine(ok b u q).stay (fun c v hc r=>k c v ?_ r) (fun c r=>by rw[am (nown c b r)];exact r) fun c xs r=>by rw[am (ntup c xs r)];exact r
     rcases hc with rfl|hc
     · exact hbe
     · rintro rfl
       rcases he with z|z
       · exact nown c b hc z
       · rw[hc]at z;cases z;exact hb rfl
end
structure Un (fs ex:List Addr) (H H':Hp) (h h':Heap):Prop where
 keep:∀b o,h.get? b=some o->H b=none->b∉fs->b∉ex->h'.get? b=some o
 slot:∀b o,h.get? b=some o->H b=none->b∈fs->b∉ex->∃sl,h'.get? b=some {o with slots:=sl}
 free:∀b o,h.get? b=some o->H b=none->b∉ex->H' b=none
 there:∀b o,h.get? b=some o->b∉ex->∃o',h'.get? b=some o'
 tups:∀b xs,H b=some (.tup xs)->H' b=some (.tup xs)
 frzs:∀b o u,H b=some (.frz o u)->H' b=some (.frz o u)
 tbls:∀b ps,H b=some (.tbl ps)->∃more,H' b=some (.tbl (ps++more))
section
variable{fs fs' ex ex':List Addr}{H H1 H2:Hp}{h h1 h2 h':Heap}{a x e:Addr}{o:HO}
theorem Un.any(u:Un fs ex H H1 h h1){b:Addr}{ob:Obj}(q:h.get? b=some ob)(n:H b=none)(hx:b∉ex):∃sl,h1.get? b=some {ob with slots:=sl}:=by
 by_cases hb:b∈fs
 · exact u.slot b ob q n hb hx
 · exact⟨ob.slots,u.keep b ob q n hb hx⟩
theorem Un.kept(k:∀b u,h.get? b=some u->h'.get? b=some u):Un fs ex H H h h' :=
 ⟨fun b ob q _ _ _=>k b ob q,fun b ob q _ _ _=>⟨ob.slots,k b ob q⟩,fun _ _ _ n _=>n,fun b ob q _=>⟨ob,k b ob q⟩,fun _ _ q=>q,fun _ _ _ q=>q,fun _ ps q=>⟨#[],by rw[q];simp⟩⟩
theorem Un.refl:Un fs ex H H h h:=Un.kept fun _ _ q=>q
theorem Un.laid(k:∀b u,h.get? b=some u->h'.get? b=some u)(hp:h.objs.size<=a)(hn:H a=none):Un fs ex H (EB H a o) h h' where
 keep:=fun b u q _ _ _=>k b u q
 slot:=fun b u q _ _ _=>⟨u.slots,k b u q⟩
 free:=fun b u q n _=>by rw[am (IP (HL (Ii q) hp))];exact n
 there:=fun b u q _=>⟨u,k b u q⟩
 tups:=fun b xs q=>by rw[am (aX q hn)];exact q
 frzs:=fun b u xs q=>by rw[am (aX q hn)];exact q
 tbls:=fun b ps q=>⟨#[],by rw[am (aX q hn),q];simp⟩
theorem Un.write(mu:Ha (H x))(he:e=x\/H e=some (.own x))(k:∀b u,b≠e->h.get? b=some u->h'.get? b=some u)(heo:∃u,h'.get? e=some u):Un fs ex H (EB H x o) h h':=by
 have hx:∀b,H b=none->b≠x:=fun b n z=>by subst z;rw[n]at mu;exact mu
 have hb:∀b,H b=none->b≠e:=fun b n z=>by
  subst z
  rcases he with r|r
  · exact hx b n r
  · rw[n]at r;cases r
 have hm:∀b u,H b=some u->¬Ha (some u)->b≠x:=fun b u q nm z=>by subst z;rw[q]at mu;exact nm mu
 refine⟨fun b u q n _ _=>k b u (hb b n) q,fun b u q n _ _=>⟨u.slots,k b u (hb b n) q⟩,fun b u q n _=>by rw[am (hx b n)];exact n,fun b u q _=>?_,
  fun b xs q=>by rw[am (hm b _ q fun z=>z)];exact q,fun b u xs q=>by rw[am (hm b _ q fun z=>z)];exact q,fun b ps q=>⟨#[],by rw[am (hm b _ q fun z=>z),q];simp⟩⟩
 by_cases hbe:b=e
 · subst hbe;exact heo
 · exact⟨u,k b u hbe q⟩
end
noncomputable def EF(h:Heap)(H:Hp):List Addr:=(IV h.objs.size).filter fun a=>(H a).isSome
noncomputable def rZ(h:Heap)(H:Hp):Heap:=W.hideAll h (EF h H)
theorem pR(h:Heap)(H:Hp):(rZ h H).objs.size=h.objs.size:=W.hideAll_size _ _
theorem rY{H:Hp}{b:Addr}{o:Obj}(e:h.get? b=some o)(n:H b=none):(rZ h H).get? b=some o :=
 W.hideAll_get _ e fun hm=>by
  have q:(H b).isSome=true:=(L5.mp hm).2
  rw[n]at q;simp at q
theorem vT{H:Hp}{b:Addr}{o:Obj}(e:(rZ h H).get? b=some o):h.get? b=some o/\H b=none:=by
 have e':h.get? b=some o:=W.of_hideAll (EF h H) e
 refine⟨e',?_⟩
 cases q:H b with
 | none=>rfl
 | some x =>
   have hm:b∈EF h H:=L5.mpr ⟨KO.mpr (Ii e'),by simp[q]⟩
   have z:(rZ h H).get? b=none:=W.hideAll_none (EF h H) hm
   rw[z]at e;cases e
noncomputable def wL(g h:Heap)(L:Addr):List (Addr×Obj):=(IV h.objs.size).filterMap fun a=>if a=L\/(g.get? a).isSome=true then none else(h.get? a).map fun o=>(a,o)
noncomputable def rest(g h:Heap)(L d:Addr):List (Addr×Obj):=(wL g h L).filter fun p=>decide (p.1≠d)
structure Mod (K:W.Frag) (mg:Str->Option HQ) (base:Heap):Prop where
 kin:K.In base
 glob:base.Ns Jf mg
 blt:∃mb,base.Ns builtinsNs mb/\∀x:Str,x ≠ "__name__" -> mb x=Ln x
 nolimit:base.NoLimit
structure Cx where
 prog:II
 w:Ju
 K:W.Frag
 mg:Str->Option HQ
 base:Heap
 A:Jz
 N:List Str
 s₀:HU
 H₀:Hp
 env:Env
 outer:List Env
 stack:List Env
 ex:List Addr
 fn:Str->Bool
 calm:Bool
 pn:List (Addr×Obj)
 xe:HQ->HU->Prop
noncomputable def frs(l:List Env):List Addr:=l.filterMap (·.frame)
abbrev Cx.fs(X:Cx):List Addr:=frs X.outer
noncomputable def GB(sc:Scope)(x:Str):Prop:=sc.names.lookup x=some .local\/sc.names.lookup x=some .cell\/sc.names.lookup x=some .free
noncomputable def Loc(sc:Scope)(x:Str):Prop:=sc.names.lookup x=some .local\/sc.names.lookup x=some .cell
noncomputable def Look(env:Env)(h:Heap)(m:Str->Option HQ)(x:Str)(u:HQ):Prop :=
 (env.kindOf x=some .local/\m x=some u)\/((env.kindOf x=some .cell\/env.kindOf x=some .free)/\∃c,env.cells.lookup x=some c/\h.IsCell c (some u))
structure Cx.Ok (X:Cx):Prop where
 mod:Mod X.K X.mg X.base
 kind:X.env.scope.kind = .function
 glob:X.env.globals=Jf
 blt:X.env.builtins=builtinsNs
 above:X.s₀.heap.objs.size<=X.env.locals
 inj:∀x y c,X.env.cells.lookup x=some c->X.env.cells.lookup y=some c->x=y
 has:∀x,(X.env.kindOf x=some .cell\/X.env.kindOf x=some .free)->∃c,X.env.cells.lookup x=some c
 cab:∀x c,X.fn x=true->X.env.cells.lookup x=some c->X.s₀.heap.objs.size<=c
 hd:X.calm=true->X.A.handled=none
 frames:X.A.frames=some X.stack
 stk:X.stack=X.outer\/(X.stack=X.env::X.outer/\X.env.frame=some X.env.locals)
 exf:∀b∈X.ex,b≠X.env.locals/\∀x c,X.env.cells.lookup x=some c->c≠b
 bs:∀b o,X.base.get? b=some o->X.s₀.heap.get? b=some o/\X.H₀ b=none
 bsz:X.base.objs.size<=X.s₀.heap.objs.size
 noex:∀b o,X.base.get? b=some o->b∉X.ex
 exfs:∀b∈X.ex,b∉X.fs
 funs:X.s₀.heap.FunFrames X.base X.outer
 frf:∀b∈X.fs,X.H₀ b=none
structure Inv (X:Cx) (pins:List (Addr×Obj)) (σ:List (Option V)) (H:Hp) (s:HU):Prop where
 ok:X.Ok
 os:s.os=X.s₀.os
 bare:Ny s.gens
 base:Un X.fs X.ex X.H₀ H X.s₀.heap s.heap
 loc:∃m,s.heap.Ns X.env.locals m/\∀(i:Nat)(x:Str)(v:V),X.N[i]?=some x->σ[i]?=some (some v)->GB X.env.scope x->∃u,RelV v u/\Look X.env s.heap m x u
 cell:∀x c,X.env.cells.lookup x=some c->∃v,s.heap.IsCell c v
 free:H X.env.locals=none
 freeC:∀x c,X.env.cells.lookup x=some c->H c=none
 pin:∀p∈X.pn++pins,s.heap.get? p.1=some p.2/\H p.1=none/\p.1≠X.env.locals/\p.1∉X.fs/\∀v,p.2.data ≠ .cell v
 hok:Hu X.prog X.w H s.heap
 len:σ.length=X.N.length
section
variable{X:Cx}{pins:List (Addr×Obj)}{σ:List (Option V)}{H H':Hp}{s:HU}{h':Heap}
theorem Cx.Ok.nofr(ok:X.Ok){b:Addr}{o:Obj}(e:X.base.get? b=some o):b∉X.fs:=fun hb=>by
 have:=(ok.funs.mem hb).1
 rw[e]at this;cases this
theorem Inv.bs(I:Inv X pins σ H s):∀b o,X.base.get? b=some o->s.heap.get? b=some o/\H b=none:=fun b o e =>
 ⟨I.base.keep b o (I.ok.bs b o e).1 (I.ok.bs b o e).2 (I.ok.nofr e) (I.ok.noex b o e),I.base.free b o (I.ok.bs b o e).1 (I.ok.bs b o e).2 (I.ok.noex b o e)⟩
theorem Inv.bk(I:Inv X pins σ H s):∀b o,X.base.get? b=some o->s.heap.get? b=some o:=fun b o e=>(I.bs b o e).1
theorem Inv.mod(I:Inv X pins σ H s):Mod X.K X.mg X.base:=I.ok.mod
theorem Inv.kIn(I:Inv X pins σ H s):X.K.In s.heap:=I.ok.mod.kin.keeps I.bk
theorem Inv.lt(I:Inv X pins σ H s):X.env.locals<s.heap.objs.size:=let ⟨_,hn,_⟩:=I.loc;hn.lt
theorem Inv.sz(I:Inv X pins σ H s):X.s₀.heap.objs.size<=s.heap.objs.size:=IT I.ok.above (M5 I.lt)
theorem Inv.nofs(I:Inv X pins σ H s)(h:s.heap.objs.size<=a):a∉X.fs:=fun hb=>by
 obtain⟨_,o,ho,_⟩:=I.ok.funs.mem hb
 exact absurd (HL (Ii ho) (IT I.sz h)) (J9 _)
theorem Inv.cne(I:Inv X pins σ H s):∀x c,X.env.cells.lookup x=some c->c≠X.env.locals:=fun x c e z=>by
 obtain⟨v,o,ho,hd⟩:=I.cell x c e
 obtain⟨m,⟨o',es,ep,ho',hd',_⟩,_⟩:=I.loc
 rw[z,ho']at ho;cases ho;rw[hd']at hd;cases hd
theorem Inv.funs(I:Inv X pins σ H s):s.heap.FunFrames X.base X.outer:=by
 have all:∀(l:List Env),(∀b∈frs l,b∈X.fs)->X.s₀.heap.FunFrames X.base l->s.heap.FunFrames X.base l:=by
  intro l
  induction l with
  | nil=>intro _ _;trivial
  | cons env r ih =>
    intro hs hl
    obtain⟨hk,⟨L,o,hf,hn,ho,hd⟩,hr⟩:=hl
    have hL:L∈X.fs:=hs L (by unfold frs;rw[JS,hf];exact HM)
    obtain⟨sl,e⟩:=I.base.slot L o ho (I.ok.frf L hL) hL fun z=>I.ok.exfs L z hL
    exact⟨hk,⟨L,_,hf,hn,e,hd⟩,ih (fun b hb=>hs b (by unfold frs;rw[JS,hf];exact HK _ hb)) hr⟩
 exact all X.outer (fun _ hb=>hb) I.ok.funs
theorem Inv.stack(I:Inv X pins σ H s):s.heap.FunFrames X.base X.stack:=by
 rcases I.ok.stk with e|⟨e,hf⟩
 · rw[e];exact I.funs
 · rw[e]
   obtain⟨m,hn,_⟩:=I.loc
   refine .cons (by rw[I.ok.kind];decide) hf hn ?_ I.funs
   exact Heap.get?_none_of_le (IT I.ok.bsz I.ok.above)
theorem Inv.stkSub(I:Inv X pins σ H s):∀b∈frs X.stack,b∈X.env.locals::X.fs:=fun b hb=>by
 rcases I.ok.stk with e|⟨e,hf⟩
 · rw[e]at hb;exact HK _ hb
 · rw[e]at hb
   unfold frs at hb
   rw[JS,hf]at hb
   exact hb
theorem Inv.stkFree(I:Inv X pins σ H s):∀b∈frs X.stack,H b=none:=fun b hb=>by
 rcases Ih.mp (I.stkSub b hb)with e|hb
 · rw[e];exact I.free
 · obtain⟨_,o,ho,_⟩:=I.ok.funs.mem hb
   exact I.base.free b o ho (I.ok.frf b hb) fun z=>I.ok.exfs b z hb
theorem Inv.step{g':Array GenState}{d':Drawn}{ch:List Addr}(I:Inv X pins σ H s)
 (hch:∀b∈ch,(b∈X.ex\/X.s₀.heap.objs.size<=b)/\b≠X.env.locals/\(∀x c,X.env.cells.lookup x=some c->c≠b)/\∀p∈X.pn++pins,p.1≠b)
 (keep:∀b o,b≠X.env.locals->b∉X.fs->b∉ch->s.heap.get? b=some o->H b=none->h'.get? b=some o)
 (slot:∀b o,b≠X.env.locals->b∈X.fs->b∉ch->s.heap.get? b=some o->H b=none->∃sl,h'.get? b=some {o with slots:=sl})(free:∀b o,b∉ch->s.heap.get? b=some o->H b=none->H' b=none)
 (there:∀b o,b∉ch->s.heap.get? b=some o->∃o',h'.get? b=some o')
 (tups:∀b xs,H b=some (.tup xs)->H' b=some (.tup xs))(frzs:∀b o u,H b=some (.frz o u)->H' b=some (.frz o u))(tbls:∀b ps,H b=some (.tbl ps)->∃more,H' b=some (.tbl (ps++more)))
 (ns:∀m,s.heap.Ns X.env.locals m->h'.Ns X.env.locals m)(hok:Hu X.prog X.w H' h')(hg:Ny g') :
 Inv X pins σ H' {s with heap:=h',gens:=g',drawn:=d',toks:=t' }:=by
 have neL:∀b o,X.s₀.heap.get? b=some o->b≠X.env.locals:=fun b o e=>IP (HL (Ii e) I.ok.above)
 have neC:∀b o,X.s₀.heap.get? b=some o->b∉X.ex->b∉ch:=fun b o e hx hb=>by
  rcases(hch b hb).1 with z|z
  · exact hx z
  · exact absurd (HL (Ii e) z) (J9 _)
 have cellK:∀x c,X.env.cells.lookup x=some c->∀v,s.heap.IsCell c v->h'.IsCell c v:=fun x c e v ⟨o,ho,hd⟩=>by
  have nch:c∉ch:=fun z=>(hch c z).2.2.1 x c e rfl
  by_cases hc:c∈X.fs
  · obtain⟨sl,q⟩:=slot c o (I.cne x c e) hc nch ho (I.freeC x c e)
    exact⟨_,q,hd⟩
  · exact⟨o,keep c o (I.cne x c e) hc nch ho (I.freeC x c e),hd⟩
 refine⟨I.ok,I.os,hg,⟨fun b o e n hb hx=>?_,fun b o e n hb hx=>?_,fun b o e n hx=>?_,fun b o e hx=>?_,fun b xs e=>tups b xs (I.base.tups b xs e),fun b o xs e=>frzs b o xs (I.base.frzs b o xs e),fun b ps e=>?_⟩,?_,fun x c e=>?_,?_,fun x c e=>?_,fun p hp=>?_,hok,I.len⟩
 · exact keep b o (neL b o e) hb (neC b o e hx) (I.base.keep b o e n hb hx) (I.base.free b o e n hx)
 · obtain⟨sl,e1⟩:=I.base.slot b o e n hb hx
   obtain⟨sl',e2⟩:=slot b _ (neL b o e) hb (neC b o e hx) e1 (I.base.free b o e n hx)
   exact⟨sl',e2⟩
 · obtain⟨o',e1⟩:=I.base.there b o e hx
   exact free b o' (neC b o e hx) e1 (I.base.free b o e n hx)
 · obtain⟨o',e1⟩:=I.base.there b o e hx
   exact there b o' (neC b o e hx) e1
 · obtain⟨m1,e1⟩:=I.base.tbls b ps e
   obtain⟨m2,e2⟩:=tbls b _ e1
   exact⟨m1++m2,by rw[e2,Array.append_assoc]⟩
 · obtain⟨m,hn,hl⟩:=I.loc
   refine⟨m,ns m hn,fun i x v e1 e2 e3=>?_⟩
   obtain⟨u,r,l⟩:=hl i x v e1 e2 e3
   refine⟨u,r,?_⟩
   rcases l with l|⟨k,c,e,z⟩
   · exact .inl l
   · exact .inr ⟨k,c,e,cellK x c e _ z⟩
 · obtain⟨v,z⟩:=I.cell x c e
   exact⟨v,cellK x c e v z⟩
 · obtain⟨m,⟨o,_,_,ho,_⟩,_⟩:=I.loc
   exact free _ o (fun z=>(hch _ z).2.1 rfl) ho I.free
 · obtain⟨v,o,ho,hd⟩:=I.cell x c e
   exact free c o (fun z=>(hch c z).2.2.1 x c e rfl) ho (I.freeC x c e)
 · obtain⟨e,n,ne,nf,d⟩:=I.pin p hp
   have nch:p.1∉ch:=fun z=>(hch p.1 z).2.2.2 p hp rfl
   exact⟨keep p.1 p.2 ne nf nch e n,free p.1 p.2 nch e n,ne,nf,d⟩
theorem Inv.un(I:Inv X pins σ H s)(u:Un X.fs [] H H' s.heap h')(hok:Hu X.prog X.w H' h'):Inv X pins σ H' {s with heap:=h',toks:=t' }:=by
 obtain⟨m,⟨o,es,ep,ho,r⟩,_⟩:=id I.loc
 obtain⟨sl,hL⟩:=u.any ho I.free (by simp)
 exact I.step (g':=s.gens) (d':=s.drawn) (ch:=[]) (fun _ z=>nomatch z) (fun b o _ hb _ e n=>u.keep b o e n hb (by simp)) (fun b o _ hb _ e n=>u.slot b o e n hb (by simp)) (fun b o _ e n=>u.free b o e n (by simp)) (fun b o _ e=>u.there b o e (by simp)) u.tups u.frzs u.tbls (fun m' hm=>by
  obtain⟨o',es',ep',ho',r'⟩:=hm
  rw[ho]at ho';cases ho'
  exact⟨_,es',ep',hL,r'⟩) hok I.bare
theorem Inv.call{g':Array GenState}{d':Drawn}{ch:List Addr}(I:Inv X pins σ H s)(u:Un (frs X.stack) ch H H' s.heap h')(hok:Hu X.prog X.w H' h')(hg:Ny g')
 (hch:∀b∈ch,(b∈X.ex\/X.s₀.heap.objs.size<=b)/\b≠X.env.locals/\(∀x c,X.env.cells.lookup x=some c->c≠b)/\∀p∈X.pn++pins,p.1≠b) :
 Inv X pins σ H' {s with heap:=h',gens:=g',drawn:=d',toks:=t' }:=by
 obtain⟨m,⟨o,es,ep,ho,r⟩,_⟩:=id I.loc
 obtain⟨sl,hL⟩:=u.any ho I.free fun z=>(hch _ z).2.1 rfl
 exact I.step (ch:=ch) hch (fun b o hL hb hc e n=>u.keep b o e n (fun z=>(Ih.mp (I.stkSub b z)).elim hL hb) hc) (fun b o _ _ hc e n=>u.any e n hc) (fun b o hc e n=>u.free b o e n hc) (fun b o hc e=>u.there b o e hc) u.tups u.frzs u.tbls (fun m' hm=>by
  obtain⟨o',es',ep',ho',r'⟩:=hm
  rw[ho]at ho';cases ho'
  exact⟨_,es',ep',hL,r'⟩) hok hg
theorem Inv.turned(I:Inv X pins σ H s)(k:∀b o,b≠it->s.heap.get? b=some o->h'.get? b=some o)(hn:H it=none)(hL:it≠X.env.locals)
 (h1:it∈X.ex\/X.s₀.heap.objs.size<=it)(h2:∀x c,X.env.cells.lookup x=some c->c≠it)(h3:∀p∈X.pn++pins,p.1≠it):Inv X pins σ H {s with heap:=h',toks:=t' }:=by
 have nit:∀b u,H b=some u->b≠it:=fun b u e z=>by rw[z,hn]at e;cases e
 refine I.step (g':=s.gens) (d':=s.drawn) (ch:=[it]) (fun b hb=>?_) (fun b o _ _ hc e _=>k b o (fun z=>hc (by simp[z])) e) (fun b o _ _ hc e _=>⟨o.slots,k b o (fun z=>hc (by simp[z])) e⟩) (fun _ _ _ _ n=>n)
  (fun b o hc e=>⟨o,k b o (fun z=>hc (by simp[z])) e⟩) (fun _ _ e=>e) (fun _ _ _ e=>e) (fun b ps e=>⟨#[],by rw[e];simp⟩) (fun m hm=>?_) (fun b u e=>?_) I.bare
 · have e:b=it:=by simpa using hb
   subst e
   exact⟨h1,hL,h2,h3⟩
 · obtain⟨o,es,ep,ho,r⟩:=hm
   exact⟨o,es,ep,k _ o (M6 hL) ho,r⟩
 · refine(I.hok b u e).stay (fun c v hc q=>k c v ?_ q) (fun _ q=>q) fun _ _ q=>q
   rcases hc with z|z
   · rw[z];exact nit b u e
   · exact nit c _ z
theorem Inv.tok(I:Inv X pins σ H s)(t:Nat):Inv X pins σ H {s with toks:=t}:=I.un (h':=s.heap) (t':=t) Un.refl I.hok
theorem Inv.kept{t':Nat}(I:Inv X pins σ H s)(k:∀b u,s.heap.get? b=some u->h'.get? b=some u):Inv X pins σ H {s with heap:=h',toks:=t' }:=I.un (Un.kept k) (I.hok.kept k)
theorem Inv.laid{a:Addr}{o:HO}{t':Nat}(I:Inv X pins σ H s)(k:∀b u,s.heap.get? b=some u->h'.get? b=some u)(hp:s.heap.objs.size<=a)(new:cK X.prog X.w (EB H a o) h' a o) :
 Inv X pins σ (EB H a o) {s with heap:=h',toks:=t' }:=I.un (Un.laid k hp (I.hok.fresh hp)) (I.hok.laid k hp new)
theorem Inv.write{x e:Addr}{o:HO}{t':Nat}(I:Inv X pins σ H s)(mu:Ha (H x))(he:e=x\/H e=some (.own x))(k:∀b u,b≠e->s.heap.get? b=some u->h'.get? b=some u)(heo:∃u,h'.get? e=some u)
 (new:cK X.prog X.w (EB H x o) h' x o):Inv X pins σ (EB H x o) {s with heap:=h',toks:=t' }:=I.un (Un.write mu he k heo) (I.hok.write mu he k heo new)
theorem Inv.pins_of{pins':List (Addr×Obj)}(I:Inv X pins σ H s)(h:∀p∈pins',s.heap.get? p.1=some p.2/\H p.1=none/\p.1≠X.env.locals/\p.1∉X.fs/\∀v,p.2.data ≠ .cell v):Inv X pins' σ H s :=
 ⟨I.ok,I.os,I.bare,I.base,I.loc,I.cell,I.free,I.freeC,fun p hp=>(Ip.mp hp).elim (fun z=>I.pin p (IK _ z)) (h p),I.hok,I.len⟩
theorem lC{N:List Str}(hN:N.Nodup)(a:N[i]?=some x)(b:N[j]?=some x):i=j:=by
 obtain⟨h1,e1⟩:=Iy.mp a
 obtain⟨h2,e2⟩:=Iy.mp b
 exact(List.getElem_inj hN).mp (e1.trans e2.symm)
theorem d0{M:Model}{v:V}{Q:Unit->HU->Prop}(I:Inv X pins σ H s)(hN:X.N.Nodup)(hi:X.N[i]?=some x)(hx:Loc X.env.scope x)(r:RelV v u)
 (h:∀s',Inv X pins (σ.set i (some v)) H s'->(∃a,KC a s.heap s'.heap/\(a=X.env.locals\/X.env.cells.lookup x=some a))->Q () s')(hf:X.fn x=true\/X.env.scope.names.lookup x=some .local:=by first|exact .inl rfl|exact .inr rfl|assumption):Iv M A (storeName X.env x u) Q E s:=by
 obtain⟨m,hn,hl⟩:=id I.loc
 have hcls:(X.env.scope.kind == .class||(X.env.scope.kind == .module&&X.env.locals != X.env.globals))=false:=by rw[I.ok.kind];rfl
 have hiσ:i<σ.length:=by rw[I.len];exact(Iy.mp hi).1
 have cne:=I.cne
 have tracked:∀{a:Addr}{h':Heap},(∃o,s.heap.get? a=some o/\H a=none)->KC a s.heap h'->Hu X.prog X.w H h':=fun{a h'} ha hs b ob e=>by
  obtain⟨_,_,hfree⟩:=ha
  refine(I.hok b ob e).stay (fun c w' hc q=>(hs.2 c ?_).trans q) (fun _ q=>q) fun _ _ q=>q
  rintro rfl
  rcases hc with rfl|hc
  · rw[hfree]at e;cases e
  · rw[hfree]at hc;cases hc
 rcases hx with hk|hk
 · refine wpAny_storeName_local hk hn (fun h' hn' hs=>?_) hcls
   obtain⟨oL,_,_,hoL,_⟩:=id hn
   refine h _ ⟨I.ok,I.os,I.bare,⟨fun b o e n hb hx=>?_,fun b o e n hb hx=>?_,I.base.free,fun b o e hx=>?_,I.base.tups,I.base.frzs,I.base.tbls⟩,⟨_,hn',fun j y v' e1 e2 e3=>?_⟩,fun y c e=>?_,I.free,I.freeC,fun p hp=>?_,tracked ⟨oL,hoL,I.free⟩ hs,by simpa using I.len⟩ ⟨_,hs,.inl rfl⟩
   · exact(hs.2 b (IP (HL (Ii e) I.ok.above))).trans (I.base.keep b o e n hb hx)
   · obtain⟨sl,e1⟩:=I.base.slot b o e n hb hx
     exact⟨sl,(hs.2 b (IP (HL (Ii e) I.ok.above))).trans e1⟩
   · obtain⟨o',e1⟩:=I.base.there b o e hx
     exact⟨o',(hs.2 b (IP (HL (Ii e) I.ok.above))).trans e1⟩
   · by_cases hj:j=i
     · subst hj
       rw[hi]at e1;cases e1
       rw[IE hiσ]at e2
       cases e2
       exact⟨u,r,.inl ⟨hk,by simp⟩⟩
     · rw[IA (M6 hj)]at e2
       obtain⟨u',r',q⟩:=hl j y v' e1 e2 e3
       refine⟨u',r',?_⟩
       rcases q with⟨k,e⟩|⟨k,c,e,z⟩
       · refine .inl ⟨k,?_⟩
         have:y≠x:=fun e=>hj (lC hN e1 (e▸hi))
         simp[this,e]
       · exact .inr ⟨k,c,e,z.sameBut hs (cne y c e)⟩
   · obtain⟨w',z⟩:=I.cell y c e
     exact⟨w',z.sameBut hs (cne y c e)⟩
   · obtain⟨e,n,ne,nf,d⟩:=I.pin p hp
     exact⟨(hs.2 p.1 ne).trans e,n,ne,nf,d⟩
 · have hfn:X.fn x=true:=by
     rcases hf with z|z
     · exact z
     · rw[z]at hk;cases hk
   obtain⟨c,hc⟩:=I.ok.has x (.inl hk)
   obtain⟨w',z⟩:=I.cell x c hc
   refine wpAny_storeName_cell I.ok.kind hk hc z (fun h' hc' hs=>?_)
   obtain⟨oc,hoc,hocd⟩:=id z
   refine h {s with heap:=h' } ⟨I.ok,I.os,I.bare,⟨fun b o e n hb hx=>?_,fun b o e n hb hx=>?_,I.base.free,fun b o e hx=>?_,I.base.tups,I.base.frzs,I.base.tbls⟩,⟨m,hn.sameBut hs (M6 (cne x c hc)),fun j y v' e1 e2 e3=>?_⟩,fun y c' e=>?_,I.free,I.freeC,fun p hp=>?_,tracked ⟨oc,hoc,I.freeC x c hc⟩ hs,by simpa using I.len⟩ ⟨c,hs,.inr hc⟩
   · exact(hs.2 b (IP (HL (Ii e) (I.ok.cab x c hfn hc)))).trans (I.base.keep b o e n hb hx)
   · obtain⟨sl,e1⟩:=I.base.slot b o e n hb hx
     exact⟨sl,(hs.2 b (IP (HL (Ii e) (I.ok.cab x c hfn hc)))).trans e1⟩
   · obtain⟨o',e1⟩:=I.base.there b o e hx
     exact⟨o',(hs.2 b (IP (HL (Ii e) (I.ok.cab x c hfn hc)))).trans e1⟩
   · by_cases hj:j=i
     · subst hj
       rw[hi]at e1;cases e1
       rw[IE hiσ]at e2
       cases e2
       exact⟨u,r,.inr ⟨.inl hk,c,hc,hc'⟩⟩
     · rw[IA (M6 hj)]at e2
       obtain⟨u',r',q⟩:=hl j y v' e1 e2 e3
       refine⟨u',r',?_⟩
       rcases q with q|⟨k,c',e,z'⟩
       · exact .inl q
       · refine .inr ⟨k,c',e,z'.sameBut hs ?_⟩
         rintro rfl
         exact hj (lC hN e1 (I.ok.inj _ _ _ e hc▸hi))
   · by_cases hcc:c'=c
     · subst hcc;exact⟨_,hc'⟩
     · obtain⟨w2,z2⟩:=I.cell y c' e
       exact⟨w2,z2.sameBut hs hcc⟩
   · obtain⟨e,n,ne,nf,d⟩:=I.pin p hp
     refine⟨(hs.2 p.1 ?_).trans e,n,ne,nf,d⟩
     intro q
     rw[q,hoc]at e
     have q':oc=p.2:=Jc e
     exact d w' (by rw[<- q'];exact hocd)
theorem d7{M:Model}{v:V}{Q:Unit->HU->Prop}(I:Inv X pins σ H s)(hN:X.N.Nodup)(hi:X.N[i]?=some x)(hx:Loc X.env.scope x)(r:RelV v u)
 (h:∀s',Inv X pins (σ.set i (some v)) H s'->Q () s')(hf:X.fn x=true\/X.env.scope.names.lookup x=some .local:=by first|exact .inl rfl|exact .inr rfl|assumption):Iv M A (storeName X.env x u) Q E s :=
 d0 I hN hi hx r (fun s' I' _=>h s' I') hf
end
abbrev XK:=HQ->Option Addr->Hp->Prop
abbrev St:=List (Option V)
abbrev VK:=V->Hp->Prop
abbrev TE:=St->Hp->VK->Prop
abbrev TT:=St->Hp->(Bool->Hp->Prop)->Prop
abbrev TA:=St->Hp->(List V->Hp->Prop)->Prop
structure Ends where
 nx:St->Hp->Prop
 rt:VK
 bk:St->Hp->Prop:=fun _ _=>False
 ct:St->Hp->Prop:=fun _ _=>False
abbrev TS:=Ends->St->Hp->Prop
noncomputable def EP(X:Cx)(pins:List (Addr×Obj))(σ:St)(Q:VK)(u:HQ)(s':HU):Prop:=∃v H',Inv X pins σ H' s'/\RelV v u/\Q v H'
noncomputable def TP(X:Cx)(pins:List (Addr×Obj))(σ:St)(Q:Bool->Hp->Prop)(b:Bool)(s':HU):Prop:=∃H',Inv X pins σ H' s'/\Q b H'
noncomputable def AP(X:Cx)(pins:List (Addr×Obj))(σ:St)(Q:List V->Hp->Prop)(us:List HQ)(s':HU):Prop:=∃vs H',Inv X pins σ H' s'/\cn vs us/\Q vs H'
noncomputable def SP(X:Cx)(pins:List (Addr×Obj))(D:Ends)(f:Flow)(s':HU):Prop :=
 match f with
 | .next=>∃σ' H',Inv X pins σ' H' s'/\D.nx σ' H'
 | .brk=>∃σ' H',Inv X pins σ' H' s'/\D.bk σ' H'
 | .cont=>∃σ' H',Inv X pins σ' H' s'/\D.ct σ' H'
 | .ret u=>∃v σ' H',Inv X pins σ' H' s'/\RelV v u/\D.rt v H'
noncomputable def PE(X:Cx)(e:Expr)(t:TE):Prop :=
 ∀(pins:List (Addr×Obj))(s:HU)(σ:St)(H:Hp)(Q:VK),Inv X pins σ H s->t σ H Q->Iv (IH X.prog X.w) X.A (eval e X.env) (EP X pins σ Q) X.xe s
noncomputable def PT(X:Cx)(e:Expr)(t:TT):Prop :=
 ∀(pins:List (Addr×Obj))(s:HU)(σ:St)(H:Hp)(Q:Bool->Hp->Prop),Inv X pins σ H s->t σ H Q->Iv (IH X.prog X.w) X.A (isTrue e X.env (eval e X.env)) (TP X pins σ Q) X.xe s
noncomputable def PW(X:Cx)(e:Expr)(t:TT):Prop :=
 ∀(whole:Sem HQ)(pins:List (Addr×Obj))(s:HU)(σ:St)(H:Hp)(Q:Bool->Hp->Prop),Inv X pins σ H s->t σ H Q->Iv (IH X.prog X.w) X.A (isTrue e X.env whole) (TP X pins σ Q) X.xe s
theorem PW.pt{X:Cx}{e:Expr}{t:TT}(h:PW X e t):PT X e t:=h _
noncomputable def PA(X:Cx)(es:List Expr)(t:TA):Prop :=
 ∀(pos:Pos)(pins:List (Addr×Obj))(s:HU)(σ:St)(H:Hp)(Q:List V->Hp->Prop),Inv X pins σ H s->t σ H Q->Iv (IH X.prog X.w) X.A (spliced (JR pos (HZ es X.env))) (AP X pins σ Q) X.xe s
noncomputable def PS(X:Cx)(st:Stmt)(t:TS):Prop :=
 ∀(pins:List (Addr×Obj))(s:HU)(σ:St)(H:Hp)(D:Ends),Inv X pins σ H s->t D σ H->Iv (IH X.prog X.w) X.A (exec st X.env) (SP X pins D) X.xe s
noncomputable def GY(X:Cx)(st:List Stmt)(t:TS):Prop :=
 ∀(pins:List (Addr×Obj))(s:HU)(σ:St)(H:Hp)(D:Ends),Inv X pins σ H s->t D σ H->Iv (IH X.prog X.w) X.A (execs st X.env) (SP X pins D) X.xe s
theorem EI{t:Sem α}{Q Q':α->HU->Prop}{M:Model}(h:Iv M A t Q E s)(hQ:∀a s,Q a s->Q' a s):Iv M A t Q' E s:=IL h hQ fun _ _ x=>x
section
variable{X:Cx}
noncomputable def AI(i:Nat):TE:=fun σ H Q=>∃v,σ[i]?=some (some v)/\Q v H
noncomputable def tC(v:V):TE:=fun _ H Q=>Q v H
theorem cG(hN:X.N[i]?=some x)(hv:GB X.env.scope x)(hd:(x==("__debug__" : Str))=false:=by decide)(hcd:(x==("__classdict__" : Str))=false:=by decide):PE X (.Name x pos) (AI i):=by
 intro pins s σ H Q I h
 obtain⟨v,e,h⟩:=h
 obtain⟨m,hn,hl⟩:=I.loc
 obtain⟨u,r,l⟩:=hl i x v hN e hv
 have fin:EP X pins σ Q u s:=⟨v,H,I,r,h⟩
 rcases l with⟨hk,hm⟩|⟨hk,c,hc,hcell⟩
 · exact wpAny_Name (No I.ok.kind hk hn hm fin) hd
 · rcases hk with hk|hk
   · exact wpAny_Name (Nz I.ok.kind hk hc hcell fin) hd
   · exact wpAny_Name (wpAny_loadName_free I.ok.kind hk hc hcell fin hcd) hd
theorem lB{i j pos}:PE X (.Constant (.int i) j pos) (tC (.int i)):=fun _ _ _ H _ I h=>wpAny_Constant_int ⟨.int i,H,I.tok _,⟨_,rfl⟩,h⟩
theorem A_{b j pos}:PE X (.Constant (.bool b) j pos) (tC (.bl b)):=fun _ _ _ H _ I h=>Constant_bool ⟨.bl b,H,I,rfl,h⟩
theorem dq{x j pos}:PE X (.Constant (.str x) j pos) (tC (.str x)):=fun _ _ _ H _ I h=>Calls.Constant_str ⟨.str x,H,I.tok _,⟨_,rfl⟩,h⟩
noncomputable def Gl(X:Cx)(x:Str):Prop:=X.env.kindOf x=some .globalImplicit
theorem pE{σ:St}{H:Hp}(I:Inv X pins σ H s)(hg:Gl X x)(hm:X.mg x=some u)(h:Q u s)
 (hd:(x==("__debug__" : Str))=false:=by decide):Iv (IH X.prog X.w) X.A (eval (.Name x pos) X.env) Q E s :=
 Mh I.ok.kind hg (Calls.loadGlobal_global (by rw[I.ok.glob];exact I.mod.glob.keeps I.bk) hm h) hd
theorem gB{σ:St}{H:Hp}(I:Inv X pins σ H s)(hg:Gl X x)(hm:X.mg x=none)(hv:Ln x=some u)(h:Q u s)
 (hn:x ≠ "__name__" := by decide)(hd:(x==("__debug__" : Str))=false:=by decide):Iv (IH X.prog X.w) X.A (eval (.Name x pos) X.env) Q E s:=by
 obtain⟨mb,h1,h2⟩:=I.mod.blt
 exact Mh I.ok.kind hg (Calls.loadGlobal_builtin (by rw[I.ok.glob];exact I.mod.glob.keeps I.bk) hm (by rw[I.ok.blt];exact h1.keeps I.bk) ((h2 x hn).trans hv) h) hd
theorem vH{v:V}(hg:Gl X x)(hm:X.mg x=some u)(r:RelV v u)(hd:(x==("__debug__" : Str))=false:=by decide):PE X (.Name x pos) (tC v) :=
 fun _ _ _ H _ I h=>pE I hg hm ⟨v,H,I,r,h⟩ hd
variable{a b:Expr}{ta tb:TE}{pos:Pos}
noncomputable def tB(t:TE):TT:=fun σ H Q=>t σ H fun x H1=>∃c,x = .bl c/\Q c H1
theorem yw{e:Expr}{t:TE}(h:PE X e t)(he:∀whole,isTrue e X.env whole=(do let v <- whole;MG e.pos;MH [v] (truthy v)):=by intro _;rfl):PT X e (tB t):=by
 intro pins s σ H Q I hw
 refine isTrue_plain (EI (h pins s σ H _ I hw) fun v s1 ⟨x,H1,I1,r1,q1⟩=>?_) (he _)
 obtain⟨d,rfl,q⟩:=q1
 cases r1
 exact JT ⟨H1,I1,q⟩
variable{tA tB':TT}{rest:List Expr}
noncomputable def DG(t u:TT):TT:=fun σ H Q=>t σ H fun c H1=>if c=true then u σ H1 Q else Q false H1
noncomputable def EL(t u:TT):TT:=fun σ H Q=>t σ H fun c H1=>if c=true then Q true H1 else u σ H1 Q
noncomputable def Dz(t:TT):TT:=fun σ H Q=>t σ H fun c H1=>Q (!c) H1
theorem vb(ha:PT X a tA):PW X (.BoolOp .And [a] pos) tA:=by
 intro wh pins s σ H Q I h
 refine isTrue_and (EI (ha pins s σ H Q I h) fun c s1 e=>?_)
 cases c with
 | true=>exact isTrue_and_nil e
 | false=>exact e
theorem yt(ha:PT X a tA):PW X (.BoolOp .Or [a] pos) tA:=by
 intro wh pins s σ H Q I h
 refine isTrue_or (EI (ha pins s σ H Q I h) fun c s1 e=>?_)
 cases c with
 | false=>exact isTrue_or_nil e
 | true=>exact e
theorem yu(ha:PT X a tA)(hb:PW X (.BoolOp .And (b::rest) pos) tB'):PW X (.BoolOp .And (a::b::rest) pos) (DG tA tB'):=by
 intro wh pins s σ H Q I h
 refine isTrue_and (EI (ha pins s σ H _ I h) fun c s1 ⟨H1,I1,q1⟩=>?_)
 cases c with
 | true=>exact hb wh pins s1 σ H1 Q I1 q1
 | false=>exact⟨H1,I1,q1⟩
theorem A1(ha:PT X a tA)(hb:PW X (.BoolOp .Or (b::rest) pos) tB'):PW X (.BoolOp .Or (a::b::rest) pos) (EL tA tB'):=by
 intro wh pins s σ H Q I h
 refine isTrue_or (EI (ha pins s σ H _ I h) fun c s1 ⟨H1,I1,q1⟩=>?_)
 cases c with
 | true=>exact⟨H1,I1,q1⟩
 | false=>exact hb wh pins s1 σ H1 Q I1 q1
theorem yy(ha:PT X a tA):PT X (.UnaryOp .Not a pos) (Dz tA):=by
 intro pins s σ H Q I h
 exact isTrue_not (ha pins s σ H (fun c H1=>Q (!c) H1) I h)
noncomputable def AR(ta tb:TE):TE:=fun σ H Q=>ta σ H fun x H1=>∃c,x = .bl c/\if c=true then tb σ H1 Q else Q (.bl false) H1
noncomputable def Dy(ta tb:TE):TE:=fun σ H Q=>ta σ H fun x H1=>∃c,x = .bl c/\if c=true then Q (.bl true) H1 else tb σ H1 Q
noncomputable def AK(ta:TE):TE:=fun σ H Q=>ta σ H fun x H1=>∃c,x = .bl c/\Q (.bl (!c)) H1
theorem yH{op}{t:TE}(h:PE X a t):PE X (.BoolOp op [a] pos) t:=fun pins s σ H Q I hw=>BoolOp_one (h pins s σ H Q I hw)
theorem yL(ha:PE X a ta)(hb:PE X (.BoolOp .And (b::rest) pos) tb):PE X (.BoolOp .And (a::b::rest) pos) (AR ta tb):=by
 intro pins s σ H Q I h
 refine BoolOp_and (EI (ha pins s σ H _ I h) fun v s1 ⟨x,H1,I1,r1,q1⟩=>?_)
 obtain⟨c,rfl,q1⟩:=q1
 cases r1
 refine JT ?_
 cases c with
 | true=>exact hb pins s1 σ H1 Q I1 q1
 | false=>exact⟨.bl false,H1,I1,rfl,q1⟩
theorem A8(ha:PE X a ta)(hb:PE X (.BoolOp .Or (b::rest) pos) tb):PE X (.BoolOp .Or (a::b::rest) pos) (Dy ta tb):=by
 intro pins s σ H Q I h
 refine BoolOp_or (EI (ha pins s σ H _ I h) fun v s1 ⟨x,H1,I1,r1,q1⟩=>?_)
 obtain⟨c,rfl,q1⟩:=q1
 cases r1
 refine JT ?_
 cases c with
 | false=>exact hb pins s1 σ H1 Q I1 q1
 | true=>exact⟨.bl true,H1,I1,rfl,q1⟩
theorem yI(ha:PE X a ta):PE X (.UnaryOp .Not a pos) (AK ta):=by
 intro pins s σ H Q I h
 refine UnaryOp_ (EI (ha pins s σ H _ I h) fun v s1 ⟨x,H1,I1,r1,q1⟩=>?_)
 obtain⟨c,rfl,q1⟩:=q1
 cases r1
 exact not_of (JT ⟨.bl (!c),H1,I1,rfl,q1⟩)
noncomputable def EO(t:TT)(ta tb:TE):TE:=fun σ H Q=>t σ H fun c H1=>if c=true then ta σ H1 Q else tb σ H1 Q
theorem rH(hc:PT X c tA)(ha:PE X a ta)(hb:PE X b tb):PE X (.IfExp c a b pos) (EO tA ta tb):=by
 intro pins s σ H Q I h
 refine wpAny_IfExp (EI (hc pins s σ H _ I h) fun d s1 ⟨H1,I1,q1⟩=>?_)
 cases d with
 | true=>exact ha pins s1 σ H1 Q I1 q1
 | false=>exact hb pins s1 σ H1 Q I1 q1
end
noncomputable def GN(K:W.Frag)(H:Hp)(a:Addr)(xs:List V):Prop :=
 Rd H a (.lst xs) \/
  ∃(o:Obj)(its:Array HQ)(n:Nat),K.lookup a=some o/\o.cls = .type "list" /\ o.dict=none/\o.data = .seq its n/\its.size<=sizeLine/\cn xs its.toList
noncomputable def GM(K:W.Frag)(H:Hp)(a:Addr)(xs:List V):Prop :=
 Rd H a (.tup xs) \/
  ∃(o:Obj)(its:Array HQ)(n:Nat),K.lookup a=some o/\o.cls = .type "tuple" /\ o.data = .seq its n/\its.size<=sizeLine/\cn xs its.toList/\o.dict=none
noncomputable def DX:HQ->Option V
 | .none=>some .non
 | .bool b=>some (.bl b)
 | .int i _=>some (.int i)
 | .str x _=>some (.str x)
 | .bytes b _=>some (.byt b)
 | .float b _=>some (.flt b)
 | .ref a=>some (.ref a)
 | .type n=>some (.ty n)
 | _=>none
theorem RelV.abs{x:V}(r:RelV x u):DX u=some x:=by
 cases x with
 | non=>cases r;rfl
 | bl _=>cases r;rfl
 | int _=>obtain⟨t,rfl⟩:=r;rfl
 | str _=>obtain⟨t,rfl⟩:=r;rfl
 | byt _=>obtain⟨t,rfl⟩:=r;rfl
 | flt _=>obtain⟨t,rfl⟩:=r;rfl
 | ref _=>cases r;rfl
 | ty _=>cases r;rfl
theorem RelV.inj{x y:V}(r:RelV x u)(q:RelV y u):x=y:=Jc (r.abs.symm.trans q.abs)
theorem cn.inj:∀{xs ys:List V}{us:List HQ},cn xs us->cn ys us->xs=ys
 | _,_,_,.nil,.nil=>rfl
 | _,_,_,.cons r t,.cons r' t'=>by rw[r.inj r',cn.inj t t']
section
variable{X:Cx}{pins:List (Addr×Obj)}{σ:St}{H:Hp}{s:HU}{a:Addr}{xs ys:List V}
theorem Inv.list(I:Inv X pins σ H s)(h:GN X.K H a xs):∃its:List HQ,cn xs its/\PlainL s.heap a its.toArray/\xs.length<=sizeLine:=by
 rcases h with h|⟨o,its,n,hk,hc,hd,hs,hz,r⟩
 · obtain⟨z,its,n,r,e⟩:=h.ok I.hok
   exact⟨its,r,⟨_,n,e,rfl,rfl,rfl⟩,z⟩
 · refine⟨its.toList,r,⟨o,n,I.kIn a o hk,hc,hd,by simpa using hs⟩,?_⟩
   have e:=r.length
   simp only[KG]at e
   omega
theorem Inv.tuple(I:Inv X pins σ H s)(h:GM X.K H a xs):∃its:List HQ,cn xs its/\IsTup s.heap a its.toArray/\xs.length<=sizeLine:=by
 rcases h with h|⟨o,its,n,hk,hc,hs,hz,r,hd⟩
 · obtain⟨z,its,r,p⟩:=h.ok I.hok
   exact⟨its,r,p.tup,z⟩
 · refine⟨its.toList,r,⟨o,I.kIn a o hk,hc,n,by simpa using hs⟩,?_⟩
   have e:=r.length
   simp only[KG]at e
   omega
theorem Inv.list_inj(I:Inv X pins σ H s)(h:GN X.K H a xs)(h':GN X.K H a ys):xs=ys:=by
 obtain⟨its,r,⟨o,n,e,_,_,d⟩,_⟩:=I.list h
 obtain⟨its',r',⟨o',n',e',_,_,d'⟩,_⟩:=I.list h'
 rw[e]at e';cases e'
 rw[d]at d'
 injection d' with d1 _
 have:its=its':=by simpa using congrArg Array.toList d1
 subst this
 exact r.inj r'
theorem Inv.tupleD(I:Inv X pins σ H s)(h:GM X.K H a xs):∃ob,s.heap.get? a=some ob/\ob.cls = .type "tuple" /\ ob.dict=none:=by
 rcases h with h|⟨o,its,n,hk,hc,hs,hz,r,hd⟩
 · obtain⟨z,its,r,⟨o,e1,e2,_,e3⟩⟩:=h.ok I.hok
   exact⟨o,e1,e2,e3⟩
 · exact⟨o,I.kIn a o hk,hc,hd⟩
theorem Inv.tuple_inj(I:Inv X pins σ H s)(h:GM X.K H a xs)(h':GM X.K H a ys):xs=ys:=by
 obtain⟨its,r,⟨o,e,_,n,d⟩,_⟩:=I.tuple h
 obtain⟨its',r',⟨o',e',_,n',d'⟩,_⟩:=I.tuple h'
 rw[e]at e';cases e'
 rw[d]at d'
 injection d' with d1 _
 have:its=its':=by simpa using congrArg Array.toList d1
 subst this
 exact r.inj r'
end
abbrev Cx.wish(X:Cx)(E:HQ->HU->Prop):Cx:={X with xe:=E}
abbrev Cx.nox(X:Cx):Cx:=X.wish fun _ _=>False
theorem Cx.Ok.wish{X:Cx}(ok:X.Ok)(E:HQ->HU->Prop):(X.wish E).Ok :=
 ⟨ok.mod,ok.kind,ok.glob,ok.blt,ok.above,ok.inj,ok.has,ok.cab,ok.hd,ok.frames,ok.stk,ok.exf,ok.bs,ok.bsz,ok.noex,ok.exfs,ok.funs,ok.frf⟩
theorem Cx.Ok.unwish{X:Cx}(ok:(X.wish E).Ok):X.Ok :=
 ⟨ok.mod,ok.kind,ok.glob,ok.blt,ok.above,ok.inj,ok.has,ok.cab,ok.hd,ok.frames,ok.stk,ok.exf,ok.bs,ok.bsz,ok.noex,ok.exfs,ok.funs,ok.frf⟩
section
variable{X:Cx}{pins:List (Addr×Obj)}{σ:St}{H:Hp}{s:HU}{E:HQ->HU->Prop}
theorem Inv.wish(I:Inv X pins σ H s)(E:HQ->HU->Prop):Inv (X.wish E) pins σ H s:=⟨I.ok.wish E,I.os,I.bare,I.base,I.loc,I.cell,I.free,I.freeC,I.pin,I.hok,I.len⟩
theorem Inv.unwish(I:Inv (X.wish E) pins σ H s):Inv X pins σ H s:=⟨I.ok.unwish,I.os,I.bare,I.base,I.loc,I.cell,I.free,I.freeC,I.pin,I.hok,I.len⟩
theorem SP.unwish{D:Ends}{f:Flow}{s':HU}(h:SP (X.wish E) pins D f s'):SP X pins D f s':=by
 cases f with
 | next=>obtain⟨σ',H',I,q⟩:=h;exact⟨σ',H',I.unwish,q⟩
 | brk=>obtain⟨σ',H',I,q⟩:=h;exact⟨σ',H',I.unwish,q⟩
 | cont=>obtain⟨σ',H',I,q⟩:=h;exact⟨σ',H',I.unwish,q⟩
 | ret u=>obtain⟨v,σ',H',I,r,q⟩:=h;exact⟨v,σ',H',I.unwish,r,q⟩
theorem GY.nox{st:List Stmt}{t:TS}(h:GY X.nox st t):GY X st t:=fun pins s σ H D I hw =>
 IL (h pins s σ H D (I.wish _) hw) (fun _ _ q=>q.unwish) fun _ _ z=>JL z
end
section
variable{X:Cx}{st:Stmt}{rest:List Stmt}{t u:TS}{e:Expr}{te:TE}{pos:Pos}
noncomputable def AL:TS:=fun D σ H=>D.nx σ H
noncomputable def Du(t u:TS):TS:=fun D σ H=>t {D with nx:=u D} σ H
theorem oI:GY X [] AL:=fun _ _ σ H _ I h=>L6 ⟨σ,H,I,h⟩
theorem fN(h1:PS X st t)(h2:GY X rest u):GY X (st::rest) (Du t u):=by
 intro pins s σ H D I h
 refine wpAny_execs_cons (EI (h1 pins s σ H {D with nx:=u D} I h) fun f s1 q=>?_)
 cases f with
 | next =>
   obtain⟨σ',H',I',q⟩:=q
   exact h2 pins s1 σ' H' D I' q
 | ret v=>exact q
 | brk=>exact q
 | cont=>exact q
theorem oH(h1:PS X st t):GY X [st] t:=by
 intro pins s σ H D I h
 refine wpAny_execs_cons (EI (h1 pins s σ H D I h) fun f s1 q=>?_)
 cases f with
 | next=>exact L6 q
 | ret v=>exact q
 | brk=>exact q
 | cont=>exact q
theorem Inv.quiet{σ:St}{H:Hp}(I:Inv X pins σ H s):interactive X.env=false:=by simp[interactive,I.ok.kind]
noncomputable def AN(te:TE):TS:=fun D σ H=>te σ H fun _ H1=>D.nx σ H1
theorem oJ(he:PE X e te)(hs:J4 e none pos.line X.env=pure false:=by rfl):PS X (.Expr e pos) (AN te):=by
 intro pins s σ H D I h
 exact wpAny_Expr_any (EI (he pins s σ H _ I h) fun v s1 ⟨x,H1,I1,r1,q1⟩=>⟨σ,H1,I1,q1⟩) I.quiet hs
noncomputable def Dw(te:TE):TS:=fun D σ H=>te σ H D.rt
theorem tF(he:PE X e te):PS X (.Return (some e) pos) (Dw te):=by
 intro pins s σ H D I h
 exact wpAny_Return_some (EI (he pins s σ H _ I h) fun v s1 ⟨x,H1,I1,r1,q1⟩=>⟨x,σ,H1,I1,r1,q1⟩)
noncomputable def DC(c:TT)(t u:TS):TS:=fun D σ H=>c σ H fun b H1=>if b=true then t D σ H1 else u D σ H1
theorem A5{a b:List Stmt}{tc:TT}(hc:PT X c tc)(ha:GY X a t)(hb:GY X b u):PS X (.If c a b pos) (DC tc t u):=by
 intro pins s σ H D I h
 refine wpAny_If (EI (hc pins s σ H _ I h) fun d s1 ⟨H1,I1,q1⟩=>?_)
 cases d with
 | true=>exact ha pins s1 σ H1 D I1 q1
 | false=>exact hb pins s1 σ H1 D I1 q1
noncomputable def xN:TS:=fun _ _ _=>False
theorem rE:PS X st xN:=fun _ _ _ _ _ _ h=>h.elim
end
abbrev TG:=V->St->Hp->(St->Hp->Prop)->Prop
abbrev GL:=List V->St->Hp->(St->Hp->Prop)->Prop
noncomputable def PG(X:Cx)(target:Expr)(t:TG):Prop :=
 ∀ (pins:List (Addr×Obj))(s:HU)(σ:St)(H:Hp)(v:V)(u:HQ)(Q:St->Hp->Prop),Inv X pins σ H s->RelV v u->t v σ H Q ->
   Iv (IH X.prog X.w) X.A (KL target X.env u) (fun _ s'=>∃σ' H',Inv X pins σ' H' s'/\Q σ' H') X.xe s
noncomputable def G6(X:Cx)(ts:List Expr)(t:GL):Prop :=
 ∀ (pins:List (Addr×Obj))(s:HU)(σ:St)(H:Hp)(vs:List V)(us:List HQ)(Q:St->Hp->Prop),Inv X pins σ H s->cn vs us->t vs σ H Q ->
   Iv (IH X.prog X.w) X.A (NO ((Kx ts X.env).map (·.2)) us) (fun _ s'=>∃σ' H',Inv X pins σ' H' s'/\Q σ' H') X.xe s
abbrev BM:=V->V->V->Hp->(Hp->Prop)->Prop
noncomputable def Di(X:Cx)(t:BM):Prop :=
 ∀ (pins:List (Addr×Obj))(s:HU)(σ:St)(H:Hp)(o i v:V)(ov iv u:HQ)(Q:Hp->Prop),Inv X pins σ H s->RelV o ov->RelV i iv->RelV v u->t o i v H Q ->
   Iv (IH X.prog X.w) X.A (setItem ov iv u) (fun _ s'=>∃H',Inv X pins σ H' s'/\Q H') X.xe s
abbrev GJ:=V->V->Hp->VK->Prop
noncomputable def G3(X:Cx)(op:Of)(t:GJ):Prop :=
 ∀ (pins:List (Addr×Obj))(s:HU)(σ:St)(H:Hp)(x y:V)(v u:HQ)(Q:VK),Inv X pins σ H s->RelV x v->RelV y u->t x y H Q ->
   Iv (IH X.prog X.w) X.A (inplaceOp op v u) (EP X pins σ Q) X.xe s
section
variable{X:Cx}{pos:Pos}
noncomputable def jb(i:Nat):TG:=fun v σ H Q=>Q (σ.set i (some v)) H
theorem vE(hN:X.N.Nodup)(hi:X.N[i]?=some x)(hx:Loc X.env.scope x)(hf:X.fn x=true\/X.env.scope.names.lookup x=some .local:=by first|exact .inl rfl|exact .inr rfl|assumption):PG X (.Name x pos) (jb i):=by
 intro pins s σ H v u Q I r h
 exact LB (d7 I hN hi hx r (fun s' I'=>⟨_,H,I',h⟩) hf)
noncomputable def DU:GL:=fun vs σ H Q=>vs=[]/\Q σ H
noncomputable def BA(t:TG)(u:GL):GL:=fun vs σ H Q=>∃v r,vs=v::r/\t v σ H fun σ' H'=>u r σ' H' Q
theorem vD:G6 X [] DU:=by
 intro pins s σ H vs us Q I r h
 obtain⟨e,h⟩:=h
 subst e
 cases r
 exact assignInOrder_nil ⟨σ,H,I,h⟩
theorem rG{e:Expr}{es:List Expr}{t:TG}{u:GL}(h1:PG X e t)(h2:G6 X es u)
 (hs:(Kx (e::es) X.env).map (·.2)=KL e X.env::(Kx es X.env).map (·.2):=by rfl):G6 X (e::es) (BA t u):=by
 intro pins s σ H vs us Q I r h
 obtain⟨v,vr,e1,h⟩:=h
 subst e1
 cases r with
 | cons r rr =>
   rw[hs]
   refine Mk (EI (h1 pins s σ H _ _ _ I r h) fun _ s1 ⟨σ1,H1,I1,q1⟩=>?_)
   exact h2 pins s1 σ1 H1 _ _ Q I1 rr q1
noncomputable def DS(K:W.Frag)(n:Nat)(t:GL):TG:=fun v σ H Q=>∃a xs,v = .ref a/\GM K H a xs/\xs.length=n/\t xs σ H Q
theorem yE{es:List Expr}{k:Nat}{t:GL}(hc:X.calm=true)(h:G6 X es t)
 (hn:(Kx es X.env).length=n:=by rfl)(hst:(Kx es X.env).findIdx? (·.1)=none:=by rfl):PG X (.Tuple es k pos) (DS X.K n t):=by
 intro pins s σ H v u Q I r hw
 obtain⟨a,xs,e1,hq,hl,hw⟩:=hw
 subst e1
 cases r
 obtain⟨its,rv,ht,hz⟩:=I.tuple hq
 refine assign_Tuple_tuple (I.ok.hd hc) ht (by simp[hn,<- hl,rv.length]) hst fun h' hx=>?_
 have I1:Inv X pins σ H {s with heap:=h' }:=I.kept (t':=s.toks) fun b o e=>hx b o (IP (Ii e)) e
 exact h pins _ σ H xs _ Q I1 (by simpa using rv) hw
noncomputable def DT(to ti:TE)(t:BM):TG:=fun v σ H Q=>to σ H fun o H1=>ti σ H1 fun i H2=>t o i v H2 fun H3=>Q σ H3
theorem yF{o i:Expr}{to ti:TE}{t:BM}(ho:PE X o to)(hi:PE X i ti)(hs:Di X t)
 (ha:∀v,KL (.Subscript o i pos) X.env v=(do
  let ov <- MH [v] (eval o X.env)
  let iv <- MH [v,ov] (eval i X.env)
  MG pos
  MH [v,ov,iv] (setItem ov iv v)
  release [v,ov,iv] []):=by intro _;rfl):PG X (.Subscript o i pos) (DT to ti t):=by
 intro pins s σ H v u Q I r h
 rw[ha]
 refine HJ (J_ (EI (ho pins s σ H _ I h) fun ov s1 ⟨x,H1,I1,r1,q1⟩=>?_))
 refine HJ (J_ (EI (hi pins s1 σ H1 _ I1 q1) fun iv s2 ⟨y,H2,I2,r2,q2⟩=>?_))
 refine HJ (JI (HJ (J_ (EI (hs pins s2 σ H2 x y v ov iv u _ I2 r1 r2 r q2) fun _ s3 ⟨H3,I3,q3⟩=>?_))))
 exact wpAny_release ⟨σ,H3,I3,q3⟩
noncomputable def xR(te:TE)(g:TG):TS:=fun D σ H=>te σ H fun x H1=>g x σ H1 D.nx
theorem tH{e:Expr}{te:TE}{g:TG}(he:PE X e te)(hg:PG X tg g)(hs:LV [tg] e pos.line X.env=pure false:=by rfl)(hw:LW [tg] e X.env=pure none:=by rfl)
 (h1:(Kx [tg] X.env).map (·.2)=[KL tg X.env]:=by rfl):PS X (.Assign [tg] e pos) (xR te g):=by
 intro pins s σ H D I h
 refine wpAny_Assign_stores (EI (he pins s σ H _ I h) fun v s1 ⟨x,H1,I1,r1,q1⟩=>?_) hs hw
 rw[h1]
 exact EI (hg pins s1 σ H1 x v _ I1 r1 q1) fun _ s2 q=>q
theorem gh{e:Expr}{te:TE}(hN:X.N.Nodup)(hi:X.N[i]?=some x)(hx:Loc X.env.scope x)(he:PE X e te)(hs:J4 e (some (.Name x pos')) pos.line X.env=pure false:=by rfl)(hf:X.fn x=true\/X.env.scope.names.lookup x=some .local:=by first|exact .inl rfl|exact .inr rfl|assumption) :
 PS X (.Assign [.Name x pos'] e pos) (xR te (jb i)):=by
 intro pins s σ H D I h
 refine wpAny_Assign_Name (EI (he pins s σ H _ I h) fun v s1 ⟨y,H1,I1,r1,q1⟩=>?_) hs
 exact d7 I1 hN hi hx r1 (fun s2 I2=>⟨_,H1,I2,q1⟩) hf
noncomputable def Dx(i j:Nat)(ta:TA):TS:=fun D σ H=>ta σ H fun vs H1=>∃v w,vs=[v,w]/\D.nx ((σ.set i (some v)).set j (some w)) H1
theorem yz{y:Str}{a b:Expr}{ta:TA}{py pt:Pos}{kt k2 pt2}(hc:X.calm=true)(hN:X.N.Nodup)(hi:X.N[i]?=some x)(hj:X.N[j]?=some y)(hij:i≠j)
 (hx:X.env.scope.names.lookup x=some .local)(hy:X.env.scope.names.lookup y=some .local)(ha:PA X [a,b] ta)
 (hw:LW [.Tuple [.Name x px,.Name y py] kt pt] (.Tuple [a,b] k2 pt2) X.env=pure (some [x,y]))
 (hs:LV [.Tuple [.Name x px,.Name y py] kt pt] (.Tuple [a,b] k2 pt2) pos.line X.env=pure false:=by rfl) :
 PS X (.Assign [.Tuple [.Name x px,.Name y py] kt pt] (.Tuple [a,b] k2 pt2) pos) (Dx i j ta):=by
 intro pins s σ H D I h
 rw[exec_Assign_arm]
 refine HJ (JI ?_)
 rw[hs]
 refine HJ (H_ ?_)
 rw[if_neg (by decide)]
 refine HJ (Tuple_ (EI (ha _ pins s σ H _ I h) fun us s1 ⟨vs,H1,I1,r1,q1⟩=>?_))
 obtain⟨v,w,e1,q1⟩:=q1
 subst e1
 obtain⟨u1,u2,rfl,rv,rw'⟩:∃u1 u2,us=[u1,u2]/\RelV v u1/\RelV w u2:=by
  cases r1 with
  | cons p q =>
    cases q with
    | cons p' q' =>
      cases q'
      exact⟨_,_,rfl,p,p'⟩
 refine Jg ?_ (by show 2<=sizeLine;decide)
 have I2:Inv X pins σ H1 {s1 with heap:=s1.heap.push {cls:=.type "tuple", data:=.seq [u1,u2].toArray}}:=I1.kept (t':=s1.toks) fun b o e=>HN _ e
 rw[hw]
 refine HJ (H_ ?_)
 show Iv (IH X.prog X.w) X.A (do rule "assign.swapped-stores"; let items <- unpackItems (.ref s1.heap.objs.size) 2 none;NO [fun v=>bindName X.env y v,fun v=>bindName X.env x v] items.reverse;pure Flow.next) _ _ _
 refine HJ (L1 (HJ (unpackItems_tuple (items:=#[u1,u2]) (I.ok.hd hc) (IsTup.new s1.heap _) fun h' hx'=>?_)))
 have I3:=I2.kept (h':=h') (t':=s1.toks) fun b o e=>hx' b o (IP (Ii e)) e
 show Iv _ _ (NO [fun v=>bindName X.env y v,fun v=>bindName X.env x v] [u2,u1] >>= fun _=>pure Flow.next) _ _ _
 refine HJ (Mk (wpAny_bindName (d7 I3 hN hj (.inl hy) rw' (fun s2 I4=>?_) (.inr hy))))
 refine Mk (wpAny_bindName (d7 I4 hN hi (.inl hx) rv (fun s3 I5=>assignInOrder_nil (H_ ?_)) (.inr hx)))
 rw[List.set_comm _ _ (M6 hij)]at I5
 exact⟨_,H1,I5,q1⟩
noncomputable def DF(i:Nat)(te:TE)(ti:GJ):TS:=fun D σ H=>∃x,σ[i]?=some (some x)/\te σ H fun y H1=>ti x y H1 fun z H2=>D.nx (σ.set i (some z)) H2
theorem yA{e:Expr}{te:TE}{op:Of}{ti:GJ}(hN:X.N.Nodup)(hi:X.N[i]?=some x)(hx:Loc X.env.scope x)(he:PE X e te)(ho:G3 X op ti)(hf:X.fn x=true\/X.env.scope.names.lookup x=some .local:=by first|exact .inl rfl|exact .inr rfl|assumption) :
 PS X (.AugAssign (.Name x pos') op e pos) (DF i te ti):=by
 intro pins s σ H D I h
 obtain⟨v,e1,h⟩:=h
 obtain⟨m,hn,hl⟩:=I.loc
 have vis:GB X.env.scope x:=by rcases hx with k|k;exact .inl k;exact .inr (.inl k)
 obtain⟨u,r,l⟩:=hl i x v hi e1 vis
 refine wpAny_AugAssign_Name ?_
 have go:Iv (IH X.prog X.w) X.A (eval e X.env) (fun w s₂=>Iv (IH X.prog X.w) X.A (inplaceOp op u w) (fun r s₃=>Iv (IH X.prog X.w) X.A (storeName X.env x r) (fun _=>SP X pins D .next) X.xe s₃) X.xe s₂) X.xe s:=by
  refine EI (he pins s σ H _ I h) fun w s1 ⟨y,H1,I1,r1,q1⟩=>?_
  refine EI (ho pins s1 σ H1 v y u w _ I1 r r1 q1) fun z s2 ⟨zv,H2,I2,r2,q2⟩=>?_
  exact d7 I2 hN hi hx r2 (fun s3 I3=>⟨_,H2,I3,q2⟩) hf
 rcases l with⟨hk,hm⟩|⟨hk,c,hc,hcell⟩
 · exact No I.ok.kind hk hn hm go
 · rcases hk with hk|hk
   · exact Nz I.ok.kind hk hc hcell go
   · rcases hx with k|k
     · have:X.env.scope.names.lookup x=some .free:=hk
       rw[k]at this;cases this
     · have:X.env.scope.names.lookup x=some .free:=hk
       rw[k]at this;cases this
end
section
variable{X:Cx}{pos:Pos}
noncomputable def xL(c:TT)(tb:TS):TS:=fun D σ H=>∃W:Nat->St->Hp->Prop,(∃m,W m σ H)/\∀m σ H,W m σ H ->
 c σ H fun b H1=>if b=true then ∃N:St->Hp->Prop,(∀σ' H',N σ' H'->∃m',m'<m/\W m' σ' H')/\tb {D with nx:=N,ct:=N,bk:=D.nx} σ H1 else D.nx σ H1
theorem rC{body:List Stmt}{tc:TT}{tb:TS}(hp:NP (IH X.prog X.w) X.A X.env X.xe)(hc:PT X c tc)(hb:GY X body tb):PS X (.While c body [] pos) (xL tc tb):=by
 intro pins s σ H D I h
 obtain⟨W,⟨m0,w0⟩,turn⟩:=h
 refine wpAny_While (codeAny_whileLoop (fun n s'=>∃σ' H',Inv X pins σ' H' s'/\W n σ' H') ?_ m0 ⟨σ,H,I,w0⟩)
 rintro n s1 ⟨σ1,H1,I1,w1⟩
 refine Ky hp (EI (hc pins s1 σ1 H1 _ I1 (turn n σ1 H1 w1)) fun b s2 ⟨H2,I2,q2⟩=>?_)
 cases b with
 | true =>
   obtain⟨N,hN,q2⟩:=q2
   rw[if_pos rfl]
   refine Ky hp (EI (hb pins s2 σ1 H2 _ I2 q2) fun f s3 q3=>?_)
   cases f with
   | next =>
     obtain⟨σ3,H3,I3,n3⟩:=q3
     obtain⟨m',hm,w3⟩:=hN σ3 H3 n3
     exact⟨m',hm,σ3,H3,I3,w3⟩
   | cont =>
     obtain⟨σ3,H3,I3,n3⟩:=q3
     obtain⟨m',hm,w3⟩:=hN σ3 H3 n3
     exact⟨m',hm,σ3,H3,I3,w3⟩
   | brk=>exact q3
   | ret v=>exact q3
 | false =>
   rw[if_neg IF]
   exact L6 ⟨σ1,H2,I2,q2⟩
end
structure It where
 go:Nat->Hp->Prop
 yld:Nat->Hp->V->Hp->Prop
 stop:Nat->Hp->Prop
noncomputable def j_(X:Cx)(pins:List (Addr×Obj))(H:Hp)(b:Addr):Prop :=
 H b=none/\b≠X.env.locals/\b∉X.fs/\(b∈X.ex\/X.s₀.heap.objs.size<=b)/\(∀x c,X.env.cells.lookup x=some c->c≠b)/\∀p∈X.pn++pins,p.1≠b
theorem Inv.fpOk{X:Cx}{σ:St}{H H':Hp}{b:Addr}(I:Inv X pins σ H s)(hb:s.heap.objs.size<=b)(hn:H' b=none):j_ X pins H' b:=by
 refine⟨hn,KY (HL I.lt hb),I.nofs hb,.inr (IT I.sz hb),fun x c e z=>?_,fun p hp z=>?_⟩
 · obtain⟨v,q⟩:=I.cell x c e
   exact absurd (HL q.lt (by rw[z];exact hb)) (J9 _)
 · exact absurd (HL (Ii (I.pin p hp).1) (by rw[z];exact hb)) (J9 _)
structure Turn (P:II) (w:Ju) (K:W.Frag) (tg:Expr) (J:It) (fp:List Addr) (it:Addr) (tn:Nat->Heap->Prop):Prop where
 mem:it∈fp
 obj:∀i h,tn i h->∀b∈fp,∃o,h.get? b=some o/\∀v,o.data ≠ .cell v
 keep:∀i h h',tn i h->(∀b∈fp,∀o,h.get? b=some o->h'.get? b=some o)->tn i h'
 item:∀(X:Cx),X.prog=P->X.w=w->X.K=K->X.calm=true->∀(i:Nat)(pins:List (Addr×Obj))(s:HU)(σ:St)(H:Hp)(E:HQ->HU->Prop),Inv X pins σ H s->(∀b∈fp,j_ X pins H b)->tn i s.heap->J.go i H ->
  Iv (IH P w) X.A (M7 (.ref it)) (fun r s1=>∃u,r=some u /\
   Iv (IH P w) X.A (Kb tg (.ref it) u) (fun _ s2=>∃x H',Inv X pins σ H' s2/\RelV x u/\J.yld i H x H'/\tn (i+1) s2.heap/\∀b∈fp,H' b=none) E s1) E s
 done:∀(X:Cx),X.prog=P->X.w=w->X.K=K->X.calm=true->∀(i:Nat)(pins:List (Addr×Obj))(s:HU)(σ:St)(H:Hp)(E:HQ->HU->Prop),Inv X pins σ H s->(∀b∈fp,j_ X pins H b)->tn i s.heap->J.stop i H ->
  Iv (IH P w) X.A (M7 (.ref it)) (fun r s1=>r=none/\Inv X pins σ H s1) E s
 self:∀(A:Jz)(i:Nat)(s:HU)(Q:HQ->HU->Prop)(E:HQ->HU->Prop),tn i s.heap->Q (.ref it) s->Iv (IH P w) A (Og (.ref it)) Q E s
abbrev TI:=St->Hp->(It->Hp->Prop)->Prop
noncomputable def G5(X:Cx)(pins:List (Addr×Obj))(σ:St)(tg:Expr)(R:It->Hp->Prop)(itv:HQ)(s2:HU):Prop :=
 ∃(it:Addr)(fp:List Addr)(tn:Nat->Heap->Prop)(J:It)(H':Hp),itv = .ref it/\Inv X pins σ H' s2/\Turn X.prog X.w X.K tg J fp it tn/\tn 0 s2.heap/\(∀b∈fp,j_ X pins H' b)/\R J H'
noncomputable def PI(X:Cx)(tg iter:Expr)(wi:TI):Prop :=
 ∀ (pins:List (Addr×Obj))(s:HU)(σ:St)(H:Hp)(R:It->Hp->Prop),Inv X pins σ H s->wi σ H R ->
   Iv (IH X.prog X.w) X.A (eval iter X.env) (fun v s1=>Iv (IH X.prog X.w) X.A (Og v) (G5 X pins σ tg R) X.xe s1) X.xe s
theorem wf{M:Model}{o:Obj}{n:String}{vs:Array HQ}{Q:Unit->HU->Prop}(ho:s.heap.get? it=some o)(hc:o.cls = .type n)(hd:o.data = .fields vs)
 (hn:["enumerate", "zip", "dict_itemiterator", "dict_reverseitemiterator", "odict_iterator", "itertools.zip_longest", "itertools.pairwise"].contains n=false)(hQ:Q () s):Iv M A (Kb tg (.ref it) u) Q E s:=by
 unfold Kb
 cases tg<;>first
  | exact H_ hQ
  | (cases u<;>first
      | exact H_ hQ
      | (refine HJ (wpAny_load ho ?_)
         rw[hc,hd]
         show Iv M A (if(["enumerate", "zip", "dict_itemiterator", "dict_reverseitemiterator", "odict_iterator", "itertools.zip_longest", "itertools.pairwise"].contains n&&vs[0]?==some (rawInt _))=true then _ else _) Q E s
         rw[if_neg (by intro h;rw[hn,Bool.false_and]at h;cases h)]
         exact H_ hQ))
noncomputable def Hn(K:W.Frag)(a:Addr):It :=
 ⟨fun i H=>∃xs x,GN K H a xs/\xs[i]?=some x,fun i H x H'=>H'=H/\∀xs,GN K H a xs->xs[i]?=some x,fun i H=>∃xs,GN K H a xs/\xs.length<=i⟩
noncomputable def Hl(K:W.Frag)(a:Addr):It :=
 ⟨fun i H=>∃xs x,GM K H a xs/\xs[i]?=some x,fun i H x H'=>H'=H/\∀xs,GM K H a xs->xs[i]?=some x,fun i H=>∃xs,GM K H a xs/\xs.length<=i⟩
noncomputable def Hm(lo:Int)(n:Nat):It:=⟨fun i _=>i<n,fun i H x H'=>H'=H/\x = .int (lo+i),fun i _=>n<=i⟩
theorem jw{K:W.Frag}(a it:Addr):Turn P w K tg (Hn K a) [it] it (fun i h=>h.IsListIter it a i) where
 mem:=by simp
 obj:=fun i h st b hb=>by
  have e:b=it:=by simpa using hb
  subst e
  obtain⟨o,e,c,d⟩:=st
  exact⟨o,e,fun v z=>by rw[d]at z;cases z⟩
 keep:=fun i h h' st k=>st.at fun o e=>k it (by simp) o e
 item:=by
  intro X hP hw hK hc i pins s σ H E I hf st hg
  subst hP hw hK
  obtain⟨xs,x,hq,hx⟩:=hg
  obtain⟨its,rv,p,hz⟩:=I.list hq
  obtain⟨u,hu,ru⟩:=rv.get hx
  obtain⟨f0,f1,f2,f3,f4,f5⟩:=hf it (by simp)
  refine wpAny_pyNext_list_item st p.isList (x:=u) (by simpa using hu) fun h' st' sb=>?_
  have I1:Inv X pins σ H {s with heap:=h' }:=I.turned (t':=s.toks) (fun b o hb e=>(sb.2 b hb).trans e) f0 f1 f3 f4 f5
  obtain⟨o,e,c,d⟩:=id st'
  exact⟨u,rfl,wf (s:={s with heap:=h' }) e c d (by decide) ⟨x,H,I1,ru,⟨rfl,fun ys hy=>by rw[I.list_inj hy hq];exact hx⟩,st',fun b hb=>(hf b hb).1⟩⟩
 done:=by
  intro X hP hw hK hc i pins s σ H E I hf st hg
  subst hP hw hK
  obtain⟨xs,hq,hx⟩:=hg
  obtain⟨its,rv,p,hz⟩:=I.list hq
  obtain⟨f0,f1,f2,f3,f4,f5⟩:=hf it (by simp)
  have hl:=rv.length
  exact wpAny_pyNext_list_end (I.ok.hd hc) st p.isList (by simp;omega) fun h' eb=>⟨rfl,I.turned (t':=s.toks) (fun b o hb e=>eb b o hb e) f0 f1 f3 f4 f5⟩
 self:=fun _ _ _ _ _ st h=>wpAny_pyIter_listiter st h
theorem hW{K:W.Frag}(a it:Addr):Turn P w K tg (Hl K a) [it] it (fun i h=>h.IsTupleIter it a i) where
 mem:=by simp
 obj:=fun i h st b hb=>by
  have e:b=it:=by simpa using hb
  subst e
  obtain⟨o,e,c,d⟩:=st
  exact⟨o,e,fun v z=>by rw[d]at z;cases z⟩
 keep:=fun i h h' st k=>st.at fun o e=>k it (by simp) o e
 item:=by
  intro X hP hw hK hc i pins s σ H E I hf st hg
  subst hP hw hK
  obtain⟨xs,x,hq,hx⟩:=hg
  obtain⟨its,rv,p,hz⟩:=I.tuple hq
  obtain⟨u,hu,ru⟩:=rv.get hx
  obtain⟨f0,f1,f2,f3,f4,f5⟩:=hf it (by simp)
  refine wpAny_pyNext_tuple_item st (show s.heap.IsTuple a its.toArray from p) (x:=u) (by simpa using hu) fun h' st' sb=>?_
  have I1:Inv X pins σ H {s with heap:=h' }:=I.turned (t':=s.toks) (fun b o hb e=>(sb.2 b hb).trans e) f0 f1 f3 f4 f5
  obtain⟨o,e,c,d⟩:=id st'
  exact⟨u,rfl,wf (s:={s with heap:=h' }) e c d (by decide) ⟨x,H,I1,ru,⟨rfl,fun ys hy=>by rw[I.tuple_inj hy hq];exact hx⟩,st',fun b hb=>(hf b hb).1⟩⟩
 done:=by
  intro X hP hw hK hc i pins s σ H E I hf st hg
  subst hP hw hK
  obtain⟨xs,hq,hx⟩:=hg
  obtain⟨its,rv,p,hz⟩:=I.tuple hq
  obtain⟨f0,f1,f2,f3,f4,f5⟩:=hf it (by simp)
  have hl:=rv.length
  exact wpAny_pyNext_tuple_end (I.ok.hd hc) st (show s.heap.IsTuple a its.toArray from p) (by simp;omega) fun h' eb=>⟨rfl,I.turned (t':=s.toks) (fun b o hb e=>eb b o hb e) f0 f1 f3 f4 f5⟩
 self:=fun _ _ _ _ _ st h=>wpAny_pyIter_tupleiter st h
theorem mG{K:W.Frag}(it:Addr)(lo:Int)(n:Nat):Turn P w K tg (Hm lo n) [it] it (fun i h=>IsRangeIter h it (lo+(i:Nat)*1) ((n:Int)-(i:Nat)) 1) where
 mem:=by simp
 obj:=fun i h st b hb=>by
  have e:b=it:=by simpa using hb
  subst e
  exact⟨_,st,fun v z=>by
   have z':Data.fields _=Data.cell v:=z
   cases z'⟩
 keep:=fun i h h' st k=>k it (by simp) _ st
 item:=by
  intro X hP hw hK hc i pins s σ H E I hf st hg
  subst hP hw hK
  obtain⟨f0,f1,f2,f3,f4,f5⟩:=hf it (by simp)
  have W:=Walks.range (prog:=X.prog) (w:=X.w) (I.ok.hd hc) it lo 1 n
  refine W.item i s _ _ hg st fun v h' tk hv st' kk=>?_
  obtain⟨t,rfl⟩:=hv
  have I1:Inv X pins σ H {s with heap:=h',toks:=tk}:=I.turned (fun b o hb e=>kk b o (by simpa using hb) e) f0 f1 f3 f4 f5
  refine⟨_,rfl,wf (s:={s with heap:=h',toks:=tk}) (n := "range_iterator") st' rfl rfl (by decide) ⟨.int (lo+i),H,I1,⟨t,?_⟩,⟨rfl,rfl⟩,st',fun b hb=>(hf b hb).1⟩⟩
  rw[Int.mul_one]
 done:=by
  intro X hP hw hK hc i pins s σ H E I hf st hg
  subst hP hw hK
  obtain⟨f0,f1,f2,f3,f4,f5⟩:=hf it (by simp)
  exact wpAny_pyNext_range_end (I.ok.hd hc) st (by have:n<=i:=hg;omega) fun h' eb=>⟨rfl,I.turned (t':=s.toks) (fun b o hb e=>eb b o hb e) f0 f1 f3 f4 f5⟩
 self:=fun _ _ _ _ _ st h=>wpAny_pyIter_rangeiter st h
section
variable{X:Cx}{tg:Expr}
noncomputable def Bv(K:W.Frag)(tl:TE):TI:=fun σ H R=>tl σ H fun x H1=>∃a,x = .ref a/\(∃xs,GN K H1 a xs)/\R (Hn K a) H1
noncomputable def DP(K:W.Frag)(tl:TE):TI:=fun σ H R=>tl σ H fun x H1=>∃a,x = .ref a/\(∃xs,GM K H1 a xs)/\R (Hl K a) H1
theorem vA{l:Expr}{tl:TE}(hl:PE X l tl):PI X tg l (Bv X.K tl):=by
 intro pins s σ H R I h
 refine EI (hl pins s σ H _ I h) fun v s1 ⟨x,H1,I1,r1,q1⟩=>?_
 obtain⟨a,e,⟨xs,hq⟩,q⟩:=q1
 subst e
 cases r1
 obtain⟨its,rv,p,hz⟩:=I1.list hq
 refine K8 p.isList ?_
 refine⟨s1.heap.objs.size,[s1.heap.objs.size],_,_,H1,rfl,I1.kept (t':=s1.toks) fun b o e=>HN _ e,jw a _,⟨_,Im _ rfl,rfl,rfl⟩,fun b hb=>?_,q⟩
 have e:b=s1.heap.objs.size:=by simpa using hb
 subst e
 exact I1.fpOk (HX _) (I1.hok.fresh (HX _))
theorem yC{l:Expr}{tl:TE}(hl:PE X l tl):PI X tg l (DP X.K tl):=by
 intro pins s σ H R I h
 refine EI (hl pins s σ H _ I h) fun v s1 ⟨x,H1,I1,r1,q1⟩=>?_
 obtain⟨a,e,⟨xs,hq⟩,q⟩:=q1
 subst e
 cases r1
 obtain⟨its,rv,p,hz⟩:=I1.tuple hq
 refine Ml (show s1.heap.IsTuple a its.toArray from p) ?_
 refine⟨s1.heap.objs.size,[s1.heap.objs.size],_,_,H1,rfl,I1.kept (t':=s1.toks) fun b o e=>HN _ e,hW a _,⟨_,Im _ rfl,rfl,rfl⟩,fun b hb=>?_,q⟩
 have e:b=s1.heap.objs.size:=by simpa using hb
 subst e
 exact I1.fpOk (HX _) (I1.hok.fresh (HX _))
theorem rh{σ:St}{H:Hp}{R:It->Hp->Prop}{lo hi:Int}{t u v:Tok}{tk:Nat}(I:Inv X pins σ H s)(h1 : -(2^62)<=lo)(h2:lo<2^62)(h3 : -(2^62)<=hi)(h4:hi<2^62)
 (q:R (Hm lo (hi-lo).toNat) H):Iv (IH X.prog X.w) X.A (Og (.ref s.heap.objs.size)) (G5 X pins σ tg R) E {s with heap:=s.heap.push {cls:=.type "range", data:=.fields #[.int lo t,.int hi u,.int 1 v]},toks:=tk}:=by
 refine wpAny_pyIter_range (IsRange.new ..) (small_one h1 h2 h3 h4) ?_
 have I1:Inv X pins σ H {s with heap:=s.heap.push {cls:=.type "range", data:=.fields #[.int lo t,.int hi u,.int 1 v]},toks:=tk}:=I.kept fun b o e=>HN _ e
 refine⟨(s.heap.push {cls:=.type "range", data:=.fields #[.int lo t,.int hi u,.int 1 v]}).objs.size,[(s.heap.push {cls:=.type "range", data:=.fields #[.int lo t,.int hi u,.int 1 v]}).objs.size],_,_,H,rfl,
  I1.kept (t':=tk) fun b o e=>HN _ e,mG _ lo (hi-lo).toNat,?_,fun b hb=>?_,q⟩
 · have e1:lo+((0:Nat):Int)*1=lo:=by simp
   have e2:(((hi-lo).toNat:Nat):Int)-((0:Nat):Int)=Builtin.Range.rangeSize lo hi 1:=by rw[rangeSize_one];split<;>omega
   show IsRangeIter _ _ (lo+((0:Nat):Int)*1) ((((hi-lo).toNat:Nat):Int)-((0:Nat):Int)) 1
   rw[e1,e2]
   exact Im _ rfl
 · have e:b=(s.heap.push {cls:=.type "range", data:=.fields #[.int lo t,.int hi u,.int 1 v]}).objs.size:=by simpa using hb
   subst e
   exact I1.fpOk (HX _) (I1.hok.fresh (HX _))
noncomputable def Bu(ta:TA):TI:=fun σ H R=>ta σ H fun vs H1=>∃j:Int,vs=[.int j] /\ -(2^62)<=j/\j<2^62/\R (Hm 0 j.toNat) H1
theorem oO{a:Expr}{ta:TA}{p:Pos}(hg:Gl X "range")(hm:X.mg "range" = none)(ha:PA X [a] ta)(hs:HZ [a] X.env=[(false,eval a X.env)]:=by rfl):PI X tg (.Call (.Name "range" p) [a] [] pos) (Bu ta):=by
 intro pins s σ H R I h
 refine Call_ (gB I hg hm boot_range (JY (EI (ha pos pins s σ H _ I h) fun us s1 ⟨vs,H1,I1,r1,q1⟩=>?_) hs rfl))
 obtain⟨j,e,q1,q2,q⟩:=q1
 subst e
 cases r1 with
 | cons r rr =>
   cases rr
   obtain⟨t,rfl⟩:=r
   exact call_range_1 (rh I1 (by omega) (by omega) q1 q2 (by simpa using q))
noncomputable def DE(wi:TI)(g:TG)(tb:TS):TS:=fun D σ H=>wi σ H fun J H1=>∃W:Nat->Nat->St->Hp->Prop,(∃m,W 0 m σ H1)/\∀i m σ H,W i m σ H ->
 (J.stop i H/\D.nx σ H)\/(J.go i H/\∃N:St->Hp->Prop,(∀σ' H',N σ' H'->∃m',m'<m/\W (i+1) m' σ' H')/\∀x H',J.yld i H x H'->g x σ H' fun σ2 H2=>tb {D with nx:=N,ct:=N,bk:=D.nx} σ2 H2)
noncomputable def ff(fp:List Addr)(h:Heap):List (Addr×Obj):=fp.filterMap fun b=>(h.get? b).map fun o=>(b,o)
theorem bD{b:Addr}{o:Obj}(hb:b∈fp)(e:h.get? b=some o):(b,o)∈ff fp h:=I_.mpr ⟨b,hb,by rw[e];rfl⟩
theorem oW{p:Addr×Obj}(hp:p∈ff fp h):p.1∈fp/\h.get? p.1=some p.2:=by
 obtain⟨b,hb,e⟩:=I_.mp hp
 cases q:h.get? b with
 | none=>rw[q]at e;cases e
 | some o =>
   rw[q]at e
   have e':(b,o)=p:=Jc e
   subst e'
   exact⟨hb,q⟩
theorem Inv.pinned{σ:St}{H:Hp}(I:Inv X pins σ H s)(hf:∀b∈fp,j_ X pins H b)(ho:∀b∈fp,∃o,s.heap.get? b=some o/\∀v,o.data ≠ .cell v):Inv X (pins++ff fp s.heap) σ H s :=
 I.pins_of fun p hp=>(Ip.mp hp).elim (fun z=>I.pin p (HY _ z)) fun z=>by
  obtain⟨hb,e⟩:=oW z
  obtain⟨f0,f1,f2,_⟩:=hf p.1 hb
  obtain⟨o,e',d⟩:=ho p.1 hb
  rw[e]at e';cases e'
  exact⟨e,f0,f1,f2,d⟩
theorem Inv.unpinned{pl:List (Addr×Obj)}{σ:St}{H:Hp}(I:Inv X (pins++pl) σ H s):Inv X pins σ H s:=I.pins_of fun p hp=>I.pin p (HY _ (IK _ hp))
theorem tG{body:List Stmt}{wi:TI}{g:TG}{tb:TS}(hp:NP (IH X.prog X.w) X.A X.env X.xe)(hc:X.calm=true)(hi:PI X tg iter wi)(hg:PG X tg g)(hb:GY X body tb)
 (hs:∀x,Iz iter X.env x=pure x:=by intro _;rfl):PS X (.For tg iter body [] pos) (DE wi g tb):=by
 intro pins s σ H D I h
 refine wpAny_For (EI (hi pins s σ H _ I h) fun v s1 h1=>EI h1 fun itv s2 h2=>?_) hs
 obtain⟨it,fp,tn,J,H2,e,I2,T,st2,f2,W,⟨m0,w0⟩,turn⟩:=h2
 subst e
 have stat:∀{H':Hp},(∀b∈fp,H' b=none)->∀b∈fp,j_ X pins H' b:=fun hn b hb=>⟨hn b hb,(f2 b hb).2⟩
 refine codeAny_forLoop_any (fun n s'=>∃i σ' H',Inv X pins σ' H' s'/\tn i s'.heap/\(∀b∈fp,H' b=none)/\W i n σ' H') ?_ m0 ⟨0,σ,H2,I2,st2,fun b hb=>(f2 b hb).1,w0⟩
 rintro n s3 ⟨i,σ3,H3,I3,st3,fr3,w3⟩
 rcases turn i n σ3 H3 w3 with⟨stop,qn⟩|⟨go,N,hN,step⟩
 · refine Ky hp (EI (T.done X rfl rfl rfl hc i pins s3 σ3 H3 X.xe I3 (stat fr3) st3 stop) fun r s4 ⟨hr,I4⟩=>?_)
   subst hr
   exact L6 ⟨σ3,H3,I4,qn⟩
 · refine Ky hp (EI (T.item X rfl rfl rfl hc i pins s3 σ3 H3 X.xe I3 (stat fr3) st3 go) fun r s4 ⟨u,hr,h4⟩=>?_)
   subst hr
   refine Ky hp (EI h4 fun _ s5 ⟨x,H5,I5,r5,y5,st5,fr5⟩=>?_)
   have I5':=I5.pinned (stat fr5) (T.obj _ _ st5)
   refine Ky hp (EI (hg _ s5 σ3 H5 x u _ I5' r5 (step x H5 y5)) fun _ s6 ⟨σ6,H6,I6,q6⟩=>?_)
   refine Ky hp (EI (hb _ s6 σ6 H6 _ I6 q6) fun f s7 q7=>?_)
   have again:∀{σ7:St}{H7:Hp},Inv X (pins++ff fp s5.heap) σ7 H7 s7->N σ7 H7->∃m,m<n/\∃i σ' H',Inv X pins σ' H' s7/\tn i s7.heap/\(∀b∈fp,H' b=none)/\W i m σ' H':=fun{σ7 H7} I7 n7=>by
    obtain⟨m',hm,w7⟩:=hN σ7 H7 n7
    refine⟨m',hm,i+1,σ7,H7,I7.unpinned,T.keep _ _ _ st5 fun b hb o e=>(I7.pin (b,o) (HY _ (HY _ (bD hb e)))).1,fun b hb=>?_,w7⟩
    obtain⟨o,e,d⟩:=T.obj _ _ st5 b hb
    exact(I7.pin (b,o) (HY _ (HY _ (bD hb e)))).2.1
   cases f with
   | next=>obtain⟨σ7,H7,I7,n7⟩:=q7;exact again I7 n7
   | cont=>obtain⟨σ7,H7,I7,n7⟩:=q7;exact again I7 n7
   | brk=>obtain⟨σ7,H7,I7,q7⟩:=q7;exact⟨σ7,H7,I7.unpinned,q7⟩
   | ret v=>obtain⟨x7,σ7,H7,I7,r7,q7⟩:=q7;exact⟨x7,σ7,H7,I7.unpinned,r7,q7⟩
end
abbrev R2:=V->V->Hp->VK->Prop
noncomputable def G9(X:Cx)(f:HQ->HQ->Sem HQ)(r:R2):Prop :=
 ∀ (pins:List (Addr×Obj))(s:HU)(σ:St)(H:Hp)(x y:V)(v u:HQ)(Q:VK),Inv X pins σ H s->RelV x v->RelV y u->r x y H Q ->
   Iv (IH X.prog X.w) X.A (f v u) (EP X pins σ Q) X.xe s
noncomputable def GD(X:Cx)(f:HQ->Sem HQ)(r:V->Hp->VK->Prop):Prop :=
 ∀ (pins:List (Addr×Obj))(s:HU)(σ:St)(H:Hp)(x:V)(v:HQ)(Q:VK),Inv X pins σ H s->RelV x v->r x H Q ->
   Iv (IH X.prog X.w) X.A (f v) (EP X pins σ Q) X.xe s
noncomputable def eP(X:Cx)(f:HQ)(r:List V->Hp->VK->Prop):Prop :=
 ∀ (pins:List (Addr×Obj))(s:HU)(σ:St)(H:Hp)(xs:List V)(us:List HQ)(Q:VK),Inv X pins σ H s->cn xs us->r xs H Q ->
   Iv (IH X.prog X.w) X.A (call f us) (EP X pins σ Q) X.xe s
noncomputable def EM(r:R2)(ta tb:TE):TE:=fun σ H Q=>ta σ H fun x H1=>tb σ H1 fun y H2=>r x y H2 Q
noncomputable def EJ(r:V->Hp->VK->Prop)(ta:TE):TE:=fun σ H Q=>ta σ H fun x H1=>r x H1 Q
noncomputable def rI(C:Int->Int->Prop)(g:Int->Int->V):R2:=fun x y H Q=>∃i j,x = .int i/\y = .int j/\C i j/\Q (g i j) H
noncomputable def Fi(g:Int->Int->V):R2:=fun x y H Q=>∃i j,x = .int i/\y = .int j/\Q (g i j) H
noncomputable def rU(g:Int->V):V->Hp->VK->Prop:=fun x H Q=>∃i,x = .int i/\Q (g i) H
section
variable{X:Cx}{a b c:Expr}{ta tb tc:TE}{pos:Pos}
theorem BK(ha:PE X a ta)(hb:PE X b tb){σ:St}{H:Hp}{R:V->V->Hp->Prop}(I:Inv X pins σ H s)
 (h:ta σ H fun x H1=>tb σ H1 fun y H2=>R x y H2){f:HQ->HQ->Sem HQ}
 (hf:∀v u s2 x y H2,Inv X pins σ H2 s2->RelV x v->RelV y u->R x y H2->Iv (IH X.prog X.w) X.A (f v u) Q X.xe s2) :
 Iv (IH X.prog X.w) X.A (eval a X.env) (fun v s₁=>Iv (IH X.prog X.w) X.A (eval b X.env) (fun u s₂=>Iv (IH X.prog X.w) X.A (f v u) Q X.xe s₂) X.xe s₁) X.xe s:=by
 refine EI (ha pins s σ H _ I h) fun v s1 ⟨x,H1,I1,r1,q1⟩=>?_
 refine EI (hb pins s1 σ H1 _ I1 q1) fun u s2 ⟨y,H2,I2,r2,q2⟩=>?_
 exact hf v u s2 x y H2 I2 r1 r2 q2
theorem A9{op:Of}{r:R2}(ho:G9 X (KQ op) r)(ha:PE X a ta)(hb:PE X b tb):PE X (.BinOp a op b pos) (EM r ta tb):=by
 intro pins s σ H Q I h
 exact wpAny_BinOp (BK ha hb I h fun v u s2 x y H2 I2 rx ry q=>ho pins s2 σ H2 x y v u Q I2 rx ry q)
theorem A7{op:UnaryOp}{r:V->Hp->VK->Prop}(ho:GD X (unaryOp op) r)(ha:PE X a ta):PE X (.UnaryOp op a pos) (EJ r ta):=by
 intro pins s σ H Q I h
 exact UnaryOp_ (EI (ha pins s σ H _ I h) fun v s1 ⟨x,H1,I1,r1,q1⟩=>ho pins s1 σ H1 x v Q I1 r1 q1)
theorem Fu{f:HQ->HQ->Sem HQ}{C:Int->Int->Prop}{g:Int->Int->Int}
 (rule:∀(i j:Int)(t u:Tok)(s:HU)(Q:HQ->HU->Prop)(E:HQ->HU->Prop),C i j->Q (.int (g i j) s.toks) {s with toks:=s.toks+1}->Iv (IH X.prog X.w) X.A (f (.int i t) (.int j u)) Q E s) :
 G9 X f (rI C fun i j=>.int (g i j)):=by
 intro pins s σ H x y v u Q I rx ry h
 obtain⟨i,j,rfl,rfl,hc,q⟩:=h
 obtain⟨t,rfl⟩:=rx
 obtain⟨t',rfl⟩:=ry
 exact rule i j t t' s _ _ hc ⟨.int (g i j),H,I.tok _,⟨_,rfl⟩,q⟩
theorem C9{f:HQ->HQ->Sem HQ}{g:Int->Int->Int}
 (rule:∀(i j:Int)(t u:Tok)(s:HU)(Q:HQ->HU->Prop)(E:HQ->HU->Prop),Q (.int (g i j) s.toks) {s with toks:=s.toks+1}->Iv (IH X.prog X.w) X.A (f (.int i t) (.int j u)) Q E s) :
 G9 X f (Fi fun i j=>.int (g i j)):=by
 intro pins s σ H x y v u Q I rx ry h
 obtain⟨i,j,rfl,rfl,q⟩:=h
 obtain⟨t,rfl⟩:=rx
 obtain⟨t',rfl⟩:=ry
 exact rule i j t t' s _ _ ⟨.int (g i j),H,I.tok _,⟨_,rfl⟩,q⟩
theorem z8{f:HQ->HQ->Sem HQ}{g:Int->Int->Bool}
 (rule:∀(i j:Int)(t u:Tok)(s:HU)(Q:HQ->HU->Prop)(E:HQ->HU->Prop),Q (.bool (g i j)) s->Iv (IH X.prog X.w) X.A (f (.int i t) (.int j u)) Q E s) :
 G9 X f (Fi fun i j=>.bl (g i j)):=by
 intro pins s σ H x y v u Q I rx ry h
 obtain⟨i,j,rfl,rfl,q⟩:=h
 obtain⟨t,rfl⟩:=rx
 obtain⟨t',rfl⟩:=ry
 exact rule i j t t' s _ _ ⟨.bl (g i j),H,I,rfl,q⟩
noncomputable def zW(i j:Int):Prop:=0<=j/\j<=1000000/\i.natAbs<2^64
theorem yS:G9 X (KQ .Add) (Fi fun i j=>.int (i+j)):=C9 fun _ _ _ _ _ _ _ q=>add_int q
theorem yO:G9 X (KQ .Sub) (Fi fun i j=>.int (i-j)):=C9 fun _ _ _ _ _ _ _ q=>sub_int q
theorem vN:G9 X (KQ .Mod) (rI (fun _ j=>j≠0) fun i j=>.int (i.fmod j)):=Fu fun _ _ _ _ _ _ _ hc q=>mod_int' hc q
theorem yQ:G9 X (KQ .Pow) (rI zW fun i j=>.int (i^j.toNat)):=Fu fun _ _ _ _ _ _ _ hc q=>pow_int_small hc.1 hc.2.1 hc.2.2 q
theorem ED{f:HQ->Sem HQ}{g:Int->Int}
 (rule:∀(i:Int)(t:Tok)(s:HU)(Q:HQ->HU->Prop)(E:HQ->HU->Prop),Q (.int (g i) s.toks) {s with toks:=s.toks+1}->Iv (IH X.prog X.w) X.A (f (.int i t)) Q E s) :
 GD X f (rU fun i=>.int (g i)):=by
 intro pins s σ H x v Q I rx h
 obtain⟨i,rfl,q⟩:=h
 obtain⟨t,rfl⟩:=rx
 exact rule i t s _ _ ⟨.int (g i),H,I.tok _,⟨_,rfl⟩,q⟩
theorem xB:GD X (unaryOp .USub) (rU fun i=>.int (-i)):=ED fun _ _ _ _ _ q=>neg_int q
end
noncomputable def CZ:V->V->Bool
 | .non,.non=>true | .non,.int _=>true | .int _,.non=>true | .non,.bl _=>true | .bl _,.non=>true | .non,.str _=>true | .str _,.non=>true
 | .int _,.int _=>true | .bl _,.bl _=>true | .str _,.str _=>true | .byt _,.byt _=>true
 | .int _,.str _=>true | .str _,.int _=>true | .bl _,.str _=>true | .str _,.bl _=>true
 | _,_=>false
noncomputable def Fj:R2:=fun x y H Q=>CZ x y=true/\Q (.bl (decide (x=y))) H
noncomputable def Fg:R2:=fun x y H Q=>CZ x y=true/\Q (.bl (!decide (x=y))) H
theorem p8{i j:Int}:decide (V.int i=V.int j)=(i==j):=by
 rw[Jn]
 simp
theorem tZ{i j:Bool}:decide (V.bl i=V.bl j)=(i==j):=by
 rw[Jn]
 simp
theorem p7{i j:Str}:decide (V.str i=V.str j)=(i==j):=by
 rw[Jn]
 simp
theorem p9{i j:Array UInt8}:decide (V.byt i=V.byt j)=(i.toList==j.toList):=by
 rw[Jn]
 cases i
 cases j
 simp
section
variable{X:Cx}{a b c:Expr}{ta tb tc:TE}{pos:Pos}
theorem bh{σ:St}{H:Hp}{Q:VK}{k k':Bool}(I:Inv X pins σ H s)(q:Q (.bl k) H)(e:k=k'):EP X pins σ Q (.bool k') s:=by
 subst e
 exact⟨.bl k,H,I,rfl,q⟩
theorem dN:G9 X (Kl .Eq) Fj:=by
 intro pins s σ H x y v u Q I rx ry h
 obtain⟨hs,q⟩:=h
 cases x with
 | non =>
   cases rx
   cases y with
   | non=>cases ry;exact PySem.EqNone.eq_none_none (bh I q (by simp))
   | bl j=>cases ry;exact PySem.EqNone.eq_none_bool (bh I q (by simp))
   | int j=>obtain⟨t',rfl⟩:=ry;exact PySem.EqNone.eq_none_int (bh I q (by simp))
   | str j=>obtain⟨t',rfl⟩:=ry;exact PySem.EqNone.eq_none_str (bh I q (by simp))
   | _=>exact absurd (show false=true from hs) IF
 | bl i =>
   cases rx
   cases y with
   | non=>cases ry;exact PySem.EqNone.eq_bool_none (bh I q (by simp))
   | bl j=>cases ry;exact eq_bool (bh I q tZ)
   | str j=>obtain⟨t',rfl⟩:=ry;exact PySem.EqMixed.eq_bool_str (bh I q (by simp))
   | _=>exact absurd (show false=true from hs) IF
 | int i =>
   obtain⟨t,rfl⟩:=rx
   cases y with
   | non=>cases ry;exact PySem.EqNone.eq_int_none (bh I q (by simp))
   | int j=>obtain⟨t',rfl⟩:=ry;exact eq_int (bh I q p8)
   | str j=>obtain⟨t',rfl⟩:=ry;exact PySem.EqMixed.eq_int_str (bh I q (by simp))
   | _=>exact absurd (show false=true from hs) IF
 | str i =>
   obtain⟨t,rfl⟩:=rx
   cases y with
   | non=>cases ry;exact PySem.EqNone.eq_str_none (bh I q (by simp))
   | bl j=>cases ry;exact PySem.EqMixed.eq_str_bool (bh I q (by simp))
   | int j=>obtain⟨t',rfl⟩:=ry;exact PySem.EqMixed.eq_str_int (bh I q (by simp))
   | str j=>obtain⟨t',rfl⟩:=ry;exact eq_str (bh I q p7)
   | _=>exact absurd (show false=true from hs) IF
 | byt i =>
   obtain⟨t,rfl⟩:=rx
   cases y with
   | byt j=>obtain⟨t',rfl⟩:=ry;exact W.eq_bytes (bh I q p9)
   | _=>exact absurd (show false=true from hs) IF
 | _=>cases y<;>exact absurd (show false=true from hs) IF
theorem vL:G9 X (Kl .NotEq) Fg:=by
 intro pins s σ H x y v u Q I rx ry h
 obtain⟨hs,q⟩:=h
 cases x with
 | non =>
   cases rx
   cases y with
   | non=>cases ry;exact PySem.EqNone.ne_none_none (bh I q (by simp))
   | bl j=>cases ry;exact PySem.EqNone.ne_none_bool (bh I q (by simp))
   | int j=>obtain⟨t',rfl⟩:=ry;exact PySem.EqNone.ne_none_int (bh I q (by simp))
   | str j=>obtain⟨t',rfl⟩:=ry;exact PySem.EqNone.ne_none_str (bh I q (by simp))
   | _=>exact absurd (show false=true from hs) IF
 | bl i =>
   cases rx
   cases y with
   | non=>cases ry;exact PySem.EqNone.ne_bool_none (bh I q (by simp))
   | bl j=>cases ry;exact ne_bool (bh I q (congrArg not tZ))
   | str j=>obtain⟨t',rfl⟩:=ry;exact PySem.EqMixed.ne_bool_str (bh I q (by simp))
   | _=>exact absurd (show false=true from hs) IF
 | int i =>
   obtain⟨t,rfl⟩:=rx
   cases y with
   | non=>cases ry;exact PySem.EqNone.ne_int_none (bh I q (by simp))
   | int j=>obtain⟨t',rfl⟩:=ry;exact ne_int (bh I q (congrArg not p8))
   | str j=>obtain⟨t',rfl⟩:=ry;exact PySem.EqMixed.ne_int_str (bh I q (by simp))
   | _=>exact absurd (show false=true from hs) IF
 | str i =>
   obtain⟨t,rfl⟩:=rx
   cases y with
   | non=>cases ry;exact PySem.EqNone.ne_str_none (bh I q (by simp))
   | bl j=>cases ry;exact PySem.EqMixed.ne_str_bool (bh I q (by simp))
   | int j=>obtain⟨t',rfl⟩:=ry;exact PySem.EqMixed.ne_str_int (bh I q (by simp))
   | str j=>obtain⟨t',rfl⟩:=ry;exact ne_str (bh I q (congrArg not p7))
   | _=>exact absurd (show false=true from hs) IF
 | byt i =>
   obtain⟨t,rfl⟩:=rx
   cases y with
   | byt j=>obtain⟨t',rfl⟩:=ry;exact W.ne_bytes (bh I q (congrArg not p9))
   | _=>exact absurd (show false=true from hs) IF
 | _=>cases y<;>exact absurd (show false=true from hs) IF
theorem gu:G9 X (Kl .Lt) (Fi fun i j=>.bl (decide (i<j))):=z8 fun _ _ _ _ _ _ _ q=>lt_int q
theorem vO:G9 X (Kl .LtE) (Fi fun i j=>.bl (decide (i<=j))):=z8 fun _ _ _ _ _ _ _ q=>le_int q
theorem oU:G9 X (Kl .Gt) (Fi fun i j=>.bl (decide (j<i))):=z8 fun _ _ _ _ _ _ _ q=>gt_int q
theorem Bb:G9 X (Kl .GtE) (Fi fun i j=>.bl (decide (j<=i))):=z8 fun _ _ _ _ _ _ _ q=>ge_int q
theorem ay(b:Expr)(h:op ≠ .In:=by decide)(h2:op ≠ .NotIn:=by decide):Lr op b=false:=by
 have e1:(op==Ox.In)=false:=by cases op<;>first|rfl|exact absurd rfl h
 have e2:(op==Ox.NotIn)=false:=by cases op<;>first|rfl|exact absurd rfl h2
 cases b<;>simp[Lr,e1,e2]
theorem vI{r:R2}(ho:G9 X (Kl op) r)(ha:PE X a ta)(hb:PE X b tb)(hm:Lr op b=false):PE X (.Compare a [op] [b] pos) (EM r ta tb):=by
 intro pins s σ H Q I h
 exact wpAny_Compare1 (BK ha hb I h fun v u s2 x y H2 I2 rx ry q=>ho pins s2 σ H2 x y v u Q I2 rx ry q) hm
noncomputable def xM(t:TE):TT:=fun σ H Q=>t σ H fun x H'=>∃k,x = .bl k/\Q k H'
theorem vj{r:R2}(ho:G9 X (Kl op) r)(ha:PE X a ta)(hb:PE X b tb)(hm:Lr op b=false):PT X (.Compare a [op] [b] pos) (xM (EM r ta tb)):=by
 intro pins s σ H Q I h
 refine wpAny_isTrue_Compare1 (EI (ha pins s σ H _ I h) fun v s1 ⟨x,H1,I1,r1,q1⟩=>EI (hb pins s1 σ H1 _ I1 q1) fun u s2 ⟨y,H2,I2,r2,q2⟩ =>
  EI (ho pins s2 σ H2 x y v u _ I2 r1 r2 q2) fun c s3 ⟨z,H3,I3,r3,k,e,q3⟩=>?_) hm
 subst e
 cases r3
 exact JT ⟨H3,I3,q3⟩
noncomputable def xQ(r r':R2)(ta tb tc:TE):TE:=fun σ H Q=>ta σ H fun x H1=>tb σ H1 fun y H2=>r x y H2 fun z H3=>∃k,z = .bl k /\
 (if k=true then tc σ H3 fun w' H4=>r' y w' H4 Q else Q (.bl false) H3)
theorem rB{op':Ox}{r r':R2}(ho:G9 X (Kl op) r)(ho':G9 X (Kl op') r')(ha:PE X a ta)(hb:PE X b tb)(hc:PE X c tc)
 (hm:lastMarks [op,op'] [b,c]=false:=by with_unfolding_all rfl):PT X (.Compare a [op,op'] [b,c] pos) (xM (xQ r r' ta tb tc)):=by
 intro pins s σ H Q I h
 refine isTrue_chain (EI (ha pins s σ H _ I h) fun v s1 ⟨x,H1,I1,r1,q1⟩=>test_link (EI (hb pins s1 σ H1 _ I1 q1) fun u s2 ⟨y,H2,I2,r2,q2⟩ =>
  EI (ho pins s2 σ H2 x y v u _ I2 r1 r2 q2) fun d s3 ⟨z,H3,I3,r3,k,e,q3⟩=>?_)) hm
 subst e
 cases r3
 refine JT ?_
 cases k with
 | false =>
   obtain⟨k',e',q'⟩:=q3
   cases e'
   exact ite_ff ⟨H3,I3,q'⟩
 | true =>
   refine ite_tt (test_last (EI (hc pins s3 σ H3 _ I3 q3) fun w' s4 ⟨z',H4,I4,r4,q4⟩=>EI (ho' pins s4 σ H4 y z' u w' _ I4 r2 r4 q4) fun d' s5 ⟨z2,H5,I5,r5,k2,e2,q5⟩=>?_))
   subst e2
   cases r5
   exact JT ⟨H5,I5,q5⟩
theorem jN:(sizeLine:Nat)<2^63:=by rw[sizeLine_eq];decide
theorem vals1{x:V}(r:cn [x] us):∃u,us=[u]/\RelV x u:=by
 cases r with
 | cons r1 r2=>cases r2;exact⟨_,rfl,r1⟩
theorem vals2{x y:V}(r:cn [x,y] us):∃u w',us=[u,w']/\RelV x u/\RelV y w':=by
 cases r with
 | cons r1 r2 =>
   cases r2 with
   | cons r3 r4=>cases r4;exact⟨_,_,rfl,r1,r3⟩
theorem sN:eP X (.builtin "abs") (fun xs H Q=>∃i,xs=[.int i]/\Q (.int (if i<0 then -i else i)) H):=by
 intro pins s σ H xs us Q I r h
 obtain⟨i,rfl,q⟩:=h
 obtain⟨u,rfl,t,rfl⟩:=vals1 r
 exact call_abs_int fun u tk=>⟨.int (if i<0 then -i else i),H,I.tok _,⟨_,rfl⟩,q⟩
theorem qq(hc:X.calm=true):eP X (.builtin "max") (fun xs H Q=>∃i j,xs=[.int i,.int j]/\Q (.int (if j>i then j else i)) H):=by
 intro pins s σ H xs us Q I r h
 obtain⟨i,j,rfl,q⟩:=h
 obtain⟨u,w',rfl,⟨t,rfl⟩,⟨t',rfl⟩⟩:=vals2 r
 refine max_two_ints (I.ok.hd hc) fun h' tk k=>⟨_,H,I.kept k,?_,q⟩
 by_cases hj:j>i
 · rw[if_pos hj,if_pos hj];exact⟨_,rfl⟩
 · rw[if_neg hj,if_neg hj];exact⟨_,rfl⟩
theorem qp(hc:X.calm=true):eP X (.builtin "min") (fun xs H Q=>∃i j,xs=[.int i,.int j]/\Q (.int (if j<i then j else i)) H):=by
 intro pins s σ H xs us Q I r h
 obtain⟨i,j,rfl,q⟩:=h
 obtain⟨u,w',rfl,⟨t,rfl⟩,⟨t',rfl⟩⟩:=vals2 r
 refine min_two_ints (I.ok.hd hc) fun h' tk k=>⟨_,H,I.kept k,?_,q⟩
 by_cases hj:j<i
 · rw[if_pos hj,if_pos hj];exact⟨_,rfl⟩
 · rw[if_neg hj,if_neg hj];exact⟨_,rfl⟩
theorem qr:eP X (.type "int") (fun xs H Q=>(∃i,xs=[.int i]/\Q (.int i) H)\/∃k,xs=[.bl k]/\Q (.int (if k then 1 else 0)) H):=by
 intro pins s σ H xs us Q I r h
 rcases h with⟨i,rfl,q⟩|⟨k,rfl,q⟩
 · obtain⟨u,rfl,t,rfl⟩:=vals1 r
   exact call_int_int ⟨.int i,H,I,⟨_,rfl⟩,q⟩
 · obtain⟨u,rfl,r1⟩:=vals1 r
   cases r1
   exact call_int_bool ⟨.int (if k then 1 else 0),H,I.tok _,⟨_,rfl⟩,q⟩
end
section
variable{prog:II}{w:Ju}{A:Jz}{E:HQ->HU->Prop}{s:HU}{K:W.Frag}{x dx C f:Addr}{mA:Str->Option HQ}{name:Str}{v:HQ}
end
noncomputable def putF(f:Str)(v:V):List (Str×V)->List (Str×V)
 | []=>[(f,v)]
 | (g,x)::r=>if g=f then(g,v)::r else(g,x)::putF f v r
theorem wR.some_of{v:V}{o:Option HQ}(r:wR (some v) o):∃u,o=some u/\RelV v u:=by
 cases o with
 | none=>exact(show False from r).elim
 | some u=>exact⟨u,rfl,r⟩
section
variable{P:II}{w:Ju}{H H':Hp}{h h':Heap}{a C dx:Addr}{fs fs':List (Str×V)}
end
section
variable{X:Cx}{pins:List (Addr×Obj)}{σ:St}{H:Hp}{s:HU}{a C dx:Addr}{fs:List (Str×V)}{f:Str}{v:V}{A:Jz}{E:HQ->HU->Prop}
end
section
variable{X:Cx}{o e value:Expr}{f:Str}{pos pos' tpos:Pos}{ta tv:TE}
end
section
variable{X:Cx}{pins:List (Addr×Obj)}{σ:St}{H:Hp}{s:HU}{A:Jz}{E:HQ->HU->Prop}{Q:HQ->HU->Prop}{c:HQ}{b:Bool}
end
structure Room (k:Nat) (A:Jz):Prop where
 hd:A.handled=none
 dp:A.depth+3*k+5<recursionLimit
 un:A.units+16*k+200<Ot
 gd:A.guards=some []
theorem Room.mono{k:Nat}(r:Room k A)(h:j<=k):Room j A:=⟨r.hd,by have:=r.dp;omega,by have:=r.un;omega,r.gd⟩
theorem Room.deeper{k:Nat}(r:Room (k+1) A)(env:Env):Room k (A.deeper env) :=
 ⟨r.hd,by have:=r.dp;show A.depth+1+3*k+5<_;omega,by have:=r.un;show A.units+3+16*k+200<_;omega,r.gd⟩
theorem Room.depth{k:Nat}(r:Room k A):A.depth<recursionLimit:=by have:=r.dp;omega
theorem Room.units{k:Nat}(r:Room k A):A.units+64<Ot:=by have:=r.un;omega
noncomputable def CW:TA:=fun _ H Q=>Q [] H
noncomputable def xP(ta:TE)(tr:TA):TA:=fun σ H Q=>ta σ H fun x H1=>tr σ H1 fun xs H2=>Q (x::xs) H2
section
variable{X:Cx}{e:Expr}{es:List Expr}{te:TE}{t:TA}{pos:Pos}
theorem oT:PA X [] CW:=fun _ _ _ _ H Q I h=>Calls.spliced_nil ⟨[],H,I,.nil,h⟩
theorem gm(ha:PE X e te)(hr:PA X es t)(hs:HZ (e::es) X.env=(false,eval e X.env)::HZ es X.env:=by rfl):PA X (e::es) (xP te t):=by
 intro pos pins s σ H Q I h
 rw[hs]
 show Iv _ _ (spliced ((false,eval e X.env)::JR pos (HZ es X.env))) _ _ s
 refine Calls.spliced_cons (EI (ha pins s σ H _ I h) fun u s1 ⟨x,H1,I1,r1,q1⟩=>?_)
 exact EI (hr pos pins s1 σ H1 _ I1 q1) fun us s2 ⟨xs,H2,I2,r2,q2⟩=>⟨x::xs,H2,I2,.cons r1 r2,q2⟩
noncomputable def Dt(t:TA):TE:=fun σ H Q=>t σ H fun xs H1=>xs.length<=sizeLine/\∀p,H1 p=none->Q (.ref p) (EB H1 p (.tup xs))
noncomputable def DA(t:TA):TE:=fun σ H Q=>t σ H fun xs H1=>xs.length<=sizeLine/\∀p,H1 p=none->Q (.ref p) (EB H1 p (.lst xs))
theorem yG{x1}(h:PA X es t):PE X (.Tuple es x1 pos) (Dt t):=by
 intro pins s σ H Q I hq
 refine wpAny_Tuple_spliced (EI (h pos pins s σ H _ I hq) fun us s1 ⟨xs,H1,I1,r,z,q⟩=>⟨by rw[<- r.length];exact z,?_⟩)
 have hf:H1 s1.heap.objs.size=none:=I1.hok.fresh (HX _)
 refine⟨.ref s1.heap.objs.size,EB H1 s1.heap.objs.size (.tup xs),I1.laid (t':=s1.toks) (fun b u e=>HN _ e) (HX _) ?_,rfl,q _ hf⟩
 exact⟨z,us,r,qD.new _ _⟩
theorem yJ(h:PA X es t):PE X (.List es pos) (DA t):=by
 intro pins s σ H Q I hq
 refine wpAny_List_spliced (EI (h pos pins s σ H _ I hq) fun us s1 ⟨xs,H1,I1,r,z,q⟩=>⟨by rw[<- r.length];exact z,?_⟩)
 have hf:H1 s1.heap.objs.size=none:=I1.hok.fresh (HX _)
 refine⟨.ref s1.heap.objs.size,EB H1 s1.heap.objs.size (.lst xs),I1.laid (t':=s1.toks) (fun b u e=>HN _ e) (HX _) ?_,rfl,q _ hf⟩
 exact⟨z,us,0,r,Im _ rfl⟩
end
abbrev Sp:=List V->Hp->VK->XK->Prop
abbrev Hw:=List Env->Hp->HU->XK->HQ->HU->Prop
structure Env0 (P:II) (w:Ju) (K:W.Frag) (mg:Str->Option HQ) (base:Heap) (A:Jz) (outer:List Env) (s:HU) (H:Hp):Prop where
 frames:A.frames=some outer
 mod:Mod K mg base
 bs:∀b o,base.get? b=some o->s.heap.get? b=some o/\H b=none
 bsz:base.objs.size<=s.heap.objs.size
 funs:s.heap.FunFrames base outer
 frf:∀b∈frs outer,H b=none
 hok:Hu P w H s.heap
 bare:Ny s.gens
noncomputable def CE(outer:List Env)(P:II)(w:Ju)(H:Hp)(s:HU)(Q:VK)(u:HQ)(s':HU):Prop :=
 ∃v H',s'.os=s.os/\Ny s'.gens/\Un (frs outer) [] H H' s.heap s'.heap/\Hu P w H' s'.heap/\RelV v u/\Q v H'
noncomputable def CR(CX:Hw)(outer:List Env)(P:II)(w:Ju)(H:Hp)(s:HU)(Q:VK)(E:XK)(r:Oh)(s':HU):Prop :=
 match r with
 | .ok (.ret u)=>CE outer P w H s Q u s'
 | .ok _=>False
 | .error e=>CX outer H s E e s'
structure FnOk (P:II) (w:Ju) (K:W.Frag) (mg:Str->Option HQ) (base:Heap) (CX:Hw) (k:Nat) (f:Addr) (fd:KH) (ps:List Str) (sp:Sp):Prop where
 len:∀vs H Q E,sp vs H Q E->vs.length=ps.length
 run:∀(A:Jz)(outer:List Env)(s:HU)(H:Hp)(args:Args)(us:List HQ)(vs:List V)(Q:VK)(E:XK),Room k A->Env0 P w K mg base A outer s H->Oi s fd args (ps.zip us)->cn vs us->sp vs H Q E ->
  Km (IH P w) A (.call (.ref f) args) (CR CX outer P w H s Q E) s
section
variable{X:Cx}{pins:List (Addr×Obj)}{σ:St}{H:Hp}{s s':HU}
theorem Inv.env0(I:Inv X pins σ H s):Env0 X.prog X.w X.K X.mg X.base X.A X.stack s H :=
 ⟨I.ok.frames,I.ok.mod,I.bs,IT I.ok.bsz I.sz,I.stack,I.stkFree,I.hok,I.bare⟩
theorem Inv.after{Q:VK}(I:Inv X pins σ H s)(h:CE X.stack X.prog X.w H s Q u s'):EP X pins σ Q u s':=by
 obtain⟨v,H',os,bare,un,hok,r,q⟩:=h
 obtain⟨hh,g,d,t,os'⟩:=s'
 obtain rfl:os'=s.os:=os
 exact⟨v,H',I.call (h':=hh) (g':=g) (d':=d) (t':=t) (ch:=[]) un hok bare (fun b z=>absurd z (by simp)),r,q⟩
end
noncomputable def AQ(sp:Sp)(dvs:List V)(E:XK)(t:TA):TE:=fun σ H Q=>t σ H fun vs H1=>sp (vs++dvs) H1 Q E
noncomputable def Binds(K:W.Frag)(fd:KH)(ps:List Str)(ds:List HQ):Prop :=
 ∀(s:HU)(us:List HQ),K.In s.heap->(us++ds).length=ps.length->Oi s fd ⟨us,[]⟩ (ps.zip (us++ds))
theorem Binds.all{K:W.Frag}{ps:List Str}(h:∀us:List HQ,us.length=ps.length->bindArgs fd ⟨us,[]⟩=pure (ps.zip us)):Binds K fd ps []:=fun s us _ hl=>by
 rw[Kc]at hl ⊢
 exact .of_eq (h us hl)
noncomputable def qC(CX:Hw)(X:Cx)(E:XK):Prop:=∀(pins:List (Addr×Obj))(σ:St)(H:Hp)(s:HU)(e:HQ)(s':HU),Inv X pins σ H s->CX X.stack H s E e s'->X.xe e s'
section
variable{X:Cx}{CX:Hw}{k:Nat}{f C:Addr}{fd:KH}{ps:List Str}{sp:Sp}{dvs:List V}{ds:List HQ}{E:XK}{x m:Str}{p pos apos:Pos}{e o:Expr}{es:List Expr}{ta:TE}{t:TA}
theorem yb{σ:St}{H:Hp}{Q:VK}{vs:List V}(F:FnOk X.prog X.w X.K X.mg X.base CX k f fd ps sp)(hr:Room k X.A)(hb:Binds X.K fd ps ds)(hd:cn dvs ds)(hx:qC CX X E)
 (I:Inv X pins σ H s)(r:cn vs us)(h:sp (vs++dvs) H Q E):Iv (IH X.prog X.w) X.A (call (.ref f) us) (EP X pins σ Q) X.xe s:=by
 have r2:cn (vs++dvs) (us++ds):=r.append hd
 have hl:(us++ds).length=ps.length:=by rw[<- r2.length];exact F.len _ _ _ _ h
 refine wpAny_call (Mm (F.run X.A X.stack s H ⟨us,[]⟩ (us++ds) (vs++dvs) Q E hr I.env0 (hb s us I.kIn hl) r2 h) fun r s' hq=>?_)
 cases r with
 | error e=>exact hx pins σ H s e s' I hq
 | ok fl =>
   cases fl with
   | ret u=>exact I.after hq
   | next=>exact JL hq
   | brk=>exact JL hq
   | cont=>exact JL hq
theorem kH(F:FnOk X.prog X.w X.K X.mg X.base CX k f fd ps sp)(hr:Room k X.A)(hg:Gl X x)(hm:X.mg x=some (.ref f))(hk:W.keepIn X.K (.ref f)=true)(hb:Binds X.K fd ps ds)(hd:cn dvs ds)(hx:qC CX X E)
 (ha:PA X (e::es) t)(hdb:(x==("__debug__" : Str))=false:=by decide)(he:HZ (e::es) X.env=(false,eval e X.env)::HZ es X.env:=by rfl)(hpl:(JR pos (HZ es X.env)).any (·.1)=false:=by rfl) :
 PE X (.Call (.Name x p) (e::es) [] pos) (AQ sp dvs E t):=by
 intro pins s σ H Q I h
 refine KR (pE I hg hm ?_ hdb)
 refine W.callWith_K (h₀:=X.base) I.ok.mod.kin hk (EI (ha pos pins s σ H _ I h) fun us s1 ⟨vs,H1,I1,r,q⟩=>⟨I1.kIn,?_⟩) he hpl
 exact yb F hr hb hd hx I1 r q
end
noncomputable def PK(X:Cx)(kws:List L7)(t:TA):Prop :=
 ∀(pos:Pos)(pins:List (Addr×Obj))(s:HU)(σ:St)(H:Hp)(Q:List V->Hp->Prop),Inv X pins σ H s->t σ H Q->Iv (IH X.prog X.w) X.A (evalAll ((Nm pos (LC kws X.env)).map (·.2))) (AP X pins σ Q) X.xe s
section
variable{X:Cx}{CX:Hw}{k:Nat}{f C:Addr}{fd:KH}{ps ks:List Str}{sp:Sp}{E:XK}{x m:Str}{p pos apos kpos:Pos}{e o:Expr}{es:List Expr}{kws:List L7}{te ta:TE}{t tk:TA}{nm:Option Str}
theorem yB:PK X [] CW:=fun _ _ _ _ H Q I h=>wpAny_evalAll_nil ⟨[],H,I,.nil,h⟩
theorem vz(ha:PE X e te)(hr:PK X kws t):PK X (⟨nm,e,kpos⟩::kws) (xP te t):=by
 intro pos pins s σ H Q I h
 show Iv _ _ (evalAll ((do let v <- eval e X.env;MG pos;pure v)::(Nm pos (LC kws X.env)).map (·.2))) _ _ s
 refine wpAny_evalAll_cons (HJ (EI (ha pins s σ H _ I h) fun u s1 ⟨x,H1,I1,r1,q1⟩=>HJ (JI (H_ ?_))))
 exact EI (hr pos pins s1 σ H1 _ I1 q1) fun us s2 ⟨xs,H2,I2,r2,q2⟩=>⟨x::xs,H2,I2,.cons r1 r2,q2⟩
variable{g:List HQ->List HQ->List HQ}{gV:List V->List V->List V}
end
structure FnScope (N P:List Str) (sc:Scope):Prop where
 kind:sc.kind = .function
 co:sc.isCoroutine=false
 gen:sc.isGenerator=false
 nd:N.Nodup
 pre:N.take P.length=P
 par:∀x∈P,sc.names.lookup x=some .local\/sc.names.lookup x=some .cell
 nofree:∀y∈sc.names,y.2 ≠ .free
theorem jW{kindOf:Str->Option Ls}{x:Str}:∀{binds:List (Str×HQ)}{m:Str->Option HQ},(∀v,(x,v)∉binds)->bindL kindOf binds m x=m x
 | [],_,_=>rfl
 | (n,v)::r,m,h=>by
   unfold bindL
   rw[jW fun w hw=>h w (HK _ hw)]
   split
   · have:x≠n:=by rintro rfl;exact h v HM
     simp[this]
   · rfl
theorem jY{kindOf:Str->Option Ls}{x:Str}:∀{binds:List (Str×HQ)}{m:Str->Option HQ},(∀v,(x,v)∉binds)->bindC kindOf binds m x=m x
 | [],_,_=>rfl
 | (n,v)::r,m,h=>by
   unfold bindC
   rw[jY fun w hw=>h w (HK _ hw)]
   split
   · rfl
   · have:x≠n:=by rintro rfl;exact h v HM
     simp[this]
theorem jX{kindOf:Str->Option Ls}{x:Str}{v:HQ}:∀{P:List Str}{vs:List HQ}{i:Nat}{m:Str->Option HQ},P.Nodup->P[i]?=some x->vs[i]?=some v->kindOf x=some .local ->
 bindL kindOf (P.zip vs) m x=some v
 | [],_,_,_,_,h,_,_=>by simp at h
 | _::_,[],_,_,_,_,h,_=>by simp at h
 | p::P,w::vs,0,m,nd,h1,h2,hk=>by
   simp at h1 h2;subst h1;subst h2
   show bindL kindOf ((p,w)::P.zip vs) m p=_
   unfold bindL
   rw[jW fun v hv=>(Kn.mp nd).1 (M9 hv).1,if_pos hk]
   simp
 | p::P,w::vs,i+1,m,nd,h1,h2,hk=>by
   show bindL kindOf ((p,w)::P.zip vs) m x=_
   unfold bindL
   exact jX (i:=i) (Kn.mp nd).2 (by simpa using h1) (by simpa using h2) hk
theorem jZ{kindOf:Str->Option Ls}{x:Str}{v:HQ}:∀{P:List Str}{vs:List HQ}{i:Nat}{m:Str->Option HQ},P.Nodup->P[i]?=some x->vs[i]?=some v->kindOf x≠some .local ->
 bindC kindOf (P.zip vs) m x=some v
 | [],_,_,_,_,h,_,_=>by simp at h
 | _::_,[],_,_,_,_,h,_=>by simp at h
 | p::P,w::vs,0,m,nd,h1,h2,hk=>by
   simp at h1 h2;subst h1;subst h2
   show bindC kindOf ((p,w)::P.zip vs) m p=_
   unfold bindC
   rw[jY fun v hv=>(Kn.mp nd).1 (M9 hv).1,if_neg hk]
   simp
 | p::P,w::vs,i+1,m,nd,h1,h2,hk=>by
   show bindC kindOf ((p,w)::P.zip vs) m x=_
   unfold bindC
   exact jZ (i:=i) (Kn.mp nd).2 (by simpa using h1) (by simpa using h2) hk
noncomputable def start(N:List Str)(vs:List V):St:=vs.map some++IC (N.length-vs.length) none
noncomputable def qG(CX:Hw)(P:II)(w:Ju)(K:W.Frag)(mg:Str->Option HQ)(base:Heap)(N:List Str)(qual:Str)(scope:Scope)(f:Addr)(cd:HQ)(A:Jz)(outer:List Env)(s:HU)(H:Hp)(E:XK):Cx where
 prog:=P
 w:=w
 K:=K
 mg:=mg
 base:=base
 A:=A.deeper (M_ qual scope s.heap.objs.size f cd)
 N:=N
 s₀:=s
 H₀:=H
 env:=M_ qual scope s.heap.objs.size f cd
 outer:=outer
 stack:=M_ qual scope s.heap.objs.size f cd::outer
 ex:=[]
 calm:=true
 fn:=fun _=>true
 pn:=[]
 xe:=fun e s'=>Iv (IH P w) (A.deeper (M_ qual scope s.heap.objs.size f cd)) (leaving (M_ qual scope s.heap.objs.size f cd) e) (fun _ s''=>CX outer H s E e s'') (fun e' s''=>CX outer H s E e' s'') s'
theorem l_{sc:Scope}(h:sc.names.lookup x=some .cell):∃c,(J5 n sc.names []).lookup x=some c:=by
 have q:=W.cellsFrom_some sc.names n [] (.inl h)
 exact Kz.mp q
theorem pO{CX:Hw}{K:W.Frag}{base:Heap}{N ps:List Str}{f:Addr}{cd:HQ}{outer:List Env}{s1:HU}{H:Hp}{E:XK}{vs:List V}
 (S:FnScope N ps scope)(hd:A.handled=none)(e0:Env0 P w K mg base A outer s H)(hl:vs.length=ps.length)(r:cn vs us)
 (x:InCallC s s.heap.objs.size (bindL (M_ qual scope s.heap.objs.size f cd).kindOf (ps.zip us) fun _=>none) (J5 (s.heap.objs.size+1) scope.names []) (bindC (M_ qual scope s.heap.objs.size f cd).kindOf (ps.zip us) fun _=>none) s1) :
 Inv (qG CX P w K mg base N qual scope f cd A outer s H E) [] (start N vs) H s1:=by
 have hpl:ps.length<=N.length:=by have:=congrArg List.length S.pre;rw[JH]at this;omega
 obtain⟨h1,tk,rfl,hk⟩:=x.done
 have noA:∀b:Addr,b∉(qG CX P w K mg base N qual scope f cd A outer s H E).ex:=fun b z=>absurd (show b∈([]:List Addr)from z) (by simp)
 refine⟨⟨e0.mod,S.kind,rfl,rfl,HX _,fun y z c h1 h2=>?_,fun y hy=>?_,fun y c _ h=>?_,fun _=>hd,Jz.frames_deeper e0.frames,.inr ⟨rfl,rfl⟩,fun b z=>absurd z (noA b),e0.bs,e0.bsz,fun b _ _=>noA b,fun b z=>absurd z (noA b),e0.funs,e0.frf⟩,
  rfl,e0.bare,Un.kept hk,⟨_,x.toInCall.ns,fun i y v h1 h2 h3=>?_⟩,fun y c h=>⟨_,x.cell y c h⟩,e0.hok.fresh (HX _),fun y c h=>?_,fun p hp=>absurd (show p∈([]:List (Addr×Obj))from hp) (by simp),e0.hok.kept hk,?_⟩
 · exact name_of_addr x.apart (Jt h1) (Jt h2)
 · have hy:scope.names.lookup y=some .cell\/scope.names.lookup y=some .free:=hy
   rcases hy with hy|hy
   · exact l_ hy
   · exact absurd rfl (S.nofree _ (Jt hy))
 · exact M5 (x.above y c (Jt h))
 · have hi:i<vs.length:=by
     unfold start at h2
     by_cases hi:i<vs.length
     · exact hi
     · rw[Kp (by simpa using hi)]at h2
       rw[Lu]at h2
       split at h2<;>cases h2
   have ha:vs[i]?=some v:=by
    unfold start at h2
    rw[Ka (by simpa using hi),Jd]at h2
    cases e:vs[i]? with
    | none=>rw[e]at h2;cases h2
    | some a=>rw[e]at h2;cases h2;rfl
   obtain⟨u,hu,rv⟩:=r.get ha
   have hp:ps[i]?=some y:=by
    rw[<- S.pre,List.getElem?_take_of_lt (by omega)];exact h1
   have ndP:ps.Nodup:=by rw[<- S.pre];exact S.nd.sublist (List.take_sublist _ _)
   refine⟨u,rv,?_⟩
   rcases S.par y (Ki hp)with k|k
   · exact .inl ⟨k,jX ndP hp hu k⟩
   · obtain⟨c,e⟩:=l_ (n:=s.heap.objs.size+1) k
     refine .inr ⟨.inl k,c,e,?_⟩
     have q:=x.cell y c e
     rw[jZ ndP hp hu (by show scope.names.lookup y≠_;rw[k];decide)]at q
     exact q
 · exact e0.hok.fresh (M5 (x.above y c (Jt h)))
 · unfold start
   show _=N.length
   rw[Ic,HW,KZ]
   omega
theorem BE{CX:Hw}{K:W.Frag}{base:Heap}{k:Nat}{f:Addr}{name:Str}{params:Arguments}{body:List Stmt}{dV kV doc pm cdv ct oc:HQ}{an od:Option Addr}
 {osl:Array (Option HQ)}{N ps:List Str}{sp:Sp}(lk:K.lookup f=some ⟨oc,od,.func (W.fnOf name qual params body scope dV kV doc pm an cdv ct),osl⟩)(hcd:W.codeIn K cdv qual=true)(S:FnScope N ps scope)
 (len:∀vs H Q E,sp vs H Q E->vs.length=ps.length)
 (hbody:∀(A:Jz)(outer:List Env)(s:HU)(H:Hp)(vs:List V)(Q:VK)(E:XK),Room k (A.deeper (M_ qual scope s.heap.objs.size f cdv))->sp vs H Q E ->
  ∃t,GY (qG CX P w K mg base N qual scope f cdv A outer s H E) body t/\t {nx:=fun _ H'=>Q .non H',rt:=Q} (start N vs) H) :
 FnOk P w K mg base CX (k+1) f (W.fnOf name qual params body scope dV kV doc pm an cdv ct) ps sp:=by
 refine⟨len,fun A outer s H args us vs Q E hr e0 hb r hsp=>?_⟩
 have hl:=len _ _ _ _ hsp
 have KX:K.In s.heap:=e0.mod.kin.keeps fun b o e=>(e0.bs b o e).1
 have lim:s.heap.NoLimit:=e0.mod.nolimit.keeps fun b o e=>(e0.bs b o e).1
 have hkind:∀y∈ps.zip us,scope.names.lookup y.1=some .local\/(scope.names.lookup y.1=some .cell/\((J5 (s.heap.objs.size+1) scope.names []).lookup y.1).isSome=true):=fun⟨n,v⟩ hy=>by
  rcases S.par n (M9 hy).1 with q|q
  · exact .inl q
  · exact .inr ⟨q,W.cellsFrom_some _ _ _ (.inl q)⟩
 refine codeAny_call_function hr.depth (KX _ _ lk) rfl S.co S.gen rfl (W.codeRec_of KX hcd) (hb _ _ _ _ ?_)
 refine wpAny_newFunctionEnv_cells S.kind hkind fun env he s1 x=>?_
 subst he
 refine⟨lim.keeps x.toInCall.keep,codeAny_func ?_⟩
 obtain⟨t,ht,hq⟩:=hbody A outer s H vs Q E (hr.deeper _) hsp
 have I:Inv (qG CX P w K mg base N qual scope f cdv A outer s H E) [] (start N vs) H s1:=pO S hr.hd e0 hl r x
 refine IL (ht [] s1 (start N vs) H _ I hq) (fun fl s' hs=>?_) fun e s' hs=>hs
 have fin:∀{σ':St}{H':Hp}{v:V}{u:HQ},Inv (qG CX P w K mg base N qual scope f cdv A outer s H E) [] σ' H' s'->RelV v u->Q v H'->CE outer P w H s Q u s' :=
  fun{σ' H' v u} J rv q=>⟨v,H',J.os,J.bare,J.base,J.hok,rv,q⟩
 cases fl with
 | ret u =>
   obtain⟨v,σ',H',J,rv,q⟩:=hs
   exact fin J rv q
 | next =>
   obtain⟨σ',H',J,q⟩:=hs
   exact fin (v:=V.non) (u:=L0) J rfl q
 | brk =>
   obtain⟨_,_,_,q⟩:=hs
   exact JL q
 | cont =>
   obtain⟨_,_,_,q⟩:=hs
   exact JL q
section
variable{X:Cx}{x:Str}{p pos:Pos}{e:Expr}{es:List Expr}{t:TA}{id T:String}{r:List V->Hp->VK->Prop}
noncomputable def EQ(r:List V->Hp->VK->Prop)(t:TA):TE:=fun σ H Q=>t σ H fun vs H1=>r vs H1 Q
theorem rK(hc:eP X (.builtin id) r)(hg:Gl X x)(hm:X.mg x=none)(hv:Ln x=some (.builtin id))(ha:PA X (e::es) t)(hn:x ≠ "__name__" := by decide)(hdb:(x==("__debug__" : Str))=false:=by decide)
 (he:HZ (e::es) X.env=(false,eval e X.env)::HZ es X.env:=by rfl)(hpl:(JR pos (HZ es X.env)).any (·.1)=false:=by rfl):PE X (.Call (.Name x p) (e::es) [] pos) (EQ r t):=by
 intro pins s σ H Q I h
 refine KR (gB I hg hm hv ?_ hn hdb)
 exact PyProof.Rows.callWith_builtin1 (EI (ha pos pins s σ H _ I h) fun us s1 ⟨vs,H1,I1,r1,q1⟩=>hc pins s1 σ H1 vs us Q I1 r1 q1) he hpl
theorem oQ(hc:eP X (.type T) r)(hg:Gl X x)(hm:X.mg x=none)(hv:Ln x=some (.type T))(ha:PA X (e::es) t)(hn:x ≠ "__name__" := by decide)(hdb:(x==("__debug__" : Str))=false:=by decide)
 (he:HZ (e::es) X.env=(false,eval e X.env)::HZ es X.env:=by rfl)(hpl:(JR pos (HZ es X.env)).any (·.1)=false:=by rfl):PE X (.Call (.Name x p) (e::es) [] pos) (EQ r t):=by
 intro pins s σ H Q I h
 refine KR (gB I hg hm hv ?_ hn hdb)
 exact JY (EI (ha pos pins s σ H _ I h) fun us s1 ⟨vs,H1,I1,r1,q1⟩=>hc pins s1 σ H1 vs us Q I1 r1 q1) he hpl
end
end L2
variable{H H' F F' F₀ H₀:L2.Hp}{v:L2.V}{X:L2.Cx}{σ:L2.St}{vs:List L2.V}{kvs:List (List L2.Hg×L2.V)}
namespace HT
open PySem PyProof.Rows
section
open PySem.SeqAt
open PySem.AutoSeq1 (wpAny_loadPart')
open PySem.MeetsSeq PySem.MeetsSeq2 PySem.MeetsSeq3
end
section
variable{prog:II}{w:Ju}{A:Jz}{E:HQ->HU->Prop}{s:HU}
theorem cat_tup{t b:Addr}{vs ws:List HQ}(ht:IsTup s.heap t vs.toArray)(hb:IsTup s.heap b ws.toArray)(hv:vs≠[])
 (h1:ws=[]->Q (.ref t) s)(h2:ws≠[]->Q (.ref s.heap.objs.size) {s with heap:=s.heap.push {cls:=.type "tuple", data:=.seq (vs++ws).toArray}})
 (hsz:vs.length+ws.length<=sizeLine):Iv (IH prog w) A (KQ .Add (.ref t) (.ref b)) Q E s:=by
 obtain⟨⟨cls,dd,data,sl⟩,ho,hc,n,hd⟩:=id ht
 obtain⟨⟨cls2,dd2,data2,sl2⟩,ho2,hc2,n2,hd2⟩:=id hb
 simp only at hc hd hc2 hd2
 subst hc hd hc2 hd2
 have e:vs.toArray++ws.toArray=(vs++ws).toArray:=by simp
 by_cases hw:ws=[]
 · exact N3 ⟨_,ho,rfl⟩ ⟨_,ho2,rfl⟩ MP NQ Lz Lv (Lo _ _)
     (tuple_addW1 t b vs.toArray ws.toArray n n2 dd dd2 sl sl2 (by simpa using hv) (by simp[hw])) ⟨ho,ho2,h1 hw⟩
 · refine N3 ⟨_,ho,rfl⟩ ⟨_,ho2,rfl⟩ MP NQ Lz Lv (Lo _ _)
     (tuple_addW2 t b vs.toArray ws.toArray n n2 dd dd2 sl sl2 (by simpa using hv) (by simpa using hw) (by rw[Il,Il];exact hsz)) ⟨ho,ho2,?_⟩
   rw[e]
   exact h2 hw
noncomputable def sIx(n d:Nat):Option Int->Nat
 | none=>d
 | some v=>if v<0 then(v+(n:Int)).toNat else min v.toNat n
theorem sIx_none(n d:Nat):sIx n d none=d:=rfl
theorem sIx_nat(n d k:Nat):sIx n d (some (k:Int))=min k n:=by
 show(if(k:Int)<0 then((k:Int)+(n:Int)).toNat else min (k:Int).toNat n)=min k n
 rw[if_neg (by omega),Jo]
theorem x_(n d:Nat)(hd:d<=n)(o:Option Int):sIx n d o<=n:=by
 cases o with
 | none=>exact hd
 | some v =>
   show(if v<0 then(v+(n:Int)).toNat else min v.toNat n)<=n
   by_cases hv:v<0
   · rw[if_pos hv];omega
   · rw[if_neg hv];exact Nat.min_le_right _ _
theorem qm(v:Int)(n d:Nat):(if v<0 then max (v+(n:Int)) 0 else min v (n:Int))=((sIx n d (some v):Nat):Int):=by
 show(if v<0 then max (v+(n:Int)) 0 else min v (n:Int))=(((if v<0 then(v+(n:Int)).toNat else min v.toNat n):Nat):Int)
 by_cases hv:v<0
 · simp only[if_pos hv];omega
 · simp only[if_neg hv];omega
theorem nl(lo hi:Option Int)(n:Nat):Ld lo hi 1 (n:Int)=(((sIx n 0 lo:Nat):Int),((sIx n n hi:Nat):Int)):=by
 have h1:¬((1:Int)<0):=by omega
 unfold Ld
 simp only[h1,if_false]
 refine Prod.ext ?_ ?_
 · cases lo with
   | none=>rfl
   | some v=>exact qm v n 0
 · cases hi with
   | none=>rfl
   | some v=>exact qm v n n
theorem mX(i j:Nat):Kv (i:Int) (j:Int) 1=j-i:=by
 unfold Kv
 have h1:(1:Int)>0:=by omega
 simp only[h1,if_true,Int.ediv_one]
 split<;>omega
theorem ib{v:HQ}{o:Option Int}{Q:Option Int->HU->Prop}(p:NR v o)(h:Q o s):Iv (IH prog w) A (Builtin.Slice.slicePartIndex v) Q E s:=by
 cases p with
 | none=>exact slicePart_none h
 | int i t=>exact slicePart_int h
theorem sliceApplied_gen{sl:Addr}{vl vu:HQ}{lo hi:Option Int}{Q:Int×Int×Nat->HU->Prop}(hs:s.heap.IsSliceOf sl vl vu .none)(pl:NR vl lo)(pu:NR vu hi)
 (h:Q (((sIx n 0 lo:Nat):Int),1,sIx n n hi-sIx n 0 lo) s):Iv (IH prog w) A (Mi (.ref sl) (pure (n:Int))) Q E s:=by
 obtain⟨os,hos,hcs,hds⟩:=id hs
 unfold Mi Builtin.Slice.sliceFields
 refine HJ (HJ (Kg hos hds (x:=vl) rfl (HJ (Kg hos hds (x:=vu) rfl (HJ (Kg hos hds (x:=.none) rfl (H_ ?_)))))))
 refine HJ (slicePart_none ?_)
 show Iv _ _ (if((1:Int)==0)=true then _ else _) _ _ s
 rw[if_neg (by decide)]
 refine HJ (ib pl (HJ (ib pu (HJ (H_ ?_)))))
 show Iv _ _ (match Ld lo hi 1 (n:Int)with|(lo,hi)=>pure (lo,(1:Int),Kv lo hi 1)) _ _ s
 rw[nl lo hi n]
 show Iv _ _ (pure (((sIx n 0 lo:Nat):Int),(1:Int),Kv ((sIx n 0 lo:Nat):Int) ((sIx n n hi:Nat):Int) 1)) _ _ s
 rw[mX]
 exact H_ h
theorem rF(xs:Array HQ)(i k:Nat):((IV k).filterMap fun(m:Nat)=>xs[((i:Int)+(m:Int)*1).toNat]?).toArray=((xs.toList.drop i).take k).toArray:=by
 have e:(fun(m:Nat)=>xs[((i:Int)+(m:Int)*1).toNat]?)=fun m=>xs[i+m]?:=by
  funext m
  have:((i:Int)+(m:Int)*1).toNat=i+m:=by omega
  rw[this]
 rw[e]
 have:=pick_run xs i k
 rw[List.filterMap_map]at this
 have e2:((fun x=>xs[x]?) ∘ fun x=>i+x)=fun m=>xs[i+m]?:=rfl
 rw[e2]at this
 rw[this]
theorem getItem_tuple_cut{t sl:Addr}{items:Array HQ}{vl vu:HQ}{lo hi:Option Int}(ht:IsTup s.heap t items)(hs:s.heap.IsSliceOf sl vl vu .none)(pl:NR vl lo)(pu:NR vu hi)
 (hw:¬(sIx items.size 0 lo=0/\sIx items.size items.size hi=items.size))
 (h:Q (.ref s.heap.objs.size) {s with heap:=s.heap.push {cls:=.type "tuple", data:=.seq ((items.toList.drop (sIx items.size 0 lo)).take (sIx items.size items.size hi-sIx items.size 0 lo)).toArray}})
 (hsz:items.size<=sizeLine):Iv (IH prog w) A (MI (.ref t) (.ref sl)) Q E s:=by
 have htake:sizeOk (.seq ((items.toList.drop (sIx items.size 0 lo)).take (sIx items.size items.size hi-sIx items.size 0 lo)).toArray):=by
  show((items.toList.drop (sIx items.size 0 lo)).take (sIx items.size items.size hi-sIx items.size 0 lo)).toArray.size<=sizeLine
  rw[Il,JH,KM,KG]
  omega
 have hj:sIx items.size items.size hi<=items.size:=x_ _ _ (HX _) hi
 obtain⟨os,hos,hcs,hds⟩:=id hs
 have hTs:s.TypeIs (.ref sl) "slice" := ⟨os,hos,hcs⟩
 unfold MI
 try with_reducible refine J_ ?_
 first|refine HJ (H_ ?_)|skip
 refine HJ (Mz ht.typeIs (by decide) ?_)
 refine HJ (JJ (name:=HG "__getitem__") ht.typeIs Je
  (Kr Je ht.typeIs entry_tuple_getitem ?_ (args_tuple_getitem _ _)))
 show Iv _ _ (Mj (.ref t) >>= _) _ _ s
 refine HJ (tupleItemsOf_ ht ?_)
 refine HJ (N4 hTs ?_)
 rw[if_pos (by decide)]
 refine HJ (sliceApplied_gen hs pl pu ?_)
 have hno:¬((((sIx items.size 0 lo:Nat):Int)==0&&(1:Int)==1&&(sIx items.size items.size hi-sIx items.size 0 lo)==items.size)=true):=by
  intro q
  rw[Li,Li]at q
  have q1:((sIx items.size 0 lo:Nat):Int)=0:=eq_of_beq q.1.1
  have q2:sIx items.size items.size hi-sIx items.size 0 lo=items.size:=eq_of_beq q.2
  exact hw ⟨by omega,by omega⟩
 show Iv _ _ (if(((sIx items.size 0 lo:Nat):Int)==0&&(1:Int)==1&&(sIx items.size items.size hi-sIx items.size 0 lo)==items.size)=true then _ else _) _ _ s
 rw[if_neg hno,rF]
 first
  | exact HJ (m:=KA _) (Jg (H_ ⟨_,rfl,H_ h⟩) htake)
  | exact HJ (m:=KA _) (Jg (HJ (H_ (H_ ⟨_,rfl,H_ h⟩))) htake)
  | exact HJ (HJ (m:=KA _) (Jg (H_ (H_ ⟨_,rfl,H_ h⟩)) htake))
  | exact HJ (HJ (m:=KA _) (Jg (H_ ⟨_,rfl,H_ h⟩) htake))
end
end HT
namespace L2
abbrev TO:=St->Hp->(Option Int->Hp->Prop)->Prop
noncomputable def PO(X:Cx)(e:Option Expr)(t:TO):Prop :=
 ∀ (pins:List (Addr×Obj))(s:HU)(σ:St)(H:Hp)(Q:Option Int->Hp->Prop),Inv X pins σ H s->t σ H Q ->
   Iv (IH X.prog X.w) X.A (evalPart e X.env) (fun u s'=>∃o H',Inv X pins σ H' s'/\NR u o/\Q o H') X.xe s
noncomputable def uN:TO:=fun _ H Q=>Q none H
noncomputable def AJ(t:TE):TO:=fun σ H Q=>t σ H fun x H1=>∃i,x = .int i/\Q (some i) H1
theorem intsAre_of:∀{us:List HQ},cn (ns.map V.int) us->L8 us ns:=by
 induction ns with
 | nil=>intro us r;rw[Mn]at r;cases r;exact .nil
 | cons n ns ih =>
   intro us r
   rw[Ja]at r
   cases r with
   | cons r1 r2 =>
     obtain⟨t,e⟩:=r1
     subst e
     exact .cons n t (ih r2)
section
variable{X:Cx}{e:Expr}{te:TE}{lo hi:Option Expr}{tl th:TO}{pos p2:Pos}
theorem vw:PO X none uN:=by
 intro pins s σ H Q I h
 rw[evalPart_none]
 exact H_ ⟨none,H,I,.none,h⟩
theorem vt(h:PE X e te):PO X (some e) (AJ te):=by
 intro pins s σ H Q I hw
 rw[evalPart_some]
 refine EI (h pins s σ H _ I hw) fun u s1 ⟨x,H1,I1,r1,q1⟩=>?_
 obtain⟨i,rfl,q⟩:=q1
 obtain⟨t,rfl⟩:=r1
 exact⟨some i,H1,I1,.int i t,q⟩
noncomputable def GR(X:Cx)(r:V->Option Int->Option Int->Hp->VK->Prop):Prop :=
 ∀ (pins:List (Addr×Obj))(s:HU)(σ:St)(H:Hp)(x:V)(v vl vu:HQ)(lo hi:Option Int)(sl:Addr)(Q:VK),Inv X pins σ H s->RelV x v->s.heap.IsSliceOf sl vl vu .none->NR vl lo->NR vu hi->r x lo hi H Q ->
   ∃T id,typeLookup (.type T) "__getitem__" = pure (some (.builtin id))/\s.TypeIs v T/\Iv (IH X.prog X.w) X.A (MI v (.ref sl)) (EP X pins σ Q) X.xe s
noncomputable def EK(r:V->Option Int->Option Int->Hp->VK->Prop)(te:TE)(tl th:TO):TE:=fun σ H Q=>te σ H fun x H1=>tl σ H1 fun l H2=>th σ H2 fun u H3=>r x l u H3 Q
theorem lz{r:V->Option Int->Option Int->Hp->VK->Prop}(hr:GR X r)(he:PE X e te)(hl:PO X lo tl)(hu:PO X hi th):PE X (.Subscript e (.Slice lo hi none p2) pos) (EK r te tl th):=by
 intro pins s σ H Q I h
 refine Subscript_ (EI (he pins s σ H _ I h) fun v s1 ⟨x,H1,I1,r1,q1⟩=>?_)
 refine wpAny_Slice (EI (hl pins s1 σ H1 _ I1 q1) fun vl s2 ⟨l,H2,I2,pl,q2⟩=>EI (hu pins s2 σ H2 _ I2 q2) fun vu s3 ⟨u,H3,I3,pu,q3⟩=>?_)
 rw[evalPart_none]
 refine H_ ?_
 have I4:Inv X pins σ H3 {s3 with heap:=s3.heap.push {cls:=.type "slice", data:=.fields #[vl,vu,.none]}}:=I3.kept (t':=s3.toks) fun b ob q=>HN _ q
 obtain⟨T,id,hT,ht,hg⟩:=hr pins {s3 with heap:=s3.heap.push {cls:=.type "slice", data:=.fields #[vl,vu,.none]}} σ H3 x v vl vu l u s3.heap.objs.size Q I4 r1 (Heap.IsSliceOf.new ..) pl pu q3
 show Iv (IH X.prog X.w) X.A (NS e (.Slice lo hi none p2) v (.ref s3.heap.objs.size)) (EP X pins σ Q) X.xe {s3 with heap:=s3.heap.push {cls:=.type "slice", data:=.fields #[vl,vu,.none]}}
 exact tail_any (ops:=[.ref s3.heap.objs.size,v]) ht hT hg (by with_unfolding_all rfl)
noncomputable def sG(xs:List V)(lo hi:Option Int):List V:=(xs.drop (HT.sIx xs.length 0 lo)).take (HT.sIx xs.length xs.length hi-HT.sIx xs.length 0 lo)
theorem gJ(xs:List V)(lo hi:Option Int):(sG xs lo hi).length<=xs.length:=by
 unfold sG
 rw[JH,KM]
 omega
noncomputable def C0(K:W.Frag):V->Option Int->Option Int->Hp->VK->Prop:=fun x lo hi H Q=>∃a xs,x = .ref a/\GM K H a xs /\
 ¬(HT.sIx xs.length 0 lo=0/\HT.sIx xs.length xs.length hi=xs.length)/\∀p,H p=none->Q (.ref p) (EB H p (.tup (sG xs lo hi)))
theorem xW:GR X (C0 X.K):=by
 intro pins s σ H x v vl vu lo hi sl Q I rx hs pl pu h
 obtain⟨a,xs,rfl,hx,hw,q⟩:=h
 cases rx
 obtain⟨its,r,ht,hz⟩:=I.tuple hx
 have hlen:its.toArray.size=xs.length:=by rw[Il];exact r.length.symm
 refine⟨"tuple", _,Je.lookup,ht.typeIs,?_⟩
 refine HT.getItem_tuple_cut ht hs pl pu (by rw[hlen];exact hw) ?_ (by rw[hlen];exact hz)
 rw[hlen]
 refine⟨.ref s.heap.objs.size,_,I.laid (t':=s.toks) (o:=.tup (sG xs lo hi)) (fun b ob q=>HN _ q) (HX _) ?_,rfl,q _ (I.hok.fresh (HX _))⟩
 exact⟨IT (gJ xs lo hi) hz,_,(r.drop (HT.sIx xs.length 0 lo)).take (HT.sIx xs.length xs.length hi-HT.sIx xs.length 0 lo),qD.new _ _⟩
noncomputable def va(K:W.Frag):R2:=fun x y H Q=>∃a b xs ys,x = .ref a/\y = .ref b/\GM K H a xs/\GM K H b ys/\xs≠[]/\xs.length+ys.length<=sizeLine /\
 (ys=[]->Q (.ref a) H)/\(ys≠[]->∀p,H p=none->Q (.ref p) (EB H p (.tup (xs++ys))))
theorem cn.nil_iff{xs:List V}(r:cn xs us):us=[]↔xs=[]:=by
 cases r with
 | nil=>simp
 | cons _ _=>simp
theorem vP:G9 X (KQ .Add) (va X.K):=by
 intro pins s σ H x y v u Q I rx ry h
 obtain⟨a,b,xs,ys,rfl,rfl,ha,hb,hx,hz,q1,q2⟩:=h
 cases rx
 cases ry
 obtain⟨its,r1,p1,_⟩:=I.tuple ha
 obtain⟨its2,r2,p2,_⟩:=I.tuple hb
 refine HT.cat_tup p1 p2 (fun z=>hx (r1.nil_iff.mp z)) (fun z=>⟨.ref a,H,I,rfl,q1 (r2.nil_iff.mp z)⟩) (fun z=>?_) (by rw[<- r1.length,<- r2.length];exact hz)
 refine⟨.ref s.heap.objs.size,_,I.laid (t':=s.toks) (o:=.tup (xs++ys)) (fun b ob q=>HN _ q) (HX _) ?_,rfl,q2 (fun w=>z (r2.nil_iff.mpr w)) _ (I.hok.fresh (HX _))⟩
 exact⟨by rw[Ic];exact hz,_,r1.append r2,qD.new _ _⟩
end
noncomputable def ixN(n:Nat)(i:Int):Option Nat:=if 0<=i then(if i<n then some i.toNat else none)else if -(n:Int)<=i then some (i+n).toNat else none
noncomputable def atI{α:Type}(xs:List α)(i:Int):Option α:=(ixN xs.length i).bind fun j=>xs[j]?
theorem pM{i:Int}(h:ixN n i=some j):seqIndex? i n=some j/\j<n /\ -(n:Int)<=i/\i<n:=by
 unfold ixN at h
 by_cases h0:0<=i
 · rw[if_pos h0]at h
   by_cases h1:i<n
   · rw[if_pos h1]at h
     have e:i.toNat=j:=Jc h
     exact⟨by rw[Oj h0 h1,e],by omega,by omega,h1⟩
   · rw[if_neg h1]at h;cases h
 · rw[if_neg h0]at h
   by_cases h1 : -(n:Int)<=i
   · rw[if_pos h1]at h
     have e:(i+n).toNat=j:=Jc h
     exact⟨by rw[N5 (by omega) h1,e],by omega,h1,by omega⟩
   · rw[if_neg h1]at h;cases h
theorem la{xs:List α}{i:Int}{v:α}(h:atI xs i=some v):∃j,seqIndex? i xs.length=some j/\xs[j]?=some v/\j<xs.length /\ -(xs.length:Int)<=i/\i<xs.length:=by
 unfold atI at h
 cases e:ixN xs.length i with
 | none=>rw[e]at h;cases h
 | some j =>
   rw[e]at h
   obtain⟨h1,h2,h3,h4⟩:=pM e
   exact⟨j,h1,h,h2,h3,h4⟩
theorem dQ{xs:List α}{v:α}(h:xs[j]?=some v):atI xs (j:Int)=some v:=by
 have hj:j<xs.length:=(Iy.mp h).1
 have e:ixN xs.length (j:Int)=some j:=by
  unfold ixN
  rw[if_pos (by omega),if_pos (by omega)];simp
 unfold atI;rw[e];exact h
noncomputable def jk(b:Expr):Prop:=∀o i,NA b false o i=operate [o,i] (MI o i)
noncomputable def Hj(X:Cx)(r:R2):Prop :=
 ∀ (value slice:Expr)(pins:List (Addr×Obj))(s:HU)(σ:St)(H:Hp)(x y:V)(v u:HQ)(Q:VK),Inv X pins σ H s->RelV x v->RelV y u->r x y H Q ->
   NA slice false v u=operate [v,u] (MI v u)->Iv (IH X.prog X.w) X.A (NS value slice v u) (EP X pins σ Q) X.xe s
noncomputable def Hb(X:Cx)(id:String)(r:V->List V->Hp->VK->Prop):Prop :=
 ∀ (pins:List (Addr×Obj))(s:HU)(σ:St)(H:Hp)(x:V)(xs:List V)(v:HQ)(us:List HQ)(Q:VK),Inv X pins σ H s->RelV x v->cn xs us->r x xs H Q ->
   Iv (IH X.prog X.w) X.A (call (.builtin id) (v::us)) (EP X pins σ Q) X.xe s
section
variable{X:Cx}{a b:Expr}{ta tb:TE}{pos:Pos}
theorem Hj.or{r r':R2}(h:Hj X r)(h':Hj X r'):Hj X (fun x y H Q=>r x y H Q\/r' x y H Q):=by
 intro value slice pins s σ H x y v u Q I rx ry q hs
 rcases q with q|q
 · exact h value slice pins s σ H x y v u Q I rx ry q hs
 · exact h' value slice pins s σ H x y v u Q I rx ry q hs
theorem vG{r:R2}(hr:Hj X r)(ha:PE X a ta)(hb:PE X b tb)(hs:jk b):PE X (.Subscript a b pos) (EM r ta tb):=by
 intro pins s σ H Q I h
 exact Subscript_ (BK ha hb I h fun v u s2 x y H2 I2 rx ry q=>hr a b pins s2 σ H2 x y v u Q I2 rx ry q (hs _ _))
noncomputable def C6(K:W.Frag):R2:=fun x y H Q=>∃p xs i v,x = .ref p/\y = .int i/\GN K H p xs/\atI xs i=some v/\Q v H
noncomputable def C3(K:W.Frag):R2:=fun x y H Q=>∃p xs i v,x = .ref p/\y = .int i/\GM K H p xs/\atI xs i=some v/\Q v H
noncomputable def C5:R2:=fun x y H Q=>∃z i c,x = .str z/\y = .int i/\z.length<=sizeLine/\atI z.cps.toList i=some c/\Q (.str ⟨#[c]⟩) H
theorem Bt:Hj X (C6 X.K):=by
 intro value slice pins s σ H x y v u Q I rx ry h hs
 obtain⟨p,xs,i,z,rfl,rfl,hq,he,q⟩:=h
 cases rx
 obtain⟨t,rfl⟩:=ry
 obtain⟨its,r,pl,hz⟩:=I.list hq
 obtain⟨j,h1,h2,h3,h4,h5⟩:=la he
 obtain⟨w,ew,rw'⟩:=r.get h2
 have hl:=r.length
 have hn:=jN
 have fin:EP X pins σ Q w s:=⟨z,H,I,rw',q⟩
 by_cases h0:0<=i
 · have hj:i.toNat=j:=by
     rw[Oj h0 h5]at h1
     exact Jc h1
   exact item_listR pl.isList h0 (by omega) (by rw[hj];simpa using ew) fin hs
 · have hj:(i+(its.toArray.size:Int)).toNat=j:=by
     rw[N5 (by omega) h4]at h1
     rw[Il,<- hl]
     exact Jc h1
   exact MY (x:=w) pl.isList.typeIs slot_list_getitem.lookup
    (wpAny_getItem_list_neg (Q:=fun r s'=>r=w/\EP X pins σ Q r s') pl.isList (by omega) (by rw[Il]<;>omega) (by omega) (by rw[hj];simpa using ew) ⟨rfl,fin⟩) hs
theorem Db:Hj X (C3 X.K):=by
 intro value slice pins s σ H x y v u Q I rx ry h hs
 obtain⟨p,xs,i,z,rfl,rfl,hq,he,q⟩:=h
 cases rx
 obtain⟨t,rfl⟩:=ry
 obtain⟨its,r,pl,hz⟩:=I.tuple hq
 obtain⟨j,h1,h2,h3,h4,h5⟩:=la he
 obtain⟨w,ew,rw'⟩:=r.get h2
 have hl:=r.length
 have hn:=jN
 have fin:EP X pins σ Q w s:=⟨z,H,I,rw',q⟩
 exact MY (x:=w) pl.typeIs slot_tuple_getitem.lookup
  (getItem_tuple (j:=j) (Q:=fun r s'=>r=w/\EP X pins σ Q r s') pl (by omega) (by omega) (by rw[Il,<- hl];exact h1) (by simpa using ew) ⟨rfl,fin⟩) hs
theorem zm:Hj X C5:=by
 intro value slice pins s σ H x y v u Q I rx ry h hs
 obtain⟨z,i,c,rfl,rfl,hz,he,q⟩:=h
 obtain⟨t,rfl⟩:=rx
 obtain⟨t',rfl⟩:=ry
 obtain⟨j,h1,h2,h3,h4,h5⟩:=la he
 have hl:z.cps.toList.length=z.length:=by simp[Str.length]
 rw[hl]at h1 h4 h5
 have hn:=jN
 exact tail_any (typeIs_str s z t) slot_str_getitem.lookup (getItem_str (c:=c) (by
  have e1:decide (i < -(2^63:Int))=false:=decide_eq_false (by omega)
  have e2:decide (i ≥ 2^63)=false:=decide_eq_false (by omega)
  rw[e1,e2,Bool.or_false]) (by rw[h1];simpa using h2) ⟨.str ⟨#[c]⟩,H,I.tok _,⟨_,rfl⟩,q⟩) hs
noncomputable def Fh(K:W.Frag):R2:=fun x y H Q=>C6 K x y H Q\/C3 K x y H Q\/C5 x y H Q
theorem pL:Hj X (Fh X.K):=Bt.or (Db.or zm)
theorem m8(its:List HQ)(n j:Nat)(u:HQ):L3 (·.setIfInBounds j u) {cls:=.type "list", data:=.seq its.toArray n}={cls:=.type "list", data:=.seq (its.set j u).toArray n}:=by
 simp[L3]
theorem Inv.lst{pins:List (Addr×Obj)}{σ:St}{H:Hp}{s:HU}{p:Addr}{xs:List V}(I:Inv X pins σ H s)(h:H p=some (.lst xs)) :
 ∃(its:List HQ)(n:Nat),cn xs its/\s.heap.get? p=some {cls:=.type "list", data:=.seq its.toArray n}/\xs.length<=sizeLine:=by
 obtain⟨z,its,n,r,e⟩:=I.hok p _ h
 exact⟨its,n,r,e,z⟩
theorem Inv.lstUpd{p:Addr}{xs ys:List V}{its its':List HQ}{n':Nat}{f:Obj->Obj}(I:Inv X pins σ H s)(h:H p=some (.lst xs))
 (ho:s.heap.get? p=some {cls:=.type "list", data:=.seq its.toArray n})(hf:f {cls:=.type "list", data:=.seq its.toArray n}={cls:=.type "list", data:=.seq its'.toArray n' })(r:cn ys its')(hz:ys.length<=sizeLine)(t:Nat) :
 Inv X pins σ (EB H p (.lst ys)) {s with heap:=s.heap.update p f,toks:=t}:=by
 have e:(s.heap.update p f).get? p=some {cls:=.type "list", data:=.seq its'.toArray n' }:=by
  rw[LM f ho (by rw[hf]<;>rfl),hf]
 refine I.write (x:=p) (e:=p) (by rw[h];trivial) (.inl rfl) (fun b u hb q=>(JA _ _ (M6 hb)).trans q) ⟨_,e⟩ ?_
 exact⟨hz,its',n',r,e⟩
noncomputable def AW:V->V->V->Hp->(Hp->Prop)->Prop:=fun o i v H Q=>∃p xs k j,o = .ref p/\i = .int k/\H p=some (.lst xs)/\ixN xs.length k=some j/\Q (EB H p (.lst (xs.set j v)))
theorem q0:Di X AW:=by
 intro pins s σ H o i v ov iv u Q I ro ri rv h
 obtain⟨p,xs,k,j,rfl,rfl,hp,hj,q⟩:=h
 cases ro
 obtain⟨t,rfl⟩:=ri
 obtain⟨its,n,r,ho,hz⟩:=I.lst hp
 obtain⟨h1,h2,h3,h4⟩:=pM hj
 have hl:=r.length
 have hn:=jN
 have I':Inv X pins σ (EB H p (.lst (xs.set j v))) {s with heap:=s.heap.update p (L3 (·.setIfInBounds j u))} :=
  I.lstUpd hp ho (m8 its n j u) (r.set rv j) (by rw[List.length_set];exact hz) s.toks
 by_cases h0:0<=k
 · have hk:k.toNat=j:=by
     rw[Oj h0 h4]at h1
     exact Jc h1
   exact W.ki_setAt ho h0 (by omega) (by rw[Il,<- hl];exact h4) (by rw[hk];exact⟨_,I',q⟩)
 · have hk:(k+(its.toArray.size:Int)).toNat=j:=by
     rw[N5 (by omega) h3]at h1
     rw[Il,<- hl]
     exact Jc h1
   exact W.ki_setBack ho (by omega) (by rw[Il,<- hl];exact h3) (by omega) (by rw[hk];exact⟨_,I',q⟩)
theorem jy(lo hi:Option Int)(n:Nat):(LD lo hi none n).1=((HT.sIx n 0 lo:Nat):Int)/\(LD lo hi none n).2.1=((HT.sIx n n hi:Nat):Int)/\(LD lo hi none n).2.2=1:=by
 refine⟨?_,?_,rfl⟩
 · cases lo with
   | none=>simp[LD,HT.sIx]
   | some i =>
     simp only[LD,HT.sIx,Option.getD_none,show(1:Int)>0 by decide,if_true]
     by_cases h:i<0
     · simp only[h,if_true]<;>omega
     · simp only[h,if_false]<;>omega
 · cases hi with
   | none=>simp[LD,HT.sIx]
   | some i =>
     simp only[LD,HT.sIx,Option.getD_none,show(1:Int)>0 by decide,if_true]
     by_cases h:i<0
     · simp only[h,if_true]<;>omega
     · simp only[h,if_false]<;>omega
theorem iK(its:List HQ)(lo hi:Option Int):slicePick its.toArray lo hi none=((its.drop (HT.sIx its.length 0 lo)).take (HT.sIx its.length its.length hi-HT.sIx its.length 0 lo)).toArray:=by
 obtain⟨h1,h2,h3⟩:=jy lo hi its.toArray.size
 unfold slicePick
 rw[h1,h2,h3]
 simp only[sliceRange_one,pick_run,Il]<;>rfl
noncomputable def DI(K:W.Frag):V->Option Int->Option Int->Hp->VK->Prop:=fun x lo hi H Q=>∃a xs,x = .ref a/\GN K H a xs/\∀p,H p=none->Q (.ref p) (EB H p (.lst (sG xs lo hi)))
theorem uX:GR X (DI X.K):=by
 intro pins s σ H x v vl vu lo hi sl Q I rx hs pl pu h
 obtain⟨a,xs,rfl,hx,q⟩:=h
 cases rx
 obtain⟨its,r,ht,hz⟩:=I.list hx
 have hlen:=r.length
 refine⟨"list", _,slot_list_getitem.lookup,ht.isList.typeIs,?_⟩
 refine wpAny_getItem_list_slice ht.isList hs pl pu .none (by simp) ?_ (by rw[Il]<;>omega)
 rw[iK,<- hlen]
 refine⟨.ref s.heap.objs.size,_,I.laid (t':=s.toks) (o:=.lst (sG xs lo hi)) (fun b ob q=>HN _ q) (HX _) ?_,rfl,q _ (I.hok.fresh (HX _))⟩
 exact⟨IT (gJ xs lo hi) hz,_,0,(r.drop (HT.sIx xs.length 0 lo)).take (HT.sIx xs.length xs.length hi-HT.sIx xs.length 0 lo),Im _ rfl⟩
theorem jV:eP X (.builtin "len") (fun xs H Q=>∃p ys,xs=[.ref p]/\(GN X.K H p ys\/GM X.K H p ys)/\Q (.int ys.length) H):=by
 intro pins s σ H xs us Q I r h
 obtain⟨p,ys,rfl,hq,q⟩:=h
 obtain⟨u,rfl,rx⟩:=vals1 r
 cases rx
 have hn:=jN
 rcases hq with hq|hq
 · obtain⟨its,r',pl,hz⟩:=I.list hq
   have hlen:=r'.length
   exact Calls.call_len_list pl.isList (by simp only[Il]<;>omega) ⟨.int ys.length,H,I.tok _,⟨s.toks+1,by rw[Il,hlen]⟩,q⟩
 · obtain⟨its,r',pl,hz⟩:=I.tuple hq
   have hlen:=r'.length
   exact len_tuple pl (by simp only[Il]<;>omega) ⟨.int ys.length,H,I.tok _,⟨s.toks+1,by rw[Il,hlen]⟩,q⟩
theorem jU:eP X (.type "list") (fun xs H Q=>∃p ys,xs=[.ref p]/\(GN X.K H p ys\/GM X.K H p ys)/\∀l,H l=none->Q (.ref l) (EB H l (.lst ys))):=by
 intro pins s σ H xs us Q I r h
 obtain⟨p,ys,rfl,hq,q⟩:=h
 obtain⟨u,rfl,rx⟩:=vals1 r
 cases rx
 have fin:∀(its:List HQ),cn ys its->ys.length<=sizeLine->∀(h':Heap)(c':Nat),(∀b o',s.heap.get? b=some o'->h'.get? b=some o') ->
  h'.get? s.heap.objs.size=some {cls:=.type "list", dict:=none,data:=.seq its.toArray c',slots:=#[]}->EP X pins σ Q (.ref s.heap.objs.size) {s with heap:=h' }:=fun its r' hz h' c' kp e =>
  ⟨.ref s.heap.objs.size,_,I.laid (t':=s.toks) kp (HX _) (show cK X.prog X.w _ h' _ (.lst ys)from⟨hz,its,c',r',e⟩),rfl,q _ (I.hok.fresh (HX _))⟩
 rcases hq with hq|hq
 · obtain⟨its,r',pl,hz⟩:=I.list hq
   have hlen:=r'.length
   obtain⟨o,ho,hc,n,hd⟩:=pl.isList
   exact call_list_seq p (.inl rfl) ho hc hd (fun h' c' kp e=>fin its r' hz h' c' kp e) (by simp only[Il]<;>omega)
 · obtain⟨its,r',pl,hz⟩:=I.tuple hq
   have hlen:=r'.length
   obtain⟨o,ho,hc,n,hd⟩:=pl
   exact call_list_seq p (.inr rfl) ho hc hd (fun h' c' kp e=>fin its r' hz h' c' kp e) (by simp only[Il]<;>omega)
theorem ji:eP X (.type "tuple") (fun xs H Q=>∃p ys,xs=[.ref p]/\((GN X.K H p ys/\∀l,H l=none->Q (.ref l) (EB H l (.tup ys)))\/(GM X.K H p ys/\Q (.ref p) H))):=by
 intro pins s σ H xs us Q I r h
 obtain⟨p,ys,rfl,h⟩:=h
 obtain⟨u,rfl,rx⟩:=vals1 r
 cases rx
 rcases h with⟨hq,q⟩|⟨hq,q⟩
 · obtain⟨its,r',pl,hz⟩:=I.list hq
   have hlen:=r'.length
   refine call_tuple_list pl.isList (fun h' kp=>?_) (by simp only[Il]<;>omega)
   have I1:Inv X pins σ H {s with heap:=h' }:=I.kept (t':=s.toks) kp
   have I2:Inv X pins σ (EB H h'.objs.size (.tup ys)) {s with heap:=h'.push {cls:=.type "tuple", data:=.seq its.toArray}} :=
    I1.laid (t':=s.toks) (fun b o e=>HN _ e) (HX _) (show cK X.prog X.w _ _ _ (.tup ys)from⟨hz,its,r',qD.new _ _⟩)
   exact⟨.ref h'.objs.size,_,I2,rfl,q _ (I1.hok.fresh (HX _))⟩
 · obtain⟨its,r',pl,hz⟩:=I.tuple hq
   exact call_tuple_same pl ⟨.ref p,H,I,rfl,q⟩
noncomputable def EE(K:W.Frag)(T:String)(x:V)(H:Hp):Prop:=match x with
 | .str _=>T = "str"
 | .int _=>T = "int"
 | .ref p=>(T = "list" /\ ∃xs,GN K H p xs)\/(T = "tuple" /\ ∃xs,GM K H p xs) \/
     (T = "dict" /\ ((∃kvs,H p=some (.dK kvs))\/∃kvs,H p=some (.dT kvs)))\/(T = "set" /\ ∃S n,H p=some (.set S n))
 | _=>False
theorem xC{T:String}{x:V}{v:HQ}(I:Inv X pins σ H s)(r:RelV x v)(ty:EE X.K T x H) :
 s.TypeIs v T/\∀a,v = .ref a->∃ob,s.heap.get? a=some ob/\ob.dict=none:=by
 cases x with
 | str z =>
   obtain⟨t,rfl⟩:=r
   cases(show T = "str" from ty)
   exact⟨typeIs_str s z t,fun _ e=>nomatch e⟩
 | int i =>
   obtain⟨t,rfl⟩:=r
   cases(show T = "int" from ty)
   exact⟨typeIs_int s i t,fun _ e=>nomatch e⟩
 | ref p =>
   cases r
   rcases ty with⟨rfl,xs,hq⟩|⟨rfl,xs,hq⟩|⟨rfl,hk⟩|⟨rfl,S,n,hk⟩
   · obtain⟨its,_,pl,_⟩:=I.list hq
     refine⟨pl.isList.typeIs,fun a e=>?_⟩
     cases e
     obtain⟨o,n,e,c,hd,_⟩:=pl
     exact⟨o,e,hd⟩
   · obtain⟨o,e1,e2,e3⟩:=I.tupleD hq
     refine⟨⟨o,e1,e2⟩,fun a e=>?_⟩
     cases e
     exact⟨o,e1,e3⟩
   · have z:∃o,s.heap.get? p=some o/\o.ExactDict:=by
       rcases hk with⟨kvs,hk⟩|⟨kvs,hk⟩
       · obtain⟨_,_,_,_,o,_,_,e,ex,_⟩:=I.hok p _ hk
         exact⟨o,e,ex⟩
       · obtain⟨_,_,_,_,o,_,_,e,ex,_⟩:=I.hok p _ hk
         exact⟨o,e,ex⟩
     obtain⟨o,e,ex⟩:=z
     refine⟨⟨o,e,ex.1⟩,fun a e2=>?_⟩
     cases e2
     exact⟨o,e,ex.2.1⟩
   · obtain⟨o,_,_,_,e,ex,_⟩:=I.hok p _ hk
     refine⟨⟨o,e,ex.1⟩,fun a e2=>?_⟩
     cases e2
     exact⟨o,e,ex.2.1⟩
 | _=>exact JL ty
noncomputable def ER(K:W.Frag)(T:String)(r:V->List V->Hp->VK->Prop)(to:TE)(t:TA):TE:=fun σ H Q=>to σ H fun x H1=>EE K T x H1/\t σ H1 fun xs H2=>r x xs H2 Q
variable{o e:Expr}{es:List Expr}{to:TE}{t:TA}{name:Str}{apos cpos:Pos}{T id:String}{r:V->List V->Hp->VK->Prop}
theorem yK(pa:PlainAttrs T)(slot:Slot T name id)(hty:typeOf (.builtin id)=pure (.type "method_descriptor"))(hm:Hb X id r)(ho:PE X o to)(ha:PA X (e::es) t)
 (hbase:LX o name X.env (eval o X.env)=eval o X.env:=by rfl)
 (hfew:((JR cpos (HZ (e::es) X.env)).all (fun x=>!x.1)&&(Nm cpos (LC [] X.env)).all (fun x=>x.1.isSome)
  && decide ((e::es).length+([]:List L7).length+(if([]:List L7).isEmpty then 0 else 1)<30))=true:=by rfl)
 (hline:(apos.endLine==cpos.line)=true:=by rfl)(hs:HZ (e::es) X.env=(false,eval e X.env)::HZ es X.env:=by rfl)(hplain:(JR cpos (HZ es X.env)).any (·.1)=false:=by rfl) :
 PE X (.Call (.Attribute o name apos) (e::es) [] cpos) (ER X.K T r to t):=by
 intro pins s σ H Q I h
 refine wpAny_Call_method_late hbase hfew hline rfl (EI (ho pins s σ H _ I h) fun v s1 ⟨x,H1,I1,r1,ty,q1⟩=>?_)
 obtain⟨h1,h2⟩:=xC I1 r1 ty
 refine⟨T,id,pa,slot,hty,h1,h2,?_⟩
 have hA:=ha cpos pins s1 σ H1 _ I1 q1
 rw[hs]at hA ⊢
 refine Calls.callWith_builtin (by show(false||(JR cpos (HZ es X.env)).any (·.1))=false;rw[hplain]<;>rfl) (Calls.evalArgs_plain ?_)
 exact EI hA fun us s2 ⟨vs,H2,I2,r2,q2⟩=>hm pins s2 σ H2 x vs v us Q I2 r1 r2 q2
end
noncomputable def Hd(X:Cx)(id:String)(r:V->List V->Hp->VK->Prop):Prop :=
 ∀ (pins:List (Addr×Obj))(s:HU)(σ:St)(H:Hp)(x:V)(xs:List V)(v:HQ)(us:List HQ)(Q:VK),Inv X pins σ H s->RelV x v->cn xs us->r x xs H Q ->
   Iv (IH X.prog X.w) X.A (call (.builtin id) (v::us)) (EP X pins σ Q) X.xe s
theorem cn.one:∀{x:V}{us:List HQ},cn [x] us->∃u,us=[u]/\RelV x u
 | _,_,.cons r .nil=>⟨_,rfl,r⟩
theorem cn.rep{xs:List V}{us:List HQ}(h:cn xs us):∀k:Nat,cn (IC k xs).flatten (IC k us).flatten
 | 0=>.nil
 | k+1=>by
   rw[JE,JE,J7,J7]
   exact cn.append h (cn.rep h k)
theorem foldl_rep(its:List HQ):∀(k:Nat)(acc:List HQ),
 List.foldl (fun x1 x2=>x1++x2) acc.toArray (IC k its.toArray)=(acc++(IC k its).flatten).toArray
 | 0,acc=>by simp
 | k+1,acc=>by
   have e:acc.toArray++its.toArray=(acc++its).toArray:=by simp
   have e2:(acc++its)++(IC k its).flatten=acc++(IC (k+1) its).flatten:=by
    rw[JE,J7,K9]
   rw[<- e2,<- foldl_rep its k (acc++its),<- e,JE,JZ]
section
variable{X:Cx}{pins:List (Addr×Obj)}{σ:St}{H:Hp}{s:HU}{l b:Addr}{xs ys zs:List V}
theorem Inv.lset{its its':List HQ}{f:Array HQ->Array HQ}(I:Inv X pins σ H s)(hH:H l=some (.lst xs))
 (e:s.heap.get? l=some {cls:=.type "list", data:=.seq its.toArray n})(hf:f its.toArray=its'.toArray)(hv:cn ys its')(hz:ys.length<=sizeLine) :
 Inv X pins σ (EB H l (.lst ys)) {s with heap:=s.heap.update l (L3 f),toks:=t' }:=by
 have q:=PySem.IsL.update e f
 rw[hf]at q
 refine I.write (x:=l) (e:=l) (by rw[hH];exact trivial) (.inl rfl) (fun b' u hb hu=>(JA s.heap (L3 f) (M6 hb)).trans hu) ⟨_,q⟩ ?_
 exact⟨hz,its',_,hv,q⟩
theorem Inv.lnew{its:List HQ}(I:Inv X pins σ H s)(hv:cn ys its)(hz:ys.length<=sizeLine) :
 Inv X pins σ (EB H s.heap.objs.size (.lst ys)) {s with heap:=s.heap.push {cls:=.type "list", data:=.seq its.toArray},toks:=t' } :=
 I.laid (fun _ _ q=>HN _ q) (HX _) ⟨hz,its,0,hv,Im _ rfl⟩
theorem Inv.fresh(I:Inv X pins σ H s):H s.heap.objs.size=none:=I.hok.fresh (HX _)
theorem Inv.lstM(I:Inv X pins σ H s)(hH:H l=some (.lst xs)):xs.length<=sizeLine/\∃(its:List HQ)(n:Nat),cn xs its/\xs.length=its.length/\s.heap.get? l=some {cls:=.type "list", data:=.seq its.toArray n}:=by
 obtain⟨z,its,n,r,e⟩:=I.hok l _ hH
 exact⟨z,its,n,r,r.length,e⟩
theorem rM(h:n<=sizeLine):Lp n=false:=by
 unfold Lp
 exact decide_eq_false (by omega)
end
section
variable{X:Cx}
noncomputable def oD:V->List V->Hp->VK->Prop:=fun x vs H Q=>∃l xs y,x = .ref l/\vs=[y]/\H l=some (.lst xs)/\xs.length<sizeLine/\Q .non (EB H l (.lst (xs++[y])))
theorem ee:Hd X "list.append" oD:=by
 intro pins s σ H x vs v us Q I rx rv h
 obtain⟨l,xs,y,rfl,rfl,hH,hz,q⟩:=h
 cases rx
 obtain⟨u,rfl,ru⟩:=rv.one
 obtain⟨z,its,n,r,hl,e⟩:=I.lstM hH
 refine N0 F.slot_list_append ⟨_,e,rfl⟩ F.entry_list_append (F.args_list_append_2 _ _) (PySem.list_append l its.toArray n u (by rw[Il];omega)) ⟨e,?_⟩
 refine⟨.non,_,I.lset (its':=its++[u]) hH e (by simp) (r.append (.cons ru .nil)) ?_,rfl,q⟩
 rw[Ic,K0]
 omega
noncomputable def C7:R2:=fun x y H Q=>∃l b xs zs,x = .ref l/\y = .ref b/\H l=some (.lst xs)/\H b=some (.lst zs)/\xs.length+zs.length<=sizeLine/\∀p,H p=none->Q (.ref p) (EB H p (.lst (xs++zs)))
theorem yR:G9 X (KQ .Add) C7:=by
 intro pins s σ H x y v u Q I rx ry h
 obtain⟨l,b,xs,zs,rfl,rfl,hH,hB,hz,q⟩:=h
 cases rx
 cases ry
 obtain⟨z,its,n,r,hl,e⟩:=I.lstM hH
 obtain⟨z2,its2,n2,r2,hl2,e2⟩:=I.lstM hB
 refine PySem.P.add_list e e2 ?_ (by rw[Il,Il];omega)
 have ea:its.toArray++its2.toArray=(its++its2).toArray:=by simp
 rw[ea]
 exact⟨.ref _,_,I.lnew (t':=s.toks) (r.append r2) (by rw[Ic];omega),rfl,q _ I.fresh⟩
noncomputable def C1:R2:=fun x y H Q=>∃l k xs,x = .ref l/\y = .int k/\H l=some (.lst xs) /\ -(2^63)<=k/\k<2^63/\xs.length*k.toNat<=sizeLine /\
 ∀p,H p=none->Q (.ref p) (EB H p (.lst (IC k.toNat xs).flatten))
theorem v8(xs:List α)(k:Nat):(IC k xs).flatten.length=k*xs.length:=by
 induction k with
 | zero=>simp
 | succ k ih=>rw[JE,J7,Ic,ih,N6,Nat.add_comm]
theorem yP:G9 X (KQ .Mult) C1:=by
 intro pins s σ H x y v u Q I rx ry h
 obtain⟨l,k,xs,rfl,rfl,hH,h1,h2,hz,q⟩:=h
 cases rx
 obtain⟨t,rfl⟩:=ry
 obtain⟨z,its,n,r,hl,e⟩:=I.lstM hH
 have hlen:its.toArray.size*k.toNat<=sizeLine:=by rw[Il,<- hl];exact hz
 have hcap:¬its.toArray.size*k.toNat>(2^63-1) / 8:=by
  have:(sizeLine:Nat)<=(2^63-1) / 8:=by decide
  omega
 have hfit:¬(!La k)=true:=by
  rw[fitsIndex_both h1 h2]
  exact IF
 have hlong:¬Lp (its.toArray.size*k.toNat)=true:=by
  rw[rM hlen]
  exact IF
 have hnew:List.foldl (fun x1 x2=>x1++x2) #[] (IC (if its.toArray.isEmpty=true then 0 else k.toNat) its.toArray)=(IC k.toNat its).flatten.toArray:=by
  have f0:∀m:Nat,List.foldl (fun x1 x2=>x1++x2) #[] (IC m its.toArray)=(IC m its).flatten.toArray:=fun m=>by
   have:=foldl_rep its m []
   rw[List.nil_append]at this
   exact this
  rw[f0]
  cases its with
  | nil=>simp
  | cons a r'=>rw[if_neg (by simp)]
 refine wpAny_binaryOp_repeat_ref (T := "list") (U := "int") (by decide) ⟨_,e,rfl⟩ (fun s'=>typeIs_int s' k t) noFill_list_mul F.fills_int_mul F.slot_int_rmul repeat_list F.slot_int_index.lookup
  (N0 F.slot_int_rmul (typeIs_int s k t) F.entry_int_rmul (F.args_int_rmul_2 _ _) (int___rmul___int_list k t l its.toArray n)
   ⟨e,rfl,⟨_,e,rfl⟩,N0 F.slot_list_mul ⟨_,e,rfl⟩ F.entry_list_mul (F.args_list_mul_2 _ _) (AutoListH.list___mul___list_int_3 l its.toArray n k t hfit hcap hlong) ⟨e,?_⟩⟩)
 rw[hnew]
 exact⟨.ref _,_,I.lnew (t':=s.toks) (r.rep k.toNat) (by rw[v8,Mp];exact hz),rfl,q _ I.fresh⟩
end
section
variable{prog:II}{w:Ju}{A:Jz}{E:HQ->HU->Prop}{s:HU}
end
section
variable{X:Cx}
end
section
variable{κ:Type}[DecidableEq κ]
noncomputable def fy(kvs:List (κ×V))(k:κ):Option V:=(kvs.find? fun kv=>decide (kv.1=k)).map (·.2)
noncomputable def dw(kvs:List (κ×V))(k:κ)(v:V):List (κ×V) :=
 if(kvs.any fun kv=>decide (kv.1=k))=true then kvs.map (fun kv=>if kv.1=k then(kv.1,v)else kv)else kvs++[(k,v)]
theorem cM{p:κ×V}{r:List (κ×V)}{k:κ}(e:p.1=k):fy (p::r) k=some p.2:=by simp[fy,Jv,e]
theorem iG{p:κ×V}{r:List (κ×V)}{k:κ}(e:¬p.1=k):fy (p::r) k=fy r k:=by simp[fy,Jv,e]
theorem lm(k:κ):∀kvs:List (κ×V),(kvs.any fun kv=>decide (kv.1=k))=(fy kvs k).isSome
 | []=>rfl
 | p::r=>by
   rw[Lw]
   by_cases e:p.1=k
   · simp only[cM e,decide_eq_true e,Bool.true_or,Option.isSome_some]
   · rw[iG e,decide_eq_false e,Bool.false_or];exact lm k r
theorem cT(kvs:List (κ×V))(k:κ)(v:V):(dw kvs k v).length<=kvs.length+1:=by
 unfold dw
 split
 · rw[HW];omega
 · rw[Ic,Io,K1];omega
theorem wR.isSome_eq{o:Option V}{u:Option HQ}(r:wR o u):o.isSome=u.isSome:=by
 cases o with
 | none=>cases u with
   | none=>rfl
   | some _=>exact(show False from r).elim
 | some _=>cases u with
   | none=>exact(show False from r).elim
   | some _=>rfl
theorem KV.val{kvs:List (κ×V)}{vs:List (κ×HQ)}(r:KV kvs vs)(k:κ):wR (fy kvs k) (N1 vs k):=by
 unfold KV at r
 induction r with
 | nil=>exact L4
 | @cons p q ps qs h t ih =>
   obtain⟨h1,h2⟩:=h
   by_cases e:p.1=k
   · have e':q.1=k:=h1.symm.trans e
     have b:N1 (q::qs) k=some q.2:=by simp[N1,Jv,e']
     rw[cM e,b];exact h2
   · have e':¬q.1=k:=fun z=>e (h1.trans z)
     have b:N1 (q::qs) k=N1 qs k:=by simp[N1,Jv,e']
     rw[iG e,b];exact ih
theorem KV.any{kvs:List (κ×V)}{vs:List (κ×HQ)}(r:KV kvs vs)(k:κ):(kvs.any fun kv=>decide (kv.1=k))=vs.any fun kv=>decide (kv.1=k):=by
 unfold KV at r
 induction r with
 | nil=>rfl
 | cons h t ih=>rw[Lw,Lw,ih,h.1]
theorem KV.repl{kvs:List (κ×V)}{vs:List (κ×HQ)}(r:KV kvs vs)(k:κ){y:V}(ry:RelV y u) :
 KV (kvs.map fun kv=>if kv.1=k then(kv.1,y)else kv) (vs.map fun kv=>if kv.1=k then(kv.1,u)else kv):=by
 unfold KV at r ⊢
 induction r with
 | nil=>exact .nil
 | @cons p q ps qs h t ih =>
   rw[Ja,Ja]
   refine .cons ?_ ih
   obtain⟨h1,h2⟩:=h
   by_cases e:p.1=k
   · rw[if_pos e,if_pos (h1.symm.trans e)];exact⟨h1,ry⟩
   · rw[if_neg e,if_neg (fun z=>e (h1.trans z))];exact⟨h1,h2⟩
theorem KV.put{kvs:List (κ×V)}{vs:List (κ×HQ)}(r:KV kvs vs)(k:κ){y:V}(ry:RelV y u):KV (dw kvs k y) (stored vs k u):=by
 unfold dw stored
 rw[r.any k]
 by_cases e:(vs.any fun kv=>decide (kv.1=k))=true
 · rw[if_pos e,if_pos e];exact r.repl k ry
 · rw[if_neg e,if_neg e];exact Jy.snoc r ⟨rfl,ry⟩
theorem KV.keys{kvs:List (κ×V)}{vs:List (κ×HQ)}(r:KV kvs vs):kvs.map (·.1)=vs.map (·.1):=by
 unfold KV at r
 induction r with
 | nil=>rfl
 | cons h t ih=>rw[Ja,Ja,ih,h.1]
theorem KV.length{kvs:List (κ×V)}{vs:List (κ×HQ)}(r:KV kvs vs):kvs.length=vs.length:=KF r
end
theorem pK{k:Hg}(r:RelV (kV k) u):(bE P w).is k u=true:=by
 cases k with
 | inl i=>obtain⟨t,e⟩:=(show ∃t,u=M4 i t from r);subst e;exact kM P w i t
 | inr x=>obtain⟨t,e⟩:=(show ∃t,u=NM x t from r);subst e;exact kK P w x t
theorem jO{P:II}{w:Ju}:∀{ks:List Hg}{us:List HQ},cn (ks.map kV) us->ItemsAre (bE P w) ks us
 | [],_,r=>by rw[Mn]at r;cases r;exact .nil
 | k::ks,_,r=>by
   rw[Ja]at r
   cases r with
   | cons h t=>exact .cons (pK h) (jO t)
abbrev KT(H:Hp):List (List Hg×V)->List (List Hg×Addr×HQ)->Prop:=Jy fun p q=>p.1=q.1/\H q.2.1=some (.tup (p.1.map kV))/\RelV p.2 q.2.2
theorem KT.val{xs:List (List Hg×Addr×HQ)}(r:KT H kvs xs)(k:List Hg):wR (fy kvs k) ((Oy xs k).map (·.2)):=by
 induction r with
 | nil=>exact L4
 | @cons p q ps qs h t ih =>
   obtain⟨h1,_,h2⟩:=h
   by_cases e:p.1=k
   · have e':q.1=k:=h1.symm.trans e
     have b:Oy (q::qs) k=some q.2:=by simp[Oy,Jv,e']
     rw[cM e,b];exact h2
   · have e':¬q.1=k:=fun z=>e (h1.trans z)
     have b:Oy (q::qs) k=Oy qs k:=by simp[Oy,Jv,e']
     rw[iG e,b];exact ih
theorem KT.repl{xs:List (List Hg×Addr×HQ)}(r:KT H kvs xs)(k:List Hg){y:V}(ry:RelV y u) :
 KT H (kvs.map fun kv=>if kv.1=k then(kv.1,y)else kv) (xs.map (putAt k u)):=by
 induction r with
 | nil=>exact .nil
 | @cons p q ps qs h t ih =>
   rw[Ja,Ja]
   refine .cons ?_ ih
   obtain⟨h1,h2,h3⟩:=h
   unfold putAt
   by_cases e:p.1=k
   · rw[if_pos e,if_pos (h1.symm.trans e)];exact⟨h1,h2,ry⟩
   · rw[if_neg e,if_neg (fun z=>e (h1.trans z))];exact⟨h1,h2,h3⟩
theorem KT.put{xs:List (List Hg×Addr×HQ)}(r:KT H kvs xs)(k:List Hg){b:Addr}{y:V}(hb:H b=some (.tup (k.map kV)))(ry:RelV y u) :
 KT H (dw kvs k y) (storedH xs k b u):=by
 have e:(kvs.any fun kv=>decide (kv.1=k))=(Oy xs k).isSome:=by
  rw[lm,(r.val k).isSome_eq,Option.isSome_map]
 unfold dw storedH
 rw[e]
 by_cases q:(Oy xs k).isSome=true
 · rw[if_pos q,if_pos q];exact r.repl k ry
 · rw[if_neg q,if_neg q];exact Jy.snoc r ⟨rfl,hb,ry⟩
theorem KT.keeps{xs:List (List Hg×Addr×HQ)}(r:KT H kvs xs)(ht:∀b ys,H b=some (.tup ys)->H' b=some (.tup ys)):KT H' kvs xs :=
 Jy.mapP r fun _ _ z=>⟨z.1,ht _ _ z.2.1,z.2.2⟩
section
variable{P:II}{w:Ju}{H:Hp}{h:Heap}{a:Addr}
theorem yk{u:HO}(ok:Hu P w H h)(e:Rd H a u):cK P w H h a u:=e.ok ok
theorem sF{kvs:List (Hg×V)}(ok:Hu P w H h)(e:Rd H a (.dK kvs)):kvs.length<=sizeLine/\(a==K7)=false/\∃vs,KV kvs vs/\h.DictOf (bE P w) a vs :=
 show cK P w H h a (.dK kvs)from yk ok e
theorem wD{kvs:List (Hg×V)}(ok:Hu P w H h)(e:H a=some (.dK kvs)):kvs.length<=sizeLine/\(a==K7)=false/\∃vs,KV kvs vs/\h.DictOf (bE P w) a vs:=sF ok (.inl e)
theorem pH{ks:List Hg}(ok:Hu P w H h)(e:H a=some (.tup (ks.map kV))):(NN (bE P w)).is h ks a:=by
 obtain⟨_,its,r,o,h1,h2,⟨n,h3⟩,_⟩:=(show cK P w H h a (.tup (ks.map kV))from ok a _ e)
 exact⟨o,its.toArray,n,h1,h2,h3,by simpa using jO r⟩
theorem wB(ok:Hu P w H h)(e:Rd H a (.dT kvs)):kvs.length<=sizeLine/\(a==K7)=false /\
 ∃xs,KT H kvs xs/\h.DictOfH (NN (bE P w)) a xs:=by
 obtain⟨z,y,xs,r,o,es,ep,h1,h2,h3,h4,h5⟩:=(show cK P w H h a (.dT kvs)from yk ok e)
 refine⟨z,y,xs,r,o,es,ep,h1,h2,h3,h4,fun x hx=>?_,h5⟩
 have all:∀{l:List (List Hg×V)}{m:List (List Hg×Addr×HQ)},KT H l m->∀x∈m,(NN (bE P w)).is h x.1 x.2.1:=by
  intro l m q
  induction q with
  | nil=>intro x hx;exact nomatch hx
  | @cons p q ps qs hq t ih =>
    intro x hx
    rcases Ih.mp hx with e|hx
    · subst e
      exact pH ok (by rw[<- hq.1];exact hq.2.1)
    · exact ih x hx
 exact all r x hx
theorem BI(ok:Hu P w H h)(e:H a=some (.dT kvs)):kvs.length<=sizeLine/\(a==K7)=false /\
 ∃xs,KT H kvs xs/\h.DictOfH (NN (bE P w)) a xs:=wB ok (.inl e)
end
noncomputable def Am(H:Hp)(a:Addr)(y:V)(r:Option V):Prop :=
 (∃kvs k,Rd H a (.dK kvs)/\y=kV k/\r=fy kvs k)\/∃kvs k b,Rd H a (.dT kvs)/\y = .ref b/\H b=some (.tup (k.map kV))/\r=fy kvs k
noncomputable def BP(H:Hp)(a:Addr)(y v:V)(H':Hp):Prop :=
 (∃kvs k,H a=some (.dK kvs)/\y=kV k/\kvs.length<sizeLine/\H'=EB H a (.dK (dw kvs k v))) \/
 ∃kvs k b,H a=some (.dT kvs)/\y = .ref b/\H b=some (.tup (k.map kV))/\kvs.length<sizeLine/\H'=EB H a (.dT (dw kvs k v))
theorem Am.k{H:Hp}{a:Addr}{kvs:List (Hg×V)}{k:Hg}(e:H a=some (.dK kvs)):Am H a (kV k) (fy kvs k):=.inl ⟨kvs,k,.inl e,rfl,rfl⟩
theorem BP.k{H:Hp}{a:Addr}{kvs:List (Hg×V)}{k:Hg}{v:V}(e:H a=some (.dK kvs))(hl:kvs.length<sizeLine):BP H a (kV k) v (EB H a (.dK (dw kvs k v))):=.inl ⟨kvs,k,e,rfl,hl,rfl⟩
section
variable{X:Cx}{pins:List (Addr×Obj)}{σ:St}{H:Hp}{s:HU}{a:Addr}{y v:V}{u r:HQ}{o:Option V}{A:Jz}{E:HQ->HU->Prop}
theorem Inv.big(I:Inv X pins σ H s):K7<s.heap.objs.size:=by
 have h:Jf<s.heap.objs.size:=(I.mod.glob.keeps I.bk).lt
 exact Nat.lt_trans (by decide) h
theorem qa(hu:A.units+1<Ot)(I:Inv X pins σ H s)(g:Am H a y (some v))(ry:RelV y u)(h:∀w' s',Inv X pins σ H s'->RelV v w'->Q w' s') :
 Iv (IH X.prog X.w) A (MI (.ref a) u) Q E s:=by
 rcases g with⟨kvs,k,e,ey,l⟩|⟨kvs,k,b,e,ey,eb,l⟩
 · subst ey
   obtain⟨z,hd,vs,rel,dd⟩:=sF I.hok e
   obtain⟨w',hw,rw'⟩:=wR.some_of (v:=v) (o:=N1 vs k) (by rw[l];exact rel.val k)
   exact wpAny_getItem_of (pK ry) dd.mapOf hw (h w' _ (I.tok _) rw')
 · subst ey
   cases(show u=Kw b from ry)
   obtain⟨z,hd,xs,rel,dd⟩:=wB I.hok e
   obtain⟨w',hw,rw'⟩:=wR.some_of (v:=v) (o:=(Oy xs k).map (·.2)) (by rw[l];exact rel.val k)
   obtain⟨p,hp,hp2⟩:=Ly.mp hw
   refine wpAny_getItem_heap (tupleKind_room_in1 hu) (pH I.hok eb) dd hp ?_
   rw[hp2]
   exact h w' _ (I.tok _) rw'
theorem je{ob:HO}(I:Inv X pins σ H s)(mu:Ha (H a))(hs:KC a s.heap h')(he:∃q,h'.get? a=some q)(new:cK X.prog X.w (EB H a ob) h' a ob) :
 Inv X pins σ (EB H a ob) {s with heap:=h',toks:=t' } :=
 I.write (x:=a) (e:=a) mu (.inl rfl) (fun b q hb z=>(hs.2 b hb).trans z) he new
theorem dk_new{kvs:List (Hg×V)}{vs:List (Hg×HQ)}(z:kvs.length<=sizeLine)(hd:(a==K7)=false)(rel:KV kvs vs)(dd:h'.DictOf (bE P w) a vs) :
 cK P w H' h' a (.dK kvs):=⟨z,hd,vs,rel,dd⟩
theorem p_{Q:Unit->HU->Prop}(hu:A.units+1<Ot)(I:Inv X pins σ H s)(g:BP H a y v H')(ry:RelV y u)(rv:RelV v r)(h:∀s',Inv X pins σ H' s'->Q () s') :
 Iv (IH X.prog X.w) A (setItem (.ref a) u r) Q E s:=by
 rcases g with⟨kvs,k,e,ey,l,eH⟩|⟨kvs,k,b,e,ey,eb,l,eH⟩
 · subst ey eH
   obtain⟨z,hd,vs,rel,dd⟩:=wD I.hok e
   have hz:vs.length<=sizeLine:=by rw[<- rel.length];exact z
   have hl:(dw kvs k v).length<=sizeLine:=by have:=cT kvs k v;omega
   refine wpAny_setItem_pairs (hsz:=hz) (pK ry) dd fun h' dd' hs=>h _ ?_
   have he:∃q,h'.get? a=some q:=let ⟨q,_,_,hq,_⟩:=dd';⟨q,hq⟩
   exact je I (by rw[e];exact L4) hs he (dk_new hl hd (rel.put k rv) dd')
 · subst ey eH
   cases(show u=Kw b from ry)
   obtain⟨z,hd,xs,rel,dd⟩:=BI I.hok e
   have hz:xs.length<=sizeLine:=by rw[<- KF rel];exact z
   have hl:(dw kvs k v).length<=sizeLine:=by have:=cT kvs k v;omega
   refine wpAny_setItem_heap (hsz:=hz) (tupleKind_room_in1 hu) (pH I.hok eb) dd fun h' dd' hs=>h _ ?_
   obtain⟨q,es,ep,hq,h2,h3,h4,_,h5⟩:=dd'
   refine je I (by rw[e];exact L4) hs ⟨q,hq⟩ ⟨hl,hd,_,(rel.put k eb rv).keeps fun c ys ec=>?_,q,es,ep,hq,h2,h3,h4,h5⟩
   rw[am (Bd ec e (fun z=>nomatch z))]
   exact ec
end
section
variable{X:Cx}{pins:List (Addr×Obj)}{σ:St}{H:Hp}{s:HU}{a:Addr}{kvs:List (Hg×V)}{k:Hg}{u:HQ}{A:Jz}{E:HQ->HU->Prop}
end
noncomputable def wV(i:Expr):Prop:=∀ov iv,NA i false ov iv=operate [ov,iv] (MI ov iv)
theorem uR{prog:II}{env:Env}{value slice:Expr}{T id:String}
 (hl:typeLookup (.type T) "__getitem__" = pure (some (.builtin id)))(hs:wV slice)
 (h:Iv (IH prog w) A (eval value env) (fun o s₁=>Iv (IH prog w) A (eval slice env) (fun i s₂=>s₂.TypeIs o T/\Iv (IH prog w) A (MI o i) Q E s₂) E s₁) E s) :
 Iv (IH prog w) A (eval (.Subscript value slice pos) env) Q E s:=by
 refine Subscript_ (IL h (fun o s₁ h₁=>IL h₁ (fun i s₂ h₂=>?_) fun _ _ x=>x) fun _ _ x=>x)
 obtain⟨hT,h₂⟩:=h₂
 unfold NS
 refine HJ ?_
 rw[getitemInPython_of_ne hT.not_modules]
 refine HJ (wpAny_specialOf hT hl ?_)
 have fin:Iv (IH prog w) A (NA slice false o i) (fun r s₃=>Iv (IH prog w) A (letTemporaryGo value o r >>= fun _=>pure r) Q E s₃) E s₂:=by
  rw[hs o i]
  exact wpAny_operating (IL h₂ (fun r s₃ h₃=>HJ (wpAny_letTemporaryGo (H_ h₃))) fun _ _ x=>x)
 first
  | exact H_ (HJ fin)
  | exact HJ (H_ (HJ fin))
  | exact HJ fin
theorem kW{y:V}{o:Option V}(I:Inv X pins σ H s)(g:Am H a y o):s.TypeIs (.ref a) "dict" := by
 rcases g with⟨kvs,k,e,_,_⟩|⟨kvs,k,b,e,_,_,_⟩
 · obtain⟨_,_,vs,_,dd⟩:=sF I.hok e
   exact dd.typeIs
 · obtain⟨_,_,xs,_,dd⟩:=wB I.hok e
   exact dd.typeIs
noncomputable def xO(td ty:TE):TE:=fun σ H Q=>td σ H fun x H1=>ty σ H1 fun y H2=>∃a v,x = .ref a/\Am H2 a y (some v)/\Q v H2
noncomputable def AU(td ty tv:TE):TS:=fun D σ H=>tv σ H fun v H1=>td σ H1 fun x H2=>ty σ H2 fun y H3=>∃a H4,x = .ref a/\BP H3 a y v H4/\D.nx σ H4
section
variable{X:Cx}{o i e value:Expr}{pos pos' tpos:Pos}{td ty tv:TE}
theorem iY(hu:X.A.units+1<Ot)(ho:PE X o td)(hi:PE X i ty)(hs:wV i):PE X (.Subscript o i pos) (xO td ty):=by
 intro pins s σ H Q I h
 refine uR PySem.F.slot_dict_getitem.lookup hs (EI (ho pins s σ H _ I h) fun u s1 ⟨x,H1,I1,rx,q1⟩=>EI (hi pins s1 σ H1 _ I1 q1) fun iv s2 ⟨y,H2,I2,ry,a,v,ex,g,q2⟩=>?_)
 subst ex
 obtain rfl:u=Kw a:=rx
 exact⟨kW I2 g,qa hu I2 g ry fun w' s3 I3 rw'=>⟨v,H2,I3,rw',q2⟩⟩
theorem vq(hu:X.A.units+1<Ot)(ho:PE X o td)(hi:PE X i ty)(hv:PE X value tv)(hs:J4 value (some (.Subscript o i pos')) pos.line X.env=pure false) :
 PS X (.Assign [.Subscript o i pos'] value pos) (AU td ty tv):=by
 intro pins s σ H D I h
 refine wpAny_Assign_Subscript (EI (hv pins s σ H _ I h) fun r s1 ⟨v,H1,I1,rv,q1⟩=>EI (ho pins s1 σ H1 _ I1 q1) fun u s2 ⟨x,H2,I2,rx,q2⟩=>EI (hi pins s2 σ H2 _ I2 q2) fun iv s3 ⟨y,H3,I3,ry,a,H4,ex,g,q3⟩=>?_) hs
 subst ex
 obtain rfl:u=Kw a:=rx
 exact p_ hu I3 g ry rv fun s4 I4=>⟨σ,H4,I4,q3⟩
end
theorem jd(h:Heap)(hb:K7<h.objs.size):cK P w H (h.push {cls:=.type "dict", data:=.dict #[]}) h.objs.size (.dK []) :=
 ⟨Ix _,beq_eq_false_iff_ne.mpr (M6 (IP hb)),[],.nil,Heap.DictOf.new h⟩
section
variable{X:Cx}{pos:Pos}
end
noncomputable def nV:List (TE×TE)->St->Hp->(List (V×V)->Hp->Prop)->Prop
 | [],_,H,Q=>Q [] H
 | (tk,tv)::r,σ,H,Q=>tk σ H fun x H1=>tv σ H1 fun y H2=>nV r σ H2 fun ps H3=>Q ((x,y)::ps) H3
abbrev VV:List (V×V)->List (HQ×HQ)->Prop:=Jy fun p q=>RelV p.1 q.1/\RelV p.2 q.2
noncomputable def G1(X:Cx)(pos:Pos)(keys:List (Option Expr))(values:List Expr)(trs:List (TE×TE)):Prop :=
 ∀ (pins:List (Addr×Obj))(s:HU)(σ:St)(H:Hp)(Q:List (V×V)->Hp->Prop),Inv X pins σ H s->nV trs σ H Q ->
   Iv (IH X.prog X.w) X.A (evalPairs (pairTrees keys values X.env pos)) (fun vs s'=>∃ps H',Inv X pins σ H' s'/\VV ps vs/\Q ps H') X.xe s
theorem oK:G1 X pos [] [] []:=fun pins s σ H Q I h=>pairTrees_nil_walk ⟨[],H,I,.nil,h⟩
theorem cO{k v:Expr}{ks:List (Option Expr)}{vs:List Expr}{tk tv:TE}{trs:List (TE×TE)}(hk:PE X k tk)(hv:PE X v tv)(hr:G1 X pos ks vs trs) :
 G1 X pos (some k::ks) (v::vs) ((tk,tv)::trs):=fun pins s σ H Q I h =>
 pairTrees_cons_walk (EI (hk pins s σ H _ I h) fun u s1 ⟨x,H1,I1,rx,q1⟩=>EI (hv pins s1 σ H1 _ I1 q1) fun w2 s2 ⟨y,H2,I2,ry,q2⟩ =>
  EI (hr pins s2 σ H2 _ I2 q2) fun ws s3 ⟨ps,H3,I3,rel,q3⟩=>⟨(x,y)::ps,H3,I3,.cons ⟨rx,ry⟩ rel,q3⟩)
noncomputable def eA(kvs more:List (Hg×V)):List (Hg×V):=more.foldl (fun acc kv=>dw acc kv.1 kv.2) kvs
theorem KV.merge:∀{more:List (Hg×V)}{rs:List (Hg×HQ)}{kvs:List (Hg×V)}{vs:List (Hg×HQ)},KV more rs->KV kvs vs->KV (eA kvs more) (merged vs rs):=by
 intro more rs kvs vs r
 unfold KV at r
 induction r generalizing kvs vs with
 | nil=>intro q;exact q
 | @cons p q ps qs h t ih =>
   intro r0
   have e:KV (dw kvs p.1 p.2) (stored vs q.1 q.2):=by
    have:=r0.put p.1 h.2
    rw[<- h.1];exact this
   exact ih e
theorem eE:∀(more kvs:List (Hg×V)),(eA kvs more).length<=kvs.length+more.length
 | [],kvs=>by show kvs.length<=kvs.length+0;omega
 | p::r,kvs=>by
   have h1:=eE r (dw kvs p.1 p.2)
   have h2:=cT kvs p.1 p.2
   show(eA (dw kvs p.1 p.2) r).length<=_
   rw[Io];omega
theorem iy{P:II}{w:Ju}:∀{kvs:List (Hg×V)}{ws:List (HQ×HQ)},VV (kvs.map fun kv=>(kV kv.1,kv.2)) ws->∃rs,Carries (bE P w) ws rs/\KV kvs rs
 | [],_,r=>by rw[Mn]at r;cases r;exact⟨[],L4,.nil⟩
 | p::kvs,_,r=>by
   rw[Ja]at r
   cases r with
   | @cons a b as bs h t =>
     obtain⟨rs,c,q⟩:=iy (P:=P) (w:=w) t
     obtain⟨b1,b2⟩:=b
     exact⟨(p.1,b2)::rs,⟨pK h.1,rfl,c⟩,.cons ⟨rfl,h.2⟩ q⟩
noncomputable def AO(trs:List (TE×TE)):TE:=fun σ H Q=>∀p,H p=none->nV trs σ (EB H p (.dK [])) fun ps H2=>H2 p=some (.dK [])/\∃kvs:List (Hg×V),ps=kvs.map (fun kv=>(kV kv.1,kv.2))/\kvs.length<=15/\Q (.ref p) (EB H2 p (.dK (eA [] kvs)))
theorem oP{keys:List (Option Expr)}{values:List Expr}{trs:List (TE×TE)}(h:G1 X pos keys values trs)(hall:keys.all (·.isSome)=true)(hl:keys.length=values.length)(h0:keys≠[])
 (h15:keys.length<=15):PE X (.Dict keys values pos) (AO trs):=by
 intro pins s σ H Q I q
 have hn:=I.hok.fresh (HX s.heap.objs.size)
 have I1:=I.laid (a:=s.heap.objs.size) (o:=.dK []) (h':=s.heap.push {cls:=.type "dict", data:=.dict #[]}) (t':=s.toks) (fun _ _ q=>HN _ q) (HX _) (jd s.heap I.big)
 refine wpAny_Dict_walk (knd:=bE X.prog X.w) hall hl h0 h15 (EI (h pins _ σ _ _ I1 (q _ hn)) fun ws s2 ⟨ps,H2,I2,rel,e,kvs,ep,lk,q2⟩=>?_)
 subst ep
 obtain⟨rs,c,rk⟩:=iy (P:=X.prog) (w:=X.w) rel
 obtain⟨z,hd,vs0,r0,dd⟩:=wD I2.hok e
 cases r0
 refine⟨rs,c,dd,fun h' dd' hs=>⟨.ref s.heap.objs.size,_,?_,rfl,q2⟩⟩
 have hz:(eA [] kvs).length<=sizeLine:=by
  have h1:=eE kvs []
  rw[K1]at h1
  rw[sizeLine_eq];omega
 have he:∃q,h'.get? s.heap.objs.size=some q:=let ⟨q,_,_,hq,_⟩:=dd';⟨q,hq⟩
 exact je I2 (by rw[e];exact L4) hs he (dk_new hz hd (rk.merge .nil) dd')
section
variable{X:Cx}{pins:List (Addr×Obj)}{σ:St}{H:Hp}{s:HU}{a:Addr}{y d:V}{u r:HQ}{o:Option V}{A:Jz}{E:HQ->HU->Prop}
end
section
variable{X:Cx}{o e f:Expr}{apos cpos:Pos}{td ty tx:TE}
end
section
variable{X:Cx}{pins:List (Addr×Obj)}{σ:St}{H:Hp}{s:HU}{a:Addr}{kvs:List (Hg×V)}{A:Jz}{E:HQ->HU->Prop}
end
section
variable{X:Cx}{pins:List (Addr×Obj)}{σ:St}{H:Hp}{s:HU}{a:Addr}{y:V}{u:HQ}{A:Jz}{E:HQ->HU->Prop}
end
end L2
namespace Att
open PySem PySem.W PySem.Calls PyProof.Rows
theorem gC{P:Ou}:∀(ns:List Int)(vs:List HQ),WellAll P h vs (ns.map WData.int)->L8 vs ns:=by
 intro ns
 induction ns with
 | nil =>
   intro vs w
   rw[Mn]at w
   cases w
   exact .nil
 | cons n ns ih =>
   intro vs w
   rw[Ja]at w
   cases w with
   | cons a b =>
     cases a
     exact .cons _ _ (ih _ b)
theorem oj{l:Ov}(hn:l.most=some n){P:Ou}{args:List WData}{vals:List HQ}
 (hpre:l.row.toRowW.claim.pre args=true)(hwl:WellAll P h vals args) :
 ∃a vs ns,vals=[Kw a]/\args=[WData.list (ns.map WData.int)]/\h.get? a=some {cls:=.type "list", data:=.seq vs.toArray}/\L8 vs ns/\ns.length<=n:=by
 have hsh:WShape.hasAll [] args [.list .int]=true:=(pre_splitW hpre).1
 have hc:l.pre.holds [] {args:=args}=true:=(pre_splitW hpre).2
 obtain⟨d,r,rfl,h1,h2⟩:=hasAllW_cons hsh
 obtain rfl:=hasAllW_nil h2
 obtain⟨xs,rfl,h3⟩:=hasW_list h1
 obtain⟨ns,rfl⟩:=items_int h3
 have hlen:ns.length<=n:=by
  unfold Ov.pre at hc
  have h4:(WTm.not (.lt (.lit (.int (n:Int))) (.len (.arg 0)))).holds [] {args:=[.list (ns.map .int)]}=true:=by
   have h4:=(holds_andW hc).1
   rw[hn]at h4
   exact h4
  have h5:=condW_of h4 (w_not (w_lt w_lit (w_len_list (w_arg rfl))))
  rw[HW]at h5
  refine Nat.le_of_not_lt fun q=>?_
  have q':(n:Int)<((ns.length:Nat):Int):=by omega
  first
   | (rw[decide_eq_true q']at h5;exact absurd h5 (by decide))
   | (simp at h5;omega)
 cases hwl with
 | cons w1 w2 =>
   cases w2
   cases w1 with
   | list ho hall=>exact⟨_,_,ns,rfl,rfl,ho,gC ns _ hall,hlen⟩
theorem oM(l:Ov)(args:List WData):l.row.toRowW.claim.post args (.bool true) args=true :=
 postW_of (r:=l.row.toRowW) (X:=(true==true))
  (show WShape.has [] (.bool true) .bool=true by first|rfl|decide|simp[WShape.has,WShape.arms,WShape.armsAll])
  (show(WTm.eq .res (.lit (.bool true))).value [] {args:=args,res:=some (.bool true),after:=args}=some (.bool (true==true))from w_eq_bool (w_res rfl) w_lit) rfl
theorem attach_call{l:Ov}{q:II}{YP:Ju->Heap->Prop}{d:DefRec}
 (hn:l.most=some n)(hdf:d.params.defaults=[])
 (call:∀(w:Ju)(s₀ s₁:HU)(mg mb:Str->Option HQ)(fa:Addr)(o:Obj)(pm cd doc:HQ)(a:Addr)(vs:List HQ)(ns:List Int),
  Ground q loose [] XP w s₀ mg mb s₁.heap->YP w s₁.heap ->
  s₁.heap.get? fa=some o->o.data = .func (docDef d.name d.params d.body d.scope pm cd doc)->s₁.heap.CodeRec cd d.name->mg d.name=some (.ref fa) ->
  s₁.heap.get? a=some {cls:=.type "list", data:=.seq vs.toArray}->L8 vs ns->ns.length<=n->s₁.gens = #[] ->
  Km (IH l.prog w) N2 (.call (.ref fa) ⟨[.ref a],[]⟩) (fun r s'=>r = .ok (.ret (.bool true))/\OldK s₁.heap s'.heap/\s'.os=s₁.os/\Ny s'.gens) s₁) :
 WalkO q loose XP YP l.row.toRowW d [] (fun f vs=>PySem.call f vs):=by
 intro w s₀ s₁ mg mb G Y fa o pm cd doc dV kV ho hd hcd hD hmg hg args vals as hpre hlay hrd hwl hlo
 obtain rfl:dV = .none:=Dflts.none hD hdf
 obtain rfl:kV = .none:=Dflts.noKw hD
 obtain⟨a,vs,ns,rfl,rfl,hobj,hints,hlen⟩:=oj hn hpre hwl
 refine enter_call (Mm (call w s₀ s₁ mg mb fa o pm cd doc a vs ns G Y ho (fd_plain hd) hcd hmg hobj hints hlen hg) fun r s' hq=>?_)
 obtain⟨rfl,h2,h3,h4⟩:=hq
 exact⟨.inl ⟨.bool true,.bool true,[],rfl,fun _=>rfl,.bool true,oM l _,fun _=>⟨MA,fun _ hm=>(nomatch hm)⟩⟩,h2,h3,h4⟩
section
variable{prog:II}{w:Ju}{A:Jz}{E:HQ->HU->Prop}{s:HU}{K:Frag}
end
end Att
namespace L2
theorem js:∀{vs:List HQ}{ns:List Int},L8 vs ns->cn (ns.map V.int) vs
 | _,_,.nil=>.nil
 | _,_,.cons n t h=>.cons ⟨t,rfl⟩ (js h)
noncomputable def BN(H:Hp):Prop:=∀b,H b=none\/∃o xs,H b=some (.frz o (.lst xs))
theorem rT{K:W.Frag}{mb:Str->Option HQ}{CX:Hw}{k:Nat}{fa:Addr}{sp:Sp}{s₁:HU}{vs:List HQ}
 (KX:K.In s₁.heap)(hns:s₁.heap.Ns Jf mg)(hb:s₁.heap.Ns builtinsNs mb)(hbb:∀x:Str,x ≠ "__name__" -> mb x=Ln x)(hlim:s₁.heap.NoLimit)(hg:s₁.gens = #[])
 (ha:s₁.heap.get? a=some {cls:=.type "list", data:=.seq vs.toArray})(hi:L8 vs ns)(hl:ns.length<=sizeLine)(hr:Room k N2)
 (F:∀base:Heap,K.In base->base.Ns Jf mg->FnOk P w K mg base CX k fa fd [x] sp)(hbind:∀(s:HU)(u:HQ),Oi s fd ⟨[u],[]⟩ [(x,u)])
 (hsp:∀H:Hp,BN H->GN K H a (ns.map V.int)->sp [.ref a] H (fun v _=>v = .bl true) fun _ _ _=>False)
 (hCX:∀H e s',CX [] H s₁ (fun _ _ _=>False) e s'->False) :
 Km (IH P w) N2 (.call (.ref fa) ⟨[.ref a],[]⟩) (fun r s'=>r = .ok (.ret (.bool true))/\OldK s₁.heap s'.heap/\s'.os=s₁.os/\Ny s'.gens) s₁:=by
 have rv:=js hi
 have lenV:=hi.length
 have core:∀H:Hp,BN H->GN K H a (ns.map V.int)->Hu P w H s₁.heap->(∀b,H b≠none->b=a)->(H a≠none->K.lookup a=none) ->
  Km (IH P w) N2 (.call (.ref fa) ⟨[.ref a],[]⟩) (fun r s'=>r = .ok (.ret (.bool true))/\OldK s₁.heap s'.heap/\s'.os=s₁.os/\Ny s'.gens) s₁:=by
  intro H hO hS hok hA hK
  have base_of:∀{b:Addr}{o:Obj},s₁.heap.get? b=some o->H b=none->(rZ s₁.heap H).get? b=some o:=fun e n=>rY e n
  have noA:∀{b:Addr}{o:Obj}{es:Array DictEntry}{ep:Nat},s₁.heap.get? b=some o->o.data = .dict es ep->H b=none:=fun{b o es ep} e d=>by
   cases q:H b with
   | none=>rfl
   | some u =>
     have e':b=a:=hA b (by rw[q];simp)
     subst e'
     rw[ha]at e;cases e
     have d':Data.seq vs.toArray _=Data.dict es ep:=d
     cases d'
  have nsK:∀{b:Addr}{m:Str->Option HQ},s₁.heap.Ns b m->(rZ s₁.heap H).Ns b m:=fun{b m} ⟨o,es,ep,e,d,r⟩=>⟨o,es,ep,base_of e (noA e d),d,r⟩
  have hKb:K.In (rZ s₁.heap H):=fun b o e=>base_of (KX b o e) (by
   cases q:H b with
   | none=>rfl
   | some u =>
     have e':b=a:=hA b (by rw[q];simp)
     subst e'
     rw[hK (by rw[q];simp)]at e;cases e)
  have hM:Mod K mg (rZ s₁.heap H):=⟨hKb,nsK hns,⟨mb,nsK hb,hbb⟩,let ⟨mc,h1,h2⟩:=hlim;⟨mc,nsK h1,h2⟩⟩
  have e0:Env0 P w K mg (rZ s₁.heap H) N2 [] s₁ H:=⟨rfl,hM,fun b o e=>vT e,Nat.le_of_eq (pR _ _),trivial,fun b hb=>absurd (show b∈([]:List Addr)from hb) (by simp),hok,.of_eq hg⟩
  refine Mm ((F _ hKb (nsK hns)).run N2 [] s₁ H ⟨[.ref a],[]⟩ [.ref a] [.ref a] _ _ hr e0 (hbind s₁ (.ref a)) (.cons rfl .nil) (hsp H hO hS)) fun r s' h=>?_
  cases r with
  | error e=>exact(hCX H e s' h).elim
  | ok fl =>
    cases fl with
    | next=>exact JL h
    | brk=>exact JL h
    | cont=>exact JL h
    | ret u =>
      obtain⟨v,H',os,bare,un,hok',r',q⟩:=h
      have q':v = .bl true:=q
      subst q'
      obtain rfl:u=NY true:=r'
      refine⟨rfl,OldK.of_keep fun b o e=>?_,os,bare⟩
      cases q:H b with
      | none=>exact un.keep b o e q (by intro z;exact absurd (show b∈([]:List Addr)from z) (by simp)) (by simp)
      | some u =>
        rcases hO b with z|⟨ob,xs,z⟩
        · rw[q]at z;cases z
        · have z2:=un.frzs b ob _ z
          obtain⟨e1,_⟩:=hok b _ z
          obtain⟨e2,_⟩:=hok' b _ z2
          rw[e]at e1;cases e1
          exact e2
 cases hk:K.lookup a with
 | some o =>
   have e:=KX a o hk
   rw[ha]at e
   cases e
   refine core (fun _=>none) (fun _=>.inl rfl) (.inr ⟨_,vs.toArray,_,hk,rfl,rfl,rfl,by rw[Il,lenV];exact hl,by simpa using rv⟩) (fun b u z=>by have z':(none:Option HO)=some u:=z;cases z') (fun b z=>absurd rfl z) fun z=>absurd rfl z
 | none =>
   refine core (fun b=>if b=a then some (.frz {cls:=.type "list", data:=.seq vs.toArray} (.lst (ns.map V.int)))else none) (fun b=>?_) (.inl (.inr ⟨{cls:=.type "list", data:=.seq vs.toArray},if_pos rfl⟩)) (fun b u z=>?_) (fun b z=>?_) fun _=>hk
   · by_cases hb:b=a
     · exact .inr ⟨_,_,if_pos hb⟩
     · exact .inl (if_neg hb)
   · by_cases hb:b=a
     · have z':=(if_pos hb).symm.trans z
       cases z'
       subst hb
       exact⟨ha,by rw[HW];exact hl,vs,_,rv,ha⟩
     · have z':=(if_neg hb).symm.trans z
       cases z'
   · by_cases hb:b=a
     · exact hb
     · exact absurd (if_neg hb) z
theorem walk_of{l:W.OpenLaw}{k:Nat}{q:II}{YP:Ju->Heap->Prop}{d:DefRec}{K:Ou->W.Frag}{CX:Ju->Hw}{sp:Ju->Sp}
 (hn:l.most=some n)(hn2:n<=sizeLine)(hdf:d.params.defaults=[])(hr:Room k N2)
 (hY:∀(w:Ju)(h:Heap),YP w h->(K w.params).In h)
 (F:∀(w:Ju)(mg:Str->Option HQ)(fa:Addr)(h:Heap),(K w.params).In h->h.Ns Jf mg->mg d.name=some (.ref fa) ->
  ∃ fd:KH,(∀(s:HU)(u:HQ),Oi s fd ⟨[u],[]⟩ [(x,u)]) /\
    ∀base:Heap,(K w.params).In base->base.Ns Jf mg->FnOk l.prog w (K w.params) mg base (CX w) k fa fd [x] (sp w))
 (hsp:∀(w:Ju)(H:Hp)(a:Addr)(ns:List Int),ns.length<=n->BN H->GN (K w.params) H a (ns.map V.int)->sp w [.ref a] H (fun v _=>v = .bl true) fun _ _ _=>False)
 (hCX:∀(w:Ju)(H:Hp)(s:HU)(e:HQ)(s':HU),CX w [] H s (fun _ _ _=>False) e s'->False) :
 W.WalkO q loose XP YP l.row.toRowW d [] (fun f vs=>PySem.call f vs):=by
 refine Att.attach_call hn hdf fun w s₀ s₁ mg mb fa o pm cd doc a vs ns G Y ho hd hcd hmg hobj hints hlen hg=>?_
 have KX:=hY w _ Y
 obtain⟨fd,hb,hF⟩:=F w mg fa _ KX G.T.g hmg
 exact rT KX G.T.g G.T.b G.T.builtins G.T.nolimit hg hobj hints (IT hlen hn2) hr hF hb (fun H hO hS=>hsp w H a ns hlen hO hS) fun H e s'=>hCX w H s₁ e s'
abbrev Hy:Hw:=fun _ _ _ _ _ _=>False
abbrev E0:XK:=fun _ _ _=>False
theorem vJ:qC Hy X E0:=fun _ _ _ _ _ _ _ h=>h.elim
structure Fun (K:W.Frag) (x qual:Str) (st:Stmt) (f:Addr) (fd:KH):Prop where
 ex:∃(oc:HQ)(od:Option Addr)(kV doc pm:HQ)(an:Option Addr)(cdv ct:HQ)(osl:Array (Option HQ)),
  fd=W.fnOf x qual (defArgs st) (defBody st) (defScope st) .none kV doc pm an cdv ct/\K.lookup f=some ⟨oc,od,.func fd,osl⟩/\W.codeIn K cdv qual=true
 kp:W.keepIn K (.ref f)=true
section
variable{P:II}{w:Ju}{K:W.Frag}{mg:Str->Option HQ}{base:Heap}
theorem Fun.ok{st:Stmt}{f:Addr}{N ps:List Str}{k:Nat}{sp:Sp}(F:Fun K x qual st f fd)(S:FnScope N ps (defScope st))(len:∀vs H Q E,sp vs H Q E->vs.length=ps.length)
 (hbody:∀(cdv:HQ)(A:Jz)(outer:List Env)(s:HU)(H:Hp)(vs:List V)(Q:VK)(E:XK),Room k (A.deeper (M_ qual (defScope st) s.heap.objs.size f cdv))->sp vs H Q E ->
  ∃t,GY (qG Hy P w K mg base N qual (defScope st) f cdv A outer s H E).nox (defBody st) t/\t {nx:=fun _ H'=>Q .non H',rt:=Q} (start N vs) H):FnOk P w K mg base Hy (k+1) f fd ps sp:=by
 obtain⟨oc,od,kV,doc,pm,an,cdv,ct,osl,rfl,lk,hcd⟩:=F.ex
 refine BE lk hcd S len fun A outer s H vs Q E hr hsp=>?_
 obtain⟨t,h,q⟩:=hbody cdv A outer s H vs Q E hr hsp
 exact⟨t,h.nox,q⟩
theorem Fun.binds{st:Stmt}{f:Addr}{ps:List Str}(F:Fun K x qual st f fd)
 (h:∀(kV doc pm:HQ)(an:Option Addr)(cdv ct:HQ)(us:List HQ),us.length=ps.length->bindArgs (W.fnOf x qual (defArgs st) (defBody st) (defScope st) .none kV doc pm an cdv ct) ⟨us,[]⟩=pure (ps.zip us)):Binds K fd ps []:=by
 obtain⟨oc,od,kV,doc,pm,an,cdv,ct,osl,rfl,lk,hcd⟩:=F.ex
 exact .all (h kV doc pm an cdv ct)
theorem pS{st:Stmt}{f:Addr}{oc:HQ}{od an:Option Addr}{osl:Array (Option HQ)}{kV doc pm cdv ct:HQ}(l:K.lookup f=some ⟨oc,od,.func (W.fnOf x qual (defArgs st) (defBody st) (defScope st) .none kV doc pm an cdv ct),osl⟩)
 (c:W.codeIn K cdv qual=true)(k:W.keepIn K (.ref f)=true):Fun K x qual st f (W.fnOf x qual (defArgs st) (defBody st) (defScope st) .none kV doc pm an cdv ct):=⟨⟨oc,od,kV,doc,pm,an,cdv,ct,osl,rfl,l,c⟩,k⟩
end
theorem rX{k:Nat}(hr:Room k A):A.units+1<Ot:=Kf (Nat.add_le_add_left (by decide:1<=64) _) hr.units
theorem oa(h:n<=1000):n<sizeLine:=Kf h (by decide)
section
variable{X:Cx}
theorem pv(i:Nat)(hN:X.N[i]?=some x:=by rfl)(hv:GB X.env.scope x:=by first|exact J0 rfl|exact Jq (J0 rfl)|exact Jq (Jq rfl))(hd:(x==("__debug__" : Str))=false:=by decide)
 (hcd:(x==("__classdict__" : Str))=false:=by decide):PE X (.Name x pos) (AI i):=cG hN hv hd hcd
end
noncomputable def bF(H H':Hp):Prop:=∀b o,H b=some o->H' b=some o
theorem bF.refl(H:Hp):bF H H:=fun _ _ h=>h
theorem bF.trans{H1 H2:Hp}(a:bF H H1)(b:bF H1 H2):bF H H2:=fun c o h=>b c o (a c o h)
theorem bF.free(e:bF H H'){l:Addr}(h:H' l=Option.none):H l=Option.none:=by
 cases q:H l with
 | none=>rfl
 | some o =>
   rw[e l o q]at h
   cases h
section
variable{X:Cx}
end
section
variable{κ:Type}[DecidableEq κ]
end
end L2
namespace L2.VL
structure RlT where
 a:Option Addr
 b:Nat×List Int
abbrev RlT.no:RlT:=⟨none,(0,[])⟩
abbrev RlT.at'(r:Addr)(b:Nat×List Int):RlT:=⟨some r,b⟩
noncomputable def RO(c:Nat×List Int)(F:Hp)(o:HO):Prop:=∃(a l t:Int),o = .dK [(I0 "cells", .ref c.1),(I0 "at", .int a),(I0 "left", .int l),(I0 "turn", .int t)]/\F c.1=some (.lst (c.2.map V.int))/\c.2.length<=63/\0<=a/\0<=l/\0<=t
theorem RO.mono{c:Nat×List Int}{o:HO}(s:bF F F')(h:RO c F o):RO c F' o:=by
 obtain⟨a,l,t,e,q,r⟩:=h
 exact⟨a,l,t,e,s _ _ q,r⟩
mutual
inductive Rep (K:W.Frag) (F:Hp):V->HH->Prop
 | non:Rep K F .non .none
 | bl (b:Bool):Rep K F (.bl b) (.bool b)
 | int (i:Int):Rep K F (.int i) (.int i)
 | str (x:Str):Rep K F (.str x) (.str x)
 | tup {a:Addr} {vs:List V} {ds:List HH}:GM K F a vs->Reps K F vs ds->Rep K F (.ref a) (.tuple ds)
 | lst {a:Addr} {vs:List V} {ds:List HH}:F a=some (.lst vs)->Reps K F vs ds->Rep K F (.ref a) (.list ds)
inductive Reps (K:W.Frag) (F:Hp):List V->List HH->Prop
 | nil:Reps K F [] []
 | cons {v:V} {d:HH} {vs:List V} {ds:List HH}:Rep K F v d->Reps K F vs ds->Reps K F (v::vs) (d::ds)
end
theorem d_{K:W.Frag}{xs:List V}(e:bF H H')(h:GM K H a xs):GM K H' a xs:=by
 rcases h with(h|⟨o,h⟩)|h
 · exact .inl (.inl (e _ _ h))
 · exact .inl (.inr ⟨o,e _ _ h⟩)
 · exact .inr h
theorem rg{K:W.Frag}{xs:List V}(e:bF H H')(h:GN K H a xs):GN K H' a xs:=by
 rcases h with(h|⟨o,h⟩)|h
 · exact .inl (.inl (e _ _ h))
 · exact .inl (.inr ⟨o,e _ _ h⟩)
 · exact .inr h
mutual
theorem Rep.mono{K:W.Frag}{F F':Hp}(s:bF F F'):∀{v:V}{d:HH},Rep K F v d->Rep K F' v d
 | _,_,.non=>.non
 | _,_,.bl b=>.bl b
 | _,_,.int i=>.int i
 | _,_,.str x=>.str x
 | _,_,.tup h r=>.tup (d_ s h) (Reps.mono s r)
 | _,_,.lst h r=>.lst (s _ _ h) (Reps.mono s r)
theorem Reps.mono{K:W.Frag}{F F':Hp}(s:bF F F'):∀{vs:List V}{ds:List HH},Reps K F vs ds->Reps K F' vs ds
 | _,_,.nil=>.nil
 | _,_,.cons h r=>.cons (Rep.mono s h) (Reps.mono s r)
end
theorem Reps.length{K:W.Frag}{F:Hp}:∀{vs:List V}{ds:List HH},Reps K F vs ds->vs.length=ds.length
 | _,_,.nil=>rfl
 | _,_,.cons _ r=>by simp[Reps.length r]
theorem Reps.get{K:W.Frag}{F:Hp}:∀{vs:List V}{ds:List HH}{i:Nat}{d:HH},Reps K F vs ds->ds[i]?=some d->∃v,vs[i]?=some v/\Rep K F v d
 | _,_,_,_,.nil,e=>by simp at e
 | _,_,0,_,.cons h _,e=>by simp at e;subst e;exact⟨_,rfl,h⟩
 | _,_,i+1,d,.cons _ r,e=>by
   obtain⟨v,h1,h2⟩:=Reps.get (i:=i) (d:=d) r (by simpa using e)
   exact⟨v,by simpa using h1,h2⟩
theorem Reps.append{K:W.Frag}{F:Hp}:∀{vs us:List V}{ds es:List HH},Reps K F vs ds->Reps K F us es->Reps K F (vs++us) (ds++es)
 | _,_,_,_,.nil,s=>s
 | _,_,_,_,.cons h r,s=>.cons h (Reps.append r s)
theorem Reps.snoc{K:W.Frag}(r:Reps K F vs ds)(h:Rep K F v d):Reps K F (vs++[v]) (ds++[d]):=r.append (.cons h .nil)
theorem Reps.take{K:W.Frag}{F:Hp}:∀{vs:List V}{ds:List HH}(n:Nat),Reps K F vs ds->Reps K F (vs.take n) (ds.take n)
 | _,_,0,_=>.nil
 | _,_,_+1,.nil=>.nil
 | _,_,n+1,.cons h r=>.cons h (Reps.take n r)
theorem Reps.drop{K:W.Frag}{F:Hp}:∀{vs:List V}{ds:List HH}(n:Nat),Reps K F vs ds->Reps K F (vs.drop n) (ds.drop n)
 | _,_,0,r=>r
 | _,_,_+1,.nil=>.nil
 | _,_,n+1,.cons _ r=>Reps.drop n r
theorem Reps.nil_iff{K:W.Frag}(h:Reps K F vs []):vs=[]:=by cases h;rfl
mutual
theorem Rep.reads{X:Cx}{pins:List (Addr×Obj)}{σ:St}{H F:Hp}{s:HU}(I:Inv X pins σ H s)(sub:bF F H):∀{v:V}{d:HH},Rep X.K F v d->∀u,RelV v u->∃as,Reads s.heap u d as
 | _,_,.non,u,r=>by cases(show u=L0 from r);exact⟨_,.none⟩
 | _,_,.bl b,u,r=>by cases(show u=NY b from r);exact⟨_,.bool b⟩
 | _,_,.int i,u,r=>by obtain⟨t,q⟩:=(show ∃t,u=M4 i t from r);cases q;exact⟨_,.int i t⟩
 | _,_,.str x,u,r=>by obtain⟨t,q⟩:=(show ∃t,u=NM x t from r);cases q;exact⟨_,.str x t⟩
 | _,_,.tup (a:=a) h q,u,r=>by
   cases(show u=Kw a from r)
   obtain⟨its,rv,⟨o,h1,h2,n,h3⟩,hz⟩:=I.tuple (d_ sub h)
   obtain⟨as,ra⟩:=Reps.reads I sub q its rv
   exact⟨_,.tuple h1 h2 h3 (by simpa using ra)⟩
 | _,_,.lst (a:=a) h q,u,r=>by
   cases(show u=Kw a from r)
   obtain⟨its,rv,p,hz⟩:=I.list (.inl (.inl (sub _ _ h)))
   obtain⟨o,h1,h2,n,h3⟩:=p.isList
   obtain⟨as,ra⟩:=Reps.reads I sub q its rv
   exact⟨_,.list h1 h2 h3 (by simpa using ra)⟩
theorem Reps.reads{X:Cx}{pins:List (Addr×Obj)}{σ:St}{H F:Hp}{s:HU}(I:Inv X pins σ H s)(sub:bF F H):∀{vs:List V}{ds:List HH},Reps X.K F vs ds->∀us,cn vs us->∃as,ReadsAll s.heap us ds as
 | _,_,.nil,us,r=>by cases r;exact⟨_,.nil⟩
 | _,_,.cons h q,us,r=>by
   cases r with
   | cons r1 r2 =>
     obtain⟨as,a1⟩:=Rep.reads I sub h _ r1
     obtain⟨bs,a2⟩:=Reps.reads I sub q _ r2
     exact⟨_,.cons a1 a2⟩
end
structure ReelOk (b:Nat×List Int) (F H:Hp) (r:Addr):Prop where
 ex:∃o,H r=some o/\RO b F o
noncomputable def GT(rl:RlT)(F H:Hp):Prop:=∀r,rl.a=some r->F r=none/\ReelOk rl.b F H r
theorem GT.live{rl:RlT}(h:GT rl F H){r:Addr}(e:rl.a=some r):∃o,H r=some o:=by
 obtain⟨_,⟨o,q,_⟩⟩:=h r e
 exact⟨_,q⟩
structure Grow (rl:RlT) (F H F' H':Hp):Prop where
 same:∀b o,H b=some o->rl.a≠some b->H' b=some o
 fs:bF F F'
 sub:bF F' H'
 old:∀b o,H b=some o->F' b=F b
 reel:GT rl F' H'
theorem Grow.refl{rl:RlT}{F H:Hp}(s:bF F H)(r:GT rl F H):Grow rl F H F H:=⟨fun _ _ e _=>e,.refl F,s,fun _ _ _=>rfl,r⟩
theorem Grow.live{rl:RlT}{F H F' H':Hp}(g:Grow rl F H F' H'){b:Addr}{o:HO}(e:H b=some o):∃o',H' b=some o':=by
 by_cases h:rl.a=some b
 · exact g.reel.live h
 · exact⟨o,g.same b o e h⟩
theorem Grow.trans{rl:RlT}{F H F1 H1 F2 H2:Hp}(a:Grow rl F H F1 H1)(b:Grow rl F1 H1 F2 H2):Grow rl F H F2 H2 :=
 ⟨fun c o e n=>b.same c o (a.same c o e n) n,a.fs.trans b.fs,b.sub,fun c o e=>by obtain⟨o',e'⟩:=a.live e;rw[b.old c o' e',a.old c o e],b.reel⟩
theorem Grow.freeB{rl:RlT}(g:Grow rl F H F' H'){b:Addr}(e:H' b=none):H b=none:=by
 cases q:H b with
 | none=>rfl
 | some o=>obtain⟨o',e'⟩:=g.live q;rw[e]at e';cases e'
theorem Grow.laid{rl:RlT}{o:HO}(s:bF F H)(r:GT rl F H)(n:H a=none):Grow rl F H F (EB H a o):=by
 have ne:∀b u,H b=some u->b≠a:=fun b u e=>aX e n
 refine⟨fun b u e _=>by rw[am (ne b u e)];exact e,.refl F,fun b u e=>by rw[am (ne b u (s b u e))];exact s b u e,fun _ _ _=>rfl,fun q e=>?_⟩
 obtain⟨z,⟨u,h1,h2⟩⟩:=r q e
 exact⟨z,⟨u,by rw[am (ne _ _ h1)];exact h1,h2⟩⟩
theorem Grow.data{rl:RlT}{o:HO}(s:bF F H)(r:GT rl F H)(n:H a=none):Grow rl F H (EB F a o) (EB H a o):=by
 have ne:∀b u,H b=some u->b≠a:=fun b u e=>aX e n
 have neF:∀b u,F b=some u->b≠a:=fun b u e=>ne b u (s b u e)
 refine⟨fun b u e _=>by rw[am (ne b u e)];exact e,fun b u e=>by rw[am (neF b u e)];exact e,fun b u e=>?_,fun b u e=>by rw[am (ne b u e)],fun q e=>?_⟩
 · by_cases hb:b=a
   · subst hb;rw[ax]at e ⊢;exact e
   · rw[am hb]at e ⊢;exact s b u e
 · obtain⟨z,⟨u,h1,h2⟩⟩:=r q e
   exact⟨by rw[am (ne _ _ h1)];exact z,⟨u,by rw[am (ne _ _ h1)];exact h1,RO.mono (fun b u e=>by rw[am (neF b u e)];exact e) h2⟩⟩
theorem Grow.freeze{rl:RlT}{F1 H1:Hp}{o:HO}(g:Grow rl F H F1 H1)(n:H a=none)(e:H1 a=some o)(f:F1 a=none)(hr:rl.a≠some a):Grow rl F H (EB F1 a o) H1:=by
 have neF:∀b u,F1 b=some u->b≠a:=fun b u q z=>by subst z;rw[f]at q;cases q
 refine⟨g.same,fun b u q=>by rw[am (neF b u (g.fs b u q))];exact g.fs b u q,fun b u q=>?_,fun b u q=>by rw[am (aX q n)];exact g.old b u q,fun q z=>?_⟩
 · by_cases hb:b=a
   · subst hb;rw[ax]at q;rw[e];exact q
   · rw[am hb]at q;exact g.sub b u q
 · obtain⟨z1,⟨u,h1,h2⟩⟩:=g.reel q z
   exact⟨by rw[am (fun y=>hr (by rw[<- y];exact z))];exact z1,⟨u,h1,RO.mono (fun b u e=>by rw[am (neF b u e)];exact e) h2⟩⟩
inductive W where
 | d (x:HH)
 | ml (xs:List HH)
 | pk (xs:List HH)
 | reel
 | vv (v:V)
 | md (kvs:List (List Hg×HH))
 | mk (kvs:List (Hg×HH))
 | nt (ds:List HH)
 | lk
 | sc (ns:List Int)
 | fd (kvs:List (Hg×HH))
 | fw (kvs:List (Hg×HH))
 | ft (kvs:List (List Hg×HH))
 | xc (x:Str) (fs:List (Str×HH))
 | dp (kvs:List (Hg×HH)) (x:HH)
noncomputable def W.dat:W->Option HH
 | .d x=>some x
 | .ml xs=>some (.list xs)
 | .pk xs=>some (.list xs)
 | .nt ds=>some (.tuple ds)
 | _=>none
noncomputable def W.peek:W->W
 | .ml xs=>.pk xs
 | .md _=>.lk
 | .mk _=>.lk
 | w=>w
noncomputable def W.own:W->Bool
 | .ml _=>true
 | .md _=>true
 | .mk _=>true
 | _=>false
abbrev KD(K:W.Frag)(F:Hp):List (List Hg×V)->List (List Hg×HH)->Prop:=Jy fun p q=>p.1=q.1/\Rep K F p.2 q.2
abbrev Hi(K:W.Frag)(F:Hp):List (Hg×V)->List (Hg×HH)->Prop:=Jy fun p q=>p.1=q.1/\Rep K F p.2 q.2
abbrev Hh(K:W.Frag)(F:Hp):List (Str×V)->List (Str×HH)->Prop:=Jy fun p q=>p.1=q.1/\Rep K F p.2 q.2
noncomputable def BO(e C dx:Addr):Heap->Prop:=fun h=>∃oe vs,h.get? e=some oe/\oe.cls = .ref C/\oe.dict=some dx/\oe.data = .fields vs
noncomputable def wU(K:W.Frag)(rl:RlT)(F H:Hp)(v:V)(kvs:List (List Hg×HH)):Prop:=∃a us,v = .ref a/\F a=none/\rl.a≠some a/\H a=some (.dT us)/\KD K F us kvs
noncomputable def wT(K:W.Frag)(rl:RlT)(F H:Hp)(v:V)(kvs:List (Hg×HH)):Prop:=∃a us,v = .ref a/\F a=none/\rl.a≠some a/\H a=some (.dK us)/\Hi K F us kvs
noncomputable def iB(K:W.Frag)(rl:RlT)(F H:Hp)(v:V)(xs:List HH):Prop:=∃a vs,v = .ref a/\F a=none/\rl.a≠some a/\H a=some (.lst vs)/\Reps K F vs xs
noncomputable def du(K:W.Frag)(rl:RlT)(F H:Hp)(v:V):W->Prop
 | .d x=>Rep K F v x
 | .ml xs=>iB K rl F H v xs
 | .pk xs=>iB K rl F H v xs
 | .reel=>∃r,rl.a=some r/\v = .ref r
 | .vv u=>v=u
 | .md kvs=>wU K rl F H v kvs
 | .mk kvs=>wT K rl F H v kvs
 | .nt ds=>∃a vs,v = .ref a/\F a=some (.tup vs)/\Reps K F vs ds
 | .lk=>True
 | .sc ns=>∃a,v = .ref a/\GN K F a (ns.map V.int)
 | .fd kvs=>∃a us,v = .ref a/\F a=some (.dK us)/\Hi K F us kvs
 | .fw kvs=>∃a us o,v = .ref a/\F a=some (.frz o (.dK us))/\Hi K F us kvs
 | .ft kvs=>∃a us o,v = .ref a/\F a=some (.frz o (.dT us))/\KD K F us kvs
 | .xc x fs=>∃e dx us C,v = .ref e/\W.nsIn K Jf x=some (some (.ref C))/\F e=some (.ext (BO e C dx))/\F dx=some (.xd us)/\Hh K F us fs
 | .dp kvs x=>∃a b us u o,v = .ref a/\F a=some (.tup [.ref b,u])/\F b=some (.frz o (.dK us))/\Hi K F us kvs/\Rep K F u x
theorem wU.grow{K:W.Frag}{rl:RlT}{kvs:List (List Hg×HH)}(g:Grow rl F H F' H')(r:wU K rl F H v kvs):wU K rl F' H' v kvs:=by
 obtain⟨a,us,rfl,h1,h2,h3,h4⟩:=r
 exact⟨a,us,rfl,by rw[g.old a _ h3];exact h1,h2,g.same a _ h3 h2,Jy.mapP h4 fun _ _ z=>⟨z.1,z.2.mono g.fs⟩⟩
theorem wT.grow{K:W.Frag}{rl:RlT}{kvs:List (Hg×HH)}(g:Grow rl F H F' H')(r:wT K rl F H v kvs):wT K rl F' H' v kvs:=by
 obtain⟨a,us,rfl,h1,h2,h3,h4⟩:=r
 exact⟨a,us,rfl,by rw[g.old a _ h3];exact h1,h2,g.same a _ h3 h2,Jy.mapP h4 fun _ _ z=>⟨z.1,z.2.mono g.fs⟩⟩
theorem iB.grow{K:W.Frag}{rl:RlT}(g:Grow rl F H F' H')(r:iB K rl F H v xs):iB K rl F' H' v xs:=by
 obtain⟨a,vs,rfl,h1,h2,h3,h4⟩:=r
 exact⟨a,vs,rfl,by rw[g.old a _ h3];exact h1,h2,g.same a _ h3 h2,h4.mono g.fs⟩
theorem du.grow{K:W.Frag}{rl:RlT}{F H F' H':Hp}{v:V}{w:W}(g:Grow rl F H F' H')(r:du K rl F H v w):du K rl F' H' v w:=by
 cases w with
 | d x=>exact Rep.mono g.fs r
 | ml xs=>exact iB.grow g r
 | pk xs=>exact iB.grow g r
 | reel=>exact r
 | vv u=>exact r
 | md kvs=>exact wU.grow g r
 | mk kvs=>exact wT.grow g r
 | nt ds=>obtain⟨a,vs,e,h,q⟩:=r;exact⟨a,vs,e,g.fs _ _ h,q.mono g.fs⟩
 | lk=>trivial
 | sc ns=>obtain⟨a,e,h⟩:=r;exact⟨a,e,rg g.fs h⟩
 | fd kvs=>obtain⟨a,us,e,h,q⟩:=r;exact⟨a,us,e,g.fs _ _ h,Jy.mapP q fun _ _ z=>⟨z.1,z.2.mono g.fs⟩⟩
 | fw kvs=>obtain⟨a,us,o,e,h,q⟩:=r;exact⟨a,us,o,e,g.fs _ _ h,Jy.mapP q fun _ _ z=>⟨z.1,z.2.mono g.fs⟩⟩
 | ft kvs=>obtain⟨a,us,o,e,h,q⟩:=r;exact⟨a,us,o,e,g.fs _ _ h,Jy.mapP q fun _ _ z=>⟨z.1,z.2.mono g.fs⟩⟩
 | xc _ _=>obtain⟨a,dx,us,C,e,n,h1,h2,q⟩:=r;exact⟨a,dx,us,C,e,n,g.fs _ _ h1,g.fs _ _ h2,Jy.mapP q fun _ _ z=>⟨z.1,z.2.mono g.fs⟩⟩
 | dp _ _=>obtain⟨a,b,us,u,o,e,h1,h2,q,z⟩:=r;exact⟨a,b,us,u,o,e,g.fs _ _ h1,g.fs _ _ h2,Jy.mapP q fun _ _ z=>⟨z.1,z.2.mono g.fs⟩,z.mono g.fs⟩
theorem du.peek{K:W.Frag}{rl:RlT}{w:W}(r:du K rl F H v w):du K rl F H v w.peek:=by cases w<;>first|exact r|trivial
theorem iB.rep{K:W.Frag}{rl:RlT}(s:bF F H)(r:iB K rl F H v xs):Rep K H v (.list xs):=by
 obtain⟨a,vs,rfl,h1,h2,h3,h4⟩:=r
 exact .lst h3 (h4.mono s)
theorem du.dat{K:W.Frag}{rl:RlT}{w:W}{x:HH}(s:bF F H)(r:du K rl F H v w)(e:w.dat=some x):Rep K H v x:=by
 cases w with
 | d y=>cases e;exact Rep.mono s r
 | ml xs=>cases e;exact iB.rep s r
 | pk xs=>cases e;exact iB.rep s r
 | reel=>cases e
 | vv u=>cases e
 | md kvs=>cases e
 | mk kvs=>cases e
 | nt ds=>cases e;obtain⟨a,vs,rfl,h,q⟩:=r;exact .tup (.inl (.inl (s _ _ h))) (q.mono s)
 | lk=>cases e
 | sc _=>cases e
 | fd _=>cases e
 | fw _=>cases e
 | ft _=>cases e
 | xc _ _=>cases e
 | dp _ _=>cases e
theorem du.items{K:W.Frag}{rl:RlT}{w:W}(s:bF F H)(r:du K rl F H v w)(e:w.dat=some (.list xs)):∃a vs,v = .ref a/\GN K H a vs/\Reps K F vs xs:=by
 have own:iB K rl F H v xs->∃a vs,v = .ref a/\GN K H a vs/\Reps K F vs xs:=fun⟨a,vs,e1,_,_,e2,e3⟩=>⟨a,vs,e1,.inl (.inl e2),e3⟩
 cases w with
 | d y =>
   cases e
   cases(show Rep K F v (.list xs)from r)with
   | lst h q=>exact⟨_,_,rfl,.inl (.inl (s _ _ h)),q⟩
 | ml ys=>cases e;exact own r
 | pk ys=>cases e;exact own r
 | reel=>cases e
 | vv u=>cases e
 | md kvs=>cases e
 | mk kvs=>cases e
 | nt ds=>cases e
 | lk=>cases e
 | sc _=>cases e
 | fd _=>cases e
 | fw _=>cases e
 | ft _=>cases e
 | xc _ _=>cases e
 | dp _ _=>cases e
theorem du.itemsT{K:W.Frag}{rl:RlT}{w:W}(s:bF F H)(r:du K rl F H v w)(e:w.dat=some (.tuple xs)):∃a vs,v = .ref a/\GM K H a vs/\Reps K F vs xs:=by
 cases w with
 | d y =>
   cases e
   cases(show Rep K F v (.tuple xs)from r)with
   | tup h q=>exact⟨_,_,rfl,d_ s h,q⟩
 | ml ys=>cases e
 | pk ys=>cases e
 | reel=>cases e
 | vv u=>cases e
 | md kvs=>cases e
 | mk kvs=>cases e
 | nt ds=>cases e;obtain⟨a,vs,rfl,h,q⟩:=r;exact⟨a,vs,rfl,.inl (.inl (s _ _ h)),q⟩
 | lk=>cases e
 | sc _=>cases e
 | fd _=>cases e
 | fw _=>cases e
 | ft _=>cases e
 | xc _ _=>cases e
 | dp _ _=>cases e
noncomputable def dR(H:Hp)(v:V):W->Prop
 | .ml _=>∀a,v = .ref a->H a=none
 | .md _=>∀a,v = .ref a->H a=none
 | .mk _=>∀a,v = .ref a->H a=none
 | _=>True
theorem du.live{K:W.Frag}{rl:RlT}{w:W}(r:du K rl F H v w)(h:w.own=true):∃a o,v = .ref a/\H a=some o:=by
 cases w with
 | ml xs=>obtain⟨a,vs,e,_,_,hh,_⟩:=r;exact⟨a,_,e,hh⟩
 | md xs=>obtain⟨a,vs,e,_,_,hh,_⟩:=r;exact⟨a,_,e,hh⟩
 | mk xs=>obtain⟨a,vs,e,_,_,hh,_⟩:=r;exact⟨a,_,e,hh⟩
 | _=>cases h
theorem dR.none{w:W}(n:dR H v w)(h:w.own=true)(e:v = .ref a):H a=none:=by
 cases w with
 | ml xs=>exact n a e
 | md xs=>exact n a e
 | mk xs=>exact n a e
 | _=>cases h
abbrev En:=List (Option W)
structure VR (K:W.Frag) (rl:RlT) (F₀ H₀ F H:Hp) (σ:St) (ρ:En):Prop where
 g:Grow rl F₀ H₀ F H
 sl:∀(i:Nat) w,ρ[i]?=some (some w)->∃v,σ[i]?=some (some v)/\du K rl F H v w/\dR H₀ v w
 ap:∀(i j:Nat)(x y:W) v,i≠j->ρ[i]?=some (some x)->ρ[j]?=some (some y)->x.own=true->y.own=true->σ[i]?=some (some v)->σ[j]?=some (some v)->False
 np:∀(i:Nat) xs,ρ[i]?≠some (some (W.pk xs))
 len:ρ.length=σ.length
section
variable{K:W.Frag}{rl:RlT}{F₀ H₀ F H F' H':Hp}{σ:St}{ρ:En}
theorem VR.sub(r:VR K rl F₀ H₀ F H σ ρ):bF F H:=r.g.sub
theorem VR.reel(r:VR K rl F₀ H₀ F H σ ρ):GT rl F H:=r.g.reel
theorem VR.grow(r:VR K rl F₀ H₀ F H σ ρ)(g:Grow rl F H F' H'):VR K rl F₀ H₀ F' H' σ ρ :=
 ⟨r.g.trans g,fun i w e=>let ⟨v,e1,e2,e3⟩:=r.sl i w e;⟨v,e1,e2.grow g,e3⟩,r.ap,r.np,r.len⟩
theorem VR.set(r:VR K rl F₀ H₀ F H σ ρ){H1 F1:Hp}(g:Grow rl F H F1 H1){w:W}(rw':du K rl F1 H1 v w)(hn:dR H v w)(hp:∀xs,w ≠ .pk xs)(i:Nat):VR K rl F₀ H₀ F1 H1 (σ.set i (some v)) (ρ.set i (some w)):=by
 have r1:=r.grow g
 refine⟨r1.g,fun j w' e=>?_,fun j k xs ys u hjk e1 e2 w1 w2 s1 s2=>?_,fun j xs z=>?_,by simp[r.len]⟩
 · by_cases hj:i=j
   · subst hj
     have hi:i<ρ.length:=by
      rw[Jw]at e
      by_cases hi:i<ρ.length
      · exact hi
      · simp[hi]at e
     rw[IE hi]at e
     cases e
     refine⟨v,by rw[IE (by rw[<- r.len];exact hi)],rw',?_⟩
     cases w with
     | ml xs=>exact fun a ea=>r.g.freeB (hn a ea)
     | d x=>trivial
     | pk xs=>trivial
     | reel=>trivial
     | vv u=>trivial
     | md xs=>exact fun a ea=>r.g.freeB (hn a ea)
     | mk xs=>exact fun a ea=>r.g.freeB (hn a ea)
     | nt ds=>trivial
     | lk=>trivial
     | sc _=>trivial
     | fd _=>trivial
     | fw _=>trivial
     | ft _=>trivial
     | xc _ _=>trivial
     | dp _ _=>trivial
   · rw[IA hj]at e
     obtain⟨u,h1,h2,h3⟩:=r1.sl j w' e
     exact⟨u,by rw[IA hj];exact h1,h2,h3⟩
 · have key:∀(k:Nat)(x y:W),ρ[k]?=some (some y)->some (some w)=some (some x)->x.own=true->y.own=true->σ[k]?=some (some v)->False:=fun k x y d2 e1 o1 o2 s2=>by
     cases e1
     obtain⟨u',h1,h2,h3⟩:=r.sl k _ d2
     rw[s2]at h1
     cases h1
     obtain⟨a,o,ea,hh⟩:=h2.live o2
     rw[hn.none o1 ea]at hh
     cases hh
   by_cases hj:i=j
   · subst hj
     have hk:i≠k:=hjk
     have hi:i<ρ.length:=by
      rw[Jw]at e1
      by_cases hi:i<ρ.length
      · exact hi
      · simp[hi]at e1
     rw[IE hi]at e1
     rw[IA hk]at e2 s2
     rw[IE (by rw[<- r.len];exact hi)]at s1
     cases s1
     exact key k xs ys e2 e1 w1 w2 s2
   · by_cases hk:i=k
     · subst hk
       have hi:i<ρ.length:=by
        rw[Jw]at e2
        by_cases hi:i<ρ.length
        · exact hi
        · simp[hi]at e2
       rw[IE hi]at e2
       rw[IA hj]at e1 s1
       rw[IE (by rw[<- r.len];exact hi)]at s2
       cases s2
       exact key j ys xs e1 e2 w2 w1 s1
     · rw[IA hj]at e1 s1
       rw[IA hk]at e2 s2
       exact r.ap j k xs ys u hjk e1 e2 w1 w2 s1 s2
 · rw[Jw]at z
   split at z
   · split at z
     · exact hp xs (Jc (Jc z))
     · cases z
   · exact r.np j xs z
theorem VR.freeze(r:VR K rl F₀ H₀ F H σ ρ){i:Nat}{xs:List HH}(e:ρ[i]?=some (some (.ml xs))):∃F1,VR K rl F₀ H₀ F1 H σ (ρ.set i (some (.d (.list xs)))):=by
 obtain⟨v,h1,h2,h3⟩:=r.sl i _ e
 obtain⟨a,vs,rfl,f,hr,hh,q⟩:=(show iB K rl F H v xs from h2)
 have hi:i<ρ.length:=(Iy.mp e).1
 have neF:∀b u,F b=some u->b≠a:=fun b u q z=>by subst z;rw[f]at q;cases q
 have fsm:bF F (EB F a (.lst vs)):=fun b u z=>by rw[am (neF b u z)];exact z
 refine⟨EB F a (.lst vs),r.g.freeze (h3 a rfl) hh f hr,fun j w e1=>?_,fun j k ys zs u hjk e1 e2 w1 w2 s1 s2=>?_,fun j ys z=>?_,by simp[r.len]⟩
 · by_cases hj:i=j
   · subst hj
     rw[IE hi]at e1
     cases e1
     exact⟨.ref a,h1,.lst ax (q.mono fsm),trivial⟩
   · rw[IA hj]at e1
     obtain⟨u,g1,g2,g3⟩:=r.sl j w e1
     refine⟨u,g1,?_,g3⟩
     have own:∀ys,(∀zs,w = .ml zs->ys=zs)->iB K rl F H u ys->(∃b,u = .ref b/\b≠a)->iB K rl (EB F a (.lst vs)) H u ys:=fun ys _ ⟨b,us,eb,f1,f2,f3,f4⟩ ⟨b',eb',ne⟩=>by
      rw[eb]at eb'
      cases eb'
      exact⟨b,us,eb,by rw[am ne];exact f1,f2,f3,f4.mono fsm⟩
     cases w with
     | d x=>exact Rep.mono fsm g2
     | reel=>exact g2
     | vv u=>exact g2
     | ml ys =>
       obtain⟨b,us,eb,f1,f2,f3,f4⟩:=(show iB K rl F H u ys from g2)
       have ne:b≠a:=fun z=>r.ap i j _ _ (.ref a) hj e e1 rfl rfl h1 (by rw[g1,eb,z])
       exact⟨b,us,eb,by rw[am ne];exact f1,f2,f3,f4.mono fsm⟩
     | pk ys=>exact absurd e1 (r.np j ys)
     | md ys =>
       obtain⟨b,us,eb,f1,f2,f3,f4⟩:=(show wU K rl F H u ys from g2)
       have ne:b≠a:=fun z=>r.ap i j _ _ (.ref a) hj e e1 rfl rfl h1 (by rw[g1,eb,z])
       exact⟨b,us,eb,by rw[am ne];exact f1,f2,f3,Jy.mapP f4 fun _ _ z=>⟨z.1,z.2.mono fsm⟩⟩
     | mk ys =>
       obtain⟨b,us,eb,f1,f2,f3,f4⟩:=(show wT K rl F H u ys from g2)
       have ne:b≠a:=fun z=>r.ap i j _ _ (.ref a) hj e e1 rfl rfl h1 (by rw[g1,eb,z])
       exact⟨b,us,eb,by rw[am ne];exact f1,f2,f3,Jy.mapP f4 fun _ _ z=>⟨z.1,z.2.mono fsm⟩⟩
     | nt ds=>obtain⟨b,us,eb,f1,f2⟩:=g2;exact⟨b,us,eb,fsm _ _ f1,f2.mono fsm⟩
     | lk=>trivial
     | sc ns=>obtain⟨b,eb,f1⟩:=g2;exact⟨b,eb,rg fsm f1⟩
     | fd kvs=>obtain⟨b,us,eb,f1,f2⟩:=g2;exact⟨b,us,eb,fsm _ _ f1,Jy.mapP f2 fun _ _ z=>⟨z.1,z.2.mono fsm⟩⟩
     | fw kvs=>obtain⟨b,us,o,eb,f1,f2⟩:=g2;exact⟨b,us,o,eb,fsm _ _ f1,Jy.mapP f2 fun _ _ z=>⟨z.1,z.2.mono fsm⟩⟩
     | ft kvs=>obtain⟨b,us,o,eb,f1,f2⟩:=g2;exact⟨b,us,o,eb,fsm _ _ f1,Jy.mapP f2 fun _ _ z=>⟨z.1,z.2.mono fsm⟩⟩
     | xc _ _=>obtain⟨b,dx,us,C,eb,n,f1,f3,f2⟩:=g2;exact⟨b,dx,us,C,eb,n,fsm _ _ f1,fsm _ _ f3,Jy.mapP f2 fun _ _ z=>⟨z.1,z.2.mono fsm⟩⟩
     | dp _ _=>obtain⟨c,b,us,u,o,eb,f1,f3,f2,z⟩:=g2;exact⟨c,b,us,u,o,eb,fsm _ _ f1,fsm _ _ f3,Jy.mapP f2 fun _ _ z=>⟨z.1,z.2.mono fsm⟩,z.mono fsm⟩
 · have nd:∀(j:Nat)(y:W),(ρ.set i (some (W.d (.list xs))))[j]?=some (some y)->y.own=true->ρ[j]?=some (some y):=fun j y z o=>by
     by_cases hj:i=j
     · subst hj
       rw[IE hi]at z
       cases z
       cases o
     · rw[IA hj]at z
       exact z
   exact r.ap j k ys zs u hjk (nd j ys e1 w1) (nd k zs e2 w2) w1 w2 s1 s2
 · rw[Jw]at z
   split at z
   · first|cases z|(split at z<;>cases z)
   · exact r.np j ys z
end
abbrev TV:=En->(W->Prop)->Prop
abbrev TB:=En->(Bool->Prop)->Prop
abbrev GF:=En->(List W->Prop)->Prop
abbrev gQ(K:W.Frag)(rl:RlT)(F H:Hp):List V->List W->Prop:=Jy (du K rl F H)
noncomputable def PV(X:Cx)(rl:RlT)(e:Expr)(f:TV):Prop:=∃t,PE X e t/\∀{F₀ H₀ F H:Hp}{σ:St}{ρ:En},VR X.K rl F₀ H₀ F H σ ρ->∀(Qd:W->Prop)(Q:VK),f ρ Qd ->
 (∀v w F' H',Grow rl F H F' H'->du X.K rl F' H' v w->dR H v w->Qd w->Q v H')->t σ H Q
noncomputable def PB(X:Cx)(rl:RlT)(e:Expr)(f:TB):Prop:=∃t,PT X e t/\∀{F₀ H₀ F H:Hp}{σ:St}{ρ:En},VR X.K rl F₀ H₀ F H σ ρ->∀(Qd:Bool->Prop)(Q:Bool->Hp->Prop),f ρ Qd ->
 (∀b F' H',Grow rl F H F' H'->Qd b->Q b H')->t σ H Q
noncomputable def GV(X:Cx)(rl:RlT)(es:List Expr)(f:GF):Prop:=∃t,PA X es t/\∀{F₀ H₀ F H:Hp}{σ:St}{ρ:En},VR X.K rl F₀ H₀ F H σ ρ->∀(Qd:List W->Prop)(Q:List V->Hp->Prop),f ρ Qd ->
 (∀vs ws F' H',Grow rl F H F' H'->gQ X.K rl F' H' vs ws->Qd ws->Q vs H')->t σ H Q
noncomputable def W.fz:W->W
 | .ml xs=>.d (.list xs)
 | .nt ds=>.d (.tuple ds)
 | w=>w
theorem du.fz{K:W.Frag}{rl:RlT}{F1 H1:Hp}{w:W}(g:Grow rl F H F1 H1)(r:du K rl F1 H1 v w)(n:dR H v w):∃F2,Grow rl F H F2 H1/\bF F1 F2/\du K rl F2 H1 v w.fz:=by
 cases w with
 | d x=>exact⟨F1,g,.refl _,r⟩
 | pk xs=>exact⟨F1,g,.refl _,r⟩
 | reel=>exact⟨F1,g,.refl _,r⟩
 | vv u=>exact⟨F1,g,.refl _,r⟩
 | md u=>exact⟨F1,g,.refl _,r⟩
 | mk u=>exact⟨F1,g,.refl _,r⟩
 | lk=>exact⟨F1,g,.refl _,r⟩
 | sc _=>exact⟨F1,g,.refl _,r⟩
 | fd _=>exact⟨F1,g,.refl _,r⟩
 | fw _=>exact⟨F1,g,.refl _,r⟩
 | ft _=>exact⟨F1,g,.refl _,r⟩
 | xc _ _=>exact⟨F1,g,.refl _,r⟩
 | dp _ _=>exact⟨F1,g,.refl _,r⟩
 | nt ds=>obtain⟨a,vs,rfl,h,q⟩:=r;exact⟨F1,g,.refl _,.tup (.inl (.inl h)) q⟩
 | ml xs =>
   obtain⟨a,vs,rfl,f,hr,hh,q⟩:=(show iB K rl F1 H1 v xs from r)
   have neF:∀b u,F1 b=some u->b≠a:=fun b u q z=>by subst z;rw[f]at q;cases q
   have fsm:bF F1 (EB F1 a (.lst vs)):=fun b u z=>by rw[am (neF b u z)];exact z
   exact⟨EB F1 a (.lst vs),g.freeze (n a rfl) hh f hr,fsm,.lst ax (q.mono fsm)⟩
section
variable{X:Cx}{rl:RlT}{a b e:Expr}{es:List Expr}{fa fb fc:TV}{fs:GF}{pos p:Pos}
noncomputable def vC(x:HH):TV:=fun _ Q=>Q (.d x)
theorem fM{x:HH}(h:PE X e (tC v))(r:∀F,Rep X.K F v x):PV X rl e (vC x) :=
 ⟨_,h,fun R Qd Q q k=>k v (.d x) _ _ (Grow.refl R.sub R.reel) (r _) trivial q⟩
theorem ae{i:Int}{j pos}:PV X rl (.Constant (.int i) j pos) (vC (.int i)):=fM lB fun _=>.int i
theorem mV{i:Bool}{j pos}:PV X rl (.Constant (.bool i) j pos) (vC (.bool i)):=fM A_ fun _=>.bl i
theorem aH{j pos}:PV X rl (.Constant (.str x) j pos) (vC (.str x)):=fM dq fun _=>.str x
theorem ve{pos:Pos}(hm:X.mg x=some u)(r:RelV v u)(h:∀F,Rep X.K F v d)(hg:Gl X x:=by rfl)(hd:(x==("__debug__" : Str))=false:=by decide):PV X rl (.Name x pos) (vC d) :=
 fM (vH hg hm r hd) h
noncomputable def uC(i:Nat):TV:=fun ρ Q=>∃w,ρ[i]?=some (some w)/\Q w.peek
theorem vn(i:Nat){pos:Pos}(hN:X.N[i]?=some x:=by rfl)(hv:GB X.env.scope x:=by first|exact J0 rfl|exact Jq (J0 rfl)|exact Jq (Jq rfl))(hd:(x==("__debug__" : Str))=false:=by decide)
 (hcd:(x==("__classdict__" : Str))=false:=by decide):PV X rl (.Name x pos) (uC i) :=
 ⟨_,cG hN hv hd hcd,fun R Qd Q ⟨w,e,q⟩ k=>by
  obtain⟨v,e1,r,_⟩:=R.sl i w e
  refine⟨v,e1,k v w.peek _ _ (Grow.refl R.sub R.reel) r.peek ?_ q⟩
  cases w<;>trivial⟩
noncomputable def sU:GF:=fun _ Q=>Q []
noncomputable def jv(f:TV)(fs:GF):GF:=fun ρ Q=>f ρ fun w=>fs ρ fun ws=>Q (w.fz::ws)
theorem ac:GV X rl [] sU:=⟨_,oT,fun R Qd Q q k=>k [] [] _ _ (Grow.refl R.sub R.reel) .nil q⟩
theorem aa(h1:PV X rl e fa)(h2:GV X rl es fs)(hs:HZ (e::es) X.env=(false,eval e X.env)::HZ es X.env:=by rfl):GV X rl (e::es) (jv fa fs):=by
 obtain⟨t,p1,k1⟩:=h1
 obtain⟨ts,p2,k2⟩:=h2
 refine⟨_,gm p1 p2 hs,fun R Qd Q q k=>?_⟩
 refine k1 R _ _ q fun v w F1 H1 g1 r1 n1 q1=>?_
 obtain⟨F2,g2,s2,r2⟩:=du.fz g1 r1 n1
 refine k2 (R.grow g2) _ _ q1 fun vs ws F3 H3 g3 r3 q3=>?_
 exact k (v::vs) (w.fz::ws) F3 H3 (g2.trans g3) (.cons (r2.grow g3) r3) q3
noncomputable def GC(X:Cx)(rl:RlT)(r:R2)(g:W->W->(W->Prop)->Prop):Prop:=∀{F H:Hp}{x y:V}{wx wy:W}(Qd:W->Prop)(Q:VK),bF F H->GT rl F H->du X.K rl F H x wx->du X.K rl F H y wy->g wx wy Qd ->
 (∀v w F' H',Grow rl F H F' H'->du X.K rl F' H' v w->dR H v w->Qd w->Q v H')->r x y H Q
noncomputable def Ez(g:W->W->(W->Prop)->Prop)(fa fb:TV):TV:=fun ρ Q=>fa ρ fun x=>fb ρ fun y=>g x y Q
theorem nB{r:R2}{g:W->W->(W->Prop)->Prop}(vo:GC X rl r g)(ha:PV X rl a fa)(hb:PV X rl b fb){e:Expr}(hp:∀ta tb,PE X a ta->PE X b tb->PE X e (EM r ta tb)):PV X rl e (Ez g fa fb):=by
 obtain⟨ta,p1,k1⟩:=ha
 obtain⟨tb,p2,k2⟩:=hb
 refine⟨_,hp ta tb p1 p2,fun R Qd Q q k=>?_⟩
 refine k1 R _ _ q fun v w F1 H1 g1 r1 n1 q1=>?_
 refine k2 (R.grow g1) _ _ q1 fun v2 w2 F2 H2 g2 r2 n2 q2=>?_
 exact vo Qd Q g2.sub g2.reel (r1.grow g2) r2 q2 fun v3 w3 F3 H3 g3 r3 n3 q3=>k v3 w3 F3 H3 ((g1.trans g2).trans g3) r3 (by
  cases w3 with
  | ml xs=>exact fun a ea=>g1.freeB (g2.freeB (n3 a ea))
  | md xs=>exact fun a ea=>g1.freeB (g2.freeB (n3 a ea))
  | mk xs=>exact fun a ea=>g1.freeB (g2.freeB (n3 a ea))
  | nt _=>trivial
  | lk=>trivial
  | sc _=>trivial
  | fd _=>trivial
  | fw _=>trivial
  | ft _=>trivial
  | xc _ _=>trivial
  | dp _ _=>trivial
  | d _=>trivial
  | pk _=>trivial
  | reel=>trivial
  | vv _=>trivial) q3
theorem gZ{op:Of}{r:R2}{g:W->W->(W->Prop)->Prop}(ho:G9 X (KQ op) r)(vo:GC X rl r g)(ha:PV X rl a fa)(hb:PV X rl b fb):PV X rl (.BinOp a op b pos) (Ez g fa fb) :=
 nB vo ha hb fun _ _ p1 p2=>A9 ho p1 p2
noncomputable def gI(C:Int->Int->Prop)(g:Int->Int->HH):W->W->(W->Prop)->Prop:=fun x y Q=>∃i j,x = .d (.int i)/\y = .d (.int j)/\C i j/\Q (.d (g i j))
theorem aL{K:W.Frag}{i:Int}(h:Rep K F v (.int i)):v = .int i:=by cases h;rfl
theorem fQ{C:Int->Int->Prop}{g:Int->Int->V}{gd:Int->Int->HH}(h:∀K F i j,Rep K F (g i j) (gd i j)):GC X rl (rI C g) (gI C gd):=fun{F H x y wx wy} Qd Q s ra r1 r2 q k=>by
 obtain⟨i,j,rfl,rfl,c,q⟩:=q
 exact⟨i,j,aL r1,aL r2,c,k _ (.d _) _ _ (Grow.refl s ra) (h _ _ i j) trivial q⟩
noncomputable def Gj(g:Int->Int->HH):W->W->(W->Prop)->Prop:=fun x y Q=>∃i j,x = .d (.int i)/\y = .d (.int j)/\Q (.d (g i j))
theorem dv{g:Int->Int->V}{gd:Int->Int->HH}(h:∀K F i j,Rep K F (g i j) (gd i j)):GC X rl (Fi g) (Gj gd):=fun{F H x y wx wy} Qd Q s ra r1 r2 q k=>by
 obtain⟨i,j,rfl,rfl,q⟩:=q
 exact⟨i,j,aL r1,aL r2,k _ (.d _) _ _ (Grow.refl s ra) (h _ _ i j) trivial q⟩
theorem v_add(ha:PV X rl a fa)(hb:PV X rl b fb):PV X rl (.BinOp a .Add b pos) (Ez (Gj fun i j=>.int (i+j)) fa fb):=gZ yS (dv fun _ _ _ _=>.int _) ha hb
theorem v_sub(ha:PV X rl a fa)(hb:PV X rl b fb):PV X rl (.BinOp a .Sub b pos) (Ez (Gj fun i j=>.int (i-j)) fa fb):=gZ yO (dv fun _ _ _ _=>.int _) ha hb
noncomputable def HA(i:Int):Prop:=i.natAbs<2^60000
theorem HA.bits{i:Int}(h:HA i):Builtin.Int.intBits i<=60000:=Nu.mpr h
noncomputable def aN(i j:Int):Prop:=i.natAbs<2^64\/j.natAbs<2^64\/(HA i/\HA j)
theorem aN.lt{i j:Int}(h:i.natAbs<2^64):aN i j:=.inl h
theorem aN.rt{i j:Int}(h:j.natAbs<2^64):aN i j:=.inr (.inl h)
theorem aN.bb{i j:Int}(h:HA i)(h':HA j):aN i j:=.inr (.inr ⟨h,h'⟩)
theorem aN.ok{i j:Int}(h:aN i j):IntMulOk i j:=by
 rcases h with h|h|h
 · exact .of_left (Nu.mpr h)
 · exact .of_right (Nu.mpr h)
 · exact IntMulOk.of_le h.1.bits h.2.bits (by decide)
theorem vM:G9 X (KQ .Mult) (rI aN fun i j=>.int (i*j)):=Fu fun _ _ _ _ _ _ _ hc q=>mul_int q hc.ok
theorem v_mul(ha:PV X rl a fa)(hb:PV X rl b fb):PV X rl (.BinOp a .Mult b pos) (Ez (gI aN fun i j=>.int (i*j)) fa fb):=gZ vM (fQ fun _ _ _ _=>.int _) ha hb
noncomputable def fI(_ j:Int):Prop:=j≠0/\j.natAbs<2^9000
theorem rL:G9 X (KQ .FloorDiv) (rI fI fun i j=>.int (i.fdiv j)):=Fu fun _ j _ _ _ _ _ hc q=>floordiv_int hc.1 q (.inl (PyProof.noPylong_of_log2 ((Nat.log2_lt (by have:=hc.1;omega)).mpr hc.2)))
theorem v_div(ha:PV X rl a fa)(hb:PV X rl b fb):PV X rl (.BinOp a .FloorDiv b pos) (Ez (gI fI fun i j=>.int (i.fdiv j)) fa fb):=gZ rL (fQ fun _ _ _ _=>.int _) ha hb
theorem v_mod(ha:PV X rl a fa)(hb:PV X rl b fb):PV X rl (.BinOp a .Mod b pos) (Ez (gI (fun _ j=>j≠0) fun i j=>.int (i.fmod j)) fa fb):=gZ vN (fQ fun _ _ _ _=>.int _) ha hb
theorem v_pow(ha:PV X rl a fa)(hb:PV X rl b fb):PV X rl (.BinOp a .Pow b pos) (Ez (gI zW fun i j=>.int (i^j.toNat)) fa fb):=gZ yQ (fQ fun _ _ _ _=>.int _) ha hb
noncomputable def AB(fa:TV):TV:=fun ρ Q=>fa ρ fun x=>∃i,x = .d (.int i)/\Q (.d (.int (-i)))
theorem mF(ha:PV X rl a fa):PV X rl (.UnaryOp .USub a pos) (AB fa):=by
 obtain⟨ta,p1,k1⟩:=ha
 refine⟨_,A7 xB p1,fun R Qd Q q k=>k1 R _ _ q fun v w F1 H1 g1 r1 n1 ⟨i,ew,q1⟩=>?_⟩
 subst ew
 exact⟨i,aL r1,k _ (.d _) F1 H1 g1 (.int _) trivial q1⟩
theorem eR{r:R2}{g:W->W->(W->Prop)->Prop}(ho:G9 X (Kl op) r)(vo:GC X rl r g)(hm:Lr op b=false)(ha:PV X rl a fa)(hb:PV X rl b fb):PV X rl (.Compare a [op] [b] pos) (Ez g fa fb) :=
 nB vo ha hb fun _ _ p1 p2=>vI ho p1 p2 hm
noncomputable def nO(f:TV):TB:=fun ρ Q=>f ρ fun w=>∃k,w = .d (.bool k)/\Q k
theorem e8{K:W.Frag}{i:Bool}(h:Rep K F v (.bool i)):v = .bl i:=by cases h;rfl
theorem aF{r:R2}{g:W->W->(W->Prop)->Prop}(ho:G9 X (Kl op) r)(vo:GC X rl r g)(hm:Lr op b=false)(ha:PV X rl a fa)(hb:PV X rl b fb):PB X rl (.Compare a [op] [b] pos) (nO (Ez g fa fb)):=by
 obtain⟨ta,p1,k1⟩:=ha
 obtain⟨tb,p2,k2⟩:=hb
 refine⟨_,vj ho p1 p2 hm,fun R Qd Q q k=>?_⟩
 refine k1 R _ _ q fun v w F1 H1 g1 r1 n1 q1=>?_
 refine k2 (R.grow g1) _ _ q1 fun v2 w2 F2 H2 g2 r2 n2 q2=>?_
 refine vo _ _ g2.sub g2.reel (r1.grow g2) r2 q2 fun v3 w3 F3 H3 g3 r3 n3 ⟨kb,ew,q3⟩=>?_
 subst ew
 exact⟨kb,e8 r3,k kb F3 H3 ((g1.trans g2).trans g3) q3⟩
theorem de(ha:PV X rl e fa)(he:∀whole,isTrue e X.env whole=(do let v <- whole;MG e.pos;MH [v] (truthy v)):=by intro _;rfl):PB X rl e (nO fa):=by
 obtain⟨ta,p1,k1⟩:=ha
 refine⟨_,yw p1 he,fun R Qd Q q k=>k1 R _ _ q fun v w F1 H1 g1 r1 n1 ⟨kb,ew,q1⟩=>?_⟩
 subst ew
 exact⟨kb,e8 r1,k kb F1 H1 g1 q1⟩
abbrev Af(p:Int->Int->Bool):=Gj fun i j=>.bool (p i j)
theorem fR:GC X rl (Fi fun i j=>.bl (decide (i<j))) (Af fun i j=>decide (i<j)):=dv fun _ _ _ _=>.bl _
theorem As:GC X rl (Fi fun i j=>.bl (decide (i<=j))) (Af fun i j=>decide (i<=j)):=dv fun _ _ _ _=>.bl _
theorem nE:GC X rl (Fi fun i j=>.bl (decide (j<i))) (Af fun i j=>decide (j<i)):=dv fun _ _ _ _=>.bl _
theorem Au:GC X rl (Fi fun i j=>.bl (decide (j<=i))) (Af fun i j=>decide (j<=i)):=dv fun _ _ _ _=>.bl _
noncomputable def AX(K:W.Frag)(neg:Bool):R2:=fun x y H Q=>∃dx dy,Rep K H x dx/\Rep K H y dy/\IW dx=true/\IW dy=true/\Q (.bl (if neg then !IB dx dy else IB dx dy)) H
theorem cC(hu:X.A.units+64<Ot):G9 X (Kl .Eq) (AX X.K false):=by
 intro pins s σ H x y v u Q I rx ry ⟨dx,dy,h1,h2,s1,s2,q⟩
 obtain⟨as,a1⟩:=Rep.reads I (.refl H) h1 v rx
 obtain⟨bs,a2⟩:=Rep.reads I (.refl H) h2 u ry
 exact SeqAt.compareEq_shaped a1 a2 s1 s2 hu ⟨.bl _,H,I,rfl,q⟩
theorem gt(hu:X.A.units+64<Ot):G9 X (Kl .NotEq) (AX X.K true):=by
 intro pins s σ H x y v u Q I rx ry ⟨dx,dy,h1,h2,s1,s2,q⟩
 obtain⟨as,a1⟩:=Rep.reads I (.refl H) h1 v rx
 obtain⟨bs,a2⟩:=Rep.reads I (.refl H) h2 u ry
 exact SeqAt.compareNe_shaped a1 a2 s1 s2 hu ⟨.bl _,H,I,rfl,q⟩
noncomputable def By(neg:Bool):W->W->(W->Prop)->Prop:=fun x y Q=>∃dx dy,x.dat=some dx/\y.dat=some dy/\IW dx=true/\IW dy=true/\Q (.d (.bool (if neg then !IB dx dy else IB dx dy)))
theorem bX{neg:Bool}:GC X rl (AX X.K neg) (By neg):=fun{F H x y wx wy} Qd Q s ra r1 r2 q k=>by
 obtain⟨dx,dy,e1,e2,s1,s2,q⟩:=q
 exact⟨dx,dy,r1.dat s e1,r2.dat s e2,s1,s2,k _ (.d _) _ _ (Grow.refl s ra) (.bl _) trivial q⟩
noncomputable def AG(f g:TB):TB:=fun ρ Q=>f ρ fun b=>if b=true then g ρ Q else Q false
noncomputable def Ey(f g:TB):TB:=fun ρ Q=>f ρ fun b=>if b=true then Q true else g ρ Q
noncomputable def CU(f:TB):TB:=fun ρ Q=>f ρ fun b=>Q (!b)
noncomputable def G8(X:Cx)(rl:RlT)(e:Expr)(f:TB):Prop:=∃t,PW X e t/\∀{F₀ H₀ F H:Hp}{σ:St}{ρ:En},VR X.K rl F₀ H₀ F H σ ρ->∀(Qd:Bool->Prop)(Q:Bool->Hp->Prop),f ρ Qd ->
 (∀b F' H',Grow rl F H F' H'->Qd b->Q b H')->t σ H Q
variable{f g:TB}{rest:List Expr}
theorem G8.pb(h:G8 X rl e f):PB X rl e f:=let ⟨t,p,k⟩:=h;⟨t,p.pt,k⟩
theorem df(ha:PB X rl a f):G8 X rl (.BoolOp .And [a] pos) f:=let ⟨t,p,k⟩:=ha;⟨t,vb p,k⟩
theorem nG(ha:PB X rl a f):G8 X rl (.BoolOp .Or [a] pos) f:=let ⟨t,p,k⟩:=ha;⟨t,yt p,k⟩
theorem eY(ha:PB X rl a f)(hb:G8 X rl (.BoolOp .And (b::rest) pos) g):G8 X rl (.BoolOp .And (a::b::rest) pos) (AG f g):=by
 obtain⟨t,p,k⟩:=ha
 obtain⟨t2,p2,k2⟩:=hb
 refine⟨_,yu p p2,fun R Qd Q q h=>k R _ _ q fun c F1 H1 g1 q1=>?_⟩
 cases c with
 | true=>exact k2 (R.grow g1) _ _ q1 fun c F2 H2 g2 q2=>h c F2 H2 (g1.trans g2) q2
 | false=>exact h false F1 H1 g1 q1
theorem uA(ha:PB X rl a f)(hb:G8 X rl (.BoolOp .Or (b::rest) pos) g):G8 X rl (.BoolOp .Or (a::b::rest) pos) (Ey f g):=by
 obtain⟨t,p,k⟩:=ha
 obtain⟨t2,p2,k2⟩:=hb
 refine⟨_,A1 p p2,fun R Qd Q q h=>k R _ _ q fun c F1 H1 g1 q1=>?_⟩
 cases c with
 | true=>exact h true F1 H1 g1 q1
 | false=>exact k2 (R.grow g1) _ _ q1 fun c F2 H2 g2 q2=>h c F2 H2 (g1.trans g2) q2
theorem nH(ha:PB X rl a f):PB X rl (.UnaryOp .Not a pos) (CU f):=by
 obtain⟨t,p,k⟩:=ha
 exact⟨_,yy p,fun R Qd Q q h=>k R _ _ q fun c F1 H1 g1 q1=>h (!c) F1 H1 g1 q1⟩
noncomputable def uG(fa fb:TV):TV:=fun ρ Q=>fa ρ fun w=>∃c,w = .d (.bool c)/\if c=true then fb ρ Q else Q (.d (.bool false))
noncomputable def AA(fa fb:TV):TV:=fun ρ Q=>fa ρ fun w=>∃c,w = .d (.bool c)/\if c=true then Q (.d (.bool true))else fb ρ Q
noncomputable def uD(fa:TV):TV:=fun ρ Q=>fa ρ fun w=>∃c,w = .d (.bool c)/\Q (.d (.bool (!c)))
theorem dR.back{rl:RlT}{w:W}(g:Grow rl F H F' H')(n:dR H' v w):dR H v w:=by
 cases w with
 | ml xs=>exact fun a ea=>g.freeB (n a ea)
 | md xs=>exact fun a ea=>g.freeB (n a ea)
 | mk xs=>exact fun a ea=>g.freeB (n a ea)
 | nt _=>trivial
 | lk=>trivial
 | sc _=>trivial
 | fd _=>trivial
 | fw _=>trivial
 | ft _=>trivial
 | xc _ _=>trivial
 | dp _ _=>trivial
 | d _=>trivial
 | pk _=>trivial
 | reel=>trivial
 | vv _=>trivial
theorem nK{op}(ha:PV X rl a fa):PV X rl (.BoolOp op [a] pos) fa:=let ⟨t,p,k⟩:=ha;⟨t,yH p,k⟩
theorem v_and(ha:PV X rl a fa)(hb:PV X rl (.BoolOp .And (b::rest) pos) fb):PV X rl (.BoolOp .And (a::b::rest) pos) (uG fa fb):=by
 obtain⟨t,p,k⟩:=ha
 obtain⟨t2,p2,k2⟩:=hb
 refine⟨_,yL p p2,fun R Qd Q q h=>k R _ _ q fun v w F1 H1 g1 r1 n1 ⟨c,ew,q1⟩=>?_⟩
 subst ew
 refine⟨c,e8 r1,?_⟩
 cases c with
 | true=>exact k2 (R.grow g1) _ _ q1 fun v w F2 H2 g2 r2 n2 q2=>h v w F2 H2 (g1.trans g2) r2 (n2.back g1) q2
 | false=>exact h _ (.d _) F1 H1 g1 (.bl false) trivial q1
theorem v_or(ha:PV X rl a fa)(hb:PV X rl (.BoolOp .Or (b::rest) pos) fb):PV X rl (.BoolOp .Or (a::b::rest) pos) (AA fa fb):=by
 obtain⟨t,p,k⟩:=ha
 obtain⟨t2,p2,k2⟩:=hb
 refine⟨_,A8 p p2,fun R Qd Q q h=>k R _ _ q fun v w F1 H1 g1 r1 n1 ⟨c,ew,q1⟩=>?_⟩
 subst ew
 refine⟨c,e8 r1,?_⟩
 cases c with
 | false=>exact k2 (R.grow g1) _ _ q1 fun v w F2 H2 g2 r2 n2 q2=>h v w F2 H2 (g1.trans g2) r2 (n2.back g1) q2
 | true=>exact h _ (.d _) F1 H1 g1 (.bl true) trivial q1
theorem v_not(ha:PV X rl a fa):PV X rl (.UnaryOp .Not a pos) (uD fa):=by
 obtain⟨t,p,k⟩:=ha
 refine⟨_,yI p,fun R Qd Q q h=>k R _ _ q fun v w F1 H1 g1 r1 n1 ⟨c,ew,q1⟩=>?_⟩
 subst ew
 exact⟨c,e8 r1,h _ (.d _) F1 H1 g1 (.bl _) trivial q1⟩
noncomputable def EA(t:TB)(fa fb:TV):TV:=fun ρ Q=>t ρ fun c=>if c=true then fa ρ Q else fb ρ Q
theorem dG(hc:PB X rl c f)(ha:PV X rl a fa)(hb:PV X rl b fb):PV X rl (.IfExp c a b pos) (EA f fa fb):=by
 obtain⟨t,p,k⟩:=hc
 obtain⟨t1,p1,k1⟩:=ha
 obtain⟨t2,p2,k2⟩:=hb
 refine⟨_,rH p p1 p2,fun R Qd Q q h=>k R _ _ q fun c F1 H1 g1 q1=>?_⟩
 cases c with
 | true=>exact k1 (R.grow g1) _ _ q1 fun v w F2 H2 g2 r2 n2 q2=>h v w F2 H2 (g1.trans g2) r2 (n2.back g1) q2
 | false=>exact k2 (R.grow g1) _ _ q1 fun v w F2 H2 g2 r2 n2 q2=>h v w F2 H2 (g1.trans g2) r2 (n2.back g1) q2
noncomputable def gS:List W->Option (List HH)
 | []=>some []
 | .d x::r=>(gS r).map (x :: ·)
 | _::_=>none
theorem cV{K:W.Frag}{F H:Hp}:∀{vs:List V}{ws:List W}{ds:List HH},gQ K rl F H vs ws->gS ws=some ds->Reps K F vs ds
 | _,_,_,.nil,e=>by cases e;exact .nil
 | _,.d x::ws,ds,.cons r rs,e=>by
   have e:(gS ws).map (x :: ·)=some ds:=e
   cases q:gS ws with
   | none=>rw[q]at e;cases e
   | some es=>rw[q]at e;cases e;exact .cons r (cV rs q)
 | _,.ml x::ws,ds,.cons r rs,e=>by cases(show none=some ds from e)
 | _,.pk x::ws,ds,.cons r rs,e=>by cases(show none=some ds from e)
 | _,.reel::ws,ds,.cons r rs,e=>by cases(show none=some ds from e)
 | _,.vv u::ws,ds,.cons r rs,e=>by cases(show none=some ds from e)
 | _,.md u::ws,ds,.cons r rs,e=>by cases(show none=some ds from e)
 | _,.nt u::ws,ds,.cons r rs,e=>by cases(show none=some ds from e)
 | _,.lk::ws,ds,.cons r rs,e=>by cases(show none=some ds from e)
 | _,.sc _::ws,ds,.cons r rs,e=>by cases(show none=some ds from e)
 | _,.fd _::ws,ds,.cons r rs,e=>by cases(show none=some ds from e)
 | _,.xc _ _::ws,ds,.cons r rs,e=>by cases(show none=some ds from e)
 | _,.mk _::ws,ds,.cons r rs,e=>by cases(show none=some ds from e)
 | _,.fw _::ws,ds,.cons r rs,e=>by cases(show none=some ds from e)
 | _,.ft _::ws,ds,.cons r rs,e=>by cases(show none=some ds from e)
 | _,.dp _ _::ws,ds,.cons r rs,e=>by cases(show none=some ds from e)
noncomputable def Aw(fs:GF):TV:=fun ρ Q=>fs ρ fun ws=>∃ds,gS ws=some ds/\ds.length<=sizeLine/\Q (.d (.tuple ds))
noncomputable def zY(fs:GF):TV:=fun ρ Q=>fs ρ fun ws=>∃ds,gS ws=some ds/\ds.length<=sizeLine/\Q (.ml ds)
theorem bU{x1}(h:GV X rl es fs):PV X rl (.Tuple es x1 pos) (Aw fs):=by
 obtain⟨t,p,k⟩:=h
 refine⟨_,yG p,fun R Qd Q q h=>k R _ _ q fun vs ws F1 H1 g1 r1 ⟨ds,e1,z,q1⟩=>?_⟩
 have rs:=cV r1 e1
 refine⟨by rw[rs.length];exact z,fun p hp=>?_⟩
 have g2:=g1.trans (Grow.data (a:=p) (o:=.tup vs) g1.sub g1.reel hp)
 exact h _ (.d (.tuple ds)) _ _ g2 (.tup (.inl (.inl ax)) (rs.mono (Grow.data (o:=.tup vs) g1.sub g1.reel hp).fs)) trivial q1
theorem cB{K:W.Frag}{p:Addr}(s:bF F H)(ra:GT rl F H)(hp:H p=none)(rs:Reps K F vs ds):iB K rl F (EB H p (.lst vs)) (.ref p) ds:=by
 refine⟨p,vs,rfl,s.free hp,fun e=>?_,ax,rs⟩
 obtain⟨o,q⟩:=ra.live e
 rw[hp]at q
 cases q
theorem cE(h:GV X rl es fs):PV X rl (.List es pos) (zY fs):=by
 obtain⟨t,p,k⟩:=h
 refine⟨_,yJ p,fun R Qd Q q h=>k R _ _ q fun vs ws F1 H1 g1 r1 ⟨ds,e1,z,q1⟩=>?_⟩
 have rs:=cV r1 e1
 refine⟨by rw[rs.length];exact z,fun p hp=>?_⟩
 exact h _ (.ml ds) _ _ (g1.trans (Grow.laid (a:=p) (o:=.lst vs) g1.sub g1.reel hp)) (cB g1.sub g1.reel hp rs) (fun a ea=>by cases ea;exact g1.freeB hp) q1
noncomputable def itemAt:HH->Int->Option HH
 | .list xs,i=>atI xs i
 | .tuple xs,i=>atI xs i
 | _,_=>none
theorem Reps.atI{K:W.Frag}{F:Hp}{vs:List V}{ds:List HH}{i:Int}{d:HH}(r:Reps K F vs ds)(e:L2.atI ds i=some d):∃v,L2.atI vs i=some v/\Rep K F v d:=by
 unfold L2.atI at e ⊢
 rw[r.length]
 cases q:ixN ds.length i with
 | none=>rw[q]at e;cases e
 | some j =>
   rw[q]at e
   exact r.get e
noncomputable def Gh:W->W->(W->Prop)->Prop:=fun x y Q=>∃dx i z,x.dat=some dx/\y = .d (.int i)/\itemAt dx i=some z/\Q (.d z)
theorem At:GC X rl (Fh X.K) Gh:=fun{F H x y wx wy} Qd Q s ra r1 r2 q k=>by
 obtain⟨dx,i,z,e1,rfl,e3,q⟩:=q
 have ey:=aL r2
 subst ey
 cases dx with
 | list xs =>
   obtain⟨a,vs,rfl,sq,rs⟩:=r1.items s e1
   obtain⟨v,e4,rz⟩:=Reps.atI rs e3
   exact .inl ⟨a,vs,i,v,rfl,rfl,sq,e4,k _ (.d _) _ _ (Grow.refl s ra) rz trivial q⟩
 | tuple xs =>
   obtain⟨a,vs,rfl,sq,rs⟩:=r1.itemsT s e1
   obtain⟨v,e4,rz⟩:=Reps.atI rs e3
   exact .inr (.inl ⟨a,vs,i,v,rfl,rfl,sq,e4,k _ (.d _) _ _ (Grow.refl s ra) rz trivial q⟩)
 | none=>cases e3
 | bool b=>cases e3
 | int b=>cases e3
 | str b=>cases e3
 | dict b=>cases e3
theorem aQ(ha:PV X rl a fa)(hb:PV X rl b fb)(hs:jk b:=by exact fun _ _=>rfl):PV X rl (.Subscript a b pos) (Ez Gh fa fb):=nB At ha hb fun _ _ p1 p2=>vG pL p1 p2 hs
noncomputable def gO(X:Cx)(rl:RlT)(r:List V->Hp->VK->Prop)(g:List W->(W->Prop)->Prop):Prop:=∀{F H:Hp}{vs:List V}{ws:List W}(Qd:W->Prop)(Q:VK),bF F H->GT rl F H->gQ X.K rl F H vs ws->g ws Qd ->
 (∀v w F' H',Grow rl F H F' H'->du X.K rl F' H' v w->dR H v w->Qd w->Q v H')->r vs H Q
noncomputable def dY(g:List W->(W->Prop)->Prop)(fs:GF):TV:=fun ρ Q=>fs ρ fun ws=>g ws Q
theorem ll{r:List V->Hp->VK->Prop}{g:List W->(W->Prop)->Prop}{t:TA->TE}(vc:gO X rl r g)(ha:GV X rl es fs){e:Expr}(hp:∀ta,PA X es ta->PE X e (EQ r ta)):PV X rl e (dY g fs):=by
 obtain⟨ta,p1,k1⟩:=ha
 refine⟨_,hp ta p1,fun R Qd Q q k=>k1 R _ _ q fun vs ws F1 H1 g1 r1 q1=>?_⟩
 exact vc Qd Q g1.sub g1.reel r1 q1 fun v w F2 H2 g2 r2 n2 q2=>k v w F2 H2 (g1.trans g2) r2 (n2.back g1) q2
theorem dH{id:String}{r:List V->Hp->VK->Prop}{g:List W->(W->Prop)->Prop}(hc:eP X (.builtin id) r)(vc:gO X rl r g)(hm:X.mg x=none)(hv:Ln x=some (.builtin id))(ha:GV X rl (e::es) fs)(hg:Gl X x:=by rfl)(hn:x ≠ "__name__" := by decide)(hdb:(x==("__debug__" : Str))=false:=by decide)
 (he:HZ (e::es) X.env=(false,eval e X.env)::HZ es X.env:=by rfl)(hpl:(JR pos (HZ es X.env)).any (·.1)=false:=by rfl):PV X rl (.Call (.Name x p) (e::es) [] pos) (dY g fs) :=
 ll (t:=fun _=>tC .non) vc ha fun _ p1=>rK hc hg hm hv p1 hn hdb he hpl
theorem iH{T:String}{r:List V->Hp->VK->Prop}{g:List W->(W->Prop)->Prop}(hc:eP X (.type T) r)(vc:gO X rl r g)(hm:X.mg x=none)(hv:Ln x=some (.type T))(ha:GV X rl (e::es) fs)(hg:Gl X x:=by rfl)(hn:x ≠ "__name__" := by decide)(hdb:(x==("__debug__" : Str))=false:=by decide)
 (he:HZ (e::es) X.env=(false,eval e X.env)::HZ es X.env:=by rfl)(hpl:(JR pos (HZ es X.env)).any (·.1)=false:=by rfl):PV X rl (.Call (.Name x p) (e::es) [] pos) (dY g fs) :=
 ll (t:=fun _=>tC .non) vc ha fun _ p1=>oQ hc hg hm hv p1 hn hdb he hpl
theorem nq{K:W.Frag}{w:W}(r:gQ K rl F H vs [w]):∃v,vs=[v]/\du K rl F H v w:=by
 cases r with
 | cons r1 r2=>cases r2;exact⟨_,rfl,r1⟩
theorem DH{K:W.Frag}{w w':W}(r:gQ K rl F H vs [w,w']):∃v u,vs=[v,u]/\du K rl F H v w/\du K rl F H u w':=by
 cases r with
 | cons r1 r2 =>
   cases r2 with
   | cons r3 r4=>cases r4;exact⟨_,_,rfl,r1,r3⟩
noncomputable def Ai:List W->(W->Prop)->Prop:=fun ws Q=>∃i,ws=[.d (.int i)]/\Q (.d (.int (if i<0 then -i else i)))
theorem xl:gO X rl (fun xs H Q=>∃i,xs=[.int i]/\Q (.int (if i<0 then -i else i)) H) Ai:=fun{F H vs ws} Qd Q s ra r ⟨i,ew,q⟩ k=>by
 subst ew
 obtain⟨v,rfl,r1⟩:=nq r
 have e:=aL r1
 subst e
 exact⟨i,rfl,k _ (.d _) _ _ (Grow.refl s ra) (.int _) trivial q⟩
noncomputable def qE:HH->Option Nat
 | .list xs=>some xs.length
 | .tuple xs=>some xs.length
 | _=>none
noncomputable def Ac:List W->(W->Prop)->Prop:=fun ws Q=>∃w d n,ws=[w]/\w.dat=some d/\qE d=some n/\Q (.d (.int n))
theorem xi:gO X rl (fun xs H Q=>∃p ys,xs=[.ref p]/\(GN X.K H p ys\/GM X.K H p ys)/\Q (.int ys.length) H) Ac:=fun{F H vs ws} Qd Q s ra r ⟨w,d,n,ew,e1,e2,q⟩ k=>by
 subst ew
 obtain⟨v,rfl,r1⟩:=nq r
 cases d with
 | list xs =>
   obtain⟨a,vs,rfl,sq,rs⟩:=r1.items s e1
   cases e2
   exact⟨a,vs,rfl,.inl sq,k _ (.d _) _ _ (Grow.refl s ra) (by rw[rs.length];exact .int _) trivial q⟩
 | tuple xs =>
   obtain⟨a,vs,rfl,sq,rs⟩:=r1.itemsT s e1
   cases e2
   exact⟨a,vs,rfl,.inr sq,k _ (.d _) _ _ (Grow.refl s ra) (by rw[rs.length];exact .int _) trivial q⟩
 | none=>cases e2
 | bool b=>cases e2
 | int b=>cases e2
 | str b=>cases e2
 | dict b=>cases e2
end
structure VEnds where
 nx:En->Prop
 rt:W->Prop
 bk:En->Prop:=fun _=>False
 ct:En->Prop:=fun _=>False
structure EndsOk (K:W.Frag) (rl:RlT) (F₀ H₀ Fs:Hp) (Dv:VEnds) (D:Ends):Prop where
 nx:∀F H σ ρ,bF Fs F->VR K rl F₀ H₀ F H σ ρ->Dv.nx ρ->D.nx σ H
 rt:∀v w F H,Grow rl F₀ H₀ F H->du K rl F H v w->dR H₀ v w->Dv.rt w->D.rt v H
 bk:∀F H σ ρ,bF Fs F->VR K rl F₀ H₀ F H σ ρ->Dv.bk ρ->D.bk σ H
 ct:∀F H σ ρ,bF Fs F->VR K rl F₀ H₀ F H σ ρ->Dv.ct ρ->D.ct σ H
theorem EndsOk.on{K:W.Frag}{rl:RlT}{Fs:Hp}{Dv:VEnds}{D:Ends}(ok:EndsOk K rl F₀ H₀ Fs Dv D)(s:bF Fs F):EndsOk K rl F₀ H₀ F Dv D :=
 ⟨fun F1 H σ ρ s1=>ok.nx F1 H σ ρ (s.trans s1),ok.rt,fun F1 H σ ρ s1=>ok.bk F1 H σ ρ (s.trans s1),fun F1 H σ ρ s1=>ok.ct F1 H σ ρ (s.trans s1)⟩
abbrev GG:=VEnds->En->Prop
noncomputable def GZ(X:Cx)(rl:RlT)(st:Stmt)(t:GG):Prop:=∃T,PS X st T/\∀{F₀ H₀ F H:Hp}{σ:St}{ρ:En},VR X.K rl F₀ H₀ F H σ ρ->∀Dv D,EndsOk X.K rl F₀ H₀ F Dv D->t Dv ρ->T D σ H
noncomputable def mC(X:Cx)(rl:RlT)(st:List Stmt)(t:GG):Prop:=∃T,GY X st T/\∀{F₀ H₀ F H:Hp}{σ:St}{ρ:En},VR X.K rl F₀ H₀ F H σ ρ->∀Dv D,EndsOk X.K rl F₀ H₀ F Dv D->t Dv ρ->T D σ H
section
variable{X:Cx}{rl:RlT}{st:Stmt}{rest body:List Stmt}{t u:GG}{a b c e:Expr}{es:List Expr}{fa fb:TV}{fs:GF}{f:TB}{pos p:Pos}
noncomputable def xw:GG:=fun D ρ=>D.nx ρ
noncomputable def CQ(t u:GG):GG:=fun D ρ=>t {D with nx:=u D} ρ
theorem ba:mC X rl [] xw:=⟨_,oI,fun R Dv D ok q=>ok.nx _ _ _ _ (.refl _) R q⟩
theorem ak(h:GZ X rl st t):mC X rl [st] t:=let ⟨T,p,k⟩:=h;⟨T,oH p,k⟩
theorem ag(h:GZ X rl st t)(h2:mC X rl rest u):mC X rl (st::rest) (CQ t u):=by
 obtain⟨T,p,k⟩:=h
 obtain⟨T2,p2,k2⟩:=h2
 exact⟨_,fN p p2,fun R Dv D ok q=>k R {Dv with nx:=u Dv} {D with nx:=T2 D} ⟨fun F H σ ρ s' R' q'=>k2 R' Dv D (ok.on s') q',ok.rt,ok.bk,ok.ct⟩ q⟩
noncomputable def CS(fa:TV):GG:=fun D ρ=>fa ρ D.rt
theorem av(h:PV X rl e fa):GZ X rl (.Return (some e) pos) (CS fa):=by
 obtain⟨t,p,k⟩:=h
 exact⟨_,tF p,fun R Dv D ok q=>k R _ _ q fun v w F1 H1 g1 r1 n1 q1=>ok.rt v w F1 H1 (R.g.trans g1) r1 (n1.back R.g) q1⟩
noncomputable def AC(f:TB)(t u:GG):GG:=fun D ρ=>f ρ fun b=>if b=true then t D ρ else u D ρ
theorem bW{A B:List Stmt}(hc:PB X rl c f)(ha:mC X rl A t)(hb:mC X rl B u):GZ X rl (.If c A B pos) (AC f t u):=by
 obtain⟨t0,p0,k0⟩:=hc
 obtain⟨t1,p1,k1⟩:=ha
 obtain⟨t2,p2,k2⟩:=hb
 refine⟨_,A5 p0 p1 p2,fun R Dv D ok q=>k0 R _ _ q fun b F1 H1 g1 q1=>?_⟩
 cases b with
 | true=>exact k1 (R.grow g1) Dv D (ok.on g1.fs) q1
 | false=>exact k2 (R.grow g1) Dv D (ok.on g1.fs) q1
theorem lj:GZ X rl st (fun _ _=>False):=⟨_,rE,fun _ _ _ _ q=>q.elim⟩
noncomputable def W.isPk:W->Bool
 | .pk _=>true
 | _=>false
noncomputable def Az(i:Nat)(fa:TV):GG:=fun D ρ=>fa ρ fun w=>w.isPk=false/\D.nx (ρ.set i (some w))
theorem jp(i:Nat)(hN:X.N.Nodup)(he:PV X rl e fa)(hi:X.N[i]?=some x:=by rfl)(hx:Loc X.env.scope x:=by first|exact J0 rfl|exact Jq rfl)
 (hs:J4 e (some (.Name x pos')) pos.line X.env=pure false:=by rfl)(hf:X.fn x=true\/X.env.scope.names.lookup x=some .local:=by first|exact .inl rfl|exact .inr rfl) :
 GZ X rl (.Assign [.Name x pos'] e pos) (Az i fa):=by
 obtain⟨t,p,k⟩:=he
 refine⟨_,gh hN hi hx p hs hf,fun R Dv D ok q=>k R _ _ q fun v w F1 H1 g1 r1 n1 ⟨hp,q1⟩=>?_⟩
 exact ok.nx _ _ _ _ g1.fs (R.set g1 r1 n1 (fun xs z=>by subst z;cases hp) i) q1
noncomputable def j9(ρ:En):Prop:=∀(i:Nat)(w:W),ρ[i]?=some (some w)->w.own=false
theorem j9.set{ρ:En}(h:j9 ρ)(i:Nat)(x:HH):j9 (ρ.set i (some (.d x))):=fun j w z=>by
 rw[Jw]at z
 split at z
 · split at z
   · cases z;rfl
   · cases z
 · exact h j w z
abbrev GK:=HH->En->(En->Prop)->Prop
abbrev qJ:=List HH->En->(En->Prop)->Prop
noncomputable def G7(X:Cx)(rl:RlT)(tg:Expr)(g:GK):Prop:=∃G,PG X tg G/\∀{F₀ H₀ F H:Hp}{σ:St}{ρ:En},VR X.K rl F₀ H₀ F H σ ρ->∀(v:V)(x:HH)(Qd:En->Prop)(Q:St->Hp->Prop),Rep X.K F v x->g x ρ Qd ->
 (∀F' H' σ' ρ',Grow rl F H F' H'->(j9 ρ->j9 ρ')->VR X.K rl F₀ H₀ F' H' σ' ρ'->Qd ρ'->Q σ' H')->G v σ H Q
noncomputable def Al(X:Cx)(rl:RlT)(tgs:List Expr)(g:qJ):Prop:=∃G,G6 X tgs G/\∀{F₀ H₀ F H:Hp}{σ:St}{ρ:En},VR X.K rl F₀ H₀ F H σ ρ->∀(vs:List V)(xs:List HH)(Qd:En->Prop)(Q:St->Hp->Prop),Reps X.K F vs xs->g xs ρ Qd ->
 (∀F' H' σ' ρ',Grow rl F H F' H'->(j9 ρ->j9 ρ')->VR X.K rl F₀ H₀ F' H' σ' ρ'->Qd ρ'->Q σ' H')->G vs σ H Q
noncomputable def r_(i:Nat):GK:=fun x ρ Q=>Q (ρ.set i (some (.d x)))
theorem aq(i:Nat)(hN:X.N.Nodup)(hi:X.N[i]?=some x:=by rfl)(hx:Loc X.env.scope x:=by first|exact J0 rfl|exact Jq rfl)(hf:X.fn x=true\/X.env.scope.names.lookup x=some .local:=by first|exact .inl rfl|exact .inr rfl):G7 X rl (.Name x pos) (r_ i) :=
 ⟨_,vE hN hi hx hf,fun R v x Qd Q r q k=>k _ _ _ _ (Grow.refl R.sub R.reel) (fun n=>n.set i x) (R.set (w:=.d x) (Grow.refl R.sub R.reel) r trivial (fun _ z=>by cases z) i) q⟩
noncomputable def Bx:qJ:=fun xs ρ Q=>xs=[]/\Q ρ
noncomputable def sa(g:GK)(gs:qJ):qJ:=fun xs ρ Q=>∃y r,xs=y::r/\g y ρ fun ρ'=>gs r ρ' Q
theorem dF:Al X rl [] Bx:=⟨_,vD,fun R vs xs Qd Q r ⟨e,q⟩ k=>by subst e;exact⟨r.nil_iff,k _ _ _ _ (Grow.refl R.sub R.reel) (fun n=>n) R q⟩⟩
theorem aP{g:GK}{gs:qJ}(h1:G7 X rl e g)(h2:Al X rl es gs)(hs:(Kx (e::es) X.env).map (·.2)=KL e X.env::(Kx es X.env).map (·.2):=by rfl):Al X rl (e::es) (sa g gs):=by
 obtain⟨G,p,k⟩:=h1
 obtain⟨G2,p2,k2⟩:=h2
 refine⟨_,rG p p2 hs,fun R vs xs Qd Q r ⟨y,ys,ex,q⟩ h=>?_⟩
 subst ex
 cases r with
 | cons r1 r2 =>
   refine⟨_,_,rfl,k R _ y _ _ r1 q fun F1 H1 σ1 ρ1 s1 n1 R1 q1=>?_⟩
   exact k2 R1 _ ys _ _ (r2.mono s1.fs) q1 fun F2 H2 σ2 ρ2 s2 n2 R2 q2=>h F2 H2 σ2 ρ2 (s1.trans s2) (fun n=>n2 (n1 n)) R2 q2
noncomputable def Bw(n:Nat)(gs:qJ):GK:=fun x ρ Q=>∃xs,x = .tuple xs/\xs.length=n/\gs xs ρ Q
theorem fS{kk:Nat}{gs:qJ}(hc:X.calm=true)(h:Al X rl es gs)(hn:(Kx es X.env).length=n:=by rfl)(hst:(Kx es X.env).findIdx? (·.1)=none:=by rfl):G7 X rl (.Tuple es kk pos) (Bw n gs):=by
 obtain⟨G,p,k⟩:=h
 refine⟨_,yE hc p hn hst,fun R v x Qd Q r ⟨xs,ex,hl,q⟩ h=>?_⟩
 subst ex
 cases r with
 | tup sq rs=>exact⟨_,_,rfl,d_ R.sub sq,by rw[rs.length];exact hl,k R _ xs _ _ rs q h⟩
noncomputable def AF(fa:TV)(g:GK):GG:=fun D ρ=>fa ρ fun w=>∃x,w = .d x/\g x ρ D.nx
theorem jq{g:GK}(he:PV X rl e fa)(hg:G7 X rl tg g)(hs:LV [tg] e pos.line X.env=pure false:=by rfl)(hw:LW [tg] e X.env=pure none:=by rfl)
 (h1:(Kx [tg] X.env).map (·.2)=[KL tg X.env]:=by rfl):GZ X rl (.Assign [tg] e pos) (AF fa g):=by
 obtain⟨t,p,k⟩:=he
 obtain⟨G,p2,k2⟩:=hg
 refine⟨_,tH p p2 hs hw h1,fun R Dv D ok q=>k R _ _ q fun v w F1 H1 g1 r1 n1 ⟨x,ew,q1⟩=>?_⟩
 subst ew
 exact k2 (R.grow g1) v x _ _ r1 q1 fun F2 H2 σ2 ρ2 s2 n2 R2 q2=>ok.nx _ _ _ _ (g1.fs.trans s2.fs) R2 q2
noncomputable def CT(i j:Nat)(fs:GF):GG:=fun D ρ=>fs ρ fun ws=>∃x y,gS ws=some [x,y]/\D.nx ((ρ.set i (some (.d x))).set j (some (.d y)))
theorem lh(i j:Nat){y:Str}{py pt:Pos}{kt k2 pt2}(hc:X.calm=true)(hN:X.N.Nodup)(ha:GV X rl [a,b] fs)
 (hw:LW [.Tuple [.Name x px,.Name y py] kt pt] (.Tuple [a,b] k2 pt2) X.env=pure (some [x,y]):=by rfl)(hi:X.N[i]?=some x:=by rfl)(hj:X.N[j]?=some y:=by rfl)(hij:i≠j:=by decide)
 (hx:X.env.scope.names.lookup x=some .local:=by rfl)(hy:X.env.scope.names.lookup y=some .local:=by rfl)
 (hs:LV [.Tuple [.Name x px,.Name y py] kt pt] (.Tuple [a,b] k2 pt2) pos.line X.env=pure false:=by rfl) :
 GZ X rl (.Assign [.Tuple [.Name x px,.Name y py] kt pt] (.Tuple [a,b] k2 pt2) pos) (CT i j fs):=by
 obtain⟨t,p,k⟩:=ha
 refine⟨_,yz hc hN hi hj hij hx hy p hw hs,fun R Dv D ok q=>k R _ _ q fun vs ws F1 H1 g1 r1 ⟨x,y,e1,q1⟩=>?_⟩
 have rs:=cV r1 e1
 cases rs with
 | cons rx rs =>
   cases rs with
   | cons ry rs =>
     cases rs
     have R1:=(R.grow g1).set (w:=.d x) (Grow.refl g1.sub g1.reel) rx trivial (fun _ z=>by cases z) i
     exact⟨_,_,rfl,ok.nx _ _ _ _ g1.fs (R1.set (w:=.d y) (Grow.refl g1.sub g1.reel) ry trivial (fun _ z=>by cases z) j) q1⟩
structure VIt (K:W.Frag) (rl:RlT) (F:Hp) (J:It) (xs:List HH):Prop where
 go:∀i H x,xs[i]?=some x->bF F H->J.go i H
 stop:∀i H,xs.length<=i->bF F H->J.stop i H
 yld:∀i H v H' x F2,xs[i]?=some x->bF F F2->bF F2 H->GT rl F2 H->J.yld i H v H'->∃F3,Grow rl F2 H F3 H'/\Rep K F3 v x
theorem VIt.of{K:W.Frag}{rl:RlT}{J:It}(go:∀i H x,xs[i]?=some x->bF F H->J.go i H)(stop:∀i H,xs.length<=i->bF F H->J.stop i H)
 (yld:∀i H v H' x,xs[i]?=some x->bF F H->J.yld i H v H'->H'=H/\Rep K F v x):VIt K rl F J xs :=
 ⟨go,stop,fun i H v H' x F2 e s s2 ra y=>by
  obtain⟨e1,r⟩:=yld i H v H' x e (s.trans s2) y
  subst e1
  exact⟨F2,Grow.refl s2 ra,r.mono s⟩⟩
noncomputable def G4(X:Cx)(rl:RlT)(tg iter:Expr)(fi:En->(List HH->Prop)->Prop):Prop:=∃wi,PI X tg iter wi/\∀{F₀ H₀ F H:Hp}{σ:St}{ρ:En},VR X.K rl F₀ H₀ F H σ ρ->∀(Qd:List HH->Prop)(R:It->Hp->Prop),fi ρ Qd ->
 (∀J xs F' H',Grow rl F H F' H'->VIt X.K rl F' J xs->Qd xs->R J H')->wi σ H R
end
section
variable{X:Cx}{rl:RlT}{st:Stmt}{rest body:List Stmt}{t u:GG}{a b c e:Expr}{es:List Expr}{fa fb:TV}{fs:GF}{f:TB}{pos p:Pos}{tg:Expr}
noncomputable def AD(i:Nat)(t:GG):GG:=fun D ρ=>∃xs,ρ[i]?=some (some (.ml xs))/\t D (ρ.set i (some (.d (.list xs))))
theorem sB{K:W.Frag}{ρ:En}(r:VR K rl F₀ H₀ F H σ ρ)(e:ρ[i]?=some (some (.ml xs))):∃F1,bF F F1/\VR K rl F₀ H₀ F1 H σ (ρ.set i (some (.d (.list xs)))):=by
 obtain⟨v,h1,h2,h3⟩:=r.sl i _ e
 obtain⟨a,vs,ev,f,hr,hh,q⟩:=(show iB K rl F H v xs from h2)
 obtain⟨F1,R1⟩:=r.freeze e
 obtain⟨v',k1,k2,k3⟩:=R1.sl i _ (IE (Iy.mp e).1)
 have neF:∀b u,F b=some u->b≠a:=fun b u q z=>by subst z;rw[f]at q;cases q
 have fsm:bF F (EB F a (.lst vs)):=fun b u z=>by rw[am (neF b u z)];exact z
 have hi:i<ρ.length:=(Iy.mp e).1
 refine⟨EB F a (.lst vs),fsm,r.g.freeze (h3 a ev) hh f hr,fun j w e1=>?_,R1.ap,R1.np,R1.len⟩
 by_cases hj:i=j
 · subst hj
   rw[IE hi]at e1
   cases e1
   exact⟨v,h1,by rw[ev];exact .lst ax (q.mono fsm),trivial⟩
 · rw[IA hj]at e1
   obtain⟨u,g1,g2,g3⟩:=r.sl j w e1
   refine⟨u,g1,?_,g3⟩
   cases w with
   | d x=>exact Rep.mono fsm g2
   | reel=>exact g2
   | vv u=>exact g2
   | ml ys =>
     obtain⟨b,us,eb,f1,f2,f3,f4⟩:=(show iB K rl F H u ys from g2)
     have ne:b≠a:=fun z=>r.ap i j _ _ v hj e e1 rfl rfl h1 (by rw[g1,eb,z,ev])
     exact⟨b,us,eb,by rw[am ne];exact f1,f2,f3,f4.mono fsm⟩
   | pk ys=>exact absurd e1 (r.np j ys)
   | md ys =>
     obtain⟨b,us,eb,f1,f2,f3,f4⟩:=(show wU K rl F H u ys from g2)
     have ne:b≠a:=fun z=>r.ap i j _ _ v hj e e1 rfl rfl h1 (by rw[g1,eb,z,ev])
     exact⟨b,us,eb,by rw[am ne];exact f1,f2,f3,Jy.mapP f4 fun _ _ z=>⟨z.1,z.2.mono fsm⟩⟩
   | mk ys =>
     obtain⟨b,us,eb,f1,f2,f3,f4⟩:=(show wT K rl F H u ys from g2)
     have ne:b≠a:=fun z=>r.ap i j _ _ v hj e e1 rfl rfl h1 (by rw[g1,eb,z,ev])
     exact⟨b,us,eb,by rw[am ne];exact f1,f2,f3,Jy.mapP f4 fun _ _ z=>⟨z.1,z.2.mono fsm⟩⟩
   | nt ds=>obtain⟨b,us,eb,f1,f2⟩:=g2;exact⟨b,us,eb,fsm _ _ f1,f2.mono fsm⟩
   | lk=>trivial
   | sc ns=>obtain⟨b,eb,f1⟩:=g2;exact⟨b,eb,rg fsm f1⟩
   | fd kvs=>obtain⟨b,us,eb,f1,f2⟩:=g2;exact⟨b,us,eb,fsm _ _ f1,Jy.mapP f2 fun _ _ z=>⟨z.1,z.2.mono fsm⟩⟩
   | fw kvs=>obtain⟨b,us,o,eb,f1,f2⟩:=g2;exact⟨b,us,o,eb,fsm _ _ f1,Jy.mapP f2 fun _ _ z=>⟨z.1,z.2.mono fsm⟩⟩
   | ft kvs=>obtain⟨b,us,o,eb,f1,f2⟩:=g2;exact⟨b,us,o,eb,fsm _ _ f1,Jy.mapP f2 fun _ _ z=>⟨z.1,z.2.mono fsm⟩⟩
   | xc _ _=>obtain⟨b,dx,us,C,eb,n,f1,f3,f2⟩:=g2;exact⟨b,dx,us,C,eb,n,fsm _ _ f1,fsm _ _ f3,Jy.mapP f2 fun _ _ z=>⟨z.1,z.2.mono fsm⟩⟩
   | dp _ _=>obtain⟨c,b,us,u,o,eb,f1,f3,f2,z⟩:=g2;exact⟨c,b,us,u,o,eb,fsm _ _ f1,fsm _ _ f3,Jy.mapP f2 fun _ _ z=>⟨z.1,z.2.mono fsm⟩,z.mono fsm⟩
theorem wZ(i:Nat)(h:GZ X rl st t):GZ X rl st (AD i t):=by
 obtain⟨T,p,k⟩:=h
 refine⟨T,p,fun R Dv D ok ⟨xs,e,q⟩=>?_⟩
 obtain⟨F1,s1,R1⟩:=sB R e
 exact k R1 Dv D (ok.on s1) q
noncomputable def iL(fa:TV):En->(List HH->Prop)->Prop:=fun ρ Q=>fa ρ fun w=>∃xs,w.fz = .d (.list xs)/\Q xs
noncomputable def iT(fa:TV):En->(List HH->Prop)->Prop:=fun ρ Q=>fa ρ fun w=>∃xs,w.fz = .d (.tuple xs)/\Q xs
theorem bT{l:Expr}(hl:PV X rl l fa):G4 X rl tg l (iL fa):=by
 obtain⟨t,p,k⟩:=hl
 refine⟨_,vA p,fun R Qd Q q h=>k R _ _ q fun v w F1 H1 g1 r1 n1 ⟨xs,ew,q1⟩=>?_⟩
 obtain⟨F2,g2,s2,r2⟩:=du.fz g1 r1 n1
 rw[ew]at r2
 cases(show Rep X.K F2 v (.list xs)from r2)with
 | @lst a vs _ sq rs =>
   have sqH:∀H,bF F2 H->GN X.K H a vs:=fun H s=>.inl (.inl (s _ _ sq))
   refine⟨a,rfl,⟨vs,sqH H1 g2.sub⟩,h _ xs F2 H1 g2 (.of (fun i H x e s=>?_) (fun i H hl s=>⟨vs,sqH H s,by rw[rs.length];exact hl⟩) (fun i H v H' x e s y=>?_)) q1⟩
   · obtain⟨v,ev,_⟩:=rs.get e
     exact⟨vs,v,sqH H s,ev⟩
   · obtain⟨e',hy⟩:=y
     obtain⟨v',ev,rv⟩:=rs.get e
     have:=hy vs (sqH H s)
     rw[ev]at this
     cases this
     exact⟨e',rv⟩
theorem dU{l:Expr}(hl:PV X rl l fa):G4 X rl tg l (iT fa):=by
 obtain⟨t,p,k⟩:=hl
 refine⟨_,yC p,fun R Qd Q q h=>k R _ _ q fun v w F1 H1 g1 r1 n1 ⟨xs,ew,q1⟩=>?_⟩
 obtain⟨F2,g2,s2,r2⟩:=du.fz g1 r1 n1
 rw[ew]at r2
 cases(show Rep X.K F2 v (.tuple xs)from r2)with
 | @tup a vs _ sq rs =>
   have sqH:∀H,bF F2 H->GM X.K H a vs:=fun H s=>d_ s sq
   refine⟨a,rfl,⟨vs,sqH H1 g2.sub⟩,h _ xs F2 H1 g2 (.of (fun i H x e s=>?_) (fun i H hl s=>⟨vs,sqH H s,by rw[rs.length];exact hl⟩) (fun i H v H' x e s y=>?_)) q1⟩
   · obtain⟨v,ev,_⟩:=rs.get e
     exact⟨vs,v,sqH H s,ev⟩
   · obtain⟨e',hy⟩:=y
     obtain⟨v',ev,rv⟩:=rs.get e
     have:=hy vs (sqH H s)
     rw[ev]at this
     cases this
     exact⟨e',rv⟩
noncomputable def bi(lo:Int)(n:Nat):List HH:=(IV n).map fun(i:Nat)=>.int (lo+i)
theorem ie{lo:Int}{x:HH}(h:(bi lo n)[i]?=some x):i<n/\x = .int (lo+i):=by
 unfold bi at h
 rw[Jd]at h
 by_cases hi:i<n
 · rw[Ia (by simpa using hi)]at h
   simp at h
   exact⟨hi,h.symm⟩
 · rw[Na (by simpa using hi)]at h
   cases h
theorem ca{lo:Int}:(bi lo n).length=n:=by simp[bi]
theorem nF{K:W.Frag}(lo:Int)(n:Nat):VIt K rl F (Hm lo n) (bi lo n) :=
 .of (fun i H x e s=>(ie e).1) (fun i H hl s=>by rw[ca]at hl;exact hl) (fun i H v H' x e s y=>by
  obtain⟨e1,e2⟩:=y
  subst e2
  rw[(ie e).2]
  exact⟨e1,.int _⟩)
noncomputable def Gb(fs:GF):En->(List HH->Prop)->Prop:=fun ρ Q=>fs ρ fun ws=>∃j:Int,ws=[.d (.int j)]/\(-(2^62)<=j/\j<2^62)/\Q (bi 0 j.toNat)
theorem bI(hm:X.mg "range" = none)(ha:GV X rl [a] fs)(hg:Gl X "range" := by rfl)(hs:HZ [a] X.env=[(false,eval a X.env)]:=by rfl):G4 X rl tg (.Call (.Name "range" p) [a] [] pos) (Gb fs):=by
 obtain⟨t,p1,k⟩:=ha
 refine⟨_,oO hg hm p1 hs,fun R Qd Q q h=>k R _ _ q fun vs ws F1 H1 g1 r1 ⟨j,ew,b,q1⟩=>?_⟩
 subst ew
 obtain⟨v,rfl,rv⟩:=nq r1
 have e:=aL rv
 subst e
 exact⟨j,rfl,b.1,b.2,h _ _ F1 H1 g1 (nF 0 _) q1⟩
theorem VR.own{K:W.Frag}{F₀ H₀ F H:Hp}{σ:St}{ρ:En}(r:VR K rl F₀ H₀ F H σ ρ){i:Nat}{xs ys:List HH}{a:Addr}{us:List V}(e:ρ[i]?=some (some (.ml xs)))(es:σ[i]?=some (some (.ref a)))(rs:Reps K F us ys) :
 VR K rl F₀ H₀ F (EB H a (.lst us)) σ (ρ.set i (some (.ml ys))):=by
 obtain⟨v,h1,h2,h3⟩:=r.sl i _ e
 rw[es]at h1
 cases h1
 obtain⟨a',vs,ev,f,hr,hh,q⟩:=(show iB K rl F H (.ref a) xs from h2)
 cases ev
 have n0:H₀ a=none:=h3 a rfl
 have hi:i<ρ.length:=(Iy.mp e).1
 have neF:∀b u,F b=some u->b≠a:=fun b u q z=>by subst z;rw[f]at q;cases q
 have g:Grow rl F₀ H₀ F (EB H a (.lst us)):=by
  refine⟨fun b o q1 n=>by rw[am (aX q1 n0)];exact r.g.same b o q1 n,r.g.fs,fun b o q1=>by rw[am (neF b o q1)];exact r.sub b o q1,r.g.old,fun y z=>?_⟩
  obtain⟨z1,⟨u,h1,h2⟩⟩:=r.reel y z
  exact⟨z1,⟨u,by rw[am (fun q=>hr (by rw[<- q];exact z))];exact h1,h2⟩⟩
 refine⟨g,fun j w e1=>?_,fun j k ys' zs u hjk e1 e2 w1 w2 s1 s2=>?_,fun j ys' z=>?_,by simp[r.len]⟩
 · by_cases hj:i=j
   · subst hj
     rw[IE hi]at e1
     cases e1
     exact⟨_,es,⟨a,us,rfl,f,hr,ax,rs⟩,h3⟩
   · rw[IA hj]at e1
     obtain⟨u,g1,g2,g3⟩:=r.sl j w e1
     refine⟨u,g1,?_,g3⟩
     cases w with
     | d x=>exact g2
     | reel=>exact g2
     | vv u=>exact g2
     | ml zs =>
       obtain⟨b,us',eb,f1,f2,f3,f4⟩:=(show iB K rl F H u zs from g2)
       have ne:b≠a:=fun z=>r.ap i j _ _ (.ref a) hj e e1 rfl rfl es (by rw[g1,eb,z])
       exact⟨b,us',eb,f1,f2,by rw[am ne];exact f3,f4⟩
     | pk zs=>exact absurd e1 (r.np j zs)
     | md zs =>
       obtain⟨b,us',eb,f1,f2,f3,f4⟩:=(show wU K rl F H u zs from g2)
       have ne:b≠a:=fun z=>r.ap i j _ _ (.ref a) hj e e1 rfl rfl es (by rw[g1,eb,z])
       exact⟨b,us',eb,f1,f2,by rw[am ne];exact f3,f4⟩
     | mk zs =>
       obtain⟨b,us',eb,f1,f2,f3,f4⟩:=(show wT K rl F H u zs from g2)
       have ne:b≠a:=fun z=>r.ap i j _ _ (.ref a) hj e e1 rfl rfl es (by rw[g1,eb,z])
       exact⟨b,us',eb,f1,f2,by rw[am ne];exact f3,f4⟩
     | nt ds=>exact g2
     | lk=>trivial
     | sc _=>exact g2
     | fd _=>exact g2
     | fw _=>exact g2
     | ft _=>exact g2
     | xc _ _=>exact g2
     | dp _ _=>exact g2
 · have nd:∀(j:Nat)(z:W),(ρ.set i (some (W.ml ys)))[j]?=some (some z)->z.own=true->∃z',ρ[j]?=some (some z')/\z'.own=true:=fun j zs z o=>by
     by_cases hj:i=j
     · subst hj
       exact⟨_,e,rfl⟩
     · rw[IA hj]at z
       exact⟨zs,z,o⟩
   obtain⟨_,d1,o1⟩:=nd j _ e1 w1
   obtain⟨_,d2,o2⟩:=nd k _ e2 w2
   exact r.ap j k _ _ u hjk d1 d2 o1 o2 s1 s2
 · rw[Jw]at z
   split at z
   · first|cases z|(split at z<;>cases z)
   · exact r.np j ys' z
noncomputable def BL(K:W.Frag)(rl:RlT)(r:V->List V->Hp->VK->Prop)(g:List HH->List W->(List HH->Prop)->Prop):Prop :=
 ∀ {F H:Hp}{a:Addr}{vs args:List V}{xs:List HH}{ws:List W}(Qn:List HH->Prop)(Q:VK),bF F H->H a=some (.lst vs)->Reps K F vs xs->gQ K rl F H args ws->g xs ws Qn ->
   (∀us ys,Reps K F us ys->Qn ys->Q .non (EB H a (.lst us)))->r (.ref a) args H Q
noncomputable def xy(i:Nat)(g:List HH->List W->(List HH->Prop)->Prop)(fs:GF):GG:=fun D ρ=>∃xs,ρ[i]?=some (some (.ml xs))/\fs ρ fun ws=>g xs ws fun ys=>D.nx (ρ.set i (some (.ml ys)))
theorem sQ(i:Nat){nm:Str}{id:String}{r:V->List V->Hp->VK->Prop}{g:List HH->List W->(List HH->Prop)->Prop}{apos cpos:Pos}(slot:Slot "list" nm id)(hty:typeOf (.builtin id)=pure (.type "method_descriptor"))(hm:Hb X id r)(vm:BL X.K rl r g)(ha:GV X rl (e::es) fs)
 (hN:X.N[i]?=some x:=by rfl)(hv:GB X.env.scope x:=by first|exact J0 rfl|exact Jq (J0 rfl)|exact Jq (Jq rfl))
 (hd:(x==("__debug__" : Str))=false:=by decide)(hcd:(x==("__classdict__" : Str))=false:=by decide)
 (hbase:LX (.Name x px) nm X.env (eval (.Name x px) X.env)=eval (.Name x px) X.env:=by rfl)
 (hfew:((JR cpos (HZ (e::es) X.env)).all (fun x=>!x.1)&&(Nm cpos (LC [] X.env)).all (fun x=>x.1.isSome)
  && decide ((e::es).length+([]:List L7).length+(if([]:List L7).isEmpty then 0 else 1)<30))=true:=by rfl)
 (hline:(apos.endLine==cpos.line)=true:=by rfl)(hs:HZ (e::es) X.env=(false,eval e X.env)::HZ es X.env:=by rfl)(hplain:(JR cpos (HZ es X.env)).any (·.1)=false:=by rfl)
 (hsw:J4 (.Call (.Attribute (.Name x px) nm apos) (e::es) [] cpos) none pos.line X.env=pure false:=by rfl) :
 GZ X rl (.Expr (.Call (.Attribute (.Name x px) nm apos) (e::es) [] cpos) pos) (xy i g fs):=by
 obtain⟨t,p1,k⟩:=ha
 refine⟨_,oJ (yK MJ slot hty hm (cG hN hv hd hcd) p1 hbase hfew hline hs hplain) hsw,fun{F₀ H₀ F H σ ρ} R Dv D ok ⟨xs,e1,q⟩=>?_⟩
 obtain⟨v,h1,h2,h3⟩:=R.sl i _ e1
 obtain⟨a,vs,rfl,f,hr,hh,rs⟩:=(show iB X.K rl F H v xs from h2)
 refine⟨.ref a,h1,.inl ⟨rfl,vs,.inl (.inl hh)⟩,k R _ _ q fun args ws F1 H1 g1 r1 q1=>?_⟩
 refine vm _ _ g1.sub (g1.same a _ hh hr) (rs.mono g1.fs) r1 q1 fun us ys r2 q2=>?_
 exact ok.nx _ _ _ _ g1.fs ((R.grow g1).own e1 h1 r2) q2
noncomputable def Ag:List HH->List W->(List HH->Prop)->Prop:=fun xs ws Q=>∃x,gS ws=some [x]/\xs.length<sizeLine/\Q (xs++[x])
theorem xf{K:W.Frag}:BL K rl oD Ag:=fun{F H a vs args xs ws} Qn Q s ha rs ra ⟨x,e,z,q⟩ k=>by
 have r2:=cV ra e
 cases r2 with
 | cons rx r3 =>
   cases r3
   exact⟨a,vs,_,rfl,rfl,ha,by rw[rs.length];exact z,k _ _ (rs.snoc rx) q⟩
theorem jr(i:Nat){apos cpos:Pos}(ha:GV X rl [e] fs)(hN:X.N[i]?=some x:=by rfl)(hv:GB X.env.scope x:=by first|exact J0 rfl|exact Jq (J0 rfl)|exact Jq (Jq rfl))
 (hd:(x==("__debug__" : Str))=false:=by decide)(hcd:(x==("__classdict__" : Str))=false:=by decide)
 (hbase:LX (.Name x px) "append" X.env (eval (.Name x px) X.env)=eval (.Name x px) X.env:=by rfl)
 (hfew:((JR cpos (HZ [e] X.env)).all (fun x=>!x.1)&&(Nm cpos (LC [] X.env)).all (fun x=>x.1.isSome)
  && decide (([e]).length+([]:List L7).length+(if([]:List L7).isEmpty then 0 else 1)<30))=true:=by rfl)
 (hline:(apos.endLine==cpos.line)=true:=by rfl)(hs:HZ [e] X.env=(false,eval e X.env)::HZ [] X.env:=by rfl)(hplain:(JR cpos (HZ [] X.env)).any (·.1)=false:=by rfl)
 (hsw:J4 (.Call (.Attribute (.Name x px) "append" apos) [e] [] cpos) none pos.line X.env=pure false:=by rfl) :
 GZ X rl (.Expr (.Call (.Attribute (.Name x px) "append" apos) [e] [] cpos) pos) (xy i Ag fs) :=
 sQ i MB MC ee xf ha hN hv hd hcd hbase hfew hline hs hplain hsw
noncomputable def gN:W->Bool
 | .ml _=>false
 | .md _=>false
 | .mk _=>false
 | .pk _=>false
 | _=>true
noncomputable def Et(K:W.Frag)(rl:RlT)(P:List W->(HH->Prop)->Prop):Sp:=fun vs H Q _=>∃F ws,bF F H/\GT rl F H/\gQ K rl F H vs ws/\ws.all gN=true/\P ws fun d=>∀v F' H',Grow rl F H F' H'->Rep K F' v d->Q v H'
noncomputable def dD(N:List Str)(ws:List W):En:=ws.map some++IC (N.length-ws.length) none
theorem jG{K:W.Frag}{F H:Hp}:∀{vs:List V}{ws:List W}{i:Nat}{w:W},gQ K rl F H vs ws->ws[i]?=some w->∃v,vs[i]?=some v/\du K rl F H v w
 | _,_,_,_,.nil,e=>by simp at e
 | _,_,0,_,.cons h _,e=>by simp at e;subst e;exact⟨_,rfl,h⟩
 | _,_,i+1,w,.cons _ r,e=>by
   obtain⟨v,h1,h2⟩:=jG (i:=i) (w:=w) r (by simpa using e)
   exact⟨v,by simpa using h1,h2⟩
theorem jx{N:List Str}{ws:List W}{w:W}(h:(dD N ws)[i]?=some (some w)):ws[i]?=some w:=by
 unfold dD at h
 by_cases hi:i<ws.length
 · rw[Ka (by simpa using hi),Jd]at h
   cases q:ws[i]? with
   | none=>rw[q]at h;cases h
   | some x=>rw[q]at h;cases h;rfl
 · rw[Kp (by simpa using hi),Lu]at h
   split at h<;>cases h
theorem iD{K:W.Frag}{N:List Str}{ws:List W}(s:bF F H)(ra:GT rl F H)(r:gQ K rl F H vs ws)(ok:ws.all gN=true):VR K rl F H F H (start N vs) (dD N ws):=by
 have hl:vs.length=ws.length:=KF r
 have no:∀(i:Nat) w,(dD N ws)[i]?=some (some w)->gN w=true:=fun i w e=>(JP.mp ok) w (Ki (jx e))
 refine⟨Grow.refl s ra,fun i w e=>?_,fun i j xs ys v _ e1 _ o _ _ _=>(by have:=no i _ e1;cases xs<;>first|exact Bool.noConfusion o|exact Bool.noConfusion this),fun i xs e=>(by have:=no i _ e;cases this),?_⟩
 · obtain⟨v,h1,h2⟩:=jG r (jx e)
   refine⟨v,?_,h2,?_⟩
   · unfold start
     rw[Ka (by simpa using(Iy.mp h1).1),Jd,h1]
     rfl
   · have:=no i w e
     cases w with
     | ml xs=>cases this
     | md xs=>cases this
     | mk xs=>cases this
     | nt _=>trivial
     | lk=>trivial
     | sc _=>trivial
     | fd _=>trivial
     | fw _=>trivial
     | ft _=>trivial
     | xc _ _=>trivial
     | dp _ _=>trivial
     | d _=>trivial
     | pk _=>trivial
     | reel=>trivial
     | vv _=>trivial
 · unfold dD start
   simp[hl]
noncomputable def qS(Q:HH->Prop):VEnds:=⟨fun _=>Q .none,fun w=>∃d,w.fz = .d d/\Q d,fun _=>False,fun _=>False⟩
theorem Eu{K:W.Frag}{base:Heap}{st:Stmt}{fa:Addr}{N ps:List Str}{k:Nat}{Pd:List W->(HH->Prop)->Prop}{t:GG}
 (Fn:Fun K x qual st fa fd)(S:FnScope N ps (defScope st))(len:∀ws Q,Pd ws Q->ws.length=ps.length)
 (hbody:∀(cdv:HQ)(A:Jz)(outer:List Env)(s:HU)(H:Hp)(E:XK),Room k (A.deeper (M_ qual (defScope st) s.heap.objs.size fa cdv)) ->
  mC (qG Hy P w K mg base N qual (defScope st) fa cdv A outer s H E).nox rl (defBody st) t)
 (hread:∀ws Q,Pd ws Q->t (qS Q) (dD N ws)):FnOk P w K mg base Hy (k+1) fa fd ps (Et K rl Pd):=by
 refine Fn.ok S (fun vs H Q E ⟨F,ws,_,_,r,_,q⟩=>(KF r).trans (len ws _ q)) fun cdv A outer s H vs Q E hr h=>?_
 obtain⟨F,ws,sm,ra,r,ok,q⟩:=h
 obtain⟨T,p,kk⟩:=hbody cdv A outer s H E hr
 refine⟨T,p,kk (iD sm ra r ok) (qS _) _ ⟨?_,?_,fun _ _ _ _ _ _ z=>JL z,fun _ _ _ _ _ _ z=>JL z⟩ (hread ws _ q)⟩
 · intro F1 H1 σ1 ρ1 _ R1 q1
   exact q1 .non F1 H1 R1.g .non
 · rintro v w1 F1 H1 g1 r1 n1 ⟨d,ed,q1⟩
   obtain⟨F2,g2,s2,r2⟩:=du.fz g1 r1 n1
   rw[ed]at r2
   exact q1 v F2 H1 g2 r2
structure Dfn (P:II) (w:Ju) (K:W.Frag) (mg:Str->Option HQ) (base:Heap) (rl:RlT) (x:Str) (ps:List Str) (k:Nat) (Pd:List W->(HH->Prop)->Prop):Prop where
 mono:∀ws Q Q',(∀d,Q d->Q' d)->Pd ws Q->Pd ws Q'
 ex:∃f fd,mg x=some (.ref f)/\W.keepIn K (.ref f)=true/\Binds K fd ps []/\FnOk P w K mg base Hy k f fd ps (Et K rl Pd)
noncomputable def Av(Pd:List W->(HH->Prop)->Prop)(fs:GF):TV:=fun ρ Q=>fs ρ fun ws=>ws.all gN=true/\Pd ws fun d=>Q (.d d)
theorem al{ps:List Str}{k:Nat}{Pd:List W->(HH->Prop)->Prop}(D:Dfn X.prog X.w X.K X.mg X.base rl x ps k Pd)(hr:Room k X.A)(ha:GV X rl (e::es) fs)(hg:Gl X x:=by rfl)
 (hdb:(x==("__debug__" : Str))=false:=by decide)(he:HZ (e::es) X.env=(false,eval e X.env)::HZ es X.env:=by rfl)(hpl:(JR pos (HZ es X.env)).any (·.1)=false:=by rfl) :
 PV X rl (.Call (.Name x p) (e::es) [] pos) (Av Pd fs):=by
 obtain⟨f,fd,hm,hk,hb,F⟩:=D.ex
 obtain⟨t,p1,kk⟩:=ha
 refine⟨_,kH F hr hg hm hk hb .nil vJ p1 hdb he hpl,fun R Qd Q q h=>kk R _ _ q fun vs ws F1 H1 g1 r1 ⟨ok,q1⟩=>?_⟩
 refine⟨F1,ws,g1.sub,g1.reel,by rw[Kc];exact r1,ok,?_⟩
 exact D.mono ws _ _ (fun d qd v F2 H2 g2 r2=>h v (.d d) F2 H2 (g1.trans g2) r2 trivial qd) q1
end
end L2.VL
variable{rl:L2.VL.RlT}{ρ:L2.VL.En}{fi:L2.VL.En->(List HH->Prop)->Prop}
namespace L2
theorem eX{env:Env}:∀(names:List (Str×Ls))(acc:List (Str×Addr)),(∀x∈names,x.2 = .free->∃c,env.cells.lookup x.1=some c)->(∀x c,acc.lookup x=some c->env.cells.lookup x=some c) ->
 ∃ cl,(forIn names acc (fun(x:Str×Ls)(cs:List (Str×Addr))=>if(x.2==Jj)=true then do let c <- cellOf env x.1;pure (L9 ((x.1,c)::cs))else pure (L9 cs)):Sem (List (Str×Addr)))=pure cl /\
   (∀x c,cl.lookup x=some c->env.cells.lookup x=some c)/\(∀x,(acc.lookup x).isSome=true->(cl.lookup x).isSome=true)/\∀x,(x,Jj)∈names->(cl.lookup x).isSome=true
 | [],acc,_,h2=>⟨acc,rfl,h2,fun _ z=>z,fun _ z=>nomatch z⟩
 | (n,k)::r,acc,h1,h2=>by
   by_cases hk:k = .free
   · subst hk
     obtain⟨c,hc⟩:=h1 (n,.free) HM rfl
     have h2':∀x c',((n,c)::acc).lookup x=some c'->env.cells.lookup x=some c':=fun x c' z=>by
      rw[Jh]at z
      cases e:x==n with
      | true =>
        rw[e]at z
        have e':x=n:=by simpa using e
        cases z
        rw[e']
        exact hc
      | false =>
        rw[e]at z
        exact h2 x c' z
     obtain⟨cl,e,g1,g2,g3⟩:=eX r ((n,c)::acc) (fun x hx=>h1 x (HK _ hx)) h2'
     refine⟨cl,?_,g1,fun x z=>g2 x ?_,fun x z=>?_⟩
     · rw[List.forIn_cons]
       simp only[beq_self_eq_true,if_true]
       have e0:cellOf env n=pure c:=by unfold cellOf;rw[hc]
       rw[e0,pure_bind,pure_bind]
       exact e
     · rw[Jh]
       split
       · rfl
       · exact z
     · rcases Ih.mp z with z|z
       · cases z
         refine g2 _ ?_
         rw[Jh]
         simp
       · exact g3 x z
   · obtain⟨cl,e,g1,g2,g3⟩:=eX r acc (fun x hx=>h1 x (HK _ hx)) h2
     refine⟨cl,?_,g1,g2,fun x z=>?_⟩
     · rw[List.forIn_cons]
       have hb:(k==Jj)=false:=by simpa using hk
       simp only[hb,Jb,if_false]
       rw[pure_bind]
       exact e
     · rcases Ih.mp z with z|z
       · cases z;exact absurd rfl hk
       · exact g3 x z
theorem cg{env:Env}(h:∀x∈scope.names,x.2 = .free->∃c,env.cells.lookup x.1=some c) :
 ∃cl,closureFor scope env=pure cl/\(∀x c,cl.lookup x=some c->env.cells.lookup x=some c)/\∀x,(x,Jj)∈scope.names->(cl.lookup x).isSome=true:=by
 obtain⟨cl,e,g1,_,g3⟩:=eX scope.names [] h (fun _ _ z=>by cases z)
 refine⟨cl,?_,g1,g3⟩
 unfold closureFor
 first
  | exact e
  | (simp only[bind_pure];exact e)
theorem jF{env:Env}(h:(Ow scope env).names.lookup x=some .cell\/(Ow scope env).names.lookup x=some .free):(x,Jj)∈scope.names\/(x,Kk)∈scope.names:=by
 have key:∀names:List (Str×Ls),∀k,(k = .cell\/k = .free) ->
  (names.map fun(n,k)=>if(k==Jj&&env.scope.kind == .function&&env.kindOf n==some .cell)then(n,Kk)else(n,k)).lookup x=some k->(x,Jj)∈names\/(x,Kk)∈names:=by
  intro names
  induction names with
  | nil=>intro k _ z;cases z
  | cons y r ih =>
    intro k hk z
    obtain⟨n,kn⟩:=y
    have step:((x,Jj)∈r\/(x,Kk)∈r)->((x,Jj)∈(n,kn)::r\/(x,Kk)∈(n,kn)::r):=fun z=>z.imp (HK _) (HK _)
    rw[Ja]at z
    dsimp only at z
    by_cases hc:(kn==Jj&&env.scope.kind == .function&&env.kindOf n==some .cell)=true
    · rw[if_pos hc,Jh]at z
      have hf:kn = .free:=by
       have:=(HV.mp (HV.mp hc).1).1
       simpa using this
      cases e:x==n with
      | true =>
        have e':x=n:=by simpa using e
        rw[e',<- hf]
        exact .inl HM
      | false =>
        rw[e]at z
        exact step (ih k hk z)
    · rw[if_neg hc,Jh]at z
      cases e:x==n with
      | true =>
        rw[e]at z
        have e':x=n:=by simpa using e
        cases z
        rcases hk with hk|hk
        · rw[e',hk];exact .inr HM
        · rw[e',hk];exact .inl HM
      | false =>
        rw[e]at z
        exact step (ih k hk z)
 rcases h with h|h
 · exact key scope.names .cell (.inl rfl) h
 · exact key scope.names .free (.inr rfl) h
theorem bx:∀(names:List (Str×Ls))(n:Nat)(acc:List (Str×Addr)),J5 n names acc=J5 n names []++acc
 | [],_,_=>rfl
 | (x,k)::r,n,acc=>by
   unfold J5
   split
   · rw[bx r (n+1) ((x,n)::acc),bx r (n+1) [(x,n)],K9]
     rfl
   · exact bx r n acc
theorem cX{x:Str}{c:Addr}:∀{names:List (Str×Ls)}{n:Nat},(x,c)∈J5 n names []->(x,Kk)∈names
 | (y,k)::r,n,h=>by
   unfold J5 at h
   split at h
   · rename_i hk
     rw[bx]at h
     rcases Ip.mp h with h|h
     · exact HK _ (cX h)
     · simp at h
       have:k = .cell:=by simpa using hk
       rw[h.1,this]
       exact HM
   · exact HK _ (cX h)
theorem eW{a b:List (Str×Addr)}:(a++b).lookup x=(a.lookup x).or (b.lookup x):=by
 induction a with
 | nil=>simp
 | cons y a ih =>
   obtain⟨n,c⟩:=y
   rw[MQ,Jh,Jh]
   cases x==n<;>simp[ih]
theorem kJ{M:Model}{globals:Addr}{o:Env}{Q:Env->HU->Prop}
 (hQ:Q {scope,locals:=s.heap.objs.size,globals,cells:=J5 (s.heap.objs.size+1) scope.names cl,qual,func:=none,code:=o.code,frame:=o.frame,builtins:=o.builtins} {s with heap:=Ol (s.heap.push {cls:=.type "dict", data:=.dict #[]}) scope.names}) :
 Iv M A (LJ scope globals cl [] qual none .none (some o)) Q E s:=by
 simp only[LJ,Option.isSome_some,if_true]
 refine HJ (wpAny_alloc ?_)
 refine HJ (wpAny_layCells _ (fun name kind cells=>by cases hkc:kind==Kk<;>simp[hkc]) _ _ _ _ ?_)
 rw[show({s with heap:=s.heap.push {cls:=.type "dict", data:=.dict #[]}}:HU).heap.objs.size=s.heap.objs.size+1 from Lg ..]
 exact HJ (H_ (H_ hQ))
noncomputable def bm(X:Cx)(N':List Str)(scope:Scope)(cl:List (Str×Addr))(fp:List Addr)(pn:List (Addr×Obj))(s:HU)(H:Hp):Cx :=
 {X with N:=N',s₀:=s,H₀:=H,env:={compEnvC scope cl s.heap.objs.size X.env with cells:=J5 (s.heap.objs.size+1) scope.names cl},outer:=X.stack,ex:=fp,fn:=fun x=>scope.names.lookup x==some .cell,pn:=pn,xe:=fun _ _=>False}
abbrev dI(ifs:List Expr)(env:Env):Sem Bool:=forIn ifs true fun c r=>if r=true then do let ok <- isTrue c env (eval c env);pure (L9 ok)else pure (L9 r)
noncomputable def GX(X:Cx)(ifs:List Expr)(t:TT):Prop :=
 ∀(pins:List (Addr×Obj))(s:HU)(σ:St)(H:Hp)(Q:Bool->Hp->Prop),Inv X pins σ H s->t σ H Q->Iv (IH X.prog X.w) X.A (dI ifs X.env) (TP X pins σ Q) X.xe s
theorem vg:GX X [] (fun _ H Q=>Q true H):=fun _ _ _ H _ I h=>wpAny_tests_nil ⟨H,I,h⟩
theorem vf{t:TT}(h:PT X c t):GX X [c] t:=fun pins s σ H Q I hw=>wpAny_tests_one (h pins s σ H Q I hw)
theorem qf{prog:II}{R:Oh->HU->Prop}{elt target:Expr}{it acc:HQ}{env:Env}(I:Nat->HU->Prop)
 (turn:∀n s,I n s->Iv (IH prog w) A (M7 it) (fun r s₁=>(r=none/\R (.ok .next) s₁)\/∃v,r=some v /\
  Iv (IH prog w) A (Kb target it v) (fun _ s₂=>Iv (IH prog w) A (KL target env v) (fun _ s₃=>Iv (IH prog w) A (dI ifs env) (fun ok s₄ =>
   if ok=true then Iv (IH prog w) A (eval elt env) (fun x s₅=>Iv (IH prog w) A (call (.builtin "list.append") [acc,x]) (fun _ s₆=>∃m,m<n/\I m s₆) (fun _ _=>False) s₅) (fun _ _=>False) s₄
   else ∃m,m<n/\I m s₄) (fun _ _=>False) s₃) (fun _ _=>False) s₂) (fun _ _=>False) s₁) (fun _ _=>False) s)
 (n:Nat)(h:I n s):Km (IH prog w) A (.compLoop (.ListComp elt [⟨target,iter,ifs,0⟩] scope pos) 0 it acc env) R s:=by
 refine Nb rfl I (fun n s hI=>?_) n h
 show Iv _ A ((NT (.ListComp elt [⟨target,iter,ifs,0⟩] scope pos) 0 it acc env).onRaise (fun x=>do NU x env;L_ x)) _ _ s
 refine NB ?_
 rw[compTurn_list]
 refine HJ (JI (HJ (IL (turn n s hI) (fun r s₁ h₁=>?_) fun _ _ h'=>h'.elim)))
 rcases h₁ with⟨rfl,h₁⟩|⟨v,rfl,h₁⟩
 · exact H_ h₁
 · refine HJ (IL h₁ (fun _ s₂ h₂=>HJ (IL h₂ (fun _ s₃ h₃=>HJ (IL h₃ (fun ok s₄ h₄=>?_) fun _ _ z=>z.elim)) fun _ _ z=>z.elim)) fun _ _ z=>z.elim)
   cases ok with
   | false=>exact H_ ⟨rfl,h₄⟩
   | true=>exact HJ (HJ (IL h₄ (fun x s₅ h₅=>HJ (IL h₅ (fun _ s₆ h₆=>H_ (H_ ⟨rfl,h₆⟩)) fun _ _ z=>z.elim)) fun _ _ z=>z.elim))
noncomputable def nv(fr:List (Option Nat))(σ:St):St:=fr.map fun o=>o.bind fun j=>(σ[j]?).join
noncomputable def lS(fr:List (Option Nat))(N' N:List Str)(sc scX:Scope):Bool :=
 decide (fr.length=N'.length)&&(IV fr.length).all fun i=>match fr[i]? with
  | some (some j)=>match N'[i]? with
    | some x=>decide (N[j]?=some x)&&decide (sc.names.lookup x=some .free)&&(decide (scX.names.lookup x=some .cell)||decide (scX.names.lookup x=some .free))
    | none=>false
  | _=>true
noncomputable def mP(sc scX:Scope):Bool :=
 decide (sc.kind = .function)&&sc.names.all fun y=>(decide (y.2 ≠ .cell)||decide (sc.names.lookup y.1=some .cell))&&(decide (y.2 ≠ .local)||decide (sc.names.lookup y.1=some .local)) &&
  (decide (y.2 ≠ .free)||(decide (scX.names.lookup y.1=some .cell)||decide (scX.names.lookup y.1=some .free)))
theorem lS.get{fr:List (Option Nat)}{N' N:List Str}{sc scX:Scope}(h:lS fr N' N sc scX=true):fr.length=N'.length/\∀(i j:Nat),fr[i]?=some (some j)->∃x,N'[i]?=some x/\N[j]?=some x/\sc.names.lookup x=some .free/\(scX.names.lookup x=some .cell\/scX.names.lookup x=some .free):=by
 unfold lS at h
 obtain⟨h1,h2⟩:=HV.mp h
 refine⟨of_decide_eq_true h1,fun i j e=>?_⟩
 have hi:i<fr.length:=(Iy.mp e).1
 have q:=JP.mp h2 i (KO.mpr hi)
 rw[e]at q
 dsimp only at q
 cases en:N'[i]? with
 | none=>rw[en]at q;cases q
 | some x =>
   rw[en]at q
   dsimp only at q
   obtain⟨q1,q2⟩:=HV.mp q
   obtain⟨q3,q4⟩:=HV.mp q1
   exact⟨x,rfl,of_decide_eq_true q3,of_decide_eq_true q4,(Ir.mp q2).imp of_decide_eq_true of_decide_eq_true⟩
theorem m9{k:Ls}:∀{names:List (Str×Ls)},names.lookup x=some k->(x,k)∈names:=fun h=>Jt h
structure CompA where
 cl:List (Str×Addr)
 fp:List Addr
 pn:List (Addr×Obj)
 s:HU
 H:Hp
abbrev blk(X:Cx)(N':List Str)(scope:Scope)(y:CompA):Cx:=bm X N' scope y.cl y.fp y.pn y.s y.H
noncomputable def uO(wi:TI)(fr:List (Option Nat))(g:CompA->TG)(tt:CompA->TT)(te:CompA->TE):TE:=fun σ H Q=>wi σ H fun J H1=>∀D,H1 D=none->∃Wv:Nat->Nat->List V->St->Hp->Prop,(∃m,Wv 0 m [] (nv fr σ) (EB H1 D (.lst []))) /\
 ∀ (z:CompA) i m acc σc H,Wv i m acc σc H->(J.stop i H/\Q (.ref D) H)\/(J.go i H/\∀x H',J.yld i H x H'->g z x σc H' fun σ2 H2=>tt z σ2 H2 fun b H3 =>
   if b=true then te z σ2 H3 fun y H4=>H4 D=some (.lst acc)/\acc.length<sizeLine/\∃m',m'<m/\Wv (i+1) m' (acc++[y]) σ2 (EB H4 D (.lst (acc++[y])))else ∃m',m'<m/\Wv (i+1) m' acc σ2 H3)
theorem e9{env:Env}:∀{names:List (Str×Ls)}{x:Str},names.lookup x=some .free ->
 (names.map fun(n,k)=>if(k==Jj&&env.scope.kind == .function&&env.kindOf n==some .cell)then(n,Kk)else(n,k)).lookup x=some .cell \/
 (names.map fun(n,k)=>if(k==Jj&&env.scope.kind == .function&&env.kindOf n==some .cell)then(n,Kk)else(n,k)).lookup x=some .free
 | [],_,h=>by simp at h
 | (n,k)::r,x,h=>by
   have ih:=@e9 env r x
   rw[Ja]
   dsimp only
   cases hx:x==n with
   | true =>
     simp only[Jh,hx]at h
     cases h
     by_cases hc:((Jj==Jj)&&env.scope.kind == .function&&env.kindOf n==some .cell)=true
     · rw[if_pos hc];simp[Jh,hx]
     · rw[if_neg hc];simp[Jh,hx]
   | false =>
     simp only[Jh,hx]at h
     by_cases hc:(k==Jj&&env.scope.kind == .function&&env.kindOf n==some .cell)=true
     · rw[if_pos hc];simp only[Jh,hx];exact ih h
     · rw[if_neg hc];simp only[Jh,hx];exact ih h
theorem cW{ex:Expr}{H3:Hp}{s3:HU}{D:Addr}{J:It}{Q:VK}
 (N':List Str)(fr:List (Option Nat))(hc:X.calm=true)(hkind:scope.kind = .function)(hcell:∀y∈scope.names,y.2 = .cell->scope.names.lookup y.1=some .cell)
 (hfree:∀y∈scope.names,y.2 = .free->X.env.kindOf y.1=some .cell\/X.env.kindOf y.1=some .free)(frl:fr.length=N'.length)
 (frg:∀(i j:Nat),fr[i]?=some (some j)->∃x,N'[i]?=some x/\X.N[j]?=some x/\scope.names.lookup x=some .free/\(X.env.scope.names.lookup x=some .cell\/X.env.scope.names.lookup x=some .free))
 (cl1:∀x c,cl.lookup x=some c->X.env.cells.lookup x=some c)(cl2:∀x,(x,Jj)∈scope.names->(cl.lookup x).isSome=true)
 (I3:Inv X pins σ H3 s3)(T:Turn X.prog X.w X.K tg J fp it tn)(tn3:tn 0 s3.heap)(fpD:∀b∈fp,H3 b=none)(fp3:∀b∈fp,b<s3.heap.objs.size)
 (fpk:∀b∈fp,b≠X.env.locals/\b∉X.fs/\(b∈X.ex\/X.s₀.heap.objs.size<=b)/\(∀x c,X.env.cells.lookup x=some c->c≠b)/\∀p∈X.pn++pins,p.1≠b)
 (loop:∀s',Inv (bm X N' scope cl fp (X.pn++pins) s3 H3) [] (nv fr σ) H3 s'->tn 0 s'.heap->(∀{H':Hp},(∀b∈fp,H' b=none)->∀b∈fp,j_ (bm X N' scope cl fp (X.pn++pins) s3 H3) [] H' b) ->
  Km (IH X.prog X.w) X.A (.compStart ex 0 (.ref it) (.ref D) (bm X N' scope cl fp (X.pn++pins) s3 H3).env) (fun r s5=>r = .ok .next/\∃σ5 H4,Inv (bm X N' scope cl fp (X.pn++pins) s3 H3) [] σ5 H4 s5/\Q (.ref D) H4) s')
 (fin:∀s5 H4 m,s5.heap.Ns s3.heap.objs.size m->(∀h',KC s3.heap.objs.size s5.heap h'->Inv X pins σ H4 {s5 with heap:=h' })->j_ X pins H4 s3.heap.objs.size->Q (.ref D) H4->Rp s3.heap.objs.size (.ok .next) s5) :
 Iv (IH X.prog X.w) X.A (LJ scope X.env.globals cl [] X.env.qual none .none (some X.env)) (fun cenv s₄ =>
  Km (IH X.prog X.w) X.A (.compStart ex 0 (.ref it) (.ref D) {cenv with scope:=Ow scope X.env})
   (Rp cenv.locals) s₄) X.xe s3:=by
 refine kJ ?_
 have ok:=cellsFrom_ok scope.names (s3.heap.push {cls:=.type "dict", data:=.dict #[]}) (s3.heap.objs.size+1) [] ⟨fun _ _ hm=>(nomatch hm),MA⟩ (by rw[Lg];exact HX _)
 rw[Lg]at ok
 have kp:∀b o,s3.heap.get? b=some o->(Ol (s3.heap.push {cls:=.type "dict", data:=.dict #[]}) scope.names).get? b=some o:=fun b o e=>pushCells_keeps _ _ b o (HN _ e)
 have hns₁:(Ol (s3.heap.push {cls:=.type "dict", data:=.dict #[]}) scope.names).Ns s3.heap.objs.size (fun _=>none):=(Heap.Ns.new s3.heap (.type "dict")).keeps (pushCells_keeps _ _)
 generalize Ol (s3.heap.push {cls:=.type "dict", data:=.dict #[]}) scope.names=h₁ at ok kp hns₁ ⊢
 have cs:∀x c,(J5 (s3.heap.objs.size+1) scope.names cl).lookup x=some c->(J5 (s3.heap.objs.size+1) scope.names []).lookup x=some c\/cl.lookup x=some c:=fun x c e=>by
  rw[bx,eW]at e
  cases q:(J5 (s3.heap.objs.size+1) scope.names []).lookup x with
  | none=>rw[q]at e;exact .inr (by simpa using e)
  | some c'=>rw[q]at e;exact .inl (by simpa using e)
 have own:∀x c,(J5 (s3.heap.objs.size+1) scope.names []).lookup x=some c->h₁.IsCell c none/\s3.heap.objs.size+1<=c:=fun x c e=>ok.empty x c (Jt e)
 have clt:∀x c,cl.lookup x=some c->c<s3.heap.objs.size:=fun x c e=>by
  obtain⟨v,o,ho,_⟩:=I3.cell x c (cl1 x c e)
  exact Ii ho
 have frn:∀x,scope.names.lookup x=some .free->(J5 (s3.heap.objs.size+1) scope.names []).lookup x=none:=fun x e=>by
  cases q:(J5 (s3.heap.objs.size+1) scope.names []).lookup x with
  | none=>rfl
  | some c =>
    have:=hcell (x,.cell) (cX (Jt q)) rfl
    rw[e]at this
    cases this
 have notC:∀b o,s3.heap.get? b=some o->b≠s3.heap.objs.size:=fun b o e=>IP (Ii e)
 have fpstk:∀b∈fp,b∉frs X.stack:=fun b hb z=>(Ih.mp (I3.stkSub b z)).elim (fpk b hb).1 (fpk b hb).2.1
 have cellK:∀c v,s3.heap.IsCell c v->h₁.IsCell c v:=fun c v ⟨o,ho,hd⟩=>⟨o,kp c o ho,hd⟩
 have IY:Inv (bm X N' scope cl fp (X.pn++pins) s3 H3) [] (nv fr σ) H3 {s3 with heap:=h₁}:=by
  refine⟨⟨I3.ok.mod,hkind,I3.ok.glob,I3.ok.blt,HX _,fun x y c e1 e2=>?_,fun x hx=>?_,fun x c _ e=>?_,I3.ok.hd,I3.ok.frames,.inl rfl,
   fun b hb=>⟨IP (fp3 b hb),fun x c e=>?_⟩,I3.bs,IT I3.ok.bsz I3.sz,fun b o e hb=>?_,fun b hb=>fpstk b hb,I3.stack,I3.stkFree⟩,
   rfl,I3.bare,Un.kept kp,⟨_,hns₁,fun i x v e1 e2 e3=>?_⟩,fun x c e=>?_,I3.hok.fresh (HX _),fun x c e=>?_,fun p hp=>?_,I3.hok.kept kp,?_⟩
  · rcases cs x c e1 with q1|q1<;>rcases cs y c e2 with q2|q2
    · exact name_of_addr ok.apart (Jt q1) (Jt q2)
    · exact absurd (HL (clt y c q2) (K_ (own x c q1).2)) (J9 _)
    · exact absurd (HL (clt x c q1) (K_ (own y c q2).2)) (J9 _)
    · exact I3.ok.inj x y c (cl1 x c q1) (cl1 y c q2)
  · refine Kz.mp ?_
    show((J5 (s3.heap.objs.size+1) scope.names cl).lookup x).isSome=true
    rcases jF hx with q|q
    · exact W.cellsFrom_some _ _ _ (.inr (cl2 x q))
    · exact W.cellsFrom_some _ _ _ (.inl (hcell _ q rfl))
  · rename_i hfn
    rcases cs x c e with q|q
    · have:=(own x c q).2
      show s3.heap.objs.size<=c
      omega
    · have hfn:(scope.names.lookup x==some Kk)=true:=hfn
      have hl:scope.names.lookup x=some .cell:=by simpa using hfn
      obtain⟨c',ec'⟩:=Kz.mp (W.cellsFrom_some scope.names (s3.heap.objs.size+1) [] (.inl hl))
      have e':(J5 (s3.heap.objs.size+1) scope.names cl).lookup x=some c:=e
      rw[bx,eW,ec']at e'
      simp at e'
      subst e'
      exact K_ (own x c' ec').2
  · rcases cs x c e with q|q
    · exact fun z=>absurd (HL (fp3 b hb) (K_ (by rw[<- z];exact(own x c q).2))) (J9 _)
    · exact(fpk b hb).2.2.2.1 x c (cl1 x c q)
  · rcases(fpk b hb).2.2.1 with z|z
    · exact I3.ok.noex b o e z
    · exact absurd (HL (Ii e) (IT I3.ok.bsz z)) (J9 _)
  · have e2':(fr[i]?).map (fun o=>o.bind fun j=>(σ[j]?).join)=some (some v):=by unfold nv at e2;rw[Jd]at e2;exact e2
    cases ef:fr[i]? with
    | none=>rw[ef]at e2';cases e2'
    | some o =>
      cases o with
      | none=>rw[ef]at e2';cases e2'
      | some j =>
        rw[ef]at e2'
        have e3':(σ[j]?).join=some v:=Jc e2'
        have e4:σ[j]?=some (some v):=by
         cases q:σ[j]? with
         | none=>rw[q]at e3';cases e3'
         | some z=>rw[q]at e3';cases e3';rfl
        obtain⟨x',n1,n2,n3,n4⟩:=frg i j ef
        have ex:x'=x:=Jc (n1.symm.trans e1)
        subst ex
        obtain⟨m,hn,hl⟩:=I3.loc
        obtain⟨u,ru,lk⟩:=hl j x' v n2 e4 (n4.elim (fun z=>.inr (.inl z)) fun z=>.inr (.inr z))
        refine⟨u,ru,?_⟩
        rcases lk with⟨kl,_⟩|⟨_,c,ec,hcl⟩
        · exact absurd (show X.env.scope.names.lookup x'=some .local from kl) (by rcases n4 with z|z<;>rw[z]<;>decide)
        · obtain⟨c',ec'⟩:=Kz.mp (cl2 x' (m9 n3))
          have:=cl1 x' c' ec'
          rw[ec]at this
          cases this
          refine .inr ⟨e9 n3,c,?_,cellK _ _ hcl⟩
          show(J5 (s3.heap.objs.size+1) scope.names cl).lookup x'=some c
          rw[bx,eW,frn x' n3]
          simpa using ec'
  · rcases cs x c e with q|q
    · exact⟨_,(own x c q).1⟩
    · obtain⟨v,z⟩:=I3.cell x c (cl1 x c q)
      exact⟨v,cellK _ _ z⟩
  · rcases cs x c e with q|q
    · exact I3.hok.fresh (by have:=(own x c q).2;omega)
    · exact I3.freeC x c (cl1 x c q)
  · rw[Kc]at hp
    obtain⟨e,n,ne,nf,d⟩:=I3.pin p hp
    exact⟨kp _ _ e,n,notC _ _ e,fun z=>(Ih.mp (I3.stkSub p.1 z)).elim ne nf,d⟩
  · unfold nv
    rw[HW]
    exact frl
 have stat:∀{H':Hp},(∀b∈fp,H' b=none)->∀b∈fp,j_ (bm X N' scope cl fp (X.pn++pins) s3 H3) [] H' b:=fun hn b hb =>
  ⟨hn b hb,IP (fp3 b hb),fpstk b hb,.inl hb,fun x c e=>(by
   rcases cs x c e with q|q
   · exact fun z=>absurd (HL (fp3 b hb) (K_ (by rw[<- z];exact(own x c q).2))) (J9 _)
   · exact(fpk b hb).2.2.2.1 x c (cl1 x c q)),fun p hp=>by rw[Kc]at hp;exact(fpk b hb).2.2.2.2 p hp⟩
 refine Mm (loop _ IY (T.keep _ _ _ tn3 fun b _ o e=>kp b o e) stat) fun r s5 ⟨hr,σ5,H4,I5,qn⟩=>?_
 subst hr
 obtain⟨m,hn,_⟩:=I5.loc
 refine fin s5 H4 m hn (fun h' hs'=>?_) (I3.fpOk (HX _) I5.free) qn
 have k':∀b o,b≠s3.heap.objs.size->s5.heap.get? b=some o->h'.get? b=some o:=fun b o nb e=>hs'.extBut b o nb e
 have u5:Un (frs X.stack) fp H3 H4 s3.heap s5.heap:=I5.base
 have un:Un (frs X.stack) fp H3 H4 s3.heap h' :=
  ⟨fun b o e n hb hx=>k' b o (notC b o e) (u5.keep b o e n hb hx),fun b o e n hb hx=>by obtain⟨sl,q⟩:=u5.slot b o e n hb hx;exact⟨sl,k' b _ (notC b o e) q⟩,u5.free,
   fun b o e hx=>by obtain⟨o',q⟩:=u5.there b o e hx;exact⟨o',k' b _ (notC b o e) q⟩,u5.tups,u5.frzs,u5.tbls⟩
 have nC:H4 s3.heap.objs.size=none:=I5.free
 have hok':Hu X.prog X.w H4 h':=fun b u e=>(I5.hok b u e).stay (fun c v hcv q=>k' c v (by
  rintro rfl
  rcases hcv with z|z
  · rw[<- z]at e;rw[nC]at e;cases e
  · rw[nC]at z;cases z) q) (fun _ q=>q) fun _ _ q=>q
 obtain⟨hh,g5,d5,t5,os5⟩:=s5
 have os':os5=s3.os:=I5.os
 subst os'
 have I':=Inv.call (s:=s3) (h':=h') (g':=g5) (d':=d5) (t':=t5) (ch:=fp) I3 un hok' I5.bare (fun b hb=>⟨(fpk b hb).2.2.1,(fpk b hb).1,(fpk b hb).2.2.2.1,(fpk b hb).2.2.2.2⟩)
 exact I'
theorem iw{elt:Expr}{g:TG}{tt:TT}{te:TE}{H3:Hp}{s3:HU}{D:Addr}{J:It}{Q:VK}
 (N':List Str)(fr:List (Option Nat))(hc:X.calm=true)(hkind:scope.kind = .function)(hcell:∀y∈scope.names,y.2 = .cell->scope.names.lookup y.1=some .cell)
 (hfree:∀y∈scope.names,y.2 = .free->X.env.kindOf y.1=some .cell\/X.env.kindOf y.1=some .free)(frl:fr.length=N'.length)
 (frg:∀(i j:Nat),fr[i]?=some (some j)->∃x,N'[i]?=some x/\X.N[j]?=some x/\scope.names.lookup x=some .free/\(X.env.scope.names.lookup x=some .cell\/X.env.scope.names.lookup x=some .free))
 (cl1:∀x c,cl.lookup x=some c->X.env.cells.lookup x=some c)(cl2:∀x,(x,Jj)∈scope.names->(cl.lookup x).isSome=true)
 (I3:Inv X pins σ H3 s3)(T:Turn X.prog X.w X.K tg J fp it tn)(tn3:tn 0 s3.heap)(fpD:∀b∈fp,H3 b=none)(fp3:∀b∈fp,b<s3.heap.objs.size)
 (fpk:∀b∈fp,b≠X.env.locals/\b∉X.fs/\(b∈X.ex\/X.s₀.heap.objs.size<=b)/\(∀x c,X.env.cells.lookup x=some c->c≠b)/\∀p∈X.pn++pins,p.1≠b)
 (hg:PG (bm X N' scope cl fp (X.pn++pins) s3 H3) tg g)(ht:GX (bm X N' scope cl fp (X.pn++pins) s3 H3) ifs tt)(he:PE (bm X N' scope cl fp (X.pn++pins) s3 H3) elt te)
 {Wv:Nat->Nat->List V->St->Hp->Prop}{m0:Nat}(w0:Wv 0 m0 [] (nv fr σ) H3)
 (turn:∀i m acc σc H,Wv i m acc σc H->(J.stop i H/\Q (.ref D) H)\/(J.go i H/\∀x H',J.yld i H x H'->g x σc H' fun σ2 H2=>tt σ2 H2 fun b H3 =>
  if b=true then te σ2 H3 fun y H4=>H4 D=some (.lst acc)/\acc.length<sizeLine/\∃m',m'<m/\Wv (i+1) m' (acc++[y]) σ2 (EB H4 D (.lst (acc++[y])))else ∃m',m'<m/\Wv (i+1) m' acc σ2 H3))
 (fin:∀s5 H4 m,s5.heap.Ns s3.heap.objs.size m->(∀h',KC s3.heap.objs.size s5.heap h'->Inv X pins σ H4 {s5 with heap:=h' })->j_ X pins H4 s3.heap.objs.size->Q (.ref D) H4->Rp s3.heap.objs.size (.ok .next) s5) :
 Iv (IH X.prog X.w) X.A (LJ scope X.env.globals cl [] X.env.qual none .none (some X.env)) (fun cenv s₄ =>
  Km (IH X.prog X.w) X.A (.compStart (.ListComp elt [⟨tg,iter,ifs,0⟩] scope pos) 0 (.ref it) (.ref D) {cenv with scope:=Ow scope X.env})
   (Rp cenv.locals) s₄) X.xe s3:=by
 refine cW N' fr hc hkind hcell hfree frl frg cl1 cl2 I3 T tn3 fpD fp3 fpk (fun s' IY tY stat=>?_) fin
 have loop:Km (IH X.prog X.w) X.A (.compLoop (.ListComp elt [⟨tg,iter,ifs,0⟩] scope pos) 0 (.ref it) (.ref D) (bm X N' scope cl fp (X.pn++pins) s3 H3).env)
  (fun r s5=>r = .ok .next/\∃σ5 H4,Inv (bm X N' scope cl fp (X.pn++pins) s3 H3) [] σ5 H4 s5/\Q (.ref D) H4) s':=by
  refine qf (fun n s'=>∃i acc σ' H',Inv (bm X N' scope cl fp (X.pn++pins) s3 H3) [] σ' H' s'/\tn i s'.heap/\(∀b∈fp,H' b=none)/\Wv i n acc σ' H') ?_ m0
   ⟨0,[],_,_,IY,tY,fpD,w0⟩
  rintro n s4 ⟨i,acc,σ4,H4,I4,st4,fr4,w4⟩
  rcases turn i n acc σ4 H4 w4 with⟨stop,qn⟩|⟨go,step⟩
  · exact EI (T.done (bm X N' scope cl fp (X.pn++pins) s3 H3) rfl rfl rfl hc i [] s4 σ4 H4 (fun _ _=>False) I4 (stat fr4) st4 stop) fun r s5 ⟨hr,I5⟩=>.inl ⟨hr,rfl,σ4,H4,I5,qn⟩
  · refine EI (T.item (bm X N' scope cl fp (X.pn++pins) s3 H3) rfl rfl rfl hc i [] s4 σ4 H4 (fun _ _=>False) I4 (stat fr4) st4 go) fun r s5 ⟨u,hr,h5⟩=>.inr ⟨u,hr,?_⟩
    refine EI h5 fun _ s6 ⟨x,H6,I6,r6,y6,st6,fr6⟩=>?_
    have I6':=I6.pinned (stat fr6) (T.obj _ _ st6)
    have again:∀{σ7:St}{H7:Hp}{s7:HU},Inv (bm X N' scope cl fp (X.pn++pins) s3 H3) ([]++ff fp s6.heap) σ7 H7 s7->∀{acc':List V}{m':Nat},m'<n->Wv (i+1) m' acc' σ7 H7 ->
     ∃m,m<n/\∃i acc σ' H',Inv (bm X N' scope cl fp (X.pn++pins) s3 H3) [] σ' H' s7/\tn i s7.heap/\(∀b∈fp,H' b=none)/\Wv i m acc σ' H':=fun{σ7 H7 s7} I7 {acc' m'} hm w7=>by
     refine⟨m',hm,i+1,acc',σ7,H7,I7.unpinned,T.keep _ _ _ st6 fun b hb o e=>(I7.pin (b,o) (HY _ (HY _ (bD hb e)))).1,fun b hb=>?_,w7⟩
     obtain⟨o,e,d⟩:=T.obj _ _ st6 b hb
     exact(I7.pin (b,o) (HY _ (HY _ (bD hb e)))).2.1
    refine EI (hg _ s6 σ4 H6 x u _ I6' r6 (step x H6 y6)) fun _ s7 ⟨σ7,H7,I7,q7⟩=>?_
    refine EI (ht _ s7 σ7 H7 _ I7 q7) fun ok s8 ⟨H8,I8,q8⟩=>?_
    cases ok with
    | false =>
      rw[if_neg IF]at q8 ⊢
      obtain⟨m',hm,w8⟩:=q8
      exact again I8 hm w8
    | true =>
      rw[if_pos rfl]at q8 ⊢
      refine EI (he _ s8 σ7 H8 _ I8 q8) fun y s9 ⟨yv,H9,I9,r9,eD,hl,m',hm,w9⟩=>?_
      exact EI (ee (X:=bm X N' scope cl fp (X.pn++pins) s3 H3) _ s9 σ7 H9 (.ref D) [yv] (.ref D) [y] (fun _ H'=>H'=EB H9 D (.lst (acc++[yv]))) I9 rfl (.cons r9 .nil) ⟨D,acc,yv,rfl,rfl,eD,hl,rfl⟩)
       fun _ s10 ⟨_,H10,I10,_,e10⟩=>by subst e10;exact again I10 hm w9
 exact MZ loop (T.self X.A 0 _ _ _ tY loop)
section
variable{X:Cx}{elt tg iter:Expr}{ifs:List Expr}{scope:Scope}{pos:Pos}{wi:TI}{g:CompA->TG}{tt:CompA->TT}{te:CompA->TE}
theorem lA(N':List Str)(fr:List (Option Nat))(hc:X.calm=true)(hi:PI X tg iter wi)(hfr:lS fr N' X.N scope X.env.scope=true)(hsc:mP scope X.env.scope=true)
 (hg:∀y,PG (blk X N' scope y) tg (g y))(ht:∀y,GX (blk X N' scope y) ifs (tt y))(he:∀y,PE (blk X N' scope y) elt (te y))
 (hs:∀x,Iz iter X.env x=pure x:=by intro _;rfl):PE X (.ListComp elt [⟨tg,iter,ifs,0⟩] scope pos) (uO wi fr g tt te):=by
 intro pins s σ H Q I h
 obtain⟨sk,sn⟩:=HV.mp hsc
 have hkind:scope.kind = .function:=of_decide_eq_true sk
 have hall:=JP.mp sn
 have hcell:∀y∈scope.names,y.2 = .cell->scope.names.lookup y.1=some .cell:=fun y hy hl=>by
  rcases Ir.mp (HV.mp (HV.mp (hall y hy)).1).1 with z|z
  · exact absurd hl (of_decide_eq_true z)
  · exact of_decide_eq_true z
 have hnames:∀y∈scope.names,y.2 = .local->scope.names.lookup y.1=some .local:=fun y hy hl=>by
  rcases Ir.mp (HV.mp (HV.mp (hall y hy)).1).2 with z|z
  · exact absurd hl (of_decide_eq_true z)
  · exact of_decide_eq_true z
 have hfree:∀y∈scope.names,y.2 = .free->X.env.kindOf y.1=some .cell\/X.env.kindOf y.1=some .free:=fun y hy hl=>by
  rcases Ir.mp (HV.mp (hall y hy)).2 with z|z
  · exact absurd hl (of_decide_eq_true z)
  · exact(Ir.mp z).imp of_decide_eq_true of_decide_eq_true
 obtain⟨frl,frg⟩:=lS.get hfr
 obtain⟨cl,hclos,cl1,cl2⟩:=cg (env:=X.env) (scope:=scope) fun y hy hl=>I.ok.has y.1 (hfree y hy hl)
 rw[eval_ListComp]
 refine JU (use:=none) rfl hs hclos hkind hnames (EI (hi pins s σ H _ I h) fun v s1 h1=>EI h1 fun itv s2 h2=>?_)
 obtain⟨it,fp,tn,J,H2,e,I2,T,st2,f2,q2⟩:=h2
 subst e
 refine Jg ?_
 have hD:H2 s2.heap.objs.size=none:=I2.hok.fresh (HX _)
 have I3:Inv X pins σ (EB H2 s2.heap.objs.size (.lst [])) {s2 with heap:=s2.heap.push {cls:=.type "list", data:=.seq ([]:List HQ).toArray}} :=
  I2.laid (t':=s2.toks) (fun b u e=>HN _ e) (HX _) ⟨by show 0<=sizeLine;exact Ix _,[],0,.nil,Im _ rfl⟩
 obtain⟨Wv,⟨m0,w0⟩,turn⟩:=q2 _ hD
 have tn3:tn 0 (s2.heap.push {cls:=.type "list", data:=.seq ([]:List HQ).toArray}):=T.keep _ _ _ st2 fun b _ o e=>HN _ e
 have fpD:∀b∈fp,(EB H2 s2.heap.objs.size (.lst [])) b=none:=fun b hb=>by
  obtain⟨o,e,_⟩:=T.obj _ _ st2 b hb
  rw[am (IP (Ii e))]
  exact(f2 b hb).1
 have fp3:∀b∈fp,b<(s2.heap.push {cls:=.type "list", data:=.seq ([]:List HQ).toArray}).objs.size:=fun b hb=>by
  obtain⟨o,e,_⟩:=T.obj _ _ tn3 b hb
  exact Ii e
 exact iw N' fr hc hkind hcell hfree frl frg cl1 cl2 I3 T tn3 fpD fp3 (fun b hb=>(f2 b hb).2) (hg ⟨cl,fp,X.pn++pins,_,_⟩) (ht ⟨cl,fp,X.pn++pins,_,_⟩) (he ⟨cl,fp,X.pn++pins,_,_⟩) w0 (turn ⟨cl,fp,X.pn++pins,_,_⟩)
  (Rp:=NV (IH X.prog X.w) X.A X.xe none (EP X pins σ Q) (.ref s2.heap.objs.size)) fun s5 H4 m hn k _ qn=>⟨m,hn,fun h' hs'=>⟨.ref _,H4,k h' hs',rfl,qn⟩⟩
theorem ig{ix:Nat}(N':List Str)(fr:List (Option Nat))(hc:X.calm=true)(hi:PI X tg iter wi)(hfr:lS fr N' X.N scope X.env.scope=true)(hsc:mP scope X.env.scope=true)
 (hg:∀y,PG (blk X N' scope y) tg (g y))(ht:∀y,GX (blk X N' scope y) ifs (tt y))(he:∀y,PE (blk X N' scope y) elt (te y))(hN:X.N.Nodup)(hix:X.N[ix]?=some x)(hx:Loc X.env.scope x)
 (hf:X.fn x=true\/X.env.scope.names.lookup x=some .local)(hsw:J4 (.ListComp elt [⟨tg,iter,ifs,0⟩] scope pos) (some (.Name x px)) spos.line X.env=pure b)
 (hs:∀x,Iz iter X.env x=pure x):PS X (.Assign [.Name x px] (.ListComp elt [⟨tg,iter,ifs,0⟩] scope pos) spos) (xR (uO wi fr g tt te) (jb ix)):=by
 cases b with
 | false=>exact gh hN hix hx (lA N' fr hc hi hfr hsc hg ht he hs) hsw hf
 | true =>
 intro pins s σ H DD I h
 obtain⟨sk,sn⟩:=HV.mp hsc
 have hkind:scope.kind = .function:=of_decide_eq_true sk
 have hall:=JP.mp sn
 have hcell:∀y∈scope.names,y.2 = .cell->scope.names.lookup y.1=some .cell:=fun y hy hl=>by
  rcases Ir.mp (HV.mp (HV.mp (hall y hy)).1).1 with z|z
  · exact absurd hl (of_decide_eq_true z)
  · exact of_decide_eq_true z
 have hnames:∀y∈scope.names,y.2 = .local->scope.names.lookup y.1=some .local:=fun y hy hl=>by
  rcases Ir.mp (HV.mp (HV.mp (hall y hy)).1).2 with z|z
  · exact absurd hl (of_decide_eq_true z)
  · exact of_decide_eq_true z
 have hfree:∀y∈scope.names,y.2 = .free->X.env.kindOf y.1=some .cell\/X.env.kindOf y.1=some .free:=fun y hy hl=>by
  rcases Ir.mp (HV.mp (hall y hy)).2 with z|z
  · exact absurd hl (of_decide_eq_true z)
  · exact(Ir.mp z).imp of_decide_eq_true of_decide_eq_true
 obtain⟨frl,frg⟩:=lS.get hfr
 obtain⟨cl,hclos,cl1,cl2⟩:=cg (env:=X.env) (scope:=scope) fun y hy hl=>I.ok.has y.1 (hfree y hy hl)
 rw[LN _ _ _ _ hsw]
 refine HJ (JI (HJ ?_))
 show Iv _ X.A (do let _ <- NW (.ListComp elt [⟨tg,iter,ifs,0⟩] scope pos) scope X.env _ (newList []) false (eval iter X.env) (some (KL (.Name x px) X.env))) _ _ s
 refine HJ (IL (JU (use:=some (KL (.Name x px) X.env)) (Q:=fun _ s'=>SP X pins DD .next s') rfl hs hclos hkind hnames
  (EI (hi pins s σ H _ I h) fun v s1 h1=>EI h1 fun itv s2 h2=>?_)) (fun _ s' hq=>H_ (H_ hq)) fun _ _ e=>e)
 obtain⟨it,fp,tn,J,H2,e,I2,T,st2,f2,q2⟩:=h2
 subst e
 refine Jg ?_
 have hD:H2 s2.heap.objs.size=none:=I2.hok.fresh (HX _)
 have I3:Inv X pins σ (EB H2 s2.heap.objs.size (.lst [])) {s2 with heap:=s2.heap.push {cls:=.type "list", data:=.seq ([]:List HQ).toArray}} :=
  I2.laid (t':=s2.toks) (fun b u e=>HN _ e) (HX _) ⟨by show 0<=sizeLine;exact Ix _,[],0,.nil,Im _ rfl⟩
 obtain⟨Wv,⟨m0,w0⟩,turn⟩:=q2 _ hD
 have tn3:tn 0 (s2.heap.push {cls:=.type "list", data:=.seq ([]:List HQ).toArray}):=T.keep _ _ _ st2 fun b _ o e=>HN _ e
 have fpD:∀b∈fp,(EB H2 s2.heap.objs.size (.lst [])) b=none:=fun b hb=>by
  obtain⟨o,e,_⟩:=T.obj _ _ st2 b hb
  rw[am (IP (Ii e))]
  exact(f2 b hb).1
 have fp3:∀b∈fp,b<(s2.heap.push {cls:=.type "list", data:=.seq ([]:List HQ).toArray}).objs.size:=fun b hb=>by
  obtain⟨o,e,_⟩:=T.obj _ _ tn3 b hb
  exact Ii e
 refine iw (Q:=fun v H1=>jb ix v σ H1 DD.nx) N' fr hc hkind hcell hfree frl frg cl1 cl2 I3 T tn3 fpD fp3 (fun b hb=>(f2 b hb).2) (hg ⟨cl,fp,X.pn++pins,_,_⟩) (ht ⟨cl,fp,X.pn++pins,_,_⟩) (he ⟨cl,fp,X.pn++pins,_,_⟩) w0 (turn ⟨cl,fp,X.pn++pins,_,_⟩)
  (Rp:=NV (IH X.prog X.w) X.A X.xe (some (KL (.Name x px) X.env)) (fun _ s'=>SP X pins DD .next s') (.ref s2.heap.objs.size)) fun s5 H4 m hn k fpo qn=>?_
 show Iv _ X.A (KL (.Name x px) X.env (.ref s2.heap.objs.size)) _ _ s5
 have I5:Inv X pins σ H4 s5:=k s5.heap (MD _ _)
 obtain⟨f0,f1,f2',f3,f4,f5⟩:=fpo
 refine LB (d0 I5 hN hix hx (v:=.ref s2.heap.objs.size) rfl (fun s6 I6 sb=>?_) hf)
 obtain⟨a,sb,ha⟩:=sb
 have hne:(s2.heap.push {cls:=.type "list", data:=.seq ([]:List HQ).toArray}).objs.size≠a:=by
  rcases ha with rfl|ha
  · exact f1
  · exact fun z=>f4 x a ha z.symm
 refine⟨m,hn.at' fun o e=>sb.extBut _ o hne e,fun h' hs'=>?_⟩
 exact⟨_,H4,I6.turned (t':=s6.toks) (fun b o hb e=>hs'.extBut b o hb e) f0 f1 f3 f4 f5,qn⟩
end
end L2
namespace L2.VL
noncomputable def W.cap:W->Option W
 | .d x=>some (.d x)
 | .reel=>some .reel
 | .vv u=>some (.vv u)
 | .sc ns=>some (.sc ns)
 | .fd kvs=>some (.fd kvs)
 | .fw kvs=>some (.fw kvs)
 | .ft kvs=>some (.ft kvs)
 | .xc x fs=>some (.xc x fs)
 | .dp kvs x=>some (.dp kvs x)
 | _=>none
noncomputable def dS(fr:List (Option Nat))(ρ:En):En:=fr.map fun o=>o.bind fun j=>((ρ[j]?).join).bind W.cap
noncomputable def mB(X:Cx)(rl:RlT)(ifs:List Expr)(f:TB):Prop:=∃t,GX X ifs t/\∀{F₀ H₀ F H:Hp}{σ:St}{ρ:En},VR X.K rl F₀ H₀ F H σ ρ->∀(Qd:Bool->Prop)(Q:Bool->Hp->Prop),f ρ Qd ->
 (∀b F' H',Grow rl F H F' H'->Qd b->Q b H')->t σ H Q
theorem b9:mB X rl [] (fun _ Q=>Q true):=⟨_,vg,fun R Qd Q q k=>k true _ _ (Grow.refl R.sub R.reel) q⟩
theorem lf{f:TB}(h:PB X rl c f):mB X rl [c] f:=let ⟨t,p,k⟩:=h;⟨t,vf p,k⟩
theorem fO{fr:List (Option Nat)}{w:W}(h:(dS fr ρ)[i]?=some (some w)):∃j w',fr[i]?=some (some j)/\ρ[j]?=some (some w')/\w'.cap=some w:=by
 unfold dS at h
 rw[Jd]at h
 cases ef:fr[i]? with
 | none=>rw[ef]at h;cases h
 | some o =>
   cases o with
   | none=>rw[ef]at h;cases h
   | some j =>
     rw[ef]at h
     have h':((ρ[j]?).join).bind W.cap=some w:=Jc h
     cases q:ρ[j]? with
     | none=>rw[q]at h';cases h'
     | some o =>
       cases o with
       | none=>rw[q]at h';cases h'
       | some w'=>rw[q]at h';exact⟨j,w',rfl,q,h'⟩
theorem mf{w' w:W}(h:w'.cap=some w):w=w'/\w.own=false/\∀xs,w ≠ .pk xs:=by
 cases w'<;>cases h<;>exact⟨rfl,rfl,(fun _ z=>by cases z)⟩
theorem fJ{K:W.Frag}{fr:List (Option Nat)}(R:VR K rl F₀ H₀ F H σ ρ)(g:Grow rl F H F H'):VR K rl F H F H' (nv fr σ) (dS fr ρ):=by
 refine⟨g,fun i w e=>?_,fun i j xs ys v _ e1 _ o1 _ _ _=>?_,fun i xs e=>?_,by simp[nv,dS]⟩
 · obtain⟨j,w',e1,e2,e3⟩:=fO e
   obtain⟨rfl,n1,n2⟩:=mf e3
   obtain⟨v,s1,r1,_⟩:=R.sl j w e2
   refine⟨v,?_,r1.grow g,?_⟩
   · unfold nv
     rw[Jd,e1]
     show some ((σ[j]?).join)=_
     rw[s1]
     rfl
   · cases w with
     | ml xs=>cases n1
     | md xs=>cases n1
     | mk xs=>cases n1
     | nt _=>trivial
     | lk=>trivial
     | sc _=>trivial
     | fd _=>trivial
     | fw _=>trivial
     | ft _=>trivial
     | xc _ _=>trivial
     | dp _ _=>trivial
     | d _=>trivial
     | pk _=>trivial
     | reel=>trivial
     | vv _=>trivial
 · obtain⟨_,_,_,_,e3⟩:=fO e1
   rw[(mf e3).2.1]at o1
   cases o1
 · obtain⟨_,_,_,_,e3⟩:=fO e
   exact absurd rfl ((mf e3).2.2 xs)
theorem dz{fr:List (Option Nat)}:j9 (dS fr ρ):=fun i xs e=>by
 obtain⟨_,_,_,_,e3⟩:=fO e
 exact(mf e3).2.1
theorem VR.other{K:W.Frag}(R:VR K rl F₀ H₀ F H σ ρ)(n:j9 ρ){D:Addr}{o:HO}(h0:H₀ D=none)(f:F D=none)(hr:rl.a≠some D):VR K rl F₀ H₀ F (EB H D o) σ ρ:=by
 have neF:∀b u,F b=some u->b≠D:=fun b u q z=>by subst z;rw[f]at q;cases q
 have g:Grow rl F₀ H₀ F (EB H D o):=by
  refine⟨fun b o q1 n=>by rw[am (aX q1 h0)];exact R.g.same b o q1 n,R.g.fs,fun b o q1=>by rw[am (neF b o q1)];exact R.sub b o q1,R.g.old,fun y z=>?_⟩
  obtain⟨z1,⟨u,h1,h2⟩⟩:=R.reel y z
  exact⟨z1,⟨u,by rw[am (fun q=>hr (by rw[<- q];exact z))];exact h1,h2⟩⟩
 refine⟨g,fun i w e=>?_,R.ap,R.np,R.len⟩
 obtain⟨v,h1,h2,h3⟩:=R.sl i w e
 refine⟨v,h1,?_,h3⟩
 cases w with
 | d x=>exact h2
 | reel=>exact h2
 | vv u=>exact h2
 | ml xs=>cases n i _ e
 | md xs=>cases n i _ e
 | mk xs=>cases n i _ e
 | nt ds=>exact h2
 | lk=>trivial
 | sc _=>exact h2
 | fd _=>exact h2
 | fw _=>exact h2
 | ft _=>exact h2
 | xc _ _=>exact h2
 | dp _ _=>exact h2
 | pk xs=>exact absurd e (R.np i xs)
section
variable{X:Cx}{rl:RlT}{elt tg iter:Expr}{ifs:List Expr}{scope:Scope}{pos:Pos}{fi:En->(List HH->Prop)->Prop}{g:GK}{ft:TB}{fe:TV}
end
mutual
def wW:HH->Prop
 | .none=>True
 | .bool _=>True
 | .int i=>i.natAbs<2^1900
 | .str x=>HH.strOk x=true
 | .list xs=>gR xs
 | .tuple xs=>gR xs
 | .dict _=>False
def gR:List HH->Prop
 | []=>True
 | x::xs=>wW x/\gR xs
end
theorem m_{k:Nat}(h:n<2^k)(hk:0<k):n.log2<k:=by
 by_cases h0:n=0
 · subst h0;simpa using hk
 · exact(Nat.log2_lt h0).mpr h
mutual
theorem wW.facts:∀d:HH,wW d->d.showable=true/\d.canLay0=true/\d.hasDict=false/\d.leavesShort 1921=true
 | .none,_=>⟨rfl,rfl,rfl,rfl⟩
 | .bool _,_=>⟨rfl,rfl,rfl,rfl⟩
 | .int i,h=>by
   have hl:i.natAbs.log2<1920:=m_ (HL (show i.natAbs<2^1900 from h) (HS (by decide) (by decide))) (by decide)
   refine⟨by simp[Ma,hl],rfl,rfl,?_⟩
   simp only[Lx,decide_eq_true_eq]
   exact int_text_len_1921 hl
 | .str x,h=>by
   refine⟨rfl,(show JX (.str x)=true by simp only[JX];exact h),rfl,?_⟩
   have h:x.cps.all (· < 0x110000)=true:=h
   simp only[Lx]
   rw[JP]
   intro c hc
   have:=(Array.all_eq_true_iff_forall_mem.mp h) c (by simpa using hc)
   simp at this ⊢
   omega
 | .list xs,h=>by
   obtain⟨a,b,c,d⟩:=gR.facts xs h
   exact⟨by simpa[Ma]using a,by simpa[JX]using b,by simpa[HH.hasDict]using c,by simpa[Lx]using d⟩
 | .tuple xs,h=>by
   obtain⟨a,b,c,d⟩:=gR.facts xs h
   exact⟨by simpa[Ma]using a,by simpa[JX]using b,by simpa[HH.hasDict]using c,by simpa[Lx]using d⟩
 | .dict _,h=>JL h
theorem gR.facts:∀xs:List HH,gR xs->HH.showableAll xs=true/\JV xs=true/\HH.hasDictAll xs=false/\Nc 1921 xs=true
 | [],_=>⟨rfl,rfl,rfl,rfl⟩
 | x::xs,h=>by
   obtain⟨a,b,c,d⟩:=wW.facts x h.1
   obtain⟨a',b',c',d'⟩:=gR.facts xs h.2
   exact⟨by simp[HH.showableAll,a,a'],by simp[JV,b,b'],by simp[HH.hasDictAll,c,c'],by simp[Nc,d,d']⟩
end
noncomputable def GS(d:HH):Prop:=wW d/\d.depth<=60/\d.bulk<=8000
theorem GS.len(h:GS d):d.shown.length<=sizeLine:=by
 have q:=HH.shown_le_bulk 1921 (by decide) d (wW.facts d h.1).2.2.2
 have:=h.2.2
 have e:sizeLine=16777216:=by decide
 omega
section
variable{X:Cx}{rl:RlT}{a b e:Expr}{es:List Expr}{fa fb fc:TV}{fs:GF}{pos p:Pos}
noncomputable def yl(K:W.Frag):List V->Hp->VK->Prop:=fun xs H Q=>∃x d,xs=[x]/\Rep K H x d/\GS d/\Q (.str d.shown) H
theorem qo(hgd:X.A.guards=some [])(hu:X.A.units+64<Ot):eP X (.builtin "repr") (yl X.K):=by
 intro pins s σ H xs us Q I r ⟨x,d,ex,rx,sh,q⟩
 subst ex
 obtain⟨u,rfl,ru⟩:=vals1 r
 have fin:∀tk h' , (∀b o,s.heap.get? b=some o->h'.get? b=some o)->∀t,EP X pins σ Q (.str d.shown t) {s with heap:=h',toks:=tk}:=fun tk h' k t=>⟨.str d.shown,H,I.kept k,⟨t,rfl⟩,q⟩
 obtain⟨as,rd⟩:=Rep.reads I (.refl H) rx u ru
 have hs:=(wW.facts d sh.1)
 cases rx with
 | non=>cases(show u=L0 from ru);exact P.repr_of_none (fin _ _ (fun _ _ e=>e) _)
 | bl b=>cases(show u=NY b from ru);exact P.repr_of_bool (fin _ _ (fun _ _ e=>e) _)
 | int i =>
   obtain⟨t,e⟩:=(show ∃t,u=M4 i t from ru)
   cases e
   exact P.repr_of_int (by simpa[Ma]using hs.1) (fin _ _ (fun _ _ e=>e) _)
 | str x =>
   obtain⟨t,e⟩:=(show ∃t,u=NM x t from ru)
   cases e
   exact P.repr_of_str (fin _ _ (fun _ _ e=>e) _) sh.len
 | tup sq rs =>
   cases(show u=Kw _ from ru)
   exact repr_of_reads' rd hs.1 (HH.noDict_hsm hs.2.2.1) hgd (by have:=sh.2.1;omega) (fun _ _ e=>e) (fun h' t tk hk=>fin tk h' hk t) sh.len
 | lst sq rs =>
   cases(show u=Kw _ from ru)
   exact repr_of_reads' rd hs.1 (HH.noDict_hsm hs.2.2.1) hgd (by have:=sh.2.1;omega) (fun _ _ e=>e) (fun h' t tk hk=>fin tk h' hk t) sh.len
noncomputable def sr:List W->(W->Prop)->Prop:=fun ws Q=>∃w d,ws=[w]/\w.dat=some d/\GS d/\Q (.d (.str d.shown))
theorem uy:gO X rl (yl X.K) sr:=fun{F H vs ws} Qd Q s ra r ⟨w,d,ew,e1,sh,q⟩ k=>by
 subst ew
 obtain⟨v,rfl,r1⟩:=nq r
 exact⟨v,d,rfl,r1.dat s e1,sh,k _ (.d _) _ _ (Grow.refl s ra) (.str _) trivial q⟩
theorem sS(hr:Room 0 X.A)(hm:X.mg "repr" = none)(ha:GV X rl [e] fs)(hg:Gl X "repr" := by rfl)(he:HZ [e] X.env=(false,eval e X.env)::HZ [] X.env:=by rfl)(hpl:(JR pos (HZ [] X.env)).any (·.1)=false:=by rfl) :
 PV X rl (.Call (.Name "repr" p) [e] [] pos) (dY sr fs):=dH (qo hr.gd hr.units) uy hm (by first|rfl|exact boot_repr) ha hg (by decide) (by decide) he hpl
theorem cv(hm:X.mg "len" = none)(ha:GV X rl [a] fs)(hg:Gl X "len" := by rfl)(he:HZ [a] X.env=(false,eval a X.env)::HZ [] X.env:=by rfl)(hpl:(JR pos (HZ [] X.env)).any (·.1)=false:=by rfl) :
 PV X rl (.Call (.Name "len" p) [a] [] pos) (dY Ac fs):=dH jV xi hm boot_len ha hg (by decide) (by decide) he hpl
theorem xu(hm:X.mg "abs" = none)(ha:GV X rl [a] fs)(hg:Gl X "abs" := by rfl)(he:HZ [a] X.env=(false,eval a X.env)::HZ [] X.env:=by rfl)(hpl:(JR pos (HZ [] X.env)).any (·.1)=false:=by rfl) :
 PV X rl (.Call (.Name "abs" p) [a] [] pos) (dY Ai fs):=dH sN xl hm (by first|rfl|exact boot_abs) ha hg (by decide) (by decide) he hpl
end
structure FnIn (K:W.Frag) (mg:Str->Option HQ) (x:Str) (st:Stmt) (ps:List Str):Prop where
 ex:∃f fd,mg x=some (.ref f)/\Fun K x x st f fd/\Binds K fd ps []
structure Bz (mg:Str->Option HQ):Prop where
 int_:mg "int" = none
 bool_:mg "bool" = none
 str_:mg "str" = none
 list_:mg "list" = none
 tuple_:mg "tuple" = none
 dict_:mg "dict" = none
 isinstance_:mg "isinstance" = none
 len_:mg "len" = none
 abs_:mg "abs" = none
 repr_:mg "repr" = none
 range_:mg "range" = none
 all_:mg "all" = none
 any_:mg "any" = none
 sum_:mg "sum" = none
 min_:mg "min" = none
 max_:mg "max" = none
 sorted_:mg "sorted" = none
 zip_:mg "zip" = none
 enumerate_:mg "enumerate" = none
 reversed_:mg "reversed" = none
 divmod_:mg "divmod" = none
 set_:mg "set" = none
section
variable{P:II}{w:Ju}{K:W.Frag}{mg:Str->Option HQ}{base:Heap}{rl:RlT}{x:Str}{st:Stmt}{N ps:List Str}{k:Nat}{Pd:List W->(HH->Prop)->Prop}{t:GG}
theorem Dfn.of(Fn:FnIn K mg x st ps)(S:FnScope N ps (defScope st))(mono:∀ws Q Q',(∀d,Q d->Q' d)->Pd ws Q->Pd ws Q')(len:∀ws Q,Pd ws Q->ws.length=ps.length)
 (hbody:∀{f:Addr}(cdv:HQ)(A:Jz)(outer:List Env)(s:HU)(H:Hp)(E:XK),Room k (A.deeper (M_ x (defScope st) s.heap.objs.size f cdv)) ->
  mC (qG Hy P w K mg base N x (defScope st) f cdv A outer s H E).nox rl (defBody st) t)
 (hread:∀ws Q,Pd ws Q->t (qS Q) (dD N ws)):Dfn P w K mg base rl x ps (k+1) Pd:=by
 obtain⟨f,fd,hm,F,hb⟩:=Fn.ex
 exact⟨mono,f,fd,hm,F.kp,hb,Eu F S len hbody hread⟩
end
section
variable{X:Cx}{rl:RlT}{e:Expr}{es:List Expr}{fa fb fc:TV}{fs:GF}{pos p:Pos}
end
theorem fz_d(x:HH):(W.d x).fz = .d x:=rfl
theorem fz_ml(x:List HH):(W.ml x).fz = .d (.list x):=rfl
theorem fz_pk(x:List HH):(W.pk x).fz = .pk x:=rfl
theorem fz_reel:W.reel.fz = .reel:=rfl
theorem fz_vv(x:V):(W.vv x).fz = .vv x:=rfl
theorem pk_d(x:HH):L2.VL.W.peek (.d x) = .d x:=rfl
theorem pk_ml(x:List HH):L2.VL.W.peek (.ml x) = .pk x:=rfl
theorem pk_reel:L2.VL.W.peek .reel = .reel:=rfl
theorem pk_vv(x:V):L2.VL.W.peek (.vv x) = .vv x:=rfl
theorem dat_d(x:HH):(W.d x).dat=some x:=rfl
theorem dat_ml(x:List HH):(W.ml x).dat=some (.list x):=rfl
theorem dat_pk(x:List HH):(W.pk x).dat=some (.list x):=rfl
theorem isPk_d(x:HH):(W.d x).isPk=false:=rfl
theorem isPk_ml(x:List HH):(W.ml x).isPk=false:=rfl
theorem isPk_reel:W.reel.isPk=false:=rfl
theorem dats_nil:gS []=some []:=rfl
theorem dats_d(x:HH)(r:List W):gS (.d x::r)=(gS r).map (x :: ·):=rfl
theorem arg_d(x:HH):gN (.d x)=true:=rfl
theorem arg_reel:gN .reel=true:=rfl
theorem item_l(xs:List HH)(i:Int):L2.VL.itemAt (.list xs) i=L2.atI xs i:=rfl
theorem item_t(xs:List HH)(i:Int):L2.VL.itemAt (.tuple xs) i=L2.atI xs i:=rfl
theorem len_l(xs:List HH):qE (.list xs)=some xs.length:=rfl
theorem len_t(xs:List HH):qE (.tuple xs)=some xs.length:=rfl
theorem at0{α:Type}(x:α)(r:List α):L2.atI (x::r) 0=some x:=by simp[L2.atI,L2.ixN]
theorem at1{α:Type}(x y:α)(r:List α):L2.atI (x::y::r) 1=some y:=by
 have:(1:Int)<((x::y::r).length:Int):=by simp;omega
 simp only[L2.atI,L2.ixN]
 rw[if_pos (by decide),if_pos this]
 rfl
theorem gE{x y:Int}(h:y≠0):(x.fmod y).natAbs<y.natAbs:=by
 rcases Int.lt_or_gt_of_ne h with hy|hy
 · have h1:=Nd x y
   have e:x.fmod y = -((-x).fmod (-y)):=by
    have:=Int.neg_fmod_neg x y
    omega
   have p:0 < -y:=by omega
   have b1:=JM (-x) p
   have b2:=Kt (-x) p
   omega
 · have b1:=JM x hy
   have b2:=Kt x hy
   omega
theorem lR(x y:Int):J3 y (x.fmod y)=J3 x y:=by
 have e:x.fmod y=x+y*(-(x.fdiv y)):=by
  have:=Nd x y
  rw[Int.mul_neg]
  omega
 rw[e,Int.gcd_add_mul_left_right]
 exact Int.gcd_comm y x
theorem eqv_ii(a b:Int):IB (.int a) (.int b)=(a==b):=by simp[IB]
theorem zE(a b:Str):IB (.str a) (.str b)=(a==b):=by simp[IB]
theorem shaped_i(a:Int):IW (.int a)=true:=rfl
theorem shaped_b(a:Bool):IW (.bool a)=true:=rfl
theorem fI.of{i j:Int}(h:j≠0)(b:j.natAbs<2^64):fI i j:=⟨h,HL b (HS (by decide) (by decide))⟩
theorem gL:∀ns:List Int,JV (ns.map Iw)=true
 | []=>rfl
 | n::ns=>by simp[JV,JX,gL ns]
theorem iu:∀ns:List Int,JF (ns.map Iw)=0
 | []=>rfl
 | n::ns=>by simp[JF,Ku,iu ns]
theorem shaped_ints(ns:List Int):IW (.list (ns.map .int))=true:=by simp[IW,JX,Ku,gL,iu]
theorem wv(ns:List HH):IB (.list ns) (.list [])=ns.isEmpty:=by cases ns<;>simp[IB,HH.eqvAll]
theorem wg{a b:Int}(h:b≠0):0<(J3 a b:Int):=by
 have:=Int.gcd_pos_of_ne_zero_right a h
 omega
theorem zu{a b:Int}(h:b≠0):(J3 a b)<=b.natAbs:=Nat.le_of_dvd (by omega) (Int.gcd_dvd_natAbs_right a b)
structure Lf (d:HH):Prop where
 nice:wW d
 dep:d.depth<=2
 wt:d.bulk<=2000
theorem Lf.int{i:Int}(h:i.natAbs<2^1000):Lf (.int i) :=
 ⟨Nat.lt_trans h (LS (by decide) (by decide)),by simp[Ku],by simp[HH.bulk]⟩
theorem qw{xs:List α}{k:Int}(h0:0<=k)(h1:k<(xs.length:Int)):∃z,L2.atI xs k=some z/\z∈xs:=by
 obtain⟨n,rfl⟩:=J1 h0
 have hn:n<xs.length:=by omega
 exact⟨xs[n],dQ (Ia hn),Ji hn⟩
theorem gc{K:W.Frag}{i:Str}(h:Rep K F v (.str i)):v = .str i:=by cases h;rfl
noncomputable def Ae(neg:Bool):W->W->(W->Prop)->Prop:=fun x y Q=>∃a b:Str,x = .d (.str a)/\y = .d (.str b)/\Q (.d (.bool (if neg then !decide (a=b)else decide (a=b))))
theorem cu:GC X rl Fj (Ae false):=fun{F H x y wx wy} Qd Q s ra r1 r2 q k=>by
 obtain⟨a,b,rfl,rfl,q⟩:=q
 have e1:=gc r1
 have e2:=gc r2
 subst e1 e2
 have e:decide (V.str a=V.str b)=decide (a=b):=by
  by_cases h:a=b
  · subst h;simp
  · rw[decide_eq_false h,decide_eq_false fun z=>h (by injection z)]
 exact⟨rfl,by rw[e];exact k _ (.d _) _ _ (Grow.refl s ra) (.bl _) trivial q⟩
theorem nD:GC X rl Fg (Ae true):=fun{F H x y wx wy} Qd Q s ra r1 r2 q k=>by
 obtain⟨a,b,rfl,rfl,q⟩:=q
 have e1:=gc r1
 have e2:=gc r2
 subst e1 e2
 have e:decide (V.str a=V.str b)=decide (a=b):=by
  by_cases h:a=b
  · subst h;simp
  · rw[decide_eq_false h,decide_eq_false fun z=>h (by injection z)]
 exact⟨rfl,by rw[e];exact k _ (.d _) _ _ (Grow.refl s ra) (.bl _) trivial q⟩
section
variable{P:II}{w:Ju}{K:W.Frag}{mg:Str->Option HQ}{base:Heap}{rl:RlT}{x:Str}{st:Stmt}{N ps:List Str}{k:Nat}{Pd:List W->(List HH->Prop)->Prop}{t:GG}
end
section
variable{X:Cx}{rl:RlT}{e:Expr}{es:List Expr}{fs:GF}{pos p:Pos}
theorem vp(X:Cx)(rest:List Stmt):GY X rest (fun D σ H=>∀pins s,Inv X pins σ H s->Iv (IH X.prog X.w) X.A (execs rest X.env) (SP X pins D) X.xe s):=fun pins s σ H D I h=>h pins s I
end
section
variable{X:Cx}{rl:RlT}{a b c e:Expr}{es:List Expr}{fa fb fc:TV}{fs:GF}{pos p:Pos}
noncomputable def jm:HH->Option (List HH)
 | .list xs=>some xs
 | .tuple xs=>some xs
 | _=>none
theorem seq_l(xs:List HH):jm (.list xs)=some xs:=rfl
theorem seq_t(xs:List HH):jm (.tuple xs)=some xs:=rfl
theorem jm.of{o:Option HH}(h:o=some d)(e:jm d=some xs):o=some (.list xs)\/o=some (.tuple xs):=by
 cases d<;>cases e
 · exact .inl h
 · exact .inr h
noncomputable def sj:List W->(W->Prop)->Prop:=fun ws Q=>∃w d xs,ws=[w]/\w.dat=some d/\jm d=some xs/\Q (.d (.tuple xs))
theorem xg:gO X rl (fun xs H Q=>∃p ys,xs=[.ref p]/\((GN X.K H p ys/\∀l,H l=none->Q (.ref l) (EB H l (.tup ys)))\/(GM X.K H p ys/\Q (.ref p) H))) sj:=fun{F H vs ws} Qd Q s ra r ⟨w,d,xs,ew,ed1,ed2,q⟩ k=>by
 have ed:=jm.of ed1 ed2
 subst ew
 obtain⟨v,rfl,r1⟩:=nq r
 rcases ed with ed|ed
 · obtain⟨a,us,rfl,sq,rs⟩:=r1.items s ed
   refine⟨a,us,rfl,.inl ⟨sq,fun l hl=>?_⟩⟩
   have g:=Grow.data (a:=l) (o:=.tup us) s ra hl
   exact k _ (.d (.tuple xs)) _ _ g (.tup (.inl (.inl ax)) (rs.mono g.fs)) trivial q
 · cases w with
   | d y =>
     cases ed
     cases(show Rep X.K F v (.tuple xs)from r1)with
     | tup sq rs=>exact⟨_,_,rfl,.inr ⟨d_ s sq,k _ (.d (.tuple xs)) _ _ (Grow.refl s ra) (.tup sq rs) trivial q⟩⟩
   | ml ys=>cases ed
   | pk ys=>cases ed
   | reel=>cases ed
   | vv u=>cases ed
   | md u=>cases ed
   | mk u=>cases ed
   | lk=>cases ed
   | sc _=>cases ed
   | fd _=>cases ed
   | fw _=>cases ed
   | ft _=>cases ed
   | xc _ _=>cases ed
   | dp _ _=>cases ed
   | nt ds =>
     cases ed
     obtain⟨b,us,rfl,h,q'⟩:=r1
     exact⟨_,_,rfl,.inr ⟨.inl (.inl (s _ _ h)),k _ (.d (.tuple xs)) _ _ (Grow.refl s ra) (.tup (.inl (.inl h)) q') trivial q⟩⟩
theorem eQ(hm:X.mg "tuple" = none)(ha:GV X rl [a] fs)(hg:Gl X "tuple" := by rfl)(he:HZ [a] X.env=(false,eval a X.env)::HZ [] X.env:=by rfl)(hpl:(JR pos (HZ [] X.env)).any (·.1)=false:=by rfl) :
 PV X rl (.Call (.Name "tuple" p) [a] [] pos) (dY sj fs):=iH ji xg hm (by rfl) ha hg (by decide) (by decide) he hpl
noncomputable def sv:List W->(W->Prop)->Prop:=fun ws Q=>∃w d xs,ws=[w]/\w.dat=some d/\jm d=some xs/\Q (.ml xs)
theorem xh:gO X rl (fun xs H Q=>∃p ys,xs=[.ref p]/\(GN X.K H p ys\/GM X.K H p ys)/\∀l,H l=none->Q (.ref l) (EB H l (.lst ys))) sv:=fun{F H vs ws} Qd Q s ra r ⟨w,d,xs,ew,ed1,ed2,q⟩ k=>by
 have ed:=jm.of ed1 ed2
 subst ew
 obtain⟨v,rfl,r1⟩:=nq r
 rcases ed with ed|ed
 · obtain⟨a,us,rfl,sq,rs⟩:=r1.items s ed
   exact⟨a,us,rfl,.inl sq,fun l hl=>k _ (.ml xs) _ _ (Grow.laid s ra hl) (cB s ra hl rs) (fun a ea=>by cases ea;exact hl) q⟩
 · obtain⟨a,us,rfl,sq,rs⟩:=r1.itemsT s ed
   exact⟨a,us,rfl,.inr sq,fun l hl=>k _ (.ml xs) _ _ (Grow.laid s ra hl) (cB s ra hl rs) (fun a ea=>by cases ea;exact hl) q⟩
theorem dW(hm:X.mg "list" = none)(ha:GV X rl [a] fs)(hg:Gl X "list" := by rfl)(he:HZ [a] X.env=(false,eval a X.env)::HZ [] X.env:=by rfl)(hpl:(JR pos (HZ [] X.env)).any (·.1)=false:=by rfl) :
 PV X rl (.Call (.Name "list" p) [a] [] pos) (dY sv fs):=iH jU xh hm (by rfl) ha hg (by decide) (by decide) he hpl
end
section
variable{X:Cx}{rl:RlT}
end
section
variable{X:Cx}{rl:RlT}{a b c e:Expr}{es:List Expr}{fa fb fc:TV}{fs:GF}{pos p p2:Pos}
noncomputable def Gi(f:Int->Int->HH):List W->(W->Prop)->Prop:=fun ws Q=>∃i j,ws=[.d (.int i),.d (.int j)]/\Q (.d (f i j))
theorem xj{f:Int->Int->V}{g:Int->Int->HH}(h:∀K F i j,Rep K F (f i j) (g i j)):gO X rl (fun xs H Q=>∃i j,xs=[.int i,.int j]/\Q (f i j) H) (Gi g):=fun{F H vs ws} Qd Q s ra r ⟨i,j,ew,q⟩ k=>by
 subst ew
 obtain⟨v,u,rfl,r1,r2⟩:=DH r
 have e1:=aL r1
 have e2:=aL r2
 subst e1 e2
 exact⟨i,j,rfl,k _ (.d _) _ _ (Grow.refl s ra) (h _ _ i j) trivial q⟩
theorem xt(hm:X.mg "max" = none)(ha:GV X rl [a,b] fs)(hc:X.calm=true:=by rfl)(hg:Gl X "max" := by rfl)(he:HZ [a,b] X.env=(false,eval a X.env)::HZ [b] X.env:=by rfl)(hpl:(JR pos (HZ [b] X.env)).any (·.1)=false:=by rfl) :
 PV X rl (.Call (.Name "max" p) [a,b] [] pos) (dY (Gi fun i j=>.int (max i j)) fs) :=
 dH (qq hc) (xj (f:=fun i j=>.int (if j>i then j else i)) fun _ _ i j=>(show(if j>i then j else i)=max i j by split<;>omega) ▸ .int _) hm (by rfl) ha hg (by decide) (by decide) he hpl
theorem xq(hm:X.mg "min" = none)(ha:GV X rl [a,b] fs)(hc:X.calm=true:=by rfl)(hg:Gl X "min" := by rfl)(he:HZ [a,b] X.env=(false,eval a X.env)::HZ [b] X.env:=by rfl)(hpl:(JR pos (HZ [b] X.env)).any (·.1)=false:=by rfl) :
 PV X rl (.Call (.Name "min" p) [a,b] [] pos) (dY (Gi fun i j=>.int (min i j)) fs) :=
 dH (qp hc) (xj (f:=fun i j=>.int (if j<i then j else i)) fun _ _ i j=>(show(if j<i then j else i)=min i j by split<;>omega) ▸ .int _) hm (by rfl) ha hg (by decide) (by decide) he hpl
noncomputable def sw:List W->(W->Prop)->Prop:=fun ws Q=>(∃i,ws=[.d (.int i)]/\Q (.d (.int i)))\/∃k:Bool,ws=[.d (.bool k)]/\Q (.d (.int (if k then 1 else 0)))
theorem uz:gO X rl (fun xs H Q=>(∃i,xs=[.int i]/\Q (.int i) H)\/∃k,xs=[.bl k]/\Q (.int (if k then 1 else 0)) H) sw:=fun{F H vs ws} Qd Q s ra r h k=>by
 rcases h with⟨i,ew,q⟩|⟨i,ew,q⟩
 · subst ew
   obtain⟨v,rfl,r1⟩:=nq r
   have e1:=aL r1
   subst e1
   exact .inl ⟨i,rfl,k _ (.d _) _ _ (Grow.refl s ra) (.int _) trivial q⟩
 · subst ew
   obtain⟨v,rfl,r1⟩:=nq r
   have e1:=e8 r1
   subst e1
   exact .inr ⟨i,rfl,k _ (.d _) _ _ (Grow.refl s ra) (.int _) trivial q⟩
theorem jt(hm:X.mg "int" = none)(ha:GV X rl [a] fs)(hg:Gl X "int" := by rfl)(he:HZ [a] X.env=(false,eval a X.env)::HZ [] X.env:=by rfl)(hpl:(JR pos (HZ [] X.env)).any (·.1)=false:=by rfl) :
 PV X rl (.Call (.Name "int" p) [a] [] pos) (dY sw fs):=iH qr uz hm (by rfl) ha hg (by decide) (by decide) he hpl
noncomputable def Ga(C:Int->Int->Prop)(f:Int->Int->Int):GJ:=fun x y H Q=>∃i j,x = .int i/\y = .int j/\C i j/\Q (.int (f i j)) H
theorem v_:G3 X .Mult (Ga aN fun i j=>i*j):=by
 intro pins s σ H x y v u Q I r1 r2 h
 obtain⟨i,j,e1,e2,hc,q⟩:=h
 subst e1;subst e2
 obtain⟨t,rfl⟩:=r1
 obtain⟨t',rfl⟩:=r2
 exact imul_int ⟨.int _,H,I.tok _,⟨_,rfl⟩,q⟩ hc.ok
noncomputable def AE(i:Nat)(C:Int->Int->Prop)(f:Int->Int->Int)(fa:TV):GG:=fun D ρ=>∃n,ρ[i]?=some (some (.d (.int n)))/\fa ρ fun w=>∃m,w = .d (.int m)/\C n m/\D.nx (ρ.set i (some (.d (.int (f n m)))))
theorem w6(i:Nat){op:Of}{C:Int->Int->Prop}{f:Int->Int->Int}(hN:X.N.Nodup)(ho:G3 X op (Ga C f))(he:PV X rl e fa)(hi:X.N[i]?=some x:=by rfl)(hx:Loc X.env.scope x:=by first|exact J0 rfl|exact Jq rfl)
 (hf:X.fn x=true\/X.env.scope.names.lookup x=some .local:=by first|exact .inl rfl|exact .inr rfl):GZ X rl (.AugAssign (.Name x pos') op e pos) (AE i C f fa):=by
 obtain⟨t,p,k⟩:=he
 refine⟨_,yA hN hi hx p ho hf,fun R Dv D ok ⟨n,e1,q⟩=>?_⟩
 obtain⟨v,s1,r1,_⟩:=R.sl i _ e1
 have ev:=aL r1
 subst ev
 refine⟨_,s1,k R _ _ q fun v w F1 H1 g1 r1 n1 ⟨m,ew,hc,q1⟩=>?_⟩
 subst ew
 have ev:=aL r1
 subst ev
 exact⟨n,m,rfl,rfl,hc,ok.nx _ _ _ _ g1.fs (R.set g1 (v:=.int (f n m)) (w:=.d (.int (f n m))) (.int _) trivial (fun _ z=>by cases z) i) q1⟩
noncomputable def cutD(xs:List HH)(lo hi:Option Int):List HH:=(xs.drop (HT.sIx xs.length 0 lo)).take (HT.sIx xs.length xs.length hi-HT.sIx xs.length 0 lo)
theorem Reps.cut{K:W.Frag}(r:Reps K F vs ds)(lo hi:Option Int):Reps K F (sG vs lo hi) (cutD ds lo hi):=by
 unfold sG cutD
 rw[r.length]
 exact(r.drop _).take _
abbrev GI:=En->(Option Int->Prop)->Prop
noncomputable def GW(X:Cx)(rl:RlT)(o:Option Expr)(f:GI):Prop:=∃t,PO X o t/\∀{F₀ H₀ F H:Hp}{σ:St}{ρ:En},VR X.K rl F₀ H₀ F H σ ρ->∀(Qd:Option Int->Prop)(Q:Option Int->Hp->Prop),f ρ Qd ->
 (∀o F' H',Grow rl F H F' H'->Qd o->Q o H')->t σ H Q
noncomputable def Fv:GI:=fun _ Q=>Q none
noncomputable def Fw(fa:TV):GI:=fun ρ Q=>fa ρ fun w=>∃i,w = .d (.int i)/\Q (some i)
theorem ke:GW X rl none Fv:=⟨_,vw,fun R Qd Q q k=>k _ _ _ (Grow.refl R.sub R.reel) q⟩
theorem kd(h:PV X rl e fa):GW X rl (some e) (Fw fa):=by
 obtain⟨t,p,k⟩:=h
 refine⟨_,vt p,fun R Qd Q q h=>k R _ _ q fun v w F1 H1 g1 r1 n1 ⟨i,ew,q1⟩=>?_⟩
 subst ew
 exact⟨i,aL r1,h _ F1 H1 g1 q1⟩
noncomputable def CP(fa:TV)(fl fh:GI):TV:=fun ρ Q=>fa ρ fun w=>fl ρ fun l=>fh ρ fun h=>∃xs,w.dat=some (.list xs)/\Q (.ml (cutD xs l h))
noncomputable def sy:W->W->(W->Prop)->Prop:=fun x y Q=>∃xs ys,x.dat=some (.list xs)/\y.dat=some (.list ys)/\xs.length+ys.length<=sizeLine/\Q (.ml (xs++ys))
theorem du.lst{K:W.Frag}{F H:Hp}{v:V}{w:W}{xs:List HH}(s:bF F H)(r:du K rl F H v w)(e:w.dat=some (.list xs)):∃a vs,v = .ref a/\H a=some (.lst vs)/\Reps K F vs xs:=by
 have own:iB K rl F H v xs->∃a vs,v = .ref a/\H a=some (.lst vs)/\Reps K F vs xs:=fun⟨a,vs,e1,_,_,e2,e3⟩=>⟨a,vs,e1,e2,e3⟩
 cases w with
 | d y =>
   cases e
   cases(show Rep K F v (.list xs)from r)with
   | lst h q=>exact⟨_,_,rfl,s _ _ h,q⟩
 | ml ys=>cases e;exact own r
 | pk ys=>cases e;exact own r
 | reel=>cases e
 | vv u=>cases e
 | md u=>cases e
 | mk u=>cases e
 | nt u=>cases e
 | lk=>cases e
 | sc _=>cases e
 | fd _=>cases e
 | fw _=>cases e
 | ft _=>cases e
 | xc _ _=>cases e
 | dp _ _=>cases e
theorem uv:GC X rl C7 sy:=fun{F H x y wx wy} Qd Q s ra r1 r2 q k=>by
 obtain⟨xs,ys,e1,e2,z,q⟩:=q
 obtain⟨a,vs,rfl,h1,q1⟩:=r1.lst s e1
 obtain⟨b,us,rfl,h2,q2⟩:=r2.lst s e2
 refine⟨a,b,vs,us,rfl,rfl,h1,h2,by rw[q1.length,q2.length];exact z,fun p hp=>?_⟩
 exact k _ (.ml _) _ _ (Grow.laid s ra hp) (cB s ra hp (q1.append q2)) (fun a ea=>by cases ea;exact hp) q
theorem ju(ha:PV X rl a fa)(hb:PV X rl b fb):PV X rl (.BinOp a .Add b pos) (Ez sy fa fb):=gZ yR uv ha hb
noncomputable def sW(p p':Int->Int->Bool)(fa fb fc:TV):TV:=fun ρ Q=>fa ρ fun x=>fb ρ fun y=>∃i j,x = .d (.int i)/\y = .d (.int j) /\
 if p i j=true then fc ρ fun z=>∃k,z = .d (.int k)/\Q (.d (.bool (p' j k)))else Q (.d (.bool false))
theorem qO{op':Ox}{p p':Int->Int->Bool}(ho:G9 X (Kl op) (Fi fun i j=>.bl (p i j)))(ho':G9 X (Kl op') (Fi fun i j=>.bl (p' i j)))(ha:PV X rl a fa)(hb:PV X rl b fb)(hc:PV X rl c fc)
 (hm:lastMarks [op,op'] [b,c]=false:=by with_unfolding_all rfl):PB X rl (.Compare a [op,op'] [b,c] pos) (nO (sW p p' fa fb fc)):=by
 obtain⟨t,p1,k1⟩:=ha
 obtain⟨t2,p2,k2⟩:=hb
 obtain⟨t3,p3,k3⟩:=hc
 refine⟨_,rB ho ho' p1 p2 p3 hm,fun R Qd Q q h=>k1 R _ _ q fun v w F1 H1 g1 r1 n1 q1=>k2 (R.grow g1) _ _ q1 fun v2 w2 F2 H2 g2 r2 n2 q2=>?_⟩
 obtain⟨i,j,rfl,rfl,q2⟩:=q2
 have e1:=aL r1
 have e2:=aL r2
 subst e1 e2
 refine⟨i,j,rfl,rfl,p i j,rfl,?_⟩
 cases hp:p i j with
 | false =>
   rw[hp]at q2
   rw[if_neg (by decide)]at q2 ⊢
   obtain⟨k,ek,q2⟩:=q2
   cases ek
   exact⟨false,rfl,h false F2 H2 (g1.trans g2) q2⟩
 | true =>
   rw[hp]at q2
   rw[if_pos rfl]at q2 ⊢
   refine k3 ((R.grow g1).grow g2) _ _ q2 fun v3 w3 F3 H3 g3 r3 n3 ⟨k,ek,q3⟩=>?_
   subst ek
   have e3:=aL r3
   subst e3
   obtain⟨kk,ekk,q3⟩:=q3
   cases ekk
   exact⟨j,k,rfl,rfl,p' j k,rfl,h _ F3 H3 ((g1.trans g2).trans g3) q3⟩
structure GlD (K:W.Frag) (mg:Str->Option HQ) (x:Str) (d:HH):Prop where
 ex:∃v u,mg x=some u/\RelV v u/\∀F,Rep K F v d
theorem dX(G:GlD X.K X.mg x d)(hg:Gl X x:=by rfl)(hd:(x==("__debug__" : Str))=false:=by decide):PV X rl (.Name x pos) (vC d):=by
 obtain⟨v,u,h1,h2,h3⟩:=G.ex
 exact ve h1 h2 h3 hg hd
structure GlK (K:W.Frag) (x:Str) (d:HH):Prop where
 ex:∃v u,W.nsIn K Jf x=some (some u)/\RelV v u/\∀F,Rep K F v d
theorem GlK.of{K:W.Frag}(k:GlK K x d)(Y:K.In h)(G:h.Ns Jf mg):GlD K mg x d:=by
 obtain⟨v,u,h1,h2,h3⟩:=k.ex
 exact⟨v,u,W.mg_of Y G h1,h2,h3⟩
end
end L2.VL
namespace L2
section
variable{X:Cx}{a b:Expr}{ta:TA}{p q pos pos2:Pos}
theorem il{α β:Type}{R:α->β->Prop}:∀{xs:List α}{ys:List β},xs.length=ys.length->(∀(i:Nat) x y,xs[i]?=some x->ys[i]?=some y->R x y)->Jy R xs ys
 | [],[],_,_=>.nil
 | x::xs,y::ys,hl,h=>.cons (h 0 x y rfl rfl) (il (by simpa using hl) fun i x y e1 e2=>h (i+1) x y (by simpa using e1) (by simpa using e2))
 | [],_::_,hl,_=>by simp at hl
 | _::_,[],hl,_=>by simp at hl
noncomputable def i7(lo:Int)(n:Nat):List V:=(IV n).map fun(i:Nat)=>V.int (lo+i)
theorem iF{lo:Int}{acc:Array HQ}(h:ItemsOf (fun i v=>∃t,v = .int (lo+i*1) t) acc n):cn (i7 lo n) acc.toList:=by
 obtain⟨h1,h2⟩:=h
 refine il ?_ ?_
 · simp[i7,h1]
 · intro i v u e1 e2
   unfold i7 at e1
   rw[Jd]at e1
   obtain⟨t,e4⟩:=h2 i u (by simpa using e2)
   by_cases hi:i<n
   · rw[Ia (by simpa using hi)]at e1
     simp at e1
     subst e1
     exact⟨t,by rw[e4];simp⟩
   · rw[Na (by simpa using hi)]at e1
     cases e1
theorem ng{Q:VK}{lo hi:Int}{t u v:Tok}{tk:Nat}(hc:X.calm=true)(I:Inv X pins σ H s)(h1 : -(2^62)<=lo)(h2:lo<2^62)(h3 : -(2^62)<=hi)(h4:hi<2^62)(h5:(hi-lo).toNat<=2^24)
 (q:∀l,H l=none->Q (.ref l) (EB H l (.lst (i7 lo (hi-lo).toNat)))):Iv (IH X.prog X.w) X.A (call (.type "list") [.ref s.heap.objs.size]) (EP X pins σ Q) X.xe {s with heap:=s.heap.push {cls:=.type "range", data:=.fields #[.int lo t,.int hi u,.int 1 v]},toks:=tk}:=by
 have I1:Inv X pins σ H {s with heap:=s.heap.push {cls:=.type "range", data:=.fields #[.int lo t,.int hi u,.int 1 v]},toks:=tk}:=I.kept fun b o e=>HN _ e
 refine call_list_range (n:=(hi-lo).toNat) (I.ok.hd hc) (IsRange.new ..) (small_one h1 h2 h3 h4) (by rw[rangeSize_one];split<;>omega) h5 fun h' tk acc c hk hn hi=>?_
 have hv:=iF hi
 refine⟨.ref _,_,I1.laid (t':=tk) hk (HX _) (show cK X.prog X.w _ h' _ (.lst _)from⟨?_,acc.toList,c,hv,by rw[Np];exact hn⟩),rfl,q _ (I1.hok.fresh (HX _))⟩
 show(i7 lo _).length<=sizeLine
 rw[i7,HW,LF]
 exact IT h5 (by decide)
noncomputable def DB(ta:TA):TE:=fun σ H Q=>ta σ H fun vs H1=>∃j:Int,vs=[.int j]/\(-(2^62)<=j/\j<2^62)/\j.toNat<=2^24/\∀l,H1 l=none->Q (.ref l) (EB H1 l (.lst (i7 0 j.toNat)))
theorem mY(hc:X.calm=true)(hl:Gl X "list")(hml:X.mg "list" = none)(hg:Gl X "range")(hm:X.mg "range" = none)(ha:PA X [a] ta)(hs:HZ [a] X.env=[(false,eval a X.env)]:=by rfl)
 (he:HZ [.Call (.Name "range" p) [a] [] pos2] X.env=(false,eval (.Call (.Name "range" p) [a] [] pos2) X.env)::HZ [] X.env:=by rfl)(hpl:(JR pos (HZ [] X.env)).any (·.1)=false:=by rfl) :
 PE X (.Call (.Name "list" q) [.Call (.Name "range" p) [a] [] pos2] [] pos) (DB ta):=by
 intro pins s σ H Q I h
 refine KR (gB I hl hml (by rfl) ?_ (by decide) (by decide))
 refine JY ?_ he hpl
 rw[he]
 show Iv _ _ (spliced ((false,eval (.Call (.Name "range" p) [a] [] pos2) X.env)::JR pos (HZ [] X.env))) _ _ s
 refine Calls.spliced_cons ?_
 refine Call_ (gB I hg hm boot_range (JY (EI (ha pos2 pins s σ H _ I h) fun us s1 ⟨vs,H1,I1,r1,q1⟩=>?_) hs rfl))
 obtain⟨j,e,⟨h3,h4⟩,h5,q1⟩:=q1
 subst e
 cases r1 with
 | cons r rr =>
   cases rr
   obtain⟨t,rfl⟩:=r
   exact call_range_1 (Calls.spliced_nil (ng hc I1 (by omega) (by omega) h3 h4 (by simpa using h5) (by simpa using q1)))
end
end L2
namespace L2.VL
section
variable{X:Cx}{rl:RlT}{a b c e:Expr}{es:List Expr}{fa fb fc:TV}{fs:GF}{pos pos2 p q:Pos}
theorem mR{K:W.Frag}(lo:Int)(n:Nat):Reps K F (i7 lo n) (bi lo n):=by
 unfold i7 bi
 generalize IV n=l
 induction l with
 | nil=>exact .nil
 | cons x l ih=>exact .cons (.int _) ih
noncomputable def CV(fs:GF):TV:=fun ρ Q=>fs ρ fun ws=>∃j:Int,ws=[.d (.int j)]/\(-(2^62)<=j/\j<2^62)/\j.toNat<=2^24/\Q (.ml (bi 0 j.toNat))
theorem nL(hml:X.mg "list" = none)(hm:X.mg "range" = none)(ha:GV X rl [a] fs)(hc:X.calm=true:=by rfl)(hl:Gl X "list" := by rfl)(hg:Gl X "range" := by rfl)(hs:HZ [a] X.env=[(false,eval a X.env)]:=by rfl)
 (he:HZ [.Call (.Name "range" p) [a] [] pos2] X.env=(false,eval (.Call (.Name "range" p) [a] [] pos2) X.env)::HZ [] X.env:=by rfl)(hpl:(JR pos (HZ [] X.env)).any (·.1)=false:=by rfl) :
 PV X rl (.Call (.Name "list" q) [.Call (.Name "range" p) [a] [] pos2] [] pos) (CV fs):=by
 obtain⟨t,p1,k⟩:=ha
 refine⟨_,mY hc hl hml hg hm p1 hs he hpl,fun R Qd Q q h=>k R _ _ q fun vs ws F1 H1 g1 r1 ⟨j,ew,z,y,q1⟩=>?_⟩
 subst ew
 obtain⟨v,rfl,rv⟩:=nq r1
 have e1:=aL rv
 subst e1
 exact⟨j,rfl,z,y,fun l hl=>h _ (.ml _) _ _ (g1.trans (Grow.laid g1.sub g1.reel hl)) (cB g1.sub g1.reel hl (mR _ _)) (fun a ea=>by cases ea;exact g1.freeB hl) q1⟩
end
structure Sm (dp bk:Nat) (d:HH):Prop where
 nice:wW d
 dep:d.depth<=dp
 blk:d.bulk<=bk
theorem io:∀{xs:List HH},(∀d∈xs,wW d)->gR xs
 | [],_=>trivial
 | x::xs,h=>⟨h x HM,io fun d hd=>h d (HK _ hd)⟩
theorem gG{k:Nat}:∀{xs:List HH},(∀d∈xs,d.depth<=k)->JF xs<=k+1
 | [],_=>by simp[JF]
 | x::xs,h=>by
   have h1:=h x HM
   have h2:=gG (k:=k) (xs:=xs) fun d hd=>h d (HK _ hd)
   simp only[JF]
   omega
theorem iz{k:Nat}:∀{xs:List HH},(∀d∈xs,d.bulk<=k)->Mu xs<=(k+1)*xs.length
 | [],_=>by simp[Mu]
 | x::xs,h=>by
   have h1:=h x HM
   have h2:=iz (k:=k) (xs:=xs) fun d hd=>h d (HK _ hd)
   simp only[Mu,Io,Nat.mul_succ]
   omega
theorem Sm.seq{dp bk:Nat}(h:∀d∈xs,Sm dp bk d)(hl:xs.length<=n):Sm (dp+2) ((bk+1)*n) (.tuple xs)/\Sm (dp+2) ((bk+1)*n) (.list xs):=by
 have a:=io fun d hd=>(h d hd).nice
 have b:=gG fun d hd=>(h d hd).dep
 have c:Mu xs<=(bk+1)*n:=IT (iz fun d hd=>(h d hd).blk) (NC _ hl)
 refine⟨⟨a,?_,c⟩,⟨a,?_,c⟩⟩<;>simp only[Ku]<;>omega
theorem Sm.shw{dp bk:Nat}(h:Sm dp bk d)(h1:dp<=60)(h2:bk<=8000):GS d:=⟨h.nice,by have:=h.dep;omega,by have:=h.blk;omega⟩
theorem Sm.int{i:Int}(h:i.natAbs<2^1000):Sm 0 0 (.int i):=⟨(Lf.int h).nice,by simp[Ku],by simp[HH.bulk]⟩
theorem Sm.pair{a b:Int}(ha:a.natAbs<2^1000)(hb:b.natAbs<2^1000):Sm 2 2 (.tuple [.int a,.int b]) :=
 (Sm.seq (dp:=0) (bk:=0) (n:=2) (xs:=[.int a,.int b]) (fun d hd=>by
  rcases Ih.mp hd with rfl|hd
  · exact Sm.int ha
  · rcases Ih.mp hd with rfl|hd
    · exact Sm.int hb
    · cases hd) (HX _)).1
end L2.VL
namespace L2
section
variable{X:Cx}{tg e:Expr}{ta te:TE}{p p2 pos:Pos}
end
end L2
namespace L2.VL
section
variable{X:Cx}{rl:RlT}{a b c e tg:Expr}{es:List Expr}{fa fb fc:TV}{fs:GF}{pos pos2 p p2 q:Pos}
end
end L2.VL
namespace L2
section
variable{X:Cx}
theorem wH{bs:List Bool}{its:List HQ}(r:cn (bs.map V.bl) its){v:HQ}(e:its[i]?=some v):v = .bool (bs.getD i false):=by
 have hl:=r.length
 rw[HW]at hl
 have hi:i<bs.length:=by have:=(Iy.mp e).1;omega
 have hb:(bs.map V.bl)[i]?=some (.bl bs[i]):=by simp[hi]
 obtain⟨u,hu,ru⟩:=r.get hb
 rw[e]at hu
 cases hu
 have:bs.getD i false=bs[i]:=by simp[List.getD,hi]
 rw[this]
 exact ru
theorem oB{bs:List Bool}:(IV bs.length).all (fun i=>bs.getD i false)=bs.all id:=by
 have:bs=(IV bs.length).map fun i=>bs.getD i false:=by
  apply MR
  · simp
  · intro i h1 h2
    simp[List.getD,h1]
 conv=>rhs;rw[this,N7]
 rfl
theorem sM(hc:X.calm=true):eP X (.builtin "all") (fun xs H Q=>∃(p:Addr)(bs:List Bool),xs=[.ref p]/\GN X.K H p (bs.map V.bl)/\Q (.bl (bs.all id)) H):=by
 intro pins s σ H xs us Q I r ⟨p,bs,ex,hq,q⟩
 subst ex
 obtain⟨u,rfl,ru⟩:=vals1 r
 cases ru
 obtain⟨its,rv,pl,hz⟩:=I.list hq
 have hl:=rv.length
 rw[HW]at hl
 refine call_all_walk (K8 pl.isList ?_)
 have ne:p≠s.heap.objs.size:=by obtain⟨o,ho,_⟩:=pl.isList;exact IP (Ii ho)
 refine⟨s.heap.objs.size,_,_,_,_,_,fun i=>bs.getD i false,rfl,Walks.list (A:=X.A.in1) (I.ok.hd hc) s.heap.objs.size p ne its.toArray,⟨⟨_,Im _ rfl,rfl,rfl⟩,pl.isList.push _⟩,fun i v s' Q' E' hP hQ=>?_,fun h' tk k=>?_⟩
 · rw[wH rv (show its[i]?=some v by simpa using hP)]
   exact JT hQ
 · have e:(IV its.toArray.size).all (fun i=>bs.getD i false)=bs.all id:=by rw[Il,<- hl];exact oB
   rw[e]
   exact⟨.bl _,H,I.kept (t':=tk) fun b o eb=>k b o (by simp;exact IP (Ii eb)) (HN _ eb),rfl,q⟩
end
end L2
namespace L2.VL
section
variable{X:Cx}{rl:RlT}{a b c e:Expr}{es:List Expr}{fa fb fc:TV}{fs:GF}{pos p p2:Pos}
theorem ox{K:W.Frag}{F:Hp}:∀{vs:List V}{bs:List Bool},Reps K F vs (bs.map .bool)->vs=bs.map V.bl
 | _,[],h=>h.nil_iff
 | _,b::bs,.cons h r=>by rw[e8 h,ox r];rfl
noncomputable def Ah(f:List Bool->Bool):List W->(W->Prop)->Prop:=fun ws Q=>∃(w:W)(bs:List Bool),ws=[w]/\w.dat=some (.list (bs.map .bool))/\Q (.d (.bool (f bs)))
theorem xk{f:List Bool->Bool}:gO X rl (fun xs H Q=>∃(p:Addr)(bs:List Bool),xs=[.ref p]/\GN X.K H p (bs.map V.bl)/\Q (.bl (f bs)) H) (Ah f):=fun{F H vs ws} Qd Q s ra r ⟨w,bs,ew,ed,q⟩ k=>by
 subst ew
 obtain⟨v,rfl,r1⟩:=nq r
 obtain⟨a,us,rfl,sq,rs⟩:=r1.items s ed
 have e:=ox rs
 subst e
 exact⟨a,bs,rfl,sq,k _ (.d _) _ _ (Grow.refl s ra) (.bl _) trivial q⟩
theorem v_all(hm:X.mg "all" = none)(ha:GV X rl [a] fs)(hc:X.calm=true:=by rfl)(hg:Gl X "all" := by rfl)(he:HZ [a] X.env=(false,eval a X.env)::HZ [] X.env:=by rfl)(hpl:(JR pos (HZ [] X.env)).any (·.1)=false:=by rfl) :
 PV X rl (.Call (.Name "all" p) [a] [] pos) (dY (Ah fun bs=>bs.all id) fs):=dH (sM hc) xk hm (by rfl) ha hg (by decide) (by decide) he hpl
end
end L2.VL
namespace L2.TM
section
variable{prog:II}{w:Ju}{A:Jz}{E:HQ->HU->Prop}{s:HU}{k:Int}{t:Tok}{l:Addr}{its:Array HQ}
end
end L2.TM
namespace L2
section
variable{X:Cx}
end
end L2
namespace L2.VL
section
variable{X:Cx}{rl:RlT}{a b c e:Expr}{es:List Expr}{fa fb fc:TV}{fs:GF}{pos p p2:Pos}
noncomputable def BB:W->W->(W->Prop)->Prop:=fun x y Q=>∃xs ys,x = .d (.tuple xs)/\y = .d (.tuple ys)/\xs≠[]/\xs.length+ys.length<=sizeLine/\Q (.d (.tuple (xs++ys)))
theorem uu:GC X rl (va X.K) BB:=fun{F H x y wx wy} Qd Q s ra r1 r2 q k=>by
 obtain⟨xs,ys,rfl,rfl,hne,hz,q⟩:=q
 cases(show Rep X.K F x (.tuple xs)from r1)with
 | @tup a vs _ sq rs =>
   cases(show Rep X.K F y (.tuple ys)from r2)with
   | @tup b us _ E4 rs2 =>
     refine⟨a,b,vs,us,rfl,rfl,d_ s sq,d_ s E4,fun z=>hne ?_,by rw[rs.length,rs2.length];exact hz,fun e=>?_,fun e p hp=>?_⟩
     · subst z;cases rs;rfl
     · subst e
       cases rs2
       rw[Kc]at q
       exact k _ (.d (.tuple xs)) _ _ (Grow.refl s ra) (.tup sq rs) trivial q
     · have g:=Grow.data (a:=p) (o:=.tup (vs++us)) s ra hp
       exact k _ (.d _) _ _ g (.tup (.inl (.inl ax)) ((rs.append rs2).mono g.fs)) trivial q
end
end L2.VL
namespace L2
section
variable{X:Cx}
noncomputable def yn(K:W.Frag):R2:=fun x y H Q=>∃a b ys,x = .ref a/\y = .ref b/\GM K H a []/\GM K H b ys/\Q (.ref b) H
theorem vR:G9 X (KQ .Add) (yn X.K):=by
 intro pins s σ H x y v u Q I rx ry h
 obtain⟨a,b,ys,rfl,rfl,ha,hb,q⟩:=h
 cases rx
 cases ry
 obtain⟨its,r1,p1,_⟩:=I.tuple ha
 obtain⟨its2,r2,p2,_⟩:=I.tuple hb
 cases r1
 obtain⟨⟨c1,d1,e1,sl1⟩,ho,hc,n,hd⟩:=p1
 obtain⟨⟨c2,d2,e2,sl2⟩,ho2,hc2,n2,hd2⟩:=p2
 cases hc;cases hd;cases hc2;cases hd2
 exact N3 ⟨_,ho,rfl⟩ ⟨_,ho2,rfl⟩ MP NQ Lz Lv (Lo _ _)
  (tuple_addW0 a b _ its2.toArray n n2 d1 d2 sl1 sl2 rfl) ⟨ho,ho2,⟨.ref b,H,I,rfl,q⟩⟩
noncomputable def ym(K:W.Frag):R2:=fun x y H Q=>va K x y H Q\/yn K x y H Q
theorem vQ:G9 X (KQ .Add) (ym X.K):=fun pins s σ H x y v u Q I rx ry h=>h.elim (vP pins s σ H x y v u Q I rx ry) (vR pins s σ H x y v u Q I rx ry)
section
variable{prog:II}{w:Ju}{A:Jz}{E:HQ->HU->Prop}{s:HU}
end
theorem mD{vs:List HQ}(h:L8 vs ns):cn (ns.map V.int) vs:=by
 induction h with
 | nil=>exact .nil
 | cons n t r ih=>exact .cons ⟨t,rfl⟩ ih
end
end L2
namespace L2.VL
section
variable{X:Cx}{rl:RlT}{a b c e:Expr}{es:List Expr}{fa fb fc:TV}{fs:GF}{pos p p2:Pos}
noncomputable def sA:W->W->(W->Prop)->Prop:=fun x y Q=>∃xs ys,x = .d (.tuple xs)/\y = .d (.tuple ys)/\xs.length+ys.length<=sizeLine/\Q (.d (.tuple (xs++ys)))
theorem uw:GC X rl (ym X.K) sA:=fun{F H x y wx wy} Qd Q s ra r1 r2 q k=>by
 obtain⟨xs,ys,rfl,rfl,hz,q⟩:=q
 by_cases hx:xs=[]
 · subst hx
   cases(show Rep X.K F x (.tuple [])from r1)with
   | @tup a vs _ sq rs =>
     cases rs
     cases(show Rep X.K F y (.tuple ys)from r2)with
     | @tup b us _ E4 rs2=>exact .inr ⟨a,b,us,rfl,rfl,d_ s sq,d_ s E4,k _ (.d (.tuple ys)) _ _ (Grow.refl s ra) (.tup E4 rs2) trivial q⟩
 · exact .inl (uu Qd Q s ra r1 r2 ⟨xs,ys,rfl,rfl,hx,hz,q⟩ k)
theorem nM(ha:PV X rl a fa)(hb:PV X rl b fb):PV X rl (.BinOp a .Add b pos) (Ez sA fa fb):=gZ vQ uw ha hb
theorem fL{K:W.Frag}{F:Hp}:∀{vs:List V}{ns:List Int},Reps K F vs (ns.map .int)->vs=ns.map V.int
 | _,[],h=>h.nil_iff
 | _,n::ns,.cons h r=>by rw[aL h,fL r];rfl
theorem lO{K:W.Frag}{F:Hp}:∀{ns:List Int},Reps K F (ns.map V.int) (ns.map .int)
 | []=>.nil
 | n::ns=>.cons (.int n) lO
end
end L2.VL
namespace L2.TO
section
variable{prog:II}{w:Ju}{A:Jz}{E:HQ->HU->Prop}{s:HU}
end
end L2.TO
namespace L2
section
variable{X:Cx}{a b e:Expr}{ta:TA}{te:TE}{p p2 q pos pos2:Pos}
end
end L2
namespace L2.VL
section
variable{X:Cx}{rl:RlT}{a b c e:Expr}{es:List Expr}{fa fb fc:TV}{fs:GF}{pos pos2 p q p2:Pos}
end
end L2.VL
namespace L2.TW
section
variable{prog:II}{w:Ju}{A:Jz}{E:HQ->HU->Prop}{s:HU}
theorem get_whole{t sl:Addr}{items:Array HQ}{vl vu:HQ}{lo hi:Option Int}(ht:IsTup s.heap t items)(hs:s.heap.IsSliceOf sl vl vu .none)(pl:NR vl lo)(pu:NR vu hi)
 (hw:HT.sIx items.size 0 lo=0/\HT.sIx items.size items.size hi=items.size)(h:Q (.ref t) s):Iv (IH prog w) A (MI (.ref t) (.ref sl)) Q E s:=by
 have ty:s.TypeIs (.ref sl) "slice" := let ⟨o,h1,h2,_⟩:=hs;⟨o,h1,h2⟩
 have key:Iv (IH prog w) A (call (.builtin "tuple.__getitem__") [.ref t,.ref sl]) Q E s:=by
  refine Kr Je ht.typeIs entry_tuple_getitem ?_ (args_tuple_getitem _ _)
  show Iv _ _ (Mj (.ref t) >>= _) _ _ s;refine HJ (tupleItemsOf_ ht (HJ (N4 ty ?_)))
  rw[if_pos (by decide)]
  refine HJ (HT.sliceApplied_gen hs pl pu ?_)
  rw[hw.1,hw.2,Nat.sub_zero]
  show Iv _ _ (if(((0:Nat):Int)==0&&(1:Int)==1&&items.size==items.size)=true then _ else _) _ _ s
  rw[if_pos (by simp)]
  unfold Builtin.Tuple.tupleIsExact
  refine HJ (HJ (N4 ht.typeIs (H_ ?_)))
  rw[if_pos (by decide)]
  exact HJ (L1 (HJ (H_ (H_ ⟨_,rfl,h⟩))))
 unfold MI;try with_reducible refine J_ ?_
 first|exact HJ (H_ (HJ (Mz ht.typeIs (by decide) (HJ (JJ (name:=HG "__getitem__") ht.typeIs Je (EI key fun v s' q=>H_ q))))))|exact HJ (Mz ht.typeIs (by decide) (HJ (JJ (name:=HG "__getitem__") ht.typeIs Je (EI key fun v s' q=>H_ q))))
end
end L2.TW
namespace L2
section
variable{X:Cx}
noncomputable def DJ(K:W.Frag):V->Option Int->Option Int->Hp->VK->Prop:=fun x lo hi H Q=>C0 K x lo hi H Q\/∃a xs,x = .ref a/\GM K H a xs/\(HT.sIx xs.length 0 lo=0/\HT.sIx xs.length xs.length hi=xs.length)/\Q (.ref a) H
theorem uV:GR X (DJ X.K):=by
 intro pins s σ H x v vl vu lo hi sl Q I rx hs pl pu h
 rcases h with h|⟨a,xs,rfl,hx,hw,q⟩
 · exact xW pins s σ H x v vl vu lo hi sl Q I rx hs pl pu h
 · cases rx
   obtain⟨its,r,ht,hz⟩:=I.tuple hx
   have hlen:its.toArray.size=xs.length:=by rw[Il];exact r.length.symm
   exact⟨"tuple", _,Je.lookup,ht.typeIs,TW.get_whole ht hs pl pu (by rw[hlen];exact hw) ⟨.ref a,H,I,rfl,q⟩⟩
end
end L2
namespace L2.VL
section
variable{X:Cx}{rl:RlT}{a b c e:Expr}{es:List Expr}{fa fb fc:TV}{fs:GF}{pos p p2:Pos}
theorem qb{l u:Option Int}(h:HT.sIx xs.length 0 l=0/\HT.sIx xs.length xs.length u=xs.length):cutD xs l u=xs:=by
 unfold cutD
 rw[h.1,h.2]
 simp
noncomputable def Ay(fa:TV)(fl fh:GI):TV:=fun ρ Q=>fa ρ fun w=>fl ρ fun l=>fh ρ fun h=>∃xs,w = .d (.tuple xs)/\Q (.d (.tuple (cutD xs l h)))
theorem xn{lo hi:Option Expr}{fl fh:GI}(ha:PV X rl a fa)(hl:GW X rl lo fl)(hh:GW X rl hi fh):PV X rl (.Subscript a (.Slice lo hi none p2) pos) (Ay fa fl fh):=by
 obtain⟨t,p,k⟩:=ha
 obtain⟨tl,pl,kl⟩:=hl
 obtain⟨th,ph,kh⟩:=hh
 refine⟨_,lz uV p pl ph,fun R Qd Q q h=>k R _ _ q fun v w F1 H1 g1 r1 n1 q1=>?_⟩
 refine kl (R.grow g1) _ _ q1 fun l F2 H2 g2 q2=>kh ((R.grow g1).grow g2) _ _ q2 fun u F3 H3 g3 q3=>?_
 obtain⟨xs,rfl,q3⟩:=q3
 have r3:=(r1.grow g2).grow g3
 have g:=(g1.trans g2).trans g3
 cases(show Rep X.K F3 v (.tuple xs)from r3)with
 | @tup a vs _ sq rs =>
   by_cases hw:HT.sIx xs.length 0 l=0/\HT.sIx xs.length xs.length u=xs.length
   · rw[qb hw]at q3
     exact .inr ⟨a,vs,rfl,d_ g3.sub sq,by rw[rs.length];exact hw,h _ (.d _) _ _ g (.tup sq rs) trivial q3⟩
   · refine .inl ⟨a,vs,rfl,d_ g3.sub sq,by rw[rs.length];exact hw,fun p hp=>?_⟩
     have g':=Grow.data (a:=p) (o:=.tup (sG vs l u)) g3.sub g3.reel hp
     exact h _ (.d _) _ _ (g.trans g') (.tup (.inl (.inl ax)) ((rs.cut l u).mono g'.fs)) trivial q3
end
end L2.VL
namespace L2
abbrev DY(D:List (Str×Int)):List (HH×HH):=(D.map fun q=>(q.1,Iw q.2)).map fun q=>(KP q.1,q.2)
section
variable{X:Cx}{e:Expr}{ty:TE}{px apos cpos:Pos}
end
end L2
namespace L2.VL
section
variable{X:Cx}{rl:RlT}{a b c e:Expr}{es:List Expr}{fa fb fc:TV}{fs:GF}{pos p p2 px apos cpos:Pos}
end
end L2.VL
set_option exponentiation.threshold 10000
namespace L2.VL
noncomputable def wP(a b:Int):HH:=.tuple [.int (a.fdiv (J3 a b)),.int (b.fdiv (J3 a b))]
theorem ja{a b:Int}(hb:0<b)(z:b.natAbs<2^8000)(i:Int):fI i (J3 a b:Int):=by
 have h1:=wg (a:=a) (b:=b) (by omega)
 have h2:=zu (a:=a) (b:=b) (by omega)
 exact⟨by omega,Kf (by omega) (HL z (HS (by decide) (by decide)))⟩
noncomputable def zV(bs:List Int):Prop:=bs.length=4/\(∀b∈bs,2<=b/\b<=16)/\bs.Pairwise fun x y=>J3 x y=1
instance (bs:List Int):Decidable (zV bs):=by unfold zV;infer_instance
theorem ot{d:Nat}{k:Int}(h:0<=k):HT.sIx n d (some k)=min k.toNat n:=by
 obtain⟨m,rfl⟩:=J1 h
 exact HT.sIx_nat n d m
theorem lV{k:Int}(h:0<=k):cutD xs (some k) none=xs.drop k.toNat:=by
 unfold cutD
 rw[ot h,HT.sIx_none]
 by_cases hk:k.toNat<=xs.length
 · rw[Nf hk]
   exact IG (by simp)
 · rw[MS (by omega),Ks,LA (by omega)]
   simp
noncomputable def pr(a b:Int):HH:=.tuple [.int a,.int b]
theorem GlK.pair{K:W.Frag}{a b:Int}{p:Addr}{sl:Array (Option HQ)}{t u:Tok}(h1:W.nsIn K Jf x=some (some (.ref p)))
 (h2:K.lookup p=some ⟨.type "tuple", none,.seq #[.int a t,.int b u] n,sl⟩):GlK K x (pr a b):=by
 refine⟨.ref p,.ref p,h1,rfl,fun F=>.tup (vs:=[.int a,.int b]) (.inr ⟨_,_,n,h2,rfl,rfl,(by show 2<=sizeLine;decide),.cons ⟨t,rfl⟩ (.cons ⟨u,rfl⟩ .nil),rfl⟩) (.cons (.int a) (.cons (.int b) .nil))⟩
end L2.VL
set_option exponentiation.threshold 10000
namespace L2.VL
noncomputable def stepT(b:Int)(p:List Int)(t:Int)(a:Nat):Int:=t*b+p.getD a 0
noncomputable def ED:HH->Int
 | .int i=>i
 | _=>0
section
variable{P:II}{w:Ju}{K:W.Frag}{mg:Str->Option HQ}{base:Heap}{rl:RlT}{x:Str}{st:Stmt}{N ps:List Str}{k:Nat}{Pd:List W->(List HH->Prop)->Prop}{t:GG}
end
section
variable{X:Cx}{rl:RlT}{a b c e:Expr}{es:List Expr}{fa fb fc:TV}{fs:GF}{pos p p2 px apos cpos:Pos}
end
end L2.VL
namespace L2.IX
section
variable{prog:II}{w:Ju}{A:Jz}{E:HQ->HU->Prop}{s:HU}
end
end L2.IX
namespace L2
section
variable{X:Cx}
end
end L2
namespace L2.VL
section
variable{X:Cx}{rl:RlT}{a b c e:Expr}{es:List Expr}{fa fb fc:TV}{fs:GF}{pos p p2 px apos cpos:Pos}
noncomputable def zo:HH->Bool
 | .none=>true
 | _=>false
noncomputable def su:W->W->(W->Prop)->Prop:=fun x y Q=>∃xs k,x.dat=some (.list xs)/\y = .d (.int k) /\ -(2^63)<=k/\k<2^63/\xs.length*k.toNat<=sizeLine/\Q (.ml (IC k.toNat xs).flatten)
theorem yc{K:W.Frag}{F:Hp}{vs:List V}{ds:List HH}(r:Reps K F vs ds):∀n:Nat,Reps K F (IC n vs).flatten (IC n ds).flatten
 | 0=>.nil
 | n+1=>by rw[JE,JE,J7,J7];exact r.append (yc r n)
theorem ut:GC X rl C1 su:=fun{F H x y wx wy} Qd Q s ra r1 r2 q k=>by
 obtain⟨xs,n,e1,rfl,h1,h2,hz,q⟩:=q
 have ey:=aL r2
 subst ey
 obtain⟨a,vs,rfl,hh,rs⟩:=r1.lst s e1
 refine⟨a,n,vs,rfl,rfl,hh,h1,h2,by rw[rs.length];exact hz,fun p hp=>?_⟩
 exact k _ (.ml _) _ _ (Grow.laid s ra hp) (cB s ra hp (yc rs n.toNat)) (fun a ea=>by cases ea;exact hp) q
theorem xp(ha:PV X rl a fa)(hb:PV X rl b fb):PV X rl (.BinOp a .Mult b pos) (Ez su fa fb):=gZ yP ut ha hb
end
end L2.VL
namespace L2.ZP
section
variable{prog:II}{w:Ju}{A:Jz}{E:HQ->HU->Prop}{s:HU}{it a:Addr}{k:Nat}{xs:Array HQ}{v:HQ}
theorem uL(st:s.heap.IsTupleIter it a k)(tu:s.heap.IsTuple a xs)(e:xs[k]?=some v)
 (q:∀g,g.IsTupleIter it a (k+1)->KC it s.heap g->Q v {s with heap:=g}):Iv (IH prog w) A (JO (.ref it)) Q E s:=by
 have ty:=st.typeIs
 obtain⟨o,oe,oc,od⟩:=st
 obtain⟨l,le,_,_,ld⟩:=tu
 unfold JO
 have sl:=F.slot_tuple_iterator_next
 refine HJ (JJ (name:=HG "__next__") ty sl (Kr sl ty F.entry_tuple_iterator_next ?_ (F.args_tuple_iterator_next_1 _)))
 show Iv _ _ (do let z <- field (.ref it) 0;_) _ _ s
 refine HJ (Kg oe od (x:=.ref a) rfl ?_)
 show Iv _ _ (ite ((Kw a==L0)=true) _ _) _ _ s
 rw[if_neg (show ¬(Kw a == .none)=true by intro z;cases z)]
 show Iv _ _ (do let z <- field (.ref it) 1;_) _ _ s
 refine HJ (Kg oe od (x:=.int k 0) rfl ?_)
 show Iv _ _ (do let z <- Om (.ref a);_) _ _ s
 refine HJ (Mv le ld ?_)
 simp only[Jo,e]
 refine HJ (wpAny_setField oe od (by simp) (H_ ⟨v,rfl,H_ (q _ ?_ (ND ..))⟩))
 refine⟨_,LM _ oe (Obj.isFreed_of_fields (Obj.data_mapFields od _)),?_,?_⟩
 · exact(Obj.cls_mapFields ..).trans oc
 · rw[Obj.data_mapFields od];simp[rawInt]
theorem xJ(hd:A.handled=none)(st:s.heap.IsTupleIter it a k)(tu:s.heap.IsTuple a xs)(e:xs[k]?=none)
 (q:∀g x,Heap.ExtBut it s.heap g->(∃o,g.get? x=some o/\o.cls = .type "StopIteration")->E (.ref x) {s with heap:=g}):Iv (IH prog w) A (JO (.ref it)) Q E s:=by
 have ty:=st.typeIs
 obtain⟨o,oe,oc,od⟩:=st
 obtain⟨l,le,_,_,ld⟩:=tu
 unfold JO
 have sl:=F.slot_tuple_iterator_next
 refine HJ (JJ (name:=HG "__next__") ty sl (Kr sl ty F.entry_tuple_iterator_next ?_ (F.args_tuple_iterator_next_1 _)))
 show Iv _ _ (do let z <- field (.ref it) 0;_) _ _ s
 refine HJ (Kg oe od (x:=.ref a) rfl ?_)
 show Iv _ _ (ite ((Kw a==L0)=true) _ _) _ _ s
 rw[if_neg (show ¬(Kw a == .none)=true by intro z;cases z)]
 show Iv _ _ (do let z <- field (.ref it) 1;_) _ _ s
 refine HJ (Kg oe od (x:=.int k 0) rfl ?_)
 show Iv _ _ (do let z <- Om (.ref a);_) _ _ s
 refine HJ (Mv le ld ?_)
 simp only[Jo,e]
 refine HJ (L1 (HJ (wpAny_setField oe od (by simp) ?_)))
 show Iv _ _ (do let z <- newExc (.type "StopIteration") [];_) _ _ _
 refine HJ ?_
 simp only[newExc,newTuple]
 refine HJ (Jg ?_ (by size_fits))
 refine HJ (m:=firstArgMember _ _) (On (a:=.none) (by first|rfl|(simp only[firstArgMember];rfl)) (Jg ?_ (by size_fits)))
 simp only[raiseNew]
 refine HJ (wpAny_handled ?_)
 first
  | rw[show A.in1.handled=none from hd]
  | rw[hd]
 refine HJ (H_ (wpAny_throw ?_))
 exact q _ _ (((ND ..).extBut.push _).push _) ⟨_,Im _ rfl,rfl⟩
end
noncomputable def Hq(h:Heap)(it a:Addr)(xs:Array HQ)(k:Nat):Prop:=(h.IsListIter it a k/\h.IsList a xs)\/(h.IsTupleIter it a k/\h.IsTuple a xs)
section
variable{prog:II}{w:Ju}{A:Jz}{E:HQ->HU->Prop}{s:HU}{it a:Addr}{k:Nat}{xs:Array HQ}{v:HQ}
theorem Hq.item(st:Hq s.heap it a xs k)(ne:a≠it)(e:xs[k]?=some v)
 (q:∀g,Hq g it a xs (k+1)->KC it s.heap g->Q v {s with heap:=g}):Iv (IH prog w) A (JO (.ref it)) Q E s:=by
 rcases st with⟨h1,h2⟩|⟨h1,h2⟩
 · exact wpAny_nextOf_list_item h1 h2 e fun g h3 h4=>q g (.inl ⟨h3,h2.extBut h4.extBut ne⟩) h4
 · exact uL h1 h2 e fun g h3 h4=>q g (.inr ⟨h3,h2.extBut h4.extBut ne⟩) h4
theorem Hq.fin(hd:A.handled=none)(st:Hq s.heap it a xs k)(e:xs[k]?=none)
 (q:∀g x,Heap.ExtBut it s.heap g->(∃o,g.get? x=some o/\o.cls = .type "StopIteration")->E (.ref x) {s with heap:=g}):Iv (IH prog w) A (JO (.ref it)) Q E s:=by
 rcases st with⟨h1,h2⟩|⟨h1,h2⟩
 · exact wpAny_nextOf_list_end hd h1 h2 e q
 · exact xJ hd h1 h2 e q
theorem Hq.keep(st:Hq h it a xs k)(e1:∀o,h.get? it=some o->h'.get? it=some o)(e2:∀o,h.get? a=some o->h'.get? a=some o):Hq h' it a xs k:=by
 rcases st with⟨⟨o,h1,r1⟩,⟨p,h2,r2⟩⟩|⟨⟨o,h1,r1⟩,⟨p,h2,r2⟩⟩
 · exact .inl ⟨⟨o,e1 _ h1,r1⟩,⟨p,e2 _ h2,r2⟩⟩
 · exact .inr ⟨⟨o,e1 _ h1,r1⟩,⟨p,e2 _ h2,r2⟩⟩
end
section
variable{prog:II}{w:Ju}{A:Jz}{E:HQ->HU->Prop}{s:HU}{z ti to i1 i2 a1 a2:Addr}{k1 k2:Nat}{xs ys:Array HQ}{x y p q:HQ}
theorem SameBut.keep{b:Addr}(sb:KC a h h')(ne:b≠a):∀o,h.get? b=some o->h'.get? b=some o:=fun o e=>sb.extBut _ _ ne e
end
noncomputable def GP(b:Bool)(h:Heap)(a:Addr)(xs:Array HQ):Prop:=bif b then h.IsTuple a xs else h.IsList a xs
noncomputable def FY(b:Bool):String:=bif b then "tuple_iterator" else "list_iterator"
section
variable{prog:II}{w:Ju}{A:Jz}{E:HQ->HU->Prop}{s:HU}{b b1 b2:Bool}{a a1 a2:Addr}{xs ys:Array HQ}
theorem zn(st:GP b s.heap a xs)(q:Q (.ref s.heap.objs.size) {s with heap:=s.heap.push {cls:=.type (FY b),data:=.fields #[.ref a,.int 0 0]}}):Iv (IH prog w) A (Og (.ref a)) Q E s:=by
 cases b with
 | true=>exact Ml st q
 | false=>exact K8 st q
abbrev y1(h:Heap)(b1:Bool)(a1:Addr):Heap:=h.push {cls:=.type (FY b1),data:=.fields #[.ref a1,.int 0 0]}
abbrev y2(h:Heap)(b1 b2:Bool)(a1 a2:Addr):Heap:=(y1 h b1 a1).push {cls:=.type (FY b2),data:=.fields #[.ref a2,.int 0 0]}
abbrev y3(h:Heap)(b1 b2:Bool)(a1 a2:Addr):Heap:=(y2 h b1 b2 a1 a2).push {cls:=.type "tuple", data:=.seq #[.ref h.objs.size,.ref (y1 h b1 a1).objs.size]}
abbrev y4(h:Heap)(b1 b2:Bool)(a1 a2:Addr):Heap:=(y3 h b1 b2 a1 a2).push {cls:=.type "tuple", data:=.seq #[.none,.none]}
abbrev y5(h:Heap)(b1 b2:Bool)(a1 a2:Addr):Heap:=(y4 h b1 b2 a1 a2).push {cls:=.type "zip", data:=.fields #[.none,.bool false,.bool false,.ref (y2 h b1 b2 a1 a2).objs.size,.ref (y3 h b1 b2 a1 a2).objs.size]}
end
end L2.ZP
namespace L2
open PySem PySem.Spec PyProof.Rows L2.ZP
theorem Inv.turnedL{ch:List Addr}(I:Inv X pins σ H s)(k:∀b o,b∉ch->s.heap.get? b=some o->h'.get? b=some o)(hn:∀b∈ch,j_ X pins H b) :
 Inv X pins σ H {s with heap:=h',toks:=t' }:=by
 have nit:∀b u,H b=some u->b∉ch:=fun b u e z=>by rw[(hn b z).1]at e;cases e
 refine I.step (g':=s.gens) (d':=s.drawn) (ch:=ch) (fun b hb=>?_) (fun b o _ _ hc e _=>k b o hc e) (fun b o _ _ hc e _=>⟨o.slots,k b o hc e⟩) (fun _ _ _ _ n=>n) (fun b o hc e=>⟨o,k b o hc e⟩) (fun _ _ e=>e) (fun _ _ _ e=>e) (fun b ps e=>⟨#[],by rw[e];simp⟩) (fun m hm=>?_) (fun b u e=>?_) I.bare
 · obtain⟨_,h2,_,h4,h5,h6⟩:=hn b hb
   exact⟨h4,h2,h5,h6⟩
 · obtain⟨o,es,ep,ho,r⟩:=hm
   exact⟨o,es,ep,k _ o (fun z=>(hn _ z).2.1 rfl) ho,r⟩
 · refine(I.hok b u e).stay (fun c v hc q=>k c v ?_ q) (fun _ q=>q) fun _ _ q=>q
   rcases hc with z|z
   · rw[z];exact nit b u e
   · exact nit c _ z
noncomputable def GO(b:Bool)(K:W.Frag)(H:Hp)(a:Addr)(xs:List V):Prop:=bif b then GM K H a xs else GN K H a xs
theorem Inv.sqB{xs:List V}(I:Inv X pins σ H s)(h:GO b X.K H a xs):∃its,cn xs its/\GP b s.heap a its.toArray:=by
 cases b with
 | true =>
   obtain⟨its,r,t,z⟩:=I.tuple h
   exact⟨its,r,t⟩
 | false =>
   obtain⟨its,r,p,z⟩:=I.list h
   exact⟨its,r,p.isList⟩
theorem Inv.sqB_inj{xs ys:List V}(I:Inv X pins σ H s)(h:GO b X.K H a xs)(h':GO b X.K H a ys):xs=ys:=by
 cases b with
 | true=>exact I.tuple_inj h h'
 | false=>exact I.list_inj h h'
noncomputable def Hr(b:Bool)(h:Heap)(it a:Addr)(k:Nat):Prop:=bif b then h.IsTupleIter it a k else h.IsListIter it a k
theorem Hr.it1{k:Nat}{xs:Array HQ}(q:Hr b h it a k)(r:GP b h a xs):Hq h it a xs k:=by
 cases b with
 | true=>exact .inr ⟨q,r⟩
 | false=>exact .inl ⟨q,r⟩
theorem Hr.keep{k:Nat}(q:Hr b h it a k)(e:∀o,h.get? it=some o->h'.get? it=some o):Hr b h' it a k:=by
 cases b with
 | true=>obtain⟨o,h1,r⟩:=(show h.IsTupleIter it a k from q);exact⟨o,e _ h1,r⟩
 | false=>obtain⟨o,h1,r⟩:=(show h.IsListIter it a k from q);exact⟨o,e _ h1,r⟩
theorem Hr.obj{k:Nat}(q:Hr b h it a k):∃o,h.get? it=some o/\∀v,o.data ≠ .cell v:=by
 cases b with
 | true=>obtain⟨o,h1,_,d⟩:=(show h.IsTupleIter it a k from q);exact⟨o,h1,fun v z=>by rw[d]at z;cases z⟩
 | false=>obtain⟨o,h1,_,d⟩:=(show h.IsListIter it a k from q);exact⟨o,h1,fun v z=>by rw[d]at z;cases z⟩
theorem Hq.ir{k:Nat}{xs:Array HQ}{h0:Heap}(q:Hq h it a xs k)(r:Hr b h0 it a j)(s:GP b h a xs):Hr b h it a k:=by
 cases b with
 | true =>
   rcases q with⟨_,⟨o,e,c,_⟩⟩|⟨q,_⟩
   · obtain⟨o',e',c',_⟩:=(show h.IsTuple a xs from s)
     rw[e]at e';cases e';rw[c]at c';injection c' with z;exact absurd z (by decide)
   · exact q
 | false =>
   rcases q with⟨q,_⟩|⟨_,⟨o,e,c,_⟩⟩
   · exact q
   · obtain⟨o',e',c',_⟩:=(show h.IsList a xs from s)
     rw[e]at e';cases e';rw[c]at c';injection c' with z;exact absurd z (by decide)
theorem GP.of{xs:Array HQ}(q:GP b h a xs)(e:∀o,h.get? a=some o->h'.get? a=some o):GP b h' a xs:=by
 cases b with
 | true=>obtain⟨o,h1,r⟩:=(show h.IsTuple a xs from q);exact⟨o,e _ h1,r⟩
 | false=>obtain⟨o,h1,r⟩:=(show h.IsList a xs from q);exact⟨o,e _ h1,r⟩
open PySem PySem.Spec PyProof.Rows L2.ZP
section
variable{X:Cx}{e1 e2:Expr}{ta:TA}{elts:List Expr}{kt:Nat}{pt p pos:Pos}
end
end L2
namespace L2.VL
section
variable{X:Cx}{rl:RlT}{a b:Expr}{elts:List Expr}{kt:Nat}{pt p pos:Pos}{fs:GF}
noncomputable def Dr(xs ys:List HH):List HH:=List.zipWith (fun x y=>.tuple [x,y]) xs ys
noncomputable def g_:HH->Bool
 | .tuple _=>true
 | _=>false
theorem ye{K:W.Frag}(r:Rep K F v d)(e:jm d=some xs):∃a vs,v = .ref a/\Reps K F vs xs/\∀H,bF F H->GO (g_ d) K H a vs:=by
 cases r with
 | tup sq rs=>cases e;exact⟨_,_,rfl,rs,fun H s=>d_ s sq⟩
 | lst h rs=>cases e;exact⟨_,_,rfl,rs,fun H s=>.inl (.inl (s _ _ h))⟩
 | non=>cases e
 | bl b=>cases e
 | int i=>cases e
 | str x=>cases e
end
theorem nr{α:Sort u}{a b:α}(h:a=b):a=b:=h
abbrev Mo(α:Type):=(α->Prop)->Prop
noncomputable def ret{α:Type}(a:α):Mo α:=fun Q=>Q a
noncomputable def Gs{α β:Type}(m:Mo α)(f:α->Mo β):Mo β:=fun Q=>m fun a=>f a Q
noncomputable def Ge{α:Type}(P:Prop)(m:Mo α):Mo α:=fun Q=>P/\m Q
noncomputable def stk{α:Type}:Mo α:=fun _=>False
noncomputable def anyM{α:Type}(P:α->Prop):Mo α:=fun Q=>∀a,P a->Q a
noncomputable def aV{α β:Type}(o:Option α)(f:α->Mo β):Mo β:=match o with
 | some a=>f a
 | none=>stk
section
variable{α β γ:Type}
theorem bnd_ret(a:α)(f:α->Mo β):Gs (ret a) f=f a:=nr rfl
theorem bnd_bnd(m:Mo α)(f:α->Mo β)(g:β->Mo γ):Gs (Gs m f) g=Gs m fun a=>Gs (f a) g:=nr rfl
theorem bnd_grd(P:Prop)(m:Mo α)(f:α->Mo β):Gs (Ge P m) f=Ge P (Gs m f):=nr rfl
theorem bnd_stk(f:α->Mo β):Gs stk f=stk:=nr rfl
theorem bnd_ite(c:Prop)[Decidable c](a b:Mo α)(f:α->Mo β):Gs (if c then a else b) f=if c then Gs a f else Gs b f:=by split<;>rfl
theorem bnd_opt(o:Option α)(k:α->Mo β)(f:β->Mo γ):Gs (aV o k) f=aV o fun a=>Gs (k a) f:=by cases o<;>rfl
theorem opt_some(a:α)(k:α->Mo β):aV (some a) k=k a:=nr rfl
theorem opt_none(k:α->Mo β):aV none k=stk:=nr rfl
theorem ah{P:Prop}(h:P)(m:Mo α):Ge P m=m:=by funext Q;exact propext ⟨fun z=>z.2,fun z=>⟨h,z⟩⟩
theorem grd_T(m:Mo α):Ge True m=m:=ah trivial m
theorem fq(c:Prop)[Decidable c](a b:Mo α)(Q:α->Prop):(if c then a else b) Q=if c then a Q else b Q:=by split<;>rfl
theorem ai{m n:Mo α}(h:∀Q,m Q↔n Q):m=n:=funext fun Q=>propext (h Q)
end
noncomputable def asI:W->Option Int
 | .d (.int i)=>some i
 | _=>none
noncomputable def asB:W->Option Bool
 | .d (.bool b)=>some b
 | _=>none
noncomputable def asS:W->Option Str
 | .d (.str b)=>some b
 | _=>none
noncomputable def asD:W->Option HH
 | .d x=>some x
 | _=>none
noncomputable def lstD:HH->Option (List HH)
 | .list xs=>some xs
 | _=>none
noncomputable def tupD:HH->Option (List HH)
 | .tuple xs=>some xs
 | _=>none
noncomputable def Gz(w:W):Option (List HH):=w.dat.bind lstD
noncomputable def Gw(w:W):Option (List HH):=(asD w).bind tupD
noncomputable def Gy(w:W):Option (List HH):=w.dat.bind jm
noncomputable def EH:W->Option Int
 | .d (.int i)=>some i
 | .d (.bool b)=>some (if b then 1 else 0)
 | _=>none
noncomputable def DO:W->Option String
 | .vv (.ty T)=>some T
 | _=>none
noncomputable def wI:List HH->Option (List Bool)
 | []=>some []
 | .bool b::r=>(wI r).map (b :: ·)
 | _=>none
noncomputable def jP:List HH->Option (List Int)
 | []=>some []
 | .int b::r=>(jP r).map (b :: ·)
 | _=>none
theorem blsD_map:∀bs:List Bool,wI (bs.map .bool)=some bs
 | []=>rfl
 | b::bs=>by show(wI (bs.map .bool)).map (b :: ·)=_;rw[blsD_map bs];rfl
theorem qv:∀{xs:List HH}{bs:List Bool},wI xs=some bs->xs=bs.map .bool
 | [],bs,h=>by cases h;rfl
 | .bool b::r,bs,h=>by
   have h:(wI r).map (b :: ·)=some bs:=h
   cases q:wI r with
   | none=>rw[q]at h;cases h
   | some cs=>rw[q]at h;cases h;rw[qv q];rfl
 | .none::_,_,h=>by cases h
 | .int _::_,_,h=>by cases h
 | .str _::_,_,h=>by cases h
 | .list _::_,_,h=>by cases h
 | .tuple _::_,_,h=>by cases h
 | .dict _::_,_,h=>by cases h
theorem intsD_map:∀bs:List Int,jP (bs.map .int)=some bs
 | []=>rfl
 | b::bs=>by show(jP (bs.map .int)).map (b :: ·)=_;rw[intsD_map bs];rfl
theorem lN:∀{xs:List HH}{bs:List Int},jP xs=some bs->xs=bs.map .int
 | [],bs,h=>by cases h;rfl
 | .int b::r,bs,h=>by
   have h:(jP r).map (b :: ·)=some bs:=h
   cases q:jP r with
   | none=>rw[q]at h;cases h
   | some cs=>rw[q]at h;cases h;rw[lN q];rfl
 | .none::_,_,h=>by cases h
 | .bool _::_,_,h=>by cases h
 | .str _::_,_,h=>by cases h
 | .list _::_,_,h=>by cases h
 | .tuple _::_,_,h=>by cases h
 | .dict _::_,_,h=>by cases h
theorem asI_d(i:Int):asI (.d (.int i))=some i:=rfl
theorem asB_d(i:Bool):asB (.d (.bool i))=some i:=rfl
theorem asS_d(i:Str):asS (.d (.str i))=some i:=rfl
theorem asD_d(i:HH):asD (.d i)=some i:=rfl
theorem asT_d(x:HH):Gw (.d x)=tupD x:=rfl
theorem asL_d(x:HH):Gz (.d x)=lstD x:=rfl
theorem asL_ml(x:List HH):Gz (.ml x)=some x:=rfl
theorem asL_pk(x:List HH):Gz (.pk x)=some x:=rfl
theorem asQ_d(x:HH):Gy (.d x)=jm x:=rfl
theorem asQ_ml(x:List HH):Gy (.ml x)=some x:=rfl
theorem asQ_pk(x:List HH):Gy (.pk x)=some x:=rfl
theorem lstD_l(x:List HH):lstD (.list x)=some x:=rfl
theorem tupD_t(x:List HH):tupD (.tuple x)=some x:=rfl
theorem toI_i(i:Int):EH (.d (.int i))=some i:=rfl
theorem toI_b(i:Bool):EH (.d (.bool i))=some (if i then 1 else 0):=rfl
theorem isiT_t(T:String):DO (.vv (.ty T))=some T:=rfl
theorem cJ{w:W}{i:Int}:asI w=some i↔w = .d (.int i):=by
 constructor
 · intro h;unfold asI at h;split at h<;>simp_all
 · rintro rfl;rfl
theorem mv{w:W}{i:Bool}:asB w=some i↔w = .d (.bool i):=by
 constructor
 · intro h;unfold asB at h;split at h<;>simp_all
 · rintro rfl;rfl
theorem uj{w:W}{i:Str}:asS w=some i↔w = .d (.str i):=by
 constructor
 · intro h;unfold asS at h;split at h<;>simp_all
 · rintro rfl;rfl
theorem gM{w:W}{i:HH}:asD w=some i↔w = .d i:=by
 constructor
 · intro h;unfold asD at h;split at h<;>simp_all
 · rintro rfl;rfl
theorem Bo{w:HH}{i:List HH}:lstD w=some i↔w = .list i:=by
 constructor
 · intro h;unfold lstD at h;split at h<;>simp_all
 · rintro rfl;rfl
theorem uK{w:HH}{i:List HH}:tupD w=some i↔w = .tuple i:=by
 constructor
 · intro h;unfold tupD at h;split at h<;>simp_all
 · rintro rfl;rfl
theorem ui{w:W}{i:List HH}:Gw w=some i↔w = .d (.tuple i):=by
 constructor
 · intro h
   unfold Gw at h
   cases q:asD w with
   | none=>rw[q]at h;cases h
   | some x=>rw[q]at h;rw[gM.mp q,uK.mp h]
 · rintro rfl;rfl
theorem qz{w:W}{i:List HH}:Gz w=some i↔w.dat=some (.list i):=by
 unfold Gz
 constructor
 · intro h
   cases q:w.dat with
   | none=>rw[q]at h;cases h
   | some x=>rw[q]at h;rw[Bo.mp h]
 · intro h;rw[h];rfl
theorem ar{o:Option α}{k:α->Mo β}{Q:β->Prop}:aV o k Q↔∃a,o=some a/\k a Q:=by
 cases o with
 | none=>exact⟨fun z=>z.elim,fun⟨_,z,_⟩=>by cases z⟩
 | some a=>exact⟨fun z=>⟨a,rfl,z⟩,fun⟨_,e,z⟩=>by cases e;exact z⟩
section
variable{fa fb fc:TV}{fs:GF}{f g:TB}{ρ:En}{t u:GG}
theorem m_vC(x:HH):vC x ρ=ret (.d x):=nr rfl
theorem m_vVar(i:Nat):uC i ρ=aV ((ρ[i]?).join) fun w=>ret w.peek:=by
 refine ai fun Q=>?_
 rw[ar]
 constructor
 · rintro⟨w,e,q⟩;exact⟨w,by rw[e];rfl,q⟩
 · rintro⟨w,e,q⟩
   refine⟨w,?_,q⟩
   cases h:ρ[i]? with
   | none=>rw[h]at e;cases e
   | some o=>rw[h]at e;cases o with
     | none=>cases e
     | some x=>cases e;rfl
theorem m_vNil:sU ρ=ret []:=nr rfl
theorem m_vCons{f:TV}:jv f fs ρ=Gs (f ρ) fun w=>Gs (fs ρ) fun ws=>ret (w.fz::ws):=nr rfl
theorem m_vOp(h:W->W->(W->Prop)->Prop):Ez h fa fb ρ=Gs (fa ρ) fun x=>Gs (fb ρ) fun y=>h x y:=nr rfl
theorem m_gI(C:Int->Int->Prop)(h:Int->Int->HH)(x y:W):gI C h x y=aV (asI x) fun i=>aV (asI y) fun j=>Ge (C i j) (ret (.d (h i j))):=by
 refine ai fun Q=>?_
 simp only[ar,cJ,gI,Ge,ret]
 exact⟨fun⟨i,j,a,b,c,q⟩=>⟨i,a,j,b,c,q⟩,fun⟨i,a,j,b,c,q⟩=>⟨i,j,a,b,c,q⟩⟩
theorem m_gI0(h:Int->Int->HH)(x y:W):Gj h x y=aV (asI x) fun i=>aV (asI y) fun j=>ret (.d (h i j)):=by
 refine ai fun Q=>?_
 simp only[ar,cJ,Gj,ret]
 exact⟨fun⟨i,j,a,b,q⟩=>⟨i,a,j,b,q⟩,fun⟨i,a,j,b,q⟩=>⟨i,j,a,b,q⟩⟩
theorem m_vNeg:AB fa ρ=Gs (fa ρ) fun x=>aV (asI x) fun i=>ret (.d (.int (-i))):=by
 refine ai fun Q=>?_
 simp only[AB,Gs,ar,cJ,ret]
theorem m_vTest{f:TV}:nO f ρ=Gs (f ρ) fun w=>aV (asB w) ret:=by
 refine ai fun Q=>?_
 simp only[nO,Gs,ar,mv,ret]
theorem m_gEqD(neg:Bool)(x y:W):By neg x y=aV x.dat fun dx=>aV y.dat fun dy=>Ge (IW dx=true) (Ge (IW dy=true) (ret (.d (.bool (if neg then !IB dx dy else IB dx dy))))):=by
 refine ai fun Q=>?_
 simp only[ar,By,Ge,ret]
 exact⟨fun⟨i,j,a,b,c,d,q⟩=>⟨i,a,j,b,c,d,q⟩,fun⟨i,a,j,b,c,d,q⟩=>⟨i,j,a,b,c,d,q⟩⟩
theorem m_vAnd:AG f g ρ=Gs (f ρ) fun b=>if b=true then g ρ else ret false:=by
 refine ai fun Q=>?_
 simp only[AG,Gs,fq,ret]
theorem m_vOr:Ey f g ρ=Gs (f ρ) fun b=>if b=true then ret true else g ρ:=by
 refine ai fun Q=>?_
 simp only[Ey,Gs,fq,ret]
theorem m_vNot:CU f ρ=Gs (f ρ) fun b=>ret (!b):=nr rfl
theorem m_vAndV:uG fa fb ρ=Gs (fa ρ) fun w=>aV (asB w) fun b=>if b=true then fb ρ else ret (.d (.bool false)):=by
 refine ai fun Q=>?_
 simp only[uG,Gs,ar,mv,fq,ret]
theorem m_vOrV:AA fa fb ρ=Gs (fa ρ) fun w=>aV (asB w) fun b=>if b=true then ret (.d (.bool true))else fb ρ:=by
 refine ai fun Q=>?_
 simp only[AA,Gs,ar,mv,fq,ret]
theorem m_vNotV:uD fa ρ=Gs (fa ρ) fun w=>aV (asB w) fun b=>ret (.d (.bool (!b))):=by
 refine ai fun Q=>?_
 simp only[uD,Gs,ar,mv,ret]
theorem m_vIf{t:TB}:EA t fa fb ρ=Gs (t ρ) fun c=>if c=true then fa ρ else fb ρ:=by
 refine ai fun Q=>?_
 simp only[EA,Gs,fq]
theorem m_vTup:Aw fs ρ=Gs (fs ρ) fun ws=>aV (gS ws) fun ds=>Ge (ds.length<=sizeLine) (ret (.d (.tuple ds))):=by
 refine ai fun Q=>?_
 simp only[Aw,Gs,ar,Ge,ret]
theorem m_vLst:zY fs ρ=Gs (fs ρ) fun ws=>aV (gS ws) fun ds=>Ge (ds.length<=sizeLine) (ret (.ml ds)):=by
 refine ai fun Q=>?_
 simp only[zY,Gs,ar,Ge,ret]
theorem m_gIx(x y:W):Gh x y=aV x.dat fun dx=>aV (asI y) fun i=>aV (itemAt dx i) fun z=>ret (.d z):=by
 refine ai fun Q=>?_
 simp only[Gh,ar,cJ,ret]
 exact⟨fun⟨i,j,z,a,b,c,q⟩=>⟨i,a,j,b,z,c,q⟩,fun⟨i,a,j,b,z,c,q⟩=>⟨i,j,z,a,b,c,q⟩⟩
theorem m_vCall(h:List W->(W->Prop)->Prop):dY h fs ρ=Gs (fs ρ) h:=nr rfl
theorem m_gAbs(w:W):Ai [w]=aV (asI w) fun i=>ret (.d (.int (if i<0 then -i else i))):=by
 refine ai fun Q=>?_
 simp only[Ai,ar,cJ,ret,Jp,and_true]
theorem m_gLen(w:W):Ac [w]=aV w.dat fun d=>aV (qE d) fun n=>ret (.d (.int n)):=by
 refine ai fun Q=>?_
 simp only[Ac,ar,ret,Jp,and_true]
 exact⟨fun⟨w',d,n,e,a,b,q⟩=>by subst e;exact⟨d,a,n,b,q⟩,fun⟨d,a,n,b,q⟩=>⟨w,d,n,rfl,a,b,q⟩⟩
theorem m_gRepr(w:W):sr [w]=aV w.dat fun d=>Ge (GS d) (ret (.d (.str d.shown))):=by
 refine ai fun Q=>?_
 simp only[sr,ar,ret,Ge,Jp,and_true]
 exact⟨fun⟨w',d,e,a,b,q⟩=>by subst e;exact⟨d,a,b,q⟩,fun⟨d,a,b,q⟩=>⟨w,d,rfl,a,b,q⟩⟩
theorem m_gTupO(w:W):sj [w]=aV (Gy w) fun xs=>ret (.d (.tuple xs)):=by
 refine ai fun Q=>?_
 simp only[sj,ar,ret,Jp,and_true]
 constructor
 · rintro⟨w',d,xs,e,a,b,q⟩;subst e;exact⟨xs,by unfold Gy;rw[a];exact b,q⟩
 · rintro⟨xs,e,q⟩
   unfold Gy at e
   cases h:w.dat with
   | none=>rw[h]at e;cases e
   | some d=>rw[h]at e;exact⟨w,d,xs,rfl,h,e,q⟩
theorem m_gLstO(w:W):sv [w]=aV (Gy w) fun xs=>ret (.ml xs):=by
 refine ai fun Q=>?_
 simp only[sv,ar,ret,Jp,and_true]
 constructor
 · rintro⟨w',d,xs,e,a,b,q⟩;subst e;exact⟨xs,by unfold Gy;rw[a];exact b,q⟩
 · rintro⟨xs,e,q⟩
   unfold Gy at e
   cases h:w.dat with
   | none=>rw[h]at e;cases e
   | some d=>rw[h]at e;exact⟨w,d,xs,rfl,h,e,q⟩
theorem m_gI2(h:Int->Int->HH)(x y:W):Gi h [x,y]=aV (asI x) fun i=>aV (asI y) fun j=>ret (.d (h i j)):=by
 refine ai fun Q=>?_
 simp only[ar,cJ,Gi,ret,Jp,and_true]
 exact⟨fun⟨i,j,⟨a,b⟩,q⟩=>⟨i,a,j,b,q⟩,fun⟨i,a,j,b,q⟩=>⟨i,j,⟨a,b⟩,q⟩⟩
theorem xI{w:W}{i:Int}:EH w=some i↔(w = .d (.int i)\/∃b:Bool,w = .d (.bool b)/\i=if b then 1 else 0):=by
 constructor
 · intro h
   unfold EH at h
   split at h
   · cases h;exact .inl rfl
   · cases h;exact .inr ⟨_,rfl,rfl⟩
   · cases h
 · rintro(rfl|⟨b,rfl,rfl⟩)<;>rfl
theorem m_gInt1(w:W):sw [w]=aV (EH w) fun i=>ret (.d (.int i)):=by
 refine ai fun Q=>?_
 simp only[ar,xI,sw,ret,Jp,and_true]
 constructor
 · rintro(⟨i,rfl,q⟩|⟨k,rfl,q⟩)
   · exact⟨i,.inl rfl,q⟩
   · exact⟨_,.inr ⟨k,rfl,rfl⟩,q⟩
 · rintro⟨i,rfl|⟨b,rfl,rfl⟩,q⟩
   · exact .inl ⟨i,rfl,q⟩
   · exact .inr ⟨b,rfl,q⟩
theorem m_oNo:Fv ρ=ret none:=nr rfl
theorem m_oIt:Fw fa ρ=Gs (fa ρ) fun w=>aV (asI w) fun i=>ret (some i):=by
 refine ai fun Q=>?_
 simp only[Fw,Gs,ar,cJ,ret]
theorem m_vSlL{fl fh:GI}:CP fa fl fh ρ=Gs (fa ρ) fun w=>Gs (fl ρ) fun l=>Gs (fh ρ) fun h=>aV (Gz w) fun xs=>ret (.ml (cutD xs l h)):=by
 refine ai fun Q=>?_
 simp only[CP,Gs,ar,qz,ret]
theorem m_vSlA{fl fh:GI}:Ay fa fl fh ρ=Gs (fa ρ) fun w=>Gs (fl ρ) fun l=>Gs (fh ρ) fun h=>aV (Gw w) fun xs=>ret (.d (.tuple (cutD xs l h))):=by
 refine ai fun Q=>?_
 simp only[Ay,Gs,ar,ui,ret]
theorem m_gCatD(x y:W):sy x y=aV (Gz x) fun xs=>aV (Gz y) fun ys=>Ge (xs.length+ys.length<=sizeLine) (ret (.ml (xs++ys))):=by
 refine ai fun Q=>?_
 simp only[sy,ar,qz,Ge,ret]
 exact⟨fun⟨i,j,a,b,c,q⟩=>⟨i,a,j,b,c,q⟩,fun⟨i,a,j,b,c,q⟩=>⟨i,j,a,b,c,q⟩⟩
theorem m_gCatA(x y:W):sA x y=aV (Gw x) fun xs=>aV (Gw y) fun ys=>Ge (xs.length+ys.length<=sizeLine) (ret (.d (.tuple (xs++ys)))):=by
 refine ai fun Q=>?_
 simp only[sA,ar,ui,Ge,ret]
 exact⟨fun⟨i,j,a,b,c,q⟩=>⟨i,a,j,b,c,q⟩,fun⟨i,a,j,b,c,q⟩=>⟨i,j,a,b,c,q⟩⟩
theorem m_vChain(p p':Int->Int->Bool):sW p p' fa fb fc ρ=Gs (fa ρ) fun x=>Gs (fb ρ) fun y=>aV (asI x) fun i=>aV (asI y) fun j=>if p i j=true then Gs (fc ρ) fun z=>aV (asI z) fun k=>ret (.d (.bool (p' j k)))else ret (.d (.bool false)):=by
 show(Gs (fa ρ) fun x=>Gs (fb ρ) fun y=>fun(Q:W->Prop)=>∃i j,x = .d (.int i)/\y = .d (.int j)/\if p i j=true then fc ρ fun z=>∃k,z = .d (.int k)/\Q (.d (.bool (p' j k)))else Q (.d (.bool false)))=_
 congr 1;funext x;congr 1;funext y
 refine ai fun Q=>?_
 simp only[Gs,ar,cJ,ret,fq]
 exact⟨fun⟨i,j,a,b,q⟩=>⟨i,a,j,b,q⟩,fun⟨i,a,j,b,q⟩=>⟨i,j,a,b,q⟩⟩
theorem m_vLR1:CV fs ρ=Gs (fs ρ) fun ws=>aV (ws.head?.bind asI) fun j=>Ge (ws.length=1) (Ge (-(2^62)<=j/\j<2^62) (Ge (j.toNat<=2^24) (ret (.ml (bi 0 j.toNat))))):=by
 show(Gs (fs ρ) fun ws=>fun(Q:W->Prop)=>∃j:Int,ws=[.d (.int j)]/\(-(2^62)<=j/\j<2^62)/\j.toNat<=2^24/\Q (.ml (bi 0 j.toNat)))=_
 congr 1;funext ws
 refine ai fun Q=>?_
 simp only[ar,Ge,ret]
 constructor
 · rintro⟨j,rfl,a,b,q⟩;exact⟨j,rfl,rfl,a,b,q⟩
 · rintro⟨j,e,l,a,b,q⟩
   match ws,l with
   | [w],_=>rw[show w = .d (.int j)from cJ.mp e];exact⟨j,rfl,a,b,q⟩
noncomputable def two(ws:List W):Option (Int×Int):=match ws with
 | [a,b]=>(asI a).bind fun i=>(asI b).map fun j=>(i,j)
 | _=>none
theorem two_d(a b:Int):two [.d (.int a),.d (.int b)]=some (a,b):=rfl
theorem m_iL:iL fa ρ=Gs (fa ρ) fun w=>aV ((asD w.fz).bind lstD) ret:=by
 show(Gs (fa ρ) fun w=>fun(Q:List HH->Prop)=>∃xs,w.fz = .d (.list xs)/\Q xs)=_
 congr 1;funext w
 refine ai fun Q=>?_
 simp only[ar,ret]
 constructor
 · rintro⟨xs,e,q⟩;exact⟨xs,by rw[e];rfl,q⟩
 · rintro⟨xs,e,q⟩
   cases h:asD w.fz with
   | none=>rw[h]at e;cases e
   | some x=>rw[h]at e;rw[gM.mp h,Bo.mp e];exact⟨xs,rfl,q⟩
theorem m_iT:iT fa ρ=Gs (fa ρ) fun w=>aV ((asD w.fz).bind tupD) ret:=by
 show(Gs (fa ρ) fun w=>fun(Q:List HH->Prop)=>∃xs,w.fz = .d (.tuple xs)/\Q xs)=_
 congr 1;funext w
 refine ai fun Q=>?_
 simp only[ar,ret]
 constructor
 · rintro⟨xs,e,q⟩;exact⟨xs,by rw[e];rfl,q⟩
 · rintro⟨xs,e,q⟩
   cases h:asD w.fz with
   | none=>rw[h]at e;cases e
   | some x=>rw[h]at e;rw[gM.mp h,uK.mp e];exact⟨xs,rfl,q⟩
theorem m_iR1:Gb fs ρ=Gs (fs ρ) fun ws=>aV (ws.head?.bind asI) fun j=>Ge (ws.length=1) (Ge (-(2^62)<=j/\j<2^62) (ret (bi 0 j.toNat))):=by
 show(Gs (fs ρ) fun ws=>fun(Q:List HH->Prop)=>∃j:Int,ws=[.d (.int j)]/\(-(2^62)<=j/\j<2^62)/\Q (bi 0 j.toNat))=_
 congr 1;funext ws
 refine ai fun Q=>?_
 simp only[ar,Ge,ret]
 constructor
 · rintro⟨j,rfl,a,q⟩;exact⟨j,rfl,rfl,a,q⟩
 · rintro⟨j,e,l,a,q⟩
   match ws,l with
   | [w],_=>rw[show w = .d (.int j)from cJ.mp e];exact⟨j,rfl,a,q⟩
noncomputable def Dq(b1 b2:Bool)(ws:List W):Option (List HH):=match ws with
 | [.d x,.d y]=>if g_ x=b1/\g_ y=b2 then(jm x).bind fun xs=>(jm y).map fun ys=>Dr xs ys else none
 | _=>none
theorem m_vUse(Pd:List W->(HH->Prop)->Prop):Av Pd fs ρ=Gs (fs ρ) fun ws=>Ge (ws.all gN=true) (Gs (Pd ws) fun d=>ret (.d d)):=nr rfl
theorem m_gAll(h:List Bool->Bool)(w:W):Ah h [w]=aV ((Gz w).bind wI) fun bs=>ret (.d (.bool (h bs))):=by
 refine ai fun Q=>?_
 simp only[Ah,ar,ret,Jp,and_true]
 constructor
 · rintro⟨w',bs,rfl,e,q⟩;exact⟨bs,by rw[qz.mpr e];exact blsD_map bs,q⟩
 · rintro⟨bs,e,q⟩
   cases hl:Gz w with
   | none=>rw[hl]at e;cases e
   | some xs=>rw[hl]at e;refine⟨w,bs,rfl,?_,q⟩;rw[<- qv e];exact qz.mp hl
theorem m_gRepL(x y:W):su x y=aV (Gz x) fun xs=>aV (asI y) fun k=>Ge (-(2^63)<=k/\k<2^63/\xs.length*k.toNat<=sizeLine) (ret (.ml (IC k.toNat xs).flatten)):=by
 refine ai fun Q=>?_
 simp only[su,ar,qz,cJ,Ge,ret]
 exact⟨fun⟨i,j,a,b,c,d,e,q⟩=>⟨i,a,j,b,⟨c,d,e⟩,q⟩,fun⟨i,a,j,b,⟨c,d,e⟩,q⟩=>⟨i,j,a,b,c,d,e,q⟩⟩
theorem m_gEqS(neg:Bool)(x y:W):Ae neg x y=aV (asS x) fun i=>aV (asS y) fun j=>ret (.d (.bool (if neg then !decide (i=j)else decide (i=j)))):=by
 refine ai fun Q=>?_
 simp only[ar,uj,Ae,ret]
 exact⟨fun⟨i,j,a,b,q⟩=>⟨i,a,j,b,q⟩,fun⟨i,a,j,b,q⟩=>⟨i,j,a,b,q⟩⟩
end
inductive Fl where
 | nx (ρ:En)|rt (w:W)|bk (ρ:En)|ct (ρ:En)
noncomputable def mS(t:GG)(ρ:En):Mo Fl:=fun Q=>t ⟨fun ρ=>Q (.nx ρ),fun w=>Q (.rt w),fun ρ=>Q (.bk ρ),fun ρ=>Q (.ct ρ)⟩ ρ
noncomputable def sq(m:Mo Fl)(k:En->Mo Fl):Mo Fl:=Gs m fun fl=>match fl with
 | .nx ρ=>k ρ
 | .rt w=>ret (.rt w)
 | .bk ρ=>ret (.bk ρ)
 | .ct ρ=>ret (.ct ρ)
noncomputable def ww(Q:HH->Prop):Fl->Prop
 | .nx _=>Q .none
 | .rt w=>∃d,w.fz = .d d/\Q d
 | _=>False
section
variable{fa fb fc:TV}{fs:GF}{f g:TB}{ρ:En}{t u:GG}{k:En->Mo Fl}
theorem az{Q:HH->Prop}(h:mS t ρ (ww Q)):t (qS Q) ρ:=h
theorem end_d(Q:HH->Prop)(d:HH):ww Q (.rt (.d d))=Q d:=propext ⟨fun⟨_,e,q⟩=>by cases e;exact q,fun q=>⟨d,rfl,q⟩⟩
theorem end_ml(Q:HH->Prop)(d:List HH):ww Q (.rt (.ml d))=Q (.list d):=propext ⟨fun⟨_,e,q⟩=>by cases e;exact q,fun q=>⟨_,rfl,q⟩⟩
theorem end_nx(Q:HH->Prop)(ρ:En):ww Q (.nx ρ)=Q .none:=nr rfl
theorem sq_nx:sq (ret (.nx ρ)) k=k ρ:=nr rfl
theorem sq_rt(w:W):sq (ret (.rt w)) k=ret (.rt w):=nr rfl
theorem sq_bk:sq (ret (.bk ρ)) k=ret (.bk ρ):=nr rfl
theorem sq_ct:sq (ret (.ct ρ)) k=ret (.ct ρ):=nr rfl
theorem sq_grd(P:Prop)(m:Mo Fl):sq (Ge P m) k=Ge P (sq m k):=nr rfl
theorem sq_stk:sq stk k=stk:=nr rfl
theorem sq_ite(c:Prop)[Decidable c](a b:Mo Fl):sq (if c then a else b) k=if c then sq a k else sq b k:=by split<;>rfl
theorem xU(o:Option α)(h:α->Mo Fl):sq (aV o h) k=aV o fun a=>sq (h a) k:=by cases o<;>rfl
theorem s_next:mS xw ρ=ret (.nx ρ):=nr rfl
theorem s_seq:mS (CQ t u) ρ=sq (mS t ρ) (mS u):=by
 refine ai fun Q=>?_
 show t ⟨fun ρ=>u ⟨_,_,_,_⟩ ρ,_,_,_⟩ ρ↔_
 exact Mb
theorem s_ret:mS (CS fa) ρ=Gs (fa ρ) fun w=>ret (.rt w):=nr rfl
theorem s_ifS:mS (AC f t u) ρ=Gs (f ρ) fun b=>if b=true then mS t ρ else mS u ρ:=by
 refine ai fun Q=>?_
 simp only[mS,AC,Gs,fq]
theorem s_set(i:Nat):mS (Az i fa) ρ=Gs (fa ρ) fun w=>Ge (w.isPk=false) (ret (.nx (ρ.set i (some w)))):=nr rfl
theorem s_never:mS (fun _ _=>False) ρ=stk:=nr rfl
theorem m_hName(i:Nat)(x:HH):r_ i x ρ=ret (ρ.set i (some (.d x))):=nr rfl
theorem y_(xs:List HH):Bx xs ρ=Ge (xs=[]) (ret ρ):=nr rfl
theorem vY{g:GK}{gs:qJ}(xs:List HH):sa g gs xs ρ=aV (match xs with | []=>none|y::r=>some (y,r)) fun p=>Gs (g p.1 ρ) fun ρ'=>gs p.2 ρ':=by
 refine ai fun Q=>?_
 simp only[ar,sa,Gs]
 constructor
 · rintro⟨y,r,rfl,q⟩;exact⟨(y,r),rfl,q⟩
 · rintro⟨p,e,q⟩
   cases xs with
   | nil=>cases e
   | cons y r=>cases e;exact⟨y,r,rfl,q⟩
theorem m_hCons_c{g:GK}{gs:qJ}(y:HH)(r:List HH):sa g gs (y::r) ρ=Gs (g y ρ) fun ρ'=>gs r ρ':=by rw[vY];rfl
theorem m_hNil_n:Bx [] ρ=ret ρ:=by rw[y_,ah rfl]
theorem m_hTup(n:Nat){gs:qJ}(x:HH):Bw n gs x ρ=aV (tupD x) fun xs=>Ge (xs.length=n) (gs xs ρ):=by
 refine ai fun Q=>?_
 simp only[ar,uK,Bw,Ge]
theorem s_asg{g:GK}:mS (AF fa g) ρ=Gs (fa ρ) fun w=>aV (asD w) fun x=>Gs (g x ρ) fun ρ'=>ret (.nx ρ'):=by
 refine ai fun Q=>?_
 simp only[mS,AF,Gs,ar,gM,ret]
theorem s_par(i j:Nat):mS (CT i j fs) ρ=Gs (fs ρ) fun ws=>aV (gS ws) fun ds=>aV (match ds with | [x,y]=>some (x,y)|_=>none) fun p=>ret (.nx ((ρ.set i (some (.d p.1))).set j (some (.d p.2)))):=by
 show(Gs (fs ρ) fun ws=>fun(Q:Fl->Prop)=>∃x y,gS ws=some [x,y]/\Q (.nx ((ρ.set i (some (.d x))).set j (some (.d y)))))=_
 congr 1;funext ws
 refine ai fun Q=>?_
 simp only[ar,ret]
 constructor
 · rintro⟨x,y,e,q⟩;exact⟨_,e,(x,y),rfl,q⟩
 · rintro⟨ds,e,p,e2,q⟩
   split at e2
   · cases e2;exact⟨_,_,e,q⟩
   · cases e2
noncomputable def E9(ρ:En)(i:Nat):Option Int:=((ρ[i]?).join).bind asI
noncomputable def asM:W->Option (List HH)
 | .ml xs=>some xs
 | _=>none
noncomputable def E8(ρ:En)(i:Nat):Option (List HH):=((ρ[i]?).join).bind asM
theorem asM_ml(xs:List HH):asM (.ml xs)=some xs:=rfl
theorem Dh{w:W}:asM w=some xs↔w = .ml xs:=by
 constructor
 · intro h;unfold asM at h;split at h<;>simp_all
 · rintro rfl;rfl
theorem oh:E8 ρ i=some xs↔ρ[i]?=some (some (.ml xs)):=by
 unfold E8
 constructor
 · intro h
   cases q:ρ[i]? with
   | none=>rw[q]at h;cases h
   | some o=>rw[q]at h;cases o with
     | none=>cases h
     | some w=>rw[Dh.mp h]
 · intro h;rw[h];rfl
theorem x6{n:Int}:E9 ρ i=some n↔ρ[i]?=some (some (.d (.int n))):=by
 unfold E9
 constructor
 · intro h
   cases q:ρ[i]? with
   | none=>rw[q]at h;cases h
   | some o=>rw[q]at h;cases o with
     | none=>cases h
     | some w=>rw[cJ.mp h]
 · intro h;rw[h];rfl
theorem s_aug(i:Nat)(C:Int->Int->Prop)(h:Int->Int->Int):mS (AE i C h fa) ρ=aV (E9 ρ i) fun n=>Gs (fa ρ) fun w=>aV (asI w) fun m=>Ge (C n m) (ret (.nx (ρ.set i (some (.d (.int (h n m))))))):=by
 refine ai fun Q=>?_
 simp only[mS,AE,Gs,ar,x6,cJ,Ge,ret]
theorem s_frz(i:Nat):mS (AD i t) ρ=aV (E8 ρ i) fun xs=>mS t (ρ.set i (some (.d (.list xs)))):=by
 refine ai fun Q=>?_
 simp only[mS,AD,ar,oh]
theorem s_mut(i:Nat)(h:List HH->List W->(List HH->Prop)->Prop):mS (xy i h fs) ρ=aV (E8 ρ i) fun xs=>Gs (fs ρ) fun ws=>Gs (h xs ws) fun ys=>ret (.nx (ρ.set i (some (.ml ys)))):=by
 refine ai fun Q=>?_
 simp only[mS,xy,Gs,ar,oh,ret]
theorem m_gApp(xs:List HH)(w:W):Ag xs [w]=aV (asD w) fun x=>Ge (xs.length<sizeLine) (ret (xs++[x])):=by
 refine ai fun Q=>?_
 simp only[Ag,ar,gM,Ge,ret]
 constructor
 · rintro⟨x,e,a,q⟩
   cases w<;>first|(cases e;exact⟨_,rfl,a,q⟩)|cases e
 · rintro⟨x,rfl,a,q⟩;exact⟨x,rfl,a,q⟩
end
noncomputable def Le(a b:En):Prop:=a.length=b.length/\∀(i:Nat) w,a[i]?=some (some w)->b[i]?=some (some w)
theorem Le.refl(a:En):Le a a:=⟨rfl,fun _ _ h=>h⟩
theorem Le.trans{a b c:En}(h:Le a b)(h':Le b c):Le a c:=⟨h.1.trans h'.1,fun i w e=>h'.2 i w (h.2 i w e)⟩
theorem le_nil:Le [] []=True:=propext ⟨fun _=>trivial,fun _=>Le.refl _⟩
theorem le_cn(x:Option W)(a b:En):Le (none::a) (x::b)=Le a b:=by
 refine propext ⟨fun h=>⟨by have:=h.1;simpa using this,fun i w e=>by have:=h.2 (i+1) w (by simpa using e);simpa using this⟩,fun h=>⟨by simp[h.1],fun i w e=>?_⟩⟩
 cases i with
 | zero=>simp at e
 | succ i=>simpa using h.2 i w (by simpa using e)
theorem le_cs(x:Option W)(a b:En):Le (x::a) (x::b)=Le a b:=by
 refine propext ⟨fun h=>⟨by have:=h.1;simpa using this,fun i w e=>by have:=h.2 (i+1) w (by simpa using e);simpa using this⟩,fun h=>⟨by simp[h.1],fun i w e=>?_⟩⟩
 cases i with
 | zero=>simpa using e
 | succ i=>simpa using h.2 i w (by simpa using e)
theorem VR.le{K:W.Frag}{ρ0:En}(R:VR K rl F₀ H₀ F H σ ρ)(h:Le ρ0 ρ):VR K rl F₀ H₀ F H σ ρ0 :=
 ⟨R.g,fun i w e=>R.sl i w (h.2 i w e),fun i j x y v n e1 e2=>R.ap i j x y v n (h.2 i x e1) (h.2 j y e2),fun i xs e=>R.np i xs (h.2 i _ e),h.1.trans R.len⟩
noncomputable def fo:List Nat->En->En
 | [],ρ=>ρ
 | i::l,ρ=>fo l (ρ.set i none)
theorem zg(ρ:En)(i:Nat):Le (ρ.set i none) ρ:=by
 refine⟨by simp,fun j w e=>?_⟩
 rw[Jw]at e
 split at e
 · split at e
   · cases e
   · cases e
 · exact e
theorem i5:∀(l:List Nat)(ρ:En),Le (fo l ρ) ρ
 | [],ρ=>Le.refl ρ
 | i::l,ρ=>(i5 l (ρ.set i none)).trans (zg ρ i)
theorem fo_nil(ρ:En):fo [] ρ=ρ:=rfl
theorem fo_cons(i:Nat)(l:List Nat)(ρ:En):fo (i::l) ρ=fo l (ρ.set i none):=rfl
noncomputable def dg(fl:List Nat)(g:GK)(t:GG):List HH->GG
 | [],D,ρ=>D.nx ρ
 | x::xs,D,ρ=>g x ρ fun ρ2=>t {D with nx:=fun ρ'=>dg fl g t xs D (fo fl ρ'),ct:=fun ρ'=>dg fl g t xs D (fo fl ρ'),bk:=fun ρ'=>D.nx (fo fl ρ')} ρ2
noncomputable def xA(fl:List Nat)(fi:En->(List HH->Prop)->Prop)(g:GK)(t:GG):GG:=fun D ρ=>fi ρ fun xs=>dg fl g t xs D (fo fl ρ)
section
variable{X:Cx}{rl:RlT}{st:Stmt}{rest body:List Stmt}{t u:GG}{a b c e:Expr}{es:List Expr}{fa fb:TV}{fs:GF}{f:TB}{pos p:Pos}
theorem b_(fl:List Nat){g:GK}(hp:NP (IH X.prog X.w) X.A X.env X.xe)(hc:X.calm=true)(hi:G4 X rl tg iter fi)(hg:G7 X rl tg g)(hb:mC X rl body t)
 (hs:∀x,Iz iter X.env x=pure x:=by intro _;rfl):GZ X rl (.For tg iter body [] pos) (xA fl fi g t):=by
 obtain⟨wi,p0,k0⟩:=hi
 obtain⟨G,p1,k1⟩:=hg
 obtain⟨T,p2,k2⟩:=hb
 refine⟨_,tG hp hc p0 p1 p2 hs,fun{F₀ H₀ F H σ ρ} R Dv D ok q=>k0 R _ _ q fun J xs F1 H1 g1 vi q1=>?_⟩
 refine⟨fun i m σ H=>m=xs.length-i/\i<=xs.length/\∃F ρ,bF F1 F/\VR X.K rl F₀ H₀ F H σ ρ/\dg fl g t (xs.drop i) Dv ρ,⟨xs.length,by simp,Ix _,F1,fo fl ρ,.refl _,(R.grow g1).le (i5 fl ρ),by simpa using q1⟩,?_⟩
 rintro i m σ H ⟨rfl,hi,F2,ρ2,s2,R2,j2⟩
 have sH:bF F1 H:=s2.trans R2.sub
 by_cases hlt:i<xs.length
 · have ei:xs[i]?=some xs[i]:=by simp[hlt]
   rw[Jx hlt]at j2
   refine .inr ⟨vi.go i H _ ei sH,fun σ' H'=>∃F ρ,bF F1 F/\VR X.K rl F₀ H₀ F H' σ' ρ/\dg fl g t (xs.drop (i+1)) Dv ρ,fun σ' H' z=>⟨xs.length-(i+1),by omega,rfl,hlt,z⟩,fun v H' y=>?_⟩
   obtain⟨Fy,gy,rv⟩:=vi.yld i H v H' _ F2 ei s2 R2.sub R2.reel y
   refine k1 (R2.grow gy) v _ _ _ rv j2 fun F3 H3 σ3 ρ3 s3 n3 R3 q3=>?_
   have s13:bF F1 F3:=s2.trans (gy.fs.trans s3.fs)
   exact k2 R3 {Dv with nx:=fun ρ'=>dg fl g t (xs.drop (i+1)) Dv (fo fl ρ'),ct:=fun ρ'=>dg fl g t (xs.drop (i+1)) Dv (fo fl ρ'),bk:=fun ρ'=>Dv.nx (fo fl ρ')} _
    ⟨fun F4 H4 σ4 ρ4 s4 R4 q4=>⟨F4,fo fl ρ4,s13.trans s4,R4.le (i5 fl ρ4),q4⟩,ok.rt,fun F4 H4 σ4 ρ4 s4 R4 q4=>ok.nx _ _ _ _ (g1.fs.trans (s13.trans s4)) (R4.le (i5 fl ρ4)) q4,fun F4 H4 σ4 ρ4 s4 R4 q4=>⟨F4,fo fl ρ4,s13.trans s4,R4.le (i5 fl ρ4),q4⟩⟩ q3
 · have e:i=xs.length:=by omega
   subst e
   rw[Ks]at j2
   exact .inl ⟨vi.stop _ H (HX _) sH,ok.nx _ _ _ _ (g1.fs.trans s2) R2 j2⟩
noncomputable def Ev(fl:List Nat)(f:TB)(t:GG)(m:Nat):GG:=fun D ρ=>f ρ fun b=>if b=true then t {D with nx:=fun ρ'=>∃k,∃h:k<m,Ev fl f t k D (fo fl ρ'),ct:=fun ρ'=>∃k,∃h:k<m,Ev fl f t k D (fo fl ρ'),bk:=fun ρ'=>D.nx (fo fl ρ')} ρ else D.nx ρ
termination_by m
noncomputable def nN(fl:List Nat)(f:TB)(t:GG):GG:=fun D ρ=>∃m,Ev fl f t m D (fo fl ρ)
theorem sT(fl:List Nat)(f:TB)(t:GG)(m:Nat)(D:VEnds)(ρ:En):Ev fl f t m D ρ=f ρ fun b=>if b=true then t {D with nx:=fun ρ'=>∃k,∃h:k<m,Ev fl f t k D (fo fl ρ'),ct:=fun ρ'=>∃k,∃h:k<m,Ev fl f t k D (fo fl ρ'),bk:=fun ρ'=>D.nx (fo fl ρ')} ρ else D.nx ρ:=by
 conv=>lhs;unfold Ev
theorem jo(fl:List Nat)(hp:NP (IH X.prog X.w) X.A X.env X.xe)(hc:PB X rl c f)(hb:mC X rl body t):GZ X rl (.While c body [] pos) (nN fl f t):=by
 obtain⟨t0,p0,k0⟩:=hc
 obtain⟨t1,p1,k1⟩:=hb
 refine⟨_,rC hp p0 p1,fun{F₀ H₀ F H σ ρ} R Dv D ok q=>?_⟩
 obtain⟨m,j0⟩:=q
 refine⟨fun m σ' H'=>∃F' ρ',bF F F'/\VR X.K rl F₀ H₀ F' H' σ' ρ'/\Ev fl f t m Dv ρ',⟨m,F,fo fl ρ,.refl _,R.le (i5 fl ρ),j0⟩,?_⟩
 rintro m σ2 H2 ⟨F2,ρ2,s2,R2,j⟩
 rw[sT]at j
 refine k0 R2 _ _ j fun b F1 H1 g1 q1=>?_
 cases b with
 | false=>exact ok.nx _ _ _ _ (s2.trans g1.fs) (R2.grow g1) q1
 | true =>
   refine⟨fun σ' H'=>∃F' ρ',bF F F'/\VR X.K rl F₀ H₀ F' H' σ' ρ'/\∃m',m'<m/\Ev fl f t m' Dv ρ',fun σ' H' ⟨F',ρ',s',R',m',hm,j⟩=>⟨m',hm,F',ρ',s',R',j⟩,?_⟩
   exact k1 (R2.grow g1) {Dv with nx:=fun ρ'=>∃k,∃h:k<m,Ev fl f t k Dv (fo fl ρ'),ct:=fun ρ'=>∃k,∃h:k<m,Ev fl f t k Dv (fo fl ρ'),bk:=fun ρ'=>Dv.nx (fo fl ρ')} _
    ⟨fun F3 H3 σ3 ρ3 s3 R3 ⟨m',hm,q3⟩=>⟨F3,fo fl ρ3,(s2.trans g1.fs).trans s3,R3.le (i5 fl ρ3),m',hm,q3⟩,ok.rt,fun F3 H3 σ3 ρ3 s3 R3 q3=>ok.nx _ _ _ _ ((s2.trans g1.fs).trans s3) (R3.le (i5 fl ρ3)) q3,fun F3 H3 σ3 ρ3 s3 R3 ⟨m',hm,q3⟩=>⟨F3,fo fl ρ3,(s2.trans g1.fs).trans s3,R3.le (i5 fl ρ3),m',hm,q3⟩⟩ q1
end
noncomputable def FR(fl:List Nat)(k:En->Mo Fl):Fl->Mo Fl
 | .nx ρ=>k (fo fl ρ)
 | .ct ρ=>k (fo fl ρ)
 | .bk ρ=>ret (.nx (fo fl ρ))
 | .rt w=>ret (.rt w)
noncomputable def fG(fl:List Nat)(b:HH->En->Mo Fl):List HH->En->Mo Fl
 | [],ρ=>ret (.nx ρ)
 | x::xs,ρ=>Gs (b x ρ) (FR fl (fG fl b xs))
theorem pA(fl:List Nat)(g:GK)(t:GG):∀(xs:List HH)(ρ:En),mS (dg fl g t xs) ρ=fG fl (fun x ρ=>Gs (g x ρ) (mS t)) xs ρ
 | [],ρ=>rfl
 | x::xs,ρ=>by
   refine ai fun Q=>?_
   show(g x ρ fun ρ2=>t ⟨fun ρ'=>mS (dg fl g t xs) (fo fl ρ') Q,fun w=>Q (.rt w),fun ρ'=>Q (.nx (fo fl ρ')),fun ρ'=>mS (dg fl g t xs) (fo fl ρ') Q⟩ ρ2)↔_
   simp only[pA fl g t xs]
   exact Mb
noncomputable def Gv(g:GK)(t:GG):HH->En->Mo Fl:=fun x ρ=>Gs (g x ρ) (mS t)
theorem bdy_ap(g:GK)(t:GG)(x:HH)(ρ:En):Gv g t x ρ=Gs (g x ρ) (mS t):=nr rfl
theorem s_for(fl:List Nat)(fi:En->(List HH->Prop)->Prop)(g:GK)(t:GG)(ρ:En):mS (xA fl fi g t) ρ=Gs (fi ρ) fun xs=>fG fl (Gv g t) xs (fo fl ρ):=by
 refine ai fun Q=>?_
 show(fi ρ fun xs=>mS (dg fl g t xs) (fo fl ρ) Q)↔_
 simp only[pA]
 exact Mb
noncomputable def FQ(fl:List Nat)(J:En->Prop)(Q:Fl->Prop):Fl->Prop
 | .nx ρ=>J (fo fl ρ)
 | .ct ρ=>J (fo fl ρ)
 | .bk ρ=>Q (.nx (fo fl ρ))
 | .rt w=>Q (.rt w)
section
variable{α σ:Type}{fl:List Nat}{b:HH->En->Mo Fl}
theorem lI(J:Nat->En->Prop){Q:Fl->Prop}:∀{xs:List HH}{ρ:En}(n:Nat),J n ρ->(∀i x ρ,xs[i]?=some x->J (n+i) ρ->∀k:Fl->Prop,(∀r,FQ fl (J (n+i+1)) Q r->k r)->b x ρ k)->(∀ρ,J (n+xs.length) ρ->Q (.nx ρ))->fG fl b xs ρ Q
 | [],ρ,n,h0,_,fin=>fin ρ h0
 | x::xs,ρ,n,h0,step,fin=>by
   refine step 0 x ρ rfl h0 (fun r=>FR fl (fG fl b xs) r Q) fun r hr=>?_
   have rc:∀ρ',J (n+1) ρ'->fG fl b xs ρ' Q:=fun ρ' h'=>lI J (n+1) h' (fun i y ρ e j k hk=>step (i+1) y ρ (by simpa using e) (by rw[show n+(i+1)=n+1+i by omega];exact j) k (by rw[show n+(i+1)+1=n+1+i+1 by omega];exact hk)) (fun ρ j=>fin ρ (by rw[Io,show n+(xs.length+1)=n+1+xs.length by omega];exact j))
   cases r with
   | nx ρ'=>exact rc _ hr
   | ct ρ'=>exact rc _ hr
   | bk ρ'=>exact hr
   | rt w=>exact hr
theorem pB{xs:List α}{enc:α->HH}{Q:Fl->Prop}(J:Nat->En->Prop)(h0:J 0 ρ)
 (step:∀i (h:i<xs.length) ρ,J i ρ->∀k:Fl->Prop,(∀r,FQ fl (J (i+1)) Q r->k r)->b (enc xs[i]) ρ k)(fin:∀ρ,J xs.length ρ->Q (.nx ρ)):fG fl b (xs.map enc) ρ Q:=by
 refine lI J 0 h0 (fun i x ρ e j k hk=>?_) (fun ρ j=>fin ρ (by simpa using j))
 have hi:i<xs.length:=by have:=(Iy.mp e).1;simpa using this
 rw[Jd,Ia hi]at e
 cases e
 rw[Nat.zero_add]at j hk
 exact step i hi ρ j k hk
theorem rR{lo:Int}{Q:Fl->Prop}(J:Nat->En->Prop)(h0:J 0 ρ)
 (step:∀i,i<n->∀ρ,J i ρ->∀k:Fl->Prop,(∀r,FQ fl (J (i+1)) Q r->k r)->b (.int (lo+i)) ρ k)(fin:∀ρ,J n ρ->Q (.nx ρ)):fG fl b (bi lo n) ρ Q:=by
 refine pB (xs:=IV n) J h0 (fun i h ρ j k hk=>?_) (fun ρ j=>fin ρ (by simpa using j))
 rw[List.getElem_range]
 exact step i (by simpa using h) ρ j k hk
end
noncomputable def hJ(fl:List Nat)(f:TB)(t:GG)(ρ:En):Mo Fl:=fun Q=>∃m,mS (Ev fl f t m) ρ Q
theorem s_while(fl:List Nat)(f:TB)(t:GG)(ρ:En):mS (nN fl f t) ρ=hJ fl f t (fo fl ρ):=nr rfl
theorem qN(fl:List Nat)(f:TB)(t:GG)(m:Nat)(ρ:En):mS (Ev fl f t m) ρ=Gs (f ρ) fun b=>if b=true then Gs (mS t ρ) (FR fl fun ρ'=>fun Q=>∃k,∃h:k<m,mS (Ev fl f t k) ρ' Q)else ret (.nx ρ):=by
 refine ai fun Q=>?_
 show Ev fl f t m _ ρ↔_
 rw[sT]
 simp only[Gs,fq]
 exact Mb
theorem um{fl:List Nat}{f:TB}{t:GG}(h:f ρ=ret false):hJ fl f t ρ=ret (.nx ρ):=by
 refine ai fun Q=>?_
 constructor
 · rintro⟨m,q⟩;rw[qN,h,bnd_ret,if_neg (by decide)]at q;exact q
 · intro q;refine⟨0,?_⟩;rw[qN,h,bnd_ret,if_neg (by decide)];exact q
theorem ul{fl:List Nat}{f:TB}{t:GG}{ρ':En}(h:f ρ=ret true)(h2:mS t ρ=ret (.nx ρ')):hJ fl f t ρ=hJ fl f t (fo fl ρ'):=by
 refine ai fun Q=>?_
 constructor
 · rintro⟨m,q⟩;rw[qN,h,bnd_ret,if_pos rfl,h2,bnd_ret]at q;obtain⟨k,_,q⟩:=q;exact⟨k,q⟩
 · rintro⟨m,q⟩;refine⟨m+1,?_⟩;rw[qN,h,bnd_ret,if_pos rfl,h2,bnd_ret];exact⟨m,Nat.lt_succ_self m,q⟩
theorem nA{σ:Type}{fl:List Nat}{f:TB}{t:GG}(st:σ->En)(c:σ->Bool)(nxt:σ->σ)(μ:σ->Nat)(I:σ->Prop)
 (hf:∀s,I s->f (st s)=ret (c s))(ht:∀s,I s->c s=true->I (nxt s)/\μ (nxt s)<μ s/\∃ρ',mS t (st s)=ret (.nx ρ')/\fo fl ρ'=st (nxt s))(s:σ)(hs:I s):∃s',I s'/\c s'=false/\hJ fl f t (st s)=ret (.nx (st s')):=by
 induction hm:μ s using Nat.strongRecOn generalizing s with
 | ind n ih =>
   subst hm
   cases hc:c s with
   | false=>exact⟨s,hs,hc,um (by rw[hf s hs,hc])⟩
   | true =>
     obtain⟨i1,m1,ρ',e1,e2⟩:=ht s hs hc
     obtain⟨s',a,b,e⟩:=ih _ m1 (nxt s) i1 rfl
     exact⟨s',a,b,by rw[ul (by rw[hf s hs,hc]) e1,e2,e]⟩
noncomputable def nP(ρ0:En)(g:GK)(ft:TB)(fe:TV):List HH->List HH->(List HH->Prop)->Prop
 | [],acc,Q=>Q acc
 | x::xs,acc,Q=>g x ρ0 fun ρ2=>Le ρ0 ρ2/\ft ρ2 fun b=>if b=true then fe ρ2 fun w=>∃d,w.fz = .d d/\acc.length<sizeLine/\nP ρ0 g ft fe xs (acc++[d]) Q else nP ρ0 g ft fe xs acc Q
noncomputable def ln(fi:En->(List HH->Prop)->Prop)(fr:List (Option Nat))(g:GK)(ft:TB)(fe:TV):TV:=fun ρ Q=>fi ρ fun xs=>nP (dS fr ρ) g ft fe xs [] fun ds=>Q (.ml ds)
section
variable{X:Cx}{rl:RlT}{elt tg iter:Expr}{ifs:List Expr}{scope:Scope}{pos:Pos}{fi:En->(List HH->Prop)->Prop}{g:GK}{ft:TB}{fe:TV}
theorem lK{N':List Str}{wi:TI}(fr:List (Option Nat))(k0:∀{F₀ H₀ F H:Hp}{σ:St}{ρ:En},VR X.K rl F₀ H₀ F H σ ρ->∀(Qd:List HH->Prop)(R:It->Hp->Prop),fi ρ Qd ->
 (∀J xs F' H',Grow rl F H F' H'->VIt X.K rl F' J xs->Qd xs->R J H')->wi σ H R)
 (hg:∀y,G7 (blk X N' scope y) rl tg g)(ht:∀y,mB (blk X N' scope y) rl ifs ft)(he:∀y,PV (blk X N' scope y) rl elt fe)
 (R:VR X.K rl F₀ H₀ F H σ ρ)(Qd:W->Prop)(Q:VK)(q:ln fi fr g ft fe ρ Qd)
 (k:∀v w F' H',Grow rl F H F' H'->du X.K rl F' H' v w->dR H v w->Qd w->Q v H'):uO wi fr (fun y=>Jm (hg y)) (fun y=>Jm (ht y)) (fun y=>Jm (he y)) σ H Q:=by
 refine k0 R _ _ q fun J xs F1 H1 g1 vi q1=>?_
 intro D hD
 have rD:rl.a≠some D:=fun e=>by obtain⟨o,z⟩:=g1.reel.live e;rw[hD]at z;cases z
 have FD:F1 D=none:=g1.sub.free hD
 have gD:Grow rl F1 H1 F1 (EB H1 D (.lst [])):=Grow.laid g1.sub g1.reel hD
 have R1:=R.grow g1
 have n0:j9 (dS fr ρ):=dz
 refine⟨fun i m acc σc Hc=>m=xs.length-i/\i<=xs.length/\∃Fc ds,VR X.K rl F1 H1 Fc Hc σc (dS fr ρ)/\Hc D=some (.lst acc)/\Fc D=none/\Reps X.K Fc acc ds/\nP (dS fr ρ) g ft fe (xs.drop i) ds (fun ds=>Qd (.ml ds)),
  ⟨xs.length,by simp,Ix _,F1,[],fJ R1 gD,ax,FD,.nil,by simpa using q1⟩,?_⟩
 rintro z i m acc σc Hc ⟨rfl,hi,Fc,ds,Rc,hDc,fDc,rs,q2⟩
 have sH:bF F1 Hc:=Rc.g.fs.trans Rc.sub
 by_cases hlt:i<xs.length
 · have ei:xs[i]?=some xs[i]:=by simp[hlt]
   have ed:xs.drop i=xs[i]::xs.drop (i+1):=Jx hlt
   rw[ed]at q2
   refine .inr ⟨vi.go i Hc _ ei sH,fun v H' y=>?_⟩
   obtain⟨Fy,gy,rv⟩:=vi.yld i Hc v H' _ Fc ei Rc.g.fs Rc.sub Rc.reel y
   refine(HR (hg z)).2 (Rc.grow gy) v _ _ _ rv q2 fun F3 H3 σ3 ρ3 g3 n3 R3 ⟨le3,q3⟩=>?_
   refine(HR (ht z)).2 R3 _ _ q3 fun b F4 H4 g4 q4=>?_
   have R4:=R3.grow g4
   have g34:=(gy.trans g3).trans g4
   have keepD:∀{Fx Hx:Hp},Grow rl Fc Hc Fx Hx->Hx D=some (.lst acc)/\Fx D=none:=fun gx=>⟨gx.same D _ hDc rD,by rw[gx.old D _ hDc];exact fDc⟩
   cases b with
   | false=>exact⟨xs.length-(i+1),by omega,rfl,hlt,F4,ds,R4.le le3,(keepD g34).1,(keepD g34).2,rs.mono g34.fs,q4⟩
   | true =>
     refine(HR (he z)).2 R4 _ _ q4 fun v5 w5 F5 H5 g5 r5 n5 ⟨d,ed5,hl,q5⟩=>?_
     obtain⟨F6,g6,s6,r6⟩:=du.fz g5 r5 n5
     rw[ed5]at r6
     have g36:=g34.trans g6
     refine⟨(keepD g36).1,by rw[rs.length];exact hl,xs.length-(i+1),by omega,rfl,hlt,F6,ds++[d],((R4.grow g6).le le3).other n0 hD (keepD g36).2 rD,ax,(keepD g36).2,(rs.mono g36.fs).snoc r6,q5⟩
 · have e:i=xs.length:=by omega
   subst e
   rw[Ks]at q2
   refine .inl ⟨vi.stop _ Hc (HX _) sH,k _ (.ml ds) Fc Hc (g1.trans Rc.g) ⟨D,acc,rfl,fDc,rD,hDc,rs⟩ (fun a ea=>by cases ea;exact g1.freeB hD) q2⟩
theorem ci(N':List Str)(fr:List (Option Nat))(hc:X.calm=true)(hi:G4 X rl tg iter fi)
 (hg:∀y,G7 (blk X N' scope y) rl tg g)(ht:∀y,mB (blk X N' scope y) rl ifs ft)(he:∀y,PV (blk X N' scope y) rl elt fe)
 (hfr:lS fr N' X.N scope X.env.scope=true:=by rfl)(hsc:mP scope X.env.scope=true:=by rfl)
 (hs:∀x,Iz iter X.env x=pure x:=by intro _;rfl):PV X rl (.ListComp elt [⟨tg,iter,ifs,0⟩] scope pos) (ln fi fr g ft fe):=by
 obtain⟨wi,p0,k0⟩:=hi
 exact⟨_,lA N' fr hc p0 hfr hsc (fun y=>(HR (hg y)).1) (fun y=>(HR (ht y)).1) (fun y=>(HR (he y)).1) hs,fun R Qd Q q k=>lK fr k0 hg ht he R Qd Q q k⟩
end
noncomputable def FZ(ρ0:En)(g:GK)(ft:TB)(fe:TV)(x:HH):Mo (Option HH):=Gs (g x ρ0) fun ρ2=>Ge (Le ρ0 ρ2) (Gs (ft ρ2) fun b=>if b=true then Gs (fe ρ2) fun w=>aV (asD w.fz) fun d=>ret (some d)else ret none)
noncomputable def cb(b:HH->Mo (Option HH)):List HH->List HH->Mo (List HH)
 | [],acc=>ret acc
 | x::xs,acc=>Gs (b x) fun o=>match o with
   | some d=>Ge (acc.length<sizeLine) (cb b xs (acc++[d]))
   | none=>cb b xs acc
theorem kY(ρ0:En)(g:GK)(ft:TB)(fe:TV):∀(xs acc:List HH),nP ρ0 g ft fe xs acc=cb (FZ ρ0 g ft fe) xs acc
 | [],acc=>rfl
 | x::xs,acc=>by
   refine ai fun Q=>?_
   show(g x ρ0 fun ρ2=>Le ρ0 ρ2/\ft ρ2 fun b=>if b=true then fe ρ2 fun w=>∃d,w.fz = .d d/\acc.length<sizeLine/\nP ρ0 g ft fe xs (acc++[d]) Q else nP ρ0 g ft fe xs acc Q)↔(Gs (FZ ρ0 g ft fe x) _) Q
   simp only[kY ρ0 g ft fe xs]
   have:∀(ρ2:En)(b:Bool),(if b=true then fe ρ2 fun w=>∃d,w.fz = .d d/\acc.length<sizeLine/\cb (FZ ρ0 g ft fe) xs (acc++[d]) Q else cb (FZ ρ0 g ft fe) xs acc Q)=(Gs (if b=true then Gs (fe ρ2) fun w=>aV (asD w.fz) fun d=>ret (some d)else ret none) fun o=>match o with
   | some d=>Ge (acc.length<sizeLine) (cb (FZ ρ0 g ft fe) xs (acc++[d]))
   | none=>cb (FZ ρ0 g ft fe) xs acc) Q:=by
     intro ρ2 b
     cases b with
     | false=>rfl
     | true =>
       rw[if_pos rfl,if_pos rfl]
       show _=fe ρ2 fun w=>_
       congr 1
       funext w
       refine propext ?_
       show _↔(Gs (aV (asD w.fz) fun d=>ret (some d)) _) Q
       rw[bnd_opt,ar]
       simp only[gM]
       exact Mb
   simp only[this]
   exact Mb
theorem m_comp(fi:En->(List HH->Prop)->Prop)(fr:List (Option Nat))(g:GK)(ft:TB)(fe:TV)(ρ:En):ln fi fr g ft fe ρ=Gs (fi ρ) fun xs=>Gs (cb (FZ (dS fr ρ) g ft fe) xs []) fun ds=>ret (.ml ds):=by
 refine ai fun Q=>?_
 show(fi ρ fun xs=>nP (dS fr ρ) g ft fe xs [] fun ds=>Q (.ml ds))↔_
 simp only[kY]
 exact Mb
section
variable{α:Type}{b:HH->Mo (Option HH)}
theorem eJ{enc:α->HH}(f:α->Option HH):∀(xs:List α)(acc:List HH),(∀x∈xs,b (enc x)=ret (f x))->acc.length+xs.length<=sizeLine->cb b (xs.map enc) acc=ret (acc++xs.filterMap f)
 | [],acc,_,_=>by simp[cb]
 | x::xs,acc,h,hl=>by
   show Gs (b (enc x)) _=_
   rw[h x HM,bnd_ret]
   simp at hl
   cases e:f x with
   | none =>
     show cb b (xs.map enc) acc=_
     rw[eJ f xs acc (fun y hy=>h y (HK _ hy)) (by omega),List.filterMap_cons_none e]
   | some d =>
     show Ge (acc.length<sizeLine) (cb b (xs.map enc) (acc++[d]))=_
     rw[ah (by omega),eJ f xs (acc++[d]) (fun y hy=>h y (HK _ hy)) (by simp;omega),List.filterMap_cons_some e]
     simp
theorem qg{xs:List α}{enc:α->HH}(f:α->Option HH)(h:∀x∈xs,b (enc x)=ret (f x))(hl:xs.length<=sizeLine):cb b (xs.map enc) []=ret (xs.filterMap f):=by
 have:=eJ f xs [] h (by simpa using hl)
 simpa using this
theorem comp_map{xs:List α}{enc:α->HH}(f:α->HH)(h:∀x∈xs,b (enc x)=ret (some (f x)))(hl:xs.length<=sizeLine):cb b (xs.map enc) []=ret (xs.map f):=by
 rw[qg (fun x=>some (f x)) h hl,M0]
theorem qe{lo:Int}(f:Nat->HH)(h:∀j,j<n->b (.int (lo+j))=ret (some (f j)))(hl:n<=sizeLine):cb b (bi lo n) []=ret ((IV n).map f) :=
 comp_map (xs:=IV n) f (fun j hj=>h j (KO.mp hj)) (by simpa using hl)
theorem fu{enc:α->HH}(R:α->HH->Prop){Q:List HH->Prop}:∀(xs:List α)(acc:List HH),(∀x∈xs,∀k:Option HH->Prop,(∀d,R x d->k (some d))->b (enc x) k)->acc.length+xs.length<=sizeLine->(∀ds,Jy R xs ds->Q (acc++ds))->cb b (xs.map enc) acc Q
 | [],acc,_,_,fin=>by have:=fin [] .nil;rw[Kc]at this;exact this
 | x::xs,acc,h,hl,fin=>by
   simp at hl
   refine h x HM _ fun d r=>?_
   refine⟨by omega,fu R xs (acc++[d]) (fun y hy=>h y (HK _ hy)) (by simp;omega) fun ds ps=>?_⟩
   have:=fin (d::ds) (.cons r ps)
   simpa using this
theorem sJ{xs:List α}{enc:α->HH}(R:α->HH->Prop){Q:List HH->Prop}(h:∀x∈xs,∀k:Option HH->Prop,(∀d,R x d->k (some d))->b (enc x) k)(hl:xs.length<=sizeLine)(fin:∀ds,Jy R xs ds->Q ds):cb b (xs.map enc) [] Q :=
 fu R xs [] h (by simpa using hl) (by simpa using fin)
theorem qh{lo:Int}(P:HH->Prop){Q:List HH->Prop}(h:∀j,j<n->∀k:Option HH->Prop,(∀d,P d->k (some d))->b (.int (lo+j)) k)(hl:n<=sizeLine)(fin:∀ds:List HH,ds.length=n->(∀d∈ds,P d)->Q ds):cb b (bi lo n) [] Q:=by
 refine sJ (xs:=IV n) (fun _ d=>P d) (fun j hj=>h j (KO.mp hj)) (by simpa using hl) fun ds ps=>?_
 refine fin ds ?_ ?_
 · have:=KF ps;simpa using this.symm
 · clear fin h hl
   intro d hd
   generalize IV n=l at ps
   induction ps with
   | nil=>cases hd
   | cons r _ ih=>exact(Ih.mp hd).elim (fun e=>by rw[e];exact r) ih
end
section
variable(c:Prop)[Decidable c]
theorem ite_nx(a b:En):(if c then ret (Fl.nx a)else ret (Fl.nx b))=ret (Fl.nx (if c then a else b)):=by split<;>rfl
theorem ite_rt(a b:W):(if c then ret (Fl.rt a)else ret (Fl.rt b))=ret (Fl.rt (if c then a else b)):=by split<;>rfl
theorem ite_retd(a b:HH):(if c then ret (W.d a)else ret (W.d b))=ret (W.d (if c then a else b)):=by split<;>rfl
theorem ite_retb(a b:Bool):(if c then ret a else ret b)=ret (if c then a else b):=by split<;>rfl
theorem ite_rets(a b:HH):(if c then ret (some a)else ret (some b))=ret (some (if c then a else b)):=by split<;>rfl
theorem ite_cons{α:Type}(x y:α)(l m:List α):(if c then x::l else y::m)=(if c then x else y)::(if c then l else m):=by split<;>rfl
theorem ite_some{α:Type}(x y:α):(if c then some x else some y)=some (if c then x else y):=by split<;>rfl
theorem ite_d(a b:HH):(if c then W.d a else W.d b)=W.d (if c then a else b):=by split<;>rfl
theorem ite_pi(a b:Int):(if c then Iw a else Iw b)=Iw (if c then a else b):=by split<;>rfl
theorem ite_pb(a b:Bool):(if c then Lj a else Lj b)=Lj (if c then a else b):=by split<;>rfl
theorem itb_tt(b y:Bool):(if b=true then true else y)=(b||y):=by cases b<;>rfl
theorem itb_ff(b y:Bool):(if b=true then y else false)=(b&&y):=by cases b<;>rfl
theorem itb_ft(b y:Bool):(if b=true then false else y)=(!b&&y):=by cases b<;>rfl
theorem itb_tf(b y:Bool):(if b=true then y else true)=(!b||y):=by cases b<;>rfl
end
theorem af(h:n<=1000):(n<=sizeLine)=True:=by have:=Is;exact propext ⟨fun _=>trivial,fun _=>by omega⟩
theorem tup2(x y:HH):(match [x,y]with | [x,y]=>some (x,y)|_=>none)=some (x,y):=rfl
theorem bnd_tt{α β:Type}(a:α)(f:α->Mo β):Gs (fun Q=>Q a) f=f a:=nr rfl
section
variable{α β:Type}
theorem aE{P:α->Prop}{f:α->Mo β}{Q:β->Prop}(h:∀a,P a->f a Q):Gs (anyM P) f Q:=h
theorem cU{P:Prop}{m:Mo α}{Q:α->Prop}(h:P)(h':m Q):Ge P m Q:=⟨h,h'⟩
theorem dA{c:Prop}[Decidable c]{a b:Mo α}{Q:α->Prop}(h:c->a Q)(h':¬c->b Q):(if c then a else b) Q:=by split<;>simp_all
theorem rW{x y:Mo α}{Q:α->Prop}(h:b=true->x Q)(h':b=false->y Q):(if b=true then x else y) Q:=by cases b<;>simp_all
end
theorem aw{Q:HH->Prop}(h:Q d):ret (Fl.rt (.d d)) (ww Q):=⟨d,rfl,h⟩
theorem kB{Q:HH->Prop}{d:List HH}(h:Q (.list d)):ret (Fl.rt (.ml d)) (ww Q):=⟨_,rfl,h⟩
section
variable{α:Type}{k:En->Mo Fl}{Q:Fl->Prop}
theorem EY{m:Mo α}{h:α->Mo Fl}(z:Gs m (fun a=>sq (h a) k) Q):sq (Gs m h) k Q:=z
theorem EX{o:Option α}{h:α->Mo Fl}(z:aV o (fun a=>sq (h a) k) Q):sq (aV o h) k Q:=by rw[xU];exact z
noncomputable def kc(k1 k2:En->Mo Fl):En->Mo Fl:=fun ρ=>sq (k1 ρ) k2
theorem kc_ap(k1 k2:En->Mo Fl)(ρ:En):kc k1 k2 ρ=sq (k1 ρ) k2:=nr rfl
theorem sq_sq(m:Mo Fl)(k1 k2:En->Mo Fl):sq (sq m k1) k2=sq m (kc k1 k2):=by
 refine ai fun Q=>?_
 show m _↔m _
 have:∀fl:Fl,(sq (match fl with | .nx ρ=>k1 ρ | .rt w=>ret (.rt w) | .bk ρ=>ret (.bk ρ) | .ct ρ=>ret (.ct ρ)) k2) Q=(match fl with | .nx ρ=>kc k1 k2 ρ | .rt w=>ret (.rt w) | .bk ρ=>ret (.bk ρ) | .ct ρ=>ret (.ct ρ):Mo Fl) Q:=by intro fl;cases fl<;>rfl
 exact Iff.of_eq (congrArg m (funext this))
theorem aK{P:α->Prop}{f:α->Mo Fl}(z:∀a,P a->sq (f a) k Q):sq (Gs (anyM P) f) k Q:=z
end
theorem pk_sc(x:List Int):L2.VL.W.peek (.sc x) = .sc x:=rfl
theorem fz_sc(x:List Int):(W.sc x).fz = .sc x:=rfl
theorem arg_sc(x:List Int):gN (.sc x)=true:=rfl
theorem isPk_sc(x:List Int):(W.sc x).isPk=false:=rfl
section
variable{X:Cx}{rl:RlT}{a b c e:Expr}{es:List Expr}{fa fb fc:TV}{fs:GF}{pos p p2:Pos}{ρ:En}
noncomputable def asSc:W->Option (List Int)
 | .sc ns=>some ns
 | _=>none
theorem asSc_s(ns:List Int):asSc (.sc ns)=some ns:=rfl
theorem wJ{w:W}{i:List Int}:asSc w=some i↔w = .sc i:=by
 constructor
 · intro h;unfold asSc at h;split at h<;>simp_all
 · rintro rfl;rfl
theorem cA(f:α->β)(xs:List α)(i:Int):atI (xs.map f) i=(atI xs i).map f:=by
 unfold atI
 rw[HW]
 cases ixN xs.length i<;>simp
theorem ou{K:W.Frag}{F:Hp}:∀ns:List Int,Reps K F (ns.map V.int) (ns.map Iw)
 | []=>.nil
 | n::ns=>.cons (.int n) (ou ns)
noncomputable def Ax(fa:TV)(fl fh:GI):TV:=fun ρ Q=>fa ρ fun w=>fl ρ fun l=>fh ρ fun h=>∃ns:List Int,w = .sc ns/\Q (.ml (cutD (ns.map .int) l h))
theorem xm{lo hi:Option Expr}{fl fh:GI}(ha:PV X rl a fa)(hl:GW X rl lo fl)(hh:GW X rl hi fh):PV X rl (.Subscript a (.Slice lo hi none p2) pos) (Ax fa fl fh):=by
 obtain⟨t,p,k⟩:=ha
 obtain⟨tl,pl,kl⟩:=hl
 obtain⟨th,ph,kh⟩:=hh
 refine⟨_,lz uX p pl ph,fun R Qd Q q h=>k R _ _ q fun v w F1 H1 g1 r1 n1 q1=>?_⟩
 refine kl (R.grow g1) _ _ q1 fun l F2 H2 g2 q2=>kh ((R.grow g1).grow g2) _ _ q2 fun u F3 H3 g3 q3=>?_
 obtain⟨ns,rfl,q3⟩:=q3
 obtain⟨a,rfl,sq⟩:=(r1.grow g2).grow g3
 have g:=(g1.trans g2).trans g3
 exact⟨a,_,rfl,rg g3.sub sq,fun p hp=>h _ (.ml _) _ _ (g.trans (Grow.laid g3.sub g3.reel hp)) (cB g3.sub g3.reel hp ((ou ns).cut l u)) (fun a ea=>by cases ea;exact g.freeB hp) q3⟩
theorem m_vSlS{fl fh:GI}:Ax fa fl fh ρ=Gs (fa ρ) fun w=>Gs (fl ρ) fun l=>Gs (fh ρ) fun h=>aV (asSc w) fun ns=>ret (.ml (cutD (ns.map .int) l h)):=by
 refine ai fun Q=>?_
 simp only[Ax,Gs,ar,wJ,ret]
end
noncomputable def E5(K:W.Frag)(pre:List W->Prop):Sp:=fun vs H Q _=>∃F ws,bF F H/\gQ K RlT.no F H vs ws/\ws.all gN=true/\pre ws/\∀r n' F' H',H r=none->Grow RlT.no F H F' H'->GT (RlT.at' r n') F' H'->Q (.ref r) H'
structure DfnR (P:II) (w:Ju) (K:W.Frag) (mg:Str->Option HQ) (base:Heap) (x:Str) (ps:List Str) (k:Nat) (pre:List W->Prop):Prop where
 ex:∃f fd,mg x=some (.ref f)/\W.keepIn K (.ref f)=true/\Binds K fd ps []/\FnOk P w K mg base Hy k f fd ps (E5 K pre)
noncomputable def FA:Option W->Option W
 | some .reel=>none
 | o=>o
noncomputable def nR(ρ:En):En:=ρ.map FA
noncomputable def W.isR:W->Bool
 | .reel=>true
 | _=>false
noncomputable def xx(i:Nat)(pre:List W->Prop)(fs:GF)(t:GG):GG:=fun D ρ=>fs ρ fun ws=>ws.all gN=true/\pre ws/\t ⟨fun ρ'=>D.nx (nR ρ'),fun w=>w.isR=false/\D.rt w,fun ρ'=>D.bk (nR ρ'),fun ρ'=>D.ct (nR ρ')⟩ (ρ.set i (some .reel))
theorem wd{r:Addr}(g:Grow RlT.no F₀ H₀ F H)(ra:GT (RlT.at' r n') F H):Grow (RlT.at' r n') F₀ H₀ F H:=⟨fun b o e _=>g.same b o e (by simp),g.fs,g.sub,g.old,ra⟩
theorem lP{r:Addr}(g:Grow (RlT.at' r n') F₀ H₀ F H)(n:H₀ r=none):Grow RlT.no F₀ H₀ F H:=⟨fun b o e _=>g.same b o e (fun z=>by cases z;rw[n]at e;cases e),g.fs,g.sub,g.old,fun _ z=>by cases z⟩
theorem yf{K:W.Frag}{r:Addr}{w:W}(h:du K RlT.no F H v w)(ne:∀a,w.own=true\/(∃xs,w = .pk xs)->v = .ref a->a≠r):du K (RlT.at' r n') F H v w:=by
 cases w with
 | d x=>exact h
 | ml xs=>obtain⟨a,vs,e,f,_,g⟩:=h;exact⟨a,vs,e,f,fun z=>ne a (.inl rfl) e (by cases z;rfl),g⟩
 | pk xs=>obtain⟨a,vs,e,f,_,g⟩:=h;exact⟨a,vs,e,f,fun z=>ne a (.inr ⟨_,rfl⟩) e (by cases z;rfl),g⟩
 | reel=>obtain⟨_,z,_⟩:=h;cases z
 | vv u=>exact h
 | md kvs=>obtain⟨a,vs,e,f,_,g⟩:=h;exact⟨a,vs,e,f,fun z=>ne a (.inl rfl) e (by cases z;rfl),g⟩
 | mk kvs=>obtain⟨a,vs,e,f,_,g⟩:=h;exact⟨a,vs,e,f,fun z=>ne a (.inl rfl) e (by cases z;rfl),g⟩
 | nt ds=>exact h
 | lk=>trivial
 | sc ns=>exact h
 | fd _=>exact h
 | fw _=>exact h
 | ft _=>exact h
 | xc _ _=>exact h
 | dp _ _=>exact h
theorem oy{K:W.Frag}{r:Addr}{w:W}(h:du K (RlT.at' r n') F H v w)(n:w.isR=false):du K RlT.no F H v w:=by
 cases w with
 | d x=>exact h
 | ml xs=>obtain⟨a,vs,e,f,_,g⟩:=h;exact⟨a,vs,e,f,by simp,g⟩
 | pk xs=>obtain⟨a,vs,e,f,_,g⟩:=h;exact⟨a,vs,e,f,by simp,g⟩
 | reel=>cases n
 | vv u=>exact h
 | md kvs=>obtain⟨a,vs,e,f,_,g⟩:=h;exact⟨a,vs,e,f,by simp,g⟩
 | mk kvs=>obtain⟨a,vs,e,f,_,g⟩:=h;exact⟨a,vs,e,f,by simp,g⟩
 | nt ds=>exact h
 | lk=>trivial
 | sc ns=>exact h
 | fd _=>exact h
 | fw _=>exact h
 | ft _=>exact h
 | xc _ _=>exact h
 | dp _ _=>exact h
theorem lD{w:W}(h:(nR ρ)[i]?=some (some w)):ρ[i]?=some (some w)/\w.isR=false:=by
 unfold nR at h
 rw[Jd]at h
 cases e:ρ[i]? with
 | none=>rw[e]at h;cases h
 | some o =>
   rw[e]at h
   cases o with
   | none=>cases h
   | some u=>cases u<;>first|(cases h;exact⟨rfl,rfl⟩)|cases h
theorem VR.out{K:W.Frag}{r:Addr}(R:VR K (RlT.at' r n') F₀ H₀ F H σ ρ)(n:H₀ r=none):VR K RlT.no F₀ H₀ F H σ (nR ρ):=by
 refine⟨lP R.g n,fun i w e=>?_,fun i j x y v hn e1 e2=>R.ap i j x y v hn (lD e1).1 (lD e2).1,fun i xs e=>R.np i xs (lD e).1,?_⟩
 · obtain⟨e1,e2⟩:=lD e
   obtain⟨v,h1,h2,h3⟩:=R.sl i w e1
   exact⟨v,h1,oy h2 e2,h3⟩
 · have:=R.len;simpa[nR]using this
theorem VR.into{K:W.Frag}{r:Addr}(R:VR K RlT.no F₀ H₀ F H σ ρ)(n:H r=none)(g:Grow RlT.no F H F' H')(ra:GT (RlT.at' r n') F' H')(i:Nat):VR K (RlT.at' r n') F₀ H₀ F' H' (σ.set i (some (.ref r))) (ρ.set i (some .reel)):=by
 have R1:=R.grow g
 refine⟨wd R1.g ra,fun j w e=>?_,fun j k x y v hn e1 e2 o1 o2 s1 s2=>?_,fun j xs e=>?_,by simp[R.len]⟩
 · by_cases hj:i=j
   · subst hj
     have hi:i<ρ.length:=by
      rw[Jw]at e
      by_cases hi:i<ρ.length
      · exact hi
      · simp[hi]at e
     rw[IE hi]at e
     cases e
     exact⟨.ref r,by rw[IE (by rw[<- R.len];exact hi)],⟨r,rfl,rfl⟩,trivial⟩
   · rw[IA hj]at e
     obtain⟨v,h1,h2,h3⟩:=R1.sl j w e
     refine⟨v,by rw[IA hj];exact h1,yf h2 fun a ow ea z=>?_,h3⟩
     obtain⟨v0,h10,h20,_⟩:=R.sl j w e
     rw[h1]at h10
     cases h10
     rcases ow with ow|⟨xs,rfl⟩
     · obtain⟨b,o,eb,hb⟩:=h20.live ow
       rw[ea]at eb
       cases eb
       rw[z,n]at hb
       cases hb
     · exact absurd e (R.np j xs)
 · have key:∀(m:Nat)(z:W),(ρ.set i (some W.reel))[m]?=some (some z)->z.own=true->i≠m/\ρ[m]?=some (some z):=fun m z e o=>by
     by_cases hm:i=m
     · subst hm
       rw[Jw]at e
       split at e
       · split at e
         · cases e;cases o
         · cases e
       · exact absurd rfl (by assumption)
     · rw[IA hm]at e;exact⟨hm,e⟩
   obtain⟨n1,d1⟩:=key j x e1 o1
   obtain⟨n2,d2⟩:=key k y e2 o2
   rw[IA n1]at s1
   rw[IA n2]at s2
   exact R1.ap j k x y v hn d1 d2 o1 o2 s1 s2
 · rw[Jw]at e
   split at e
   · split at e
     · cases e
     · cases e
   · exact R1.np j xs e
section
variable{X:Cx}{st:Stmt}{rest body:List Stmt}{t u:GG}{a b c e:Expr}{es:List Expr}{fa fb:TV}{fs:GF}{pos p px cpos:Pos}{ρ:En}
theorem uo(i:Nat){f:Str}{ps:List Str}{k:Nat}{pre:List W->Prop}(D:DfnR X.prog X.w X.K X.mg X.base f ps k pre)(hr:Room k X.A)(hN:X.N.Nodup)(ha:GV X RlT.no (e::es) fs)(hrest:∀r n',mC X (RlT.at' r n') rest t)
 (hi:X.N[i]?=some x:=by rfl)(hx:Loc X.env.scope x:=by first|exact J0 rfl|exact Jq rfl)(hg:Gl X f:=by rfl)(hdb:(f==("__debug__" : Str))=false:=by decide)
 (he:HZ (e::es) X.env=(false,eval e X.env)::HZ es X.env:=by rfl)(hpl:(JR cpos (HZ es X.env)).any (·.1)=false:=by rfl)
 (hs:J4 (.Call (.Name f p) (e::es) [] cpos) (some (.Name x px)) pos.line X.env=pure false:=by rfl)(hf:X.fn x=true\/X.env.scope.names.lookup x=some .local:=by first|exact .inl rfl|exact .inr rfl) :
 mC X RlT.no (.Assign [.Name x px] (.Call (.Name f p) (e::es) [] cpos) pos::rest) (xx i pre fs t):=by
 obtain⟨fa,fd,hm,hk,hb,F⟩:=D.ex
 obtain⟨ta,p1,k1⟩:=ha
 refine⟨_,fN (gh hN hi hx (kH F hr hg hm hk hb .nil vJ p1 hdb he hpl) hs hf) (vp X rest),fun{F₀ H₀ F H σ ρ} R Dv D ok q=>k1 R _ _ q fun vs ws F1 H1 g1 r1 ⟨ao,pw,q1⟩=>?_⟩
 have R1:=R.grow g1
 refine⟨F1,ws,g1.sub,by rw[Kc];exact r1,ao,pw,fun r n' F2 H2 hr2 g2 ra=>?_⟩
 intro pins s I
 obtain⟨T,pT,kT⟩:=hrest r n'
 have h0:H₀ r=none:=R1.g.freeB hr2
 refine pT pins s _ H2 D I (kT (R1.into hr2 g2 ra i) _ D ⟨fun F3 H3 σ3 ρ3 s3 R3 q3=>?_,fun v w F3 H3 g3 r3 n3 q3=>?_,fun F3 H3 σ3 ρ3 s3 R3 q3=>?_,fun F3 H3 σ3 ρ3 s3 R3 q3=>?_⟩ q1)
 · exact ok.nx F3 H3 σ3 _ (g1.fs.trans (g2.fs.trans s3)) (R3.out h0) q3
 · exact ok.rt v w F3 H3 (lP g3 h0) (oy r3 q3.1) n3 q3.2
 · exact ok.bk F3 H3 σ3 _ (g1.fs.trans (g2.fs.trans s3)) (R3.out h0) q3
 · exact ok.ct F3 H3 σ3 _ (g1.fs.trans (g2.fs.trans s3)) (R3.out h0) q3
end
noncomputable def EC:Fl->Mo Fl
 | .nx ρ=>ret (.nx (nR ρ))
 | .rt w=>Ge (w.isR=false) (ret (.rt w))
 | .bk ρ=>ret (.bk (nR ρ))
 | .ct ρ=>ret (.ct (nR ρ))
theorem s_newR(i:Nat)(pre:List W->Prop)(fs:GF)(t:GG)(ρ:En):mS (xx i pre fs t) ρ=Gs (fs ρ) fun ws=>Ge (ws.all gN=true) (Ge (pre ws) (Gs (mS t (ρ.set i (some .reel))) EC)):=nr rfl
theorem nR_nil:nR []=[]:=rfl
theorem nR_r(l:En):nR (some .reel::l)=none::nR l:=rfl
theorem nR_n(l:En):nR (none::l)=none::nR l:=rfl
theorem nR_d(x:HH)(l:En):nR (some (.d x)::l)=some (.d x)::nR l:=rfl
theorem nR_ml(x:List HH)(l:En):nR (some (.ml x)::l)=some (.ml x)::nR l:=rfl
theorem nR_sc(x:List Int)(l:En):nR (some (.sc x)::l)=some (.sc x)::nR l:=rfl
noncomputable def hZ(K:W.Frag):Sp:=fun vs H Q _=>∃(a:Addr)(ns:List Int),vs=[.ref a]/\GN K H a (ns.map V.int)/\ns.length<=63/\∀H',Q (.bl true) H'
noncomputable def DM:VEnds:=⟨fun _=>False,fun w=>w = .d (.bool true),fun _=>False,fun _=>False⟩
noncomputable def wQ:Fl->Prop
 | .rt w=>w = .d (.bool true)
 | _=>False
theorem un_law(m:Mo Fl):Gs m EC wQ=m wQ:=by
 show m (fun fl=>EC fl wQ)=m wQ
 congr 1
 funext fl
 cases fl with
 | rt w=>exact propext ⟨fun⟨_,h⟩=>h,fun h=>⟨by rw[show w = .d (.bool true)from h];rfl,h⟩⟩
 | _=>rfl
theorem pG:ret (Fl.rt (.d (.bool true))) wQ:=rfl
section
variable{P:II}{w:Ju}{K:W.Frag}{mg:Str->Option HQ}{base:Heap}{st:Stmt}{N:List Str}{k:Nat}{t:GG}{x:Str}
theorem vS{f:Addr}(F:Fun K "law" "law" st f fd)(S:FnScope N [x] (defScope st))
 (hbody:∀(cdv:HQ)(A:Jz)(outer:List Env)(s:HU)(H:Hp)(E:XK),Room k (A.deeper (M_ "law" (defScope st) s.heap.objs.size f cdv))->mC (qG Hy P w K mg base N "law" (defScope st) f cdv A outer s H E).nox RlT.no (defBody st) t)
 (hread:∀ns:List Int,ns.length<=63->mS t (dD N [.sc ns]) wQ):FnOk P w K mg base Hy (k+1) f fd [x] (hZ K):=by
 refine F.ok S (fun vs H Q E h=>?_) (fun cdv A outer s H vs Q E hr h=>?_)
 · obtain⟨a,ns,rfl,_⟩:=h
   rfl
 · obtain⟨a,ns,rfl,hS,hl,kq⟩:=h
   obtain⟨T,p,kk⟩:=hbody cdv A outer s H E hr
   have rw0:gQ K RlT.no H H [.ref a] [.sc ns]:=.cons ⟨a,rfl,hS⟩ .nil
   have R:VR K RlT.no H H H H (start N [.ref a]) (dD N [.sc ns]):=iD (.refl H) (fun _ z=>by cases z) rw0 rfl
   refine⟨T,p,kk R DM _ ⟨fun _ _ _ _ _ _ z=>JL z,?_,fun _ _ _ _ _ _ z=>JL z,fun _ _ _ _ _ _ z=>JL z⟩ (hread ns hl)⟩
   rintro v w1 F1 H1 g1 r1 n1 z
   have z:w1 = .d (.bool true):=z
   subst z
   have e:=e8 r1
   subst e
   exact kq H1
end
noncomputable def qQ(i:Nat)(fa:TV):GG:=fun D ρ=>fa ρ fun w=>∃d,w.fz = .d d/\D.nx (ρ.set i (some (.d d)))
section
variable{X:Cx}{rl:RlT}{st:Stmt}{rest body:List Stmt}{t u:GG}{a b c e:Expr}{es:List Expr}{fa fb:TV}{fs:GF}{f:TB}{pos p:Pos}{ρ:En}
theorem aj(i:Nat)(hN:X.N.Nodup)(he:PV X rl e fa)(hi:X.N[i]?=some x:=by rfl)(hx:Loc X.env.scope x:=by first|exact J0 rfl|exact Jq rfl)
 (hs:J4 e (some (.Name x pos')) pos.line X.env=pure false:=by rfl)(hf:X.fn x=true\/X.env.scope.names.lookup x=some .local:=by first|exact .inl rfl|exact .inr rfl) :
 GZ X rl (.Assign [.Name x pos'] e pos) (qQ i fa):=by
 obtain⟨t,p,k⟩:=he
 refine⟨_,gh hN hi hx p hs hf,fun R Dv D ok q=>k R _ _ q fun v w F1 H1 g1 r1 n1 ⟨d,ed,q1⟩=>?_⟩
 obtain⟨F2,g2,s2,r2⟩:=du.fz g1 r1 n1
 rw[ed]at r2
 exact ok.nx _ _ _ _ g2.fs (R.set g2 r2 trivial (fun xs z=>by cases z) i) q1
theorem s_setZ(i:Nat):mS (qQ i fa) ρ=Gs (fa ρ) fun w=>aV (asD w.fz) fun d=>ret (.nx (ρ.set i (some (.d d)))):=by
 show(Gs (fa ρ) fun w=>fun(Q:Fl->Prop)=>∃d,w.fz = .d d/\Q (.nx (ρ.set i (some (.d d)))))=_
 congr 1;funext w
 refine ai fun Q=>?_
 simp only[ar,gM,ret]
end
section
variable{X:Cx}{rl:RlT}{elt tg iter:Expr}{ifs:List Expr}{scope:Scope}{pos:Pos}{fi:En->(List HH->Prop)->Prop}{g:GK}{ft:TB}{fe:TV}
theorem cr(i:Nat)(hN:X.N.Nodup)(N':List Str)(fr:List (Option Nat))(hc:X.calm=true)(hi:G4 X rl tg iter fi)
 (hg:∀y,G7 (blk X N' scope y) rl tg g)(ht:∀y,mB (blk X N' scope y) rl ifs ft)(he:∀y,PV (blk X N' scope y) rl elt fe)
 (hsw:J4 (.ListComp elt [⟨tg,iter,ifs,0⟩] scope pos) (some (.Name x px)) spos.line X.env=pure b:=by rfl)
 (hix:X.N[i]?=some x:=by rfl)(hx:Loc X.env.scope x:=by first|exact J0 rfl|exact Jq rfl)(hf:X.fn x=true\/X.env.scope.names.lookup x=some .local:=by first|exact .inl rfl|exact .inr rfl)
 (hfr:lS fr N' X.N scope X.env.scope=true:=by rfl)(hsc:mP scope X.env.scope=true:=by rfl)
 (hs:∀x,Iz iter X.env x=pure x:=by intro _;rfl):GZ X rl (.Assign [.Name x px] (.ListComp elt [⟨tg,iter,ifs,0⟩] scope pos) spos) (qQ i (ln fi fr g ft fe)):=by
 obtain⟨wi,p0,k0⟩:=hi
 refine⟨_,ig N' fr hc p0 hfr hsc (fun y=>(HR (hg y)).1) (fun y=>(HR (ht y)).1) (fun y=>(HR (he y)).1) hN hix hx hf hsw hs,fun R Dv D ok q=>lK fr k0 hg ht he R _ _ q fun v w F1 H1 g1 r1 n1 ⟨d,ed,q1⟩=>?_⟩
 obtain⟨F2,g2,s2,r2⟩:=du.fz g1 r1 n1
 rw[ed]at r2
 exact ok.nx _ _ _ _ g2.fs (R.set g2 r2 trivial (fun xs z=>by cases z) i) q1
end
noncomputable def xG(xs:List Int):HH:=.tuple (xs.map .int)
noncomputable def wO(xs:List Int):HH:=.list (xs.map .int)
theorem dP:∀{xs ys:List Int},xs.map Iw=ys.map Iw↔xs=ys:=by
 intro xs ys
 constructor
 · intro h
   have:=congrArg jP h
   rw[intsD_map,intsD_map]at this
   exact Jc this
 · rintro rfl;rfl
theorem lw{xs ys:List Int}:xG xs=xG ys↔xs=ys:=by
 unfold xG
 rw[JC,dP]
theorem rQ{xs ys:List Int}:wO xs=wO ys↔xs=ys:=by
 unfold wO
 rw[LG,dP]
theorem bR{α:Type}{f:α->HH}(h:∀a b,f a=f b↔a=b):∀{xs ys:List α},xs.map f=ys.map f↔xs=ys
 | [],[]=>by simp
 | [],_::_=>by simp
 | _::_,[]=>by simp
 | x::xs,y::ys=>by simp[h,bR h (xs:=xs) (ys:=ys)]
noncomputable def AH(xs:List (List Int)):HH:=.tuple (xs.map xG)
theorem qU{xs ys:List (List Int)}:AH xs=AH ys↔xs=ys:=by
 unfold AH
 rw[JC,bR fun _ _=>lw]
theorem zS{xs:List α}{i:Int}(h0:0<=i)(h1:i<(xs.length:Int)):atI xs i=some (xs[i.toNat]'(by omega)):=by
 obtain⟨n,rfl⟩:=J1 h0
 exact dQ (Ia (by omega))
section
variable{α σ:Type}{fl:List Nat}{b:HH->En->Mo Fl}{k:En->Mo Fl}{Q:Fl->Prop}{ρ:En}
theorem lc{f:TB}{t:GG}(st:σ->En)(c:σ->Bool)(nxt:σ->σ)(μ:σ->Nat)(I:σ->Prop)(s:σ)(h0:ρ=st s)(hs:I s)
 (hf:∀s,I s->f (st s)=ret (c s))(ht:∀s,I s->c s=true->I (nxt s)/\μ (nxt s)<μ s/\∃ρ',mS t (st s)=ret (.nx ρ')/\fo fl ρ'=st (nxt s))(fin:∀s,I s->c s=false->k (st s) Q):sq (hJ fl f t ρ) k Q:=by
 subst h0
 obtain⟨s',a,b,e⟩:=nA st c nxt μ I hf ht s hs
 rw[e]
 exact fin s' a b
noncomputable def FP(fl:List Nat)(J:En->Prop)(k:En->Mo Fl)(Q:Fl->Prop):Fl->Prop
 | .nx ρ=>J (fo fl ρ)
 | .ct ρ=>J (fo fl ρ)
 | .bk ρ=>k (fo fl ρ) Q
 | .rt w=>Q (.rt w)
theorem ck{J:En->Prop}{ρ:En}(h:J (fo fl ρ)):FP fl J k Q (.nx ρ):=h
theorem zd{J:En->Prop}{w:W}(h:Q (.rt w)):FP fl J k Q (.rt w):=h
theorem eF{xs:List α}{enc:α->HH}(J:Nat->En->Prop)(hx:xs'=xs.map enc)(h0:J 0 ρ)
 (step:∀i (h:i<xs.length) ρ,J i ρ->∀K:Fl->Prop,(∀r,FP fl (J (i+1)) k Q r->K r)->b (enc xs[i]) ρ K)(fin:∀ρ,J xs.length ρ->k ρ Q):sq (fG fl b xs' ρ) k Q:=by
 subst hx
 refine pB (Q:=fun r=>(match r with | .nx ρ=>k ρ | .rt w=>ret (.rt w) | .bk ρ=>ret (.bk ρ) | .ct ρ=>ret (.ct ρ):Mo Fl) Q) J h0 (fun i hi ρ j K hK=>step i hi ρ j K fun r hr=>hK r ?_) fin
 cases r<;>exact hr
theorem i6{lo:Int}(J:Nat->En->Prop)(h0:J 0 ρ)
 (step:∀i,i<n->∀ρ,J i ρ->∀K:Fl->Prop,(∀r,FP fl (J (i+1)) k Q r->K r)->b (.int (lo+i)) ρ K)(fin:∀ρ,J n ρ->k ρ Q):sq (fG fl b (bi lo n) ρ) k Q:=by
 refine rR (Q:=fun r=>(match r with | .nx ρ=>k ρ | .rt w=>ret (.rt w) | .bk ρ=>ret (.bk ρ) | .ct ρ=>ret (.ct ρ):Mo Fl) Q) J h0 (fun i hi ρ j K hK=>step i hi ρ j K fun r hr=>hK r ?_) fin
 cases r<;>exact hr
theorem wA{xs:List α}{enc:α->HH}(hx:xs'=xs.map enc)(step:∀x∈xs,∀K:Fl->Prop,(∀r,FP fl (fun ρ'=>ρ'=ρ) k Q r->K r)->b (enc x) ρ K)(fin:k ρ Q):sq (fG fl b xs' ρ) k Q :=
 eF (fun _ ρ'=>ρ'=ρ) hx rfl (fun i h ρ' e K hK=>by subst e;exact step _ (Ji h) K hK) fun ρ' e=>by subst e;exact fin
theorem lU{lo:Int}(step:∀i,i<n->∀K:Fl->Prop,(∀r,FP fl (fun ρ'=>ρ'=ρ) k Q r->K r)->b (.int (lo+i)) ρ K)(fin:k ρ Q):sq (fG fl b (bi lo n) ρ) k Q :=
 i6 (fun _ ρ'=>ρ'=ρ) rfl (fun i h ρ' e K hK=>by subst e;exact step i h K hK) fun ρ' e=>by subst e;exact fin
end
theorem BH{m:Mo Fl}{Q:Fl->Prop}(h:sq m (fun ρ=>ret (.nx ρ)) Q):m Q:=by
 have e:(fun fl:Fl=>(match fl with | .nx ρ=>ret (.nx ρ) | .rt w=>ret (.rt w) | .bk ρ=>ret (.bk ρ) | .ct ρ=>ret (.ct ρ):Mo Fl) Q)=Q:=by
  funext fl;cases fl<;>rfl
 have h:m (fun fl:Fl=>(match fl with | .nx ρ=>ret (.nx ρ) | .rt w=>ret (.rt w) | .bk ρ=>ret (.bk ρ) | .ct ρ=>ret (.ct ρ):Mo Fl) Q):=h
 rw[e]at h
 exact h
section
variable{α β:Type}{b:HH->Mo (Option HH)}{k:List HH->Mo β}{Q:β->Prop}
theorem ug{xs:List α}{enc:α->HH}(f:α->Option HH)(hx:xs'=xs.map enc)(h:∀x∈xs,b (enc x)=ret (f x))(hl:xs.length<=sizeLine)(fin:k (xs.filterMap f) Q):Gs (cb b xs' []) k Q:=by
 subst hx;rw[qg f h hl];exact fin
theorem cq{xs:List α}{enc:α->HH}(f:α->HH)(hx:xs'=xs.map enc)(h:∀x∈xs,b (enc x)=ret (some (f x)))(hl:xs.length<=sizeLine)(fin:k (xs.map f) Q):Gs (cb b xs' []) k Q:=by
 subst hx;rw[comp_map f h hl];exact fin
theorem lZ{lo:Int}(f:Nat->HH)(h:∀j,j<n->b (.int (lo+j))=ret (some (f j)))(hl:n<=sizeLine)(fin:k ((IV n).map f) Q):Gs (cb b (bi lo n) []) k Q:=by
 rw[qe f h hl];exact fin
theorem jh{lo:Int}(P:HH->Prop)(h:∀j,j<n->∀K:Option HH->Prop,(∀d,P d->K (some d))->b (.int (lo+j)) K)(hl:n<=sizeLine)(fin:∀ds:List HH,ds.length=n->(∀d∈ds,P d)->k ds Q):Gs (cb b (bi lo n) []) k Q :=
 qh P h hl fin
end
section
variable{α β:Type}
theorem po{i:Int}{k:HH->Mo β}{Q:β->Prop}(h0:0<=i)(h1:i<(xs.length:Int))(h:∀z∈xs,k z Q):aV (atI xs i) k Q:=by
 obtain⟨z,e,m⟩:=qw h0 h1
 rw[e]
 exact h z m
theorem bQ{xs:List α}{enc:α->HH}{i:Int}{k:HH->Mo β}{Q:β->Prop}(P:α->Prop)(hx:xs'=xs.map enc)(h0:0<=i)(h1:i<(xs.length:Int))(hP:∀z∈xs,P z)(h:∀z,P z->k (enc z) Q):aV (atI xs' i) k Q:=by
 subst hx
 refine po h0 (by simpa using h1) fun z mz=>?_
 obtain⟨x,hx,rfl⟩:=IM.mp mz
 exact h x (hP x hx)
theorem pz{xs:List α}{enc:α->HH}{i:Int}{k:HH->Mo β}{Q:β->Prop}(P:α->Prop)(h0:0<=i)(h1:i<(xs.length:Int))(hP:∀z∈xs,P z)(h:∀z∈xs,P z->k (enc z) Q):aV ((atI xs i).map enc) k Q:=by
 obtain⟨z,e,m⟩:=qw h0 h1
 rw[e]
 exact h z m (hP z m)
end
section
variable{X:Cx}{rl:RlT}{a b c o e:Expr}{es:List Expr}{fa fb:TV}{fs:GF}{pos p apos cpos:Pos}{ρ:En}
end
end L2.VL
namespace L2
section
variable{X:Cx}{pos:Pos}
end
end L2
namespace L2.VL
section
variable{X:Cx}{rl:RlT}{es:List Expr}{pos:Pos}{ρ:En}
end
noncomputable def BX:=HI @bnd_tt (HI @bnd_ret (HI @bnd_bnd (HI @bnd_grd (HI @bnd_stk (HI @bnd_ite (HI @bnd_opt (HI @opt_some (HI @opt_none (HI @grd_T (HI @sq_nx (HI @sq_rt (HI @sq_bk (HI @sq_ct (HI @sq_grd (HI @sq_stk (HI @sq_ite (HI @sq_sq (@kc_ap))))))))))))))))))
noncomputable def B1:=HI @ite_nx (HI @ite_rt (HI @ite_retd (HI @ite_retb (HI @ite_rets (HI @ite_cons (HI @ite_some (HI @ite_d (HI @ite_pi (HI @ite_pb (HI @itb_tt (HI @itb_ff (HI @itb_ft (HI @itb_tf (@ite_self.{1}))))))))))))))
noncomputable def B5:=HI @m_vC (HI @m_vVar (HI @m_vNil (HI @m_vCons (HI @m_vOp (HI @m_gI (HI @m_gI0 (HI @m_vNeg (HI @m_vTest (HI @m_gEqD (HI @m_vAnd (HI @m_vOr (HI @m_vNot (HI @m_vAndV (HI @m_vOrV (HI @m_vNotV (HI @m_vIf (HI @m_vTup (HI @m_vLst (HI @m_gIx (HI @m_vCall (HI @m_gAbs (@m_gLen))))))))))))))))))))))
noncomputable def B4:=HI @m_gRepr (HI @m_gTupO (HI @m_gLstO (HI @m_gI2 (HI @m_gInt1 (HI @m_oNo (HI @m_oIt (HI @m_vSlL (HI @m_vSlA (HI @m_gCatD (HI @m_gCatA (HI @m_vChain (HI @m_vLR1 (HI @m_iL (HI @m_iT (@m_iR1)))))))))))))))
noncomputable def B3:=HI @m_vUse (HI @m_gAll (HI @m_gRepL (HI @m_gEqS (HI @m_comp (@m_vSlS)))))
noncomputable def BS:=HI @s_next (HI @s_seq (HI @s_ret (HI @s_ifS (HI @s_set (HI @s_setZ (HI @s_never (HI @s_asg (HI @s_par (HI @s_aug (HI @s_frz (HI @s_mut (HI @s_for (HI @bdy_ap (HI @s_while (HI @s_newR (HI @m_hName (@m_hNil_n)))))))))))))))))
noncomputable def BR:=HI @m_hCons_c (HI @m_hTup (@m_gApp))
noncomputable def BW:=HI @pk_sc (HI @fz_sc (HI @arg_sc (HI @isPk_sc (HI @asI_d (HI @asB_d (HI @asS_d (HI @asD_d (HI @asT_d (HI @asL_d (HI @asL_ml (HI @asL_pk (HI @asQ_d (HI @asQ_ml (HI @asQ_pk (HI @lstD_l (HI @tupD_t (HI @toI_i (HI @toI_b (HI @isiT_t (HI @asM_ml (HI @asSc_s (HI @two_d (@fz_d)))))))))))))))))))))))
noncomputable def BV:=HI @fz_ml (HI @fz_pk (HI @fz_reel (HI @fz_vv (HI @pk_d (HI @pk_ml (HI @pk_reel (HI @pk_vv (HI @dat_d (HI @dat_ml (HI @dat_pk (HI @isPk_d (HI @isPk_ml (HI @isPk_reel (HI @dats_nil (HI @dats_d (HI @arg_d (HI @arg_reel (HI @item_l (HI @item_t (HI @len_l (HI @len_t (HI @seq_l (@seq_t)))))))))))))))))))))))
noncomputable def BU:=HI @at0 (HI @at1 (HI @blsD_map (HI @tup2 (HI @fo_nil (HI @fo_cons (HI @nR_nil (HI @nR_r (HI @nR_n (HI @nR_d (HI @nR_ml (HI @nR_sc (HI @le_nil (HI @le_cn (HI @le_cs (HI @end_d (HI @end_ml (HI @end_nx (@un_law))))))))))))))))))
noncomputable def BZ:=HI @Ja.{0,0} (HI @Mn.{0,0} (HI @Io.{0} (HI @K1.{0} (HI @List.getElem?_cons_zero.{0} (HI @List.getElem?_cons_succ.{0} (HI @List.set_cons_zero.{0} (HI @List.set_cons_succ.{0} (HI @List.set_nil.{0} (HI @MQ.{0} (HI @List.nil_append.{0} (HI @List.all_cons.{0} (HI @List.all_nil.{0} (HI @List.head?_cons.{0} (HI @Bool.and_true (HI @Option.some.injEq.{0} (HI @Option.map_some.{0,0} (HI @Option.bind_some.{0,0} (HI @Option.bind_none.{0,0} (HI @Option.join_some.{0} (HI @Option.join_none.{0} (HI @Jb (HI @and_self (@and_true)))))))))))))))))))))))
noncomputable def BY:=HI @true_and (HI @shaped_i (HI @eqv_ii (HI @shaped_b (HI @Bool.true_and (HI @Bool.and_self (HI @JQ (HI @Jr (HI @HW.{0,0} (HI @Jo (HI @Bool.true_eq_false (HI @decide_true (HI @decide_false (HI @List.isEmpty_cons.{0} (HI @List.isEmpty_nil.{0} (@List.isEmpty_map.{0,0})))))))))))))))
noncomputable def kC:Hg:=I0 "cells"
noncomputable def kA:Hg:=I0 "at"
noncomputable def kL:Hg:=I0 "left"
noncomputable def kT:Hg:=I0 "turn"
theorem Bs:¬kC=kA:=by decide +kernel
theorem Br:¬kC=kL:=by decide +kernel
theorem Bq:¬kC=kT:=by decide +kernel
theorem Aa:¬kA=kL:=by decide +kernel
theorem z_:¬kA=kT:=by decide +kernel
theorem z9:¬kL=kT:=by decide +kernel
noncomputable def bA(c:Addr)(a l t:Int):List (Hg×V):=[(kC,.ref c),(kA,.int a),(kL,.int l),(kT,.int t)]
theorem b4{p:Hg×V}{r:List (Hg×V)}{k:Hg}(e:¬p.1=k):fy (p::r) k=fy r k:=by
 unfold fy
 rw[Jv]
 simp[e]
theorem yi(c:Addr)(a l t:Int):fy (bA c a l t) kC=some (.ref c):=cM rfl
theorem yj(c:Addr)(a l t:Int):fy (bA c a l t) kA=some (.int a):=by unfold bA;rw[b4 Bs];exact cM rfl
theorem yh(c:Addr)(a l t:Int):fy (bA c a l t) kL=some (.int l):=by unfold bA;rw[b4 Br,b4 Aa];exact cM rfl
theorem yg(c:Addr)(a l t:Int):fy (bA c a l t) kT=some (.int t):=by unfold bA;rw[b4 Bq,b4 z_,b4 z9];exact cM rfl
theorem ne'{a b:Hg}(h:¬a=b):¬b=a:=fun e=>h e.symm
theorem A4(c:Addr)(a l t n:Int):dw (bA c a l t) kA (.int n)=bA c n l t:=by
 unfold dw bA
 rw[if_pos (by simp)]
 simp[Bs,ne' Aa,ne' z_]
theorem A3(c:Addr)(a l t n:Int):dw (bA c a l t) kL (.int n)=bA c a n t:=by
 unfold dw bA
 rw[if_pos (by simp)]
 simp[Br,Aa,ne' z9]
theorem A2(c:Addr)(a l t n:Int):dw (bA c a l t) kT (.int n)=bA c a l n:=by
 unfold dw bA
 rw[if_pos (by simp)]
 simp[Bq,z_,z9]
theorem ReelOk.kv{c:Nat×List Int}{r:Addr}(h:ReelOk c F H r):∃(a l t:Int),H r=some (.dK (bA c.1 a l t))/\F c.1=some (.lst (c.2.map V.int))/\c.2.length<=63/\0<=a/\0<=l/\0<=t:=by
 obtain⟨o,e,a,l,t,rfl,q⟩:=h.ex
 exact⟨a,l,t,e,q⟩
theorem GT.put{K:W.Frag}{r:Addr}{a l t:Int}(R:VR K rl F₀ H₀ F H σ ρ)(e:rl.a=some r)(h:F rl.b.1=some (.lst (rl.b.2.map V.int))/\rl.b.2.length<=63/\0<=a/\0<=l/\0<=t) :
 VR K rl F₀ H₀ F (EB H r (.dK (bA rl.b.1 a l t))) σ ρ:=by
 have fr:F r=none:=(R.reel r e).1
 have neF:∀b u,F b=some u->b≠r:=fun b u q z=>by subst z;rw[fr]at q;cases q
 have g:Grow rl F H F (EB H r (.dK (bA rl.b.1 a l t))):=by
  refine⟨fun b o q n=>by rw[am (fun z=>n (by rw[z];exact e))];exact q,.refl F,fun b o q=>by rw[am (neF b o q)];exact R.sub b o q,fun _ _ _=>rfl,fun y z=>?_⟩
  have:y=r:=Jc (z.symm.trans e)
  subst this
  exact⟨fr,⟨_,ax,a,l,t,rfl,h⟩⟩
 exact R.grow g
section
variable{X:Cx}{rl:RlT}{e:Expr}{fa:TV}{pos p p1 p2:Pos}
noncomputable def Ew(i:Nat):TV:=fun ρ Q=>ρ[i]?=some (some .reel)/\∀n:Int,0<=n->Q (.d (.int n))
noncomputable def Ex(cs:List Int)(i:Nat):TV:=fun ρ Q=>ρ[i]?=some (some .reel)/\(cs.length<=63->Q (.d (.list (cs.map .int))))
theorem f_{K:W.Frag}{F:Hp}:∀ns:List Int,Reps K F (ns.map V.int) (ns.map Iw)
 | []=>.nil
 | n::ns=>.cons (.int n) (f_ ns)
theorem fT{k:Str}{j}(hr:Room 0 X.A)(hk:(I0 k:Hg)=kA\/(I0 k:Hg)=kL\/(I0 k:Hg)=kT)(hN:X.N[i]?=some x:=by rfl)(hv:GB X.env.scope x:=by first|exact J0 rfl|exact Jq (J0 rfl)|exact Jq (Jq rfl))
 (hd:(x==("__debug__" : Str))=false:=by decide)(hcd:(x==("__classdict__" : Str))=false:=by decide)(hs:wV (.Constant (.str k) j p2):=by exact fun _ _=>rfl):PV X rl (.Subscript (.Name x p1) (.Constant (.str k) j p2) pos) (Ew i):=by
 refine⟨_,iY (rX hr) (cG hN hv hd hcd) dq hs,fun{F₀ H₀ F H σ ρ} R Qd Q ⟨e1,q⟩ h=>?_⟩
 obtain⟨v,s1,⟨r,er,ev⟩,_⟩:=R.sl i _ e1
 subst ev
 obtain⟨_,ok⟩:=R.reel r er
 obtain⟨a,l,t,hH,_,_,b1,b2,b3⟩:=ok.kv
 have go:∀n:Int,0<=n->fy (bA rl.b.1 a l t) (I0 k)=some (.int n)->xO (AI i) (tC (.str k)) σ H Q:=fun n hn e=>by
  refine⟨.ref r,s1,r,.int n,rfl,?_,h _ (.d _) F H (Grow.refl R.sub R.reel) (.int n) trivial (q n hn)⟩
  have g:=Am.k (k:=(I0 k:Hg)) hH
  rw[e]at g
  exact g
 rcases hk with hk|hk|hk
 · exact go a b1 (by rw[hk];exact yj rl.b.1 a l t)
 · exact go l b2 (by rw[hk];exact yh rl.b.1 a l t)
 · exact go t b3 (by rw[hk];exact yg rl.b.1 a l t)
theorem fK{j}(hr:Room 0 X.A)(hN:X.N[i]?=some x:=by rfl)(hv:GB X.env.scope x:=by first|exact J0 rfl|exact Jq (J0 rfl)|exact Jq (Jq rfl))
 (hd:(x==("__debug__" : Str))=false:=by decide)(hcd:(x==("__classdict__" : Str))=false:=by decide)(hs:wV (.Constant (.str "cells") j p2):=by exact fun _ _=>rfl):PV X rl (.Subscript (.Name x p1) (.Constant (.str "cells") j p2) pos) (Ex rl.b.2 i):=by
 refine⟨_,iY (rX hr) (cG hN hv hd hcd) dq hs,fun{F₀ H₀ F H σ ρ} R Qd Q ⟨e1,q⟩ h=>?_⟩
 obtain⟨v,s1,⟨r,er,ev⟩,_⟩:=R.sl i _ e1
 subst ev
 obtain⟨_,ok⟩:=R.reel r er
 obtain⟨a,l,t,hH,hc,hl,_⟩:=ok.kv
 refine⟨.ref r,s1,r,.ref rl.b.1,rfl,?_,h _ (.d _) F H (Grow.refl R.sub R.reel) (Rep.lst hc (f_ _)) trivial (q hl)⟩
 have g:=Am.k (k:=kC) hH
 rw[yi]at g
 exact g
noncomputable def xv(i:Nat)(fa:TV):GG:=fun D ρ=>fa ρ fun w=>∃n,w = .d (.int n)/\0<=n/\ρ[i]?=some (some .reel)/\D.nx ρ
theorem iC{k:Str}{j}(hr:Room 0 X.A)(hk:(I0 k:Hg)=kA\/(I0 k:Hg)=kL\/(I0 k:Hg)=kT)(ha:PV X rl e fa)(hN:X.N[i]?=some x:=by rfl)(hv:GB X.env.scope x:=by first|exact J0 rfl|exact Jq (J0 rfl)|exact Jq (Jq rfl))
 (hd:(x==("__debug__" : Str))=false:=by decide)(hcd:(x==("__classdict__" : Str))=false:=by decide)(hsw:J4 e (some (.Subscript (.Name x p1) (.Constant (.str k) j p2) pos')) pos.line X.env=pure false:=by rfl) :
 GZ X rl (.Assign [.Subscript (.Name x p1) (.Constant (.str k) j p2) pos'] e pos) (xv i fa):=by
 obtain⟨t,p3,kk⟩:=ha
 refine⟨_,vq (rX hr) (cG hN hv hd hcd) dq p3 hsw,fun{F₀ H₀ F H σ ρ} R Dv D ok q=>kk R _ _ q fun v w F1 H1 g1 r1 n1 ⟨n,ew,hn,e1,q1⟩=>?_⟩
 subst ew
 have ev:=aL r1
 subst ev
 have R1:=R.grow g1
 obtain⟨v,s1,⟨r,er,ev⟩,_⟩:=R1.sl i _ e1
 subst ev
 obtain⟨_,okr⟩:=R1.reel r er
 obtain⟨a,l,t,hH,hc,hl,b1,b2,b3⟩:=okr.kv
 refine⟨.ref r,s1,r,_,rfl,BP.k (k:=(I0 k:Hg)) hH (oa (by show 4<=1000;decide)),?_⟩
 have go:∀a' l' t':Int,0<=a'->0<=l'->0<=t'->dw (bA rl.b.1 a l t) (I0 k) (.int n)=bA rl.b.1 a' l' t'->D.nx σ (EB H1 r (.dK (dw (bA rl.b.1 a l t) (I0 k) (.int n)))):=fun a' l' t' x1 x2 x3 e=>by
  rw[e]
  exact ok.nx _ _ _ _ g1.fs (GT.put R1 er ⟨hc,hl,x1,x2,x3⟩) q1
 rcases hk with hk|hk|hk
 · exact go n l t hn b2 b3 (by rw[hk];exact A4 rl.b.1 a l t n)
 · exact go a n t b1 hn b3 (by rw[hk];exact A3 rl.b.1 a l t n)
 · exact go a l n b1 b2 hn (by rw[hk];exact A2 rl.b.1 a l t n)
end
theorem m7(c:Addr):eA [] [(kC,V.ref c),(kA,.int 0),(kL,.int 0),(kT,.int 0)]=bA c 0 0 0:=by
 unfold eA bA
 simp only[JZ,List.foldl_nil]
 have p0:dw ([]:List (Hg×V)) kC (V.ref c)=[(kC,V.ref c)]:=rfl
 rw[p0]
 unfold dw
 simp[Bs,Br,Bq,Aa,z_,z9]
section
variable{X:Cx}{rl:RlT}{e:Expr}{fa:TV}{pos p p1 p2:Pos}{ρ:En}
noncomputable def Gx:W->Option Unit
 | .reel=>some ()
 | _=>none
theorem a_:Gx .reel=some ():=rfl
theorem CY:(((ρ[i]?).join).bind Gx=some ())↔ρ[i]?=some (some .reel):=by
 constructor
 · intro h
   cases q:ρ[i]? with
   | none=>rw[q]at h;cases h
   | some o=>rw[q]at h;cases o with
     | none=>cases h
     | some w=>cases w<;>first|rfl|cases h
 · intro h;rw[h];rfl
theorem x5{k:Unit->Mo β}{Q:β->Prop}:aV (((ρ[i]?).join).bind Gx) k Q↔ρ[i]?=some (some .reel)/\k () Q:=by
 rw[ar]
 exact⟨fun⟨u,a,q⟩=>⟨CY.mp a,q⟩,fun⟨a,q⟩=>⟨(),CY.mpr a,q⟩⟩
theorem aY(i:Nat):Ew i ρ=aV (((ρ[i]?).join).bind Gx) fun _=>Gs (anyM fun n:Int=>0<=n) fun n=>ret (.d (.int n)):=ai fun Q=>(Iff.intro (fun⟨a,q⟩=>x5.mpr ⟨a,fun n h=>q n h⟩) fun h=>⟨(x5.mp h).1,fun n hn=>(x5.mp h).2 n hn⟩)
theorem aZ(cs:List Int)(i:Nat):Ex cs i ρ=aV (((ρ[i]?).join).bind Gx) fun _=>Gs (anyM fun _:Unit=>cs.length<=63) fun _=>ret (.d (wO cs)):=ai fun Q=>(Iff.intro (fun⟨a,q⟩=>x5.mpr ⟨a,fun _ h=>q h⟩) fun h=>⟨(x5.mp h).1,fun hn=>(x5.mp h).2 () hn⟩)
theorem aA(i:Nat):mS (xv i fa) ρ=Gs (fa ρ) fun w=>aV (asI w) fun n=>Ge (0<=n) (aV (((ρ[i]?).join).bind Gx) fun _=>ret (.nx ρ)):=by
 show(Gs (fa ρ) fun w=>fun(Q:Fl->Prop)=>∃n,w = .d (.int n)/\0<=n/\ρ[i]?=some (some .reel)/\Q (.nx ρ))=_
 congr 1;funext w
 refine ai fun Q=>?_
 simp only[ar (o:=asI w),cJ,Ge,x5,ret]
end
theorem aB(xs:List Int):qE (wO xs)=some xs.length:=by show some (xs.map Iw).length=_;rw[HW]
theorem au(xs:List Int)(i:Int):itemAt (wO xs) i=(atI xs i).map .int:=cA _ _ _
section
variable{X:Cx}{rl:RlT}{e:Expr}{fa:TV}{pos dpos q1 q2 q3 q4:Pos}{ρ:En}{j1 j2 j3 j4:Nat}{a b x y:Str}
end
end L2.VL
namespace L2
theorem nj{prog:II}{R:Oh->HU->Prop}{kx vx target:Expr}{it:HQ}{D:Addr}{env:Env}(I:Nat->HU->Prop)
 (turn:∀n s,I n s->Iv (IH prog w) A (M7 it) (fun r s₁=>(r=none/\R (.ok .next) s₁)\/∃v,r=some v /\
  Iv (IH prog w) A (Kb target it v) (fun _ s₂=>Iv (IH prog w) A (KL target env v) (fun _ s₃=>Iv (IH prog w) A (dI ifs env) (fun ok s₄ =>
   if ok=true then Iv (IH prog w) A (eval kx env) (fun x s₅=>Iv (IH prog w) A (eval vx env) (fun y s₆=>Iv (IH prog w) A (dictSet D x y) (fun _ s₇=>∃m,m<n/\I m s₇) (fun _ _=>False) s₆) (fun _ _=>False) s₅) (fun _ _=>False) s₄
   else ∃m,m<n/\I m s₄) (fun _ _=>False) s₃) (fun _ _=>False) s₂) (fun _ _=>False) s₁) (fun _ _=>False) s)
 (n:Nat)(h:I n s):Km (IH prog w) A (.compLoop (.DictComp kx vx [⟨target,iter,ifs,0⟩] scope pos) 0 it (.ref D) env) R s:=by
 refine Nb rfl I (fun n s hI=>?_) n h
 show Iv _ A ((NT (.DictComp kx vx [⟨target,iter,ifs,0⟩] scope pos) 0 it (.ref D) env).onRaise (fun x=>do NU x env;L_ x)) _ _ s
 refine NB ?_
 rw[compTurn_dict]
 refine HJ (JI (HJ (IL (turn n s hI) (fun r s₁ h₁=>?_) fun _ _ h'=>h'.elim)))
 rcases h₁ with⟨rfl,h₁⟩|⟨v,rfl,h₁⟩
 · exact H_ h₁
 · refine HJ (IL h₁ (fun _ s₂ h₂=>HJ (IL h₂ (fun _ s₃ h₃=>HJ (IL h₃ (fun ok s₄ h₄=>?_) fun _ _ z=>z.elim)) fun _ _ z=>z.elim)) fun _ _ z=>z.elim)
   cases ok with
   | false=>exact H_ ⟨rfl,h₄⟩
   | true=>exact HJ (HJ (IL h₄ (fun x s₅ h₅=>HJ (J_ (IL h₅ (fun y s₆ h₆=>HJ (JI (J_ (IL h₆ (fun _ s₇ h₇=>H_ ⟨rfl,h₇⟩) fun _ _ z=>z.elim)))) fun _ _ z=>z.elim))) fun _ _ z=>z.elim))
noncomputable def nW(wi:TI)(fr:List (Option Nat))(g:CompA->TG)(tt:CompA->TT)(tk te:CompA->TE):TE:=fun σ H Q=>wi σ H fun J H1=>∀D,H1 D=none->∃Wv:Nat->Nat->List (Hg×V)->St->Hp->Prop,(∃m,Wv 0 m [] (nv fr σ) (EB H1 D (.dK []))) /\
 ∀ (z:CompA) i m acc σc H,Wv i m acc σc H->(J.stop i H/\Q (.ref D) H)\/(J.go i H/\∀x H',J.yld i H x H'->g z x σc H' fun σ2 H2=>tt z σ2 H2 fun b H3 =>
   if b=true then tk z σ2 H3 fun ky H4=>te z σ2 H4 fun y H5=>∃k:Hg,ky=kV k/\H5 D=some (.dK acc)/\acc.length<sizeLine/\∃m',m'<m/\Wv (i+1) m' (dw acc k y) σ2 (EB H5 D (.dK (dw acc k y)))else ∃m',m'<m/\Wv (i+1) m' acc σ2 H3)
theorem gK{kx vx:Expr}{g:TG}{tt:TT}{tk te:TE}{H3:Hp}{s3:HU}{D:Addr}{J:It}{Q:VK}
 (N':List Str)(fr:List (Option Nat))(hc:X.calm=true)(hkind:scope.kind = .function)(hcell:∀y∈scope.names,y.2 = .cell->scope.names.lookup y.1=some .cell)
 (hfree:∀y∈scope.names,y.2 = .free->X.env.kindOf y.1=some .cell\/X.env.kindOf y.1=some .free)(frl:fr.length=N'.length)
 (frg:∀(i j:Nat),fr[i]?=some (some j)->∃x,N'[i]?=some x/\X.N[j]?=some x/\scope.names.lookup x=some .free/\(X.env.scope.names.lookup x=some .cell\/X.env.scope.names.lookup x=some .free))
 (cl1:∀x c,cl.lookup x=some c->X.env.cells.lookup x=some c)(cl2:∀x,(x,Jj)∈scope.names->(cl.lookup x).isSome=true)
 (I3:Inv X pins σ H3 s3)(T:Turn X.prog X.w X.K tg J fp it tn)(tn3:tn 0 s3.heap)(fpD:∀b∈fp,H3 b=none)(fp3:∀b∈fp,b<s3.heap.objs.size)
 (fpk:∀b∈fp,b≠X.env.locals/\b∉X.fs/\(b∈X.ex\/X.s₀.heap.objs.size<=b)/\(∀x c,X.env.cells.lookup x=some c->c≠b)/\∀p∈X.pn++pins,p.1≠b)
 (hg:PG (bm X N' scope cl fp (X.pn++pins) s3 H3) tg g)(ht:GX (bm X N' scope cl fp (X.pn++pins) s3 H3) ifs tt)(hk:PE (bm X N' scope cl fp (X.pn++pins) s3 H3) kx tk)(he:PE (bm X N' scope cl fp (X.pn++pins) s3 H3) vx te)
 {Wv:Nat->Nat->List (Hg×V)->St->Hp->Prop}{m0:Nat}(w0:Wv 0 m0 [] (nv fr σ) H3)
 (turn:∀i m acc σc H,Wv i m acc σc H->(J.stop i H/\Q (.ref D) H)\/(J.go i H/\∀x H',J.yld i H x H'->g x σc H' fun σ2 H2=>tt σ2 H2 fun b H3 =>
  if b=true then tk σ2 H3 fun ky H4=>te σ2 H4 fun y H5=>∃k:Hg,ky=kV k/\H5 D=some (.dK acc)/\acc.length<sizeLine/\∃m',m'<m/\Wv (i+1) m' (dw acc k y) σ2 (EB H5 D (.dK (dw acc k y)))else ∃m',m'<m/\Wv (i+1) m' acc σ2 H3))
 (fin:∀s5 H4 m,s5.heap.Ns s3.heap.objs.size m->(∀h',KC s3.heap.objs.size s5.heap h'->Inv X pins σ H4 {s5 with heap:=h' })->j_ X pins H4 s3.heap.objs.size->Q (.ref D) H4->Rp s3.heap.objs.size (.ok .next) s5) :
 Iv (IH X.prog X.w) X.A (LJ scope X.env.globals cl [] X.env.qual none .none (some X.env)) (fun cenv s₄ =>
  Km (IH X.prog X.w) X.A (.compStart (.DictComp kx vx [⟨tg,iter,ifs,0⟩] scope pos) 0 (.ref it) (.ref D) {cenv with scope:=Ow scope X.env})
   (Rp cenv.locals) s₄) X.xe s3:=by
 refine cW N' fr hc hkind hcell hfree frl frg cl1 cl2 I3 T tn3 fpD fp3 fpk (fun s' IY tY stat=>?_) fin
 have loop:Km (IH X.prog X.w) X.A (.compLoop (.DictComp kx vx [⟨tg,iter,ifs,0⟩] scope pos) 0 (.ref it) (.ref D) (bm X N' scope cl fp (X.pn++pins) s3 H3).env)
  (fun r s5=>r = .ok .next/\∃σ5 H4,Inv (bm X N' scope cl fp (X.pn++pins) s3 H3) [] σ5 H4 s5/\Q (.ref D) H4) s':=by
  refine nj (fun n s'=>∃i acc σ' H',Inv (bm X N' scope cl fp (X.pn++pins) s3 H3) [] σ' H' s'/\tn i s'.heap/\(∀b∈fp,H' b=none)/\Wv i n acc σ' H') ?_ m0
   ⟨0,[],_,_,IY,tY,fpD,w0⟩
  rintro n s4 ⟨i,acc,σ4,H4,I4,st4,fr4,w4⟩
  rcases turn i n acc σ4 H4 w4 with⟨stop,qn⟩|⟨go,step⟩
  · exact EI (T.done (bm X N' scope cl fp (X.pn++pins) s3 H3) rfl rfl rfl hc i [] s4 σ4 H4 (fun _ _=>False) I4 (stat fr4) st4 stop) fun r s5 ⟨hr,I5⟩=>.inl ⟨hr,rfl,σ4,H4,I5,qn⟩
  · refine EI (T.item (bm X N' scope cl fp (X.pn++pins) s3 H3) rfl rfl rfl hc i [] s4 σ4 H4 (fun _ _=>False) I4 (stat fr4) st4 go) fun r s5 ⟨u,hr,h5⟩=>.inr ⟨u,hr,?_⟩
    refine EI h5 fun _ s6 ⟨x,H6,I6,r6,y6,st6,fr6⟩=>?_
    have I6':=I6.pinned (stat fr6) (T.obj _ _ st6)
    have again:∀{σ7:St}{H7:Hp}{s7:HU},Inv (bm X N' scope cl fp (X.pn++pins) s3 H3) ([]++ff fp s6.heap) σ7 H7 s7->∀{acc':List (Hg×V)}{m':Nat},m'<n->Wv (i+1) m' acc' σ7 H7 ->
     ∃m,m<n/\∃i acc σ' H',Inv (bm X N' scope cl fp (X.pn++pins) s3 H3) [] σ' H' s7/\tn i s7.heap/\(∀b∈fp,H' b=none)/\Wv i m acc σ' H':=fun{σ7 H7 s7} I7 {acc' m'} hm w7=>by
     refine⟨m',hm,i+1,acc',σ7,H7,I7.unpinned,T.keep _ _ _ st6 fun b hb o e=>(I7.pin (b,o) (HY _ (HY _ (bD hb e)))).1,fun b hb=>?_,w7⟩
     obtain⟨o,e,d⟩:=T.obj _ _ st6 b hb
     exact(I7.pin (b,o) (HY _ (HY _ (bD hb e)))).2.1
    refine EI (hg _ s6 σ4 H6 x u _ I6' r6 (step x H6 y6)) fun _ s7 ⟨σ7,H7,I7,q7⟩=>?_
    refine EI (ht _ s7 σ7 H7 _ I7 q7) fun ok s8 ⟨H8,I8,q8⟩=>?_
    cases ok with
    | false =>
      rw[if_neg IF]at q8 ⊢
      obtain⟨m',hm,w8⟩:=q8
      exact again I8 hm w8
    | true =>
      rw[if_pos rfl]at q8 ⊢
      refine EI (hk _ s8 σ7 H8 _ I8 q8) fun ku s9 ⟨ky,H9,I9,rk,q9⟩=>?_
      refine EI (he _ s9 σ7 H9 _ I9 q9) fun y s10 ⟨yv,H10,I10,r10,k,ek,eD,hl,m',hm,w10⟩=>?_
      subst ek
      obtain⟨z,hd,vs,rel,dd⟩:=wD I10.hok eD
      have hz:vs.length<=sizeLine:=by rw[<- rel.length];exact z
      have hl2:(dw acc k yv).length<=sizeLine:=by have:=cT acc k yv;omega
      refine wpAny_dictSet_pairs (hsz:=hz) (pK rk) dd fun h' dd' hs=>?_
      have hex:∃q,h'.get? D=some q:=let ⟨q,_,_,hq,_⟩:=dd';⟨q,hq⟩
      exact again (je I10 (by rw[eD];exact L4) hs hex (dk_new hl2 hd (rel.put k r10) dd')) hm w10
 exact codeAny_compStart_dict loop (T.self X.A 0 _ _ _ tY loop)
section
variable{X:Cx}{kx vx tg iter:Expr}{ifs:List Expr}{scope:Scope}{pos:Pos}{wi:TI}{g:CompA->TG}{tt:CompA->TT}{tk te:CompA->TE}
theorem rJ(N':List Str)(fr:List (Option Nat))(hc:X.calm=true)(hi:PI X tg iter wi)(hfr:lS fr N' X.N scope X.env.scope=true)(hsc:mP scope X.env.scope=true)
 (hg:∀y,PG (blk X N' scope y) tg (g y))(ht:∀y,GX (blk X N' scope y) ifs (tt y))(hk:∀y,PE (blk X N' scope y) kx (tk y))(he:∀y,PE (blk X N' scope y) vx (te y))
 (hs:∀x,Iz iter X.env x=pure x:=by intro _;rfl):PE X (.DictComp kx vx [⟨tg,iter,ifs,0⟩] scope pos) (nW wi fr g tt tk te):=by
 intro pins s σ H Q I h
 obtain⟨sk,sn⟩:=HV.mp hsc
 have hkind:scope.kind = .function:=of_decide_eq_true sk
 have hall:=JP.mp sn
 have hcell:∀y∈scope.names,y.2 = .cell->scope.names.lookup y.1=some .cell:=fun y hy hl=>by
  rcases Ir.mp (HV.mp (HV.mp (hall y hy)).1).1 with z|z
  · exact absurd hl (of_decide_eq_true z)
  · exact of_decide_eq_true z
 have hnames:∀y∈scope.names,y.2 = .local->scope.names.lookup y.1=some .local:=fun y hy hl=>by
  rcases Ir.mp (HV.mp (HV.mp (hall y hy)).1).2 with z|z
  · exact absurd hl (of_decide_eq_true z)
  · exact of_decide_eq_true z
 have hfree:∀y∈scope.names,y.2 = .free->X.env.kindOf y.1=some .cell\/X.env.kindOf y.1=some .free:=fun y hy hl=>by
  rcases Ir.mp (HV.mp (hall y hy)).2 with z|z
  · exact absurd hl (of_decide_eq_true z)
  · exact(Ir.mp z).imp of_decide_eq_true of_decide_eq_true
 obtain⟨frl,frg⟩:=lS.get hfr
 obtain⟨cl,hclos,cl1,cl2⟩:=cg (env:=X.env) (scope:=scope) fun y hy hl=>I.ok.has y.1 (hfree y hy hl)
 rw[arm_eval_DictComp]
 refine JU (use:=none) rfl hs hclos hkind hnames (EI (hi pins s σ H _ I h) fun v s1 h1=>EI h1 fun itv s2 h2=>?_)
 obtain⟨it,fp,tn,J,H2,e,I2,T,st2,f2,q2⟩:=h2
 subst e
 refine Jg ?_
 have hD:H2 s2.heap.objs.size=none:=I2.hok.fresh (HX _)
 have I3:Inv X pins σ (EB H2 s2.heap.objs.size (.dK [])) {s2 with heap:=s2.heap.push {cls:=.type "dict", data:=.dict #[]}} :=
  I2.laid (t':=s2.toks) (fun b u e=>HN _ e) (HX _) (jd s2.heap I2.big)
 obtain⟨Wv,⟨m0,w0⟩,turn⟩:=q2 _ hD
 have tn3:tn 0 (s2.heap.push {cls:=.type "dict", data:=.dict #[]}):=T.keep _ _ _ st2 fun b _ o e=>HN _ e
 have fpD:∀b∈fp,(EB H2 s2.heap.objs.size (.dK [])) b=none:=fun b hb=>by
  obtain⟨o,e,_⟩:=T.obj _ _ st2 b hb
  rw[am (IP (Ii e))]
  exact(f2 b hb).1
 have fp3:∀b∈fp,b<(s2.heap.push {cls:=.type "dict", data:=.dict #[]}).objs.size:=fun b hb=>by
  obtain⟨o,e,_⟩:=T.obj _ _ tn3 b hb
  exact Ii e
 exact gK N' fr hc hkind hcell hfree frl frg cl1 cl2 I3 T tn3 fpD fp3 (fun b hb=>(f2 b hb).2) (hg ⟨cl,fp,X.pn++pins,_,_⟩) (ht ⟨cl,fp,X.pn++pins,_,_⟩) (hk ⟨cl,fp,X.pn++pins,_,_⟩) (he ⟨cl,fp,X.pn++pins,_,_⟩) w0 (turn ⟨cl,fp,X.pn++pins,_,_⟩)
  (Rp:=NV (IH X.prog X.w) X.A X.xe none (EP X pins σ Q) (.ref s2.heap.objs.size)) fun s5 H4 m hn k _ qn=>⟨m,hn,fun h' hs'=>⟨.ref _,H4,k h' hs',rfl,qn⟩⟩
theorem kE{ix:Nat}(N':List Str)(fr:List (Option Nat))(hc:X.calm=true)(hi:PI X tg iter wi)(hfr:lS fr N' X.N scope X.env.scope=true)(hsc:mP scope X.env.scope=true)
 (hg:∀y,PG (blk X N' scope y) tg (g y))(ht:∀y,GX (blk X N' scope y) ifs (tt y))(hk:∀y,PE (blk X N' scope y) kx (tk y))(he:∀y,PE (blk X N' scope y) vx (te y))(hN:X.N.Nodup)(hix:X.N[ix]?=some x)(hx:Loc X.env.scope x)
 (hf:X.fn x=true\/X.env.scope.names.lookup x=some .local)(hsw:J4 (.DictComp kx vx [⟨tg,iter,ifs,0⟩] scope pos) (some (.Name x px)) spos.line X.env=pure b)
 (hs:∀x,Iz iter X.env x=pure x):PS X (.Assign [.Name x px] (.DictComp kx vx [⟨tg,iter,ifs,0⟩] scope pos) spos) (xR (nW wi fr g tt tk te) (jb ix)):=by
 cases b with
 | false=>exact gh hN hix hx (rJ N' fr hc hi hfr hsc hg ht hk he hs) hsw hf
 | true =>
 intro pins s σ H DD I h
 obtain⟨sk,sn⟩:=HV.mp hsc
 have hkind:scope.kind = .function:=of_decide_eq_true sk
 have hall:=JP.mp sn
 have hcell:∀y∈scope.names,y.2 = .cell->scope.names.lookup y.1=some .cell:=fun y hy hl=>by
  rcases Ir.mp (HV.mp (HV.mp (hall y hy)).1).1 with z|z
  · exact absurd hl (of_decide_eq_true z)
  · exact of_decide_eq_true z
 have hnames:∀y∈scope.names,y.2 = .local->scope.names.lookup y.1=some .local:=fun y hy hl=>by
  rcases Ir.mp (HV.mp (HV.mp (hall y hy)).1).2 with z|z
  · exact absurd hl (of_decide_eq_true z)
  · exact of_decide_eq_true z
 have hfree:∀y∈scope.names,y.2 = .free->X.env.kindOf y.1=some .cell\/X.env.kindOf y.1=some .free:=fun y hy hl=>by
  rcases Ir.mp (HV.mp (hall y hy)).2 with z|z
  · exact absurd hl (of_decide_eq_true z)
  · exact(Ir.mp z).imp of_decide_eq_true of_decide_eq_true
 obtain⟨frl,frg⟩:=lS.get hfr
 obtain⟨cl,hclos,cl1,cl2⟩:=cg (env:=X.env) (scope:=scope) fun y hy hl=>I.ok.has y.1 (hfree y hy hl)
 rw[LN _ _ _ _ hsw]
 refine HJ (JI (HJ ?_))
 show Iv _ X.A (do let _ <- NW (.DictComp kx vx [⟨tg,iter,ifs,0⟩] scope pos) scope X.env _ newDict false (eval iter X.env) (some (KL (.Name x px) X.env))) _ _ s
 refine HJ (IL (JU (use:=some (KL (.Name x px) X.env)) (Q:=fun _ s'=>SP X pins DD .next s') rfl hs hclos hkind hnames
  (EI (hi pins s σ H _ I h) fun v s1 h1=>EI h1 fun itv s2 h2=>?_)) (fun _ s' hq=>H_ (H_ hq)) fun _ _ e=>e)
 obtain⟨it,fp,tn,J,H2,e,I2,T,st2,f2,q2⟩:=h2
 subst e
 refine Jg ?_
 have hD:H2 s2.heap.objs.size=none:=I2.hok.fresh (HX _)
 have I3:Inv X pins σ (EB H2 s2.heap.objs.size (.dK [])) {s2 with heap:=s2.heap.push {cls:=.type "dict", data:=.dict #[]}} :=
  I2.laid (t':=s2.toks) (fun b u e=>HN _ e) (HX _) (jd s2.heap I2.big)
 obtain⟨Wv,⟨m0,w0⟩,turn⟩:=q2 _ hD
 have tn3:tn 0 (s2.heap.push {cls:=.type "dict", data:=.dict #[]}):=T.keep _ _ _ st2 fun b _ o e=>HN _ e
 have fpD:∀b∈fp,(EB H2 s2.heap.objs.size (.dK [])) b=none:=fun b hb=>by
  obtain⟨o,e,_⟩:=T.obj _ _ st2 b hb
  rw[am (IP (Ii e))]
  exact(f2 b hb).1
 have fp3:∀b∈fp,b<(s2.heap.push {cls:=.type "dict", data:=.dict #[]}).objs.size:=fun b hb=>by
  obtain⟨o,e,_⟩:=T.obj _ _ tn3 b hb
  exact Ii e
 refine gK (Q:=fun v H1=>jb ix v σ H1 DD.nx) N' fr hc hkind hcell hfree frl frg cl1 cl2 I3 T tn3 fpD fp3 (fun b hb=>(f2 b hb).2) (hg ⟨cl,fp,X.pn++pins,_,_⟩) (ht ⟨cl,fp,X.pn++pins,_,_⟩) (hk ⟨cl,fp,X.pn++pins,_,_⟩) (he ⟨cl,fp,X.pn++pins,_,_⟩) w0 (turn ⟨cl,fp,X.pn++pins,_,_⟩)
  (Rp:=NV (IH X.prog X.w) X.A X.xe (some (KL (.Name x px) X.env)) (fun _ s'=>SP X pins DD .next s') (.ref s2.heap.objs.size)) fun s5 H4 m hn k fpo qn=>?_
 show Iv _ X.A (KL (.Name x px) X.env (.ref s2.heap.objs.size)) _ _ s5
 have I5:Inv X pins σ H4 s5:=k s5.heap (MD _ _)
 obtain⟨f0,f1,f2',f3,f4,f5⟩:=fpo
 refine LB (d0 I5 hN hix hx (v:=.ref s2.heap.objs.size) rfl (fun s6 I6 sb=>?_) hf)
 obtain⟨a,sb,ha⟩:=sb
 have hne:(s2.heap.push {cls:=.type "dict", data:=.dict #[]}).objs.size≠a:=by
  rcases ha with rfl|ha
  · exact f1
  · exact fun z=>f4 x a ha z.symm
 refine⟨m,hn.at' fun o e=>sb.extBut _ o hne e,fun h' hs'=>?_⟩
 exact⟨_,H4,I6.turned (t':=s6.toks) (fun b o hb e=>hs'.extBut b o hb e) f0 f1 f3 f4 f5,qn⟩
end
noncomputable def cx:Option Int->List Int->Option Int
 | o,[]=>o
 | none,n::r=>cx (some n) r
 | some m,n::r=>cx (some (if n>m then n else m)) r
theorem qA(a d:HQ):argsOk "max" ⟨[a],[(HG "default", d)]⟩:=by unfold argsOk;kernel_rfl
section
variable{prog:II}{w:Ju}{A:Jz}{E:HQ->HU->Prop}
noncomputable def zX(o:Option Int)(arr:Array HQ):Prop:=match o with
 | none=>arr = #[]
 | some m=>∃t,arr = #[.int m t,.int m t]
theorem pq{R:Oh->HU->Prop}{I l S:Addr}{vs:List HQ}{d:HQ}(hh:A.handled=none)(hI:L8 vs ns)(hl:l≠I)(hSI:S≠I)(hSl:S≠l) :
 ∀ (k j:Nat)(s:HU)(o:Option Int)(arr:Array HQ)(c:Nat),vs.length-j=k->j<=vs.length->zX o arr->s.heap.IsListIter I l j->s.heap.IsList l vs.toArray ->
   s.heap.get? S=some {cls:=.type "list", dict:=none,data:=.seq arr c,slots:=#[]} ->
   (∀v h' tk,(cx o (ns.drop j)=none/\v=d\/∃m t,cx o (ns.drop j)=some m/\v = .int m t)->(∀b q,b≠I->b≠S->s.heap.get? b=some q->h'.get? b=some q)->R (.ok (.ret v)) {s with heap:=h',toks:=tk}) ->
   Km (IH prog w) A (.builtin "max.loop" ⟨[.ref I,.none,.ref S],[(HG "default", d)]⟩) R s:=by
 have hn:(toString "max" ++ toString ".loop" : String) = "max.loop" := by decide
 have W:=Walks.list (prog:=prog) (w:=w) (A:=A.in1) hh I l hl vs.toArray
 have hz:vs.toArray.size=vs.length:=Il ..
 have len:vs.length=ns.length:=hI.length
 intro k
 induction k with
 | zero =>
   intro j s o arr c hk hj hb h1 h2 hS hR
   have ej:j=vs.length:=by omega
   subst ej
   have ed:ns.drop vs.length=[]:=by rw[len];exact Ks
   rw[ed]at hR
   refine codeAny_builtin (M1) ?_;rw[Nq J6 _]
   show Iv _ A.in1 (Om (.ref S) >>= _) _ _ s;refine HJ (Mv hS rfl ?_)
   show Iv _ A.in1 (tryCatch (M7 (.ref I)) _ >>= _) _ _ s;refine HJ (Nv (W.done s _ _ (by rw[hz];exact⟨h1,h2⟩) fun h' tk kp=>?_))
   have kp':∀b q,b≠I->s.heap.get? b=some q->h'.get? b=some q:=fun b q n e=>kp b q (by simpa using n) e
   cases o with
   | none =>
     cases(show arr = #[]from hb)
     exact HJ (L1 (H_ (hR d h' tk (.inl ⟨rfl,rfl⟩) fun b q n _ e=>kp' b q n e)))
   | some m =>
     obtain⟨t,rfl⟩:=(show ∃t,arr = #[.int m t,.int m t]from hb)
     show Iv _ A.in1 (updateSeq S (fun _=>#[]) >>= _) _ _ _;refine HJ (Ng (kp' S _ hSI hS) rfl (HJ (MK (H_ ?_))))
     exact hR _ _ tk (.inr ⟨m,t,rfl,rfl⟩) fun b q n n2 e=>(JA _ _ n2.symm).trans (kp' b q n e)
 | succ k ih =>
   intro j s o arr c hk hj hb h1 h2 hS hR
   have hlt:j<vs.length:=by omega
   refine codeAny_builtin (M1) ?_;rw[Nq J6 _]
   show Iv _ A.in1 (Om (.ref S) >>= _) _ _ s;refine HJ (Mv hS rfl ?_)
   show Iv _ A.in1 (tryCatch (M7 (.ref I)) _ >>= _) _ _ s;refine HJ (Nv (W.item j s _ _ (by rw[hz];exact hlt) ⟨h1,h2⟩ fun v h' tk hP st kp=>?_))
   have kp':∀b q,b≠I->s.heap.get? b=some q->h'.get? b=some q:=fun b q n e=>kp b q (by simpa using n) e
   have hS':=kp' S _ hSI hS
   have hv:vs[j]?=some v:=by simpa using hP
   obtain⟨n,t,en,rfl⟩:∃n t,ns[j]?=some n/\v = .int n t:=by
    have hv':=hv
    clear hR ih hk hj hlt h1 h2 hP st W hz len
    induction hI generalizing j with
    | nil=>simp at hv'
    | cons n t r ih2 =>
      cases j with
      | zero=>simp at hv';subst hv';exact⟨n,t,rfl,rfl⟩
      | succ j=>simp at hv';simpa using ih2 j (by simpa using hv) hv'
   have ed:ns.drop j=n::ns.drop (j+1):=by
    have hj2:j<ns.length:=by omega
    rw[Jx hj2]
    rw[Ia hj2]at en
    cases en
    rfl
   rw[ed]at hR
   have put:∀(o2:Option Int)(t2:Tok),o2=some n->t2=t->cx o (n::ns.drop (j+1))=cx (some n) (ns.drop (j+1)) ->
    Km (IH prog w) A (.builtin "max.loop" ⟨[.ref I,.none,.ref S],[(HG "default", d)]⟩) R {s with heap:=h'.update S (L3 fun _=>#[.int n t,.int n t]),toks:=tk}:=fun o2 t2 _ _ er=>by
    refine ih (j+1) _ (some n) #[.int n t,.int n t] _ (by omega) (by omega) ⟨t,rfl⟩ (st.1.at fun q e=>(JA _ _ hSI).trans e) (st.2.at fun q e=>(JA _ _ hSl).trans e) (LM _ hS' rfl) fun v2 h2 tk2 hv2 kp2=>?_
    rw[<- er]at hv2
    exact hR v2 h2 tk2 hv2 fun b q n1 n2 e=>kp2 b q n1 n2 ((JA _ _ n2.symm).trans (kp' b q n1 e))
   cases o with
   | none =>
     cases(show arr = #[]from hb)
     show Iv _ A.in1 (updateSeq S (fun _=>#[.int n t,.int n t]) >>= _) _ _ _;refine HJ (Ng hS' rfl ?_)
     rw[hn]
     exact H_ ⟨ML J6 _,put _ _ rfl rfl rfl⟩
   | some m =>
     obtain⟨t0,rfl⟩:=(show ∃t,arr = #[.int m t,.int m t]from hb)
     show Iv _ A.in1 (tryCatch (MH [.int n t,.int n t] (richCompare .Gt (.int n t) (.int m t0) >>= _)) _ >>= _) _ _ _
     have cm:CmpOf prog w A.in1 .Gt (fun i v=>∃x t,v=M4 x t/\x=(if i=0 then m else n)) (fun i j=>decide ((if i=0 then m else n)>(if j=0 then m else n))):=PySem.CmpOf.ints_gt (fun i=>if i=0 then m else n) fun i v ⟨x,t,e,e2⟩=>⟨t,by rw[e,e2]⟩
     refine HJ (Nv (J_ (HJ (cm 1 0 _ _ _ _ _ ⟨n,t,rfl,rfl⟩ ⟨m,t0,rfl,rfl⟩ ?_))))
     refine HJ (J_ (JT (HJ (MK (H_ ?_)))))
     by_cases hg:n>m
     · simp only[if_neg (show ¬((1:Nat)=0) by decide),if_pos (show(0:Nat)=0 from rfl),decide_eq_true hg,if_true]
       refine HJ (Ng hS' rfl (HJ (MK ?_)))
       rw[hn]
       exact H_ ⟨ML J6 _,put _ _ rfl rfl (by simp only[cx,if_pos hg])⟩
     · simp only[if_neg (show ¬((1:Nat)=0) by decide),if_pos (show(0:Nat)=0 from rfl),if_true,decide_eq_false hg,Jb,if_false]
       refine HJ (MK ?_)
       rw[hn]
       refine H_ ⟨ML J6 _,ih (j+1) _ (some m) _ c (by omega) (by omega) ⟨t0,rfl⟩ st.1 st.2 hS' fun v2 h2 tk2 hv2 kp2=>?_⟩
       refine hR v2 h2 tk2 ?_ fun b q n1 n2 e=>kp2 b q n1 n2 (kp' b q n1 e)
       simp only[cx,if_neg hg]
       exact hv2
theorem kP{l:Addr}{vs:List HQ}{d:HQ}(hh:A.handled=none)(hI:L8 vs ns)(hls:s.heap.IsList l vs.toArray)
 (hQ:∀v h' tk,(cx none ns=none/\v=d\/∃m t,cx none ns=some m/\v = .int m t)->(∀b q,s.heap.get? b=some q->h'.get? b=some q)->Q v {s with heap:=h',toks:=tk}) :
 Iv (IH prog w) A (call (.builtin "max") [.ref l] [(HG "default", d)]) Q E s:=by
 have hn:(toString "max" ++ toString ".loop" : String) = "max.loop" := by decide
 obtain⟨ol,hol,_⟩:=id hls
 have hll:l<s.heap.objs.size:=Ii hol
 refine PyProof.Rows.kmk_tree (PySem.F.kind_max) PySem.F.plain_max PySem.F.entry_max (qA _ _) ?_
 show Iv _ A.in1 (Mc "max" ["key", "default"] 0 ⟨[],[(HG "default", d)]⟩ >>= _) _ _ s
 refine HJ (On (show Mc "max" ["key", "default"] 0 ⟨[],[(HG "default", d)]⟩=pure [none,some d]from rfl) ?_)
 refine HJ (H_ (HJ (K8 hls (HJ (wpAny_newList ?_ (Ix _))))))
 rw[hn]
 have zI:(s.heap.push {cls:=.type "list_iterator", data:=.fields #[.ref l,.int 0 0]}).objs.size=s.heap.objs.size+1:=size_push' ..
 refine H_ ⟨ML J6 _,?_⟩
 refine pq (I:=s.heap.objs.size) (l:=l) hh hI (IP hll) (by rw[zI];exact KY (Nat.lt_succ_self _)) (by rw[zI];exact KY (ME hll)) vs.length 0 _ none #[] 0 (by omega) (Ix _) rfl
  ⟨_,HN _ (Im _ rfl),rfl,rfl⟩ (hls.at fun q e=>HN _ (HN _ e)) (Im _ rfl) fun v h' tk hv kp=>?_
 refine hQ v h' tk (by simpa using hv) fun b q e=>?_
 have hb:=Ii e
 exact kp b q (IP hb) (by rw[zI];exact IP (ME hb)) (HN _ (HN _ e))
end
section
variable{X:Cx}
theorem eG{P:II}{w:Ju}:∀{vs:List (Hg×HQ)}{ns:List Int}{l:List HQ},vs.map (·.1)=ns.map Kj->l.length=vs.length ->
 (∀(i:Nat) v,l[i]?=some v->∃k x,vs[i]?=some (k,x)/\(bE P w).is k v=true)->L8 l ns
 | [],[],[],_,_,_=>.nil
 | [],[],_::_,_,h,_=>by simp at h
 | [],_::_,_,h,_,_=>by simp at h
 | _::_,[],_,h,_,_=>by simp at h
 | _::_,_::_,[],_,h,_=>by simp at h
 | (k,x)::vs,n::ns,v::l,h1,h2,h3=>by
   simp only[Ja,Jp]at h1
   obtain⟨k',x',e,hv⟩:=h3 0 v rfl
   simp at e
   obtain⟨rfl,rfl⟩:=e
   rw[h1.1]at hv
   have hv:kR (Kj n) v=true:=hv
   rcases bp hv with⟨i,t,e1,e2⟩|⟨y,t,e1,e2⟩
   · cases e1
     subst e2
     exact .cons n t (eG (P:=P) (w:=w) h1.2 (by simpa using h2) fun i v hv=>by simpa using h3 (i+1) v (by simpa using hv))
   · cases e1
theorem ki{prog:II}{vs:List (Hg×HQ)}(hh:A.handled=none)(hd:(a==K7)=false)
 (dd:s.heap.DictOf (bE prog w) a vs)(hk:vs.map (·.1)=ns.map Kj)(h64:ns.length<64)
 (h:∀(h0 h':Heap)(tk:Nat)(out:Array HQ)(ns':List Int)(c:Nat),(∀b o,s.heap.get? b=some o->h0.get? b=some o)->(∀b o,h0.get? b=some o->h'.get? b=some o)->h'.get? h0.objs.size=some (Oo "list" out c) ->
  L8 out.toList ns'->ns'.Perm ns->ns'.Pairwise (· <= ·)->Q (.ref h0.objs.size) {s with heap:=h',toks:=tk}) :
 Iv (IH prog w) A (call (.builtin "sorted") [.ref a]) Q E s:=by
 obtain⟨ep,da⟩:=dd.dictAt
 have sz:=Is
 have hl:vs.length=ns.length:=by have:=congrArg List.length hk;simpa using this
 refine Calls.call_function_entry kind_sorted plain_sorted entry_sorted (args_sorted1 (.ref a)) ?_;unfold Builtin.«sorted»
 refine HJ (m:=checkCount "sorted" 1 1 _) (H_ (HJ (W.kdu_collect (A:=A.in1) (W.kdl_dict (knd:=bE prog w) (kvs:=vs) (ep:=ep) hd) hh da (by omega) fun h0 tk acc k0 hacc=>HJ (wpAny_newList ?_ ?_))))
 · have iA:L8 acc.toList ns:=eG (P:=prog) (w:=w) hk (by rw[KG];exact hacc.1) fun i v e=>hacc.2 i v (by rw[<- Array.getElem?_toList];exact e)
   have l64:acc.toList.length<64:=by rw[iA.length];exact h64
   have hoL:(h0.push (Oo "list" acc.toList.toArray 0)).get? h0.objs.size=some (Oo "list" acc.toList.toArray 0):=Im _ rfl
   show Iv _ _ _ _ _ {s with heap:=h0.push (Oo "list" acc.toList.toArray 0),toks:=tk}
   refine HJ (J_ (Kr slot_list_sort ⟨_,hoL,rfl⟩ entry_list_sort (list_sort_tree (s:={s with heap:=h0.push (Oo "list" acc.toList.toArray 0),toks:=tk}) hoL iA l64 fun out ns' q1 q2 q3=>⟨_,rfl,?_⟩) (args_list_sort _)))
   have e1:=get?_update_seq hoL (fun _=>#[])
   have e2:((((h0.push (Oo "list" acc.toList.toArray 0)).update h0.objs.size (L3 fun _=>#[])).push (Oo "tuple" acc.toList.toArray 0)).push (Oo "list" #[] 0)).get? h0.objs.size=_ :=
    HN _ (HN _ e1)
   have e3:=get?_update_seq e2 (fun _=>out)
   refine H_ ⟨_,rfl,h h0 _ _ out ns' _ k0 (fun b ob eb=>?_) e3 q1 q2 q3⟩
   have ne:h0.objs.size≠b:=KY (Ii eb)
   exact(JA _ _ ne).trans (HN _ (HN _ ((JA _ _ ne).trans (HN _ eb))))
 · rw[KG,hacc.1];omega
theorem jT(hc:X.calm=true):eP X (.builtin "sorted") (fun xs H Q=>∃(a:Addr)(us:List (Hg×V))(ns:List Int),xs=[.ref a]/\Rd H a (.dK us)/\us.map (·.1)=ns.map Kj/\ns.length<64 /\
 ∀ns':List Int,ns'.Perm ns->ns'.Pairwise (· <= ·)->∀l,H l=none->Q (.ref l) (EB H l (.lst (ns'.map V.int)))):=by
 intro pins s σ H xs us Q I r ⟨a,vs,ns,ex,hq,hk,h64,q⟩
 subst ex
 obtain⟨u,rfl,ru⟩:=vals1 r
 cases ru
 obtain⟨z,hd,ws,rel,dd⟩:=sF I.hok hq
 have sz:=Is
 refine ki (I.ok.hd hc) hd dd (by rw[<- rel.keys];exact hk) h64 fun h0 h' tk out ns' c k0 k1 e a1 a2 a3=>?_
 have I1:Inv X pins σ H {s with heap:=h0}:=I.kept (t':=s.toks) k0
 refine⟨.ref h0.objs.size,_,I1.laid (t':=tk) (o:=.lst (ns'.map V.int)) k1 (HX _) ⟨?_,out.toList,c,mD a1,by rw[Np];exact e⟩,rfl,q ns' a2 a3 _ (I1.hok.fresh (HX _))⟩
 rw[HW,a2.length_eq]
 omega
noncomputable def FB(d:V)(ns:List Int):V:=match cx none ns with
 | none=>d
 | some m=>.int m
noncomputable def AM(K:W.Frag)(t tk:TA):TE:=fun σ H Q=>t σ H fun vs H1=>tk σ H1 fun zs H2=>∃l ns d,vs=[.ref l]/\zs=[d]/\GN K H2 l (ns.map V.int)/\Q (FB d ns) H2
theorem vF{e:Expr}{t tk:TA}{p kpos:Pos}(hc:X.calm=true)(hm:X.mg "max" = none)(ha:PA X [e] t)(hk:PK X [⟨some "default", c,kpos⟩] tk)(hg:Gl X "max")
 (he:JR pos (HZ [e] X.env)=(false,eval e X.env)::JR pos (HZ [] X.env):=by rfl)(hpl:(JR pos (HZ [e] X.env)).any (·.1)=false:=by rfl) :
 PE X (.Call (.Name "max" p) [e] [⟨some "default", c,kpos⟩] pos) (AM X.K t tk):=by
 intro pins s σ H Q I h
 refine KR (gB I hg hm (by rfl) ?_ (by decide) (by decide))
 refine PyProof.Rows.callWith_kw (EI (ha pos pins s σ H _ I h) fun us s1 ⟨vs,H1,I1,r1,q1⟩=>?_) he hpl
 refine EI (hk pos pins s1 σ H1 _ I1 q1) fun ws s2 ⟨zs,H2,I2,r2,l,ns,d,e1,e2,sq,q2⟩=>?_
 subst e1 e2
 obtain⟨u,rfl,ru⟩:=vals1 r1
 obtain⟨w',rfl,rw'⟩:=vals1 r2
 cases ru
 obtain⟨its,rv,pl,hz⟩:=I2.list sq
 show Iv _ _ (call (.builtin "max") [.ref l] [(HG "default", w')]) _ _ _
 refine kP (I.ok.hd hc) (intsAre_of rv) pl.isList fun v h' tk hv kp=>⟨FB d ns,H2,I2.kept kp,?_,q2⟩
 rcases hv with⟨e,rfl⟩|⟨m,t,e,rfl⟩
 · unfold FB;rw[e];exact rw'
 · unfold FB;rw[e];exact⟨t,rfl⟩
end
end L2
theorem L2.Room.un1{k:Nat}{A:PySem.Around}(r:L2.Room k A):A.units+1<PySem.cLine:=by have:=r.un;omega
namespace L2.VL
noncomputable def hV(kvs:List (Hg×HH))(k:Hg):Option HH:=(kvs.find? fun kv=>decide (kv.1=k)).map (·.2)
noncomputable def putF(kvs:List (Hg×HH))(k:Hg)(x:HH):List (Hg×HH) :=
 if(kvs.any fun kv=>decide (kv.1=k))=true then kvs.map (fun kv=>if kv.1=k then(kv.1,x)else kv)else kvs++[(k,x)]
section
variable{K:W.Frag}{F:Hp}{us:List (Hg×V)}{kvs:List (Hg×HH)}
theorem Hi.val(r:Hi K F us kvs)(k:Hg):(fy us k=none/\hV kvs k=none)\/∃v d,fy us k=some v/\hV kvs k=some d/\Rep K F v d:=by
 induction r with
 | nil=>exact .inl ⟨rfl,rfl⟩
 | @cons p q ps qs h t ih =>
   unfold fy hV at *
   rw[Jv,Jv,h.1]
   by_cases e:q.1=k
   · simp only[e,decide_true]
     exact .inr ⟨p.2,q.2,rfl,rfl,h.2⟩
   · simp only[e,decide_false]
     exact ih
theorem Hi.any(r:Hi K F us kvs)(k:Hg):(us.any fun kv=>decide (kv.1=k))=kvs.any fun kv=>decide (kv.1=k):=by
 induction r with
 | nil=>rfl
 | cons h t ih=>rw[Lw,Lw,ih,h.1]
theorem Hi.keys(r:Hi K F us kvs):us.map (·.1)=kvs.map (·.1):=by
 induction r with
 | nil=>rfl
 | cons h t ih=>rw[Ja,Ja,ih,h.1]
theorem Hi.repl(r:Hi K F us kvs)(k:Hg)(rv:Rep K F v d):Hi K F (us.map fun kv=>if kv.1=k then(kv.1,v)else kv) (kvs.map fun kv=>if kv.1=k then(kv.1,d)else kv):=by
 induction r with
 | nil=>exact .nil
 | @cons p q ps qs h t ih =>
   refine .cons ?_ ih
   show(if p.1=k then(p.1,v)else p).1=(if q.1=k then(q.1,d)else q).1/\Rep K F (if p.1=k then(p.1,v)else p).2 (if q.1=k then(q.1,d)else q).2
   by_cases e:q.1=k
   · have e':p.1=k:=h.1.trans e
     rw[if_pos e,if_pos e']
     exact⟨h.1,rv⟩
   · have e':¬p.1=k:=fun z=>e (h.1.symm.trans z)
     rw[if_neg e,if_neg e']
     exact h
theorem Hi.snoc(r:Hi K F us kvs)(k:Hg)(rv:Rep K F v d):Hi K F (us++[(k,v)]) (kvs++[(k,d)]):=by
 induction r with
 | nil=>exact .cons ⟨rfl,rv⟩ .nil
 | cons h t ih=>exact .cons h ih
theorem Hi.put(r:Hi K F us kvs)(k:Hg)(rv:Rep K F v d):Hi K F (dw us k v) (putF kvs k d):=by
 unfold dw putF
 rw[r.any k]
 split
 · exact r.repl k rv
 · exact r.snoc k rv
theorem Hi.mono{F':Hp}(s:bF F F')(r:Hi K F us kvs):Hi K F' us kvs:=Jy.mapP r fun _ _ z=>⟨z.1,z.2.mono s⟩
end
noncomputable def nu:W->Option Hg
 | .d (.int i)=>some (.inl i)
 | .d (.str x)=>some (.inr x)
 | _=>none
noncomputable def asFd:W->Option (List (Hg×HH))
 | .fd kvs=>some kvs
 | _=>none
theorem keyW_i(i:Int):nu (.d (.int i))=some (.inl i):=rfl
theorem keyW_s(x:Str):nu (.d (.str x))=some (.inr x):=rfl
theorem asFd_f(kvs:List (Hg×HH)):asFd (.fd kvs)=some kvs:=rfl
theorem wK{w:W}{kvs:List (Hg×HH)}:asFd w=some kvs↔w = .fd kvs:=by
 constructor
 · intro h;unfold asFd at h;split at h<;>simp_all
 · rintro rfl;rfl
theorem lM{K:W.Frag}{w:W}{k:Hg}(e:nu w=some k)(r:du K rl F H v w):v=kV k:=by
 unfold nu at e
 split at e
 · cases e;exact aL r
 · cases e;exact gc r
 · cases e
theorem isPk_fd(kvs:List (Hg×HH)):(W.fd kvs).isPk=false:=rfl
theorem fz_fd(kvs:List (Hg×HH)):(W.fd kvs).fz = .fd kvs:=rfl
theorem pk_fd(kvs:List (Hg×HH)):(W.fd kvs).peek = .fd kvs:=rfl
noncomputable def sV(ρ0:En)(g:GK)(ft:TB)(fk fe:TV):List HH->List (Hg×HH)->(List (Hg×HH)->Prop)->Prop
 | [],acc,Q=>Q acc
 | x::xs,acc,Q=>g x ρ0 fun ρ2=>Le ρ0 ρ2/\ft ρ2 fun b=>if b=true then fk ρ2 fun wk=>∃k,nu wk=some k/\fe ρ2 fun w=>∃d,w.fz = .d d/\acc.length<sizeLine/\sV ρ0 g ft fk fe xs (putF acc k d) Q else sV ρ0 g ft fk fe xs acc Q
noncomputable def nT(fi:En->(List HH->Prop)->Prop)(fr:List (Option Nat))(g:GK)(ft:TB)(fk fe:TV):TV:=fun ρ Q=>fi ρ fun xs=>sV (dS fr ρ) g ft fk fe xs [] fun kvs=>Q (.fd kvs)
section
variable{X:Cx}{rl:RlT}{kx vx tg iter:Expr}{ifs:List Expr}{scope:Scope}{pos:Pos}{fi:En->(List HH->Prop)->Prop}{g:GK}{ft:TB}{fk fe:TV}
theorem wE{N':List Str}{wi:TI}(fr:List (Option Nat))(k0:∀{F₀ H₀ F H:Hp}{σ:St}{ρ:En},VR X.K rl F₀ H₀ F H σ ρ->∀(Qd:List HH->Prop)(R:It->Hp->Prop),fi ρ Qd ->
 (∀J xs F' H',Grow rl F H F' H'->VIt X.K rl F' J xs->Qd xs->R J H')->wi σ H R)
 (hg:∀y,G7 (blk X N' scope y) rl tg g)(ht:∀y,mB (blk X N' scope y) rl ifs ft)(hk:∀y,PV (blk X N' scope y) rl kx fk)(he:∀y,PV (blk X N' scope y) rl vx fe)
 (R:VR X.K rl F₀ H₀ F H σ ρ)(Qd:W->Prop)(Q:VK)(q:nT fi fr g ft fk fe ρ Qd)
 (k:∀v w F' H',Grow rl F H F' H'->du X.K rl F' H' v w->dR H v w->Qd w->Q v H'):nW wi fr (fun y=>Jm (hg y)) (fun y=>Jm (ht y)) (fun y=>Jm (hk y)) (fun y=>Jm (he y)) σ H Q:=by
 refine k0 R _ _ q fun J xs F1 H1 g1 vi q1=>?_
 intro D hD
 have rD:rl.a≠some D:=fun e=>by obtain⟨o,z⟩:=g1.reel.live e;rw[hD]at z;cases z
 have FD:F1 D=none:=g1.sub.free hD
 have gD:Grow rl F1 H1 F1 (EB H1 D (.dK [])):=Grow.laid g1.sub g1.reel hD
 have R1:=R.grow g1
 have n0:j9 (dS fr ρ):=dz
 refine⟨fun i m acc σc Hc=>m=xs.length-i/\i<=xs.length/\∃Fc ds,VR X.K rl F1 H1 Fc Hc σc (dS fr ρ)/\Hc D=some (.dK acc)/\Fc D=none/\Hi X.K Fc acc ds/\sV (dS fr ρ) g ft fk fe (xs.drop i) ds (fun ds=>Qd (.fd ds)),
  ⟨xs.length,by simp,Ix _,F1,[],fJ R1 gD,ax,FD,.nil,by simpa using q1⟩,?_⟩
 rintro z i m acc σc Hc ⟨rfl,hi,Fc,ds,Rc,hDc,fDc,rs,q2⟩
 have sH:bF F1 Hc:=Rc.g.fs.trans Rc.sub
 by_cases hlt:i<xs.length
 · have ei:xs[i]?=some xs[i]:=by simp[hlt]
   have ed:xs.drop i=xs[i]::xs.drop (i+1):=Jx hlt
   rw[ed]at q2
   refine .inr ⟨vi.go i Hc _ ei sH,fun v H' y=>?_⟩
   obtain⟨Fy,gy,rv⟩:=vi.yld i Hc v H' _ Fc ei Rc.g.fs Rc.sub Rc.reel y
   refine(HR (hg z)).2 (Rc.grow gy) v _ _ _ rv q2 fun F3 H3 σ3 ρ3 g3 n3 R3 ⟨le3,q3⟩=>?_
   refine(HR (ht z)).2 R3 _ _ q3 fun b F4 H4 g4 q4=>?_
   have R4:=R3.grow g4
   have g34:=(gy.trans g3).trans g4
   have keepD:∀{Fx Hx:Hp},Grow rl Fc Hc Fx Hx->Hx D=some (.dK acc)/\Fx D=none:=fun gx=>⟨gx.same D _ hDc rD,by rw[gx.old D _ hDc];exact fDc⟩
   cases b with
   | false=>exact⟨xs.length-(i+1),by omega,rfl,hlt,F4,ds,R4.le le3,(keepD g34).1,(keepD g34).2,rs.mono g34.fs,q4⟩
   | true =>
     refine(HR (hk z)).2 R4 _ _ q4 fun vk wk Fk Hk gk rk nk ⟨kk,ekk,qk⟩=>?_
     have evk:=lM ekk rk
     have R5:=R4.grow gk
     refine(HR (he z)).2 R5 _ _ qk fun v5 w5 F5 H5 g5 r5 n5 ⟨d,ed5,hl,q5⟩=>?_
     obtain⟨F6,g6,s6,r6⟩:=du.fz g5 r5 n5
     rw[ed5]at r6
     have g36:=(g34.trans gk).trans g6
     have lds:acc.length=ds.length:=KF rs
     refine⟨kk,evk,(keepD g36).1,by rw[lds];exact hl,xs.length-(i+1),by omega,rfl,hlt,F6,putF ds kk d,((R5.grow g6).le le3).other n0 hD (keepD g36).2 rD,ax,(keepD g36).2,(rs.mono g36.fs).put kk r6,q5⟩
 · have e:i=xs.length:=by omega
   subst e
   rw[Ks]at q2
   have neF:∀b u,Fc b=some u->b≠D:=fun b u q z=>by subst z;rw[fDc]at q;cases q
   have fsm:bF Fc (EB Fc D (.dK acc)):=fun b u z=>by rw[am (neF b u z)];exact z
   refine .inl ⟨vi.stop _ Hc (HX _) sH,k _ (.fd ds) (EB Fc D (.dK acc)) Hc ((g1.trans Rc.g).freeze (g1.freeB hD) hDc fDc rD) ⟨D,acc,rfl,ax,rs.mono fsm⟩ trivial q2⟩
theorem ka(i:Nat)(hN:X.N.Nodup)(N':List Str)(fr:List (Option Nat))(hc:X.calm=true)(hi:G4 X rl tg iter fi)
 (hg:∀y,G7 (blk X N' scope y) rl tg g)(ht:∀y,mB (blk X N' scope y) rl ifs ft)(hk:∀y,PV (blk X N' scope y) rl kx fk)(he:∀y,PV (blk X N' scope y) rl vx fe)
 (hsw:J4 (.DictComp kx vx [⟨tg,iter,ifs,0⟩] scope pos) (some (.Name x px)) spos.line X.env=pure b:=by rfl)
 (hix:X.N[i]?=some x:=by rfl)(hx:Loc X.env.scope x:=by first|exact J0 rfl|exact Jq rfl)(hf:X.fn x=true\/X.env.scope.names.lookup x=some .local:=by first|exact .inl rfl|exact .inr rfl)
 (hfr:lS fr N' X.N scope X.env.scope=true:=by rfl)(hsc:mP scope X.env.scope=true:=by rfl)
 (hs:∀x,Iz iter X.env x=pure x:=by intro _;rfl):GZ X rl (.Assign [.Name x px] (.DictComp kx vx [⟨tg,iter,ifs,0⟩] scope pos) spos) (Az i (nT fi fr g ft fk fe)):=by
 obtain⟨wi,p0,k0⟩:=hi
 refine⟨_,kE N' fr hc p0 hfr hsc (fun y=>(HR (hg y)).1) (fun y=>(HR (ht y)).1) (fun y=>(HR (hk y)).1) (fun y=>(HR (he y)).1) hN hix hx hf hsw hs,fun R Dv D ok q=>wE fr k0 hg ht hk he R _ _ q fun v w F1 H1 g1 r1 n1 ⟨hp,q1⟩=>?_⟩
 exact ok.nx _ _ _ _ g1.fs (R.set g1 r1 n1 (fun xs z=>by subst z;cases hp) i) q1
end
noncomputable def F0(ρ0:En)(g:GK)(ft:TB)(fk fe:TV)(x:HH):Mo (Option (Hg×HH)):=Gs (g x ρ0) fun ρ2=>Ge (Le ρ0 ρ2) (Gs (ft ρ2) fun b=>if b=true then Gs (fk ρ2) fun wk=>aV (nu wk) fun k=>Gs (fe ρ2) fun w=>aV (asD w.fz) fun d=>ret (some (k,d))else ret none)
noncomputable def eL(b:HH->Mo (Option (Hg×HH))):List HH->List (Hg×HH)->Mo (List (Hg×HH))
 | [],acc=>ret acc
 | x::xs,acc=>Gs (b x) fun o=>match o with
   | some d=>Ge (acc.length<sizeLine) (eL b xs (putF acc d.1 d.2))
   | none=>eL b xs acc
theorem lW(ρ0:En)(g:GK)(ft:TB)(fk fe:TV):∀(xs:List HH)(acc:List (Hg×HH)),sV ρ0 g ft fk fe xs acc=eL (F0 ρ0 g ft fk fe) xs acc
 | [],acc=>rfl
 | x::xs,acc=>by
   refine ai fun Q=>?_
   show(g x ρ0 fun ρ2=>Le ρ0 ρ2/\ft ρ2 fun b=>if b=true then fk ρ2 fun wk=>∃k,nu wk=some k/\fe ρ2 fun w=>∃d,w.fz = .d d/\acc.length<sizeLine/\sV ρ0 g ft fk fe xs (putF acc k d) Q else sV ρ0 g ft fk fe xs acc Q)↔(Gs (F0 ρ0 g ft fk fe x) _) Q
   simp only[lW ρ0 g ft fk fe xs]
   have:∀(ρ2:En)(b:Bool),(if b=true then fk ρ2 fun wk=>∃k,nu wk=some k/\fe ρ2 fun w=>∃d,w.fz = .d d/\acc.length<sizeLine/\eL (F0 ρ0 g ft fk fe) xs (putF acc k d) Q else eL (F0 ρ0 g ft fk fe) xs acc Q)=(Gs (if b=true then Gs (fk ρ2) fun wk=>aV (nu wk) fun k=>Gs (fe ρ2) fun w=>aV (asD w.fz) fun d=>ret (some (k,d))else ret none) fun o=>match o with
   | some d=>Ge (acc.length<sizeLine) (eL (F0 ρ0 g ft fk fe) xs (putF acc d.1 d.2))
   | none=>eL (F0 ρ0 g ft fk fe) xs acc) Q:=by
     intro ρ2 b
     cases b with
     | false=>rfl
     | true =>
       rw[if_pos rfl,if_pos rfl]
       show _=fk ρ2 fun wk=>_
       congr 1
       funext wk
       refine propext ?_
       show _↔(Gs (aV (nu wk) fun k=>Gs (fe ρ2) fun w=>aV (asD w.fz) fun d=>ret (some (k,d))) _) Q
       rw[bnd_opt,ar]
       have e2:∀(k:Hg),(fe ρ2 fun w=>∃d,w.fz = .d d/\acc.length<sizeLine/\eL (F0 ρ0 g ft fk fe) xs (putF acc k d) Q)=(Gs (Gs (fe ρ2) fun w=>aV (asD w.fz) fun d=>ret (some (k,d))) fun o=>match o with
        | some d=>Ge (acc.length<sizeLine) (eL (F0 ρ0 g ft fk fe) xs (putF acc d.1 d.2))
        | none=>eL (F0 ρ0 g ft fk fe) xs acc) Q:=fun k=>by
        show _=fe ρ2 fun w=>_
        congr 1
        funext w
        refine propext ?_
        show _↔(Gs (aV (asD w.fz) fun d=>ret (some (k,d))) _) Q
        rw[bnd_opt,ar]
        simp only[gM]
        exact Mb
       simp only[e2]
   simp only[this]
   exact Mb
theorem m_compD(fi:En->(List HH->Prop)->Prop)(fr:List (Option Nat))(g:GK)(ft:TB)(fk fe:TV)(ρ:En):nT fi fr g ft fk fe ρ=Gs (fi ρ) fun xs=>Gs (eL (F0 (dS fr ρ) g ft fk fe) xs []) fun kvs=>ret (.fd kvs):=by
 refine ai fun Q=>?_
 show(fi ρ fun xs=>sV (dS fr ρ) g ft fk fe xs [] fun ds=>Q (.fd ds))↔_
 simp only[lW]
 exact Mb
theorem rA(kvs:List (Hg×HH))(k:Hg)(x:HH):(putF kvs k x).length<=kvs.length+1:=by
 unfold putF;split<;>simp
section
variable{α:Type}{b:HH->Mo (Option (Hg×HH))}
theorem jS{enc:α->HH}(f:α->Hg×HH):∀(xs:List α)(acc:List (Hg×HH)),(∀x∈xs,b (enc x)=ret (some (f x)))->acc.length+xs.length<=sizeLine->eL b (xs.map enc) acc=ret ((xs.map f).foldl (fun a p=>putF a p.1 p.2) acc)
 | [],acc,_,_=>rfl
 | x::xs,acc,h,hl=>by
   show Gs (b (enc x)) _=_
   rw[h x HM,bnd_ret]
   show Ge (acc.length<sizeLine) (eL b (xs.map enc) (putF acc (f x).1 (f x).2))=_
   simp only[Io]at hl
   have:=rA acc (f x).1 (f x).2
   rw[ah (by omega),jS f xs _ (fun y hy=>h y (HK _ hy)) (by omega)]
   rfl
theorem wC{Q:β->Prop}{k:List (Hg×HH)->Mo β}{xs:List α}{enc:α->HH}(f:α->Hg×HH)(hx:xs'=xs.map enc)(h:∀x∈xs,b (enc x)=ret (some (f x)))(hl:xs.length<=sizeLine)
 (fin:k ((xs.map f).foldl (fun a p=>putF a p.1 p.2) []) Q):Gs (eL b xs' []) k Q:=by
 subst hx
 rw[jS f xs [] h (by simpa using hl)]
 exact fin
end
section
variable{X:Cx}{rl:RlT}{a c e o i:Expr}{es:List Expr}{fa fb:TV}{fs:GF}{pos p kpos:Pos}{ρ:En}
noncomputable def nS(fa fb:TV):TV:=fun ρ Q=>fa ρ fun x=>fb ρ fun y=>∃kvs k d,x = .fd kvs/\nu y=some k/\hV kvs k=some d/\Q (.d d)
theorem uB(hu:X.A.units+1<Ot)(ho:PV X rl o fa)(hi:PV X rl i fb)(hs:wV i:=by intro _ _;rfl):PV X rl (.Subscript o i pos) (nS fa fb):=by
 obtain⟨t1,p1,k1⟩:=ho
 obtain⟨t2,p2,k2⟩:=hi
 refine⟨_,iY hu p1 p2 hs,fun R Qd Q q h=>k1 R _ _ q fun v w F1 H1 g1 r1 n1 q1=>k2 (R.grow g1) _ _ q1 fun v2 w2 F2 H2 g2 r2 n2 ⟨kvs,k,d,ex,ek,ed,q2⟩=>?_⟩
 subst ex
 obtain⟨x,us,rfl,hx,rk⟩:=r1.grow g2
 have ev:=lM ek r2
 subst ev
 rcases rk.val k with⟨_,z⟩|⟨v3,d3,e1,e2,r3⟩
 · rw[ed]at z;cases z
 · rw[ed]at e2
   cases e2
   refine⟨x,v3,rfl,?_,h v3 (.d d) F2 H2 (g1.trans g2) r3 trivial q2⟩
   rw[<- e1]
   exact Am.k (g2.sub _ _ hx)
theorem m_vDGetF:nS fa fb ρ=Gs (fa ρ) fun x=>Gs (fb ρ) fun y=>aV (asFd x) fun kvs=>aV (nu y) fun k=>aV (hV kvs k) fun d=>ret (.d d):=by
 refine ai fun Q=>?_
 simp only[nS,Gs,ar,wK,ret]
 constructor
 · intro h;refine cast ?_ h;congr 1;funext x;congr 1;funext y;exact propext ⟨fun⟨a,b,c,d,e,f,g⟩=>⟨a,d,b,e,c,f,g⟩,fun⟨a,d,b,e,c,f,g⟩=>⟨a,b,c,d,e,f,g⟩⟩
 · intro h;refine cast ?_ h;congr 1;funext x;congr 1;funext y;exact propext ⟨fun⟨a,d,b,e,c,f,g⟩=>⟨a,b,c,d,e,f,g⟩,fun⟨a,b,c,d,e,f,g⟩=>⟨a,d,b,e,c,f,g⟩⟩
noncomputable def zw:List W->(W->Prop)->Prop:=fun ws Q=>∃(kvs:List (Hg×HH))(ns:List Int),ws=[.fd kvs]/\kvs.map (·.1)=ns.map Kj/\ns.length<64/\∀ns':List Int,ns'.Perm ns->ns'.Pairwise (· <= ·)->Q (.ml (ns'.map .int))
theorem nJ(hc:X.calm=true)(hm:X.mg "sorted" = none)(ha:GV X rl [a] fs)(hg:Gl X "sorted" := by rfl)(he:HZ [a] X.env=(false,eval a X.env)::HZ [] X.env:=by rfl)(hpl:(JR pos (HZ [] X.env)).any (·.1)=false:=by rfl) :
 PV X rl (.Call (.Name "sorted" p) [a] [] pos) (dY zw fs):=by
 refine dH (jT hc) (fun{F H vs ws} Qd Q s ra r ⟨kvs,ns,ew,ek,hl,q⟩ k=>?_) hm (by rfl) ha hg (by decide) (by decide) he hpl
 subst ew
 obtain⟨v,rfl,b,us,rfl,hb,rk⟩:=nq r
 exact⟨b,us,ns,rfl,.inl (s _ _ hb),by rw[rk.keys];exact ek,hl,fun ns' h1 h2 l hl=>k _ (.ml _) _ _ (Grow.laid s ra hl) (cB s ra hl lO) (fun a ea=>by cases ea;exact hl) (q ns' h1 h2)⟩
theorem uS{Q:α->Prop}{K:W->Mo α}{kvs:List (Hg×HH)}(ns:List Int)(e:kvs.map (·.1)=ns.map Kj)(hl:ns.length<64)(h:∀ns':List Int,ns'.Perm ns->ns'.Pairwise (· <= ·)->K (.ml (ns'.map .int)) Q):Gs (zw [.fd kvs]) K Q :=
 ⟨kvs,ns,rfl,e,hl,fun ns' h1 h2=>h ns' h1 h2⟩
noncomputable def FC(d:Int)(ns:List Int):Int:=(cx none ns).getD d
noncomputable def uE(fs:GF)(fc:TV):TV:=fun ρ Q=>fs ρ fun ws=>fc ρ fun y=>∃ns d,gS ws=some [.list (ns.map .int)]/\y = .d (.int d)/\Q (.d (.int (FC d ns)))
theorem xr(hc:X.calm=true)(hm:X.mg "max" = none)(ha:GV X rl [e] fs)(hk:PV X rl c fb)(hg:Gl X "max" := by rfl)
 (he:JR pos (HZ [e] X.env)=(false,eval e X.env)::JR pos (HZ [] X.env):=by rfl)(hpl:(JR pos (HZ [e] X.env)).any (·.1)=false:=by rfl) :
 PV X rl (.Call (.Name "max" p) [e] [⟨some "default", c,kpos⟩] pos) (uE fs fb):=by
 obtain⟨t1,p1,k1⟩:=ha
 obtain⟨t2,p2,k2⟩:=hk
 refine⟨_,vF hc hm p1 (vz p2 yB) hg he hpl,fun R Qd Q q h=>k1 R _ _ q fun vs ws F1 H1 g1 r1 q1=>k2 (R.grow g1) _ _ q1 fun v2 w2 F2 H2 g2 r2 n2 ⟨ns,d,ed,ew,q2⟩=>?_⟩
 subst ew
 have e2:=aL r2
 subst e2
 have rs:=cV r1 ed
 cases rs with
 | cons rx rs =>
   cases rs
   cases rx with
   | @lst l us _ hb ry =>
     have eu:=fL ry
     subst eu
     refine⟨l,ns,.int d,rfl,rfl,.inl (.inl (g2.sub _ _ (g2.fs _ _ hb))),h _ (.d (.int (FC d ns))) F2 H2 (g1.trans g2) ?_ trivial q2⟩
     have:FB (.int d) ns = .int (FC d ns):=by unfold FB FC;cases cx none ns<;>rfl
     rw[this]
     exact .int _
noncomputable def oV(ws:List W):Option (List Int):=match gS ws with
 | some [.list xs]=>jP xs
 | _=>none
theorem m_vMaxD{fc:TV}:uE fs fc ρ=Gs (fs ρ) fun ws=>Gs (fc ρ) fun y=>aV (oV ws) fun ns=>aV (asI y) fun d=>ret (.d (.int (FC d ns))):=by
 have key:∀(ws:List W)(ns:List Int),oV ws=some ns↔gS ws=some [.list (ns.map .int)]:=by
  intro ws ns
  unfold oV
  constructor
  · intro h
    split at h
    · rename_i xs e;rw[e,lN h]
    · cases h
  · intro h;rw[h];exact intsD_map ns
 refine ai fun Q=>?_
 simp only[uE,Gs,ar,cJ,ret,key]
 constructor
 · intro h;refine cast ?_ h;congr 1;funext x;congr 1;funext y;exact propext ⟨fun⟨a,b,c,d,e⟩=>⟨a,c,b,d,e⟩,fun⟨a,c,b,d,e⟩=>⟨a,b,c,d,e⟩⟩
 · intro h;refine cast ?_ h;congr 1;funext x;congr 1;funext y;exact propext ⟨fun⟨a,c,b,d,e⟩=>⟨a,b,c,d,e⟩,fun⟨a,b,c,d,e⟩=>⟨a,c,b,d,e⟩⟩
theorem oneIs_l(ns:List Int):oV [.d (.list (ns.map .int))]=some ns:=by
 unfold oV gS
 exact intsD_map ns
end
noncomputable def HE:=HI @m_compD (HI @m_vDGetF (HI @m_vMaxD (HI @keyW_i (HI @keyW_s (HI @asFd_f (HI @isPk_fd (HI @fz_fd (HI @pk_fd (@oneIs_l)))))))))
end L2.VL
namespace L2
noncomputable def DQ(K:W.Frag)(tl:TE):TI:=fun σ H R=>tl σ H fun x H1=>∃a,x = .ref a/\(((∃xs,GN K H1 a xs)/\R (Hn K a) H1)\/((∃xs,GM K H1 a xs)/\R (Hl K a) H1))
theorem yD{l:Expr}{tl:TE}(hl:PE X l tl):PI X tg l (DQ X.K tl):=by
 intro pins s σ H R I h
 refine EI (hl pins s σ H _ I h) fun v s1 ⟨x,H1,I1,r1,q1⟩=>?_
 obtain⟨a,e,q1⟩:=q1
 subst e
 cases r1
 have fin:∀b∈[s1.heap.objs.size],j_ X pins H1 b:=fun b hb=>by
  have e:b=s1.heap.objs.size:=by simpa using hb
  subst e
  exact I1.fpOk (HX _) (I1.hok.fresh (HX _))
 rcases q1 with⟨⟨xs,hq⟩,q⟩|⟨⟨xs,hq⟩,q⟩
 · obtain⟨its,rv,p,hz⟩:=I1.list hq
   exact K8 p.isList ⟨s1.heap.objs.size,[s1.heap.objs.size],_,_,H1,rfl,I1.kept (t':=s1.toks) fun b o e=>HN _ e,jw a _,⟨_,Im _ rfl,rfl,rfl⟩,fin,q⟩
 · obtain⟨its,rv,p,hz⟩:=I1.tuple hq
   exact Ml (show s1.heap.IsTuple a its.toArray from p) ⟨s1.heap.objs.size,[s1.heap.objs.size],_,_,H1,rfl,I1.kept (t':=s1.toks) fun b o e=>HN _ e,hW a _,⟨_,Im _ rfl,rfl,rfl⟩,fin,q⟩
end L2
namespace L2.VL
section
variable{X:Cx}{rl:RlT}{tg:Expr}{fa:TV}{ρ:En}
noncomputable def iS(fa:TV):En->(List HH->Prop)->Prop:=fun ρ Q=>fa ρ fun w=>∃xs,(w.fz = .d (.list xs)\/w.fz = .d (.tuple xs))/\Q xs
theorem sR{l:Expr}(hl:PV X rl l fa):G4 X rl tg l (iS fa):=by
 obtain⟨t,p,k⟩:=hl
 refine⟨_,yD p,fun R Qd Q q h=>k R _ _ q fun v w F1 H1 g1 r1 n1 ⟨xs,ew,q1⟩=>?_⟩
 obtain⟨F2,g2,s2,r2⟩:=du.fz g1 r1 n1
 rcases ew with ew|ew
 · rw[ew]at r2
   cases(show Rep X.K F2 v (.list xs)from r2)with
   | @lst a vs _ sq rs =>
     have sqH:∀H,bF F2 H->GN X.K H a vs:=fun H s=>.inl (.inl (s _ _ sq))
     refine⟨a,rfl,.inl ⟨⟨vs,sqH H1 g2.sub⟩,h _ xs F2 H1 g2 (.of (fun i H x e s=>?_) (fun i H hl s=>⟨vs,sqH H s,by rw[rs.length];exact hl⟩) (fun i H v H' x e s y=>?_)) q1⟩⟩
     · obtain⟨v,ev,_⟩:=rs.get e
       exact⟨vs,v,sqH H s,ev⟩
     · obtain⟨e',hy⟩:=y
       obtain⟨v',ev,rv⟩:=rs.get e
       have:=hy vs (sqH H s)
       rw[ev]at this
       cases this
       exact⟨e',rv⟩
 · rw[ew]at r2
   cases(show Rep X.K F2 v (.tuple xs)from r2)with
   | @tup a vs _ sq rs =>
     have sqH:∀H,bF F2 H->GM X.K H a vs:=fun H s=>d_ s sq
     refine⟨a,rfl,.inr ⟨⟨vs,sqH H1 g2.sub⟩,h _ xs F2 H1 g2 (.of (fun i H x e s=>?_) (fun i H hl s=>⟨vs,sqH H s,by rw[rs.length];exact hl⟩) (fun i H v H' x e s y=>?_)) q1⟩⟩
     · obtain⟨v,ev,_⟩:=rs.get e
       exact⟨vs,v,sqH H s,ev⟩
     · obtain⟨e',hy⟩:=y
       obtain⟨v',ev,rv⟩:=rs.get e
       have:=hy vs (sqH H s)
       rw[ev]at this
       cases this
       exact⟨e',rv⟩
noncomputable def seqW:W->Option (List HH)
 | .d (.list xs)=>some xs
 | .d (.tuple xs)=>some xs
 | _=>none
theorem seqW_l(xs:List HH):seqW (.d (.list xs))=some xs:=rfl
theorem seqW_t(xs:List HH):seqW (.d (.tuple xs))=some xs:=rfl
theorem u4{w:W}:seqW w=some xs↔(w = .d (.list xs)\/w = .d (.tuple xs)):=by
 constructor
 · intro h;unfold seqW at h;split at h<;>simp_all
 · rintro(rfl|rfl)<;>rfl
theorem m_iS:iS fa ρ=Gs (fa ρ) fun w=>aV (seqW w.fz) ret:=by
 refine ai fun Q=>?_
 simp only[iS,Gs,ar,u4,ret]
noncomputable def HB:=HI @m_iS (HI @seqW_l (@seqW_t))
end
end L2.VL
namespace L2
noncomputable def insAt{α:Type}(xs:List α)(k:Nat)(y:α):List α:=xs.take k++y::xs.drop k
theorem cn.insAt{xs:List V}{its:List HQ}{y:V}{u:HQ}(r:cn xs its)(ry:RelV y u)(k:Nat):cn (L2.insAt xs k y) (L2.insAt its k u):=by
 unfold L2.insAt
 induction r generalizing k with
 | nil=>simp;exact .cons ry .nil
 | cons h t ih =>
   cases k with
   | zero=>exact .cons ry (.cons h t)
   | succ k=>exact .cons h (ih k)
variable{X:Cx}
noncomputable def oC:V->List V->Hp->VK->Prop:=fun x vs H Q=>∃l xs i y,x = .ref l/\vs=[.int i,y]/\H l=some (.lst xs)/\0<=i/\i<=xs.length/\xs.length<sizeLine/\Q .non (EB H l (.lst (insAt xs i.toNat y)))
theorem o3:Hb X "list.insert" oC:=by
 intro pins s σ H x vs v us Q I rx rv h
 obtain⟨l,xs,i,y,rfl,rfl,hH,h0,h1,hz,q⟩:=h
 cases rx
 obtain⟨u,u2,rfl,⟨t,rfl⟩,ru⟩:=vals2 rv
 obtain⟨z,its,n,r,hl,e⟩:=I.lstM hH
 have len:xs.length=its.length:=r.length
 have sz:=Is
 have fit:La i=true:=by simp[La];omega
 refine N0 F.slot_list_insert ⟨_,e,rfl⟩ F.entry_list_insert (F.args_list_insert_3 _ _ _) (PySem.AutoSeq1.list_insert_list_int_val_1 l its.toArray n i t u2 (by simp[fit]) (by rw[Il];omega)) ⟨e,?_⟩
 refine⟨.non,_,I.lset (its':=insAt its i.toNat u2) hH e ?_ (r.insAt ru _) ?_,rfl,q⟩
 · have hn:¬i<0:=by omega
   have hm:min i.toNat its.length=i.toNat:=by omega
   simp only[hn,if_false,Il,hm]
   unfold insAt
   simp[List.extract_eq_drop_take]
   rw[IG (by rw[KM];omega)]
 · unfold insAt
   rw[Ic,Io,JH,KM]
   omega
end L2
namespace L2.VL
section
variable{X:Cx}{rl:RlT}{a e:Expr}{es:List Expr}{fs:GF}{pos:Pos}
theorem Reps.insAt{K:W.Frag}{F:Hp}{vs:List V}{ds:List HH}{v:V}{d:HH}(r:Reps K F vs ds)(h:Rep K F v d)(k:Nat):Reps K F (L2.insAt vs k v) (L2.insAt ds k d):=by
 unfold L2.insAt
 exact(r.take k).append (.cons h (r.drop k))
noncomputable def Ad:List HH->List W->(List HH->Prop)->Prop:=fun xs ws Q=>∃i x,gS ws=some [.int i,x]/\0<=i/\i<=xs.length/\xs.length<sizeLine/\Q (insAt xs i.toNat x)
theorem w_{K:W.Frag}:BL K rl oC Ad:=fun{F H a vs args xs ws} Qn Q s ha rs ra ⟨i,x,e,h0,h1,z,q⟩ k=>by
 have r2:=cV ra e
 cases r2 with
 | cons ri r3 =>
   cases r3 with
   | cons rx r4 =>
     cases r4
     have ei:=aL ri
     subst ei
     exact⟨a,vs,i,_,rfl,rfl,ha,h0,by rw[rs.length];exact h1,by rw[rs.length];exact z,k _ _ (rs.insAt rx _) q⟩
theorem wY(i:Nat){apos cpos:Pos}(ha:GV X rl [a,e] fs)(hN:X.N[i]?=some x:=by rfl)(hv:GB X.env.scope x:=by first|exact J0 rfl|exact Jq (J0 rfl)|exact Jq (Jq rfl))
 (hd:(x==("__debug__" : Str))=false:=by decide)(hcd:(x==("__classdict__" : Str))=false:=by decide)
 (hbase:LX (.Name x px) "insert" X.env (eval (.Name x px) X.env)=eval (.Name x px) X.env:=by rfl)
 (hfew:((JR cpos (HZ [a,e] X.env)).all (fun x=>!x.1)&&(Nm cpos (LC [] X.env)).all (fun x=>x.1.isSome)
  && decide (([a,e]).length+([]:List L7).length+(if([]:List L7).isEmpty then 0 else 1)<30))=true:=by rfl)
 (hline:(apos.endLine==cpos.line)=true:=by rfl)(hs:HZ [a,e] X.env=(false,eval a X.env)::HZ [e] X.env:=by rfl)(hplain:(JR cpos (HZ [e] X.env)).any (·.1)=false:=by rfl)
 (hsw:J4 (.Call (.Attribute (.Name x px) "insert" apos) [a,e] [] cpos) none pos.line X.env=pure false:=by rfl) :
 GZ X rl (.Expr (.Call (.Attribute (.Name x px) "insert" apos) [a,e] [] cpos) pos) (xy i Ad fs) :=
 sQ i PySem.F.slot_list_insert PySem.F.type_list_insert o3 w_ ha hN hv hd hcd hbase hfew hline hs hplain hsw
noncomputable def insW(ws:List W):Option (Int×HH):=match gS ws with
 | some [.int i,x]=>some (i,x)
 | _=>none
theorem insW_d(i:Int)(x:HH):insW [.d (.int i),.d x]=some (i,x):=rfl
theorem wa{ws:List W}{p:Int×HH}:insW ws=some p↔gS ws=some [.int p.1,p.2]:=by
 constructor
 · intro h
   unfold insW at h
   split at h
   · rename_i i x e;cases h;exact e
   · cases h
 · intro h;unfold insW;rw[h]
theorem m_gIns(xs:List HH)(ws:List W):Ad xs ws=aV (insW ws) fun p=>Ge (0<=p.1) (Ge (p.1<=xs.length) (Ge (xs.length<sizeLine) (ret (insAt xs p.1.toNat p.2)))):=by
 refine ai fun Q=>?_
 simp only[Ad,ar,wa,Ge,ret]
 exact⟨fun⟨i,x,e,a,b,c,q⟩=>⟨(i,x),e,a,b,c,q⟩,fun⟨p,e,a,b,c,q⟩=>⟨p.1,p.2,e,a,b,c,q⟩⟩
noncomputable def HC:=HI @m_gIns (@insW_d)
end
noncomputable def Hs(K:W.Frag)(rl:RlT)(H₀ F₁ H₁ F:Hp)(b:Addr)(xs:List HH):Prop:=∃vs,H₁ b=some (.lst vs)/\F₁ b=none/\rl.a≠some b/\H₀ b=none/\Reps K F vs xs
structure Cl (K:W.Frag) (rl:RlT) (F₀ H₀ F₁ H₁ F:Hp) (a:Addr) (as:List Addr) (xss:List (List HH)):Prop where
 g:Grow rl F₀ H₀ F₁ H₁
 ha:H₁ a=some (.lst (as.map V.ref))
 ra:rl.a≠some a
 nd:as.Nodup
 nm:a∉as
 inn:Jy (Hs K rl H₀ F₁ H₁ F) as xss
theorem Cl.mono{K:W.Frag}{rl:RlT}{F₀ H₀ F₁ H₁ F F':Hp}{a:Addr}{as:List Addr}{xss:List (List HH)}(c:Cl K rl F₀ H₀ F₁ H₁ F a as xss)(s:bF F F'):Cl K rl F₀ H₀ F₁ H₁ F' a as xss :=
 ⟨c.g,c.ha,c.ra,c.nd,c.nm,Jy.mapP c.inn fun _ _ ⟨vs,h1,h2,h3,h4,h5⟩=>⟨vs,h1,h2,h3,h4,h5.mono s⟩⟩
theorem gj{α β:Type}{R:α->β->Prop}:∀{xs:List α}{ys:List β},Jy R xs ys->∀{n:Nat}{y:β},ys[n]?=some y->∃x,xs[n]?=some x/\R x y
 | _,_,.nil,n,y,e=>by simp at e
 | _,_,.cons r rs,0,y,e=>by simp at e;subst e;exact⟨_,rfl,r⟩
 | _,_,.cons r rs,n+1,y,e=>by simpa using gj rs (n:=n) (by simpa using e)
theorem jK{α β:Type}{R R':α->β->Prop}{x:α}(k:∀a b,a≠x->R a b->R' a b):∀{xs:List α}{ys:List β},Jy R xs ys->x∉xs->Jy R' xs ys
 | _,_,.nil,_=>.nil
 | _,_,.cons r rs,n=>.cons (k _ _ (fun z=>n (z▸HM)) r) (jK k rs fun z=>n (HK _ z))
theorem ii{α β:Type}{R R':α->β->Prop}{x:α}{y:β}(h:R' x y)(k:∀a b,a≠x->R a b->R' a b):∀{xs:List α}{ys:List β},Jy R xs ys->xs.Nodup->∀{n:Nat},xs[n]?=some x->Jy R' xs (ys.set n y)
 | _,_,.nil,_,n,e=>by simp at e
 | x0::xs,y0::ys,.cons r rs,nd,0,e=>by
   simp at e
   subst e
   rw[List.set_cons_zero]
   exact .cons h (jK k rs (Kn.mp nd).1)
 | x0::xs,y0::ys,.cons r rs,nd,n+1,e=>by
   rw[List.set_cons_succ]
   have e':xs[n]?=some x:=by simpa using e
   exact .cons (k _ _ (fun z=>(Kn.mp nd).1 (z▸Ki e')) r) (ii h k rs (Kn.mp nd).2 e')
theorem du.apart{K:W.Frag}{b:Addr}{o:HO}{w:W}(r:du K rl F H v w)(ne:w.own=true->v ≠ .ref b)(np:∀xs,w ≠ .pk xs):du K rl F (EB H b o) v w:=by
 cases w with
 | ml xs=>obtain⟨a,vs,e,h1,h2,h3,h4⟩:=r;exact⟨a,vs,e,h1,h2,by rw[am (fun z=>ne rfl (by rw[e,z]))];exact h3,h4⟩
 | pk xs=>exact absurd rfl (np xs)
 | md kvs=>obtain⟨a,vs,e,h1,h2,h3,h4⟩:=r;exact⟨a,vs,e,h1,h2,by rw[am (fun z=>ne rfl (by rw[e,z]))];exact h3,h4⟩
 | mk kvs=>obtain⟨a,vs,e,h1,h2,h3,h4⟩:=r;exact⟨a,vs,e,h1,h2,by rw[am (fun z=>ne rfl (by rw[e,z]))];exact h3,h4⟩
 | _=>exact r
theorem VR.moved{K:W.Frag}{F₁ H₁:Hp}{b:Addr}{o o':HO}(R:VR K rl F₁ H₁ F H σ ρ)(hb:H₁ b=some o)(fb:F₁ b=none)(rb:rl.a≠some b):VR K rl F₁ (EB H₁ b o') F (EB H b o') σ ρ:=by
 have f:F b=none:=by rw[R.g.old b _ hb];exact fb
 have neF:∀c u,F c=some u->c≠b:=fun c u q z=>by subst z;rw[f]at q;cases q
 have own:∀{v w},dR H₁ v w->w.own=true->v ≠ .ref b:=fun n ow z=>by have:=n.none ow z;rw[hb]at this;cases this
 refine⟨⟨fun c u q n=>?_,R.g.fs,fun c u q=>by rw[am (neF c u q)];exact R.sub c u q,fun c u q=>?_,fun r er=>?_⟩,fun i w e=>?_,R.ap,R.np,R.len⟩
 · by_cases z:c=b
   · subst z;rw[ax]at q ⊢;exact q
   · rw[am z]at q ⊢;exact R.g.same c u q n
 · by_cases z:c=b
   · subst z;rw[f,fb]
   · rw[am z]at q;exact R.g.old c u q
 · obtain⟨h1,⟨o2,h2,h3⟩⟩:=R.g.reel r er
   exact⟨h1,⟨o2,by rw[am (fun z=>rb (by rw[<- z];exact er))];exact h2,h3⟩⟩
 · obtain⟨v,h1,h2,h3⟩:=R.sl i w e
   refine⟨v,h1,h2.apart (own h3) (fun xs z=>R.np i xs (z▸e)),?_⟩
   cases w with
   | ml xs=>exact fun a ea=>by rw[am (fun z=>own h3 rfl (by rw[ea,z]))];exact h3 a ea
   | md xs=>exact fun a ea=>by rw[am (fun z=>own h3 rfl (by rw[ea,z]))];exact h3 a ea
   | mk xs=>exact fun a ea=>by rw[am (fun z=>own h3 rfl (by rw[ea,z]))];exact h3 a ea
   | _=>trivial
theorem Cl.moved{K:W.Frag}{F₁ H₁:Hp}{as:List Addr}(c:Cl K rl F₀ H₀ F₁ H₁ F a as xss){b:Addr}(e:as[n]?=some b)(fb:F₁ b=none)(rb:rl.a≠some b)(h0:H₀ b=none)(rs:Reps K F vs xs) :
 Cl K rl F₀ H₀ F₁ (EB H₁ b (.lst vs)) F a as (xss.set n xs):=by
 have nb:∀d u,F₁ d=some u->d≠b:=fun d u q z=>by subst z;rw[fb]at q;cases q
 refine⟨⟨fun d u q m=>by rw[am (aX q h0)];exact c.g.same d u q m,c.g.fs,fun d u q=>by rw[am (nb d u q)];exact c.g.sub d u q,c.g.old,fun r er=>?_⟩,?_,c.ra,c.nd,c.nm,ii (R':=Hs K rl H₀ F₁ (EB H₁ b (.lst vs)) F) (x:=b) ⟨vs,ax,fb,rb,h0,rs⟩ (fun d ys nd ⟨us,h1,h2⟩=>⟨us,by rw[am nd];exact h1,h2⟩) c.inn c.nd e⟩
 · obtain⟨h1,⟨o2,h2,h3⟩⟩:=c.g.reel r er
   exact⟨h1,⟨o2,by rw[am (fun z=>rb (by rw[<- z];exact er))];exact h2,h3⟩⟩
 · rw[am (show a≠b from fun z=>by subst z;exact c.nm (Ki e))]
   exact c.ha
structure MEnds where
 nx:List (List HH)->En->Prop
 rt:W->Prop
structure EndsM (K:W.Frag) (rl:RlT) (F₀ H₀:Hp) (a:Addr) (as:List Addr) (Fs:Hp) (Dm:MEnds) (D:Ends):Prop where
 nx:∀F₁ H₁ F H σ ρ xss,bF Fs F->Cl K rl F₀ H₀ F₁ H₁ F a as xss->VR K rl F₁ H₁ F H σ ρ->Dm.nx xss ρ->D.nx σ H
 rt:∀v w F H,Grow rl F₀ H₀ F H->du K rl F H v w->dR H₀ v w->Dm.rt w->D.rt v H
theorem EndsM.on{K:W.Frag}{as:List Addr}{Fs:Hp}{Dm:MEnds}{D:Ends}(ok:EndsM K rl F₀ H₀ a as Fs Dm D)(s:bF Fs F):EndsM K rl F₀ H₀ a as F Dm D :=
 ⟨fun F₁ H₁ F' H σ ρ xss s'=>ok.nx F₁ H₁ F' H σ ρ xss (s.trans s'),ok.rt⟩
abbrev GH:=Addr->MEnds->List (List HH)->En->Prop
noncomputable def G0(X:Cx)(rl:RlT)(st:Stmt)(t:GH):Prop:=∃T,PS X st T/\∀{F₀ H₀ F₁ H₁ F H:Hp}{σ:St}{ρ:En}{a:Addr}{as:List Addr}{xss:List (List HH)},Cl X.K rl F₀ H₀ F₁ H₁ F a as xss->VR X.K rl F₁ H₁ F H σ ρ->∀Dm D,EndsM X.K rl F₀ H₀ a as F Dm D->t a Dm xss ρ->T D σ H
noncomputable def zT(X:Cx)(rl:RlT)(st:List Stmt)(t:GH):Prop:=∃T,GY X st T/\∀{F₀ H₀ F₁ H₁ F H:Hp}{σ:St}{ρ:En}{a:Addr}{as:List Addr}{xss:List (List HH)},Cl X.K rl F₀ H₀ F₁ H₁ F a as xss->VR X.K rl F₁ H₁ F H σ ρ->∀Dm D,EndsM X.K rl F₀ H₀ a as F Dm D->t a Dm xss ρ->T D σ H
noncomputable def zc:GH:=fun _ Dm xss ρ=>Dm.nx xss ρ
noncomputable def C_(t u:GH):GH:=fun a Dm xss ρ=>t a {Dm with nx:=u a Dm} xss ρ
noncomputable def FK(t:GG):GH:=fun _ Dm xss ρ=>t ⟨fun ρ'=>Dm.nx xss ρ',Dm.rt,fun _=>False,fun _=>False⟩ ρ
section
variable{X:Cx}{rl:RlT}{st:Stmt}{rest body:List Stmt}{t:GG}{u v:GH}{e:Expr}{fa:TV}{pos p:Pos}
theorem vX:zT X rl [] zc:=⟨_,oI,fun C R Dm D ok q=>ok.nx _ _ _ _ _ _ _ (.refl _) C R q⟩
theorem dE(h:G0 X rl st u)(h2:zT X rl rest v):zT X rl (st::rest) (C_ u v):=by
 obtain⟨T,p,k⟩:=h
 obtain⟨T2,p2,k2⟩:=h2
 exact⟨_,fN p p2,fun C R Dm D ok q=>k C R {Dm with nx:=v _ Dm} {D with nx:=T2 D} ⟨fun F₁ H₁ F' H' σ' ρ' xss' s' C' R' q'=>k2 C' R' Dm D (ok.on s') q',ok.rt⟩ q⟩
theorem wN(h:GZ X rl st t):G0 X rl st (FK t):=by
 obtain⟨T,p,k⟩:=h
 exact⟨T,p,fun C R Dm D ok q=>k R _ D ⟨fun F' H' σ' ρ' s R' q'=>ok.nx _ _ _ _ _ _ _ s (C.mono s) R' q',fun v w F' H' g r n q'=>ok.rt v w F' H' (C.g.trans g) r (dR.back C.g n) q',fun _ _ _ _ _ _ z=>JL z,fun _ _ _ _ _ _ z=>JL z⟩ q⟩
noncomputable def Da(fi:En->(List HH->Prop)->Prop)(g:GK)(t:GH):GH:=fun a Dm xss ρ=>fi ρ fun ys=>∃J:Nat->List (List HH)->En->Prop,J 0 xss ρ /\
 (∀i y xss ρ,ys[i]?=some y->J i xss ρ->g y ρ fun ρ2=>t a {Dm with nx:=J (i+1)} xss ρ2)/\∀xss ρ,J ys.length xss ρ->Dm.nx xss ρ
theorem zb{g:GK}(hp:NP (IH X.prog X.w) X.A X.env X.xe)(hc:X.calm=true)(hi:G4 X rl tg iter fi)(hg:G7 X rl tg g)(hb:zT X rl body u)
 (hs:∀x,Iz iter X.env x=pure x:=by intro _;rfl):G0 X rl (.For tg iter body [] pos) (Da fi g u):=by
 obtain⟨wi,p0,k0⟩:=hi
 obtain⟨G,p1,k1⟩:=hg
 obtain⟨T,p2,k2⟩:=hb
 refine⟨_,tG hp hc p0 p1 p2 hs,fun{F₀ H₀ F₁ H₁ F H σ ρ a as xss} C R Dm D ok q=>k0 R _ _ q fun I xs F1 H1 g1 vi ⟨J,j0,turn,fin⟩=>?_⟩
 refine⟨fun i m σ H=>m=xs.length-i/\i<=xs.length/\∃F₁ H₁ F ρ xss,bF F1 F/\Cl X.K rl F₀ H₀ F₁ H₁ F a as xss/\VR X.K rl F₁ H₁ F H σ ρ/\J i xss ρ,⟨xs.length,by simp,Ix _,F₁,H₁,F1,ρ,xss,.refl _,C.mono g1.fs,R.grow g1,j0⟩,?_⟩
 rintro i m σ H ⟨rfl,hi,E₁,G₁,F2,ρ2,xs2,s2,C2,R2,j2⟩
 have sH:bF F1 H:=s2.trans R2.sub
 by_cases hlt:i<xs.length
 · have ei:xs[i]?=some xs[i]:=by simp[hlt]
   refine .inr ⟨vi.go i H _ ei sH,fun σ' H'=>∃F₁ H₁ F ρ xss,bF F1 F/\Cl X.K rl F₀ H₀ F₁ H₁ F a as xss/\VR X.K rl F₁ H₁ F H' σ' ρ/\J (i+1) xss ρ,fun σ' H' z=>⟨xs.length-(i+1),by omega,rfl,hlt,z⟩,fun v H' y=>?_⟩
   obtain⟨Fy,gy,rv⟩:=vi.yld i H v H' _ F2 ei s2 R2.sub R2.reel y
   refine k1 (R2.grow gy) v _ _ _ rv (turn i _ xs2 ρ2 ei j2) fun F3 H3 σ3 ρ3 s3 n3 R3 q3=>?_
   have s13:bF F1 F3:=s2.trans (gy.fs.trans s3.fs)
   exact k2 (C2.mono (gy.fs.trans s3.fs)) R3 {Dm with nx:=J (i+1)} _ ⟨fun E' G' F4 H4 σ4 ρ4 xs4 s4 C4 R4 q4=>⟨E',G',F4,ρ4,xs4,s13.trans s4,C4,R4,q4⟩,ok.rt⟩ q3
 · have e:i=xs.length:=by omega
   subst e
   exact .inl ⟨vi.stop _ H (HX _) sH,ok.nx _ _ _ _ _ _ _ (g1.fs.trans s2) C2 R2 (fin _ _ j2)⟩
noncomputable def DL(ic ik ix:Nat):GH:=fun a Dm xss ρ=>ρ[ic]?=some (some (.vv (.ref a)))/\∃(n:Nat)(xs:List HH)(d:HH),ρ[ik]?=some (some (.d (.int n)))/\xss[n]?=some xs/\ρ[ix]?=some (some (.d d))/\xs.length<sizeLine/\Dm.nx (xss.set n (xs++[d])) ρ
theorem qx{as:List Addr}{b:Addr}(e:as[n]?=some b):atI (as.map V.ref) (n:Int)=some (V.ref b):=by
 have hl:n<as.length:=(Iy.mp e).1
 rw[cA]
 unfold atI
 rw[show ixN as.length (n:Int)=some n by unfold ixN;simp;omega,Option.bind_some,e]
 rfl
theorem Bk(ic ik ix:Nat){c k:Str}{pc pk p1 apos cpos:Pos} 
 (hc:X.N[ic]?=some c:=by rfl)(vc:GB X.env.scope c:=by first|exact J0 rfl|exact Jq (J0 rfl)|exact Jq (Jq rfl))(dc:(c==("__debug__" : Str))=false:=by decide)(ec:(c==("__classdict__" : Str))=false:=by decide)
 (hk:X.N[ik]?=some k:=by rfl)(vk:GB X.env.scope k:=by first|exact J0 rfl|exact Jq (J0 rfl)|exact Jq (Jq rfl))(dk:(k==("__debug__" : Str))=false:=by decide)(ek:(k==("__classdict__" : Str))=false:=by decide)
 (hx:X.N[ix]?=some x:=by rfl)(vx:GB X.env.scope x:=by first|exact J0 rfl|exact Jq (J0 rfl)|exact Jq (Jq rfl))(dx:(x==("__debug__" : Str))=false:=by decide)(ex:(x==("__classdict__" : Str))=false:=by decide)
 (hs:jk (.Name k pk):=by exact fun _ _=>rfl)
 (hbase:LX (.Subscript (.Name c pc) (.Name k pk) p1) "append" X.env (eval (.Subscript (.Name c pc) (.Name k pk) p1) X.env)=eval (.Subscript (.Name c pc) (.Name k pk) p1) X.env:=by rfl)
 (hfew:((JR cpos (HZ [.Name x px] X.env)).all (fun x=>!x.1)&&(Nm cpos (LC [] X.env)).all (fun x=>x.1.isSome)
  && decide (([.Name x px]:List Expr).length+([]:List L7).length+(if([]:List L7).isEmpty then 0 else 1)<30))=true:=by rfl)
 (hline:(apos.endLine==cpos.line)=true:=by rfl)(hst:HZ [.Name x px] X.env=(false,eval (.Name x px) X.env)::HZ [] X.env:=by rfl)(hplain:(JR cpos (HZ [] X.env)).any (·.1)=false:=by rfl)
 (hsw:J4 (.Call (.Attribute (.Subscript (.Name c pc) (.Name k pk) p1) "append" apos) [.Name x px] [] cpos) none pos.line X.env=pure false:=by rfl) :
 G0 X rl (.Expr (.Call (.Attribute (.Subscript (.Name c pc) (.Name k pk) p1) "append" apos) [.Name x px] [] cpos) pos) (DL ic ik ix):=by
 refine⟨_,oJ (yK MJ MB MC ee (vG pL (cG hc vc dc ec) (cG hk vk dk ek) hs) (gm (cG hx vx dx ex) oT hst) hbase hfew hline hst hplain) hsw,fun{F₀ H₀ F₁ H₁ F H σ ρ a as xss} C R Dm D ok ⟨e1,n,xs,d,e2,e3,e4,hl,q⟩=>?_⟩
 obtain⟨v1,s1,rfl,_⟩:=R.sl ic _ e1
 obtain⟨v2,s2,r2,_⟩:=R.sl ik _ e2
 have ev2:=aL r2
 subst ev2
 obtain⟨v3,s3,r3,_⟩:=R.sl ix _ e4
 obtain⟨b,eb,vs,h1,h2,h3,h4,h5⟩:=gj C.inn e3
 have ha:H a=some (.lst (as.map V.ref)):=R.g.same a _ C.ha C.ra
 have hb:H b=some (.lst vs):=R.g.same b _ h1 h3
 refine⟨_,s1,_,s2,.inl ⟨a,_,_,_,rfl,rfl,.inl (.inl ha),qx eb,.inl ⟨rfl,vs,.inl (.inl hb)⟩,_,s3,b,vs,_,rfl,rfl,hb,by rw[h5.length];exact hl,?_⟩⟩
 exact ok.nx F₁ _ F _ σ ρ _ (.refl _) (C.moved eb h2 h3 h4 (h5.snoc r3)) (R.moved h1 h2 h3) q
noncomputable def DK(i jf ic ik:Nat)(Pd:List W->(HH->Prop)->Prop)(f3:TV):GH:=fun a Dm xss ρ=>ρ[jf]?=some (some .reel)/\ρ[ic]?=some (some (.vv (.ref a)))/\∃(n:Nat)(xs:List HH),ρ[ik]?=some (some (.d (.int n)))/\xss[n]?=some xs /\
 f3 ρ fun w=>∃b:Bool,w = .d (.bool b)/\Pd [.reel,.d (.list xs),.d (.bool b)] fun d=>(∃p q:Int,d = .tuple [.int p,.int q])/\Dm.nx xss (ρ.set i (some (.d d)))
theorem Bj(i jf ic ik:Nat){f h c k:Str}{pf ph pc pk p1 cpos:Pos}{e3:Expr}{f3:TV}{ps:List Str}{kk:Nat}{Pd:List W->(HH->Prop)->Prop}(hN:X.N.Nodup)(Dd:Dfn X.prog X.w X.K X.mg X.base rl f ps kk Pd)(hr:Room kk X.A)(h3:PV X rl e3 f3)
 (hi:X.N[i]?=some x:=by rfl)(hx:Loc X.env.scope x:=by first|exact J0 rfl|exact Jq rfl)(hf:X.fn x=true\/X.env.scope.names.lookup x=some .local:=by first|exact .inl rfl|exact .inr rfl)
 (hh:X.N[jf]?=some h:=by rfl)(vh:GB X.env.scope h:=by first|exact J0 rfl|exact Jq (J0 rfl)|exact Jq (Jq rfl))(dh:(h==("__debug__" : Str))=false:=by decide)(eh:(h==("__classdict__" : Str))=false:=by decide)
 (hc:X.N[ic]?=some c:=by rfl)(vc:GB X.env.scope c:=by first|exact J0 rfl|exact Jq (J0 rfl)|exact Jq (Jq rfl))(dc:(c==("__debug__" : Str))=false:=by decide)(ec:(c==("__classdict__" : Str))=false:=by decide)
 (hk:X.N[ik]?=some k:=by rfl)(vk:GB X.env.scope k:=by first|exact J0 rfl|exact Jq (J0 rfl)|exact Jq (Jq rfl))(dk:(k==("__debug__" : Str))=false:=by decide)(ek:(k==("__classdict__" : Str))=false:=by decide)
 (hs:jk (.Name k pk):=by exact fun _ _=>rfl)(hg:Gl X f:=by rfl)(hdb:(f==("__debug__" : Str))=false:=by decide)
 (st1:HZ [.Name h ph,.Subscript (.Name c pc) (.Name k pk) p1,e3] X.env=(false,eval (.Name h ph) X.env)::HZ [.Subscript (.Name c pc) (.Name k pk) p1,e3] X.env:=by rfl)
 (st2:HZ [.Subscript (.Name c pc) (.Name k pk) p1,e3] X.env=(false,eval (.Subscript (.Name c pc) (.Name k pk) p1) X.env)::HZ [e3] X.env:=by rfl)(st3:HZ [e3] X.env=(false,eval e3 X.env)::HZ [] X.env:=by rfl)
 (hpl:(JR cpos (HZ [.Subscript (.Name c pc) (.Name k pk) p1,e3] X.env)).any (·.1)=false:=by rfl)
 (hsw:J4 (.Call (.Name f pf) [.Name h ph,.Subscript (.Name c pc) (.Name k pk) p1,e3] [] cpos) (some (.Name x px)) pos.line X.env=pure false:=by rfl) :
 G0 X rl (.Assign [.Name x px] (.Call (.Name f pf) [.Name h ph,.Subscript (.Name c pc) (.Name k pk) p1,e3] [] cpos) pos) (DK i jf ic ik Pd f3):=by
 obtain⟨fa,fd,hm,hkp,hb,Fk⟩:=Dd.ex
 obtain⟨t3,p3,k3⟩:=h3
 refine⟨_,gh hN hi hx (kH Fk hr hg hm hkp hb .nil vJ (gm (cG hh vh dh eh) (gm (vG pL (cG hc vc dc ec) (cG hk vk dk ek) hs) (gm p3 oT st3) st2) st1) hdb st1 hpl) hsw hf,fun{F₀ H₀ F₁ H₁ F H σ ρ a as xss} C R Dm D ok ⟨e0,e1,n,xs,e2,e3,q⟩=>?_⟩
 obtain⟨v0,s0,⟨r,er,rfl⟩,_⟩:=R.sl jf _ e0
 obtain⟨v1,s1,rfl,_⟩:=R.sl ic _ e1
 obtain⟨v2,s2,r2,_⟩:=R.sl ik _ e2
 have ev2:=aL r2
 subst ev2
 obtain⟨b,eb,vs,h1,h2,h3,h4,h5⟩:=gj C.inn e3
 have ha:H a=some (.lst (as.map V.ref)):=R.g.same a _ C.ha C.ra
 have hb:H b=some (.lst vs):=R.g.same b _ h1 h3
 refine⟨_,s0,_,s1,_,s2,.inl ⟨a,_,_,_,rfl,rfl,.inl (.inl ha),qx eb,k3 R _ _ q fun v3 w3 F3 H3 g3 r3 n3 ⟨bb,ew,q3⟩=>?_⟩⟩
 subst ew
 have hb3:H3 b=some (.lst vs):=g3.same b _ hb h3
 have fb3:F3 b=none:=by rw[g3.old b _ hb,R.g.old b _ h1];exact h2
 have nb3:∀d u,F3 d=some u->d≠b:=fun d u z y=>by subst y;rw[fb3]at z;cases z
 have fsm:bF F3 (EB F3 b (.lst vs)):=fun d u z=>by rw[am (nb3 d u z)];exact z
 have sub:bF (EB F3 b (.lst vs)) H3:=fun d u z=>by
  by_cases y:d=b
  · subst y;rw[ax]at z;cases z;exact hb3
  · rw[am y]at z;exact g3.sub d u z
 have ra:GT rl (EB F3 b (.lst vs)) H3:=fun r er=>by
  obtain⟨z1,⟨o,z2,z3⟩⟩:=g3.reel r er
  exact⟨by rw[am (fun y=>h3 (by rw[<- y];exact er))];exact z1,⟨o,z2,z3.mono fsm⟩⟩
 have rb:rl.b.1≠b:=by
  obtain⟨_,⟨o,_,_,_,_,_,z,_⟩⟩:=g3.reel r er
  exact nb3 _ _ z
 refine⟨EB F3 b (.lst vs),[.reel,.d (.list xs),.d (.bool bb)],sub,ra,.cons ⟨r,er,rfl⟩ (.cons (Rep.lst ax (h5.mono (g3.fs.trans fsm))) (.cons (Rep.mono fsm r3) .nil)),rfl,Dd.mono _ _ _ (fun d ⟨⟨p,q,ed⟩,qn⟩ v F4 H4 g4 r4=>?_) q3⟩
 subst ed
 have f4b:F4 b=some (.lst vs):=g4.fs b _ ax
 let F5:Hp:=fun d=>if d=b then none else F4 d
 have e5:∀d,d≠b->F5 d=F4 d:=fun d y=>if_neg y
 have e5b:F5 b=none:=if_pos rfl
 have g5:Grow rl F3 H3 F5 H4:=by
  refine⟨g4.same,fun d u z=>?_,fun d u z=>?_,fun d u z=>?_,fun r er=>?_⟩
  · rw[e5 d (nb3 d u z)];exact g4.fs d u (fsm d u z)
  · by_cases y:d=b
    · subst y;rw[e5b]at z;cases z
    · rw[e5 d y]at z;exact g4.sub d u z
  · by_cases y:d=b
    · subst y;rw[e5b,fb3]
    · rw[e5 d y,g4.old d u z,am y]
  · obtain⟨z1,⟨o,z2,x1,x2,x3,z3,z4,z5⟩⟩:=g4.reel r er
    exact ⟨by by_cases y:r=b
              · subst y;exact e5b
              · rw[e5 r y];exact z1,⟨o,z2,x1,x2,x3,z3,by rw[e5 _ rb];exact z4,z5⟩⟩
 have r5:Rep X.K F5 v (.tuple [.int p,.int q]):=by
  cases r4 with
  | @tup a' us _ sq rs =>
    have ev:=fL (ns:=[p,q]) rs
    subst ev
    refine .tup ?_ (f_ [p,q])
    rcases sq with(z|⟨o,z⟩)|z
    · exact .inl (.inl (by rw[e5 _ (fun y=>by subst y;rw[f4b]at z;cases z)];exact z))
    · exact .inl (.inr ⟨o,by rw[e5 _ (fun y=>by subst y;rw[f4b]at z;cases z)];exact z⟩)
    · exact .inr z
 exact ok.nx F₁ H₁ F5 H4 _ _ xss (g3.fs.trans g5.fs) (C.mono (g3.fs.trans g5.fs)) (R.set (g3.trans g5) (w:=.d _) r5 trivial (fun _ z=>by cases z) i) qn
end
theorem VR.here{K:W.Frag}(R:VR K rl F₀ H₀ F H σ ρ)(n:j9 ρ):VR K rl F H F H σ ρ:=by
 refine⟨Grow.refl R.sub R.reel,fun i w e=>?_,R.ap,R.np,R.len⟩
 obtain⟨v,h1,h2,_⟩:=R.sl i w e
 have ow:=n i w e
 refine⟨v,h1,h2,?_⟩
 cases w with
 | ml _=>cases ow
 | md _=>cases ow
 | mk _=>cases ow
 | _=>trivial
theorem ij{α β:Type}{R:α->β->Prop}{y:β}:∀{xs:List α},(∀x∈xs,R x y)->Jy R xs (IC xs.length y)
 | [],_=>.nil
 | x::xs,h=>by rw[Io,JE];exact .cons (h x HM) (ij fun z mz=>h z (HK _ mz))
section
variable{X:Cx}{rl:RlT}{rest:List Stmt}{u:GH}{tg iter:Expr}{scope:Scope}{fi:En->(List HH->Prop)->Prop}
noncomputable def FM(ic:Nat)(fi:En->(List HH->Prop)->Prop)(fr:List (Option Nat))(u:GH):GG:=fun Dv ρ=>fi ρ fun xs=>j9 ρ/\(∀x,Le (dS fr ρ) ((dS fr ρ).set 0 (some (.d x))))/\xs.length<=sizeLine/\∀a,u a ⟨fun _ _=>False,Dv.rt⟩ (IC xs.length []) (ρ.set ic (some (.vv (.ref a))))
theorem Bf(ic:Nat){lp:Pos}(hN:X.N.Nodup)(N':List Str)(fr:List (Option Nat))(hc:X.calm=true)(hi:G4 X rl tg iter fi)
 (hg:∀y,G7 (blk X N' scope y) rl tg (r_ 0))(hrest:zT X rl rest u)
 (hsw:J4 (.ListComp (.List [] lp) [⟨tg,iter,[],0⟩] scope pos) (some (.Name x px)) spos.line X.env=pure b:=by rfl)
 (hix:X.N[ic]?=some x:=by rfl)(hx:Loc X.env.scope x:=by first|exact J0 rfl|exact Jq rfl)(hf:X.fn x=true\/X.env.scope.names.lookup x=some .local:=by first|exact .inl rfl|exact .inr rfl)
 (hfr:lS fr N' X.N scope X.env.scope=true:=by rfl)(hsc:mP scope X.env.scope=true:=by rfl)
 (hs:∀x,Iz iter X.env x=pure x:=by intro _;rfl):mC X rl (.Assign [.Name x px] (.ListComp (.List [] lp) [⟨tg,iter,[],0⟩] scope pos) spos::rest) (FM ic fi fr u):=by
 have ht:∀y,mB (blk X N' scope y) rl [] (fun _ Q=>Q true):=fun _=>b9
 have he:∀y,PV (blk X N' scope y) rl (.List [] lp) (zY sU):=fun _=>cE ac
 obtain⟨wi,p0,k0⟩:=hi
 obtain⟨T2,p2,k2⟩:=hrest
 refine⟨_,fN (ig N' fr hc p0 hfr hsc (fun y=>(HR (hg y)).1) (fun y=>(HR (ht y)).1) (fun y=>(HR (he y)).1) hN hix hx hf hsw hs) p2,fun{F₀ H₀ F H σ ρ} R Dv D ok q=>k0 R _ _ q fun J xs F1 H1 g1 vi ⟨nm,le,hz,q1⟩=>?_⟩
 intro a hD
 have rne:∀c,H1 c=none->rl.a≠some c:=fun c z e=>by obtain⟨o,y⟩:=g1.reel.live e;rw[z]at y;cases y
 have rD:=rne a hD
 have FD:F1 a=none:=g1.sub.free hD
 have gD:Grow rl F1 H1 F1 (EB H1 a (.lst [])):=Grow.laid g1.sub g1.reel hD
 have R1:=R.grow g1
 have n0:j9 (dS fr ρ):=dz
 refine⟨fun i m acc σc Hc=>m=xs.length-i/\i<=xs.length/\∃Fc as,acc=as.map V.ref/\as.length=i/\as.Nodup/\a∉as/\(∀b∈as,H1 b=none/\Hc b=some (.lst [])/\Fc b=none)/\VR X.K rl F1 H1 Fc Hc σc (dS fr ρ)/\Hc a=some (.lst acc)/\Fc a=none,
  ⟨xs.length,by simp,Ix _,F1,[],rfl,rfl,List.nodup_nil,by simp,by simp,fJ R1 gD,ax,FD⟩,?_⟩
 rintro z i m acc σc Hc ⟨rfl,hi,Fc,as,rfl,hl,nd,na,hin,Rc,hac,fac⟩
 have sH:bF F1 Hc:=Rc.g.fs.trans Rc.sub
 by_cases hlt:i<xs.length
 · have ei:xs[i]?=some xs[i]:=by simp[hlt]
   refine .inr ⟨vi.go i Hc _ ei sH,fun v H' y=>?_⟩
   obtain⟨Fy,gy,rv⟩:=vi.yld i Hc v H' _ Fc ei Rc.g.fs Rc.sub Rc.reel y
   refine(HR (hg z)).2 (Rc.grow gy) v _ (fun ρ3=>Le (dS fr ρ) ρ3) _ rv (le _) fun F3 H3 σ3 ρ3 g3 n3 R3 le3=>?_
   refine(HR (ht z)).2 R3 (fun b=>b=true) _ rfl fun b F4 H4 g4 eb=>?_
   subst eb
   rw[if_pos rfl]
   have R4:=R3.grow g4
   have g34:=(gy.trans g3).trans g4
   refine(HR (he z)).2 R4 (fun w=>w = .ml []) _ ⟨[],rfl,Ix _,rfl⟩ fun v5 w5 F5 H5 g5 r5 n5 ew=>?_
   subst ew
   obtain⟨b,us,rfl,f5,rb,hb5,rs⟩:=(show iB X.K rl F5 H5 v5 []from r5)
   cases rs
   have hb4:H4 b=none:=n5 b rfl
   have g35:=g34.trans g5
   have hb1:H1 b=none:=(Rc.g.trans g34).freeB hb4
   have ne4:∀c o,Hc c=some o->rl.a≠some c->c≠b:=fun c o e n y=>by have:=g34.same c o e n;rw[y,hb4]at this;cases this
   have nba:a≠b:=ne4 a _ hac rD
   have nb:b∉as:=fun mb=>ne4 b _ (hin b mb).2.1 (rne b hb1) rfl
   refine⟨g35.same a _ hac rD,by rw[HW];omega,xs.length-(i+1),by omega,rfl,hlt,F5,as++[b],by rw[Jk];rfl,by rw[Ic,hl];rfl,?_,?_,fun c mc=>?_,((R4.grow g5).le le3).other n0 hD (by rw[g35.old a _ hac];exact fac) rD,ax,by rw[g35.old a _ hac];exact fac⟩
   · refine List.nodup_append.mpr ⟨nd,by simp,fun c mc d md y=>?_⟩
     cases Ij.mp md
     exact nb (y▸mc)
   · simp only[Ip,Ij,not_or]
     exact⟨na,nba⟩
   · rcases Ip.mp mc with mc|mc
     · obtain⟨x1,x2,x3⟩:=hin c mc
       have nc:c≠a:=fun y=>na (y▸mc)
       exact⟨x1,by rw[am nc];exact g35.same c _ x2 (rne c x1),by rw[g35.old c _ x2];exact x3⟩
     · cases Ij.mp mc
       exact⟨hb1,by rw[am nba.symm];exact hb5,f5⟩
 · have e:i=xs.length:=by omega
   subst e
   refine .inl ⟨vi.stop _ Hc (HX _) sH,?_⟩
   have gg:Grow rl F₀ H₀ Fc Hc:=(R.g.trans g1).trans Rc.g
   have Rn:=(R.grow (g1.trans Rc.g)).here nm
   have inn:Jy (Hs X.K rl H₀ Fc Hc Fc) as (IC xs.length []):=by
    rw[<- hl]
    exact ij fun b mb=>by
     obtain⟨x1,x2,x3⟩:=hin b mb
     exact⟨[],x2,x3,rne b x1,(R.g.trans g1).freeB x1,.nil⟩
   exact k2 ⟨gg,hac,rD,nd,na,inn⟩ (Rn.set (Grow.refl Rn.sub Rn.reel) (w:=.vv (.ref a)) rfl trivial (fun _ y=>by cases y) ic) _ D ⟨fun _ _ _ _ _ _ _ _ _ _ y=>JL y,ok.rt⟩ (q1 a)
end
theorem vU(h:ρ.all (fun o=>match o with|some w=>!w.own|none=>true)=true):j9 ρ:=fun i w e=>by
 have:=JP.mp h _ (Ki e)
 simpa using this
noncomputable def mQ(Dm:MEnds)(xss:List (List HH)):Fl->Prop
 | .nx ρ=>Dm.nx xss ρ
 | .rt w=>Dm.rt w
 | _=>False
theorem pe{Dm:MEnds}(h:Dm.nx xss ρ):ret (Fl.nx ρ) (mQ Dm xss):=h
theorem Bg{Dm:MEnds}{w:W}(h:Dm.rt w):ret (Fl.rt w) (mQ Dm xss):=h
theorem cS{t u:GH}{Dm:MEnds}(h:t a {Dm with nx:=u a Dm} xss ρ):C_ t u a Dm xss ρ:=h
theorem zt{x:HH}{Q:En->Prop}(h:Q (ρ.set i (some (.d x)))):r_ i x ρ Q:=h
theorem pj{g:GK}{t:GH}{Dm:MEnds}(h:fi ρ fun ys=>∃J:Nat->List (List HH)->En->Prop,J 0 xss ρ /\
 (∀i y xss ρ,ys[i]?=some y->J i xss ρ->g y ρ fun ρ2=>t a {Dm with nx:=J (i+1)} xss ρ2)/\∀xss ρ,J ys.length xss ρ->Dm.nx xss ρ):Da fi g t a Dm xss ρ:=h
theorem lG{Dm:MEnds}(h:Dm.nx xss ρ):zc a Dm xss ρ:=h
theorem ip{t:GG}{Dm:MEnds}(h:mS t ρ (mQ Dm xss)):FK t a Dm xss ρ:=by
 have e:FK t a Dm xss ρ=mS t ρ (mQ Dm xss):=rfl
 rw[e];exact h
section
variable{X:Cx}{e1:Expr}{f1:TV}{pos dpos q1 q2 q3 q4 q5 q6 q7:Pos}{j1 j2 j3 j4 j5 j6 j7:Nat}
theorem pV{j1 j2 j3 j4 j5 j6 j7}(h1:PV X RlT.no e1 f1) :
 ∃ T,GY X [.Return (some (.Dict [some (.Constant (.str "cells") j1 q1),some (.Constant (.str "at") j2 q2),some (.Constant (.str "left") j3 q3),some (.Constant (.str "turn") j6 q6)] [e1,.Constant (.int 0) j4 q4,.Constant (.int 0) j5 q5,.Constant (.int 0) j7 q7] dpos)) pos] T /\
   ∀ {F H:Hp}{σ:St}{ρ:En},VR X.K RlT.no F H F H σ ρ->∀D:Ends,(f1 ρ fun w=>∃ns:List Int,w = .ml (ns.map .int)/\ns.length<=63) ->
     (∀r n' F' H',H r=none->Grow RlT.no F H F' H'->GT (RlT.at' r n') F' H'->D.rt (.ref r) H')->T D σ H:=by
 obtain⟨g1,pe1,ke1⟩:=h1
 refine⟨_,oH (tF (oP (cO dq pe1 (cO dq lB (cO dq lB (cO dq lB oK)))) rfl rfl (by intro z;cases z) (by show 4<=15;decide))),fun{F H σ ρ} R D q fin=>?_⟩
 intro p hp
 have gp:Grow RlT.no F H F (EB H p (.dK [])):=Grow.laid R.sub R.reel hp
 refine ke1 (R.grow gp) _ _ q fun v1 w1 F3 H3 g3 r1 n1 qc=>?_
 obtain⟨ns,rfl,hl⟩:=qc
 obtain⟨F4,g4,s4,r4⟩:=du.fz (w:=.ml (ns.map .int)) g3 r1 n1
 have r4:Rep X.K F4 v1 (.list (ns.map .int)):=r4
 cases r4 with
 | @lst a vs _ hc rs =>
   have ev:=fL rs
   subst ev
   have hp5:H3 p=some (.dK []):=g3.same p _ ax (by simp)
   refine⟨hp5,[(kC,.ref a),(kA,.int 0),(kL,.int 0),(kT,.int 0)],rfl,(by show 4<=15;decide),?_⟩
   rw[m7]
   have f5:F4 p=none:=by rw[g4.old p _ ax];exact R.sub.free hp
   have g0:Grow RlT.no F H F4 H3:=gp.trans g4
   refine fin p (a,ns) F4 _ hp ⟨fun b o eb _=>by rw[am (aX eb hp)];exact g0.same b o eb (by simp),g0.fs,fun b o eb=>?_,g0.old,fun _ z=>by cases z⟩ (fun r er=>?_)
   · have:b≠p:=fun z=>by subst z;rw[f5]at eb;cases eb
     rw[am this]
     exact g0.sub b o eb
   · cases er
     exact⟨f5,⟨_,ax,0,0,0,rfl,hc,hl,by omega,by omega,by omega⟩⟩
end
end L2.VL
namespace L2
abbrev FW(elt t1 i1:Expr)(f1:List Expr)(t2 i2:Expr)(f2:List Expr)(scope:Scope)(pos:Pos):Expr:=.ListComp elt [⟨t1,i1,f1,0⟩,⟨t2,i2,f2,0⟩] scope pos
theorem uJ(elt t1 i1:Expr)(f1:List Expr)(t2 i2:Expr)(f2:List Expr)(scope:Scope)(pos:Pos)(it acc:HQ)(env:Env) :
 NT (FW elt t1 i1 f1 t2 i2 f2 scope pos) 0 it acc env=(MG i1.pos >>= fun _=>M7 it >>= fun r=>match r with
  | none=>pure (.done .next)
  | some v=>Kb t1 it v >>= fun _=>KL t1 env v >>= fun _=>dI f1 env >>= fun ok=>(if ok=true then
      (eval i2 env >>= fun x=>MG i2.pos >>= fun _=>Iz i2 env x >>= fun x=>MH [x] (Og x) >>= fun y=>runOwn (.compStart (FW elt t1 i1 f1 t2 i2 f2 scope pos) 1 y acc env) env >>= fun _=>again (.compLoop (FW elt t1 i1 f1 t2 i2 f2 scope pos) 0 it acc env))
      else again (.compLoop (FW elt t1 i1 f1 t2 i2 f2 scope pos) 0 it acc env))):=by rfl
theorem uI(elt t1 i1:Expr)(f1:List Expr)(t2 i2:Expr)(f2:List Expr)(scope:Scope)(pos:Pos)(it acc:HQ)(env:Env) :
 NT (FW elt t1 i1 f1 t2 i2 f2 scope pos) 1 it acc env=(MG i2.pos >>= fun _=>M7 it >>= fun r=>match r with
  | none=>pure (.done .next)
  | some v=>Kb t2 it v >>= fun _=>KL t2 env v >>= fun _=>dI f2 env >>= fun ok=>(if ok=true then
      ((eval elt env >>= fun x=>call (.builtin "list.append") [acc,x] >>= fun _=>pure ()) >>= fun _=>again (.compLoop (FW elt t1 i1 f1 t2 i2 f2 scope pos) 1 it acc env))
      else again (.compLoop (FW elt t1 i1 f1 t2 i2 f2 scope pos) 1 it acc env))):=by rfl
section
variable{prog:II}{w:Ju}{A:Jz}{R:Oh->HU->Prop}{s:HU}{elt t1 i1 t2 i2:Expr}{f1 f2:List Expr}{scope:Scope}{pos:Pos}{it acc:HQ}{env:Env}
theorem v4(I:Nat->HU->Prop)(hs:∀x,Iz i2 env x=pure x)
 (turn:∀n s,I n s->Iv (IH prog w) A (M7 it) (fun r s₁=>(r=none/\R (.ok .next) s₁)\/∃v,r=some v /\
  Iv (IH prog w) A (Kb t1 it v) (fun _ s₂=>Iv (IH prog w) A (KL t1 env v) (fun _ s₃=>Iv (IH prog w) A (dI f1 env) (fun ok s₄ =>
   if ok=true then Iv (IH prog w) A (eval i2 env) (fun x s₅=>Iv (IH prog w) A (Og x) (fun y s₆=>Km (IH prog w) A (.compStart (FW elt t1 i1 f1 t2 i2 f2 scope pos) 1 y acc env) (fun r s₇=>r = .ok .next/\∃m,m<n/\I m s₇) s₆) (fun _ _=>False) s₅) (fun _ _=>False) s₄
   else ∃m,m<n/\I m s₄) (fun _ _=>False) s₃) (fun _ _=>False) s₂) (fun _ _=>False) s₁) (fun _ _=>False) s)
 (n:Nat)(h:I n s):Km (IH prog w) A (.compLoop (FW elt t1 i1 f1 t2 i2 f2 scope pos) 0 it acc env) R s:=by
 refine Nb rfl I (fun n s hI=>?_) n h
 show Iv _ A ((NT (FW elt t1 i1 f1 t2 i2 f2 scope pos) 0 it acc env).onRaise (fun x=>do NU x env;L_ x)) _ _ s
 refine NB ?_
 rw[uJ]
 refine HJ (JI (HJ (IL (turn n s hI) (fun r s₁ h₁=>?_) fun _ _ h'=>h'.elim)))
 rcases h₁ with⟨rfl,h₁⟩|⟨v,rfl,h₁⟩
 · exact H_ h₁
 · refine HJ (IL h₁ (fun _ s₂ h₂=>HJ (IL h₂ (fun _ s₃ h₃=>HJ (IL h₃ (fun ok s₄ h₄=>?_) fun _ _ z=>z.elim)) fun _ _ z=>z.elim)) fun _ _ z=>z.elim)
   cases ok with
   | false=>exact H_ ⟨rfl,h₄⟩
   | true =>
     refine HJ (IL h₄ (fun x s₅ h₅=>HJ (JI (HJ (On (hs x) (HJ (J_ (IL h₅ (fun y s₆ h₆=>?_) fun _ _ z=>z.elim))))))) fun _ _ z=>z.elim)
     refine HJ (wpAny_runOwn (Mm h₆ fun r s₇ ⟨hr,h₇⟩=>?_))
     subst hr
     exact H_ ⟨rfl,h₇⟩
theorem vZ(I:Nat->HU->Prop)
 (turn:∀n s,I n s->Iv (IH prog w) A (M7 it) (fun r s₁=>(r=none/\R (.ok .next) s₁)\/∃v,r=some v /\
  Iv (IH prog w) A (Kb t2 it v) (fun _ s₂=>Iv (IH prog w) A (KL t2 env v) (fun _ s₃=>Iv (IH prog w) A (dI f2 env) (fun ok s₄ =>
   if ok=true then Iv (IH prog w) A (eval elt env) (fun x s₅=>Iv (IH prog w) A (call (.builtin "list.append") [acc,x]) (fun _ s₆=>∃m,m<n/\I m s₆) (fun _ _=>False) s₅) (fun _ _=>False) s₄
   else ∃m,m<n/\I m s₄) (fun _ _=>False) s₃) (fun _ _=>False) s₂) (fun _ _=>False) s₁) (fun _ _=>False) s)
 (n:Nat)(h:I n s):Km (IH prog w) A (.compLoop (FW elt t1 i1 f1 t2 i2 f2 scope pos) 1 it acc env) R s:=by
 refine Nb rfl I (fun n s hI=>?_) n h
 show Iv _ A ((NT (FW elt t1 i1 f1 t2 i2 f2 scope pos) 1 it acc env).onRaise (fun x=>do NU x env;L_ x)) _ _ s
 refine NB ?_
 rw[uI]
 refine HJ (JI (HJ (IL (turn n s hI) (fun r s₁ h₁=>?_) fun _ _ h'=>h'.elim)))
 rcases h₁ with⟨rfl,h₁⟩|⟨v,rfl,h₁⟩
 · exact H_ h₁
 · refine HJ (IL h₁ (fun _ s₂ h₂=>HJ (IL h₂ (fun _ s₃ h₃=>HJ (IL h₃ (fun ok s₄ h₄=>?_) fun _ _ z=>z.elim)) fun _ _ z=>z.elim)) fun _ _ z=>z.elim)
   cases ok with
   | false=>exact H_ ⟨rfl,h₄⟩
   | true=>exact HJ (HJ (IL h₄ (fun x s₅ h₅=>HJ (IL h₅ (fun _ s₆ h₆=>H_ (H_ ⟨rfl,h₆⟩)) fun _ _ z=>z.elim)) fun _ _ z=>z.elim))
theorem qY
 (h0:Km (IH prog w) A (.compLoop (FW elt t1 i1 f1 t2 i2 f2 scope pos) 1 it acc env) R s)
 (h:Iv (IH prog w) A (Og it) (fun it' s'=>Km (IH prog w) A (.compLoop (FW elt t1 i1 f1 t2 i2 f2 scope pos) 1 it' acc env) R s') (notedBy (IH prog w) A env fun x s'=>R (.error x) s') s) :
 Km (IH prog w) A (.compStart (FW elt t1 i1 f1 t2 i2 f2 scope pos) 1 it acc env) R s:=by
 refine codeAny_of_tree ?_
 show Iv _ _ ((compStart (FW elt t1 i1 f1 t2 i2 f2 scope pos) 1 it acc env).onRaise (fun x=>do NU x env;MG theWindowsPlace)) _ _ s
 refine wpAny_notedAt ?_
 unfold compStart
 show Iv _ _ (ask >>= _) _ _ s
 refine HJ (wpAny_askSetting (wpAny_ite ?_))
 split
 · first
     | exact HJ (H_ (H_ (HI rfl h0)))
     | exact H_ (HI rfl h0)
 · first
     | exact HJ (L1 (HJ (JI (HJ (IL h (fun it' s' h'=>H_ (HI rfl h')) fun _ _ x=>x)))))
     | (refine HJ (L1 ?_);show Iv _ _ (MG i2.pos >>= _) _ _ s;exact HJ (JI (HJ (IL h (fun it' s' h'=>H_ (HI rfl h')) fun _ _ x=>x))))
end
noncomputable def EN(wi:TI)(g:TG)(tt:TT)(te:TE)(D:Addr)(acc:List V)(σ:St)(H:Hp)(R:List V->St->Hp->Prop):Prop:=wi σ H fun J H1=>∃Wv:Nat->Nat->List V->St->Hp->Prop,(∃m,Wv 0 m acc σ H1) /\
 ∀ i m acc σc H,Wv i m acc σc H->(J.stop i H/\R acc σc H)\/(J.go i H/\∀x H',J.yld i H x H'->g x σc H' fun σ2 H2=>tt σ2 H2 fun b H3 =>
   if b=true then te σ2 H3 fun y H4=>H4 D=some (.lst acc)/\acc.length<sizeLine/\∃m',m'<m/\Wv (i+1) m' (acc++[y]) σ2 (EB H4 D (.lst (acc++[y])))else ∃m',m'<m/\Wv (i+1) m' acc σ2 H3)
section
variable{Y:Cx}{elt t1 i1 t2 i2:Expr}{f1 f2:List Expr}{scope:Scope}{pos:Pos}{wi:TI}{g:TG}{tt:TT}{te:TE}{D:Addr}
theorem zq(hc:Y.calm=true)(hx:Y.xe=fun _ _=>False)(hi:PI Y t2 i2 wi)(hg:PG Y t2 g)(ht:GX Y f2 tt)(he:PE Y elt te){acc:List V}{R:List V->St->Hp->Prop}{Rp:HU->Prop}
 (I:Inv Y pins σ H s)(q:EN wi g tt te D acc σ H R)(fin:∀acc σ5 H5 s5,Inv Y pins σ5 H5 s5->R acc σ5 H5->Rp s5) :
 Iv (IH Y.prog Y.w) Y.A (eval i2 Y.env) (fun x s₅=>Iv (IH Y.prog Y.w) Y.A (Og x) (fun y s₆=>Km (IH Y.prog Y.w) Y.A (.compStart (FW elt t1 i1 f1 t2 i2 f2 scope pos) 1 y (.ref D) Y.env) (fun r s₇=>r = .ok .next/\Rp s₇) s₆) (fun _ _=>False) s₅) (fun _ _=>False) s:=by
 have hi':=hi pins s σ H _ I q
 rw[hx]at hi'
 refine EI hi' fun v s1 h1=>EI h1 fun itv s2 h2=>?_
 obtain⟨it,fp,tn,J,H2,e,I2,T,st2,f2',Wv,⟨m0,w0⟩,turn⟩:=h2
 subst e
 have stat:∀{H':Hp},(∀b∈fp,H' b=none)->∀b∈fp,j_ Y pins H' b:=fun hn b hb=>⟨hn b hb,(f2' b hb).2⟩
 have loop:Km (IH Y.prog Y.w) Y.A (.compLoop (FW elt t1 i1 f1 t2 i2 f2 scope pos) 1 (.ref it) (.ref D) Y.env) (fun r s₇=>r = .ok .next/\Rp s₇) s2:=by
  refine vZ (fun n s'=>∃i acc σ' H',Inv Y pins σ' H' s'/\tn i s'.heap/\(∀b∈fp,H' b=none)/\Wv i n acc σ' H') ?_ m0 ⟨0,acc,σ,H2,I2,st2,fun b hb=>(f2' b hb).1,w0⟩
  rintro n s4 ⟨i,acc,σ4,H4,I4,st4,fr4,w4⟩
  rcases turn i n acc σ4 H4 w4 with⟨stop,qn⟩|⟨go,step⟩
  · exact EI (T.done Y rfl rfl rfl hc i pins s4 σ4 H4 (fun _ _=>False) I4 (stat fr4) st4 stop) fun r s5 ⟨hr,I5⟩=>.inl ⟨hr,rfl,fin acc σ4 H4 s5 I5 qn⟩
  · refine EI (T.item Y rfl rfl rfl hc i pins s4 σ4 H4 (fun _ _=>False) I4 (stat fr4) st4 go) fun r s5 ⟨u,hr,h5⟩=>.inr ⟨u,hr,?_⟩
    refine EI h5 fun _ s6 ⟨x,H6,I6,r6,y6,st6,fr6⟩=>?_
    have I6':=I6.pinned (stat fr6) (T.obj _ _ st6)
    have again:∀{σ7:St}{H7:Hp}{s7:HU},Inv Y (pins++ff fp s6.heap) σ7 H7 s7->∀{acc':List V}{m':Nat},m'<n->Wv (i+1) m' acc' σ7 H7 ->
     ∃m,m<n/\∃i acc σ' H',Inv Y pins σ' H' s7/\tn i s7.heap/\(∀b∈fp,H' b=none)/\Wv i m acc σ' H':=fun{σ7 H7 s7} I7 {acc' m'} hm w7=>by
     refine⟨m',hm,i+1,acc',σ7,H7,I7.unpinned,T.keep _ _ _ st6 fun b hb o e=>(I7.pin (b,o) (HY _ (HY _ (bD hb e)))).1,fun b hb=>?_,w7⟩
     obtain⟨o,e,d⟩:=T.obj _ _ st6 b hb
     exact(I7.pin (b,o) (HY _ (HY _ (bD hb e)))).2.1
    have h7:=hg _ s6 σ4 H6 x u _ I6' r6 (step x H6 y6)
    rw[hx]at h7
    refine EI h7 fun _ s7 ⟨σ7,H7,I7,q7⟩=>?_
    have h8:=ht _ s7 σ7 H7 _ I7 q7
    rw[hx]at h8
    refine EI h8 fun ok s8 ⟨H8,I8,q8⟩=>?_
    cases ok with
    | false =>
      rw[if_neg IF]at q8 ⊢
      obtain⟨m',hm,w8⟩:=q8
      exact again I8 hm w8
    | true =>
      rw[if_pos rfl]at q8 ⊢
      have h9:=he _ s8 σ7 H8 _ I8 q8
      rw[hx]at h9
      refine EI h9 fun y s9 ⟨yv,H9,I9,r9,eD,hl,m',hm,w9⟩=>?_
      have h10:=ee (X:=Y) _ s9 σ7 H9 (.ref D) [yv] (.ref D) [y] (fun _ H'=>H'=EB H9 D (.lst (acc++[yv]))) I9 rfl (.cons r9 .nil) ⟨D,acc,yv,rfl,rfl,eD,hl,rfl⟩
      rw[hx]at h10
      exact EI h10 fun _ s10 ⟨_,H10,I10,_,e10⟩=>by subst e10;exact again I10 hm w9
 exact qY loop (T.self Y.A 0 _ _ _ st2 loop)
end
noncomputable def nX(wi:TI)(fr:List (Option Nat))(g:CompA->TG)(tt:CompA->TT)(wj:CompA->TI)(g2:CompA->TG)(tt2:CompA->TT)(te:CompA->TE):TE:=fun σ H Q=>wi σ H fun J H1=>∀D,H1 D=none->∃Wv:Nat->Nat->List V->St->Hp->Prop,(∃m,Wv 0 m [] (nv fr σ) (EB H1 D (.lst []))) /\
 ∀ (z:CompA) i m acc σc H,Wv i m acc σc H->(J.stop i H/\Q (.ref D) H)\/(J.go i H/\∀x H',J.yld i H x H'->g z x σc H' fun σ2 H2=>tt z σ2 H2 fun b H3 =>
   if b=true then EN (wj z) (g2 z) (tt2 z) (te z) D acc σ2 H3 fun acc' σ5 H5=>∃m',m'<m/\Wv (i+1) m' acc' σ5 H5 else ∃m',m'<m/\Wv (i+1) m' acc σ2 H3)
section
variable{Y:Cx}{elt t1 i1 t2 i2:Expr}{f1 f2:List Expr}{scope:Scope}{pos:Pos}{wj:TI}{g g2:TG}{tt tt2:TT}{te:TE}{D:Addr}
theorem tM(hc:Y.calm=true)(hx:Y.xe=fun _ _=>False)(hg:PG Y t1 g)(ht:GX Y f1 tt)(hj:PI Y t2 i2 wj)(hg2:PG Y t2 g2)(ht2:GX Y f2 tt2)(he:PE Y elt te)(hs:∀x,Iz i2 Y.env x=pure x)
 {J:It}{Q:VK}(T:Turn Y.prog Y.w Y.K t1 J fp it tn)(I:Inv Y [] σ H s)(st0:tn 0 s.heap)(fp0:∀b∈fp,H b=none)(stat:∀{H':Hp},(∀b∈fp,H' b=none)->∀b∈fp,j_ Y [] H' b)
 {Wv:Nat->Nat->List V->St->Hp->Prop}{m0:Nat}(w0:Wv 0 m0 [] σ H)
 (turn:∀i m acc σc H,Wv i m acc σc H->(J.stop i H/\Q (.ref D) H)\/(J.go i H/\∀x H',J.yld i H x H'->g x σc H' fun σ2 H2=>tt σ2 H2 fun b H3 =>
  if b=true then EN wj g2 tt2 te D acc σ2 H3 fun acc' σ5 H5=>∃m',m'<m/\Wv (i+1) m' acc' σ5 H5 else ∃m',m'<m/\Wv (i+1) m' acc σ2 H3)) :
 Km (IH Y.prog Y.w) Y.A (.compStart (FW elt t1 i1 f1 t2 i2 f2 scope pos) 0 (.ref it) (.ref D) Y.env) (fun r s5=>r = .ok .next/\∃σ5 H4,Inv Y [] σ5 H4 s5/\Q (.ref D) H4) s:=by
 have loop:Km (IH Y.prog Y.w) Y.A (.compLoop (FW elt t1 i1 f1 t2 i2 f2 scope pos) 0 (.ref it) (.ref D) Y.env) (fun r s5=>r = .ok .next/\∃σ5 H4,Inv Y [] σ5 H4 s5/\Q (.ref D) H4) s:=by
  refine v4 (fun n s'=>∃i acc σ' H',Inv Y [] σ' H' s'/\tn i s'.heap/\(∀b∈fp,H' b=none)/\Wv i n acc σ' H') hs ?_ m0 ⟨0,[],_,_,I,st0,fp0,w0⟩
  rintro n s4 ⟨i,acc,σ4,H4,I4,st4,fr4,w4⟩
  rcases turn i n acc σ4 H4 w4 with⟨stop,qn⟩|⟨go,step⟩
  · exact EI (T.done Y rfl rfl rfl hc i [] s4 σ4 H4 (fun _ _=>False) I4 (stat fr4) st4 stop) fun r s5 ⟨hr,I5⟩=>.inl ⟨hr,rfl,σ4,H4,I5,qn⟩
  · refine EI (T.item Y rfl rfl rfl hc i [] s4 σ4 H4 (fun _ _=>False) I4 (stat fr4) st4 go) fun r s5 ⟨u,hr,h5⟩=>.inr ⟨u,hr,?_⟩
    refine EI h5 fun _ s6 ⟨x,H6,I6,r6,y6,st6,fr6⟩=>?_
    have I6':=I6.pinned (stat fr6) (T.obj _ _ st6)
    have again:∀{σ7:St}{H7:Hp}{s7:HU},Inv Y ([]++ff fp s6.heap) σ7 H7 s7->∀{acc':List V}{m':Nat},m'<n->Wv (i+1) m' acc' σ7 H7 ->
     ∃m,m<n/\∃i acc σ' H',Inv Y [] σ' H' s7/\tn i s7.heap/\(∀b∈fp,H' b=none)/\Wv i m acc σ' H':=fun{σ7 H7 s7} I7 {acc' m'} hm w7=>by
     refine⟨m',hm,i+1,acc',σ7,H7,I7.unpinned,T.keep _ _ _ st6 fun b hb o e=>(I7.pin (b,o) (HY _ (HY _ (bD hb e)))).1,fun b hb=>?_,w7⟩
     obtain⟨o,e,d⟩:=T.obj _ _ st6 b hb
     exact(I7.pin (b,o) (HY _ (HY _ (bD hb e)))).2.1
    have h7:=hg _ s6 σ4 H6 x u _ I6' r6 (step x H6 y6)
    rw[hx]at h7
    refine EI h7 fun _ s7 ⟨σ7,H7,I7,q7⟩=>?_
    have h8:=ht _ s7 σ7 H7 _ I7 q7
    rw[hx]at h8
    refine EI h8 fun ok s8 ⟨H8,I8,q8⟩=>?_
    cases ok with
    | false =>
      rw[if_neg IF]at q8 ⊢
      obtain⟨m',hm,w8⟩:=q8
      exact again I8 hm w8
    | true =>
      rw[if_pos rfl]at q8 ⊢
      exact zq hc hx hj hg2 ht2 he I8 q8 fun acc' σ9 H9 s9 I9 ⟨m',hm,w9⟩=>again I9 hm w9
 exact MZ loop (T.self Y.A 0 _ _ _ st0 loop)
end
section
variable{X:Cx}{elt t1 i1 t2 i2:Expr}{f1 f2:List Expr}{scope:Scope}{pos:Pos}{wi:TI}{wj:CompA->TI}{g g2:CompA->TG}{tt tt2:CompA->TT}{te:CompA->TE}
theorem mP.get{scope scX:Scope}(hsc:mP scope scX=true):scope.kind = .function/\(∀y∈scope.names,y.2 = .cell->scope.names.lookup y.1=some .cell)/\(∀y∈scope.names,y.2 = .local->scope.names.lookup y.1=some .local) /\
 ∀y∈scope.names,y.2 = .free->scX.names.lookup y.1=some .cell\/scX.names.lookup y.1=some .free:=by
 obtain⟨sk,sn⟩:=HV.mp hsc
 have hall:=JP.mp sn
 refine⟨of_decide_eq_true sk,fun y hy hl=>?_,fun y hy hl=>?_,fun y hy hl=>?_⟩
 · rcases Ir.mp (HV.mp (HV.mp (hall y hy)).1).1 with z|z
   · exact absurd hl (of_decide_eq_true z)
   · exact of_decide_eq_true z
 · rcases Ir.mp (HV.mp (HV.mp (hall y hy)).1).2 with z|z
   · exact absurd hl (of_decide_eq_true z)
   · exact of_decide_eq_true z
 · rcases Ir.mp (HV.mp (hall y hy)).2 with z|z
   · exact absurd hl (of_decide_eq_true z)
   · exact(Ir.mp z).imp of_decide_eq_true of_decide_eq_true
theorem jJ(N':List Str)(fr:List (Option Nat))(hc:X.calm=true)(hi:PI X t1 i1 wi)(hfr:lS fr N' X.N scope X.env.scope=true)(hsc:mP scope X.env.scope=true)
 (hg:∀y,PG (blk X N' scope y) t1 (g y))(ht:∀y,GX (blk X N' scope y) f1 (tt y))(hj:∀y,PI (blk X N' scope y) t2 i2 (wj y))(hg2:∀y,PG (blk X N' scope y) t2 (g2 y))(ht2:∀y,GX (blk X N' scope y) f2 (tt2 y))(he:∀y,PE (blk X N' scope y) elt (te y))
 (hs:∀x,Iz i1 X.env x=pure x:=by intro _;rfl)(hs2:∀y x,Iz i2 (blk X N' scope y).env x=pure x:=by intro _ _;rfl):PE X (FW elt t1 i1 f1 t2 i2 f2 scope pos) (nX wi fr g tt wj g2 tt2 te):=by
 intro pins s σ H Q I h
 obtain⟨hkind,hcell,hnames,hfree⟩:=mP.get hsc
 obtain⟨frl,frg⟩:=lS.get hfr
 obtain⟨cl,hclos,cl1,cl2⟩:=cg (env:=X.env) (scope:=scope) fun y hy hl=>I.ok.has y.1 (hfree y hy hl)
 rw[eval_ListComp]
 refine JU (use:=none) rfl hs hclos hkind hnames (EI (hi pins s σ H _ I h) fun v s1 h1=>EI h1 fun itv s2 h2=>?_)
 obtain⟨it,fp,tn,J,H2,e,I2,T,st2,f2,q2⟩:=h2
 subst e
 refine Jg ?_
 have hD:H2 s2.heap.objs.size=none:=I2.hok.fresh (HX _)
 have I3:Inv X pins σ (EB H2 s2.heap.objs.size (.lst [])) {s2 with heap:=s2.heap.push {cls:=.type "list", data:=.seq ([]:List HQ).toArray}} :=
  I2.laid (t':=s2.toks) (fun b u e=>HN _ e) (HX _) ⟨by show 0<=sizeLine;exact Ix _,[],0,.nil,Im _ rfl⟩
 obtain⟨Wv,⟨m0,w0⟩,turn⟩:=q2 _ hD
 have tn3:tn 0 (s2.heap.push {cls:=.type "list", data:=.seq ([]:List HQ).toArray}):=T.keep _ _ _ st2 fun b _ o e=>HN _ e
 have fpD:∀b∈fp,(EB H2 s2.heap.objs.size (.lst [])) b=none:=fun b hb=>by
  obtain⟨o,e,_⟩:=T.obj _ _ st2 b hb
  rw[am (IP (Ii e))]
  exact(f2 b hb).1
 have fp3:∀b∈fp,b<(s2.heap.push {cls:=.type "list", data:=.seq ([]:List HQ).toArray}).objs.size:=fun b hb=>by
  obtain⟨o,e,_⟩:=T.obj _ _ tn3 b hb
  exact Ii e
 exact cW N' fr hc hkind hcell hfree frl frg cl1 cl2 I3 T tn3 fpD fp3 (fun b hb=>(f2 b hb).2)
  (fun s' IY tY stat=>tM (Y:=blk X N' scope ⟨cl,fp,X.pn++pins,_,_⟩) hc rfl (hg ⟨cl,fp,X.pn++pins,_,_⟩) (ht ⟨cl,fp,X.pn++pins,_,_⟩) (hj ⟨cl,fp,X.pn++pins,_,_⟩) (hg2 ⟨cl,fp,X.pn++pins,_,_⟩) (ht2 ⟨cl,fp,X.pn++pins,_,_⟩) (he ⟨cl,fp,X.pn++pins,_,_⟩) (hs2 ⟨cl,fp,X.pn++pins,_,_⟩) T IY tY fpD stat w0 (turn ⟨cl,fp,X.pn++pins,_,_⟩))
  (Rp:=NV (IH X.prog X.w) X.A X.xe none (EP X pins σ Q) (.ref s2.heap.objs.size)) fun s5 H4 m hn k _ qn=>⟨m,hn,fun h' hs'=>⟨.ref _,H4,k h' hs',rfl,qn⟩⟩
theorem kF{ix:Nat}(N':List Str)(fr:List (Option Nat))(hc:X.calm=true)(hi:PI X t1 i1 wi)(hfr:lS fr N' X.N scope X.env.scope=true)(hsc:mP scope X.env.scope=true)
 (hg:∀y,PG (blk X N' scope y) t1 (g y))(ht:∀y,GX (blk X N' scope y) f1 (tt y))(hj:∀y,PI (blk X N' scope y) t2 i2 (wj y))(hg2:∀y,PG (blk X N' scope y) t2 (g2 y))(ht2:∀y,GX (blk X N' scope y) f2 (tt2 y))(he:∀y,PE (blk X N' scope y) elt (te y))
 (hN:X.N.Nodup)(hix:X.N[ix]?=some x)(hx:Loc X.env.scope x)(hf:X.fn x=true\/X.env.scope.names.lookup x=some .local)(hsw:J4 (FW elt t1 i1 f1 t2 i2 f2 scope pos) (some (.Name x px)) spos.line X.env=pure b)
 (hs:∀x,Iz i1 X.env x=pure x)(hs2:∀y x,Iz i2 (blk X N' scope y).env x=pure x):PS X (.Assign [.Name x px] (FW elt t1 i1 f1 t2 i2 f2 scope pos) spos) (xR (nX wi fr g tt wj g2 tt2 te) (jb ix)):=by
 cases b with
 | false=>exact gh hN hix hx (jJ N' fr hc hi hfr hsc hg ht hj hg2 ht2 he hs hs2) hsw hf
 | true =>
 intro pins s σ H DD I h
 obtain⟨hkind,hcell,hnames,hfree⟩:=mP.get hsc
 obtain⟨frl,frg⟩:=lS.get hfr
 obtain⟨cl,hclos,cl1,cl2⟩:=cg (env:=X.env) (scope:=scope) fun y hy hl=>I.ok.has y.1 (hfree y hy hl)
 rw[LN _ _ _ _ hsw]
 refine HJ (JI (HJ ?_))
 show Iv _ X.A (do let _ <- NW (FW elt t1 i1 f1 t2 i2 f2 scope pos) scope X.env _ (newList []) false (eval i1 X.env) (some (KL (.Name x px) X.env))) _ _ s
 refine HJ (IL (JU (use:=some (KL (.Name x px) X.env)) (Q:=fun _ s'=>SP X pins DD .next s') rfl hs hclos hkind hnames
  (EI (hi pins s σ H _ I h) fun v s1 h1=>EI h1 fun itv s2 h2=>?_)) (fun _ s' hq=>H_ (H_ hq)) fun _ _ e=>e)
 obtain⟨it,fp,tn,J,H2,e,I2,T,st2,f2,q2⟩:=h2
 subst e
 refine Jg ?_
 have hD:H2 s2.heap.objs.size=none:=I2.hok.fresh (HX _)
 have I3:Inv X pins σ (EB H2 s2.heap.objs.size (.lst [])) {s2 with heap:=s2.heap.push {cls:=.type "list", data:=.seq ([]:List HQ).toArray}} :=
  I2.laid (t':=s2.toks) (fun b u e=>HN _ e) (HX _) ⟨by show 0<=sizeLine;exact Ix _,[],0,.nil,Im _ rfl⟩
 obtain⟨Wv,⟨m0,w0⟩,turn⟩:=q2 _ hD
 have tn3:tn 0 (s2.heap.push {cls:=.type "list", data:=.seq ([]:List HQ).toArray}):=T.keep _ _ _ st2 fun b _ o e=>HN _ e
 have fpD:∀b∈fp,(EB H2 s2.heap.objs.size (.lst [])) b=none:=fun b hb=>by
  obtain⟨o,e,_⟩:=T.obj _ _ st2 b hb
  rw[am (IP (Ii e))]
  exact(f2 b hb).1
 have fp3:∀b∈fp,b<(s2.heap.push {cls:=.type "list", data:=.seq ([]:List HQ).toArray}).objs.size:=fun b hb=>by
  obtain⟨o,e,_⟩:=T.obj _ _ tn3 b hb
  exact Ii e
 refine cW (Q:=fun v H1=>jb ix v σ H1 DD.nx) N' fr hc hkind hcell hfree frl frg cl1 cl2 I3 T tn3 fpD fp3 (fun b hb=>(f2 b hb).2)
  (fun s' IY tY stat=>tM (Y:=blk X N' scope ⟨cl,fp,X.pn++pins,_,_⟩) (Q:=fun v H1=>jb ix v σ H1 DD.nx) hc rfl (hg ⟨cl,fp,X.pn++pins,_,_⟩) (ht ⟨cl,fp,X.pn++pins,_,_⟩) (hj ⟨cl,fp,X.pn++pins,_,_⟩) (hg2 ⟨cl,fp,X.pn++pins,_,_⟩) (ht2 ⟨cl,fp,X.pn++pins,_,_⟩) (he ⟨cl,fp,X.pn++pins,_,_⟩) (hs2 ⟨cl,fp,X.pn++pins,_,_⟩) T IY tY fpD stat w0 (turn ⟨cl,fp,X.pn++pins,_,_⟩))
  (Rp:=NV (IH X.prog X.w) X.A X.xe (some (KL (.Name x px) X.env)) (fun _ s'=>SP X pins DD .next s') (.ref s2.heap.objs.size)) fun s5 H4 m hn k fpo qn=>?_
 show Iv _ X.A (KL (.Name x px) X.env (.ref s2.heap.objs.size)) _ _ s5
 have I5:Inv X pins σ H4 s5:=k s5.heap (MD _ _)
 obtain⟨f0,f1,f2',f3,f4,f5⟩:=fpo
 refine LB (d0 I5 hN hix hx (v:=.ref s2.heap.objs.size) rfl (fun s6 I6 sb=>?_) hf)
 obtain⟨a,sb,ha⟩:=sb
 have hne:(s2.heap.push {cls:=.type "list", data:=.seq ([]:List HQ).toArray}).objs.size≠a:=by
  rcases ha with rfl|ha
  · exact f1
  · exact fun z=>f4 x a ha z.symm
 refine⟨m,hn.at' fun o e=>sb.extBut _ o hne e,fun h' hs'=>?_⟩
 exact⟨_,H4,I6.turned (t':=s6.toks) (fun b o hb e=>hs'.extBut b o hb e) f0 f1 f3 f4 f5,qn⟩
end
end L2
namespace L2.VL
noncomputable def qR(ρ0:En)(g:GK)(ft:TB)(fj:En->(List HH->Prop)->Prop)(g2:GK)(ft2:TB)(fe:TV):List HH->List HH->(List HH->Prop)->Prop
 | [],acc,Q=>Q acc
 | x::xs,acc,Q=>g x ρ0 fun ρ2=>Le ρ0 ρ2/\ft ρ2 fun b=>if b=true then fj ρ2 fun ys=>nP ρ2 g2 ft2 fe ys acc fun acc'=>qR ρ0 g ft fj g2 ft2 fe xs acc' Q else qR ρ0 g ft fj g2 ft2 fe xs acc Q
noncomputable def lv(fi:En->(List HH->Prop)->Prop)(fr:List (Option Nat))(g:GK)(ft:TB)(fj:En->(List HH->Prop)->Prop)(g2:GK)(ft2:TB)(fe:TV):TV:=fun ρ Q=>fi ρ fun xs=>qR (dS fr ρ) g ft fj g2 ft2 fe xs [] fun ds=>Q (.ml ds)
section
variable{X:Cx}{rl:RlT}{elt t1 i1 t2 i2:Expr}{f1 f2:List Expr}{scope:Scope}{pos:Pos}{fi fj:En->(List HH->Prop)->Prop}{g g2:GK}{ft ft2:TB}{fe:TV}
theorem lL{N':List Str}{wi:TI}(fr:List (Option Nat))(k0:∀{F₀ H₀ F H:Hp}{σ:St}{ρ:En},VR X.K rl F₀ H₀ F H σ ρ->∀(Qd:List HH->Prop)(R:It->Hp->Prop),fi ρ Qd ->
 (∀J xs F' H',Grow rl F H F' H'->VIt X.K rl F' J xs->Qd xs->R J H')->wi σ H R)
 (hg:∀y,G7 (blk X N' scope y) rl t1 g)(ht:∀y,mB (blk X N' scope y) rl f1 ft)(hj:∀y,G4 (blk X N' scope y) rl t2 i2 fj)(hg2:∀y,G7 (blk X N' scope y) rl t2 g2)(ht2:∀y,mB (blk X N' scope y) rl f2 ft2)(he:∀y,PV (blk X N' scope y) rl elt fe)
 (R:VR X.K rl F₀ H₀ F H σ ρ)(Qd:W->Prop)(Q:VK)(q:lv fi fr g ft fj g2 ft2 fe ρ Qd)
 (k:∀v w F' H',Grow rl F H F' H'->du X.K rl F' H' v w->dR H v w->Qd w->Q v H') :
 nX wi fr (fun y=>Jm (hg y)) (fun y=>Jm (ht y)) (fun y=>Jm (hj y)) (fun y=>Jm (hg2 y)) (fun y=>Jm (ht2 y)) (fun y=>Jm (he y)) σ H Q:=by
 refine k0 R _ _ q fun J xs F1 H1 g1 vi q1=>?_
 intro D hD
 have rD:rl.a≠some D:=fun e=>by obtain⟨o,z⟩:=g1.reel.live e;rw[hD]at z;cases z
 have FD:F1 D=none:=g1.sub.free hD
 have gD:Grow rl F1 H1 F1 (EB H1 D (.lst [])):=Grow.laid g1.sub g1.reel hD
 have R1:=R.grow g1
 have n0:j9 (dS fr ρ):=dz
 have keepD:∀{acc:List V}{Fc Hc Fx Hx:Hp},Hc D=some (.lst acc)->Fc D=none->Grow rl Fc Hc Fx Hx->Hx D=some (.lst acc)/\Fx D=none:=fun hDc fDc gx=>⟨gx.same D _ hDc rD,by rw[gx.old D _ hDc];exact fDc⟩
 refine⟨fun i m acc σc Hc=>m=xs.length-i/\i<=xs.length/\∃Fc ds,VR X.K rl F1 H1 Fc Hc σc (dS fr ρ)/\Hc D=some (.lst acc)/\Fc D=none/\Reps X.K Fc acc ds/\qR (dS fr ρ) g ft fj g2 ft2 fe (xs.drop i) ds (fun ds=>Qd (.ml ds)),
  ⟨xs.length,by simp,Ix _,F1,[],fJ R1 gD,ax,FD,.nil,by simpa using q1⟩,?_⟩
 rintro z i m acc σc Hc ⟨rfl,hi,Fc,ds,Rc,hDc,fDc,rs,q2⟩
 have sH:bF F1 Hc:=Rc.g.fs.trans Rc.sub
 by_cases hlt:i<xs.length
 · have ei:xs[i]?=some xs[i]:=by simp[hlt]
   have ed:xs.drop i=xs[i]::xs.drop (i+1):=Jx hlt
   rw[ed]at q2
   refine .inr ⟨vi.go i Hc _ ei sH,fun v H' y=>?_⟩
   obtain⟨Fy,gy,rv⟩:=vi.yld i Hc v H' _ Fc ei Rc.g.fs Rc.sub Rc.reel y
   refine(HR (hg z)).2 (Rc.grow gy) v _ _ _ rv q2 fun F3 H3 σ3 ρ3 g3 n3 R3 ⟨le3,q3⟩=>?_
   refine(HR (ht z)).2 R3 _ _ q3 fun b F4 H4 g4 q4=>?_
   have R4:=R3.grow g4
   have g34:=(gy.trans g3).trans g4
   have nm3:j9 ρ3:=n3 n0
   cases b with
   | false=>exact⟨xs.length-(i+1),by omega,rfl,hlt,F4,ds,R4.le le3,(keepD hDc fDc g34).1,(keepD hDc fDc g34).2,rs.mono g34.fs,q4⟩
   | true =>
     refine(HR (hj z)).2 R4 _ _ q4 fun J2 ys F5 H5 g5 vi2 q5=>?_
     have g35:=g34.trans g5
     refine⟨fun j m acc σe He=>m=ys.length-j/\j<=ys.length/\∃Fe es,VR X.K rl F1 H1 Fe He σe ρ3/\bF F5 Fe/\He D=some (.lst acc)/\Fe D=none/\Reps X.K Fe acc es /\
      nP ρ3 g2 ft2 fe (ys.drop j) es (fun es=>qR (dS fr ρ) g ft fj g2 ft2 fe (xs.drop (i+1)) es (fun ds=>Qd (.ml ds))),
      ⟨ys.length,by simp,Ix _,F5,ds,R4.grow g5,.refl _,(keepD hDc fDc g35).1,(keepD hDc fDc g35).2,rs.mono g35.fs,by simpa using q5⟩,?_⟩
     rintro j m acc2 σe He ⟨rfl,hj',Fe,es,Re,s5,hDe,fDe,res,q6⟩
     have sHe:bF F5 He:=s5.trans Re.sub
     by_cases hlt2:j<ys.length
     · have ej:ys[j]?=some ys[j]:=by simp[hlt2]
       have edj:ys.drop j=ys[j]::ys.drop (j+1):=Jx hlt2
       rw[edj]at q6
       refine .inr ⟨vi2.go j He _ ej sHe,fun v2 H2' y2=>?_⟩
       obtain⟨Fy2,gy2,rv2⟩:=vi2.yld j He v2 H2' _ Fe ej s5 Re.sub Re.reel y2
       refine(HR (hg2 z)).2 (Re.grow gy2) v2 _ _ _ rv2 q6 fun F7 H7 σ7 ρ7 g7 n7 R7 ⟨le7,q7⟩=>?_
       refine(HR (ht2 z)).2 R7 _ _ q7 fun b2 F8 H8 g8 q8=>?_
       have R8:=R7.grow g8
       have g78:=(gy2.trans g7).trans g8
       cases b2 with
       | false=>exact⟨ys.length-(j+1),by omega,rfl,hlt2,F8,es,R8.le le7,s5.trans g78.fs,(keepD hDe fDe g78).1,(keepD hDe fDe g78).2,res.mono g78.fs,q8⟩
       | true =>
         refine(HR (he z)).2 R8 _ _ q8 fun v9 w9 F9 H9 g9 r9 n9 ⟨d,ed9,hl,q9⟩=>?_
         obtain⟨F10,g10,s10,r10⟩:=du.fz g9 r9 n9
         rw[ed9]at r10
         have g710:=g78.trans g10
         refine⟨(keepD hDe fDe g710).1,by rw[res.length];exact hl,ys.length-(j+1),by omega,rfl,hlt2,F10,es++[d],((R8.grow g10).le le7).other nm3 hD (keepD hDe fDe g710).2 rD,s5.trans g710.fs,ax,(keepD hDe fDe g710).2,(res.mono g710.fs).snoc r10,q9⟩
     · have e:j=ys.length:=by omega
       subst e
       rw[Ks]at q6
       exact .inl ⟨vi2.stop _ He (HX _) sHe,xs.length-(i+1),by omega,rfl,hlt,Fe,es,Re.le le3,hDe,fDe,res,q6⟩
 · have e:i=xs.length:=by omega
   subst e
   rw[Ks]at q2
   refine .inl ⟨vi.stop _ Hc (HX _) sH,k _ (.ml ds) Fc Hc (g1.trans Rc.g) ⟨D,acc,rfl,fDc,rD,hDc,rs⟩ (fun a ea=>by cases ea;exact g1.freeB hD) q2⟩
theorem qP(N':List Str)(fr:List (Option Nat))(hc:X.calm=true)(hi:G4 X rl t1 i1 fi)
 (hg:∀y,G7 (blk X N' scope y) rl t1 g)(ht:∀y,mB (blk X N' scope y) rl f1 ft)(hj:∀y,G4 (blk X N' scope y) rl t2 i2 fj)(hg2:∀y,G7 (blk X N' scope y) rl t2 g2)(ht2:∀y,mB (blk X N' scope y) rl f2 ft2)(he:∀y,PV (blk X N' scope y) rl elt fe)
 (hfr:lS fr N' X.N scope X.env.scope=true:=by rfl)(hsc:mP scope X.env.scope=true:=by rfl)
 (hs:∀x,Iz i1 X.env x=pure x:=by intro _;rfl)(hs2:∀y x,Iz i2 (blk X N' scope y).env x=pure x:=by intro _ _;rfl):PV X rl (.ListComp elt [⟨t1,i1,f1,0⟩,⟨t2,i2,f2,0⟩] scope pos) (lv fi fr g ft fj g2 ft2 fe):=by
 obtain⟨wi,p0,k0⟩:=hi
 exact⟨_,jJ N' fr hc p0 hfr hsc (fun y=>(HR (hg y)).1) (fun y=>(HR (ht y)).1) (fun y=>(HR (hj y)).1) (fun y=>(HR (hg2 y)).1) (fun y=>(HR (ht2 y)).1) (fun y=>(HR (he y)).1) hs hs2,
  fun R Qd Q q k=>lL fr k0 hg ht hj hg2 ht2 he R Qd Q q k⟩
theorem fP(i:Nat)(hN:X.N.Nodup)(N':List Str)(fr:List (Option Nat))(hc:X.calm=true)(hi:G4 X rl t1 i1 fi)
 (hg:∀y,G7 (blk X N' scope y) rl t1 g)(ht:∀y,mB (blk X N' scope y) rl f1 ft)(hj:∀y,G4 (blk X N' scope y) rl t2 i2 fj)(hg2:∀y,G7 (blk X N' scope y) rl t2 g2)(ht2:∀y,mB (blk X N' scope y) rl f2 ft2)(he:∀y,PV (blk X N' scope y) rl elt fe)
 (hsw:J4 (.ListComp elt [⟨t1,i1,f1,0⟩,⟨t2,i2,f2,0⟩] scope pos) (some (.Name x px)) spos.line X.env=pure b:=by rfl)
 (hix:X.N[i]?=some x:=by rfl)(hx:Loc X.env.scope x:=by first|exact J0 rfl|exact Jq rfl)(hf:X.fn x=true\/X.env.scope.names.lookup x=some .local:=by first|exact .inl rfl|exact .inr rfl)
 (hfr:lS fr N' X.N scope X.env.scope=true:=by rfl)(hsc:mP scope X.env.scope=true:=by rfl)
 (hs:∀x,Iz i1 X.env x=pure x:=by intro _;rfl)(hs2:∀y x,Iz i2 (blk X N' scope y).env x=pure x:=by intro _ _;rfl) :
 GZ X rl (.Assign [.Name x px] (.ListComp elt [⟨t1,i1,f1,0⟩,⟨t2,i2,f2,0⟩] scope pos) spos) (qQ i (lv fi fr g ft fj g2 ft2 fe)):=by
 obtain⟨wi,p0,k0⟩:=hi
 refine⟨_,kF N' fr hc p0 hfr hsc (fun y=>(HR (hg y)).1) (fun y=>(HR (ht y)).1) (fun y=>(HR (hj y)).1) (fun y=>(HR (hg2 y)).1) (fun y=>(HR (ht2 y)).1) (fun y=>(HR (he y)).1) hN hix hx hf hsw hs hs2,
  fun R Dv D ok q=>lL fr k0 hg ht hj hg2 ht2 he R _ _ q fun v w F1 H1 g1 r1 n1 ⟨d,ed,q1⟩=>?_⟩
 obtain⟨F2,g2,s2,r2⟩:=du.fz g1 r1 n1
 rw[ed]at r2
 exact ok.nx _ _ _ _ g2.fs (R.set g2 r2 trivial (fun xs z=>by cases z) i) q1
end
noncomputable def pN(ρ0:En)(g:GK)(ft:TB)(fj:En->(List HH->Prop)->Prop)(g2:GK)(ft2:TB)(fe:TV)(x:HH)(acc:List HH):Mo (List HH) :=
 Gs (g x ρ0) fun ρ2=>Ge (Le ρ0 ρ2) (Gs (ft ρ2) fun b=>if b=true then Gs (fj ρ2) fun ys=>cb (FZ ρ2 g2 ft2 fe) ys acc else ret acc)
noncomputable def eK(b:HH->List HH->Mo (List HH)):List HH->List HH->Mo (List HH)
 | [],acc=>ret acc
 | x::xs,acc=>Gs (b x acc) (eK b xs)
theorem lX(ρ0:En)(g:GK)(ft:TB)(fj:En->(List HH->Prop)->Prop)(g2:GK)(ft2:TB)(fe:TV):∀(xs acc:List HH),qR ρ0 g ft fj g2 ft2 fe xs acc=eK (pN ρ0 g ft fj g2 ft2 fe) xs acc
 | [],acc=>rfl
 | x::xs,acc=>by
   refine ai fun Q=>?_
   show(g x ρ0 fun ρ2=>Le ρ0 ρ2/\ft ρ2 fun b=>if b=true then fj ρ2 fun ys=>nP ρ2 g2 ft2 fe ys acc fun acc'=>qR ρ0 g ft fj g2 ft2 fe xs acc' Q else qR ρ0 g ft fj g2 ft2 fe xs acc Q)↔(Gs (pN ρ0 g ft fj g2 ft2 fe x acc) (eK (pN ρ0 g ft fj g2 ft2 fe) xs)) Q
   simp only[lX ρ0 g ft fj g2 ft2 fe xs,kY]
   have:∀(ρ2:En)(b:Bool),(if b=true then fj ρ2 fun ys=>cb (FZ ρ2 g2 ft2 fe) ys acc fun acc'=>eK (pN ρ0 g ft fj g2 ft2 fe) xs acc' Q else eK (pN ρ0 g ft fj g2 ft2 fe) xs acc Q)
    = (Gs (if b=true then Gs (fj ρ2) fun ys=>cb (FZ ρ2 g2 ft2 fe) ys acc else ret acc) (eK (pN ρ0 g ft fj g2 ft2 fe) xs)) Q:=by
    intro ρ2 b
    cases b<;>rfl
   simp only[this]
   exact Mb
theorem m_comp2(fi:En->(List HH->Prop)->Prop)(fr:List (Option Nat))(g:GK)(ft:TB)(fj:En->(List HH->Prop)->Prop)(g2:GK)(ft2:TB)(fe:TV)(ρ:En) :
 lv fi fr g ft fj g2 ft2 fe ρ=Gs (fi ρ) fun xs=>Gs (eK (pN (dS fr ρ) g ft fj g2 ft2 fe) xs []) fun ds=>ret (.ml ds):=by
 refine ai fun Q=>?_
 show(fi ρ fun xs=>qR (dS fr ρ) g ft fj g2 ft2 fe xs [] fun ds=>Q (.ml ds))↔_
 simp only[lX]
 exact Mb
section
variable{α β:Type}{b:HH->Mo (Option HH)}
theorem kZ{c:HH->List HH->Mo (List HH)}{xs:List α}{enc:α->HH}(F:α->List HH)(h:∀x∈xs,∀acc:List HH,acc.length+(F x).length<=sizeLine->c (enc x) acc=ret (acc++F x)) :
 ∀acc:List HH,acc.length+(xs.flatMap F).length<=sizeLine->eK c (xs.map enc) acc=ret (acc++xs.flatMap F):=by
 induction xs with
 | nil=>intro acc _;show ret acc=_;simp
 | cons x xs ih =>
   intro acc hl
   rw[JW,Ic]at hl
   show Gs (c (enc x) acc) _=_
   rw[h x HM acc (by omega),bnd_ret,ih (fun y my=>h y (HK _ my)) (acc++F x) (by rw[Ic];omega),JW,K9]
theorem sO{γ:Type}{c:HH->List HH->Mo (List HH)}{k:List HH->Mo γ}{Q:γ->Prop}{xs:List α}{enc:α->HH}(F:α->List HH)(hx:xs'=xs.map enc)
 (h:∀x∈xs,∀acc:List HH,acc.length+(F x).length<=sizeLine->c (enc x) acc=ret (acc++F x))(hl:(xs.flatMap F).length<=sizeLine)(fin:k (xs.flatMap F) Q):Gs (eK c xs' []) k Q:=by
 subst hx
 rw[kZ F h [] (by simpa using hl),bnd_ret]
 simpa using fin
end
noncomputable def HF:=HI @m_comp2 (@bnd_ret)
noncomputable def fr(q:Rat):HH:=.tuple [.int q.num,.int q.den]
theorem iq(h:fr q=fr r):q=r:=by
 simp only[fr,JC,Jp,MT,and_true]at h
 exact Rat.ext h.1 (by omega)
theorem eC(n:Int)(d:Nat)(h:d≠0):wP n d=fr (MM n d h):=by
 unfold wP fr
 rw[Rat.normalize_eq]
 have g:(J3 n d:Int)=((n.natAbs.gcd d:Nat):Int):=by simp[J3]
 have gp:0<n.natAbs.gcd d:=Nat.gcd_pos_of_pos_right _ (by omega)
 have e1:n.fdiv (J3 n d)=n / ((n.natAbs.gcd d:Nat):Int):=by rw[g,Kq _ (by omega)]
 have e2:(d:Int).fdiv (J3 n d)=((d / n.natAbs.gcd d:Nat):Int):=by rw[g,Kq _ (by omega),Int.natCast_ediv]
 rw[e1,e2]
theorem gA{a b:Int}(hb:0<b):wP a b=fr ((a:Rat) / (b:Rat)):=by
 obtain⟨d,rfl⟩:=J1 (show 0<=b by omega)
 rw[eC a d (by omega)]
 congr 1
 have:(MM a d (by omega))=mkRat a d:=by rw[Rat.normalize_eq_mkRat]
 rw[this,Rat.mkRat_eq_div]
 rfl
theorem zB(q r:Rat):wP (q.num*r.den+r.num*q.den) (q.den*r.den)=fr (q+r):=by
 have:=eC (q.num*r.den+r.num*q.den) (q.den*r.den) (Nh q.den_nz r.den_nz)
 rw[Ni]at this
 rw[this,Rat.add_def]
theorem zy(q r:Rat):wP (q.num*r.den-r.num*q.den) (q.den*r.den)=fr (q-r):=by
 have:=eC (q.num*r.den-r.num*q.den) (q.den*r.den) (Nh q.den_nz r.den_nz)
 rw[Ni]at this
 rw[this,Rat.sub_def]
theorem zA(q r:Rat):wP (q.num*r.num) (q.den*r.den)=fr (q*r):=by
 have:=eC (q.num*r.num) (q.den*r.den) (Nh q.den_nz r.den_nz)
 rw[Ni]at this
 rw[this,Rat.mul_def]
theorem wm(q r:Rat):decide (q.num*r.den<r.num*q.den)=decide (q<r):=by
 rw[decide_eq_decide]
 exact(Rat.lt_iff q r).symm
noncomputable def Fm(n:Nat)(q:Rat):Prop:=q.num.natAbs<2^n/\q.den<2^n
theorem Fm.mono{m:Nat}(h:Fm n q)(hm:n<=m):Fm m q:=⟨HL h.1 (HS (by decide) hm),HL h.2 (HS (by decide) hm)⟩
theorem jj{i:Int}(h:i.natAbs<2^2000):HA i:=HL h (HS (by decide) (by decide))
theorem Fm.bn(h:Fm 2000 q):HA q.num:=jj h.1
theorem Fm.bd(h:Fm 2000 q):HA (q.den:Int):=jj (by rw[Ik];exact h.2)
theorem den_pos(q r:Rat):(0:Int)<(q.den:Int)*(r.den:Int):=KI (by have:=q.den_nz;omega) (by have:=r.den_nz;omega)
theorem gH(h:Fm 2000 q)(h':Fm 2000 r):((q.den:Int)*(r.den:Int)).natAbs<2^8000:=by
 rw[IR,Ik,Ik]
 have:q.den*r.den<2^2000*2^2000:=MU h.2 h'.2
 rw[<- Md]at this
 exact HL this (HS (by decide) (by decide))
inductive Sd where
 | to (t:Rat)|from(a b:Rat)|round (a b:Rat)
noncomputable def Sd.last:Sd->Rat
 | .to t=>t | .from _ b=>b | .round _ b=>b
noncomputable def Sd.first:Sd->Rat
 | .to t=>t | .from a _=>a | .round a _=>a
noncomputable def Fd:Sd->HH
 | .to t=>.tuple [.str "to", fr t]
 | .from a b=>.tuple [.str "from", fr a,fr b]
 | .round a b=>.tuple [.str "round", fr a,fr b]
noncomputable def mx(q r:Rat):Rat:=if q<r then r else q
noncomputable def mn(q r:Rat):Rat:=if q<r then q else r
noncomputable def szQ:Sd->Rat
 | .to t=>mx t 0
 | .from a b=>mx (mx b 0-mx a 0) 0
 | .round a b=>mn (1+(mx b 0-mx a 0)) 1
noncomputable def Sd.Sm(s:Sd):Prop:=Fm 60 s.first/\Fm 60 s.last
theorem fr0:pr 0 1=fr 0:=rfl
theorem fr1:pr 1 1=fr 1:=rfl
theorem rp:Fm 60 0:=⟨by decide,by decide⟩
theorem C8:Fm 60 1:=⟨by decide,by decide⟩
theorem dO(h:Fm n q)(h':Fm n r):Fm n (mx q r):=by unfold mx;split<;>assumption
theorem Bh(h:Fm n q)(h':Fm n r):Fm n (mn q r):=by unfold mn;split<;>assumption
theorem kI{n:Int}{d k:Nat}(hd:d≠0)(h1:n.natAbs<2^k)(h2:d<2^k):Fm k (MM n d hd):=by
 rw[Rat.normalize_eq]
 refine⟨?_,Kf (Nat.div_le_self _ _) h2⟩
 show(n / ((n.natAbs.gcd d:Nat):Int)).natAbs<2^k
 have hdv:((n.natAbs.gcd d:Nat):Int)∣n:=Int.ofNat_dvd_left.mpr (Nat.gcd_dvd_left _ _)
 rw[Int.natAbs_ediv_of_dvd hdv,Ik]
 exact Kf (Nat.div_le_self _ _) h1
theorem aD{a b m:Nat}(h1:a<2^m)(h2:b<2^n):a*b<2^(m+n):=by
 rw[Md]
 exact MU h1 h2
theorem yZ{m:Nat}(h:Fm m q)(h':Fm n r):Fm (m+n) (q*r):=by
 rw[Rat.mul_def]
 refine kI _ ?_ (aD h.2 h'.2)
 rw[IR]
 exact aD h.1 h'.1
theorem qB{m:Nat}(h:Fm m q)(h':Fm n r):Fm (m+n+1) (q+r):=by
 rw[Rat.add_def]
 have a1:=aD h.1 h'.2
 have a2:=aD h'.1 h.2
 rw[Nat.add_comm n m]at a2
 have a3:=aD h.2 h'.2
 refine kI _ ?_ (HL a3 (HS (by decide) (by omega)))
 have t:=Int.natAbs_add_le (q.num*r.den) (r.num*q.den)
 rw[IR,IR,Ik,Ik]at t
 rw[N8]
 omega
theorem fV{m:Nat}(h:Fm m q)(h':Fm n r):Fm (m+n+1) (q-r):=by
 rw[Rat.sub_eq_add_neg]
 exact qB h ⟨by rw[Rat.neg_num,Mw];exact h'.1,h'.2⟩
theorem db(a b:Str):IB (.str a) (.str b)=decide (a=b):=by
 rw[zE]
 by_cases h:a=b
 · simp[h]
 · rw[decide_eq_false h];simp[h]
theorem Fm.up(h:Fm 60 q):Fm 2000 q:=h.mono (by decide)
noncomputable def Gg(x y:Rat)(b:Bool):Bool:=if b then !decide (y<x)else decide (x<y)
noncomputable def F_(w:Str):Prop:=w = "half" \/ w = "shut" \/ w = "open"
noncomputable def FO(s:Sd)(w:Str)(x:Rat):Bool :=
 let ahead:=Gg x s.last (decide (w = "shut"))
 let behind:=Gg s.first x (!decide (w = "open"))
 match s with
 | .to _=>ahead
 | .from _ _=>behind&&ahead
 | .round _ _=>behind||ahead
noncomputable def mW(qs:List Rat):Rat:=qs.foldl (· * ·) 1
noncomputable def boxD(ss:List Sd):HH:=.tuple (ss.map Fd)
noncomputable def aW(ss:List Sd):Rat:=mW (ss.map szQ)
noncomputable def Fp(qs:List Rat):HH:=.tuple (qs.map fr)
noncomputable def FV(qs:List Rat)(ss:List Sd)(w:Str):Bool:=(qs.zip ss).all fun p=>FO p.2 w p.1
noncomputable def ptsQ(ps:List (List Rat)):HH:=.tuple (ps.map Fp)
noncomputable def cntN(ps:List (List Rat))(ss:List Sd)(w:Str):Nat:=(ps.filter fun p=>FV p ss w).length
theorem at_last2{α:Type}(x y:α):L2.atI [x,y] (-1)=some y:=rfl
theorem at_last3{α:Type}(x y z:α):L2.atI [x,y,z] (-1)=some z:=rfl
theorem kQ:∀qs:List Rat,JV (qs.map fr)=true
 | []=>rfl
 | q::qs=>by simp[JV,JX,fr,kQ qs]
theorem kX:∀qs:List Rat,JF (qs.map fr)<=3
 | []=>by simp[JF]
 | q::qs=>by
   have:=kX qs
   simp[JF,Ku,fr]at this ⊢
   omega
theorem mL(qs:List Rat):IW (.list (qs.map fr))=true:=by
 have:=kX qs
 simp[IW,JX,Ku,kQ]
 omega
theorem at_last1{α:Type}(x:α):L2.atI [x] (-1)=some x:=rfl
theorem cL:fr q=fr r↔q=r:=⟨iq,fun h=>by rw[h]⟩
theorem bG{s t:Sd}:Fd s=Fd t↔s=t:=by
 constructor
 · intro h
   have n1:¬(HG "from" = HG "round"):=by decide +kernel
   cases s<;>cases t<;>simp[Fd,cL,n1,M6 n1]at h ⊢ <;> first|exact h|exact(n1 h.1.symm).elim|exact(n1 h.1).elim
 · rintro rfl;rfl
theorem bJ{a b:List Rat}:Fp a=Fp b↔a=b:=by
 unfold Fp
 rw[JC,bR fun _ _=>cL]
theorem aO{a b:List Sd}:boxD a=boxD b↔a=b:=by
 unfold boxD
 rw[JC,bR fun _ _=>bG]
theorem aR{a b:List (List Rat)}:ptsQ a=ptsQ b↔a=b:=by
 unfold ptsQ
 rw[JC,bR fun _ _=>bJ]
theorem bP{a b:List Rat}:a.map fr=b.map fr↔a=b:=bR fun _ _=>cL
theorem item_fr0(q:Rat):itemAt (fr q) 0=some (.int q.num):=rfl
theorem item_fr1(q:Rat):itemAt (fr q) 1=some (.int q.den):=rfl
theorem tupD_pt(a:List Rat):tupD (Fp a)=some (a.map fr):=rfl
theorem seqD_pt(a:List Rat):jm (Fp a)=some (a.map fr):=rfl
theorem lenD_pt(a:List Rat):qE (Fp a)=some a.length:=by show some (a.map fr).length=_;rw[HW]
theorem item_pt(a:List Rat)(i:Int):itemAt (Fp a) i=(atI a i).map fr:=cA _ _ _
theorem tupD_bx(a:List Sd):tupD (boxD a)=some (a.map Fd):=rfl
theorem seqD_bx(a:List Sd):jm (boxD a)=some (a.map Fd):=rfl
theorem lenD_bx(a:List Sd):qE (boxD a)=some a.length:=by show some (a.map Fd).length=_;rw[HW]
theorem item_bx(a:List Sd)(i:Int):itemAt (boxD a) i=(atI a i).map Fd:=cA _ _ _
theorem tupD_ps(a:List (List Rat)):tupD (ptsQ a)=some (a.map Fp):=rfl
theorem seqD_ps(a:List (List Rat)):jm (ptsQ a)=some (a.map Fp):=rfl
theorem lenD_ps(a:List (List Rat)):qE (ptsQ a)=some a.length:=by show some (a.map Fp).length=_;rw[HW]
theorem item_ps(a:List (List Rat))(i:Int):itemAt (ptsQ a) i=(atI a i).map Fp:=cA _ _ _
theorem kind_pt(a:List Rat):g_ (Fp a)=g_ (.tuple []):=rfl
theorem kind_bx(a:List Sd):g_ (boxD a)=g_ (.tuple []):=rfl
noncomputable def qd(a b:Int):Rat:=(a:Rat) / (b:Rat)
theorem tP{a b:Int}(hb:0<b):Kd [.int (a.fdiv (J3 a b)),.int (b.fdiv (J3 a b))]=fr (qd a b):=gA hb
theorem cN(q:Rat):qd q.num q.den=q:=by
 unfold qd
 have:=Rat.mkRat_self q
 rw[Rat.mkRat_eq_div]at this
 exact this
theorem yr(q r:Rat):qd (q.num*r.den+r.num*q.den) (q.den*r.den)=q+r:=iq (by rw[<- zB];exact(gA (den_pos q r)).symm)
theorem oE(q r:Rat):qd (q.num*r.den-r.num*q.den) (q.den*r.den)=q-r:=iq (by rw[<- zy];exact(gA (den_pos q r)).symm)
theorem yp(q r:Rat):qd (q.num*r.num) (q.den*r.den)=q*r:=iq (by rw[<- zA];exact(gA (den_pos q r)).symm)
theorem p6(q:Rat):(0:Int)<(q.den:Int):=by have:=q.den_nz;omega
theorem mU{a b:Int}{k:Nat}(hb:0<b)(h1:a.natAbs<2^k)(h2:b.natAbs<2^k):Fm k (qd a b):=by
 obtain⟨d,rfl⟩:=J1 (show 0<=b by omega)
 have hd:d≠0:=by omega
 have e:qd a d=MM a d hd:=iq (by rw[<- eC,gA (by omega)];rfl)
 rw[e]
 exact kI _ h1 (by simpa using h2)
theorem BD(h:Fm n q)(hn:n<=1000):Sm 2 2 (fr q) :=
 Sm.pair (HL h.1 (HS (by decide) hn)) (by rw[Ik];exact HL h.2 (HS (by decide) hn))
theorem nY{s:Sd}(h:s.Sm):Fm 190 (szQ s):=by
 cases s with
 | to t=>exact(dO h.2 rp).mono (by decide)
 | «from» a b=>exact(dO (fV (dO h.2 rp) (dO h.1 rp)) (rp.mono (by decide))).mono (by decide)
 | round a b=>exact(Bh (qB C8 (fV (dO h.2 rp) (dO h.1 rp))) (C8.mono (by decide))).mono (by decide)
noncomputable def sg(x y:Rat):Int:=x.num*y.den-y.num*x.den
theorem pF:∀ps:List (List Rat),JV (ps.map Fp)=true
 | []=>rfl
 | p::ps=>by simp[JV,JX,Fp,kQ,pF ps]
theorem p5:∀ps:List (List Rat),JF (ps.map Fp)<=5
 | []=>by simp[JF]
 | p::ps=>by
   have:=p5 ps
   have:=kX p
   simp[JF,Ku,Fp]at *
   omega
theorem mK(ps:List (List Rat)):IW (.list (ps.map Fp))=true:=by
 have:=p5 ps
 simp[IW,JX,Ku,pF]
 omega
noncomputable def Sd.In1(s:Sd):Prop:=(-1<=s.first/\s.first<=1)/\(-1<=s.last/\s.last<=1)
theorem oG{a b:Int}(hb:0<b)(h:0<=a):0<=qd a b:=by
 unfold qd
 have h1:(0:Rat)<=(a:Rat):=by exact_mod_cast h
 have h2:(0:Rat)<(b:Rat):=by exact_mod_cast hb
 rw[Kh]
 exact LL h1 (Iq (Rat.inv_pos.mpr h2))
theorem tE{a b:Int}(hb:0<b)(h:a<b):qd a b<1:=by
 unfold qd
 have h1:(a:Rat)<(b:Rat):=by exact_mod_cast h
 have h2:(0:Rat)<(b:Rat):=by exact_mod_cast hb
 exact(Rat.div_lt_iff h2).mpr (by rw[Lk];exact h1)
noncomputable def HD:=HI @item_fr0 (HI @item_fr1 (HI @tupD_pt (HI @seqD_pt (HI @lenD_pt (HI @item_pt (HI @tupD_bx (HI @seqD_bx (HI @lenD_bx (HI @item_bx (HI @tupD_ps (HI @seqD_ps (HI @lenD_ps (HI @item_ps (HI @at_last1 (HI @at_last2 (HI @at_last3 (HI @kind_pt (HI @kind_bx (HI @fr0 (@fr1))))))))))))))))))))
theorem zF(a b:Rat):IB (fr a) (fr b)=decide (a=b):=by
 unfold fr
 simp only[IB,HH.eqvAll]
 by_cases h:a=b
 · subst h;simp[IB]
 · have:¬(a.num=b.num/\a.den=b.den):=fun z=>h (Rat.ext z.1 z.2)
   simp only[h,decide_false,Bool.and_true,IB]
   rw[Bool.and_eq_false_iff]
   by_cases h1:a.num=b.num
   · right
     have:a.den≠b.den:=fun z=>this ⟨h1,z⟩
     simp;omega
   · left;simpa using h1
theorem cF(q:Rat):IW (fr q)=true:=by
 simp[IW,fr,JX,JV,Ku,JF]
noncomputable def q9:Rat:=⟨999999999998,999999999999,by decide,by decide⟩
noncomputable def EZ(b:Bool)(qs:List Rat):HH:=if b then .tuple (qs.map fr)else .list (qs.map fr)
theorem AT{c:Bool}{qs:List Rat}:EZ b qs=EZ c rs↔b=c/\qs=rs:=by
 cases b<;>cases c<;>simp[EZ,bP]
theorem dL(b:Bool)(qs:List Rat):seqW (.d (EZ b qs))=some (qs.map fr):=by cases b<;>rfl
noncomputable def qF(kvs:List (Hg×HH))(k:Hg):Bool:=kvs.any fun kv=>decide (kv.1=k)
theorem r8{kvs:List (Hg×HH)}{k:Hg}:qF kvs k=true↔k∈kvs.map (·.1):=by
 unfold qF
 simp only[List.any_eq_true,decide_eq_true_iff,IM]
theorem jI(kvs:List (Hg×HH))(k:Hg)(x:HH):(putF kvs k x).map (·.1)=if qF kvs k=true then kvs.map (·.1)else kvs.map (·.1)++[k]:=by
 unfold putF
 show Nn _ (if qF kvs k=true then _ else _)=_
 split
 · rw[JG]
   congr 1;funext kv;simp only[Function.comp];split<;>rfl
 · rw[Jk];rfl
theorem rq(kvs:List (Hg×HH))(k j:Hg)(x:HH):hV (putF kvs k x) j=if j=k then some x else hV kvs j:=by
 have one:∀l:List (Hg×HH),hV (l.map fun kv=>if kv.1=k then(kv.1,x)else kv) j=if j=k then(if qF l k=true then some x else none)else hV l j:=by
  intro l
  induction l with
  | nil=>by_cases h:j=k<;>simp[hV,qF,h]
  | cons p r ih =>
    unfold hV qF at *
    rw[Ja,Jv,Jv,Lw]
    by_cases h1:p.1=k
    · by_cases h:j=k
      · subst h;simp[h1]
      · have h2:¬k=j:=fun z=>h z.symm
        rw[if_pos h1,if_neg h]
        rw[if_neg h]at ih
        simp only[h1,h2,decide_false]
        exact ih
    · rw[if_neg h1]
      by_cases h:j=k
      · subst h
        rw[if_pos rfl]
        rw[if_pos rfl]at ih
        simp only[h1,decide_false,Bool.false_or]
        exact ih
      · rw[if_neg h]
        rw[if_neg h]at ih
        cases decide (p.1=j)with
        | true=>rfl
        | false=>exact ih
 unfold putF
 show hV (if qF kvs k=true then _ else _) j=_
 by_cases hm:qF kvs k=true
 · rw[if_pos hm,one]
   by_cases h:j=k<;>simp[h,hm]
 · rw[if_neg hm]
   unfold hV
   rw[List.find?_append]
   by_cases h:j=k
   · subst h
     have:kvs.find? (fun kv=>decide (kv.1=j))=none:=by
      rw[List.find?_eq_none];intro p hp z
      exact hm (r8.mpr (IM.mpr ⟨p,hp,by simpa using z⟩))
     simp[this]
   · have h2:¬k=j:=fun z=>h z.symm
     simp[h,h2]
noncomputable def wr(f:Rat->Int)(qs:List Rat):List (Hg×HH):=(qs.map fun q=>((Kj (f q):Hg),fr q)).foldl (fun a p=>putF a p.1 p.2) []
theorem jc(f:Rat->Int):∀(qs:List Rat)(acc:List (Hg×HH))(ns:List Int),acc.map (·.1)=ns.map Kj->ns.Nodup->(∀q r,q∈qs->r∈qs->f q=f r->q=r) ->
 ∃ ms:List Int,((qs.map fun q=>((Kj (f q):Hg),fr q)).foldl (fun a p=>putF a p.1 p.2) acc).map (·.1)=ms.map Kj/\ms.Nodup/\(∀n,n∈ms↔n∈ns\/∃q∈qs,f q=n) /\
   ∀n,hV ((qs.map fun q=>((Kj (f q):Hg),fr q)).foldl (fun a p=>putF a p.1 p.2) acc) (.inl n)=(match qs.find? (fun q=>decide (f q=n))with|some q=>some (fr q)|none=>hV acc (.inl n))/\ms.length<=ns.length+qs.length
 | [],acc,ns,h,nd,_=>⟨ns,h,nd,fun n=>by simp,fun n=>⟨rfl,by simp⟩⟩
 | q::qs,acc,ns,h,nd,inj=>by
   have hmem:qF acc (Kj (f q))=true↔f q∈ns:=by
    rw[r8,h,IM];constructor
    · rintro⟨x,hx,e⟩;cases e;exact hx
    · intro hx;exact⟨_,hx,rfl⟩
   have inj':∀a b,a∈qs->b∈qs->f a=f b->a=b:=fun a b ha hb=>inj a b (HK _ ha) (HK _ hb)
   have val:∀n:Int,∀r,hV (putF acc (.inl (f q)) (fr q)) (.inl n)=r->(match qs.find? (fun q=>decide (f q=n))with|some q=>some (fr q)|none=>hV (putF acc (.inl (f q)) (fr q)) (.inl n))=(match(q::qs).find? (fun q=>decide (f q=n))with|some q=>some (fr q)|none=>hV acc (.inl n)):=by
    intro n r _
    rw[rq,Jv]
    by_cases e:f q=n
    · subst e
      simp only[decide_true]
      cases e2:qs.find? (fun q'=>decide (f q'=f q))with
      | none=>simp
      | some q' =>
        have m:=Mx e2
        have p:f q'=f q:=by simpa using List.find?_some e2
        have:=inj q' q (HK _ m) HM p
        rw[this]
    · have e':¬n=f q:=fun z=>e z.symm
      simp only[e,decide_false,Kj.injEq,e',if_false]
   by_cases hq:f q∈ns
   · obtain⟨ms,a1,a2,a3,a4⟩:=jc f qs (putF acc (.inl (f q)) (fr q)) ns (by rw[jI,if_pos (hmem.mpr hq)];exact h) nd inj'
     refine⟨ms,a1,a2,fun n=>?_,fun n=>⟨?_,?_⟩⟩
     · rw[a3 n]
       simp only[Ih]
       constructor
       · rintro(z|⟨r,hr,e⟩)
         · exact .inl z
         · exact .inr ⟨r,.inr hr,e⟩
       · rintro(z|⟨r,rfl|hr,e⟩)
         · exact .inl z
         · exact .inl (e▸hq)
         · exact .inr ⟨r,hr,e⟩
     · rw[<- val n _ rfl];exact(a4 n).1
     · have:=(a4 n).2;simp only[Io];omega
   · obtain⟨ms,a1,a2,a3,a4⟩:=jc f qs (putF acc (.inl (f q)) (fr q)) (ns++[f q]) (by rw[jI,if_neg (fun z=>hq (hmem.mp z)),h,Jk];rfl)
       (List.nodup_append.mpr ⟨nd,by simp,fun a ha b hb=>by simp at hb;subst hb;rintro rfl;exact hq ha⟩) inj'
     refine⟨ms,a1,a2,fun n=>?_,fun n=>⟨?_,?_⟩⟩
     · rw[a3 n]
       simp only[Ih,Ip,MV,or_false]
       constructor
       · rintro((z|z)|⟨r,hr,e⟩)
         · exact .inl z
         · exact .inr ⟨q,.inl rfl,z.symm⟩
         · exact .inr ⟨r,.inr hr,e⟩
       · rintro(z|⟨r,rfl|hr,e⟩)
         · exact .inl (.inl z)
         · exact .inl (.inr e.symm)
         · exact .inr ⟨r,hr,e⟩
     · rw[<- val n _ rfl];exact(a4 n).1
     · have:=(a4 n).2;simp only[Ic,Io,K1]at this ⊢;omega
theorem wq(f:Rat->Int)(qs:List Rat)(inj:∀q r,q∈qs->r∈qs->f q=f r->q=r) :
 ∃ms:List Int,(wr f qs).map (·.1)=ms.map Kj/\ms.Nodup/\(∀n,n∈ms↔∃q∈qs,f q=n)/\(∀q∈qs,hV (wr f qs) (.inl (f q))=some (fr q))/\ms.length<=qs.length:=by
 obtain⟨ms,a1,a2,a3,a4⟩:=jc f qs [] [] rfl List.nodup_nil inj
 refine⟨ms,a1,a2,fun n=>by rw[a3 n];simp,fun q hq=>?_,by have:=(a4 0).2;simpa using this⟩
 have:=(a4 (f q)).1
 show hV ((qs.map fun q=>((Kj (f q):Hg),fr q)).foldl (fun a p=>putF a p.1 p.2) []) _=_
 rw[this]
 cases e:qs.find? (fun q'=>decide (f q'=f q))with
 | none =>
   rw[List.find?_eq_none]at e
   exact absurd (e q hq) (by simp)
 | some q' =>
   have m:=Mx e
   have p:f q'=f q:=by simpa using List.find?_some e
   rw[inj q' q m hq p]
noncomputable def ET(S:Int)(q:Rat):Int:=(q.num*S).fdiv q.den
theorem s_(S:Int)(q:Rat):ET S q*q.den<=q.num*S/\q.num*S<(ET S q+1)*q.den:=by
 have h0:(0:Int)<q.den:=p6 q
 unfold ET
 rw[Kq _ (by omega)]
 have h1:=Int.emod_nonneg (q.num*S) (show(q.den:Int)≠0 by omega)
 have h2:=Int.emod_lt_of_pos (q.num*S) h0
 have h3:=Int.mul_ediv_add_emod (q.num*S) q.den
 have e1:q.num*S / (q.den:Int)*(q.den:Int)=(q.den:Int)*(q.num*S / (q.den:Int)):=N9 _ _
 have e2:(q.num*S / (q.den:Int)+1)*(q.den:Int)=(q.den:Int)*(q.num*S / (q.den:Int))+(q.den:Int):=by rw[Int.add_mul,Int.one_mul,e1]
 rw[e1,e2]
 constructor<;>omega
theorem mT(q r:Rat):q<r↔q.num*r.den<r.num*q.den:=Rat.lt_iff q r
theorem nZ(hq:(q.den:Int)<=B)(hr:(r.den:Int)<=B)(h:q<r):ET (B*B) q<ET (B*B) r:=by
 have h0:(0:Int)<q.den:=p6 q
 have h1:(0:Int)<r.den:=p6 r
 rw[mT]at h
 obtain⟨a1,a2⟩:=s_ (B*B) q
 obtain⟨b1,b2⟩:=s_ (B*B) r
 generalize ET (B*B) q=a at *
 generalize ET (B*B) r=b at *
 generalize (q.den:Int)=x at *
 generalize (r.den:Int)=y at *
 by_cases hab:a<b
 · exact hab
 · exfalso
   have hba:b+1<=a+1:=by omega
   have e1:a*x*y<=q.num*(B*B)*y:=Ke a1 (by omega)
   have e2:r.num*(B*B)*x<(b+1)*y*x:=Me b2 h0
   have e3:(b+1)*y*x<=(a+1)*y*x:=Ke (Ke hba (by omega)) (by omega)
   have hs:x*y<=B*B:=Nw hq hr (by omega) (by omega)
   have h2:q.num*y+1<=r.num*x:=h
   have e4:(q.num*y+1)*(B*B)<=r.num*x*(B*B):=Ke h2 (Nx (by omega) (by omega))
   have e5:(q.num*y+1)*(B*B)=q.num*(B*B)*y+B*B:=by grind
   have e6:r.num*x*(B*B)=r.num*(B*B)*x:=by grind
   have e7:(a+1)*y*x=a*x*y+x*y:=by grind
   omega
theorem oA(q r:Rat):q<r\/q=r\/r<q:=by
 by_cases h:q<r
 · exact .inl h
 · by_cases h2:r<q
   · exact .inr (.inr h2)
   · exact .inr (.inl (Rat.le_antisymm (Jl.mp h2) (Jl.mp h)))
theorem n6(hq:(q.den:Int)<=B)(hr:(r.den:Int)<=B)(h:ET (B*B) q=ET (B*B) r):q=r:=by
 rcases oA q r with z|z|z
 · have:=nZ hq hr z;omega
 · exact z
 · have:=nZ hr hq z;omega
theorem uQ(hq:(q.den:Int)<=B)(hr:(r.den:Int)<=B)(h:ET (B*B) q<ET (B*B) r):q<r:=by
 rcases oA q r with z|z|z
 · exact z
 · subst z;omega
 · have:=nZ hr hq z;omega
theorem fZ:∀(ns:List Int)(m:Int),∃k,cx (some m) ns=some k/\m<=k/\(∀n∈ns,n<=k)/\(k=m\/k∈ns)
 | [],m=>⟨m,rfl,Op _,by simp,.inl rfl⟩
 | n::ns,m=>by
   obtain⟨k,e,h1,h2,h3⟩:=fZ ns (if n>m then n else m)
   refine⟨k,e,by split at h1<;>omega,fun x hx=>?_,?_⟩
   · rcases Ih.mp hx with rfl|hx
     · split at h1<;>omega
     · exact h2 x hx
   · rcases h3 with h3|h3
     · split at h3
       · exact .inr (by rw[h3];exact HM)
       · exact .inl h3
     · exact .inr (HK _ h3)
theorem yX(ns:List Int):(∀n∈ns,n<=FC 1 ns)/\(FC 1 ns=1\/FC 1 ns∈ns):=by
 unfold FC
 cases ns with
 | nil=>exact⟨by simp,.inl rfl⟩
 | cons n ns =>
   obtain⟨k,e,h1,h2,h3⟩:=fZ ns n
   have e':cx none (n::ns)=some k:=e
   rw[e']
   refine⟨fun x hx=>?_,.inr ?_⟩
   · rcases Ih.mp hx with rfl|hx
     · exact h1
     · exact h2 x hx
   · rcases h3 with rfl|h3
     · exact HM
     · exact HK _ h3
theorem mj(f:Rat->Int){qs:List Rat}:∀(ns:List Int),(∀n∈ns,∃q∈qs,f q=n)->∃rs:List Rat,ns=rs.map f/\∀r∈rs,r∈qs
 | [],_=>⟨[],rfl,by simp⟩
 | n::ns,h=>by
   obtain⟨rs,e,hr⟩:=mj f ns fun m hm=>h m (HK _ hm)
   obtain⟨q,hq,eq⟩:=h n HM
   exact⟨q::rs,by rw[Ja,eq,<- e],fun r hr'=>(Ih.mp hr').elim (fun z=>z▸hq) (hr r)⟩
noncomputable def gP(qs rs:List Rat):Prop:=rs.Pairwise (· < ·)/\∀q,q∈rs↔q∈qs
theorem n_{qs:List Rat}{ms:List Int}(hB:∀q∈qs,(q.den:Int)<=B)(nd:ms.Nodup)(hm:∀n,n∈ms↔∃q∈qs,ET (B*B) q=n)(pm:ns.Perm ms)(pw:ns.Pairwise (· <= ·)) :
 ∃rs:List Rat,ns=rs.map (ET (B*B))/\(∀r∈rs,r∈qs)/\gP qs rs:=by
 obtain⟨rs,e,hr⟩:=mj (ET (B*B)) ns fun n hn=>(hm n).mp (pm.mem_iff.mp hn)
 refine⟨rs,e,hr,?_,fun q=>⟨hr q,fun hq=>?_⟩⟩
 · have nd':ns.Nodup:=pm.nodup_iff.mpr nd
   subst e
   have lt:(rs.map (ET (B*B))).Pairwise (· < ·):=by
    have:=pw.and nd'
    exact this.imp fun z=>by have:=z.1;have:=z.2;omega
   rw[List.pairwise_map]at lt
   exact lt.imp_of_mem fun ha hb z=>uQ (hB _ (hr _ ha)) (hB _ (hr _ hb)) z
 · have:ET (B*B) q∈ns:=pm.mem_iff.mpr ((hm _).mpr ⟨q,hq,rfl⟩)
   rw[e,IM]at this
   obtain⟨r,hr',e2⟩:=this
   rw[<- n6 (hB r (hr r hr')) (hB q hq) e2]
   exact hr'
theorem jM:∀{rs qs:List Rat},rs.Nodup->(∀x∈rs,x∈qs)->rs.length<=qs.length
 | [],_,_,_=>Ix _
 | r::rs,qs,nd,h=>by
   rw[Kn]at nd
   have hm:=h r HM
   have:=jM (rs:=rs) (qs:=qs.erase r) nd.2 fun x hx=>(List.mem_erase_of_ne (fun(z:x=r)=>nd.1 (by rw[<- z];exact hx))).mpr (h x (HK _ hx))
   rw[List.length_erase_of_mem hm]at this
   have:=List.length_pos_of_mem hm
   simp only[Io]
   omega
theorem mJ{qs:List Rat}(h:gP qs rs):rs.length<=qs.length:=by
 have nd:rs.Nodup:=h.1.imp fun z e=>by subst e;exact absurd z (LY)
 exact jM nd fun x hx=>(h.2 x).mp hx
theorem ia:∀{rs ss:List Rat},rs.Pairwise (· < ·)->ss.Pairwise (· < ·)->(∀q,q∈rs↔q∈ss)->rs=ss
 | [],[],_,_,_=>rfl
 | [],s::_,_,_,h=>by have:=(h s).mpr HM;simp at this
 | r::_,[],_,_,h=>by have:=(h r).mp HM;simp at this
 | r::rs,s::ss,h1,h2,h=>by
   rw[KS]at h1 h2
   have e:r=s:=by
    rcases Ih.mp ((h r).mp HM)with z|z
    · exact z
    · rcases Ih.mp ((h s).mpr HM)with y|y
      · exact y.symm
      · have a:=h2.1 r z;have b:=h1.1 s y;exact absurd (show r<r by grind) LY
   subst e
   congr 1
   refine ia h1.2 h2.2 fun q=>?_
   constructor
   · intro hq
     rcases Ih.mp ((h q).mp (HK _ hq))with z|z
     · subst z;exact absurd (h1.1 q hq) LY
     · exact z
   · intro hq
     rcases Ih.mp ((h q).mpr (HK _ hq))with z|z
     · subst z;exact absurd (h2.1 q hq) LY
     · exact z
noncomputable def fv(b:Int):List Int->Rat
 | []=>0
 | d::ds=>((d:Rat)+fv b ds) / (b:Rat)
noncomputable def tv(b:Int)(ds:List Int):Int:=ds.foldl (fun t d=>t*b+d) 0
theorem cZ{b:Int}(h:0<b):(b:Rat)≠0:=by
 intro z
 have:b=0:=by exact_mod_cast z
 omega
noncomputable def Pw(b B:Int):Prop:=∃m:Nat,B∣b^m
noncomputable def ix(p:List Int)(f:Int):Int:=(p.idxOf f:Int)
theorem rm{a c:Int}(hc:0<c):(qd a c).num*c=a*(qd a c).den:=by
 have h1:=cZ hc
 have h2:=cZ (p6 (qd a c))
 have e:qd (qd a c).num (qd a c).den=qd a c:=cN _
 have e':((qd a c).num:Rat) / (((qd a c).den:Int):Rat)=(a:Rat) / (c:Rat):=e
 generalize (qd a c).num=x at *
 generalize ((qd a c).den:Int)=y at *
 have:(x:Rat)*(c:Rat)=(a:Rat)*(y:Rat):=by grind
 exact_mod_cast this
noncomputable def Fx(b:Int)(N:Nat)(q:Rat):Prop:=∃(T:Int)(k:Nat),q=qd T (b^k)/\0<=T/\T<b^k/\b^k<2^N
end L2.VL
variable{ss:List L2.VL.Sd}
namespace L2
section
variable{X:Cx}
end
end L2
namespace L2.VL
section
variable{X:Cx}{rl:RlT}{a:Expr}{fs:GF}{pos p:Pos}
end
open PySem PySem.Spec
noncomputable def lim(c:List Rat):List Rat:=0::(c++[1])
theorem getD_mem{xs:List α}{k:Nat}{d:α}(h:k<xs.length):xs.getD k d∈xs:=by
 rw[Ib,Ia h];exact Ji h
theorem cY(xs:List Int):Kd (xs.map Iw)=xG xs:=rfl
theorem i_{xs:List α}{k:Nat}{d:α}(h:k<xs.length):xs.getD k d=xs[k]:=by rw[Ib,Ia h];rfl
theorem eO{xs:List α}{i:Int}(d:α)(h0:0<=i)(h1:i<(xs.length:Int)):atI xs i=some (xs.getD i.toNat d):=by rw[zS h0 h1,i_ (by omega)]
open PySem PySem.Spec
theorem iJ{α:Type}:∀{l:List α}{n:Nat},l.length=n+1->∃b t,l=b++[t]
 | [],_,h=>by simp at h
 | [x],_,_=>⟨[],x,rfl⟩
 | x::y::l,n,h=>by
   obtain⟨b,t,e⟩:=iJ (l:=y::l) (n:=l.length) (by simp)
   exact⟨x::b,t,by rw[e];rfl⟩
theorem se(l r:List α)(i:Nat)(d:α)(h:i<l.length):(l++r).getD i d=l.getD i d:=by
 rw[Ib,Ib,Ka h]
theorem sd(l r:List α)(i:Nat)(d:α)(h:l.length<=i):(l++r).getD i d=r.getD (i-l.length) d:=by
 rw[Ib,Ib,Kp h]
noncomputable def chP{α:Type}(rows:List (List α)):List (List α):=rows.foldl (fun ch r=>ch.flatMap fun b=>r.map fun t=>b++[t]) [[]]
theorem jg(rows:List (List α))(r:List α):chP (rows++[r])=(chP rows).flatMap fun b=>r.map fun t=>b++[t]:=by
 unfold chP;rw[KB];rfl
theorem kO{α:Type}(d:α):∀(n:Nat)(rows:List (List α)),rows.length=n->∀es,es∈chP rows↔es.length=n/\∀i,i<n->es.getD i d∈rows.getD i []
 | 0,rows,h,es=>by
   cases KJ.mp h
   show es∈[[]]↔_
   rw[Ij]
   constructor
   · rintro rfl;exact⟨rfl,fun i hi=>by omega⟩
   · rintro⟨e,_⟩;exact KJ.mp e
 | n+1,rows,h,es=>by
   obtain⟨rs,r,rfl⟩:∃rs r,rows=rs++[r]:=iJ h
   have hl:rs.length=n:=by simp at h;exact h
   rw[jg,IU]
   constructor
   · rintro⟨b,mb,mes⟩
     obtain⟨t,mt,rfl⟩:=IM.mp mes
     obtain⟨bl,hb⟩:=(kO d n rs hl b).mp mb
     refine⟨by simp[bl],fun i hi=>?_⟩
     by_cases z:i<n
     · rw[se _ _ _ _ (by omega),se _ _ _ _ (by omega)];exact hb i z
     · have:i=n:=by omega
       subst this
       rw[sd _ _ _ _ (by omega),sd _ _ _ _ (by omega),bl,hl,N_]
       exact mt
   · rintro⟨el,he⟩
     obtain⟨b,t,rfl⟩:∃b t,es=b++[t]:=iJ el
     have bl:b.length=n:=by simp at el;exact el
     refine⟨b,(kO d n rs hl b).mpr ⟨bl,fun i hi=>?_⟩,IM.mpr ⟨t,?_,rfl⟩⟩
     · have:=he i (by omega)
       rw[se _ _ _ _ (by omega),se _ _ _ _ (by omega)]at this;exact this
     · have:=he n (by omega)
       rw[sd _ _ _ _ (by omega),sd _ _ _ _ (by omega),bl,hl,N_]at this
       exact this
noncomputable def Fb(p es:List Rat):Bool:=(p.zip es).all fun z=>!decide (z.2<z.1)
noncomputable def EU(es:List Rat):Rat:=mW (es.map fun e=>mx e 0)
noncomputable def Fa(ps:List (List Rat))(es:List Rat):Nat:=(ps.filter fun p=>Fb p es).length
noncomputable def ov(ps:List (List Rat))(es:List Rat):Rat:=qd (Fa ps es) ps.length-EU es
theorem qL{p:List α}{es:List β}{e:β}(d:α)(hl:es.length=i)(hi:i<p.length):p.zip (es++[e])=p.zip es++[(p.getD i d,e)]:=by
 have hp:p=p.take i++(p.getD i d)::p.drop (i+1):=by
  rw[i_ hi,<- Jx hi,LO]
 have e1:p.zip es=(p.take i).zip es:=by
  conv=>lhs;rw[hp]
  rw[show es=es++[]from(Kc _).symm,List.zip_append (by rw[JH];omega)]
  simp
 rw[e1]
 conv=>lhs;rw[hp]
 rw[List.zip_append (by rw[JH];omega)]
 simp
noncomputable def plc(f:List Rat->Bool)(ps:List (List Rat)):List Nat:=(IV ps.length).filter fun k=>f (ps.getD k [])
theorem kG(f:List Rat->Bool)(ps:List (List Rat)):(plc f ps).length=(ps.filter f).length:=by
 unfold plc
 have:ps.filter f=((IV ps.length).filter fun k=>f (ps.getD k [])).map fun k=>ps.getD k []:=by
  have e:(IV ps.length).map (fun k=>ps.getD k [])=ps:=by
   refine MR (by simp) fun i h1 h2=>?_
   simp[Ib,Ia h2]
  conv=>lhs;rw[<- e,List.filter_map]
  rfl
 rw[this,HW]
theorem tK{f:List Rat->Bool}:∀k∈plc f ps,k<ps.length:=fun k mk=>KO.mp (L5.mp mk).1
theorem vy{f g h:List Rat->Bool}(e:∀p∈ps,h p=(f p&&g p)):(plc f ps).filter (fun k=>g (ps.getD k []))=plc h ps:=by
 unfold plc
 rw[List.filter_filter]
 refine LH fun k mk=>?_
 rw[e _ (getD_mem (KO.mp mk)),Bool.and_comm]
noncomputable def sK{ps:List (List Rat)}(h1:1<=ps.length)(h:ps.length<=60)(f:List Rat->Bool):Fm 60 (qd (ps.filter f).length ps.length) :=
 mU (by omega) (by have:=K4 f ps;omega) (by omega)
end L2.VL
namespace L2.ZP
section
variable{prog:II}{w:Ju}{A:Jz}{E:HQ->HU->Prop}{s:HU}{z it a:Addr}{k:Nat}{xs:Array HQ}{x p:HQ}{b:Bool}
abbrev e2(h:Heap)(b:Bool)(a:Addr):Heap:=(y1 h b a).push {cls:=.type "enumerate", data:=.fields #[.none,.bool false,.ref h.objs.size,rawInt 0,.none,.none]}
theorem sE(b:Bool)(a:Addr)(o:Obj)(xs:Array HQ)(hr:∀h:Heap,h.get? a=some o->GP b h a xs) :
 Meets (Builtin.«enumerate.__new__» ⟨[.type "enumerate", .ref a],[]⟩) (fun _ R s=>s.heap.get? a=some o/\R (.ok (.ret (.ref (y1 s.heap b a).objs.size))) {s with heap:=e2 s.heap b a}) :=
 .of_wp fun prog w A R s h=>by
  obtain⟨hp,g,d,tk,os⟩:=s
  obtain⟨l0,h⟩:=h
  have hsub:=sub_enumerate
  have k1:GP b (HU.heap ⟨hp,g,d,tk,os⟩) a xs:=hr _ l0
  wp_walk using Lq l0
  refine wpAny_stack_any fun st=>H_ ?_
  split
  · rename_i c _ _ _ _ _
    cases(c==HQ.type "enumerate")<;>(wp_walk using Lq l0,zn k1;exact⟨_,rfl,h⟩)
  · wp_walk using Lq l0,zn k1
    exact⟨_,rfl,h⟩
theorem GP.obj(q:GP b h a xs):∃o,h.get? a=some o/\∀h':Heap,h'.get? a=some o->GP b h' a xs:=by
 cases b with
 | true=>obtain⟨o,h1,r⟩:=(show h.IsTuple a xs from q);exact⟨o,h1,fun h' e=>⟨o,e,r⟩⟩
 | false=>obtain⟨o,h1,r⟩:=(show h.IsList a xs from q);exact⟨o,h1,fun h' e=>⟨o,e,r⟩⟩
theorem qt(q1:GP b s.heap a xs)
 (done:∀g,Oq g (s.heap.objs.size+1) s.heap.objs.size 0 .none->Hq g s.heap.objs.size a xs 0->g.objs.size=s.heap.objs.size+2->(∀c o,s.heap.get? c=some o->g.get? c=some o)->Q (.ref (s.heap.objs.size+1)) {s with heap:=g}) :
 Iv (IH prog w) A (call (.type "enumerate") [.ref a]) Q E s:=by
 obtain⟨o,h1,hr⟩:=q1.obj
 refine callType_new F.called_enumerate (by decide) (F.typeCall_enumerate_1 _) (F.newCall_enumerate_1 _) (fun u=>F.args_object_init_2 u _) F.entry_enumerate_new (sE b a o xs hr) ⟨h1,?_⟩
 have n1:(y1 s.heap b a).objs.size=s.heap.objs.size+1:=Lg ..
 have n2:(e2 s.heap b a).objs.size=s.heap.objs.size+2:=by rw[Lg,n1]
 have pu:∀{h:Heap}{o u:Obj}{c:Addr},h.get? c=some u->(h.push o).get? c=some u:=fun e=>HN _ e
 have kp:∀c o,s.heap.get? c=some o->(e2 s.heap b a).get? c=some o:=fun c o e=>pu (pu e)
 have f2:(e2 s.heap b a).get? (y1 s.heap b a).objs.size=some _:=Im _ rfl
 have f1:(e2 s.heap b a).get? s.heap.objs.size=some _:=pu (Im _ rfl)
 show _/\_
 rw[n1]at f2
 rw[n1]
 have mk:Hq (e2 s.heap b a) s.heap.objs.size a xs 0:=by
  have e:=hr _ (kp _ _ h1)
  cases b with
  | true=>exact .inr ⟨⟨_,f1,rfl,rfl⟩,e⟩
  | false=>exact .inl ⟨⟨_,f1,rfl,rfl⟩,e⟩
 exact⟨⟨_,f2,rfl⟩,done _ f2 mk n2 kp⟩
theorem wz(oz:Oq s.heap z it k p)(s1:Hq s.heap it a xs k)(ex:xs[k]?=some x)(ne:z≠it)(nz:a≠z)(ni:a≠it)
 (done:∀g,IsEnumOut g z it ((k:Int)+1) x s.heap.objs.size->Hq g it a xs (k+1)->g.get? s.heap.objs.size=some {cls:=.type "tuple", data:=.seq #[.int k s.toks,x]}->g.objs.size=s.heap.objs.size+1 ->
  (∀b o,b≠z->b≠it->s.heap.get? b=some o->g.get? b=some o)->Q (.ref s.heap.objs.size) {s with heap:=g,toks:=s.toks+1}) :
 Iv (IH prog w) A (Builtin.«enumerate.__next__» ⟨[.ref z],[]⟩) (fun r s'=>∃u,r = .done (.ret u)/\Q u s') E s:=by
 show Iv _ _ (do let c <- field (.ref z) 2;_) _ _ _
 refine HJ (Kg oz rfl (x:=.ref it) rfl ?_)
 refine HJ (s1.item ni ex fun g1 s1a b1=>?_)
 have z1:Oq g1 z it k p:=b1.extBut _ _ ne oz
 show Iv _ _ (do let c <- field (.ref z) 3;_) _ _ _
 refine HJ (Kg z1 rfl (x:=rawInt k) rfl ?_)
 show Iv _ _ (do let c <- field (.ref z) 4;_) _ _ _
 refine HJ (Kg z1 rfl (x:=.none) rfl ?_)
 show Iv _ _ (do let c <- mkInt k;_) _ _ _
 refine HJ (wpAny_mkInt ?_)
 show Iv _ _ (do setField (.ref z) 3 (rawInt ((k:Int)+1));_) _ _ _
 refine HJ (KU z1 (by simp) fun g2 z2 b2=>?_)
 have z2:Oq g2 z it ((k:Int)+1) p:=z2
 show Iv _ _ (do setField (.ref z) 4 .none;_) _ _ _
 refine HJ (KU z2 (by simp) fun g3 z3 b3=>?_)
 have z3:Oq g3 z it ((k:Int)+1) p:=z3
 have size:g3.objs.size=s.heap.objs.size:=by rw[b3.1,b2.1,b1.1]
 have s3:Hq g3 it a xs (k+1):=(s1a.keep (SameBut.keep b2 ne.symm) (SameBut.keep b2 nz)).keep (SameBut.keep b3 ne.symm) (SameBut.keep b3 nz)
 have k3:∀b o,b≠z->b≠it->s.heap.get? b=some o->g3.get? b=some o:=fun b o n1 n2 e=>b3.extBut _ _ n1 (b2.extBut _ _ n1 (b1.extBut _ _ n2 e))
 have zl:z<g3.objs.size:=Ii z3
 show Iv _ _ (do let c <- newTuple [.int k s.toks,x];_) _ _ _
 refine HJ (wpAny_newTuple ?_)
 have z4:Oq (g3.push {cls:=.type "tuple", data:=.seq #[.int k s.toks,x]}) z it ((k:Int)+1) p:=HN _ z3
 show Iv _ _ (do let c <- Ll (.ref z);_) _ _ _
 refine HJ ?_
 unfold Ll
 refine HJ (Kg z4 rfl (x:=L0) rfl (H_ ?_))
 simp only[if_true]
 refine HJ (L1 (HJ (Kg z4 rfl (x:=p) rfl (HJ (KU z4 (by simp) fun g5 z5 b5=>?_)))))
 have z5:Oq g5 z it ((k:Int)+1) x:=z5
 show Iv _ _ (do Lh (.ref z) (.ref g3.objs.size);_) _ _ _
 refine HJ ?_
 unfold Lh
 refine HJ (KU z5 (by simp) fun g6 z6 b6=>?_)
 have z6:IsEnumOut g6 z it ((k:Int)+1) x g3.objs.size:=z6
 refine KU z6 (by simp) fun g7 z7 b7=>?_
 have z7:IsEnumOut g7 z it ((k:Int)+1) x g3.objs.size:=z7
 have up:∀b o,b≠z->g3.get? b=some o->g7.get? b=some o:=fun b o n e=>b7.extBut _ _ n (b6.extBut _ _ n (b5.extBut _ _ n (HN _ e)))
 have t7:g7.get? g3.objs.size=some {cls:=.type "tuple", data:=.seq #[.int k s.toks,x]} :=
  b7.extBut _ _ (KY zl) (b6.extBut _ _ (KY zl) (b5.extBut _ _ (KY zl) (Im _ rfl)))
 have l7:g7.objs.size=g3.objs.size+1:=by rw[b7.1,b6.1,b5.1,Lg]
 rw[size]at z7 t7 l7
 refine HJ (MK (H_ ⟨_,rfl,?_⟩))
 show Q (.ref g3.objs.size) _
 rw[size]
 exact done g7 z7 (s3.keep (fun o e=>up _ o ne.symm e) fun o e=>up _ o nz e) t7 l7 fun b o n1 n2 e=>up b o n1 (k3 b o n1 n2 e)
end
end L2.ZP
namespace L2
open PySem PySem.Spec PyProof.Rows L2.ZP
noncomputable def Ho(K:W.Frag)(b:Bool)(a:Addr):It :=
 ⟨fun i H=>∃xs x,GO b K H a xs/\xs[i]?=some x,
  fun i H v H'=>∃x p,(∀xs,GO b K H a xs->xs[i]?=some x)/\H p=none/\v = .ref p/\H'=EB H p (.tup [.int i,x]),
  fun i H=>∃xs,GO b K H a xs/\xs.length<=i⟩
noncomputable def ES(b:Bool)(z it a:Addr)(i:Nat)(h:Heap):Prop:=(∃p,Oq h z it i p)/\Hr b h it a i
theorem nU{K:W.Frag}{elts:List Expr}{kt:Nat}{pt:Pos}(b:Bool)(z it a:Addr)(ne:z≠it)(nz:a≠z)(ni:a≠it) :
 Turn P w K (.Tuple elts kt pt) (Ho K b a) [z,it] z (ES b z it a) where
 mem:=by simp
 obj:=fun i h ⟨⟨p,h1⟩,h4⟩ c hb=>by
  simp at hb
  rcases hb with rfl|rfl
  · exact⟨_,h1,fun v c=>by cases c⟩
  · exact h4.obj
 keep:=fun i h h' ⟨⟨p,h1⟩,h4⟩ k=>⟨⟨p,k z (by simp) _ h1⟩,h4.keep fun o e=>k it (by simp) o e⟩
 item:=by
  intro X hP hw hK hc i pins s σ H E I hf st hg
  subst hP hw hK
  obtain⟨⟨p,h1⟩,h4⟩:=st
  obtain⟨xs,x,q1,ex⟩:=hg
  obtain⟨its,r1,t1⟩:=I.sqB q1
  obtain⟨u,hu,ru⟩:=r1.get ex
  have ty:s.TypeIs (.ref z) "enumerate" := ⟨_,h1,rfl⟩
  unfold M7
  refine HJ (wpAny_attempt (JJ (name:=HG "__next__") ty F.slot_enumerate_next (Kr F.slot_enumerate_next ty F.entry_enumerate_next
   (wz h1 (h4.it1 t1) (by simpa using hu) ne nz ni fun g e1 e3 e5 e6 e7=>H_ ?_) (F.args_enumerate_next_1 _))))
  have hz:s.heap.objs.size≠z:=KY (Ii h1)
  refine⟨.ref s.heap.objs.size,rfl,wpAny_letOwnedTupleGo_enum e1 fun g' f1 fb=>?_⟩
  have hp:H s.heap.objs.size=none:=I.hok.fresh (HX _)
  have I1:Inv X pins σ (EB H s.heap.objs.size (.tup [.int i,x])) {s with heap:=s.heap.push {cls:=.type "tuple", data:=.seq [.int i s.toks,u].toArray},toks:=s.toks+1} :=
   I.laid (t':=s.toks+1) (o:=.tup [.int i,x]) (fun b ob e=>HN _ e) (HX _) ⟨(by show 2<=sizeLine;decide),[.int i s.toks,u],.cons ⟨_,rfl⟩ (.cons ru .nil),qD.new _ _⟩
  have ne':∀b∈[z,it],b≠s.heap.objs.size:=fun b hb e=>by
   simp at hb
   rcases hb with rfl|rfl
   · exact hz e.symm
   · obtain⟨o,ho,_⟩:=h4.obj
     exact absurd (Ii ho) (by rw[e];exact J9 _)
  have kg:∀b o,b∉[z,it]->(s.heap.push {cls:=.type "tuple", data:=.seq [.int i s.toks,u].toArray}).get? b=some o->g'.get? b=some o:=fun b o hb e=>by
   simp at hb
   obtain⟨n1,n2⟩:=hb
   refine fb.extBut _ _ n1 ?_
   by_cases hbn:b=s.heap.objs.size
   · subst hbn
     rw[Im _ rfl]at e
     cases e
     exact e5
   · exact e7 b o n1 n2 (by rw[Heap.get?_push_ne _ _ _ hbn]at e;exact e)
  have fp1:∀b∈[z,it],j_ X pins (EB H s.heap.objs.size (.tup [.int i,x])) b:=fun b hb=>by
   obtain⟨f0,fr⟩:=hf b hb
   exact⟨by rw[am (ne' b hb)];exact f0,fr⟩
  have I2:Inv X pins σ (EB H s.heap.objs.size (.tup [.int i,x])) {s with heap:=g',toks:=s.toks+1}:=I1.turnedL (t':=s.toks+1) kg fp1
  have k8:∀b o,b≠z->g.get? b=some o->g'.get? b=some o:=fun b o n e=>fb.extBut _ _ n e
  have t1':GP b g a its.toArray:=GP.of t1 fun o e=>e7 _ o nz ni e
  refine⟨.ref s.heap.objs.size,_,I2,rfl,⟨x,_,fun xs' q'=>by rw[I.sqB_inj q' q1];exact ex,hp,rfl,rfl⟩,⟨⟨_,by simpa using f1⟩,(Hq.ir e3 h4 t1').keep fun o e=>k8 _ o ne.symm e⟩,fun b hb=>(fp1 b hb).1⟩
 done:=by
  intro X hP hw hK hc i pins s σ H E I hf st hg
  subst hP hw hK
  obtain⟨⟨p,h1⟩,h4⟩:=st
  obtain⟨xs,q1,ex⟩:=hg
  obtain⟨its,r1,t1⟩:=I.sqB q1
  have l1:=r1.length
  have ty:s.TypeIs (.ref z) "enumerate" := ⟨_,h1,rfl⟩
  unfold M7
  refine HJ (wpAny_attempt (JJ (name:=HG "__next__") ty F.slot_enumerate_next (Kr F.slot_enumerate_next ty F.entry_enumerate_next ?_ (F.args_enumerate_next_1 _))))
  show Iv _ _ (do let c <- field (.ref z) 2;_) _ _ _
  refine HJ (Kg h1 rfl (x:=.ref it) rfl ?_)
  refine HJ ((h4.it1 t1).fin (I.ok.hd hc) (by simp;omega) fun g e kg ⟨o,ho,hoc⟩=>?_)
  refine HJ (wpAny_isInstance (T := "StopIteration") (b:=true) ⟨o,ho,hoc⟩ isSubtype_stop (H_ ⟨rfl,?_⟩))
  exact I.turnedL (t':=s.toks) (fun b o hb e=>by simp at hb;exact kg b o hb.2 e) hf
 self:=fun _ _ _ _ _ st h=>by
  obtain⟨⟨p,h1⟩,_⟩:=st
  exact wpAny_pyIter_enum h1 h
section
variable{X:Cx}{e1:Expr}{ta:TA}{elts:List Expr}{kt:Nat}{pt p pos:Pos}
noncomputable def DR(K:W.Frag)(b:Bool)(t:TA):TI:=fun σ H R=>t σ H fun vs H1=>∃a xs,vs=[.ref a]/\GO b K H1 a xs/\R (Ho K b a) H1
theorem vB(b:Bool)(hg:Gl X "enumerate")(hm:X.mg "enumerate" = none)(ha:PA X [e1] ta)(hs:HZ [e1] X.env=(false,eval e1 X.env)::HZ [] X.env:=by rfl)(hpl:(JR pos (HZ [] X.env)).any (·.1)=false:=by rfl) :
 PI X (.Tuple elts kt pt) (.Call (.Name "enumerate" p) [e1] [] pos) (DR X.K b ta):=by
 intro pins s σ H R I h
 refine Call_ (gB I hg hm (by rfl) (JY (EI (ha pos pins s σ H _ I h) fun us s1 ⟨vs,H1,I1,r1,q1⟩=>?_) hs hpl) (by decide) (by decide))
 obtain⟨a,xs,ev,q1,q⟩:=q1
 subst ev
 cases r1 with
 | cons r rr =>
   cases rr
   cases r
   obtain⟨its,v1,t1⟩:=I1.sqB q1
   refine qt t1 fun g f1 f4 f6 kp=>wpAny_pyIter_enum f1 ?_
   have l1:a<s1.heap.objs.size:=by
    obtain⟨o,ho,_⟩:=t1.obj
    exact Ii ho
   have I2:Inv X pins σ H1 {s1 with heap:=g}:=I1.kept (t':=s1.toks) kp
   have ir:Hr b g s1.heap.objs.size a 0:=by
    have r':=GP.of t1 fun o e=>kp _ o e
    cases b with
    | true =>
      rcases f4 with⟨_,⟨o,e,c,_⟩⟩|⟨q,_⟩
      · obtain⟨o',e',c',_⟩:=(show g.IsTuple a _ from r')
        rw[e]at e';cases e';rw[c]at c';injection c' with z;exact absurd z (by decide)
      · exact q
    | false =>
      rcases f4 with⟨q,_⟩|⟨_,⟨o,e,c,_⟩⟩
      · exact q
      · obtain⟨o',e',c',_⟩:=(show g.IsList a _ from r')
        rw[e]at e';cases e';rw[c]at c';injection c' with z;exact absurd z (by decide)
   refine⟨_,[s1.heap.objs.size+1,s1.heap.objs.size],_,_,H1,rfl,I2,nU b _ _ a (by simp) (IP (ME l1)) (IP l1),⟨⟨_,f1⟩,ir⟩,fun b hb=>?_,q⟩
   have hb':s1.heap.objs.size<=b:=by
    simp at hb
    rcases hb with rfl|rfl
    · exact Nat.le_add_right _ 1
    · exact HX _
   exact I1.fpOk hb' (I1.hok.fresh hb')
end
end L2
namespace L2.VL
section
variable{X:Cx}{rl:RlT}{a:Expr}{elts:List Expr}{kt:Nat}{pt p pos:Pos}{fs:GF}
noncomputable def hC(xs:List HH):List HH:=xs.zipIdx.map fun z=>.tuple [.int (z.2:Nat),z.1]
theorem jR(h:(hC xs)[i]?=some d):∃x,xs[i]?=some x/\d = .tuple [.int (i:Nat),x]:=by
 unfold hC at h
 rw[Jd,List.getElem?_zipIdx]at h
 cases ex:xs[i]? with
 | none=>rw[ex]at h;cases h
 | some x=>rw[ex]at h;simp at h;exact⟨x,rfl,h.symm⟩
noncomputable def Gc(b:Bool)(fs:GF):En->(List HH->Prop)->Prop:=fun ρ Q=>fs ρ fun ws=>∃dx xs,ws=[.d dx]/\jm dx=some xs/\g_ dx=b/\Q (hC xs)
theorem ux(b:Bool)(hm:X.mg "enumerate" = none)(ha:GV X rl [a] fs)(hg:Gl X "enumerate" := by rfl)(hs:HZ [a] X.env=(false,eval a X.env)::HZ [] X.env:=by rfl)(hpl:(JR pos (HZ [] X.env)).any (·.1)=false:=by rfl) :
 G4 X rl (.Tuple elts kt pt) (.Call (.Name "enumerate" p) [a] [] pos) (Gc b fs):=by
 obtain⟨t,p1,k⟩:=ha
 refine⟨_,vB b hg hm p1 hs hpl,fun R Qd Q q h=>k R _ _ q fun vs ws F1 H1 g1 r1 ⟨dx,xs,ew,e1,kb1,q1⟩=>?_⟩
 subst ew kb1
 obtain⟨v,rfl,rv⟩:=nq r1
 obtain⟨a1,vs,rfl,rs,sq1⟩:=ye rv e1
 refine⟨a1,vs,rfl,sq1 _ g1.sub,h _ (hC xs) F1 H1 g1 ⟨fun i H x e s=>?_,fun i H hl s=>?_,fun i H v H' x F2 e s s2 ra y=>?_⟩ q1⟩
 · obtain⟨x1,ex,_⟩:=jR e
   obtain⟨v1,ev1,_⟩:=rs.get ex
   exact⟨vs,v1,sq1 _ s,ev1⟩
 · refine⟨vs,sq1 _ s,?_⟩
   unfold hC at hl
   rw[HW,Mq]at hl
   rw[rs.length]
   omega
 · obtain⟨x1,ex,ed⟩:=jR e
   obtain⟨vx,pp,hx,hp,ev,eH⟩:=y
   obtain⟨v1,ev1,rv1⟩:=rs.get ex
   have h1:=hx vs (sq1 _ (s.trans s2))
   rw[ev1]at h1
   cases h1
   subst ev eH ed
   have g:=Grow.data (a:=pp) (o:=.tup [.int (i:Nat),vx]) s2 ra hp
   exact⟨_,g,.tup (.inl (.inl ax)) (.cons (.int _) (.cons ((rv1.mono s).mono g.fs) .nil))⟩
theorem iE(hm:X.mg "enumerate" = none)(ha:GV X rl [a] fs)(hg:Gl X "enumerate" := by rfl)(hs:HZ [a] X.env=(false,eval a X.env)::HZ [] X.env:=by rfl)(hpl:(JR pos (HZ [] X.env)).any (·.1)=false:=by rfl) :
 G4 X rl (.Tuple elts kt pt) (.Call (.Name "enumerate" p) [a] [] pos) (Gc false fs):=ux false hm ha hg hs hpl
end
theorem pZ(xs:List α)(enc:α->HH):hC (xs.map enc)=xs.zipIdx.map fun z=>Kd [.int (z.2:Nat),enc z.1]:=by
 unfold hC
 rw[List.zipIdx_map,JG]
 rfl
section
variable{α β:Type}{b:HH->Mo (Option HH)}
end
open PySem PySem.Spec
noncomputable def Gu(bs:List Bool):HH:=.list (bs.map .bool)
theorem fH{a b:List Bool}:Gu a=Gu b↔a=b:=by
 unfold Gu;rw[LG]
 exact bR fun x y=>by rw[Lj.injEq]
noncomputable def Fz(ns:List Nat):HH:=.list (ns.map fun k:Nat=>.int (k:Int))
theorem fF{a b:List Nat}:Fz a=Fz b↔a=b:=by
 unfold Fz;rw[LG]
 exact bR fun x y=>by rw[MT];omega
noncomputable def colQ(ps:List (List Rat))(i:Nat):List Rat:=ps.map fun p=>p.getD i 0
theorem qi{k:Nat}(f:Rat->Bool)(hk:k<ps.length):((colQ ps i).map f).getD k false=f ((ps.getD k []).getD i 0):=by
 rw[i_ (show k<((colQ ps i).map f).length by unfold colQ;rw[HW,HW];exact hk),i_ hk]
 unfold colQ
 rw[List.getElem_map,List.getElem_map]
noncomputable def BG(ws:List W):Option (List HH):=match ws with
 | [.d (.list xs)]=>some (hC xs)
 | _=>none
theorem zG(xs:List HH):BG [.d (.list xs)]=some (hC xs):=rfl
theorem y9{fs:GF}:Gc false fs ρ=Gs (fs ρ) fun ws=>aV (BG ws) ret:=by
 show(Gs (fs ρ) fun ws=>fun(Q:List HH->Prop)=>∃dx xs,ws=[.d dx]/\jm dx=some xs/\g_ dx=false/\Q (hC xs))=_
 congr 1;funext ws
 refine ai fun Q=>?_
 simp only[ar,ret]
 constructor
 · rintro⟨dx,xs,rfl,a,b,q⟩
   cases dx with
   | list ys=>cases a;exact⟨_,rfl,q⟩
   | tuple ys=>cases b
   | _=>cases a
 · rintro⟨zs,e,q⟩
   unfold BG at e
   split at e
   · cases e;exact⟨_,_,rfl,rfl,rfl,q⟩
   · cases e
noncomputable def nQ(k1 k2 k3:Str)(f1 f2 f3 fa:TV):TV:=fun ρ Q=>f1 ρ fun w1=>∃d1,w1.fz = .d d1/\f2 ρ fun w2=>∃d2,w2.fz = .d d2/\f3 ρ fun w3=>∃d3,w3.fz = .d d3/\fa ρ fun w=>∃k,w = .d (.str k)/\∃d,[(k1,d1),(k2,d2),(k3,d3)].lookup k=some d/\Q (.d d)
theorem nI(ps:List (Str×V))(k:Str):fy (ps.map fun p=>((I0 p.1:Hg),p.2)) (I0 k)=ps.lookup k:=by
 induction ps with
 | nil=>rfl
 | cons p ps ih =>
   unfold fy at ih ⊢
   rw[Ja,Jv,Jh]
   by_cases h:p.1=k
   · simp[h]
   · have h1:(k==p.1)=false:=by simpa using fun z=>h z.symm
     have h2:decide ((I0 p.1:Hg)=I0 k)=false:=by simpa using h
     rw[h1]
     simp only[h2,Jb,if_false]
     exact ih
theorem v6{K:W.Frag}{k1 k2 k3 k:Str}{v1 v2 v3:V}{d1 d2 d3:HH}(r1:Rep K F v1 d1)(r2:Rep K F v2 d2)(r3:Rep K F v3 d3)(h:[(k1,d1),(k2,d2),(k3,d3)].lookup k=some d):∃v,[(k1,v1),(k2,v2),(k3,v3)].lookup k=some v/\Rep K F v d:=by
 simp only[JB]at h ⊢
 split at h
 · cases h;exact⟨v1,rfl,r1⟩
 · split at h
   · cases h;exact⟨v2,rfl,r2⟩
   · split at h
     · cases h;exact⟨v3,rfl,r3⟩
     · cases h
section
variable{X:Cx}{rl:RlT}{e e1 e2 e3:Expr}{fa f1 f2 f3:TV}{pos dpos q1 q2 q3:Pos}{ρ:En}{j1 j2 j3}
theorem kf{k1 k2 k3:Str}(hr:Room 0 X.A)(hd:k1≠k2/\k1≠k3/\k2≠k3)(h1:PV X rl e1 f1)(h2:PV X rl e2 f2)(h3:PV X rl e3 f3)(h:PV X rl e fa)(hs:wV e:=by exact fun _ _=>rfl) :
 PV X rl (.Subscript (.Dict [some (.Constant (.str k1) j1 q1),some (.Constant (.str k2) j2 q2),some (.Constant (.str k3) j3 q3)] [e1,e2,e3] dpos) e pos) (nQ k1 k2 k3 f1 f2 f3 fa):=by
 obtain⟨t,p,k⟩:=h
 obtain⟨t1,p1,c1⟩:=h1
 obtain⟨t2,p2,c2⟩:=h2
 obtain⟨t3,p3,c3⟩:=h3
 obtain⟨d12,d13,d23⟩:=hd
 refine⟨_,iY (rX hr) (oP (cO dq p1 (cO dq p2 (cO dq p3 oK))) rfl rfl (by intro z;cases z) (by show 3<=15;decide)) p hs,fun{F₀ H₀ F H σ ρ} R Qd Q q h=>?_⟩
 intro d hd
 have rd:rl.a≠some d:=fun z=>by obtain⟨o,zz⟩:=R.reel.live z;rw[hd]at zz;cases zz
 have g0:Grow rl F H F (EB H d (.dK [])):=Grow.laid R.sub R.reel hd
 refine c1 (R.grow g0) _ _ q fun v1 w1 F1 H1 g1 r1 n1 ⟨d1,e1,q1⟩=>?_
 obtain⟨E1,g1',s1,r1'⟩:=du.fz g1 r1 n1
 rw[e1]at r1'
 refine c2 ((R.grow g0).grow g1') _ _ q1 fun v2 w2 F2 H2 g2 r2 n2 ⟨d2,e2,q2⟩=>?_
 obtain⟨E2,g2',s2,r2'⟩:=du.fz g2 r2 n2
 rw[e2]at r2'
 refine c3 (((R.grow g0).grow g1').grow g2') _ _ q2 fun v3 w3 F3 H3 g3 r3 n3 ⟨d3,e3,q3⟩=>?_
 obtain⟨E3,g3',s3,r3'⟩:=du.fz g3 r3 n3
 rw[e3]at r3'
 have ga:Grow rl F (EB H d (.dK [])) E3 H3:=(g1'.trans g2').trans g3'
 have hD3:H3 d=some (.dK []):=ga.same d _ ax rd
 have fd:E3 d=none:=by rw[ga.old d _ ax];exact R.sub.free hd
 refine⟨hD3,[(I0 k1,v1),(I0 k2,v2),(I0 k3,v3)],rfl,(by show 3<=15;decide),?_⟩
 have em:eA [] [((I0 k1:Hg),v1),(I0 k2,v2),(I0 k3,v3)]=[(I0 k1,v1),(I0 k2,v2),(I0 k3,v3)]:=by
  unfold eA
  simp only[JZ,List.foldl_nil]
  have p0:dw ([]:List (Hg×V)) (I0 k1) v1=[(I0 k1,v1)]:=rfl
  rw[p0]
  unfold dw
  simp[d12,d13,d23]
 rw[em]
 have gb:Grow rl F H E3 (EB H3 d (.dK [(I0 k1,v1),(I0 k2,v2),(I0 k3,v3)])):=by
  have g:=g0.trans ga
  refine⟨fun b o eb n=>by rw[am (aX eb hd)];exact g.same b o eb n,g.fs,fun b o eb=>?_,g.old,fun r er=>?_⟩
  · rw[am (fun z=>by rw[z,fd]at eb;cases eb)];exact g.sub b o eb
  · obtain⟨z1,⟨o,z2,z3⟩⟩:=g.reel r er
    exact⟨z1,⟨o,by rw[am (fun z=>rd (by rw[<- z];exact er))];exact z2,z3⟩⟩
 refine k (R.grow gb) _ _ q3 fun v w F4 H4 g4 r4 n4 ⟨kk,ew,dd,lk,q4⟩=>?_
 subst ew
 have ev:v = .str kk:=by cases(show Rep X.K F4 v (.str kk)from r4);rfl
 subst ev
 have hD:H4 d=some (.dK [(I0 k1,v1),(I0 k2,v2),(I0 k3,v3)]):=g4.same d _ ax rd
 obtain⟨u,lu,ru⟩:=v6 (Rep.mono (g3'.fs.trans g4.fs) (Rep.mono g2'.fs r1')) (Rep.mono (g3'.fs.trans g4.fs) r2') (Rep.mono g4.fs r3') lk
 have gd:=Am.k (k:=(I0 kk:Hg)) hD
 have:fy [((I0 k1:Hg),v1),(I0 k2,v2),(I0 k3,v3)] (I0 kk)=some u:=(nI [(k1,v1),(k2,v2),(k3,v3)] kk).trans lu
 rw[this]at gd
 exact⟨d,u,rfl,gd,h _ (.d dd) _ _ (gb.trans g4) ru trivial q4⟩
theorem eB(k1 k2 k3:Str):nQ k1 k2 k3 f1 f2 f3 fa ρ=Gs (f1 ρ) fun w1=>aV (asD w1.fz) fun d1=>Gs (f2 ρ) fun w2=>aV (asD w2.fz) fun d2=>Gs (f3 ρ) fun w3=>aV (asD w3.fz) fun d3=>Gs (fa ρ) fun w=>aV (asS w) fun k=>aV ([(k1,d1),(k2,d2),(k3,d3)].lookup k) fun d=>ret (.d d):=by
 refine ai fun Q=>?_
 simp only[nQ,Gs,ar,gM,uj,ret]
end
section
variable{X:Cx}{rl:RlT}{elt t1 i1 t2 i2:Expr}{f1 f2:List Expr}{scope:Scope}{pos:Pos}{fi fj:En->(List HH->Prop)->Prop}{g g2:GK}{ft ft2:TB}{fe:TV}
end
section
variable{X:Cx}{rl:RlT}{a b e:Expr}{es:List Expr}{fa fb fc:TV}{fs:GF}{pos p:Pos}
end
section
variable{X:Cx}{rl:RlT}{elt tg iter:Expr}{ifs:List Expr}{scope:Scope}{pos px:Pos}{fi:En->(List HH->Prop)->Prop}{g:GK}{ft:TB}{fe:TV}{ρ:En}
end
section
variable{X:Cx}{rl:RlT}{a b c o e:Expr}{es:List Expr}{fa fb:TV}{fs:GF}{pos p apos cpos:Pos}{ρ:En}
end
end L2.VL
namespace L2
section
variable{prog:II}{w:Ju}{A:Jz}{E:HQ->HU->Prop}{s:HU}
end
section
variable{X:Cx}
end
end L2
namespace L2.VL
section
variable{X:Cx}{rl:RlT}{e:Expr}{fa:TV}{pos:Pos}{ρ:En}
end
theorem GlK.int{K:W.Frag}{x:Str}{a:Int}{t:Tok}(h1:W.nsIn K Jf x=some (some (.int a t))):GlK K x (.int a):=⟨.int a,.int a t,h1,⟨t,rfl⟩,fun F=>.int a⟩
section
variable{X:Cx}{rl:RlT}{a b e:Expr}{fa fb:TV}{pos:Pos}{ρ:En}
end
end L2.VL
namespace L2
open L2.ZP
section
variable{X:Cx}{e1 e2:Expr}{elts:List Expr}{kt:Nat}{pt p pos:Pos}{ta:TA}
end
end L2
namespace L2.VL
section
variable{X:Cx}{rl:RlT}{a b:Expr}{elts:List Expr}{kt:Nat}{pt p pos:Pos}{fs:GF}
end
end L2.VL
namespace L2
section
variable{X:Cx}
end
end L2
namespace L2.VL
section
variable{X:Cx}{rl:RlT}{a e:Expr}{fs:GF}{pos p:Pos}
end
end L2.VL
namespace L2
section
variable{X:Cx}
end
end L2
namespace L2.VL
section
variable{X:Cx}{rl:RlT}{a e:Expr}{fs:GF}{pos p:Pos}
end
end L2.VL
namespace L2
section
variable{X:Cx}
end
end L2
namespace L2.VL
section
variable{X:Cx}{rl:RlT}{a e:Expr}{fs:GF}{pos p:Pos}
end
section
variable{X:Cx}{rl:RlT}{e:Expr}{fa:TV}{pos:Pos}{ρ:En}
end
section
variable{X:Cx}{rl:RlT}{a b:Expr}{fa fb:TV}{pos:Pos}
end
open PySem PySem.Spec
noncomputable def FN(w:Str)(xs:List Rat)(s:Sd):List Bool:=xs.map fun x=>FO s w x
noncomputable def FJ(s:Sd)(a b:List Bool):HH:=.tuple [Fd s,Gu a,Gu b,fr (szQ s)]
theorem gz{e e':Sd}{s f s' f':List Bool}:FJ e s f=FJ e' s' f'↔e=e'/\s=s'/\f=f':=by
 unfold FJ
 simp only[JC,Jp,and_true,bG,fH,cL]
 constructor
 · rintro⟨h1,h2,h3,_⟩;exact⟨h1,h2,h3⟩
 · rintro⟨rfl,rfl,rfl⟩;exact⟨rfl,rfl,rfl,rfl⟩
structure Rv where
 es:List Sd
 sh:List Nat
 op:List Nat
 sz:Rat
noncomputable def Ff(r:Rv):HH:=.tuple [boxD r.es,Fz r.sh,Fz r.op,fr r.sz]
theorem fY{a b:Rv}:Ff a=Ff b↔a=b:=by
 unfold Ff
 simp only[JC,Jp,and_true,aO,fF,cL]
 constructor
 · rintro⟨h1,h2,h3,h4⟩;cases a;cases b;simp_all
 · rintro rfl;exact⟨rfl,rfl,rfl,rfl⟩
noncomputable def rvO(ps:List (List Rat))(ss:List Sd):Rv:=⟨ss,plc (fun p=>FV p ss "shut") ps,plc (fun p=>FV p ss "open") ps,aW ss⟩
noncomputable def Rv.wid(r:Rv)(s:Sd)(a b:List Bool):Rv:=⟨r.es++[s],r.sh.filter fun k=>a.getD k false,r.op.filter fun k=>b.getD k false,r.sz*szQ s⟩
theorem v7{s:Sd}{w:Str}(hl:ss.length=i)(hi:i<p.length):FV p (ss++[s]) w=(FV p ss w&&FO s w (p.getD i 0)):=by
 unfold FV;rw[qL 0 hl hi,List.all_append];simp
theorem jz(ss:List Sd)(s:Sd):aW (ss++[s])=aW ss*szQ s:=by
 unfold aW mW;rw[Jk,KB];rfl
theorem uk(hp:∀p∈ps,p.length=n)(hl:ss.length=i)(hi:i<n)(s:Sd):(rvO ps ss).wid s (FN "shut" (ps.map fun p=>p.getD i 0) s) (FN "open" (ps.map fun p=>p.getD i 0) s)=rvO ps (ss++[s]):=by
 unfold Rv.wid rvO FN
 have h:∀w:Str,(plc (fun p=>FV p ss w) ps).filter (fun k=>((ps.map fun p=>p.getD i 0).map fun x=>FO s w x).getD k false)=plc (fun p=>FV p (ss++[s]) w) ps:=fun w=>by
  rw[<- vy (f:=fun p=>FV p ss w) (g:=fun p=>FO s w (p.getD i 0)) fun p mp=>v7 hl (by rw[hp p mp];exact hi)]
  exact LH fun k mk=>qi (ps:=ps) (i:=i) (fun x=>FO s w x) (tK k mk)
 rw[h,h,jz]
noncomputable def teD(t:Rat×Str×List Sd):HH:=.tuple [fr t.1,.str t.2.1,boxD t.2.2]
theorem fB{a b:Rat×Str×List Sd}:teD a=teD b↔a=b:=by
 unfold teD
 simp only[JC,Jp,and_true,aO,cL,KP.injEq]
 constructor
 · rintro⟨h1,h2,h3⟩;exact Prod.ext h1 (Prod.ext h2 h3)
 · rintro rfl;exact⟨rfl,rfl,rfl⟩
theorem fU{a b:List (Rat×Str×List Sd)}:a.map teD=b.map teD↔a=b:=bR fun _ _=>fB
noncomputable def Ft(ps:List (List Rat))(ss:List Sd):Rat:=qd (cntN ps ss "shut") ps.length-aW ss
noncomputable def FX(ps:List (List Rat))(ss:List Sd):Rat:=aW ss-qd (cntN ps ss "open") ps.length
noncomputable def msS(ps:List (List Rat))(ss:List Sd):List (Rat×Str×List Sd):=[(Ft ps ss, "over", ss),(FX ps ss, "lack", ss)]
noncomputable def Gm{α:Type}(ts:List (Rat×α))(t0:Rat×α):Rat×α:=ts.foldl (fun b r=>if b.1<r.1 then r else b) t0
theorem wG(g:α->β)(rows:List (List α)):chP (rows.map (Nn g))=(chP rows).map (Nn g):=by
 have key:∀(rows:List (List α))(ch:List (List α)),(rows.map (Nn g)).foldl (fun ch r=>ch.flatMap fun b=>r.map fun t=>b++[t]) (ch.map (Nn g))=(rows.foldl (fun ch r=>ch.flatMap fun b=>r.map fun t=>b++[t]) ch).map (Nn g):=by
  intro rows
  induction rows with
  | nil=>intro ch;rfl
  | cons r rows ih =>
    intro ch
    rw[Ja,JZ,JZ,<- ih]
    congr 1
    rw[LQ,List.flatMap_map]
    congr 1
    funext b
    rw[JG,JG]
    refine Ko fun t _=>?_
    simp
 exact key rows [[]]
theorem dZ{s:Sd}(h:s.Sm):Fm 190 (szQ s):=nY h
theorem tI:∀(qs:List Rat)(k:Nat)(a:Rat),Fm k a->(∀q∈qs,Fm 190 q)->Fm (k+190*qs.length) (qs.foldl (· * ·) a)
 | [],k,a,h,_=>h
 | q::qs,k,a,h,hq=>by
   have:=tI qs (k+190) (a*q) (yZ h (hq q HM)) fun r hr=>hq r (HK _ hr)
   rw[JZ]
   refine this.mono ?_
   rw[Io];omega
theorem u3(h4:ss.length<=4)(h:∀s∈ss,s.Sm):Fm 761 (aW ss):=by
 refine(tI _ 1 1 ⟨by decide,by decide⟩ fun q mq=>?_).mono (by rw[HW];omega)
 obtain⟨s,ms,rfl⟩:=IM.mp mq
 exact nY (h s ms)
theorem yN(h1:1<=ps.length)(h:ps.length<=60)(h4:ss.length<=4)(hs:∀s∈ss,s.Sm):Fm 900 (Ft ps ss)/\Fm 900 (FX ps ss):=by
 have s:=u3 h4 hs
 exact⟨(fV (sK h1 h fun p=>FV p ss "shut") s).mono (by decide),(fV s (sK h1 h fun p=>FV p ss "open")).mono (by decide)⟩
theorem Reps.put{K:W.Frag}(k:Nat)(r:Reps K F vs ds)(h:Rep K F v d):Reps K F (vs.set k v) (ds.set k d):=by
 induction vs generalizing ds k with
 | nil=>cases r;exact .nil
 | cons x vs ih =>
   cases r with
   | cons r1 r2 =>
     cases k with
     | zero=>exact .cons h r2
     | succ k=>exact .cons r1 (ih k r2)
noncomputable def uF(i:Nat)(fx fv:TV):GG:=fun D ρ=>fv ρ fun w=>∃d,w.fz = .d d/\∃xs,ρ[i]?=some (some (.ml xs))/\fx ρ fun wx=>∃k:Int,wx = .d (.int k)/\0<=k/\k<(xs.length:Int)/\D.nx (ρ.set i (some (.ml (xs.set k.toNat d))))
section
variable{X:Cx}{rl:RlT}{ei e:Expr}{fx fv:TV}{pos p1 pos':Pos}{ρ:En}
theorem uq(i:Nat)(hx:PV X rl ei fx)(hv:PV X rl e fv)(hN:X.N[i]?=some x:=by rfl)(hvis:GB X.env.scope x:=by first|exact J0 rfl|exact Jq (J0 rfl)|exact Jq (Jq rfl))
 (hd:(x==("__debug__" : Str))=false:=by decide)(hcd:(x==("__classdict__" : Str))=false:=by decide)
 (ha:∀v,KL (.Subscript (.Name x p1) ei pos') X.env v=(do
  let ov <- MH [v] (eval (.Name x p1) X.env)
  let iv <- MH [v,ov] (eval ei X.env)
  MG pos'
  MH [v,ov,iv] (setItem ov iv v)
  release [v,ov,iv] []):=by intro _;rfl)
 (hs:LV [.Subscript (.Name x p1) ei pos'] e pos.line X.env=pure false:=by rfl)(hw:LW [.Subscript (.Name x p1) ei pos'] e X.env=pure none:=by rfl)
 (h1:(Kx [.Subscript (.Name x p1) ei pos'] X.env).map (·.2)=[KL (.Subscript (.Name x p1) ei pos') X.env]:=by rfl) :
 GZ X rl (.Assign [.Subscript (.Name x p1) ei pos'] e pos) (uF i fx fv):=by
 obtain⟨tv,pv,kv⟩:=hv
 obtain⟨tx,px,kx⟩:=hx
 refine⟨_,tH pv (yF (cG hN hvis hd hcd) px q0 ha) hs hw h1,fun{F₀ H₀ F H σ ρ} R Dv D ok q=>kv R _ _ q fun v w F1 H1 g1 r1 n1 ⟨d,ed,xs,e1,q1⟩=>?_⟩
 obtain⟨F2,g2,s2,r2⟩:=du.fz g1 r1 n1
 rw[ed]at r2
 have R1:=R.grow g2
 obtain⟨u,h1',h2,h3⟩:=R1.sl i _ e1
 obtain⟨a,vs,rfl,f,hr,hh,rs⟩:=(show iB X.K rl F2 H1 u xs from h2)
 refine⟨.ref a,h1',kx R1 _ _ q1 fun y wy F3 H3 g3 r3 n3 ⟨k,ek,k0,k1,q3⟩=>?_⟩
 subst ek
 have ey:=aL r3
 subst ey
 have R3:=R1.grow g3
 have vl:vs.length=xs.length:=rs.length
 refine⟨a,vs,k,k.toNat,rfl,rfl,g3.same a _ hh hr,?_,ok.nx _ _ _ _ (g2.fs.trans g3.fs) (R3.own e1 h1' (Reps.put k.toNat (rs.mono g3.fs) (Rep.mono g3.fs r2))) q3⟩
 obtain⟨n,rfl⟩:=J1 k0
 unfold ixN
 simp
 omega
theorem di(i:Nat):mS (uF i fx fv) ρ=Gs (fv ρ) fun w=>aV (asD w.fz) fun d=>aV (E8 ρ i) fun xs=>Gs (fx ρ) fun wx=>aV (asI wx) fun k=>Ge (0<=k/\k<(xs.length:Int)) (ret (.nx (ρ.set i (some (.ml (xs.set k.toNat d)))))):=by
 refine ai fun Q=>?_
 simp only[mS,uF,Gs,ar,oh,gM,cJ,Ge,ret,and_assoc]
end
noncomputable def BQ(i j:Int):Prop:=0<=j/\j<=1000000/\HA i
section
variable{X:Cx}{rl:RlT}{a b:Expr}{fa fb:TV}{pos:Pos}
theorem vK:G9 X (KQ .LShift) (rI BQ fun i j=>.int (i*2^j.toNat)):=Fu fun _ _ _ _ _ _ _ hc q=>lshift_int hc.1 (by have:=hc.2.2.bits;have:=hc.2.1;omega) q
theorem xo(ha:PV X rl a fa)(hb:PV X rl b fb):PV X rl (.BinOp a .LShift b pos) (Ez (gI BQ fun i j=>.int (i*2^j.toNat)) fa fb):=gZ vK (fQ fun _ _ _ _=>.int _) ha hb
end
end L2.VL
namespace K24
open PySem PySem.Spec PyProof.Rows L2 L2.VL
local macro_rules | `(tactic| simp_arith only [$xs,*])=>`(tactic| simp (maxSteps:=2000000) (disch:=(first | assumption | omega | decide)) only [BX,B1,B5,B4,B3,BS,BR,BW,BV,BU,BZ,BY,Dq,E9,E8,g_,dD,dS,W.cap,FQ,List.replicate,id,↓reduceIte,if_true,Nat.reduceAdd,Nat.reduceSub,Nat.reduceLeDiff,Int.cast_ofNat_Int,Int.reduceBEq,Int.reduceSub,Int.reduceAdd,Int.reduceLT,Int.reduceLE,Int.reduceMul,Int.reduceNeg,reduceCtorEq,zo,$xs,*])
local macro_rules | `(tactic| simp_arith only [$xs,*] at $h:ident)=>`(tactic| simp only [List.cons.injEq,W.d.injEq,PyData.int.injEq,PyData.bool.injEq,PyData.str.injEq,PyData.list.injEq,PyData.tuple.injEq,lw,rQ,qU,dP,and_true,true_and,reduceCtorEq,$xs,*] at $h:ident)
section
variable{P:II}{w:Ju}{K:KE}{mg:Str->Option HQ}{base:Heap}{rl:RlT}
noncomputable def zZ(ws:List W):Prop:=∃ns:List Int,ws=[.sc ns]/\ns.length<=63
theorem zZ.eq(h:ns.length<=63):zZ [.sc ns]=True:=propext ⟨fun _=>trivial,fun _=>⟨ns,rfl,h⟩⟩
theorem xV{m:Mo Fl}{k:En->Mo Fl}{Q:Fl->Prop}(P:α->Prop)(g:α->Fl)(h:∀Q':Fl->Prop,(∀a,P a->Q' (g a))->m Q')(fin:∀a,P a->sq (VL.ret (g a)) k Q):sq m k Q:=h _ fun a ha=>fin a ha
theorem DW(xs:List α)(f:α->HH)(k:Nat):VL.cutD (xs.map f) none (some (k:Int))=(xs.take k).map f:=by
 unfold VL.cutD
 rw[HT.sIx_none,HT.sIx_nat,List.drop_zero,HW,Nat.sub_zero,<- MN]
 congr 1
 by_cases z:k<=xs.length
 · rw[Nf z]
 · rw[MS (by omega),IG (by omega),IG (by omega)]
theorem jD:FnScope ["_law_script"] ["_law_script"] (defScope (EG 38)):=⟨rfl,rfl,rfl,by decide +kernel,rfl,by decide +kernel,by decide +kernel⟩
theorem d__law_feed(Fn:FnIn K mg "_law_feed" (EG 38) ["_law_script"])(Z:Bz mg):DfnR P w K mg base "_law_feed" ["_law_script"] 2 zZ:=by
 have sc:=jD
 obtain⟨f,fd,hm,F,hb⟩:=Fn.ex
 refine⟨f,fd,hm,F.kp,hb,?_⟩
 refine F.ok (k:=1) sc (fun vs H Q E h=>?_) (fun cdv A outer s H vs Q E hr h=>?_)
 · obtain⟨F,ws,_,r,_,⟨ns,rfl,_⟩,_⟩:=h
   have:=KF r
   simpa using this
 · obtain⟨F,ws,sm,r,ao,⟨ns,rfl,hn⟩,fin⟩:=h
   obtain⟨T,p,kk⟩:=pV (X:=(qG Hy P w K mg base ["_law_script"] "_law_feed" (defScope (EG 38)) f cdv A outer s H E).nox) (dW Z.list_ (aa (xm (vn 0) ke (kd ae)) ac))
   refine⟨T,p,kk (iD sm (fun _ z=>by cases z) r ao) _ ?_ fin⟩
   simp_arith only[af]
   exact⟨ns.take 63,by rw[show(63:Int)=((63:Nat):Int)from rfl,DW],by rw[JH];omega⟩
noncomputable def aU:List W->(HH->Prop)->Prop:=fun ws Q=>∃(m:Int),ws=[.reel,.d (.int m)]/\((0<m)/\(m<2^60))/\∀k:Int,(0<=k/\k<m)->Q (.int k)
theorem aU.mono:∀ws (Q Q':HH->Prop),(∀d,Q d->Q' d)->aU ws Q->aU ws Q':=fun _ _ _ h_=>H0 fun _=>HP (HP fun q_ o_ ho_=>h_ _ (q_ o_ ho_))
theorem aU.len:∀ws (Q:HH->Prop),aU ws Q->ws.length=2:=fun _ _ h_=>by obtain⟨_,e_,_⟩:=h_;subst e_;rfl
theorem aU.eq(m:Int)(hm:0<m)(hb:m<2^60):aU [.reel,.d (.int m)]=Gs (anyM fun k:Int=>0<=k/\k<m) fun k=>VL.ret (.int k:HH):=by
 refine ai fun Q=>⟨?_,fun q_=>⟨m,rfl,⟨hm,hb⟩,q_⟩⟩
 rintro⟨m',e_,_,q_⟩
 simp_arith only[and_true]at e_
 obtain rfl:=e_
 exact q_
theorem jE:FnScope ["_law_feed_here", "_law_many", "_law_found", "_law_spot", "_law_cell", "_law_mixed"] ["_law_feed_here", "_law_many"] (defScope (EG 39)):=⟨rfl,rfl,rfl,by decide +kernel,rfl,by decide +kernel,by decide +kernel⟩
theorem d__law_draw(Fn:FnIn K mg "_law_draw" (EG 39) ["_law_feed_here", "_law_many"])(Z:Bz mg)    : Dfn P w K mg base rl "_law_draw" ["_law_feed_here", "_law_many"] 1 aU:=by
 have sc:=jE
 refine Dfn.of Fn sc (aU.mono) (aU.len) (fun cdv A outer s H E hr=>(ag (iC (i:=0) (hr.mono (Ix _)) (.inr (.inr rfl)) (v_add (fT (i:=0) (hr.mono (Ix _)) (.inr (.inr rfl))) ae))
  (ag (bW (aF oU nE (ay _) (fT (i:=0) (hr.mono (Ix _)) (.inr (.inl rfl))) ae) (ag (aj 2 sc.nd (v_mod (fT (i:=0) (hr.mono (Ix _)) (.inr (.inl rfl))) (vn 1)))
  (ag (iC (i:=0) (hr.mono (Ix _)) (.inr (.inl rfl)) (v_div (fT (i:=0) (hr.mono (Ix _)) (.inr (.inl rfl))) (vn 1)))
  (ak (av (vn 2))))) ba)
  (ag (aj 3 sc.nd (fT (i:=0) (hr.mono (Ix _)) (.inl rfl)))
  (ag (iC (i:=0) (hr.mono (Ix _)) (.inl rfl) (v_add (vn 3) ae))
  (ag (aj 4 sc.nd ae)
  (ag (bW (aF (gt hr.units) bX (ay _) (fK (i:=0) (hr.mono (Ix _))) (cE ac)) (ak (aj 4 sc.nd (aQ (fK (i:=0) (hr.mono (Ix _))) (v_mod (vn 3) (cv Z.len_ (aa (fK (i:=0) (hr.mono (Ix _))) ac)))))) ba)
  (ag (bW (G8.pb (eY (aF Bb Au (ay _) (vn 4) (v_pow ae ae)) (df (aF gu fR (ay _) (vn 3) (cv Z.len_ (aa (fK (i:=0) (hr.mono (Ix _))) ac)))))) (ag (iC (i:=0) (hr.mono (Ix _)) (.inr (.inl rfl)) (v_div (vn 4) (vn 1)))
  (ak (av (v_mod (vn 4) (vn 1))))) ba)
  (ag (aj 5 sc.nd (v_mod (v_mul (v_add (v_add (v_mod (vn 4) ae) (v_mul ae (fT (i:=0) (hr.mono (Ix _)) (.inr (.inr rfl))))) ae) ae) ae))
  (ag (aj 5 sc.nd (v_mod (v_mul (v_add (v_div (vn 5) ae) (v_mul ae (fT (i:=0) (hr.mono (Ix _)) (.inr (.inr rfl))))) ae) ae))
  (ak (av (v_mod (v_div (vn 5) ae) (vn 1)))))))))))))) ?_
 rintro ws Q ⟨m,rfl,⟨hm,hb⟩,hQ⟩
 have hm0:m≠0:=by omega
 have hmd:∀i:Int,fI i m:=fun i=>fI.of hm0 (by omega)
 have hnn:∀i:Int,0<=i->0<=i.fdiv m:=fun i hi=>Int.fdiv_nonneg hi (by omega)
 have fm:∀i:Int,0<=i.fmod m/\i.fmod m<m:=fun i=>⟨JM _ hm,Kt _ hm⟩
 refine az ?_
 have c1:∀z:Int,aN 1013 z:=fun z=>.lt (by decide)
 have c2:∀z:Int,aN 37 z:=fun z=>.lt (by decide)
 have c3:∀z:Int,aN z 48271:=fun z=>.rt (by decide)
 have c4:∀z:Int,aN z 69621:=fun z=>.rt (by decide)
 have d6:∀z:Int,fI z 64:=fun z=>fI.of (by decide) (by decide)
 simp_arith only[ah,af,aY,aZ,aA,a_,aB,au]
 (with_reducible (first|refine aE fun n hn=>?_|refine aK fun n hn=>?_))
 try simp_arith only[ah,af,aY,aZ,aA,a_,aB,au]
 (with_reducible (first|refine aE fun l hl=>?_|refine aK fun l hl=>?_))
 try rw[sq_ite]
 refine dA (fun _=>?_) fun _=>?_
 · simp_arith only[ah,af,aY,aZ,aA,a_,aB,au]
   (with_reducible (first|refine aE fun l2 hl2=>?_|refine aK fun l2 hl2=>?_))
   try simp_arith only[ah,af,aY,aZ,aA,a_,aB,au]
   (with_reducible (first|refine aE fun l3 hl3=>?_|refine aK fun l3 hl3=>?_))
   have h0:=hnn l3 hl3
   try simp_arith only[ah,af,aY,aZ,aA,a_,aB,au]
   exact cU (hmd _) (aw (hQ _ (fm _)))
 · simp_arith only[ah,af,aY,aZ,aA,a_,aB,au]
   (with_reducible (first|refine aE fun a ha=>?_|refine aK fun a ha=>?_))
   try simp_arith only[ah,af,aY,aZ,aA,a_,aB,au]
   generalize rl.b.snd=cs
   refine xV (fun _:Int=>True) (fun z=>.nx [some .reel,some (.d (.int m)),none,some (.d (.int a)),some (.d (.int z)),none]) ?_ ?_
   · intro Q' hQ' _ _
     refine cU (shaped_ints cs) (rW (fun he=>?_) fun _=>hQ' 0 trivial)
     intro _ _ _ _
     have he:cs≠[]:=by rintro rfl;exact absurd he (by decide)
     have hz:(0:Int)<(cs.length:Int):=by have:=NE.mpr he;omega
     refine cU (by omega) ?_
     obtain⟨z,ez,_⟩:=qw (xs:=cs) (JM a hz) (Kt a hz)
     rw[ez]
     exact hQ' z trivial
   · intro z _
     have t0:(10:Int)^JD 18<=z->0<=z:=fun h=>Mr (by decide) h
     repeat' (first|exact aw (hQ _ (fm _))|((with_reducible refine cU ?_ ?_);(first|exact hmd _|exact hnn _ (by assumption)|exact hnn _ (t0 (by simp_all))|exact c1 _|exact c2 _|exact c3 _|exact c4 _|exact d6 _|exact fI.of (by decide) (by decide)|exact⟨by decide,by decide,by decide⟩|omega|assumption|decide))|(with_reducible refine aE fun _ _=>?_)|(with_reducible refine aK fun _ _=>?_)|(with_reducible refine dA (fun _=>?_) fun _=>?_)|(simp_arith only[af,aY,aZ,aA,a_,aB,au]))
noncomputable def bf:List W->(HH->Prop)->Prop:=fun ws Q=>∃(a b:Int),ws=[.d (.int a),.d (.int b)]/\((0<b)/\(b.natAbs<2^8000))/\Q (fr (qd a b))
theorem bf.mono:∀ws (Q Q':HH->Prop),(∀d,Q d->Q' d)->bf ws Q->bf ws Q':=fun _ _ _ h_=>H0 fun _=>H0 fun _=>HP (HP (h_ _))
theorem bf.len:∀ws (Q:HH->Prop),bf ws Q->ws.length=2:=fun _ _ h_=>by obtain⟨_,_,e_,_⟩:=h_;subst e_;rfl
theorem bf.eq(a b:Int)(hb:0<b)(hz:b.natAbs<2^8000):bf [.d (.int a),.d (.int b)]=VL.ret (fr (qd a b):HH):=by
 refine ai fun Q=>⟨?_,fun q_=>⟨a,b,rfl,⟨hb,hz⟩,q_⟩⟩
 rintro⟨a',b',e_,_,q_⟩
 simp_arith only[cL,bG,bJ,aO,aR,bP]at e_
 obtain⟨rfl,rfl⟩:=e_
 exact q_
theorem jC:FnScope ["_law_top", "_law_bottom_here", "_law_one", "_law_other"] ["_law_top", "_law_bottom_here"] (defScope (EG 40)):=⟨rfl,rfl,rfl,by decide +kernel,rfl,by decide +kernel,by decide +kernel⟩
theorem d__law_frac(Fn:FnIn K mg "_law_frac" (EG 40) ["_law_top", "_law_bottom_here"])(Z:Bz mg)    : Dfn P w K mg base rl "_law_frac" ["_law_top", "_law_bottom_here"] 1 bf:=by
 have sc:=jC
 refine Dfn.of Fn sc (bf.mono) (bf.len) (fun cdv A outer s H E hr=>(ag (lh 2 3 rfl sc.nd (aa (xu Z.abs_ (aa (vn 0) ac)) (aa (vn 1) ac)))
  (ag (jo [] IZ (aF oU nE (ay _) (vn 3) ae) (ak (lh 2 3 rfl sc.nd (aa (vn 3) (aa (v_mod (vn 2) (vn 3)) ac)))))
  (ak (av (bU (aa (v_div (vn 0) (vn 2)) (aa (v_div (vn 1) (vn 2)) ac)))))))) ?_
 rintro ws Q ⟨a,b,rfl,⟨hb,hz⟩,hQ⟩
 refine az ?_
 have e:J3 (if a<0 then -a else a) b=J3 a b:=by split<;>simp[J3]
 simp_arith only[af]
 refine lc (σ:=Int×Int) (fun s=>[some (.d (.int a)),some (.d (.int b)),some (.d (.int s.1)),some (.d (.int s.2))]) (fun s=>decide (0<s.2)) (fun s=>(s.2,s.1.fmod s.2)) (fun s=>s.2.natAbs) (fun s=>0<=s.1/\0<=s.2/\J3 s.1 s.2=J3 a b) (if a<0 then -a else a,b) rfl ⟨by dsimp only;split<;>omega,by dsimp only;omega,e⟩ ?_ ?_ ?_
 · intro s _
   simp_arith only[af]
 · rintro s ⟨h1,h2,e⟩ c
   have hc:0<s.2:=by simpa using c
   have hc':s.2≠0:=by omega
   refine⟨⟨h2,JM _ hc,by rw[lR];exact e⟩,gE hc',_,?_,rfl⟩
   simp_arith only[ah,af]
 · rintro s ⟨h1,h2,e⟩ c
   have hc:¬0<s.2:=by simpa using c
   have hc:s.2=0:=by omega
   rw[hc,Int.gcd_zero_right]at e
   have ex:s.1=(J3 a b:Int):=by omega
   have c1:fI a (J3 a b:Int):=ja hb hz _
   have c2:fI b (J3 a b:Int):=ja hb hz _
   simp_arith only[ah,af,ex]
   rw[tP hb]
   exact aw hQ
noncomputable def Gd(q:Rat):Prop:=Fm 45 q/\0<=q/\q<1
noncomputable def Gr(x y:Int):Int:=(if decide (y<x)=true then(1:Int)else 0)-(if decide (x<y)=true then(1:Int)else 0)
noncomputable def Gq(q r:Rat):Int:=if r<q then 1 else if q<r then -1 else 0
theorem eM(q r:Rat):decide (Gq q r<0)=decide (q<r):=by
 unfold Gq
 by_cases h:r<q
 · rw[if_pos h];simp;exact Jl.mpr (Iq h)
 · rw[if_neg h]
   by_cases h2:q<r
   · rw[if_pos h2];simp[h2]
   · rw[if_neg h2];simp[h2]
noncomputable def Fq(x:Int×Int):HH:=.tuple [.int x.1,.int x.2]
theorem A6{x y:Int×Int}:Fq x=Fq y↔x=y:=⟨fun h=>by obtain⟨a,b⟩:=x;obtain⟨c,d⟩:=y;unfold Fq at h;cases h;rfl,fun h=>by rw[h]⟩
noncomputable def aC:List W->(HH->Prop)->Prop:=fun ws Q=>∃(x y:Int×Int),ws=[.d (Fq x),.d (Fq y)]/\((HA x.1)/\(HA x.2)/\(HA y.1)/\(HA y.2))/\Q (.int (Gr (x.1*y.2) (y.1*x.2)))
theorem aC.mono:∀ws (Q Q':HH->Prop),(∀d,Q d->Q' d)->aC ws Q->aC ws Q':=fun _ _ _ h_=>H0 fun _=>H0 fun _=>HP (HP (h_ _))
theorem aC.len:∀ws (Q:HH->Prop),aC ws Q->ws.length=2:=fun _ _ h_=>by obtain⟨_,_,e_,_⟩:=h_;subst e_;rfl
theorem aC.eq(x y:Int×Int)(h1:HA x.1)(h2:HA x.2)(h3:HA y.1)(h4:HA y.2):aC [.d (Fq x),.d (Fq y)]=VL.ret (.int (Gr (x.1*y.2) (y.1*x.2)):HH):=by
 refine ai fun Q=>⟨?_,fun q_=>⟨x,y,rfl,⟨h1,h2,h3,h4⟩,q_⟩⟩
 rintro⟨x',y',e_,_,q_⟩
 simp_arith only[cL,bG,bJ,aO,aR,bP,A6]at e_
 obtain⟨rfl,rfl⟩:=e_
 exact q_
theorem kw:FnScope ["_law_one", "_law_other", "_law_left", "_law_right"] ["_law_one", "_law_other"] (defScope (EG 41)):=⟨rfl,rfl,rfl,by decide +kernel,rfl,by decide +kernel,by decide +kernel⟩
theorem d__law_cmp(Fn:FnIn K mg "_law_cmp" (EG 41) ["_law_one", "_law_other"])(Z:Bz mg)    : Dfn P w K mg base rl "_law_cmp" ["_law_one", "_law_other"] 1 aC:=by
 have sc:=kw
 refine Dfn.of Fn sc (aC.mono) (aC.len) (fun cdv A outer s H E hr=>(ag (aj 2 sc.nd (v_mul (aQ (vn 0) ae) (aQ (vn 1) ae)))
  (ag (aj 3 sc.nd (v_mul (aQ (vn 1) ae) (aQ (vn 0) ae)))
  (ak (av (v_sub (jt Z.int_ (aa (eR oU nE (ay _) (vn 2) (vn 3)) ac)) (jt Z.int_ (aa (eR gu fR (ay _) (vn 2) (vn 3)) ac)))))))) ?_
 rintro ws Q ⟨x,y,rfl,⟨h1,h2,h3,h4⟩,hQ⟩
 refine az ?_
 have m1:aN x.1 y.2:=.bb h1 h4
 have m2:aN y.1 x.2:=.bb h3 h2
 simp_arith only[ah,af,HD,Fq]
 exact aw hQ
theorem aC.eqQ(q r:Rat)(h1:Fm 2000 q)(h2:Fm 2000 r):aC [.d (fr q),.d (fr r)]=VL.ret (.int (Gq q r):HH):=by
 have e:=aC.eq (q.num,(q.den:Int)) (r.num,(r.den:Int)) h1.bn h1.bd h2.bn h2.bd
 have z:Gr (q.num*(r.den:Int)) (r.num*(q.den:Int))=Gq q r:=by
  unfold Gr Gq
  rw[wm,wm]
  by_cases a:r<q
  · have b:¬q<r:=Jl.mpr (Iq a)
    simp[a,b]
  · by_cases b:q<r<;>simp[a,b]
 have e:aC [.d (fr q),.d (fr r)]=VL.ret (.int (Gr (q.num*(r.den:Int)) (r.num*(q.den:Int))):HH):=e
 rw[z]at e
 exact e
theorem zx{a b:List Rat}:a.map fr=b.map fr↔a=b:=List.map_inj_right fun x y h=>iq h
noncomputable def bv:List W->(HH->Prop)->Prop:=fun ws Q=>∃(qs:List Rat)(b:Bool),ws=[.reel,.d (.list (qs.map fr)),.d (.bool b)]/\((∀q∈qs,Gd q)/\(qs.length<1000))/\∀q:Rat,(Gd q)->Q (fr q)
theorem bv.mono:∀ws (Q Q':HH->Prop),(∀d,Q d->Q' d)->bv ws Q->bv ws Q':=fun _ _ _ h_=>H0 fun _=>H0 fun _=>HP (HP fun q_ o_ ho_=>h_ _ (q_ o_ ho_))
theorem bv.len:∀ws (Q:HH->Prop),bv ws Q->ws.length=3:=fun _ _ h_=>by obtain⟨_,_,e_,_⟩:=h_;subst e_;rfl
theorem bv.eq(qs:List Rat)(b:Bool)(hq:∀q∈qs,Gd q)(hl:qs.length<1000):bv [.reel,.d (.list (qs.map fr)),.d (.bool b)]=Gs (anyM fun q:Rat=>Gd q) fun q=>VL.ret (fr q:HH):=by
 refine ai fun Q=>⟨?_,fun q_=>⟨qs,b,rfl,⟨hq,hl⟩,q_⟩⟩
 rintro⟨qs',b',e_,_,q_⟩
 simp_arith only[cL,bG,bJ,aO,aR,bP,zx]at e_
 obtain⟨rfl,rfl⟩:=e_
 exact q_
theorem gX:FnScope ["_law_feed_here", "_law_seen", "_law_is_first", "_law_way", "_law_some", "_law_bottom_here", "_law_top"] ["_law_feed_here", "_law_seen", "_law_is_first"] (defScope (EG 42)):=⟨rfl,rfl,rfl,by decide +kernel,rfl,by decide +kernel,by decide +kernel⟩
theorem d__law_number(Fn:FnIn K mg "_law_number" (EG 42) ["_law_feed_here", "_law_seen", "_law_is_first"])(Z:Bz mg)(d__law_draw:∀rl,Dfn P w K mg base rl "_law_draw" ["_law_feed_here", "_law_many"] 1 aU)(d__law_frac:∀rl,Dfn P w K mg base rl "_law_frac" ["_law_top", "_law_bottom_here"] 1 bf)   : Dfn P w K mg base rl "_law_number" ["_law_feed_here", "_law_seen", "_law_is_first"] 2 bv:=by
 have sc:=gX
 refine Dfn.of Fn sc (bv.mono) (bv.len) (fun cdv A outer s H E hr=>(ag (aj 3 sc.nd (al (d__law_draw _) (hr.mono (by decide)) (aa (vn 0) (aa ae ac))))
  (ag (bW (aF (cC hr.units) bX (ay _) (vn 3) ae) (ak (av (bU (aa ae (aa ae ac))))) ba)
  (ag (bW (G8.pb (eY (aF gu fR (ay _) (vn 3) ae) (df (aF (gt hr.units) bX (ay _) (vn 1) (cE ac))))) (ak (av (aQ (vn 1) (al (d__law_draw _) (hr.mono (by decide)) (aa (vn 0) (aa (cv Z.len_ (aa (vn 1) ac)) ac)))))) ba)
  (ag (aj 4 sc.nd (cE (aa ae (aa ae (aa ae (aa ae (aa ae (aa ae (aa ae (aa ae (aa ae (aa ae ac))))))))))))
  (ag (bW (de (vn 2)) (ak (aj 4 sc.nd (ju (cE (aa ae (aa ae (aa ae (aa ae (aa ae (aa ae (aa ae ac)))))))) (xp (cE (aa (v_sub (v_pow ae ae) ae) ac)) ae)))) ba)
  (ag (aj 5 sc.nd (aQ (vn 4) (al (d__law_draw _) (hr.mono (by decide)) (aa (vn 0) (aa ae ac)))))
  (ag (aj 6 sc.nd (v_mod (v_add (v_mul (al (d__law_draw _) (hr.mono (by decide)) (aa (vn 0) (aa (v_pow ae ae) ac))) (v_pow ae ae)) (al (d__law_draw _) (hr.mono (by decide)) (aa (vn 0) (aa (v_pow ae ae) ac)))) (vn 5)))
  (ak (av (al (d__law_frac _) (hr.mono (by decide)) (aa (aQ (cE (aa (vn 6) (aa (vn 6) (aa (v_sub (vn 5) ae) (aa ae ac))))) (al (d__law_draw _) (hr.mono (by decide)) (aa (vn 0) (aa ae ac)))) (aa (vn 5) ac))))))))))))) ?_
 rintro ws Q ⟨qs,b,rfl,⟨hq,hl⟩,hQ⟩
 refine az ?_
 have sz:=Is
 simp_arith only[ah,af,aY,aZ,aA,a_,aB,au,HD,aU.eq]
 (with_reducible (first|refine aE fun w hw=>?_|refine aK fun w hw=>?_))
 have s0:IW (.list [])=true:=rfl
 have sf:=mL qs
 have ev:IB (.list (qs.map fr)) (.list [])=qs.isEmpty:=by rw[wv];cases qs<;>rfl
 have eqi:∀i j:Int,IB (.int i) (.int j)=(i==j):=fun i j=>by simp[IB]
 have g0:Gd 0:=⟨⟨by decide,by decide⟩,ID,by decide⟩
 simp_arith only[ah,af,aY,aZ,aA,a_,aB,au,HD,aU.eq,s0,sf,ev,eqi]
 refine dA (fun _=>aw (hQ 0 g0)) fun _=>?_
 refine dA (fun hc=>?_) fun _=>?_
 · have hn:qs≠[]:=by rintro rfl;simp at hc
   have hz:(0:Int)<(qs.length:Int):=by have:=NE.mpr hn;omega
   have hb:(qs.length:Int)<2^60:=by omega
   simp_arith only[ah,af,aY,aZ,aA,a_,aB,au,HD,aU.eq]
   (with_reducible (first|refine aE fun j hj=>?_|refine aK fun j hj=>?_))
   obtain⟨r,er,mr⟩:=qw (xs:=qs) hj.1 hj.2
   rw[cA,er]
   exact aw (hQ r (hq r mr))
 · have c12:zW 10 12:=⟨by decide,by decide,by decide⟩
   have c6:zW 10 6:=⟨by decide,by decide,by decide⟩
   refine dA (fun _=>?_) fun _=>?_
   · refine cU c12 ?_
     (with_reducible (first|refine aE fun t ht=>?_|refine aK fun t ht=>?_))
     refine EX (bQ (xs:=[2,3,5,12,97,1000,1000,10^JD 12-11,10^JD 12-11,10^JD 12-11]) (enc:=Iw) (fun y:Int=>2<=y/\y<2^41) rfl ht.1 (by simpa using ht.2) (by decide) fun y hy=>?_)
     have y0:y≠0:=by omega
     have h6a:(0:Int)<10^JD 6:=by decide
     have h6b:(10:Int)^JD 6<2^60:=by decide
     have cm:∀z:Int,aN z (10^JD 6):=fun z=>.rt (by decide)
     simp_arith only[ah,af,aY,aZ,aA,a_,aB,au,HD,aU.eq,c6,cm]
     (with_reducible (first|refine aE fun u hu=>?_|refine aK fun u hu=>?_))
     try simp_arith only[ah,af,aY,aZ,aA,a_,aB,au,HD,aU.eq]
     (with_reducible (first|refine aE fun v hv=>?_|refine aK fun v hv=>?_))
     have hx0:=JM (u*10^JD 6+v) (show 0<y by omega)
     have hx1:=Kt (u*10^JD 6+v) (show 0<y by omega)
     generalize (u*10^JD 6+v).fmod y=x at hx0 hx1 ⊢
     try simp_arith only[ah,af,aY,aZ,aA,a_,aB,au,HD,aU.eq]
     (with_reducible (first|refine aE fun e he=>?_|refine aK fun e he=>?_))
     have hb:0<y:=by omega
     have hz:y.natAbs<2^8000:=HL (show y.natAbs<2^41 by omega) (HS (by decide) (by decide))
     refine bQ (xs:=[x,x,y-1,1]) (enc:=Iw) (fun z:Int=>0<=z/\z<y) rfl he.1 (by simpa using he.2) (by intro z hz;simp at hz;omega) fun z hz1=>?_
     simp_arith only[ah,af,bf.eq]
     exact aw (hQ _ ⟨mU hb (by omega) (by omega),oG hb hz1.1,tE hb hz1.2⟩)
   · (with_reducible (first|refine aE fun t ht=>?_|refine aK fun t ht=>?_))
     refine EX (bQ (xs:=[2,3,4,5,6,8,12,97,7,11]) (enc:=Iw) (fun y:Int=>2<=y/\y<2^41) rfl ht.1 (by simpa using ht.2) (by decide) fun y hy=>?_)
     have y0:y≠0:=by omega
     have h6a:(0:Int)<10^JD 6:=by decide
     have h6b:(10:Int)^JD 6<2^60:=by decide
     have cm:∀z:Int,aN z (10^JD 6):=fun z=>.rt (by decide)
     simp_arith only[ah,af,aY,aZ,aA,a_,aB,au,HD,aU.eq,c6,cm]
     (with_reducible (first|refine aE fun u hu=>?_|refine aK fun u hu=>?_))
     try simp_arith only[ah,af,aY,aZ,aA,a_,aB,au,HD,aU.eq]
     (with_reducible (first|refine aE fun v hv=>?_|refine aK fun v hv=>?_))
     have hx0:=JM (u*10^JD 6+v) (show 0<y by omega)
     have hx1:=Kt (u*10^JD 6+v) (show 0<y by omega)
     generalize (u*10^JD 6+v).fmod y=x at hx0 hx1 ⊢
     try simp_arith only[ah,af,aY,aZ,aA,a_,aB,au,HD,aU.eq]
     (with_reducible (first|refine aE fun e he=>?_|refine aK fun e he=>?_))
     have hb:0<y:=by omega
     have hz:y.natAbs<2^8000:=HL (show y.natAbs<2^41 by omega) (HS (by decide) (by decide))
     refine bQ (xs:=[x,x,y-1,1]) (enc:=Iw) (fun z:Int=>0<=z/\z<y) rfl he.1 (by simpa using he.2) (by intro z hz;simp at hz;omega) fun z hz1=>?_
     simp_arith only[ah,af,bf.eq]
     exact aw (hQ _ ⟨mU hb (by omega) (by omega),oG hb hz1.1,tE hb hz1.2⟩)
noncomputable def Pg(s:Nat)(ps:List (List Rat)):Prop:=∀p∈ps,p.length=s/\∀q∈p,Gd q
noncomputable def Ak(s m:Nat)(ps:List (List Rat)):Prop:=1<=ps.length/\ps.length<=m+2/\Pg s ps/\∃bs:List (List Rat),bs.length<=m/\∀p∈ps,p∈bs
noncomputable def t_(cols:List (List Rat)):List (List HH):=cols.map fun c=>c.map fr
theorem t8{cols:List (List Rat)}(h:n<cols.length):(t_ cols)[n]?=some (cols[n].map fr):=by unfold t_;rw[Jd,Ia h];rfl
theorem wF{cols:List (List Rat)}(h:n<cols.length):(t_ cols).set n (cols[n].map fr++[fr q])=t_ (cols.set n (cols[n]++[q])):=by unfold t_;rw[List.map_set,Jk];rfl
noncomputable def Dj(s i n:Nat)(cols:List (List Rat)):Prop:=cols.length=s/\(∀j (h:j<cols.length),cols[j].length<=i+(if j<n then 1 else 0))/\∀c∈cols,∀q∈c,Gd q
theorem y7{m:(W->Prop)->Prop}{Q:W->Prop}(h:∀Q':W->Prop,(∀b,Q' (.d (.bool b)))->m Q')(fin:∀b,Q (.d (.bool b))):m Q:=h Q fin
theorem jH{y:HH}(h:(bi 0 n)[i]?=some y):i<n/\y = .int (i:Int):=by
 have e:bi 0 n=(IV n).map fun j:Nat=>Iw (0+(j:Int)):=rfl
 rw[e,Jd]at h
 cases q:(IV n)[i]? with
 | none=>rw[q]at h;cases h
 | some z =>
   rw[q]at h
   obtain⟨hl,hz⟩:=Iy.mp q
   rw[LF]at hl
   rw[List.getElem_range]at hz
   subst hz
   cases h
   exact⟨hl,by show Iw (0+(i:Int))=_;rw[Int.zero_add]⟩
noncomputable def bu:List W->(HH->Prop)->Prop:=fun ws Q=>∃(s m:Int),ws=[.reel,.d (.int s),.d (.int m)]/\((1<=s)/\(s<=4)/\(2<=m)/\(m<=6))/\∀ps:List (List Rat),(Ak s.toNat m.toNat ps)->Q (ptsQ ps)
theorem bu.mono:∀ws (Q Q':HH->Prop),(∀d,Q d->Q' d)->bu ws Q->bu ws Q':=fun _ _ _ h_=>H0 fun _=>H0 fun _=>HP (HP fun q_ o_ ho_=>h_ _ (q_ o_ ho_))
theorem bu.len:∀ws (Q:HH->Prop),bu ws Q->ws.length=3:=fun _ _ h_=>by obtain⟨_,_,e_,_⟩:=h_;subst e_;rfl
theorem bu.eq(s m:Int)(s1:1<=s)(s4:s<=4)(m1:2<=m)(m6:m<=6):bu [.reel,.d (.int s),.d (.int m)]=Gs (anyM fun ps:List (List Rat)=>Ak s.toNat m.toNat ps) fun ps=>VL.ret (ptsQ ps:HH):=by
 refine ai fun Q=>⟨?_,fun q_=>⟨s,m,rfl,⟨s1,s4,m1,m6⟩,q_⟩⟩
 rintro⟨s',m',e_,_,q_⟩
 simp_arith only[and_true]at e_
 obtain⟨rfl,rfl⟩:=e_
 exact q_
theorem gW:FnScope ["_law_feed_here", "_law_s", "_law_most", "_law_columns", "_law_found", "_law_j", "_law_point", "_law_k", "_law_x", "_law_again"] ["_law_feed_here", "_law_s", "_law_most"] (defScope (EG 43)):=⟨rfl,rfl,rfl,by decide +kernel,rfl,by decide +kernel,by decide +kernel⟩
theorem d__law_points(Fn:FnIn K mg "_law_points" (EG 43) ["_law_feed_here", "_law_s", "_law_most"])(Z:Bz mg)(d__law_draw:∀rl,Dfn P w K mg base rl "_law_draw" ["_law_feed_here", "_law_many"] 1 aU)(d__law_number:∀rl,Dfn P w K mg base rl "_law_number" ["_law_feed_here", "_law_seen", "_law_is_first"] 2 bv)   : Dfn P w K mg base rl "_law_points" ["_law_feed_here", "_law_s", "_law_most"] 3 bu:=by
 have sc:=gW
 refine Dfn.of Fn sc (bu.mono) (bu.len) (fun cdv A outer s H E hr=>(Bf 3 sc.nd ["_law_k"] [none] rfl (bI Z.range_ (aa (vn 1) ac)) (fun _=>aq 0 (show Js (["_law_k"]:List Str) by decide +kernel)) (dE (wN (jp 4 sc.nd (cE ac))) (dE (zb IZ rfl (bI Z.range_ (aa (v_add ae (al (d__law_draw _) (hr.mono (by decide)) (aa (vn 0) (aa (v_sub (vn 2) ae) ac)))) ac)) (aq 5 sc.nd) (dE (wN (aj 6 sc.nd (bU ac))) (dE (zb IZ rfl (bI Z.range_ (aa (vn 1) ac)) (aq 7 sc.nd) (dE (Bj 8 0 3 7 sc.nd (d__law_number _) (hr.mono (by decide)) (v_and (eR (cC hr.units) bX (ay _) (vn 4) (cE ac)) (nK (eR (cC hr.units) bX (ay _) (vn 7) ae)))) (dE (Bk 3 7 8) (dE (wN (aj 6 sc.nd (nM (vn 6) (bU (aa (vn 8) ac))))) vX)))) (dE (wN (jr 4 (aa (vn 6) ac))) vX)))) (dE (wN (b_ [5,9] IZ rfl (bI Z.range_ (aa (al (d__law_draw _) (hr.mono (by decide)) (aa (vn 0) (aa ae ac))) ac)) (aq 5 sc.nd) (ag (aj 9 sc.nd (aQ (vn 4) (al (d__law_draw _) (hr.mono (by decide)) (aa (vn 0) (aa (cv Z.len_ (aa (vn 4) ac)) ac)))))
  (ak (wY 4 (aa (al (d__law_draw _) (hr.mono (by decide)) (aa (vn 0) (aa (v_add (cv Z.len_ (aa (vn 4) ac)) ae) ac))) (aa (vn 9) ac))))))) (dE (wN (av (eQ Z.tuple_ (aa (vn 4) ac)))) vX)))))) ?_
 rintro ws Q ⟨s,m,rfl,⟨s1,s4,m1,m6⟩,hQ⟩
 have sz:=Is
 have gs : -(2^62)<=s/\s<2^62:=by omega
 unfold FM
 have e0:Gb (jv (uC 1) sU) [some .reel,some (.d (.int s)),some (.d (.int m)),none,none,none,none,none,none,none]=VL.ret (bi 0 s.toNat):=by
  simp_arith only[ah,af]
 refine(show Gb (jv (uC 1) sU) [some .reel,some (.d (.int s)),some (.d (.int m)),none,none,none,none,none,none,none] _ from ?_)
 rw[e0]
 refine⟨vU rfl,fun x=>by show Le [none] [some (.d x)];rw[le_cn,le_nil];trivial,by rw[ca];omega,fun a=>ip ?_⟩
 rw[ca]
 simp_arith only[ah,af]
 refine pe ?_
 dsimp only
 refine cS ?_
 have e1:Gb (jv (Ez (Gj fun i j=>Iw (i+j)) (vC (Iw 2)) (Av aU (jv (uC 0) (jv (Ez (Gj fun i j=>Iw (i-j)) (uC 2) (vC (Iw 1))) sU)))) sU) [some .reel,some (.d (.int s)),some (.d (.int m)),some (.vv (.ref a)),some (.ml []),none,none,none,none,none]=Gs (anyM fun k:Int=>0<=k/\k<m-1) fun k=>Ge (-(2^62)<=2+k/\2+k<2^62) (VL.ret (bi 0 (2+k).toNat)):=by
  have g1:0<m-1:=by omega
  have g2:m-1<2^60:=by omega
  simp_arith only[ah,af,aU.eq]
 refine pj ?_
 rw[e1]
 intro k hk
 refine⟨by omega,fun i xss ρ=>∃(cols bs:List (List Rat))(o5 o6 o7 o8:Option W),xss=t_ cols/\Dj s.toNat i 0 cols/\bs.length=i/\Pg s.toNat bs/\ρ=[some .reel,some (.d (.int s)),some (.d (.int m)),some (.vv (.ref a)),some (.ml (bs.map Fp)),o5,o6,o7,o8,none],?_,?_,?_⟩
 · exact⟨IC s.toNat [],[],none,none,none,none,by simp[t_],⟨by simp,by simp,by simp⟩,rfl,by simp[Pg],rfl⟩
 · rintro i y xss ρ ey ⟨cols,bs,o5,o6,o7,o8,rfl,hc,hb,hp,rfl⟩
   obtain⟨hi,rfl⟩:=jH ey
   refine zt ?_
   dsimp only
   refine cS (ip ?_)
   simp_arith only[ah,af]
   refine pe ?_
   dsimp only
   refine cS ?_
   refine pj ?_
   have e2:Gb (jv (uC 1) sU) [some .reel,some (.d (.int s)),some (.d (.int m)),some (.vv (.ref a)),some (.ml (bs.map Fp)),some (.d (.int (i:Int))),some (.d (.tuple [])),o7,o8,none]=VL.ret (bi 0 s.toNat):=by
    simp_arith only[ah,af]
   rw[e2]
   refine⟨fun n xss ρ=>∃(cols:List (List Rat))(pt:List Rat)(o7 o8:Option W),xss=t_ cols/\Dj s.toNat i n cols/\pt.length=n/\(∀q∈pt,Gd q)/\ρ=[some .reel,some (.d (.int s)),some (.d (.int m)),some (.vv (.ref a)),some (.ml (bs.map Fp)),some (.d (.int (i:Int))),some (.d (Fp pt)),o7,o8,none],⟨cols,[],o7,o8,rfl,hc,rfl,by simp,rfl⟩,?_,?_⟩
   · rintro n y xss ρ ey ⟨cols,pt,o7,o8,rfl,⟨cl,c1,c2⟩,pl,hpt,rfl⟩
     obtain⟨hn,rfl⟩:=jH ey
     have hnl:n<cols.length:=by omega
     refine zt ?_
     dsimp only
     refine cS ⟨rfl,rfl,n,_,rfl,t8 hnl,?_⟩
     refine y7 (fun Q' hQ'=>?_) fun bb=>⟨bb,rfl,?_⟩
     · have s0:IW (.list [])=true:=rfl
       have sp:=mK bs
       have eqi:∀i j:Int,IB (.int i) (.int j)=(i==j):=fun i j=>by simp[IB]
       simp_arith only[ah,af,s0,sp,eqi]
       first|exact hQ' _|(split<;>exact hQ' _)|(refine dA (fun _=>?_) (fun _=>?_)<;>exact hQ' _)
     · have hq:∀q∈cols[n],Gd q:=c2 _ (Ji hnl)
       have hl:cols[n].length<1000:=by have:=c1 n hnl;rw[if_neg (by omega)]at this;omega
       rw[bv.eq _ _ hq hl]
       intro q hqq
       refine⟨⟨q.num,q.den,rfl⟩,?_⟩
       dsimp only
       refine cS ⟨rfl,n,_,_,rfl,t8 hnl,rfl,by rw[HW];omega,?_⟩
       rw[wF hnl]
       dsimp only
       refine cS (ip ?_)
       have pl4:pt.length+1<=sizeLine:=by omega
       simp_arith only[ah,af,HD]
       refine pe ?_
       dsimp only
       refine lG ?_
       dsimp only
       refine⟨cols.set n (cols[n]++[q]),pt++[q],some (.d (.int (n:Int))),some (.d (fr q)),rfl,⟨by simp[cl],fun j hj=>?_,fun c mc r mr=>?_⟩,by simp[pl],fun r mr=>?_,by simp[Fp,Jk]⟩
       · by_cases e:n=j
         · subst e
           rw[List.getElem_set_self,Ic,if_pos (by omega)]
           have:=c1 n hnl
           rw[if_neg (by omega)]at this
           simp;omega
         · rw[List.getElem_set_ne e]
           have:=c1 j (by simpa using hj)
           by_cases l:j<n
           · rw[if_pos l]at this;rw[if_pos (by omega)];exact this
           · rw[if_neg l]at this;rw[if_neg (by omega)];exact this
       · rcases List.mem_or_eq_of_mem_set mc with h|h
         · exact c2 c h r mr
         · subst h
           rcases Ip.mp mr with h|h
           · exact hq r h
           · cases Ij.mp h;exact hqq
       · rcases Ip.mp mr with h|h
         · exact hpt r h
         · cases Ij.mp h;exact hqq
   · rintro xss ρ ⟨cols,pt,o7,o8,rfl,hc,pl,hpt,rfl⟩
     rw[ca]at pl hc
     dsimp only
     refine cS (ip ?_)
     have bl:bs.length<sizeLine:=by omega
     simp_arith only[ah,af,HD]
     refine pe ?_
     dsimp only
     refine lG ?_
     dsimp only
     refine⟨cols,bs++[pt],some (.d (.int (i:Int))),some (.d (Fp pt)),o7,o8,rfl,⟨hc.1,fun j hj=>?_,hc.2.2⟩,by simp[hb],fun p mp=>?_,by simp[Jk]⟩
     · have:=hc.2.1 j hj
       split at this<;>simp<;>omega
     · rcases Ip.mp mp with h|h
       · exact hp p h
       · cases Ij.mp h;exact⟨pl,hpt⟩
 · rintro xss ρ ⟨cols,bs,o5,o6,o7,o8,rfl,hc,hb,hp,rfl⟩
   rw[ca]at hb
   dsimp only
   refine cS (ip ?_)
   simp_arith only[ah,af,aU.eq]
   intro c hc3
   refine⟨by omega,BH ?_⟩
   refine i6 (fun i ρ=>∃ps:List (List Rat),1<=ps.length/\ps.length<=bs.length+i/\(∀p∈ps,p∈bs)/\ρ=[some .reel,some (.d (.int s)),some (.d (.int m)),some (.vv (.ref a)),some (.ml (ps.map Fp)),none,o6,o7,o8,none]) ⟨bs,by omega,by omega,fun p h=>h,rfl⟩ ?_ ?_
   · rintro i hi ρ ⟨ps,p1,p2,pm,rfl⟩ K hK
     have g1:0<(ps.length:Int):=by omega
     have g2:(ps.length:Int)<2^60:=by omega
     have g3:0<(ps.length:Int)+1:=by omega
     have g4:(ps.length:Int)+1<2^60:=by omega
     simp_arith only[ah,af,HD,aU.eq]
     (with_reducible (first|refine aE fun e he=>?_|refine aK fun e he=>?_))
     obtain⟨r,er,mr⟩:=qw (xs:=ps) he.1 he.2
     have er2:atI (ps.map Fp) e=some (Fp r):=by rw[cA,er];rfl
     simp_arith only[ah,af,HD,aU.eq,er2]
     intro u hu
     have ls:ps.length<sizeLine:=by omega
     simp_arith only[ah,af,HC]
     have ei:insAt (ps.map Fp) u.toNat (Fp r)=(insAt ps u.toNat r).map Fp:=by unfold insAt;simp[Jk,MN,List.map_drop]
     rw[ei]
     have ml:(insAt ps u.toNat r).length=ps.length+1:=by unfold insAt;simp;omega
     have mm:∀p∈insAt ps u.toNat r,p∈bs:=fun p mp=>by
      have:p=r\/p∈ps:=by
       unfold insAt at mp
       simp only[Ip,Ih,MV,or_false]at mp
       rcases mp with h|h
       · first|exact .inr (Lc h)|(rcases h with h|h;exact .inr (Lc h);exact .inl h)
       · first|exact .inr (Nr h)|(rcases h with h|h;exact .inl h;exact .inr (Nr h))
      rcases this with rfl|h
      · exact pm _ mr
      · exact pm p h
     exact hK _ (ck ⟨insAt ps u.toNat r,by omega,by omega,mm,rfl⟩)
   · rintro ρ ⟨ps,p1,p2,pm,rfl⟩
     refine pe ?_
     dsimp only
     refine cS (ip ?_)
     have ls:ps.length<=sizeLine:=by omega
     simp_arith only[ah,af,HD,cY]
     exact Bg ⟨_,rfl,hQ ps ⟨p1,by omega,fun p mp=>hp p (pm p mp),bs,by omega,pm⟩⟩
noncomputable def sD(f:Nat):Str:=if f=0 then "corner" else if f=1 then "inner" else "round"
noncomputable def mst(f s:Nat):Nat:=((if f=0 then [6,6,4,2]else if f=1 then [6,4,2,1]else [6,2,1,1]):List Nat).getD (s-1) 1
noncomputable def Wd(f s:Nat)(ps:List (List Rat)):Prop:=f<3/\1<=s/\s<=4/\¬(f=2/\s=4)/\Ak s (mst f s) ps
noncomputable def bO:List W->(HH->Prop)->Prop:=fun ws Q=>ws=[.reel]/\(True)/\∀z:Nat×Nat×List (List Rat),(Wd z.1 z.2.1 z.2.2)->Q (.tuple [.str (sD z.1),ptsQ z.2.2])
theorem bO.mono:∀ws (Q Q':HH->Prop),(∀d,Q d->Q' d)->bO ws Q->bO ws Q':=fun _ _ _ h_=>HP (HP fun q_ o_ ho_=>h_ _ (q_ o_ ho_))
theorem bO.len:∀ws (Q:HH->Prop),bO ws Q->ws.length=1:=fun _ _ h_=>by obtain⟨e_,_⟩:=h_;subst e_;rfl
theorem bO.eq   : bO [.reel]=Gs (anyM fun z:Nat×Nat×List (List Rat)=>Wd z.1 z.2.1 z.2.2) fun z=>VL.ret (.tuple [.str (sD z.1),ptsQ z.2.2]:HH):=by
 refine ai fun Q=>⟨?_,fun q_=>⟨rfl,trivial,q_⟩⟩
 rintro⟨e_,_,q_⟩
 simp_arith only[and_true]at e_
 exact q_
theorem iU:FnScope ["_law_feed_here", "_law_s", "_law_family", "_law_most"] ["_law_feed_here"] (defScope (EG 44)):=⟨rfl,rfl,rfl,by decide +kernel,rfl,by decide +kernel,by decide +kernel⟩
theorem d__law_world(Fn:FnIn K mg "_law_world" (EG 44) ["_law_feed_here"])(Z:Bz mg)(d__law_draw:∀rl,Dfn P w K mg base rl "_law_draw" ["_law_feed_here", "_law_many"] 1 aU)(d__law_points:∀rl,Dfn P w K mg base rl "_law_points" ["_law_feed_here", "_law_s", "_law_most"] 3 bu)   : Dfn P w K mg base rl "_law_world" ["_law_feed_here"] 4 bO:=by
 have sc:=iU
 refine Dfn.of Fn sc (bO.mono) (bO.len) (fun cdv A outer s H E hr=>(ag (aj 1 sc.nd (aQ (cE (aa ae (aa ae (aa ae (aa ae (aa ae (aa ae ac))))))) (al (d__law_draw _) (hr.mono (by decide)) (aa (vn 0) (aa ae ac)))))
  (ag (aj 2 sc.nd (aQ (cE (aa aH (aa aH (aa aH ac)))) (al (d__law_draw _) (hr.mono (by decide)) (aa (vn 0) (aa ae ac)))))
  (ag (bW (aF (cC hr.units) bX (ay _) (vn 1) ae) (ak (aj 2 sc.nd aH)) (ak (bW (G8.pb (eY (aF (cC hr.units) bX (ay _) (vn 1) ae) (df (aF dN cu (ay _) (vn 2) aH)))) (ak (aj 2 sc.nd aH)) ba)))
  (ag (aj 3 sc.nd (aQ (kf (hr.mono (Ix _)) (by decide +kernel) (bU (aa ae (aa ae (aa ae (aa ae ac))))) (bU (aa ae (aa ae (aa ae ac)))) (bU (aa ae (aa ae ac))) (vn 2)) (v_sub (vn 1) ae)))
  (ak (av (bU (aa (vn 2) (aa (al (d__law_points _) (hr.mono (by decide)) (aa (vn 0) (aa (vn 1) (aa (vn 3) ac)))) ac)))))))))) ?_
 rintro ws Q ⟨rfl,_,hQ⟩
 refine az ?_
 have sz:=Is
 simp_arith only[ah,af,aY,aZ,aA,a_,aB,au,HD,aU.eq]
 (with_reducible (first|refine aE fun a ha=>?_|refine aK fun a ha=>?_))
 refine EX (bQ (xs:=[1,2,2,3,1,4]) (enc:=Iw) (fun y:Int=>1<=y/\y<=4) rfl ha.1 (by simpa using ha.2) (by decide) fun s hs=>?_)
 simp_arith only[ah,af,aY,aZ,aA,a_,aB,au,HD,aU.eq]
 (with_reducible (first|refine aE fun b hb=>?_|refine aK fun b hb=>?_))
 refine EX (bQ (xs:=[0,1,2]) (enc:=fun f:Nat=>KP (sD f)) (fun f:Nat=>f<3) rfl hb.1 (by simpa using hb.2) (by decide) fun f hf=>?_)
 have q1:(HG "inner" == HG "corner")=false:=by decide +kernel
 have q2:(HG "round" == HG "corner")=false:=by decide +kernel
 have q3:(HG "round" == HG "inner")=false:=by decide +kernel
 have n1:decide (HG "corner" = HG "round")=false:=by decide +kernel
 have n2:decide (HG "inner" = HG "round")=false:=by decide +kernel
 have n3:decide (HG "round" = HG "round")=true:=by decide +kernel
 have f0:sD 0=HG "corner" := rfl
 have f1:sD 1=HG "inner" := rfl
 have f2:sD 2=HG "round" := rfl
 have lk0:∀a b c:HH,JB (HG "corner") [(HG "corner", a),(HG "inner", b),(HG "round", c)]=some a:=fun a b c=>by simp[JB]
 have lk1:∀a b c:HH,JB (HG "inner") [(HG "corner", a),(HG "inner", b),(HG "round", c)]=some b:=fun a b c=>by simp[JB,q1]
 have lk2:∀a b c:HH,JB (HG "round") [(HG "corner", a),(HG "inner", b),(HG "round", c)]=some c:=fun a b c=>by simp[JB,q2,q3]
 have eqi:∀i j:Int,IB (.int i) (.int j)=(i==j):=fun i j=>by simp[IB]
 have it:∀a b c d:Int,VL.itemAt (.tuple [.int a,.int b,.int c,.int d]) 0=some (.int a)/\VL.itemAt (.tuple [.int a,.int b,.int c,.int d]) 1=some (.int b)/\VL.itemAt (.tuple [.int a,.int b,.int c,.int d]) 2=some (.int c)/\VL.itemAt (.tuple [.int a,.int b,.int c,.int d]) 3=some (.int d):=fun a b c d=>⟨rfl,rfl,rfl,rfl⟩
 have it3:∀a b c:Int,VL.itemAt (.tuple [.int a,.int b,.int c]) 0=some (.int a)/\VL.itemAt (.tuple [.int a,.int b,.int c]) 1=some (.int b)/\VL.itemAt (.tuple [.int a,.int b,.int c]) 2=some (.int c):=fun a b c=>⟨rfl,rfl,rfl⟩
 have it2:∀a b:Int,VL.itemAt (.tuple [.int a,.int b]) 0=some (.int a)/\VL.itemAt (.tuple [.int a,.int b]) 1=some (.int b):=fun a b=>⟨rfl,rfl⟩
 have fin:∀(f s:Nat)(x:Str),sD f=x->f<3->1<=s->s<=4->¬(f=2/\s=4)->∀ps,Ak s (mst f s) ps->VL.ret (Fl.rt (W.d (Kd [.str x,ptsQ ps]))) (ww Q):=fun f s x e h1 h2 h3 h4 ps hp=>by subst e;exact aw (hQ (f,s,ps) ⟨h1,h2,h3,h4,hp⟩)
 obtain rfl|rfl|rfl:f=0\/f=1\/f=2:=by omega
 all_goals obtain rfl|rfl|rfl|rfl:s=1\/s=2\/s=3\/s=4:=by omega
 all_goals simp_arith only[ah,af,aY,aZ,aA,a_,aB,au,HD,aU.eq,bu.eq,eB,f0,f1,f2,lk0,lk1,lk2,n1,n2,n3,eqi,it,it3,it2]
 all_goals intro ps hp
 · exact fin 0 1 _ f0 (by decide) (by decide) (by decide) (by decide) ps hp
 · exact fin 0 2 _ f0 (by decide) (by decide) (by decide) (by decide) ps hp
 · exact fin 0 3 _ f0 (by decide) (by decide) (by decide) (by decide) ps hp
 · exact fin 0 4 _ f0 (by decide) (by decide) (by decide) (by decide) ps hp
 · exact fin 1 1 _ f1 (by decide) (by decide) (by decide) (by decide) ps hp
 · exact fin 1 2 _ f1 (by decide) (by decide) (by decide) (by decide) ps hp
 · exact fin 1 3 _ f1 (by decide) (by decide) (by decide) (by decide) ps hp
 · exact fin 0 4 _ f0 (by decide) (by decide) (by decide) (by decide) ps hp
 · exact fin 2 1 _ f2 (by decide) (by decide) (by decide) (by decide) ps hp
 · exact fin 2 2 _ f2 (by decide) (by decide) (by decide) (by decide) ps hp
 · exact fin 1 3 _ f1 (by decide) (by decide) (by decide) (by decide) ps hp
 · exact fin 0 4 _ f0 (by decide) (by decide) (by decide) (by decide) ps hp
noncomputable def aS:List W->(HH->Prop)->Prop:=fun ws Q=>∃(i j:Int),ws=[.d (.int i),.d (.int j)]/\(True)/\Q (.int (J3 i j:Nat))
theorem aS.mono:∀ws (Q Q':HH->Prop),(∀d,Q d->Q' d)->aS ws Q->aS ws Q':=fun _ _ _ h_=>H0 fun _=>H0 fun _=>HP (HP (h_ _))
theorem aS.len:∀ws (Q:HH->Prop),aS ws Q->ws.length=2:=fun _ _ h_=>by obtain⟨_,_,e_,_⟩:=h_;subst e_;rfl
theorem aS.eq(i j:Int)  : aS [.d (.int i),.d (.int j)]=VL.ret (.int (J3 i j:Nat):HH):=by
 refine ai fun Q=>⟨?_,fun q_=>⟨i,j,rfl,trivial,q_⟩⟩
 rintro⟨i',j',e_,_,q_⟩
 simp_arith only[and_true]at e_
 obtain⟨rfl,rfl⟩:=e_
 exact q_
theorem eT:FnScope ["one", "other"] ["one", "other"] (defScope (EG 7)):=⟨rfl,rfl,rfl,by decide +kernel,rfl,by decide +kernel,by decide +kernel⟩
theorem d_common_divisor(Fn:FnIn K mg "common_divisor" (EG 7) ["one", "other"])(Z:Bz mg)    : Dfn P w K mg base rl "common_divisor" ["one", "other"] 1 aS:=by
 have sc:=eT
 refine Dfn.of Fn sc (aS.mono) (aS.len) (fun cdv A outer s H E hr=>(ag (jo [] IZ (aF (gt hr.units) bX (ay _) (vn 1) ae) (ak (lh 0 1 rfl sc.nd (aa (vn 1) (aa (v_mod (vn 0) (vn 1)) ac)))))
  (ak (av (xu Z.abs_ (aa (vn 0) ac)))))) ?_
 rintro ws Q ⟨i,j,rfl,_,hQ⟩
 refine az ?_
 simp_arith only[af]
 refine lc (σ:=Int×Int) (fun s=>[some (.d (.int s.1)),some (.d (.int s.2))]) (fun s=>!(s.2==0)) (fun s=>(s.2,s.1.fmod s.2)) (fun s=>s.2.natAbs) (fun s=>J3 s.1 s.2=J3 i j) (i,j) rfl rfl ?_ ?_ ?_
 · intro s _
   simp_arith only[af]
 · intro s e c
   have hc:s.2≠0:=by simpa using c
   refine⟨by rw[lR];exact e,gE hc,_,?_,rfl⟩
   simp_arith only[ah,af]
 · intro s e c
   have hc:s.2=0:=by simpa using c
   simp_arith only[af]
   rw[hc,Int.gcd_zero_right]at e
   refine aw ?_
   have:(if s.1<0 then -s.1 else s.1)=((J3 i j:Nat):Int):=by rw[<- e];split<;>omega
   rw[this]
   exact hQ
noncomputable def bC:List W->(HH->Prop)->Prop:=fun ws Q=>∃(a b:Int),ws=[.d (.int a),.d (.int b)]/\((0<b)/\(b.natAbs<2^8000))/\Q (fr (qd a b))
theorem bC.mono:∀ws (Q Q':HH->Prop),(∀d,Q d->Q' d)->bC ws Q->bC ws Q':=fun _ _ _ h_=>H0 fun _=>H0 fun _=>HP (HP (h_ _))
theorem bC.len:∀ws (Q:HH->Prop),bC ws Q->ws.length=2:=fun _ _ h_=>by obtain⟨_,_,e_,_⟩:=h_;subst e_;rfl
theorem bC.eq(a b:Int)(hb:0<b)(hz:b.natAbs<2^8000):bC [.d (.int a),.d (.int b)]=VL.ret (fr (qd a b):HH):=by
 refine ai fun Q=>⟨?_,fun q_=>⟨a,b,rfl,⟨hb,hz⟩,q_⟩⟩
 rintro⟨a',b',e_,_,q_⟩
 simp_arith only[and_true]at e_
 obtain⟨rfl,rfl⟩:=e_
 exact q_
theorem ko:FnScope ["top", "bottom", "divisor"] ["top", "bottom"] (defScope (EG 8)):=⟨rfl,rfl,rfl,by decide +kernel,rfl,by decide +kernel,by decide +kernel⟩
theorem d_fraction(Fn:FnIn K mg "fraction" (EG 8) ["top", "bottom"])(Z:Bz mg)(d_common_divisor:∀rl,Dfn P w K mg base rl "common_divisor" ["one", "other"] 1 aS)   : Dfn P w K mg base rl "fraction" ["top", "bottom"] 2 bC:=by
 have sc:=ko
 refine Dfn.of Fn sc (bC.mono) (bC.len) (fun cdv A outer s H E hr=>(ag (bW (aF (cC hr.units) bX (ay _) (vn 1) ae) (ak lj) ba)
  (ag (aj 2 sc.nd (al (d_common_divisor _) (hr.mono (by decide)) (aa (vn 0) (aa (vn 1) ac))))
  (ag (bW (aF gu fR (ay _) (vn 1) ae) (ak (aj 2 sc.nd (mF (vn 2)))) ba)
  (ak (av (bU (aa (v_div (vn 0) (vn 2)) (aa (v_div (vn 1) (vn 2)) ac))))))))) ?_
 rintro ws Q ⟨a,b,rfl,⟨hb,hz⟩,hQ⟩
 refine az ?_
 have c1:fI a (J3 a b:Int):=ja hb hz _
 have c2:fI b (J3 a b:Int):=ja hb hz _
 have h0:(b==0)=false:=by simp;omega
 have h1:decide (b<0)=false:=by simp;omega
 simp_arith only[ah,af,aS.eq,h0,h1]
 rw[tP hb]
 exact aw hQ
noncomputable def gq:List W->(HH->Prop)->Prop:=fun ws Q=>∃(q r:Rat),ws=[.d (fr q),.d (fr r)]/\((Fm 2000 q)/\(Fm 2000 r))/\Q (fr (q+r))
theorem gq.mono:∀ws (Q Q':HH->Prop),(∀d,Q d->Q' d)->gq ws Q->gq ws Q':=fun _ _ _ h_=>H0 fun _=>H0 fun _=>HP (HP (h_ _))
theorem gq.len:∀ws (Q:HH->Prop),gq ws Q->ws.length=2:=fun _ _ h_=>by obtain⟨_,_,e_,_⟩:=h_;subst e_;rfl
theorem gq.eq(q r:Rat)(h1:Fm 2000 q)(h2:Fm 2000 r):gq [.d (fr q),.d (fr r)]=VL.ret (fr (q+r):HH):=by
 refine ai fun Q=>⟨?_,fun q_=>⟨q,r,rfl,⟨h1,h2⟩,q_⟩⟩
 rintro⟨q',r',e_,_,q_⟩
 simp_arith only[cL,bG,bJ,aO,aR,bP]at e_
 obtain⟨rfl,rfl⟩:=e_
 exact q_
theorem u6:FnScope ["one", "other"] ["one", "other"] (defScope (EG 9)):=⟨rfl,rfl,rfl,by decide +kernel,rfl,by decide +kernel,by decide +kernel⟩
theorem d_plus(Fn:FnIn K mg "plus" (EG 9) ["one", "other"])(Z:Bz mg)(d_fraction:∀rl,Dfn P w K mg base rl "fraction" ["top", "bottom"] 2 bC)   : Dfn P w K mg base rl "plus" ["one", "other"] 3 gq:=by
 have sc:=u6
 refine Dfn.of Fn sc (gq.mono) (gq.len) (fun cdv A outer s H E hr=>(ak (av (al (d_fraction _) (hr.mono (by decide)) (aa (v_add (v_mul (aQ (vn 0) ae) (aQ (vn 1) ae)) (v_mul (aQ (vn 1) ae) (aQ (vn 0) ae))) (aa (v_mul (aQ (vn 0) ae) (aQ (vn 1) ae)) ac)))))) ?_
 rintro ws Q ⟨q,r,rfl,⟨h1,h2⟩,hQ⟩
 refine az ?_
 have m1:aN q.num r.den:=.bb h1.bn h2.bd
 have m2:aN r.num q.den:=.bb h2.bn h1.bd
 have m3:aN q.den r.den:=.bb h1.bd h2.bd
 have m4:aN q.num r.num:=.bb h1.bn h2.bn
 have d1:=den_pos q r
 have d2:=gH h1 h2
 simp_arith only[ah,af,bC.eq,HD,yr]
 exact aw hQ
noncomputable def fg:List W->(HH->Prop)->Prop:=fun ws Q=>∃(q r:Rat),ws=[.d (fr q),.d (fr r)]/\((Fm 2000 q)/\(Fm 2000 r))/\Q (fr (q-r))
theorem fg.mono:∀ws (Q Q':HH->Prop),(∀d,Q d->Q' d)->fg ws Q->fg ws Q':=fun _ _ _ h_=>H0 fun _=>H0 fun _=>HP (HP (h_ _))
theorem fg.len:∀ws (Q:HH->Prop),fg ws Q->ws.length=2:=fun _ _ h_=>by obtain⟨_,_,e_,_⟩:=h_;subst e_;rfl
theorem fg.eq(q r:Rat)(h1:Fm 2000 q)(h2:Fm 2000 r):fg [.d (fr q),.d (fr r)]=VL.ret (fr (q-r):HH):=by
 refine ai fun Q=>⟨?_,fun q_=>⟨q,r,rfl,⟨h1,h2⟩,q_⟩⟩
 rintro⟨q',r',e_,_,q_⟩
 simp_arith only[cL,bG,bJ,aO,aR,bP]at e_
 obtain⟨rfl,rfl⟩:=e_
 exact q_
theorem u8:FnScope ["one", "other"] ["one", "other"] (defScope (EG 10)):=⟨rfl,rfl,rfl,by decide +kernel,rfl,by decide +kernel,by decide +kernel⟩
theorem d_less(Fn:FnIn K mg "less" (EG 10) ["one", "other"])(Z:Bz mg)(d_fraction:∀rl,Dfn P w K mg base rl "fraction" ["top", "bottom"] 2 bC)   : Dfn P w K mg base rl "less" ["one", "other"] 3 fg:=by
 have sc:=u8
 refine Dfn.of Fn sc (fg.mono) (fg.len) (fun cdv A outer s H E hr=>(ak (av (al (d_fraction _) (hr.mono (by decide)) (aa (v_sub (v_mul (aQ (vn 0) ae) (aQ (vn 1) ae)) (v_mul (aQ (vn 1) ae) (aQ (vn 0) ae))) (aa (v_mul (aQ (vn 0) ae) (aQ (vn 1) ae)) ac)))))) ?_
 rintro ws Q ⟨q,r,rfl,⟨h1,h2⟩,hQ⟩
 refine az ?_
 have m1:aN q.num r.den:=.bb h1.bn h2.bd
 have m2:aN r.num q.den:=.bb h2.bn h1.bd
 have m3:aN q.den r.den:=.bb h1.bd h2.bd
 have m4:aN q.num r.num:=.bb h1.bn h2.bn
 have d1:=den_pos q r
 have d2:=gH h1 h2
 simp_arith only[ah,af,bC.eq,HD,oE]
 exact aw hQ
noncomputable def dM:List W->(HH->Prop)->Prop:=fun ws Q=>∃(q r:Rat),ws=[.d (fr q),.d (fr r)]/\((Fm 2000 q)/\(Fm 2000 r))/\Q (fr (q*r))
theorem dM.mono:∀ws (Q Q':HH->Prop),(∀d,Q d->Q' d)->dM ws Q->dM ws Q':=fun _ _ _ h_=>H0 fun _=>H0 fun _=>HP (HP (h_ _))
theorem dM.len:∀ws (Q:HH->Prop),dM ws Q->ws.length=2:=fun _ _ h_=>by obtain⟨_,_,e_,_⟩:=h_;subst e_;rfl
theorem dM.eq(q r:Rat)(h1:Fm 2000 q)(h2:Fm 2000 r):dM [.d (fr q),.d (fr r)]=VL.ret (fr (q*r):HH):=by
 refine ai fun Q=>⟨?_,fun q_=>⟨q,r,rfl,⟨h1,h2⟩,q_⟩⟩
 rintro⟨q',r',e_,_,q_⟩
 simp_arith only[cL,bG,bJ,aO,aR,bP]at e_
 obtain⟨rfl,rfl⟩:=e_
 exact q_
theorem rf:FnScope ["one", "other"] ["one", "other"] (defScope (EG 11)):=⟨rfl,rfl,rfl,by decide +kernel,rfl,by decide +kernel,by decide +kernel⟩
theorem d_times(Fn:FnIn K mg "times" (EG 11) ["one", "other"])(Z:Bz mg)(d_fraction:∀rl,Dfn P w K mg base rl "fraction" ["top", "bottom"] 2 bC)   : Dfn P w K mg base rl "times" ["one", "other"] 3 dM:=by
 have sc:=rf
 refine Dfn.of Fn sc (dM.mono) (dM.len) (fun cdv A outer s H E hr=>(ak (av (al (d_fraction _) (hr.mono (by decide)) (aa (v_mul (aQ (vn 0) ae) (aQ (vn 1) ae)) (aa (v_mul (aQ (vn 0) ae) (aQ (vn 1) ae)) ac)))))) ?_
 rintro ws Q ⟨q,r,rfl,⟨h1,h2⟩,hQ⟩
 refine az ?_
 have m1:aN q.num r.den:=.bb h1.bn h2.bd
 have m2:aN r.num q.den:=.bb h2.bn h1.bd
 have m3:aN q.den r.den:=.bb h1.bd h2.bd
 have m4:aN q.num r.num:=.bb h1.bn h2.bn
 have d1:=den_pos q r
 have d2:=gH h1 h2
 simp_arith only[ah,af,bC.eq,HD,yp]
 exact aw hQ
noncomputable def bq:List W->(HH->Prop)->Prop:=fun ws Q=>∃(q r:Rat),ws=[.d (fr q),.d (fr r)]/\((Fm 2000 q)/\(Fm 2000 r))/\Q (.bool (decide (q<r)))
theorem bq.mono:∀ws (Q Q':HH->Prop),(∀d,Q d->Q' d)->bq ws Q->bq ws Q':=fun _ _ _ h_=>H0 fun _=>H0 fun _=>HP (HP (h_ _))
theorem bq.len:∀ws (Q:HH->Prop),bq ws Q->ws.length=2:=fun _ _ h_=>by obtain⟨_,_,e_,_⟩:=h_;subst e_;rfl
theorem bq.eq(q r:Rat)(h1:Fm 2000 q)(h2:Fm 2000 r):bq [.d (fr q),.d (fr r)]=VL.ret (.bool (decide (q<r)):HH):=by
 refine ai fun Q=>⟨?_,fun q_=>⟨q,r,rfl,⟨h1,h2⟩,q_⟩⟩
 rintro⟨q',r',e_,_,q_⟩
 simp_arith only[cL,bG,bJ,aO,aR,bP]at e_
 obtain⟨rfl,rfl⟩:=e_
 exact q_
theorem km:FnScope ["one", "other"] ["one", "other"] (defScope (EG 12)):=⟨rfl,rfl,rfl,by decide +kernel,rfl,by decide +kernel,by decide +kernel⟩
theorem d_is_below(Fn:FnIn K mg "is_below" (EG 12) ["one", "other"])(Z:Bz mg)    : Dfn P w K mg base rl "is_below" ["one", "other"] 1 bq:=by
 have sc:=km
 refine Dfn.of Fn sc (bq.mono) (bq.len) (fun cdv A outer s H E hr=>(ak (av (eR gu fR (ay _) (v_mul (aQ (vn 0) ae) (aQ (vn 1) ae)) (v_mul (aQ (vn 1) ae) (aQ (vn 0) ae)))))) ?_
 rintro ws Q ⟨q,r,rfl,⟨h1,h2⟩,hQ⟩
 refine az ?_
 have m1:aN q.num r.den:=.bb h1.bn h2.bd
 have m2:aN r.num q.den:=.bb h2.bn h1.bd
 simp_arith only[ah,af,HD,wm]
 exact aw hQ
noncomputable def cR:List W->(HH->Prop)->Prop:=fun ws Q=>∃(q r:Rat),ws=[.d (fr q),.d (fr r)]/\((Fm 2000 q)/\(Fm 2000 r))/\Q (fr (mn q r))
theorem cR.mono:∀ws (Q Q':HH->Prop),(∀d,Q d->Q' d)->cR ws Q->cR ws Q':=fun _ _ _ h_=>H0 fun _=>H0 fun _=>HP (HP (h_ _))
theorem cR.len:∀ws (Q:HH->Prop),cR ws Q->ws.length=2:=fun _ _ h_=>by obtain⟨_,_,e_,_⟩:=h_;subst e_;rfl
theorem cR.eq(q r:Rat)(h1:Fm 2000 q)(h2:Fm 2000 r):cR [.d (fr q),.d (fr r)]=VL.ret (fr (mn q r):HH):=by
 refine ai fun Q=>⟨?_,fun q_=>⟨q,r,rfl,⟨h1,h2⟩,q_⟩⟩
 rintro⟨q',r',e_,_,q_⟩
 simp_arith only[cL,bG,bJ,aO,aR,bP]at e_
 obtain⟨rfl,rfl⟩:=e_
 exact q_
theorem oq:FnScope ["one", "other"] ["one", "other"] (defScope (EG 13)):=⟨rfl,rfl,rfl,by decide +kernel,rfl,by decide +kernel,by decide +kernel⟩
theorem d_lesser(Fn:FnIn K mg "lesser" (EG 13) ["one", "other"])(Z:Bz mg)(d_is_below:∀rl,Dfn P w K mg base rl "is_below" ["one", "other"] 1 bq)   : Dfn P w K mg base rl "lesser" ["one", "other"] 2 cR:=by
 have sc:=oq
 refine Dfn.of Fn sc (cR.mono) (cR.len) (fun cdv A outer s H E hr=>(ak (av (dG (de (al (d_is_below _) (hr.mono (by decide)) (aa (vn 0) (aa (vn 1) ac)))) (vn 0) (vn 1))))) ?_
 rintro ws Q ⟨q,r,rfl,⟨h1,h2⟩,hQ⟩
 refine az ?_
 simp_arith only[ah,af,bq.eq,HD]
 unfold mn at hQ
 refine aw ?_
 by_cases h:q<r<;>simp[h]at hQ ⊢ <;> exact hQ
noncomputable def cz:List W->(HH->Prop)->Prop:=fun ws Q=>∃(q r:Rat),ws=[.d (fr q),.d (fr r)]/\((Fm 2000 q)/\(Fm 2000 r))/\Q (fr (mx q r))
theorem cz.mono:∀ws (Q Q':HH->Prop),(∀d,Q d->Q' d)->cz ws Q->cz ws Q':=fun _ _ _ h_=>H0 fun _=>H0 fun _=>HP (HP (h_ _))
theorem cz.len:∀ws (Q:HH->Prop),cz ws Q->ws.length=2:=fun _ _ h_=>by obtain⟨_,_,e_,_⟩:=h_;subst e_;rfl
theorem cz.eq(q r:Rat)(h1:Fm 2000 q)(h2:Fm 2000 r):cz [.d (fr q),.d (fr r)]=VL.ret (fr (mx q r):HH):=by
 refine ai fun Q=>⟨?_,fun q_=>⟨q,r,rfl,⟨h1,h2⟩,q_⟩⟩
 rintro⟨q',r',e_,_,q_⟩
 simp_arith only[cL,bG,bJ,aO,aR,bP]at e_
 obtain⟨rfl,rfl⟩:=e_
 exact q_
theorem mO:FnScope ["one", "other"] ["one", "other"] (defScope (EG 14)):=⟨rfl,rfl,rfl,by decide +kernel,rfl,by decide +kernel,by decide +kernel⟩
theorem d_greater(Fn:FnIn K mg "greater" (EG 14) ["one", "other"])(Z:Bz mg)(d_is_below:∀rl,Dfn P w K mg base rl "is_below" ["one", "other"] 1 bq)   : Dfn P w K mg base rl "greater" ["one", "other"] 2 cz:=by
 have sc:=mO
 refine Dfn.of Fn sc (cz.mono) (cz.len) (fun cdv A outer s H E hr=>(ak (av (dG (de (al (d_is_below _) (hr.mono (by decide)) (aa (vn 0) (aa (vn 1) ac)))) (vn 1) (vn 0))))) ?_
 rintro ws Q ⟨q,r,rfl,⟨h1,h2⟩,hQ⟩
 refine az ?_
 simp_arith only[ah,af,bq.eq,HD]
 unfold mx at hQ
 refine aw ?_
 by_cases h:q<r<;>simp[h]at hQ ⊢ <;> exact hQ
theorem A0(h:Fm 2000 q):(q.den:Int).natAbs<2^2000:=by rw[Ik];exact h.2
noncomputable def cj:List W->(HH->Prop)->Prop:=fun ws Q=>∃(b:Bool)(qs:List Rat),ws=[.d (EZ b qs)]/\((qs.length<60)/\(∀q∈qs,Fm 2000 q))/\∀rs:List Rat,(gP qs rs)->Q (.tuple (rs.map fr))
theorem cj.mono:∀ws (Q Q':HH->Prop),(∀d,Q d->Q' d)->cj ws Q->cj ws Q':=fun _ _ _ h_=>H0 fun _=>H0 fun _=>HP (HP fun q_ o_ ho_=>h_ _ (q_ o_ ho_))
theorem cj.len:∀ws (Q:HH->Prop),cj ws Q->ws.length=1:=fun _ _ h_=>by obtain⟨_,_,e_,_⟩:=h_;subst e_;rfl
theorem cj.eq(b:Bool)(qs:List Rat)(hl:qs.length<60)(hq:∀q∈qs,Fm 2000 q):cj [.d (EZ b qs)]=Gs (anyM fun rs:List Rat=>gP qs rs) fun rs=>VL.ret (.tuple (rs.map fr):HH):=by
 refine ai fun Q=>⟨?_,fun q_=>⟨b,qs,rfl,⟨hl,hq⟩,q_⟩⟩
 rintro⟨b',qs',e_,_,q_⟩
 simp_arith only[cL,bG,bJ,aO,aR,bP,AT]at e_
 obtain⟨rfl,rfl⟩:=e_
 exact q_
theorem mN:FnScope ["some", "bottom", "scale", "by_size"] ["some"] (defScope (EG 15)):=⟨rfl,rfl,rfl,by decide +kernel,rfl,by decide +kernel,by decide +kernel⟩
theorem d_in_size(Fn:FnIn K mg "in_size" (EG 15) ["some"])(Z:Bz mg)    : Dfn P w K mg base rl "in_size" ["some"] 1 cj:=by
 have sc:=mN
 refine Dfn.of Fn sc (cj.mono) (cj.len) (fun cdv A outer s H E hr=>(ag (aj 1 sc.nd (xr rfl Z.max_ (aa (ci ["one"] [none] rfl (sR (vn 0)) (fun _=>(aq 0 (show Js (["one"]:List Str) by decide +kernel))) (fun _=>b9) (fun _=>(aQ (vn 0) ae))) ac) ae))
  (ag (aj 2 sc.nd (v_mul (vn 1) (vn 1)))
  (ag (ka 3 sc.nd ["one", "scale"] [none,some 2] rfl (sR (vn 0)) (fun _=>(aq 0 (show Js (["one", "scale"]:List Str) by decide +kernel))) (fun _=>b9) (fun _=>(v_div (v_mul (aQ (vn 0) ae) (vn 1)) (aQ (vn 0) ae))) (fun _=>(vn 0)))
  (ak (av (eQ Z.tuple_ (aa (ci ["size", "by_size"] [none,some 3] rfl (bT (nJ rfl Z.sorted_ (aa (vn 3) ac))) (fun _=>(aq 0 (show Js (["size", "by_size"]:List Str) by decide +kernel))) (fun _=>b9) (fun _=>(uB hr.un1 (vn 1) (vn 0)))) ac)))))))) ?_
 rintro ws Q ⟨b,qs,rfl,⟨hl,hq⟩,hQ⟩
 refine az ?_
 have sz:=Is
 simp_arith only[ah,af,HE,HB,HC,dL,HD]
 refine EY (cq (xs:=qs) (enc:=fr) (fun q=>.int q.den) rfl ?_ (by omega) ?_)
 · intro q mq
   simp_arith only[ah,af,FZ,HD]
 have e1:qs.map (fun q=>Iw q.den)=(qs.map fun q=>(q.den:Int)).map .int:=by rw[JG];rfl
 rw[e1]
 obtain⟨mx1,mx2⟩:=yX (qs.map fun q=>(q.den:Int))
 have hB:∀q∈qs,(q.den:Int)<=FC 1 (qs.map fun q=>(q.den:Int)):=fun q mq=>mx1 _ (IM.mpr ⟨q,mq,rfl⟩)
 have bB:HA (FC 1 (qs.map fun q=>(q.den:Int))):=by
  rcases mx2 with z|z
  · rw[z];exact jj (by decide)
  · obtain⟨q,mq,e⟩:=IM.mp z
    rw[<- e];exact jj (A0 (hq q mq))
 have b2:(FC 1 (qs.map fun q=>(q.den:Int))).natAbs<2^2000:=by
  rcases mx2 with z|z
  · rw[z];decide
  · obtain⟨q,mq,e⟩:=IM.mp z
    rw[<- e];exact A0 (hq q mq)
 simp_arith only[ah,af,HE,HB,HC,dL,HD]
 generalize FC 1 (qs.map fun q=>(q.den:Int))=B at *
 have cm:aN B B:=.bb bB bB
 have bS:HA (B*B):=by
  unfold HA
  rw[IR]
  exact HL (MU b2 b2) (by rw[<- Md];exact HS (by decide) (by decide))
 simp_arith only[ah,af,HE,HB,HC,dL,HD]
 refine EY (wC (xs:=qs) (enc:=fr) (fun q=>((Kj (ET (B*B) q):Hg),fr q)) rfl ?_ (by omega) ?_)
 · intro q mq
   have c1:aN q.num (B*B):=.bb (hq q mq).bn bS
   have c2:fI (q.num*(B*B)) q.den:=⟨by have:=p6 q;omega,HL (A0 (hq q mq)) (HS (by decide) (by decide))⟩
   simp_arith only[ah,af,F0,HE,HB,HC,dL,HD]
   rfl
 obtain⟨ms,f1,f2,f3,f4,f5⟩:=wq (ET (B*B)) qs fun q r mq mr e=>n6 (hB q mq) (hB r mr) e
 have ef:((qs.map fun q=>((Kj (ET (B*B) q):Hg),fr q)).foldl (fun a p=>VL.putF a p.1 p.2) [])=wr (ET (B*B)) qs:=rfl
 rw[ef]
 simp_arith only[ah,af,HE,HB,HC,dL,HD]
 refine uS ms f1 (by omega) ?_
 intro ns pm pw
 obtain⟨rs,er,hr,so⟩:=n_ hB f2 f3 pm pw
 subst er
 have lr:=mJ so
 simp_arith only[ah,af,HE,HB,HC,dL,HD]
 refine cq (xs:=rs) (enc:=fun r=>Iw (ET (B*B) r)) fr (by rw[JG];rfl) ?_ (by omega) ?_
 · intro r mr
   have v:=f4 r (hr r mr)
   simp_arith only[ah,af,FZ,HE,HB,HC,dL,HD,v]
 exact aw (hQ rs so)
theorem cj.eqL(qs:List Rat)(hl:qs.length<60)(hq:∀q∈qs,Fm 2000 q):cj [.d (.list (qs.map fr))]=Gs (anyM fun rs:List Rat=>gP qs rs) fun rs=>VL.ret (.tuple (rs.map fr):HH):=cj.eq false qs hl hq
noncomputable def colQ(ps:List (List Rat))(j:Nat):List Rat:=ps.map fun p=>p.getD j 0
theorem lY{k s:Nat}(hp:∀p∈ps,p.length=s/\∀q∈p,Fm k q)(hj:j<s):∀p∈ps,atI p (j:Int)=some (p.getD j 0):=fun p mp=>dQ (by
 have:=(hp p mp).1
 rw[Ib,Ia (by omega)];rfl)
theorem t6{k s:Nat}(hp:∀p∈ps,p.length=s/\∀q∈p,Fm k q)(hj:j<s):∀q∈colQ ps j,Fm k q:=fun q mq=>by
 obtain⟨p,mp,rfl⟩:=IM.mp mq
 have:=(hp p mp).1
 have e:p.getD j 0=p[j]'(by omega):=by rw[Ib,Ia (by omega)];rfl
 show Fm k (p.getD j 0)
 rw[e]
 exact(hp p mp).2 _ (Ji _)
noncomputable def EV(xs:List Rat)(x:Rat):List Rat:=if xs[(xs.filter (· < x)).length]?=some x then xs else insAt xs (xs.filter (· < x)).length x
noncomputable def EW(qs:List Rat):List Rat:=qs.foldl EV []
theorem t4{x:Rat}:∀{xs:List Rat},xs.Pairwise (· < ·)->xs.take (xs.filter (· < x)).length=xs.filter (· < x)/\∀y∈xs.drop (xs.filter (· < x)).length,x<=y
 | [],_=>by simp
 | y::ys,h=>by
   obtain⟨h1,h2⟩:=KS.mp h
   by_cases c:y<x
   · obtain⟨a,b⟩:=t4 (x:=x) h2
     rw[List.filter_cons_of_pos (by simpa using c),Io,List.take_succ_cons,List.drop_succ_cons,a]
     exact⟨rfl,b⟩
   · have e:(y::ys).filter (· < x)=[]:=by
       rw[M2]
       intro z mz
       rcases Ih.mp mz with rfl|mz
       · simpa using c
       · have:=h1 z mz
         simp
         exact Jl.mpr (IS (Jl.mp c) (Iq this))
     rw[e]
     refine⟨rfl,fun z mz=>?_⟩
     rcases Ih.mp mz with rfl|mz
     · exact Jl.mp c
     · exact IS (Jl.mp c) (Iq (h1 z mz))
theorem xS{xs:List Rat}{x:Rat}(h:xs.Pairwise (· < ·)):(EV xs x).Pairwise (· < ·)/\∀q,q∈EV xs x↔q∈xs\/q=x:=by
 unfold EV
 obtain⟨a,b⟩:=t4 (x:=x) h
 split
 · rename_i e
   exact⟨h,fun q=>⟨.inl,fun z=>z.elim id fun z=>z▸Ki e⟩⟩
 · rename_i e
   unfold insAt
   have hp:=Nt.mp (show(xs.take (xs.filter (· < x)).length++xs.drop (xs.filter (· < x)).length).Pairwise (· < ·) by rw[LO];exact h)
   have hd:∀y∈xs.drop (xs.filter (· < x)).length,x<y:=fun y my=>by
    refine KW (b y my) fun z=>e ?_
    subst z
    obtain⟨i,hi,ei⟩:=Lm my
    rw[List.getElem_drop]at ei
    rw[KM]at hi
    cases i with
    | zero=>rw[Ia (by omega)];simpa using ei
    | succ i =>
      exfalso
      have hl:(xs.filter (· < x)).length<xs.length:=by omega
      have m0:xs[(xs.filter (· < x)).length]∈xs.drop (xs.filter (· < x)).length:=List.mem_drop_iff_getElem.mpr ⟨0,by omega,by simp⟩
      have l0:=b _ m0
      have:=List.pairwise_iff_getElem.mp h (xs.filter (· < x)).length ((xs.filter (· < x)).length+(i+1)) hl (by omega) (by omega)
      rw[ei]at this
      exact absurd this (Jl.mpr l0)
   refine⟨Nt.mpr ⟨hp.1,KS.mpr ⟨hd,hp.2.1⟩,fun y my z mz=>?_⟩,fun q=>?_⟩
   · rw[a]at my
     have yx:y<x:=by simpa using(L5.mp my).2
     rcases Ih.mp mz with rfl|mz
     · exact yx
     · have xz:=hd z mz
       exact KW (IS (Iq yx) (Iq xz)) fun e=>by subst e;exact Jl.mpr (Iq xz) yx
   · have:q∈xs↔q∈xs.take (xs.filter (· < x)).length\/q∈xs.drop (xs.filter (· < x)).length:=by rw[<- Ip,LO]
     rw[Ip,Ih,this]
     constructor
     · rintro(z|z|z)
       · exact .inl (.inl z)
       · exact .inr z
       · exact .inl (.inr z)
     · rintro((z|z)|z)
       · exact .inl z
       · exact .inr (.inr z)
       · exact .inr (.inl z)
theorem tf:∀(qs xs:List Rat),xs.Pairwise (· < ·)->(qs.foldl EV xs).Pairwise (· < ·)/\∀q,q∈qs.foldl EV xs↔q∈xs\/q∈qs
 | [],xs,h=>⟨h,by simp⟩
 | x::qs,xs,h=>by
   obtain⟨a,b⟩:=xS (x:=x) h
   obtain⟨c,d⟩:=tf qs (EV xs x) a
   refine⟨c,fun q=>?_⟩
   rw[JZ,d,b,Ih]
   constructor
   · rintro((z|z)|z)
     · exact .inl z
     · exact .inr (.inl z)
     · exact .inr (.inr z)
   · rintro(z|z|z)
     · exact .inl (.inl z)
     · exact .inl (.inr z)
     · exact .inr z
theorem wp{α β:Type}(p:α->Prop)[DecidablePred p](g:α->β):∀xs:List α,(xs.filterMap fun y=>if p y then some (g y)else none)=(xs.filter fun y=>decide (p y)).map g
 | []=>rfl
 | x::xs=>by
   have ih:=wp p g xs
   by_cases c:p x
   · simp[c,ih]
   · simp[c,ih]
theorem hX(qs:List Rat):gP qs (EW qs):=by
 obtain⟨a,b⟩:=tf qs [] MA
 exact⟨a,fun q=>by rw[EW,b];simp⟩
theorem xT{qs:List Rat}(h:gP qs rs):rs=EW qs:=ia h.1 (hX qs).1 fun q=>by rw[h.2,(hX qs).2]
theorem si{s:Nat}(h:Pg s ps):∀p∈ps,p.length=s/\∀q∈p,Fm 45 q:=fun p mp=>⟨(h p mp).1,fun q mq=>((h p mp).2 q mq).1⟩
noncomputable def dimP(ps:List (List Rat)):Nat:=(ps.headD []).length
theorem zJ{s:Nat}(h:Pg s ps)(h1:1<=ps.length):dimP ps=s:=by
 cases ps with
 | nil=>simp at h1
 | cons p ps=>exact(h p HM).1
noncomputable def nuQ(ps:List (List Rat))(j:Nat):List Rat:=EW (colQ ps j)
noncomputable def Pw(ps:List (List Rat)):Prop:=1<=ps.length/\ps.length<=40/\Pg (dimP ps) ps/\1<=dimP ps/\dimP ps<=4
noncomputable def b8:List W->(HH->Prop)->Prop:=fun ws Q=>∃(ps:List (List Rat)),ws=[.d (ptsQ ps)]/\((1<=ps.length))/\Q (.int ((dimP ps:Nat):Int))
theorem b8.mono:∀ws (Q Q':HH->Prop),(∀d,Q d->Q' d)->b8 ws Q->b8 ws Q':=fun _ _ _ h_=>H0 fun _=>HP (HP (h_ _))
theorem b8.len:∀ws (Q:HH->Prop),b8 ws Q->ws.length=1:=fun _ _ h_=>by obtain⟨_,e_,_⟩:=h_;subst e_;rfl
theorem b8.eq(ps:List (List Rat))(h:1<=ps.length):b8 [.d (ptsQ ps)]=VL.ret (.int ((dimP ps:Nat):Int):HH):=by
 refine ai fun Q=>⟨?_,fun q_=>⟨ps,rfl,h,q_⟩⟩
 rintro⟨ps',e_,_,q_⟩
 simp_arith only[cL,bG,bJ,aO,aR,bP]at e_
 obtain rfl:=e_
 exact q_
theorem kj:FnScope ["points"] ["points"] (defScope (EG 21)):=⟨rfl,rfl,rfl,by decide +kernel,rfl,by decide +kernel,by decide +kernel⟩
theorem d_sides_of(Fn:FnIn K mg "sides_of" (EG 21) ["points"])(Z:Bz mg)    : Dfn P w K mg base rl "sides_of" ["points"] 1 b8:=by
 have sc:=kj
 refine Dfn.of Fn sc (b8.mono) (b8.len) (fun cdv A outer s H E hr=>(ak (av (cv Z.len_ (aa (aQ (vn 0) ae) ac))))) ?_
 rintro ws Q ⟨ps,rfl,h,hQ⟩
 refine az ?_
 cases ps with
 | nil=>simp at h
 | cons p ps =>
   have e:atI (p::ps) 0=some p:=dQ rfl
   simp_arith only[ah,af,HD,e]
   exact aw hQ
noncomputable def br:List W->(HH->Prop)->Prop:=fun ws Q=>∃(ps:List (List Rat))(j:Int),ws=[.d (ptsQ ps),.d (.int j)]/\((Pw ps)/\(0<=j)/\(j<dimP ps))/\Q (Fp (nuQ ps j.toNat))
theorem br.mono:∀ws (Q Q':HH->Prop),(∀d,Q d->Q' d)->br ws Q->br ws Q':=fun _ _ _ h_=>H0 fun _=>H0 fun _=>HP (HP (h_ _))
theorem br.len:∀ws (Q:HH->Prop),br ws Q->ws.length=2:=fun _ _ h_=>by obtain⟨_,_,e_,_⟩:=h_;subst e_;rfl
theorem br.eq(ps:List (List Rat))(j:Int)(h:Pw ps)(j0:0<=j)(jl:j<dimP ps):br [.d (ptsQ ps),.d (.int j)]=VL.ret (Fp (nuQ ps j.toNat):HH):=by
 refine ai fun Q=>⟨?_,fun q_=>⟨ps,j,rfl,⟨h,j0,jl⟩,q_⟩⟩
 rintro⟨ps',j',e_,_,q_⟩
 simp_arith only[cL,bG,bJ,aO,aR,bP]at e_
 obtain⟨rfl,rfl⟩:=e_
 exact q_
theorem iP:FnScope ["points", "side"] ["points", "side"] (defScope (EG 22)):=⟨rfl,rfl,rfl,by decide +kernel,rfl,by decide +kernel,by decide +kernel⟩
theorem d_numbers_at(Fn:FnIn K mg "numbers_at" (EG 22) ["points", "side"])(Z:Bz mg)(d_in_size:∀rl,Dfn P w K mg base rl "in_size" ["some"] 1 cj)   : Dfn P w K mg base rl "numbers_at" ["points", "side"] 2 br:=by
 have sc:=iP
 refine Dfn.of Fn sc (br.mono) (br.len) (fun cdv A outer s H E hr=>(ak (av (al (d_in_size _) (hr.mono (by decide)) (aa (ci ["point", "side"] [none,some 1] rfl (dU (vn 0)) (fun _=>(aq 0 (show Js (["point", "side"]:List Str) by decide +kernel))) (fun _=>b9) (fun _=>(aQ (vn 0) (vn 1)))) ac))))) ?_
 rintro ws Q ⟨ps,j,rfl,⟨h,j0,jl⟩,hQ⟩
 refine az ?_
 have sz:=Is
 obtain⟨h1,h40,hp,d1,d4⟩:=h
 have ej:((j.toNat:Nat):Int)=j:=by omega
 have hj:j.toNat<dimP ps:=by omega
 have hc:(colQ ps j.toNat).length<60:=by unfold colQ;rw[HW];omega
 have hq:∀q∈colQ ps j.toNat,Fm 2000 q:=fun q mq=>(t6 (si hp) hj q mq).mono (by decide)
 simp_arith only[ah,af,HD]
 refine cq (xs:=ps) (enc:=Fp) (fun p=>fr (p.getD j.toNat 0)) rfl ?_ (by omega) ?_
 · intro p mp
   have e:=lY (si hp) hj p mp
   rw[ej]at e
   simp_arith only[ah,af,FZ,HD,e]
 have e1:ps.map (fun p=>fr (p.getD j.toNat 0))=(colQ ps j.toNat).map fr:=by unfold colQ;rw[JG];rfl
 rw[e1]
 simp_arith only[ah,af,cj.eqL]
 (with_reducible (first|refine aE fun rs hrs=>?_|refine aK fun rs hrs=>?_))
 rw[xT hrs]
 exact aw hQ
noncomputable def FS(t:Rat):HH:=.tuple [.str "to", fr t]
noncomputable def FU(a b:Rat):HH:=.tuple [.str "from", fr a,fr b]
noncomputable def FT(a b:Rat):HH:=.tuple [.str "round", fr a,fr b]
noncomputable def E_(rs:List Rat):List HH:=((-1)::rs).flatMap fun a=>(rs++[1]).filterMap fun b=>if a<=b then some (FU a b)else none
noncomputable def E7(rs:List Rat):List HH:=(rs++[1]).flatMap fun a=>((-1)::rs).filterMap fun b=>if b<=a then some (FT a b)else none
noncomputable def sl(f:Nat)(rs:List Rat):List HH:=if f=0 then(rs++[1]).map FS else if f=1 then E_ rs else E_ rs++E7 rs
noncomputable def Rs(rs:List Rat):Prop:=rs.length<=8/\∀q∈rs,Gd q
theorem dt{α:Type}{b:HH->Mo (Option HH)}{enc:α->HH}(f:α->Option HH):∀(xs:List α)(acc:List HH),(∀x∈xs,b (enc x)=VL.ret (f x))->acc.length+(xs.filterMap f).length<=sizeLine->cb b (xs.map enc) acc=VL.ret (acc++xs.filterMap f)
 | [],acc,_,_=>by simp[cb]
 | x::xs,acc,h,hl=>by
   show Gs (b (enc x)) _=_
   rw[h x HM,bnd_ret]
   cases e:f x with
   | none =>
     have e2:(x::xs).filterMap f=xs.filterMap f:=by rw[JS,e]
     rw[e2]at hl ⊢
     exact dt f xs acc (fun y my=>h y (HK _ my)) hl
   | some d =>
     have e2:(x::xs).filterMap f=d::xs.filterMap f:=by rw[JS,e]
     rw[e2,Io]at hl
     show Ge (acc.length<sizeLine) (cb b (xs.map enc) (acc++[d]))=_
     rw[dt f xs (acc++[d]) (fun y my=>h y (HK _ my)) (by rw[Ic,K0];omega),e2,K9]
     exact ah (by omega) _
theorem zH(rs:List Rat):rs.map fr++[fr 1]=(rs++[1]).map fr:=by rw[Jk];rfl
theorem gF(h:Rs rs):∀q∈rs++[1],Fm 60 q:=fun q mq=>by
 rcases Ip.mp mq with h'|h'
 · exact(h.2 q h').1.mono (by decide)
 · cases Ij.mp h';exact⟨by decide,by decide⟩
theorem j8(h:Rs rs):∀q∈(-1)::rs,Fm 60 q:=fun q mq=>by
 rcases Ih.mp mq with rfl|h'
 · exact⟨by decide,by decide⟩
 · exact(h.2 q h').1.mono (by decide)
theorem pD{α β:Type}{n:Nat}{f:α->List β}:∀{l:List α},(∀x∈l,(f x).length<=n)->(l.flatMap f).length<=l.length*n
 | [],_=>by simp
 | x::l,h=>by
   have h1:=h x HM
   have h2:=pD (l:=l) fun y my=>h y (HK _ my)
   rw[JW,Ic,Io,N6];omega
theorem ly(h:rs.length<=8):(E_ rs).length<=81:=IT (pD (n:=9) fun a _=>IT (MF ..) (by simp;omega)) (by simp;omega)
theorem og(h:rs.length<=8):(E7 rs).length<=81:=IT (pD (n:=9) fun a _=>IT (MF ..) (by simp;omega)) (by simp;omega)
noncomputable def cI(f:Fin 3):Str:=sD f.val
theorem dC{a b:Fin 3}:cI a=cI b↔a=b:=by revert a b;decide +kernel
theorem pW:∀f:Fin 3,f=0\/f=1\/f=2:=by decide
noncomputable def bL:List W->(HH->Prop)->Prop:=fun ws Q=>∃(rs:List Rat)(f:Fin 3),ws=[.d (Fp rs),.d (.str (cI f))]/\((Rs rs))/\Q (.list (sl f.val rs))
theorem bL.mono:∀ws (Q Q':HH->Prop),(∀d,Q d->Q' d)->bL ws Q->bL ws Q':=fun _ _ _ h_=>H0 fun _=>H0 fun _=>HP (HP (h_ _))
theorem bL.len:∀ws (Q:HH->Prop),bL ws Q->ws.length=2:=fun _ _ h_=>by obtain⟨_,_,e_,_⟩:=h_;subst e_;rfl
theorem bL.eq(rs:List Rat)(f:Fin 3)(hr:Rs rs):bL [.d (Fp rs),.d (.str (cI f))]=VL.ret (.list (sl f.val rs):HH):=by
 refine ai fun Q=>⟨?_,fun q_=>⟨rs,f,rfl,hr,q_⟩⟩
 rintro⟨rs',f',e_,_,q_⟩
 simp_arith only[cL,bG,bJ,aO,aR,bP,dC]at e_
 obtain⟨rfl,rfl⟩:=e_
 exact q_
theorem iN:FnScope ["numbers", "family", "ends", "begins", "inner"] ["numbers", "family"] (defScope (EG 26)):=⟨rfl,rfl,rfl,by decide +kernel,rfl,by decide +kernel,by decide +kernel⟩
theorem d_side_looks(Fn:FnIn K mg "side_looks" (EG 26) ["numbers", "family"])(Z:Bz mg)(d_is_below:∀rl,Dfn P w K mg base rl "is_below" ["one", "other"] 1 bq)(gl_ONE:GlD K mg "ONE" (pr 1 1))(gl_BELOW_ALL:GlD K mg "BELOW_ALL" (.tuple [.int (-1),.int 1]))  : Dfn P w K mg base rl "side_looks" ["numbers", "family"] 2 bL:=by
 have sc:=iN
 refine Dfn.of Fn sc (bL.mono) (bL.len) (fun cdv A outer s H E hr=>(ag (aj 2 sc.nd (ju (dW Z.list_ (aa (vn 0) ac)) (cE (aa (dX gl_ONE) ac))))
  (ag (bW (aF dN cu (ay _) (vn 1) aH) (ak (av (ci ["end"] [none] rfl (bT (vn 2)) (fun _=>(aq 0 (show Js (["end"]:List Str) by decide +kernel))) (fun _=>b9) (fun _=>(bU (aa aH (aa (vn 0) ac))))))) ba)
  (ag (aj 3 sc.nd (ju (cE (aa (dX gl_BELOW_ALL) ac)) (dW Z.list_ (aa (vn 0) ac))))
  (ag (fP 4 sc.nd ["a", "b", "ends"] [none,none,some 2] rfl (bT (vn 3)) (fun _=>(aq 0 (show Js (["a", "b", "ends"]:List Str) by decide +kernel))) (fun _=>b9) (fun _=>(bT (vn 2))) (fun _=>(aq 1 (show Js (["a", "b", "ends"]:List Str) by decide +kernel))) (fun _=>lf (nH (de (al (d_is_below _) (hr.mono (by decide)) (aa (vn 1) (aa (vn 0) ac)))))) (fun _=>(bU (aa aH (aa (vn 0) (aa (vn 1) ac))))))
  (ag (bW (aF dN cu (ay _) (vn 1) aH) (ak (av (vn 4))) ba)
  (ak (av (ju (vn 4) (qP ["a", "b", "begins"] [none,none,some 3] rfl (bT (vn 2)) (fun _=>(aq 0 (show Js (["a", "b", "begins"]:List Str) by decide +kernel))) (fun _=>b9) (fun _=>(bT (vn 2))) (fun _=>(aq 1 (show Js (["a", "b", "begins"]:List Str) by decide +kernel))) (fun _=>lf (nH (de (al (d_is_below _) (hr.mono (by decide)) (aa (vn 0) (aa (vn 1) ac)))))) (fun _=>(bU (aa aH (aa (vn 0) (aa (vn 1) ac))))))))))))))) ?_
 rintro ws Q ⟨rs,f,rfl,hr,hQ⟩
 refine az ?_
 have sz:=Is
 have q1:decide (HG "inner" = HG "corner")=false:=by decide +kernel
 have q2:decide (HG "round" = HG "corner")=false:=by decide +kernel
 have q3:decide (HG "round" = HG "inner")=false:=by decide +kernel
 have q4:decide (HG "corner" = HG "corner")=true:=by decide +kernel
 have q5:decide (HG "inner" = HG "inner")=true:=by decide +kernel
 have q6:decide (HG "corner" = HG "round")=false:=by decide +kernel
 have q7:decide (HG "inner" = HG "round")=false:=by decide +kernel
 have q8:decide (HG "round" = HG "round")=true:=by decide +kernel
 have f0:cI 0=HG "corner" := rfl
 have f1:cI 1=HG "inner" := rfl
 have f2:cI 2=HG "round" := rfl
 have l8:=hr.1
 have g1:rs.length+1<=sizeLine:=by omega
 have em:rs.map fr++[fr 1]=(rs++[1]).map fr:=zH rs
 have eb:Kd [Iw (-1),Iw 1]::rs.map fr=((-1)::rs).map fr:=rfl
 have nlt:∀a b:Rat,(!decide (b<a))=decide (a<=b):=fun a b=>by
  by_cases c:a<=b
  · have:=Jl.mpr c;simp[c,this]
  · have:=JK.mp c;simp[c,this]
 obtain rfl|rfl|rfl:=pW f
 · simp_arith only[ah,af,HD,q1,q2,q3,q4,q5,q6,q7,q8,f0,f1,f2]
   refine EY (cq (xs:=rs++[1]) (enc:=fr) FS em ?_ (by simp;omega) ?_)
   · intro e me
     simp_arith only[ah,af,FZ]
     rfl
   · simp_arith only[ah,af]
     exact kB hQ
 · simp_arith only[ah,af,HD,q1,q2,q3,q4,q5,q6,q7,q8,f0,f1,f2,m_comp2]
   refine EY ?_
   rw[eb]
   refine sO (xs:=(-1)::rs) (enc:=fr) (fun a=>(rs++[1]).filterMap fun b=>if a<=b then some (FU a b)else none) rfl ?_ ?_ ?_
   · intro a ma acc hl
     simp_arith only[ah,af,pN]
     rw[em]
     refine(dt (enc:=fr) (fun b=>if a<=b then some (FU a b)else none) (rs++[1]) acc ?_ hl).trans rfl
     intro b mb
     have h1:Fm 2000 a:=(j8 hr a ma).mono (by decide)
     have h2:Fm 2000 b:=(gF hr b mb).mono (by decide)
     simp_arith only[ah,af,FZ,bq.eq,nlt]
     by_cases c:a<=b<;>simp[c,FU]
   · exact IT (ly l8) (by omega)
   · simp_arith only[ah,af,HD,q1,q2,q3,q4,q5,q6,q7,q8,f0,f1,f2]
     exact aw hQ
 · simp_arith only[ah,af,HD,q1,q2,q3,q4,q5,q6,q7,q8,f0,f1,f2,m_comp2]
   refine EY ?_
   rw[eb]
   refine sO (xs:=(-1)::rs) (enc:=fr) (fun a=>(rs++[1]).filterMap fun b=>if a<=b then some (FU a b)else none) rfl ?_ ?_ ?_
   · intro a ma acc hl
     simp_arith only[ah,af,pN]
     rw[em]
     refine(dt (enc:=fr) (fun b=>if a<=b then some (FU a b)else none) (rs++[1]) acc ?_ hl).trans rfl
     intro b mb
     have h1:Fm 2000 a:=(j8 hr a ma).mono (by decide)
     have h2:Fm 2000 b:=(gF hr b mb).mono (by decide)
     simp_arith only[ah,af,FZ,bq.eq,nlt]
     by_cases c:a<=b<;>simp[c,FU]
   · exact IT (ly l8) (by omega)
   · simp_arith only[ah,af,HD,q1,q2,q3,q4,q5,q6,q7,q8,f0,f1,f2,m_comp2]
     rw[em]
     refine sO (xs:=rs++[1]) (enc:=fr) (fun a=>((-1)::rs).filterMap fun b=>if b<=a then some (FT a b)else none) rfl ?_ ?_ ?_
     · intro a ma acc hl
       simp_arith only[ah,af,pN]
       try rw[eb]
       refine(dt (enc:=fr) (fun b=>if b<=a then some (FT a b)else none) ((-1)::rs) acc ?_ hl).trans rfl
       intro b mb
       have h1:Fm 2000 a:=(gF hr a ma).mono (by decide)
       have h2:Fm 2000 b:=(j8 hr b mb).mono (by decide)
       simp_arith only[ah,af,FZ,bq.eq,nlt]
       by_cases c:b<=a<;>simp[c,FT]
     · exact IT (og l8) (by omega)
     · have hF:=ly l8
       have hR:=og l8
       unfold E_ at hF
       unfold E7 at hR
       exact cU (by omega) (kB hQ)
noncomputable def inr(n:Int):Int:=((n+1)*(n+2)).fdiv 2+n
noncomputable def FH(f:Nat)(n:Int):Int:=if f=0 then n+1 else if f=1 then inr n else 2*inr n
noncomputable def FI(f:Nat)(ps:List (List Rat))(d:Nat):Int:=(IV d).foldl (fun m j=>m*FH f ((nuQ ps j).length:Nat)) 1
theorem eg(f:Nat)(ps:List (List Rat))(d:Nat):FI f ps (d+1)=FI f ps d*FH f ((nuQ ps d).length:Nat):=by unfold FI;rw[List.range_succ,KB];rfl
theorem zp{n:Int}(h0:0<=n)(h8:n<=8):0<=inr n/\inr n<=100:=by
 unfold inr
 have:n=0\/n=1\/n=2\/n=3\/n=4\/n=5\/n=6\/n=7\/n=8:=by omega
 rcases this with rfl|rfl|rfl|rfl|rfl|rfl|rfl|rfl|rfl<;>decide
theorem o4{f:Nat}{n:Int}(h0:0<=n)(h8:n<=8):0<=FH f n/\FH f n<=200:=by
 have:=zp h0 h8
 unfold FH
 split
 · omega
 · split<;>omega
noncomputable def GU(ps:List (List Rat)):Prop:=Pw ps/\∀j,j<dimP ps->Rs (nuQ ps j)
noncomputable def aM:List W->(HH->Prop)->Prop:=fun ws Q=>∃(n:Int)(f:Fin 3),ws=[.d (.int n),.d (.str (cI f))]/\((0<=n)/\(n<=8))/\Q (.int (FH f.val n))
theorem aM.mono:∀ws (Q Q':HH->Prop),(∀d,Q d->Q' d)->aM ws Q->aM ws Q':=fun _ _ _ h_=>H0 fun _=>H0 fun _=>HP (HP (h_ _))
theorem aM.len:∀ws (Q:HH->Prop),aM ws Q->ws.length=2:=fun _ _ h_=>by obtain⟨_,_,e_,_⟩:=h_;subst e_;rfl
theorem aM.eq(n:Int)(f:Fin 3)(n0:0<=n)(n8:n<=8):aM [.d (.int n),.d (.str (cI f))]=VL.ret (.int (FH f.val n):HH):=by
 refine ai fun Q=>⟨?_,fun q_=>⟨n,f,rfl,⟨n0,n8⟩,q_⟩⟩
 rintro⟨n',f',e_,_,q_⟩
 simp_arith only[cL,bG,bJ,aO,aR,bP,dC]at e_
 obtain⟨rfl,rfl⟩:=e_
 exact q_
theorem d9:FnScope ["many", "family", "inner"] ["many", "family"] (defScope (EG 27)):=⟨rfl,rfl,rfl,by decide +kernel,rfl,by decide +kernel,by decide +kernel⟩
theorem d_many_side_looks(Fn:FnIn K mg "many_side_looks" (EG 27) ["many", "family"])(Z:Bz mg)    : Dfn P w K mg base rl "many_side_looks" ["many", "family"] 1 aM:=by
 have sc:=d9
 refine Dfn.of Fn sc (aM.mono) (aM.len) (fun cdv A outer s H E hr=>(ag (bW (aF dN cu (ay _) (vn 1) aH) (ak (av (v_add (vn 0) ae))) ba)
  (ag (aj 2 sc.nd (v_add (v_div (v_mul (v_add (vn 0) ae) (v_add (vn 0) ae)) ae) (vn 0)))
  (ak (av (dG (aF dN cu (ay _) (vn 1) aH) (vn 2) (v_mul ae (vn 2)))))))) ?_
 rintro ws Q ⟨n,f,rfl,⟨n0,n8⟩,hQ⟩
 refine az ?_
 have q1:decide (HG "inner" = HG "corner")=false:=by decide +kernel
 have q2:decide (HG "round" = HG "corner")=false:=by decide +kernel
 have q3:decide (HG "round" = HG "inner")=false:=by decide +kernel
 have q4:decide (HG "corner" = HG "corner")=true:=by decide +kernel
 have q5:decide (HG "inner" = HG "inner")=true:=by decide +kernel
 have q6:decide (HG "corner" = HG "round")=false:=by decide +kernel
 have q7:decide (HG "inner" = HG "round")=false:=by decide +kernel
 have q8:decide (HG "round" = HG "round")=true:=by decide +kernel
 have f0:cI 0=HG "corner" := rfl
 have f1:cI 1=HG "inner" := rfl
 have f2:cI 2=HG "round" := rfl
 have c1:aN (n+1) (n+2):=.lt (by omega)
 have c2:aN 2 (inr n):=.lt (by decide)
 have d2:fI ((n+1)*(n+2)) 2:=fI.of (by decide) (by decide)
 have ei:((n+1)*(n+2)).fdiv 2+n=inr n:=rfl
 obtain rfl|rfl|rfl:=pW f
 · simp_arith only[ah,af,q1,q2,q3,q4,q5,q6,q7,q8,f0,f1,f2]
   exact aw hQ
 · simp_arith only[ah,af,q1,q2,q3,q4,q5,q6,q7,q8,f0,f1,f2,ei]
   exact aw hQ
 · simp_arith only[ah,af,q1,q2,q3,q4,q5,q6,q7,q8,f0,f1,f2,ei]
   exact aw hQ
noncomputable def bM:List W->(HH->Prop)->Prop:=fun ws Q=>∃(ps:List (List Rat))(f:Fin 3),ws=[.d (ptsQ ps),.d (.str (cI f))]/\((GU ps))/\Q (.int (FI f.val ps (dimP ps)))
theorem bM.mono:∀ws (Q Q':HH->Prop),(∀d,Q d->Q' d)->bM ws Q->bM ws Q':=fun _ _ _ h_=>H0 fun _=>H0 fun _=>HP (HP (h_ _))
theorem bM.len:∀ws (Q:HH->Prop),bM ws Q->ws.length=2:=fun _ _ h_=>by obtain⟨_,_,e_,_⟩:=h_;subst e_;rfl
theorem bM.eq(ps:List (List Rat))(f:Fin 3)(hw:GU ps):bM [.d (ptsQ ps),.d (.str (cI f))]=VL.ret (.int (FI f.val ps (dimP ps)):HH):=by
 refine ai fun Q=>⟨?_,fun q_=>⟨ps,f,rfl,hw,q_⟩⟩
 rintro⟨ps',f',e_,_,q_⟩
 simp_arith only[cL,bG,bJ,aO,aR,bP,dC]at e_
 obtain⟨rfl,rfl⟩:=e_
 exact q_
theorem iQ:FnScope ["points", "family", "many", "side"] ["points", "family"] (defScope (EG 28)):=⟨rfl,rfl,rfl,by decide +kernel,rfl,by decide +kernel,by decide +kernel⟩
theorem d_many_looks(Fn:FnIn K mg "many_looks" (EG 28) ["points", "family"])(Z:Bz mg)(d_sides_of:∀rl,Dfn P w K mg base rl "sides_of" ["points"] 1 b8)(d_many_side_looks:∀rl,Dfn P w K mg base rl "many_side_looks" ["many", "family"] 1 aM)(d_numbers_at:∀rl,Dfn P w K mg base rl "numbers_at" ["points", "side"] 2 br)   : Dfn P w K mg base rl "many_looks" ["points", "family"] 3 bM:=by
 have sc:=iQ
 refine Dfn.of Fn sc (bM.mono) (bM.len) (fun cdv A outer s H E hr=>(ag (aj 2 sc.nd ae)
  (ag (b_ [3] IZ rfl (bI Z.range_ (aa (al (d_sides_of _) (hr.mono (by decide)) (aa (vn 0) ac)) ac)) (aq 3 sc.nd) (ak (w6 2 sc.nd v_ (al (d_many_side_looks _) (hr.mono (by decide)) (aa (cv Z.len_ (aa (al (d_numbers_at _) (hr.mono (by decide)) (aa (vn 0) (aa (vn 3) ac))) ac)) (aa (vn 1) ac))))))
  (ak (av (vn 2)))))) ?_
 rintro ws Q ⟨ps,f,rfl,hw,hQ⟩
 refine az ?_
 have sz:=Is
 obtain⟨h,hN⟩:=hw
 have h1:=h.1
 have d4:=h.2.2.2.2
 have gn : -(2^62)<=((dimP ps:Nat):Int)/\((dimP ps:Nat):Int)<2^62:=by omega
 simp_arith only[ah,af,b8.eq]
 refine i6 (fun i ρ=>ρ=[some (.d (ptsQ ps)),some (.d (.str (cI f))),some (.d (.int (FI f.val ps i))),none]) rfl ?_ ?_
 · rintro i hi ρ rfl K hK
   have j0:0<=0+(i:Int):=by omega
   have jl:0+(i:Int)<dimP ps:=by omega
   have hr:=hN i hi
   have et:(0+(i:Int)).toNat=i:=by omega
   have n0:(0:Int)<=((nuQ ps i).length:Nat):=by omega
   have n8:((nuQ ps i).length:Int)<=8:=by have:=hr.1;omega
   have cm:∀x:Int,aN x (FH f.val ((nuQ ps i).length:Nat)):=fun x=>.rt (by have:=o4 (f:=f.val) n0 n8;omega)
   simp_arith only[ah,af,HD,br.eq,aM.eq,et,cm]
   exact hK _ (ck (by rw[eg];rfl))
 · rintro ρ rfl
   simp_arith only[ah,af]
   exact aw hQ
noncomputable def bc:List W->(HH->Prop)->Prop:=fun ws Q=>∃(ps:List (List Rat))(f:Fin 3),ws=[.d (ptsQ ps),.d (.str (cI f))]/\((GU ps)/\(FI f.val ps (dimP ps)<=3000))/\Q (.list ((IV (dimP ps)).map fun j=>K5 (sl f.val (nuQ ps j))))
theorem bc.mono:∀ws (Q Q':HH->Prop),(∀d,Q d->Q' d)->bc ws Q->bc ws Q':=fun _ _ _ h_=>H0 fun _=>H0 fun _=>HP (HP (h_ _))
theorem bc.len:∀ws (Q:HH->Prop),bc ws Q->ws.length=2:=fun _ _ h_=>by obtain⟨_,_,e_,_⟩:=h_;subst e_;rfl
theorem bc.eq(ps:List (List Rat))(f:Fin 3)(hw:GU ps)(hm:FI f.val ps (dimP ps)<=3000):bc [.d (ptsQ ps),.d (.str (cI f))]=VL.ret (.list ((IV (dimP ps)).map fun j=>K5 (sl f.val (nuQ ps j))):HH):=by
 refine ai fun Q=>⟨?_,fun q_=>⟨ps,f,rfl,⟨hw,hm⟩,q_⟩⟩
 rintro⟨ps',f',e_,_,q_⟩
 simp_arith only[cL,bG,bJ,aO,aR,bP,dC]at e_
 obtain⟨rfl,rfl⟩:=e_
 exact q_
theorem fC:FnScope ["points", "family"] ["points", "family"] (defScope (EG 29)):=⟨rfl,rfl,rfl,by decide +kernel,rfl,by decide +kernel,by decide +kernel⟩
theorem d_looks_by_side(Fn:FnIn K mg "looks_by_side" (EG 29) ["points", "family"])(Z:Bz mg)(d_many_looks:∀rl,Dfn P w K mg base rl "many_looks" ["points", "family"] 3 bM)(d_side_looks:∀rl,Dfn P w K mg base rl "side_looks" ["numbers", "family"] 2 bL)(d_numbers_at:∀rl,Dfn P w K mg base rl "numbers_at" ["points", "side"] 2 br)(d_sides_of:∀rl,Dfn P w K mg base rl "sides_of" ["points"] 1 b8)(gl_MOST_LOOKS:GlD K mg "MOST_LOOKS" (.int 3000))  : Dfn P w K mg base rl "looks_by_side" ["points", "family"] 4 bc:=by
 have sc:=fC
 refine Dfn.of Fn sc (bc.mono) (bc.len) (fun cdv A outer s H E hr=>(ag (bW (aF oU nE (ay _) (al (d_many_looks _) (hr.mono (by decide)) (aa (vn 0) (aa (vn 1) ac))) (dX gl_MOST_LOOKS)) (ak lj) ba)
  (ak (av (ci ["side", "points", "family"] [none,some 0,some 1] rfl (bI Z.range_ (aa (al (d_sides_of _) (hr.mono (by decide)) (aa (vn 0) ac)) ac)) (fun _=>(aq 0 (show Js (["side", "points", "family"]:List Str) by decide +kernel))) (fun _=>b9) (fun _=>(al (d_side_looks _) (hr.mono (by decide)) (aa (al (d_numbers_at _) (hr.mono (by decide)) (aa (vn 1) (aa (vn 0) ac))) (aa (vn 2) ac))))))))) ?_
 rintro ws Q ⟨ps,f,rfl,⟨hw,hm⟩,hQ⟩
 refine az ?_
 have sz:=Is
 obtain⟨h,hN⟩:=id hw
 have h1:=h.1
 have d4:=h.2.2.2.2
 have gn : -(2^62)<=((dimP ps:Nat):Int)/\((dimP ps:Nat):Int)<2^62:=by omega
 have dm:decide (3000<FI f.val ps (dimP ps))=false:=by simp;omega
 simp_arith only[ah,af,bM.eq,b8.eq,dm]
 refine lZ (fun j=>K5 (sl f.val (nuQ ps j))) ?_ (by omega) ?_
 · intro j hj
   have j0:0<=0+(j:Int):=by omega
   have jl:0+(j:Int)<dimP ps:=by omega
   have et:(0+(j:Int)).toNat=j:=by omega
   have hr:=hN j hj
   simp_arith only[ah,af,FZ,br.eq,bL.eq,et]
 · exact kB hQ
theorem ub{rows:List (List α)}(h:i<rows.length):chP (rows.take (i+1))=(chP (rows.take i)).flatMap fun b=>rows[i].map fun t=>b++[t]:=by rw[IJ h,jg]
noncomputable def kD(f:Nat)(ps:List (List Rat)):List (List HH):=(IV (dimP ps)).map fun j=>sl f (nuQ ps j)
theorem E4(n:Nat):(n+1)*(n+2)=n*(n+1)+2*(n+1):=by rw[Mp,NF]
theorem ql{x:Rat}{g:Rat->HH}:∀{xs:List Rat},(∀b∈xs,x<=b)->(xs.filterMap fun b=>if x<=b then some (g b)else none).length=xs.length
 | [],_=>rfl
 | y::ys,h=>by rw[JS,if_pos (h y HM)];simp[ql (g:=g) fun b mb=>h b (HK _ mb)]
theorem ya(E:List Rat)(g:Rat->Rat->HH):∀{rs:List Rat},rs.Pairwise (· < ·)->(∀a∈rs,∀b∈E,a<=b)->2*(rs.flatMap fun a=>(rs++E).filterMap fun b=>if a<=b then some (g a b)else none).length=rs.length*(rs.length+1)+2*rs.length*E.length
 | [],_,_=>by simp
 | x::xs,h,hE=>by
   obtain⟨h1,h2⟩:=KS.mp h
   have ih:=ya E g h2 fun a ma=>hE a (HK _ ma)
   have e1:((x::xs++E).filterMap fun b=>if x<=b then some (g x b)else none).length=xs.length+1+E.length:=by
    rw[ql]
    · simp;omega
    · intro b mb
      rcases Ip.mp mb with mb|mb
      · rcases Ih.mp mb with rfl|mb
        · exact ID
        · exact Iq (h1 b mb)
      · exact hE x HM b mb
   have e2:(xs.flatMap fun a=>(x::xs++E).filterMap fun b=>if a<=b then some (g a b)else none)=xs.flatMap fun a=>(xs++E).filterMap fun b=>if a<=b then some (g a b)else none:=by
    rw[List.flatMap_def,List.flatMap_def]
    congr 1
    refine Ko fun a ma=>?_
    rw[MQ,JS,if_neg (JK.mpr (h1 a ma))]
   rw[JW,Ic,e1,e2,LI,ih,Io]
   have:(xs.length+1)*(xs.length+1+1)=xs.length*(xs.length+1)+2*(xs.length+1):=E4 _
   have:2*(xs.length+1)*E.length=2*xs.length*E.length+2*E.length:=by rw[LI,NF]
   omega
theorem uZ(h:rs.Pairwise (· < ·))(hg:∀q∈rs,Gd q):2*(E_ rs).length=(rs.length+1)*(rs.length+2)+2*rs.length:=by
 unfold E_
 have e1:((rs++[1]).filterMap fun b=>if(-1:Rat)<=b then some (FU (-1) b)else none).length=rs.length+1:=by
  rw[ql]
  · simp
  · intro b mb
    rcases Ip.mp mb with mb|mb
    · exact IS (by decide) (hg b mb).2.1
    · cases Ij.mp mb;decide
 have e2:=ya [1] FU h fun a ma b mb=>by cases Ij.mp mb;exact Iq (hg a ma).2.2
 rw[JW,Ic,e1,LI,e2]
 have:(rs.length+1)*(rs.length+2)=rs.length*(rs.length+1)+2*(rs.length+1):=E4 _
 simp
 omega
theorem qj{x:Rat}{g:Rat->HH}:∀{xs:List Rat},(∀b∈xs,b<=x)->(xs.filterMap fun b=>if b<=x then some (g b)else none).length=xs.length
 | [],_=>rfl
 | y::ys,h=>by rw[JS,if_pos (h y HM)];simp[qj (g:=g) fun b mb=>h b (HK _ mb)]
theorem x9(E:List Rat)(g:Rat->Rat->HH):∀{rs:List Rat},rs.Pairwise (· < ·)->(∀a∈rs,∀b∈E,b<=a)->2*(rs.flatMap fun a=>(E++rs).filterMap fun b=>if b<=a then some (g a b)else none).length=rs.length*(rs.length+1)+2*rs.length*E.length
 | [],_,_=>by simp
 | x::xs,h,hE=>by
   obtain⟨h1,h2⟩:=KS.mp h
   have ih:=x9 (E++[x]) g h2 fun a ma b mb=>by
    rcases Ip.mp mb with mb|mb
    · exact hE a (HK _ ma) b mb
    · cases Ij.mp mb;exact Iq (h1 a ma)
   have e1:((E++x::xs).filterMap fun b=>if b<=x then some (g x b)else none).length=E.length+1:=by
    rw[show E++x::xs=(E++[x])++xs by simp,List.filterMap_append,Ic,qj]
    · have:(xs.filterMap fun b=>if b<=x then some (g x b)else none)=[]:=by
        rw[List.filterMap_eq_nil_iff]
        intro b mb
        rw[if_neg (JK.mpr (h1 b mb))]
      rw[this];simp
    · intro b mb
      rcases Ip.mp mb with mb|mb
      · exact hE x HM b mb
      · cases Ij.mp mb;exact ID
   have e2:(fun a=>(E++x::xs).filterMap fun b=>if b<=a then some (g a b)else none)=fun a=>((E++[x])++xs).filterMap fun b=>if b<=a then some (g a b)else none:=by
    funext a;rw[show E++x::xs=(E++[x])++xs by simp]
   rw[JW,Ic,e1,e2,LI,ih,Io,Ic,K0]
   have:(xs.length+1)*(xs.length+1+1)=xs.length*(xs.length+1)+2*(xs.length+1):=E4 _
   have:2*(xs.length+1)*E.length=2*xs.length*E.length+2*E.length:=by rw[LI,NF]
   have:2*xs.length*(E.length+1)=2*xs.length*E.length+2*xs.length:=by rw[LI];omega
   omega
theorem uY(h:rs.Pairwise (· < ·))(hg:∀q∈rs,Gd q):2*(E7 rs).length=(rs.length+1)*(rs.length+2)+2*rs.length:=by
 unfold E7
 have e1:(((-1)::rs).filterMap fun b=>if b<=(1:Rat)then some (FT 1 b)else none).length=rs.length+1:=by
  rw[qj]
  · simp
  · intro b mb
    rcases Ih.mp mb with rfl|mb
    · decide
    · exact Iq (hg b mb).2.2
 have e2:=x9 [-1] FT h fun a ma b mb=>by cases Ij.mp mb;exact IS (by decide) (hg a ma).2.1
 rw[NG,Ic,List.flatMap_singleton,e1,LI]
 have e3:(rs.flatMap fun a=>((-1)::rs).filterMap fun b=>if b<=a then some (FT a b)else none)=rs.flatMap fun a=>([-1]++rs).filterMap fun b=>if b<=a then some (FT a b)else none:=rfl
 rw[e3,e2]
 have:(rs.length+1)*(rs.length+2)=rs.length*(rs.length+1)+2*(rs.length+1):=E4 _
 simp
 omega
theorem tS{l:Nat}(h:2*l=(n+1)*(n+2)+2*n):inr (n:Int)=(l:Int):=by
 unfold inr
 have e:((n:Int)+1)*((n:Int)+2)=((2*(l-n):Nat):Int):=by
  have:2*(l-n)=(n+1)*(n+2):=by omega
  rw[this];push_cast;rfl
 rw[e,Kq _ (by decide)]
 have:n<=l:=by have:0<=(n+1)*(n+2):=Ix _;omega
 omega
theorem xX{f:Nat}(h:rs.Pairwise (· < ·))(hg:∀q∈rs,Gd q):((sl f rs).length:Int)=FH f (rs.length:Nat):=by
 have h1:=tS (uZ h hg)
 have h2:=tS (uY h hg)
 unfold sl FH
 split
 · simp
 · split
   · exact h1.symm
   · rw[Ic];push_cast;omega
theorem ue(f:Nat)(ps:List (List Rat))(hs:∀j,j<dimP ps->(nuQ ps j).Pairwise (· < ·)/\∀q∈nuQ ps j,Gd q):∀i,i<=dimP ps->((chP ((kD f ps).take i)).length:Int)=FI f ps i
 | 0,_=>by simp[chP,FI]
 | i+1,h=>by
   have hl:i<(kD f ps).length:=by unfold kD;rw[HW,LF];omega
   have e:(kD f ps)[i]=sl f (nuQ ps i):=by simp[kD]
   have ih:=ue f ps hs i (by omega)
   rw[ub hl,eg,<- ih,<- xX (hs i (by omega)).1 (hs i (by omega)).2,e]
   have:∀(l:List (List HH))(r:List HH),(l.flatMap fun b=>r.map fun t=>b++[t]).length=l.length*r.length:=fun l r=>by
    induction l with
    | nil=>simp
    | cons x l ih=>rw[JW,Ic,HW,ih,Io,NF];omega
   rw[this];push_cast;rfl
theorem uf{α:Type}:∀(n:Nat)(rows:List (List α)),rows.length=n->∀b∈chP rows,b.length=n/\∀t∈b,∃r∈rows,t∈r
 | 0,rows,h,b,mb=>by
   cases LR h
   simp[chP]at mb
   subst mb
   exact⟨rfl,by simp⟩
 | n+1,rows,h,b,mb=>by
   rcases List.eq_nil_or_concat rows with rfl|⟨init,l,rfl⟩
   · simp at h
   · rw[List.concat_eq_append]at mb h ⊢
     have hl:init.length=n:=by simpa using h
     rw[jg]at mb
     obtain⟨b',mb',z⟩:=IU.mp mb
     obtain⟨t,mt,rfl⟩:=IM.mp z
     obtain⟨h1,h2⟩:=uf n init hl b' mb'
     refine⟨by simp[h1],fun u mu=>?_⟩
     rcases Ip.mp mu with m|m
     · obtain⟨r,mr,ur⟩:=h2 u m
       exact⟨r,IK _ mr,ur⟩
     · cases Ij.mp m
       exact⟨l,HY _ (Ij.mpr rfl),mt⟩
theorem rP{f:Nat}{n m:Int}(h0:0<=n)(h:n<=m)(h8:m<=8):FH f n<=FH f m:=by
 have hi:inr n<=inr m:=by
  have hn:n=0\/n=1\/n=2\/n=3\/n=4\/n=5\/n=6\/n=7\/n=8:=by omega
  have hm:m=0\/m=1\/m=2\/m=3\/m=4\/m=5\/m=6\/m=7\/m=8:=by omega
  have:∀a:Fin 9,∀b:Fin 9,a.val<=b.val->inr (a.val:Int)<=inr (b.val:Int):=by decide +kernel
  have z:=this ⟨n.toNat,by omega⟩ ⟨m.toNat,by omega⟩ (by show n.toNat<=m.toNat;omega)
  have e1:((n.toNat:Nat):Int)=n:=by omega
  have e2:((m.toNat:Nat):Int)=m:=by omega
  simp only[e1,e2]at z
  exact z
 unfold FH
 split
 · omega
 · split<;>omega
theorem tO{f:Nat}{ps:List (List Rat)}{M:Int}(M8:M<=8)(h:∀j,j<dimP ps->((nuQ ps j).length:Int)<=M):∀i,i<=dimP ps->0<=FI f ps i/\FI f ps i<=(FH f M)^i
 | 0,_=>by simp[FI]
 | i+1,hi=>by
   obtain⟨a,b⟩:=tO (f:=f) M8 h i (by omega)
   have hj:=h i (by omega)
   have m1:=rP (f:=f) (n:=((nuQ ps i).length:Nat)) (by omega) hj M8
   have m0:=(o4 (f:=f) (n:=((nuQ ps i).length:Nat)) (by omega) (by omega)).1
   rw[eg,Int.pow_succ]
   exact⟨Nx a m0,Nw b m1 m0 (Mr a b)⟩
theorem sZ:∀f:Fin 3,∀s:Fin 5,1<=s.val->¬(f.val=2/\s.val=4)->∀i:Fin 5,i.val<=s.val->(FH f.val (mst f.val s.val:Nat))^i.val<=512/\mst f.val s.val<=6/\1<=mst f.val s.val:=by decide +kernel
theorem rN(h:rs.Pairwise (· < ·)):rs.Nodup:=h.imp fun{a b} l e=>by subst e;exact LY l
theorem Bc{s m:Nat}{bs:List (List Rat)}(hb:∀p∈ps,p∈bs)(j:Nat):(nuQ ps j).length<=bs.length:=by
 have hs:=hX (colQ ps j)
 have h1:nuQ ps j ⊆ bs.map fun p=>p.getD j 0:=fun q mq=>by
  obtain⟨p,mp,rfl⟩:=IM.mp ((hs.2 q).mp mq)
  exact IM.mpr ⟨p,hb p mp,rfl⟩
 have:=(rN hs.1).length_le_of_subset h1
 rwa [HW]at this
theorem lb{f s:Nat}(h:Wd f s ps):dimP ps=s/\GU ps/\(∀i,i<=s->FI f ps i<=512)/\∀j,j<dimP ps->(nuQ ps j).Pairwise (· < ·)/\∀q∈nuQ ps j,Gd q:=by
 obtain⟨hf,s1,s4,hn,h1,h2,hp,bs,hb,hm⟩:=h
 have tb:=fun i (hi:i<=s)=>sZ ⟨f,hf⟩ ⟨s,by omega⟩ s1 hn ⟨i,by omega⟩ hi
 have hd:=zJ hp h1
 have hM:=(tb 0 (by omega)).2.1
 simp only at hM
 have hN:∀j,(nuQ ps j).length<=mst f s:=fun j=>IT (Bc (s:=s) (m:=s) hm j) hb
 have gd:∀j,j<dimP ps->(nuQ ps j).Pairwise (· < ·)/\∀q∈nuQ ps j,Gd q:=fun j hj=>by
  have hs:=hX (colQ ps j)
  refine⟨hs.1,fun q mq=>?_⟩
  obtain⟨p,mp,rfl⟩:=IM.mp ((hs.2 q).mp mq)
  obtain⟨pl,pg⟩:=hp p mp
  have hj':j<p.length:=by omega
  have e:p.getD j 0=p[j]:=by rw[Ib,Ia hj'];rfl
  show Gd (p.getD j 0)
  rw[e]
  exact pg _ (Ji _)
 refine⟨hd,⟨⟨h1,by omega,by rw[hd];exact hp,by omega,by omega⟩,fun j hj=>⟨by have:=hN j;omega,(gd j hj).2⟩⟩,fun i hi=>?_,gd⟩
 have:=(tO (f:=f) (ps:=ps) (M:=(mst f s:Nat)) (by omega) (fun j _=>by have:=hN j;omega) i (by omega)).2
 exact Mr this (tb i hi).1
noncomputable def bY:List W->(HH->Prop)->Prop:=fun ws Q=>∃(s:Sd),ws=[.d (Fd s)]/\((s.Sm))/\Q (fr (szQ s))
theorem bY.mono:∀ws (Q Q':HH->Prop),(∀d,Q d->Q' d)->bY ws Q->bY ws Q':=fun _ _ _ h_=>H0 fun _=>HP (HP (h_ _))
theorem bY.len:∀ws (Q:HH->Prop),bY ws Q->ws.length=1:=fun _ _ h_=>by obtain⟨_,e_,_⟩:=h_;subst e_;rfl
theorem bY.eq(s:Sd)(sm:s.Sm):bY [.d (Fd s)]=VL.ret (fr (szQ s):HH):=by
 refine ai fun Q=>⟨?_,fun q_=>⟨s,rfl,sm,q_⟩⟩
 rintro⟨s',e_,_,q_⟩
 simp_arith only[cL,bG,bJ,aO,aR,bP]at e_
 obtain rfl:=e_
 exact q_
theorem jA:FnScope ["side", "end", "width"] ["side"] (defScope (EG 17)):=⟨rfl,rfl,rfl,by decide +kernel,rfl,by decide +kernel,by decide +kernel⟩
theorem d_side_size(Fn:FnIn K mg "side_size" (EG 17) ["side"])(Z:Bz mg)(d_greater:∀rl,Dfn P w K mg base rl "greater" ["one", "other"] 2 cz)(d_less:∀rl,Dfn P w K mg base rl "less" ["one", "other"] 3 fg)(d_lesser:∀rl,Dfn P w K mg base rl "lesser" ["one", "other"] 2 cR)(d_plus:∀rl,Dfn P w K mg base rl "plus" ["one", "other"] 3 gq)(gl_ZERO:GlD K mg "ZERO" (pr 0 1))(gl_ONE:GlD K mg "ONE" (pr 1 1))  : Dfn P w K mg base rl "side_size" ["side"] 4 bY:=by
 have sc:=jA
 refine Dfn.of Fn sc (bY.mono) (bY.len) (fun cdv A outer s H E hr=>(ag (aj 1 sc.nd (al (d_greater _) (hr.mono (by decide)) (aa (aQ (vn 0) (mF ae)) (aa (dX gl_ZERO) ac))))
  (ag (bW (aF dN cu (ay _) (aQ (vn 0) ae) aH) (ak (av (vn 1))) ba)
  (ag (aj 2 sc.nd (al (d_less _) (hr.mono (by decide)) (aa (vn 1) (aa (al (d_greater _) (hr.mono (by decide)) (aa (aQ (vn 0) ae) (aa (dX gl_ZERO) ac))) ac))))
  (ag (bW (aF dN cu (ay _) (aQ (vn 0) ae) aH) (ak (av (al (d_greater _) (hr.mono (by decide)) (aa (vn 2) (aa (dX gl_ZERO) ac))))) ba)
  (ak (av (al (d_lesser _) (hr.mono (by decide)) (aa (al (d_plus _) (hr.mono (by decide)) (aa (dX gl_ONE) (aa (vn 2) ac))) (aa (dX gl_ONE) ac)))))))))) ?_
 rintro ws Q ⟨s,rfl,sm,hQ⟩
 have w1:decide (HG "from" = HG "to")=false:=by decide +kernel
 have w2:decide (HG "round" = HG "to")=false:=by decide +kernel
 have w3:decide (HG "round" = HG "from")=false:=by decide +kernel
 have w4:decide (HG "to" = HG "to")=true:=by decide +kernel
 have w5:decide (HG "from" = HG "from")=true:=by decide +kernel
 refine az ?_
 have z0:Fm 2000 0:=rp.up
 have z1:Fm 2000 1:=C8.up
 cases s with
 | to t =>
   have a1:Fm 2000 t:=sm.2.up
   simp_arith only[ah,af,cz.eq,fg.eq,cR.eq,gq.eq,HD,w1,w2,w3,w4,w5,Fd]
   exact aw hQ
 | «from» a b =>
   have a1:Fm 2000 b:=sm.2.up
   have a2:Fm 2000 a:=sm.1.up
   have m1:Fm 60 (mx b 0):=dO sm.2 rp
   have m2:Fm 60 (mx a 0):=dO sm.1 rp
   have m3:=m1.up
   have m4:=m2.up
   have m5:Fm 2000 (mx b 0-mx a 0):=(fV m1 m2).mono (by decide)
   simp_arith only[ah,af,cz.eq,fg.eq,cR.eq,gq.eq,HD,w1,w2,w3,w4,w5,Fd]
   exact aw hQ
 | round a b =>
   have a1:Fm 2000 b:=sm.2.up
   have a2:Fm 2000 a:=sm.1.up
   have m1:Fm 60 (mx b 0):=dO sm.2 rp
   have m2:Fm 60 (mx a 0):=dO sm.1 rp
   have m3:=m1.up
   have m4:=m2.up
   have m5:Fm 2000 (mx b 0-mx a 0):=(fV m1 m2).mono (by decide)
   have m6:Fm 2000 (1+(mx b 0-mx a 0)):=(qB C8 (fV m1 m2)).mono (by decide)
   simp_arith only[ah,af,cz.eq,fg.eq,cR.eq,gq.eq,HD,w1,w2,w3,w4,w5,Fd]
   exact aw hQ
noncomputable def bN:List W->(HH->Prop)->Prop:=fun ws Q=>∃(x y:Rat)(b:Bool),ws=[.d (fr x),.d (fr y),.d (.bool b)]/\((Fm 2000 x)/\(Fm 2000 y))/\Q (.bool (Gg x y b))
theorem bN.mono:∀ws (Q Q':HH->Prop),(∀d,Q d->Q' d)->bN ws Q->bN ws Q':=fun _ _ _ h_=>H0 fun _=>H0 fun _=>H0 fun _=>HP (HP (h_ _))
theorem bN.len:∀ws (Q:HH->Prop),bN ws Q->ws.length=3:=fun _ _ h_=>by obtain⟨_,_,_,e_,_⟩:=h_;subst e_;rfl
theorem bN.eq(x y:Rat)(b:Bool)(h1:Fm 2000 x)(h2:Fm 2000 y):bN [.d (fr x),.d (fr y),.d (.bool b)]=VL.ret (.bool (Gg x y b):HH):=by
 refine ai fun Q=>⟨?_,fun q_=>⟨x,y,b,rfl,⟨h1,h2⟩,q_⟩⟩
 rintro⟨x',y',b',e_,_,q_⟩
 simp_arith only[cL,bG,bJ,aO,aR,bP]at e_
 obtain⟨rfl,rfl,rfl⟩:=e_
 exact q_
theorem iR:FnScope ["one", "other", "may_meet"] ["one", "other", "may_meet"] (defScope (EG 18)):=⟨rfl,rfl,rfl,by decide +kernel,rfl,by decide +kernel,by decide +kernel⟩
theorem d_goes_ahead(Fn:FnIn K mg "goes_ahead" (EG 18) ["one", "other", "may_meet"])(Z:Bz mg)(d_is_below:∀rl,Dfn P w K mg base rl "is_below" ["one", "other"] 1 bq)   : Dfn P w K mg base rl "goes_ahead" ["one", "other", "may_meet"] 2 bN:=by
 have sc:=iR
 refine Dfn.of Fn sc (bN.mono) (bN.len) (fun cdv A outer s H E hr=>(ag (bW (de (vn 2)) (ak (av (v_not (al (d_is_below _) (hr.mono (by decide)) (aa (vn 1) (aa (vn 0) ac)))))) ba)
  (ak (av (al (d_is_below _) (hr.mono (by decide)) (aa (vn 0) (aa (vn 1) ac))))))) ?_
 rintro ws Q ⟨x,y,b,rfl,⟨h1,h2⟩,hQ⟩
 refine az ?_
 simp_arith only[ah,af,bq.eq,HD]
 cases b<;>simp only[Gg,Jb,↓reduceIte]at hQ ⊢ <;> exact aw hQ
noncomputable def gr:List W->(HH->Prop)->Prop:=fun ws Q=>∃(x:Rat)(s:Sd)(w:Str),ws=[.d (fr x),.d (Fd s),.d (.str w)]/\((Fm 60 x)/\(s.Sm)/\(F_ w))/\Q (.bool (FO s w x))
theorem gr.mono:∀ws (Q Q':HH->Prop),(∀d,Q d->Q' d)->gr ws Q->gr ws Q':=fun _ _ _ h_=>H0 fun _=>H0 fun _=>H0 fun _=>HP (HP (h_ _))
theorem gr.len:∀ws (Q:HH->Prop),gr ws Q->ws.length=3:=fun _ _ h_=>by obtain⟨_,_,_,e_,_⟩:=h_;subst e_;rfl
theorem gr.eq(x:Rat)(s:Sd)(w:Str)(sx:Fm 60 x)(sm:s.Sm)(hw:F_ w):gr [.d (fr x),.d (Fd s),.d (.str w)]=VL.ret (.bool (FO s w x):HH):=by
 refine ai fun Q=>⟨?_,fun q_=>⟨x,s,w,rfl,⟨sx,sm,hw⟩,q_⟩⟩
 rintro⟨x',s',w',e_,_,q_⟩
 simp_arith only[cL,bG,bJ,aO,aR,bP]at e_
 obtain⟨rfl,rfl,rfl⟩:=e_
 exact q_
theorem u7:FnScope ["x", "side", "way", "ahead", "behind"] ["x", "side", "way"] (defScope (EG 19)):=⟨rfl,rfl,rfl,by decide +kernel,rfl,by decide +kernel,by decide +kernel⟩
theorem d_lies(Fn:FnIn K mg "lies" (EG 19) ["x", "side", "way"])(Z:Bz mg)(d_goes_ahead:∀rl,Dfn P w K mg base rl "goes_ahead" ["one", "other", "may_meet"] 2 bN)   : Dfn P w K mg base rl "lies" ["x", "side", "way"] 3 gr:=by
 have sc:=u7
 refine Dfn.of Fn sc (gr.mono) (gr.len) (fun cdv A outer s H E hr=>(ag (aj 3 sc.nd (al (d_goes_ahead _) (hr.mono (by decide)) (aa (vn 0) (aa (aQ (vn 1) (mF ae)) (aa (eR dN cu (ay _) (vn 2) aH) ac)))))
  (ag (bW (aF dN cu (ay _) (aQ (vn 1) ae) aH) (ak (av (vn 3))) ba)
  (ag (aj 4 sc.nd (al (d_goes_ahead _) (hr.mono (by decide)) (aa (aQ (vn 1) ae) (aa (vn 0) (aa (eR vL nD (ay _) (vn 2) aH) ac)))))
  (ag (bW (aF dN cu (ay _) (aQ (vn 1) ae) aH) (ak (av (v_and (vn 4) (nK (vn 3))))) ba)
  (ak (av (v_or (vn 4) (nK (vn 3)))))))))) ?_
 rintro ws Q ⟨x,s,w,rfl,⟨sx,sm,hw⟩,hQ⟩
 have w1:decide (HG "from" = HG "to")=false:=by decide +kernel
 have w2:decide (HG "round" = HG "to")=false:=by decide +kernel
 have w3:decide (HG "round" = HG "from")=false:=by decide +kernel
 have w4:decide (HG "to" = HG "to")=true:=by decide +kernel
 have w5:decide (HG "from" = HG "from")=true:=by decide +kernel
 refine az ?_
 have sx':=sx.up
 have a1:Fm 2000 s.last:=sm.2.up
 have a2:Fm 2000 s.first:=sm.1.up
 cases s with
 | to t =>
   have a1:Fm 2000 t:=a1
   simp_arith only[ah,af,bN.eq,HD,w1,w2,w3,w4,w5,Fd]
   exact aw hQ
 | «from» a b =>
   have a1:Fm 2000 b:=a1
   have a2:Fm 2000 a:=a2
   simp_arith only[ah,af,bN.eq,HD,w1,w2,w3,w4,w5,Fd]
   exact aw hQ
 | round a b =>
   have a1:Fm 2000 b:=a1
   have a2:Fm 2000 a:=a2
   simp_arith only[ah,af,bN.eq,HD,w1,w2,w3,w4,w5,Fd]
   exact aw hQ
noncomputable def slFS(rs:List Rat):List Sd:=((-1)::rs).flatMap fun a=>(rs++[1]).filterMap fun b=>if a<=b then some (.from a b)else none
noncomputable def slRS(rs:List Rat):List Sd:=(rs++[1]).flatMap fun a=>((-1)::rs).filterMap fun b=>if b<=a then some (.round a b)else none
noncomputable def slS(f:Nat)(rs:List Rat):List Sd:=if f=0 then(rs++[1]).map Sd.to else if f=1 then slFS rs else slFS rs++slRS rs
theorem pU{γ:Type}(p:α->Prop)[DecidablePred p](g:α->β)(h:β->γ)(xs:List α):(xs.filterMap fun b=>if p b then some (h (g b))else none)=(xs.filterMap fun b=>if p b then some (g b)else none).map h:=by
 rw[List.map_filterMap]
 congr 1
 funext b
 by_cases c:p b<;>simp[c]
theorem oi(rs:List Rat):E_ rs=(slFS rs).map Fd:=by
 unfold E_ slFS
 rw[LQ]
 congr 1
 funext a
 exact pU (fun b=>a<=b) (fun b=>Sd.from a b) Fd _
theorem tq(rs:List Rat):E7 rs=(slRS rs).map Fd:=by
 unfold E7 slRS
 rw[LQ]
 congr 1
 funext a
 exact pU (fun b=>b<=a) (fun b=>Sd.round a b) Fd _
theorem xY(f:Nat)(rs:List Rat):sl f rs=(slS f rs).map Fd:=by
 unfold sl slS
 split
 · rw[JG];rfl
 · split
   · exact oi rs
   · rw[Jk,oi,tq]
theorem tp{f:Nat}(h:Rs rs):∀s∈slS f rs,s.Sm:=by
 have hF:∀s∈slFS rs,s.Sm:=fun s ms=>by
  obtain⟨a,ma,h1⟩:=IU.mp ms
  obtain⟨b,mb,h2⟩:=I_.mp h1
  split at h2
  · cases h2;exact⟨j8 h a ma,gF h b mb⟩
  · cases h2
 have hR:∀s∈slRS rs,s.Sm:=fun s ms=>by
  obtain⟨a,ma,h1⟩:=IU.mp ms
  obtain⟨b,mb,h2⟩:=I_.mp h1
  split at h2
  · cases h2;exact⟨gF h a ma,j8 h b mb⟩
  · cases h2
 intro s ms
 unfold slS at ms
 split at ms
 · obtain⟨t,mt,rfl⟩:=IM.mp ms
   exact⟨gF h t mt,gF h t mt⟩
 · split at ms
   · exact hF s ms
   · rcases Ip.mp ms with m|m
     · exact hF s m
     · exact hR s m
noncomputable def rowsS(f:Nat)(ps:List (List Rat)):List (List Sd):=(IV (dimP ps)).map fun j=>slS f (nuQ ps j)
theorem u9(f:Nat)(ps:List (List Rat)):kD f ps=(rowsS f ps).map (Nn Fd):=by
 unfold kD rowsS
 rw[JG]
 exact Ko fun j _=>xY f (nuQ ps j)
theorem u_(f:Nat)(ps:List (List Rat)):((IV (dimP ps)).map fun j=>K5 (sl f (nuQ ps j)))=(rowsS f ps).map fun r=>K5 (r.map Fd):=by
 unfold rowsS
 rw[JG]
 exact Ko fun j _=>by rw[xY];rfl
theorem eV(f:Nat)(ps:List (List Rat)):(rowsS f ps).length=dimP ps:=by unfold rowsS;rw[HW,LF]
theorem iW{f:Nat}(h:i<(rowsS f ps).length):(rowsS f ps)[i]=slS f (nuQ ps i):=by simp[rowsS]
noncomputable def GA(f:Nat)(ps:List (List Rat)):Prop:=GU ps/\ps.length<=8/\(∀j,j<dimP ps->(nuQ ps j).Pairwise (· < ·))/\∀i,i<=dimP ps->FI f ps i<=3000
theorem GA.gd{f:Nat}(h:GA f ps):∀j,j<dimP ps->(nuQ ps j).Pairwise (· < ·)/\∀q∈nuQ ps j,Gd q:=fun j hj=>⟨h.2.2.1 j hj,(h.1.2 j hj).2⟩
theorem GA.len{f:Nat}(h:GA f ps)(hi:i<=dimP ps):(chP ((rowsS f ps).take i)).length<=3000:=by
 have e:=ue f ps h.gd i hi
 have m:=h.2.2.2 i hi
 rw[u9,<- MN,wG,HW]at e
 omega
theorem GA.sm{f:Nat}(h:GA f ps)(hi:i<=dimP ps):∀ss∈chP ((rowsS f ps).take i),ss.length=i/\∀s∈ss,s.Sm:=fun ss ms=>by
 obtain⟨h1,h2⟩:=uf i _ (by rw[JH,eV];omega) ss ms
 refine⟨h1,fun s mt=>?_⟩
 obtain⟨r,mr,hr⟩:=h2 s mt
 obtain⟨j,hj,rfl⟩:=IM.mp (Lc mr)
 exact tp (h.1.2 j (KO.mp hj)) s hr
theorem AV(ps:List (List Rat)):Kd [Kd [],K5 (bi 0 ps.length),K5 (bi 0 ps.length),fr 1]=Ff (rvO ps []):=by
 have h:∀f:List Rat->Bool,(∀p,f p=true)->Fz (plc f ps)=K5 (bi 0 ps.length):=fun f hf=>by
  unfold plc Fz
  rw[NH.mpr fun k _=>hf _]
  congr 1
  exact Ko fun k _=>by show Iw _=Iw (0+(k:Int));rw[Int.zero_add]
 unfold Ff rvO
 dsimp only
 rw[h _ fun p=>by simp[FV],h _ fun p=>by simp[FV]];rfl
noncomputable def cQ:List W->(HH->Prop)->Prop:=fun ws Q=>∃(xs:List Rat)(s:Sd),ws=[.d (.list (xs.map fr)),.d (Fd s)]/\((xs.length<=60)/\(∀x∈xs,Fm 60 x)/\(s.Sm))/\Q (FJ s (FN "shut" xs s) (FN "open" xs s))
theorem cQ.mono:∀ws (Q Q':HH->Prop),(∀d,Q d->Q' d)->cQ ws Q->cQ ws Q':=fun _ _ _ h_=>H0 fun _=>H0 fun _=>HP (HP (h_ _))
theorem cQ.len:∀ws (Q:HH->Prop),cQ ws Q->ws.length=2:=fun _ _ h_=>by obtain⟨_,_,e_,_⟩:=h_;subst e_;rfl
theorem cQ.eq(xs:List Rat)(s:Sd)(hl:xs.length<=60)(hx:∀x∈xs,Fm 60 x)(hs:s.Sm):cQ [.d (.list (xs.map fr)),.d (Fd s)]=VL.ret (FJ s (FN "shut" xs s) (FN "open" xs s):HH):=by
 refine ai fun Q=>⟨?_,fun q_=>⟨xs,s,rfl,⟨hl,hx,hs⟩,q_⟩⟩
 rintro⟨xs',s',e_,_,q_⟩
 simp_arith only[cL,bG,bJ,aO,aR,bP,dC,fH,gz,fF,fY,fB,fU,and_assoc]at e_
 obtain⟨rfl,rfl⟩:=e_
 exact q_
theorem oo:FnScope ["numbers", "look", "shut", "free"] ["numbers", "look"] (defScope (EG 30)):=⟨rfl,rfl,rfl,by decide +kernel,rfl,by decide +kernel,by decide +kernel⟩
theorem d_marked(Fn:FnIn K mg "marked" (EG 30) ["numbers", "look"])(Z:Bz mg)(d_lies:∀rl,Dfn P w K mg base rl "lies" ["x", "side", "way"] 3 gr)(d_side_size:∀rl,Dfn P w K mg base rl "side_size" ["side"] 4 bY)   : Dfn P w K mg base rl "marked" ["numbers", "look"] 5 cQ:=by
 have sc:=oo
 refine Dfn.of Fn sc (cQ.mono) (cQ.len) (fun cdv A outer s H E hr=>(ag (cr 2 sc.nd ["x", "look"] [none,some 1] rfl (bT (vn 0)) (fun _=>(aq 0 (show Js (["x", "look"]:List Str) by decide +kernel))) (fun _=>b9) (fun _=>(al (d_lies _) (hr.mono (by decide)) (aa (vn 0) (aa (vn 1) (aa aH ac))))))
  (ag (cr 3 sc.nd ["x", "look"] [none,some 1] rfl (bT (vn 0)) (fun _=>(aq 0 (show Js (["x", "look"]:List Str) by decide +kernel))) (fun _=>b9) (fun _=>(al (d_lies _) (hr.mono (by decide)) (aa (vn 0) (aa (vn 1) (aa aH ac))))))
  (ak (av (bU (aa (vn 1) (aa (vn 2) (aa (vn 3) (aa (al (d_side_size _) (hr.mono (by decide)) (aa (vn 1) ac)) ac)))))))))) ?_
 rintro ws Q ⟨xs,s,rfl,⟨hl,hx,hs⟩,hQ⟩
 refine az ?_
 have sz:=Is
 have ws:F_ "shut" := .inr (.inl rfl)
 have wo:F_ "open" := .inr (.inr rfl)
 simp_arith only[ah,af]
 refine EY (cq (xs:=xs) (enc:=fr) (fun x=>.bool (FO s "shut" x)) rfl ?_ (by omega) ?_)
 · intro x mx
   have h:=hx x mx
   simp_arith only[ah,af,FZ,gr.eq]
 simp_arith only[ah,af]
 refine EY (cq (xs:=xs) (enc:=fr) (fun x=>.bool (FO s "open" x)) rfl ?_ (by omega) ?_)
 · intro x mx
   have h:=hx x mx
   simp_arith only[ah,af,FZ,gr.eq]
 simp_arith only[ah,af,bY.eq]
 refine aw ?_
 unfold FJ Gu FN at hQ
 rw[JG,JG]at hQ
 exact hQ
noncomputable def cy:List W->(HH->Prop)->Prop:=fun ws Q=>∃(r:Rv)(e:Sd)(s f:List Bool),ws=[.d (Ff r),.d (FJ e s f)]/\((∀k∈r.sh,k<s.length)/\(∀k∈r.op,k<f.length)/\(r.es.length<=60)/\(r.sh.length<=60)/\(r.op.length<=60)/\(Fm 2000 r.sz)/\(Fm 2000 (szQ e)))/\Q (Ff (r.wid e s f))
theorem cy.mono:∀ws (Q Q':HH->Prop),(∀d,Q d->Q' d)->cy ws Q->cy ws Q':=fun _ _ _ h_=>H0 fun _=>H0 fun _=>H0 fun _=>H0 fun _=>HP (HP (h_ _))
theorem cy.len:∀ws (Q:HH->Prop),cy ws Q->ws.length=2:=fun _ _ h_=>by obtain⟨_,_,_,_,e_,_⟩:=h_;subst e_;rfl
theorem cy.eq(r:Rv)(e:Sd)(s f:List Bool)(hs:∀k∈r.sh,k<s.length)(ho:∀k∈r.op,k<f.length)(hl:r.es.length<=60)(sl:r.sh.length<=60)(ol:r.op.length<=60)(q1:Fm 2000 r.sz)(q2:Fm 2000 (szQ e)):cy [.d (Ff r),.d (FJ e s f)]=VL.ret (Ff (r.wid e s f):HH):=by
 refine ai fun Q=>⟨?_,fun q_=>⟨r,e,s,f,rfl,⟨hs,ho,hl,sl,ol,q1,q2⟩,q_⟩⟩
 rintro⟨r',e',s',f',e_,_,q_⟩
 simp_arith only[cL,bG,bJ,aO,aR,bP,dC,fH,gz,fF,fY,fB,fU,and_assoc]at e_
 obtain⟨rfl,rfl,rfl,rfl⟩:=e_
 exact q_
theorem mM:FnScope ["row", "mark", "box", "shut", "free", "size", "look", "shut_there", "free_there", "size_there"] ["row", "mark"] (defScope (EG 31)):=⟨rfl,rfl,rfl,by decide +kernel,rfl,by decide +kernel,by decide +kernel⟩
theorem d_widened(Fn:FnIn K mg "widened" (EG 31) ["row", "mark"])(Z:Bz mg)(d_times:∀rl,Dfn P w K mg base rl "times" ["one", "other"] 3 dM)   : Dfn P w K mg base rl "widened" ["row", "mark"] 4 cy:=by
 have sc:=mM
 refine Dfn.of Fn sc (cy.mono) (cy.len) (fun cdv A outer s H E hr=>(ag (jq (vn 0) (fS (n:=4) rfl (aP (aq 2 sc.nd) (aP (aq 3 sc.nd) (aP (aq 4 sc.nd) (aP (aq 5 sc.nd) dF))))))
  (ag (jq (vn 1) (fS (n:=4) rfl (aP (aq 6 sc.nd) (aP (aq 7 sc.nd) (aP (aq 8 sc.nd) (aP (aq 9 sc.nd) dF))))))
  (ak (av (bU (aa (nM (vn 2) (bU (aa (vn 6) ac))) (aa (ci ["place", "shut_there"] [none,some 7] rfl (bT (vn 3)) (fun _=>(aq 0 (show Js (["place", "shut_there"]:List Str) by decide +kernel))) (fun _=>lf (de (aQ (vn 1) (vn 0)))) (fun _=>(vn 0))) (aa (ci ["place", "free_there"] [none,some 8] rfl (bT (vn 4)) (fun _=>(aq 0 (show Js (["place", "free_there"]:List Str) by decide +kernel))) (fun _=>lf (de (aQ (vn 1) (vn 0)))) (fun _=>(vn 0))) (aa (al (d_times _) (hr.mono (by decide)) (aa (vn 5) (aa (vn 9) ac))) ac)))))))))) ?_
 rintro ws Q ⟨r,e,s,f,rfl,⟨hs,ho,hl,sl,ol,q1,q2⟩,hQ⟩
 refine az ?_
 have sz:=Is
 have g1:(r.es.map Fd).length+1<=sizeLine:=by rw[HW];omega
 have tb:tupD (boxD r.es)=some (r.es.map Fd):=rfl
 simp_arith only[ah,af,Ff,FJ,Fz,Gu,tb]
 refine ug (xs:=r.sh) (enc:=fun k:Nat=>Iw (k:Int)) (fun k=>if s.getD k false=true then some (Iw (k:Int))else none) rfl ?_ (by omega) ?_
 · intro k mk
   have e1:=eO (xs:=s) false (show(0:Int)<=(k:Int) by omega) (by have:=hs k mk;omega)
   rw[Jo]at e1
   have e2:atI (s.map Lj) (k:Int)=some (.bool (s.getD k false)):=by rw[cA,e1];rfl
   simp_arith only[ah,af,FZ,e2]
   try rfl
   try (split<;>rfl)
 refine ug (xs:=r.op) (enc:=fun k:Nat=>Iw (k:Int)) (fun k=>if f.getD k false=true then some (Iw (k:Int))else none) rfl ?_ (by omega) ?_
 · intro k mk
   have e1:=eO (xs:=f) false (show(0:Int)<=(k:Int) by omega) (by have:=ho k mk;omega)
   rw[Jo]at e1
   have e2:atI (f.map Lj) (k:Int)=some (.bool (f.getD k false)):=by rw[cA,e1];rfl
   simp_arith only[ah,af,FZ,e2]
   try rfl
   try (split<;>rfl)
 rw[wp (fun k=>s.getD k false=true) (fun k:Nat=>Iw (k:Int)),wp (fun k=>f.getD k false=true) (fun k:Nat=>Iw (k:Int))]
 simp_arith only[ah,af,dM.eq]
 refine aw ?_
 have eq:Ff (r.wid e s f) = .tuple [.tuple (r.es.map Fd++[Fd e]),.list ((r.sh.filter fun k=>decide (s.getD k false=true)).map fun k:Nat=>.int (k:Int)),.list ((r.op.filter fun k=>decide (f.getD k false=true)).map fun k:Nat=>.int (k:Int)),fr (r.sz*szQ e)]:=by
  unfold Ff Rv.wid boxD Fz
  rw[Jk]
  simp
 rw[eq]at hQ
 exact hQ
noncomputable def be:List W->(HH->Prop)->Prop:=fun ws Q=>∃(ps:List (List Rat))(f:Fin 3),ws=[.d (ptsQ ps),.d (.str (cI f))]/\((GA f.val ps))/\Q (.list ((chP (rowsS f.val ps)).map fun ss=>Ff (rvO ps ss)))
theorem be.mono:∀ws (Q Q':HH->Prop),(∀d,Q d->Q' d)->be ws Q->be ws Q':=fun _ _ _ h_=>H0 fun _=>H0 fun _=>HP (HP (h_ _))
theorem be.len:∀ws (Q:HH->Prop),be ws Q->ws.length=2:=fun _ _ h_=>by obtain⟨_,_,e_,_⟩:=h_;subst e_;rfl
theorem be.eq(ps:List (List Rat))(f:Fin 3)(hw:GA f.val ps):be [.d (ptsQ ps),.d (.str (cI f))]=VL.ret (.list ((chP (rowsS f.val ps)).map fun ss=>Ff (rvO ps ss)):HH):=by
 refine ai fun Q=>⟨?_,fun q_=>⟨ps,f,rfl,hw,q_⟩⟩
 rintro⟨ps',f',e_,_,q_⟩
 simp_arith only[cL,bG,bJ,aO,aR,bP,dC,fH,gz,fF,fY,fB,fU,and_assoc]at e_
 obtain⟨rfl,rfl⟩:=e_
 exact q_
theorem fD:FnScope ["points", "family", "places", "rows", "side", "side_rows", "numbers", "marks"] ["points", "family"] (defScope (EG 32)):=⟨rfl,rfl,rfl,by decide +kernel,rfl,by decide +kernel,by decide +kernel⟩
theorem d_counted_looks(Fn:FnIn K mg "counted_looks" (EG 32) ["points", "family"])(Z:Bz mg)(d_looks_by_side:∀rl,Dfn P w K mg base rl "looks_by_side" ["points", "family"] 4 bc)(d_marked:∀rl,Dfn P w K mg base rl "marked" ["numbers", "look"] 5 cQ)(d_widened:∀rl,Dfn P w K mg base rl "widened" ["row", "mark"] 4 cy)(gl_ONE:GlD K mg "ONE" (pr 1 1))  : Dfn P w K mg base rl "counted_looks" ["points", "family"] 6 be:=by
 have sc:=fD
 refine Dfn.of Fn sc (be.mono) (be.len) (fun cdv A outer s H E hr=>(ag (aj 2 sc.nd (nL Z.list_ Z.range_ (aa (cv Z.len_ (aa (vn 0) ac)) ac)))
  (ag (aj 3 sc.nd (cE (aa (bU (aa (bU ac) (aa (vn 2) (aa (vn 2) (aa (dX gl_ONE) ac))))) ac)))
  (ag (b_ [4,5,6,7] IZ rfl (iE Z.enumerate_ (aa (al (d_looks_by_side _) (hr.mono (by decide)) (aa (vn 0) (aa (vn 1) ac))) ac)) (fS (n:=2) rfl (aP (aq 4 sc.nd) (aP (aq 5 sc.nd) dF))) (ag (cr 6 sc.nd ["point", "side"] [none,some 4] rfl (dU (vn 0)) (fun _=>(aq 0 (show Js (["point", "side"]:List Str) by decide +kernel))) (fun _=>b9) (fun _=>(aQ (vn 0) (vn 1))))
  (ag (cr 7 sc.nd ["look", "numbers"] [none,some 6] rfl (bT (vn 5)) (fun _=>(aq 0 (show Js (["look", "numbers"]:List Str) by decide +kernel))) (fun _=>b9) (fun _=>(al (d_marked _) (hr.mono (by decide)) (aa (vn 1) (aa (vn 0) ac)))))
  (ak (fP 3 sc.nd ["row", "mark", "marks"] [none,none,some 7] rfl (bT (vn 3)) (fun _=>(aq 0 (show Js (["row", "mark", "marks"]:List Str) by decide +kernel))) (fun _=>b9) (fun _=>(bT (vn 2))) (fun _=>(aq 1 (show Js (["row", "mark", "marks"]:List Str) by decide +kernel))) (fun _=>b9) (fun _=>(al (d_widened _) (hr.mono (by decide)) (aa (vn 0) (aa (vn 1) ac)))))))))
  (ak (av (vn 3))))))) ?_
 rintro ws Q ⟨ps,f,rfl,hw,hQ⟩
 refine az ?_
 have sz:=Is
 have hN:=hw.1
 have hP:=hN.1
 have h8:=hw.2.1
 have hpl:∀p∈ps,p.length=dimP ps:=fun p mp=>(hP.2.2.1 p mp).1
 have hm:=hw.2.2.2 (dimP ps) (HX _)
 have gn : -(2^62)<=((ps.length:Nat):Int)/\((ps.length:Nat):Int)<2^62:=by omega
 have er:=u_ f.val ps
 have rl:=eV f.val ps
 have d4:=hP.2.2.2.2
 have r0:=AV ps
 simp_arith only[ah,af,HD,bc.eq,y9,er,zG,pZ,r0]
 refine eF (xs:=(rowsS f.val ps).zipIdx) (enc:=fun z=>Kd [Iw ((z.2:Nat):Int),K5 (z.1.map Fd)]) (fun i ρ=>ρ=[some (.d (ptsQ ps)),some (.d (.str (cI f))),some (.d (.list (bi 0 ps.length))),some (.d (.list ((chP ((rowsS f.val ps).take i)).map fun ss=>Ff (rvO ps ss)))),none,none,none,none]) rfl rfl ?_ ?_
 · rintro i hi ρ rfl K hK
   have hi1:i<(rowsS f.val ps).length:=by rw[Mq]at hi;exact hi
   have hin:i<dimP ps:=by rw[<- rl];exact hi1
   have ez:(rowsS f.val ps).zipIdx[i]=((rowsS f.val ps)[i],i):=by rw[List.getElem_zipIdx];simp
   rw[ez]
   have tk:=ub hi1
   have rl1:=hw.len (show i<=dimP ps by omega)
   have rl2:=hw.len (show i+1<=dimP ps by omega)
   have hsm:=hw.sm (show i<=dimP ps by omega)
   have hEs:∀s∈(rowsS f.val ps)[i],s.Sm:=by rw[iW hi1];exact tp (hN.2 i hin)
   have El:(rowsS f.val ps)[i].length<=200:=by
    have h1:=ly (hN.2 i hin).1
    have h2:=og (hN.2 i hin).1
    have h3:=(hN.2 i hin).1
    rw[oi,HW]at h1
    rw[tq,HW]at h2
    rw[iW hi1]
    unfold slS
    split
    · simp;omega
    · split
      · omega
      · rw[Ic];omega
   generalize (rowsS f.val ps)[i]=E at tk hEs El ⊢
   generalize chP ((rowsS f.val ps).take i)=C at tk rl1 hsm ⊢
   simp_arith only[ah,af,HD]
   refine EY (cq (xs:=ps) (enc:=Fp) (fun p=>fr (p.getD i 0)) rfl ?_ (by omega) ?_)
   · intro p mp
     have e:=lY (si hP.2.2.1) hin p mp
     simp_arith only[ah,af,FZ,HD,e]
   have em:ps.map (fun p=>fr (p.getD i 0))=(ps.map fun p=>p.getD i 0).map fr:=by rw[JG];rfl
   rw[em]
   have cl:(ps.map fun p=>p.getD i 0).length<=60:=by rw[HW];omega
   have c60:∀x∈ps.map (fun p=>p.getD i 0),Fm 60 x:=fun x mx=>(t6 (si hP.2.2.1) hin x mx).mono (by decide)
   have we:∀ss∈C,∀s:Sd,(rvO ps ss).wid s (FN "shut" (ps.map fun p=>p.getD i 0) s) (FN "open" (ps.map fun p=>p.getD i 0) s)=rvO ps (ss++[s]):=fun ss ms s=>uk hpl (hsm ss ms).1 hin s
   have cll:(ps.map fun p=>p.getD i 0).length=ps.length:=HW ..
   generalize (ps.map fun p=>p.getD i 0)=col at cl c60 we cll ⊢
   simp_arith only[ah,af]
   refine EY (cq (xs:=E) (enc:=Fd) (fun s=>FJ s (FN "shut" col s) (FN "open" col s)) rfl ?_ (by omega) ?_)
   · intro s ms
     have h60:=hEs s ms
     simp_arith only[ah,af,FZ,cQ.eq]
   simp_arith only[ah,af,HF]
   have lens:(C.flatMap fun ss=>E.map fun s=>Ff (rvO ps (ss++[s]))).length<=3000:=by
    rw[tk]at rl2
    refine IT (Nat.le_of_eq ?_) rl2
    rw[NJ,NJ]
    simp
   refine sO (xs:=C) (enc:=fun ss=>Ff (rvO ps ss)) (fun ss=>E.map fun s=>Ff (rvO ps (ss++[s]))) rfl ?_ (by omega) ?_
   · intro ss ms acc ha
     obtain⟨el,hes⟩:=hsm ss ms
     rw[HW]at ha
     simp_arith only[ah,af,pN]
     rw[eJ (enc:=fun s=>FJ s (FN "shut" col s) (FN "open" col s)) (fun s=>some (Ff (rvO ps (ss++[s])))) E acc ?_ ha,M0]
     intro s mE
     have pl:∀w:Str,∀k∈plc (fun p=>FV p ss w) ps,k<(FN w col s).length:=fun w k mk=>by
      have:=tK (f:=fun p=>FV p ss w) (ps:=ps) k mk
      unfold FN;rw[HW,cll];exact this
     have k1:∀k∈(rvO ps ss).sh,k<(FN "shut" col s).length:=pl "shut"
     have k2:∀k∈(rvO ps ss).op,k<(FN "open" col s).length:=pl "open"
     have k3:(rvO ps ss).es.length<=60:=by show ss.length<=60;omega
     have kl:∀w:Str,(plc (fun p=>FV p ss w) ps).length<=60:=fun w=>by rw[kG];have:=K4 (fun p=>FV p ss w) ps;omega
     have k4:(rvO ps ss).sh.length<=60:=kl "shut"
     have k5:(rvO ps ss).op.length<=60:=kl "open"
     have k6:Fm 2000 (rvO ps ss).sz:=(u3 (by omega) hes).mono (by decide)
     have k7:Fm 2000 (szQ s):=(nY (hEs s mE)).mono (by decide)
     have we:=we ss ms s
     simp_arith only[ah,af,FZ,cy.eq,we]
   · try simp_arith only[ah,af]
     refine hK _ (ck ?_)
     rw[tk]
     simp[fo,LQ]
     rfl
 · rintro ρ rfl
   have le:(rowsS f.val ps).zipIdx.length=(rowsS f.val ps).length:=Mq ..
   rw[le,IG (HX _)]
   simp_arith only[ah,af]
   exact aw hQ
noncomputable def cP:List W->(HH->Prop)->Prop:=fun ws Q=>∃(ps:List (List Rat))(f:Fin 3),ws=[.d (ptsQ ps),.d (.str (cI f))]/\((GA f.val ps))/\Q (.list (((chP (rowsS f.val ps)).flatMap (msS ps)).map teD))
theorem cP.mono:∀ws (Q Q':HH->Prop),(∀d,Q d->Q' d)->cP ws Q->cP ws Q':=fun _ _ _ h_=>H0 fun _=>H0 fun _=>HP (HP (h_ _))
theorem cP.len:∀ws (Q:HH->Prop),cP ws Q->ws.length=2:=fun _ _ h_=>by obtain⟨_,_,e_,_⟩:=h_;subst e_;rfl
theorem cP.eq(ps:List (List Rat))(f:Fin 3)(hw:GA f.val ps):cP [.d (ptsQ ps),.d (.str (cI f))]=VL.ret (.list (((chP (rowsS f.val ps)).flatMap (msS ps)).map teD):HH):=by
 refine ai fun Q=>⟨?_,fun q_=>⟨ps,f,rfl,hw,q_⟩⟩
 rintro⟨ps',f',e_,_,q_⟩
 simp_arith only[cL,bG,bJ,aO,aR,bP,dC,fH,gz,fF,fY,fB,fU,and_assoc]at e_
 obtain⟨rfl,rfl⟩:=e_
 exact q_
theorem om:FnScope ["points", "family", "many", "told", "box", "shut", "free", "size"] ["points", "family"] (defScope (EG 33)):=⟨rfl,rfl,rfl,by decide +kernel,rfl,by decide +kernel,by decide +kernel⟩
theorem d_misses(Fn:FnIn K mg "misses" (EG 33) ["points", "family"])(Z:Bz mg)(d_counted_looks:∀rl,Dfn P w K mg base rl "counted_looks" ["points", "family"] 6 be)(d_less:∀rl,Dfn P w K mg base rl "less" ["one", "other"] 3 fg)(d_fraction:∀rl,Dfn P w K mg base rl "fraction" ["top", "bottom"] 2 bC)   : Dfn P w K mg base rl "misses" ["points", "family"] 7 cP:=by
 have sc:=om
 refine Dfn.of Fn sc (cP.mono) (cP.len) (fun cdv A outer s H E hr=>(ag (aj 2 sc.nd (cv Z.len_ (aa (vn 0) ac)))
  (ag (jp 3 sc.nd (cE ac))
  (ag (b_ [4,5,6,7] IZ rfl (bT (al (d_counted_looks _) (hr.mono (by decide)) (aa (vn 0) (aa (vn 1) ac)))) (fS (n:=4) rfl (aP (aq 4 sc.nd) (aP (aq 5 sc.nd) (aP (aq 6 sc.nd) (aP (aq 7 sc.nd) dF))))) (ag (jr 3 (aa (bU (aa (al (d_less _) (hr.mono (by decide)) (aa (al (d_fraction _) (hr.mono (by decide)) (aa (cv Z.len_ (aa (vn 5) ac)) (aa (vn 2) ac))) (aa (vn 7) ac))) (aa aH (aa (vn 4) ac)))) ac))
  (ak (jr 3 (aa (bU (aa (al (d_less _) (hr.mono (by decide)) (aa (vn 7) (aa (al (d_fraction _) (hr.mono (by decide)) (aa (cv Z.len_ (aa (vn 6) ac)) (aa (vn 2) ac))) ac))) (aa aH (aa (vn 4) ac)))) ac)))))
  (ak (wZ 3 (av (vn 3)))))))) ?_
 rintro ws Q ⟨ps,f,rfl,hw,hQ⟩
 refine az ?_
 have sz:=Is
 have hN:=hw.1
 have hP:=hN.1
 have h1:=hP.1
 have h8:=hw.2.1
 have d4:=hP.2.2.2.2
 have b0:(ps.length:Int)≠0:=by omega
 have bz:(ps.length:Int).natAbs<2^8000:=HL (show(ps.length:Int).natAbs<2^60 by omega) (HS (by decide) (by decide))
 have rl:=hw.len (HX _)
 have hsm:=hw.sm (HX _)
 have el:=eV f.val ps
 rw[IG (by omega)]at rl hsm
 simp_arith only[ah,af,HD,be.eq]
 generalize chP (rowsS f.val ps)=C at rl hsm hQ ⊢
 refine eF (xs:=C) (enc:=fun ss=>Ff (rvO ps ss)) (fun i ρ=>ρ=[some (.d (ptsQ ps)),some (.d (.str (cI f))),some (.d (.int ps.length)),some (.ml (((C.take i).flatMap (msS ps)).map teD)),none,none,none,none]) rfl rfl ?_ ?_
 · rintro i hi ρ rfl K hK
   obtain⟨sl,ss⟩:=hsm _ (Ji hi)
   have tl:∀l:List (List Sd),(l.flatMap (msS ps)).length=2*l.length:=fun l=>by
    induction l with
    | nil=>rfl
    | cons x l ih=>rw[JW,Ic,ih,Io];show 2+_=_;omega
   have tz:((C.take i).flatMap (msS ps)).length+1<sizeLine:=by rw[tl,JH];omega
   have tz0:((C.take i).flatMap (msS ps)).length<sizeLine:=by omega
   have tz1:((C.take i).flatMap (msS ps)).length+1<=sizeLine:=by omega
   have tk:(C.take (i+1)).flatMap (msS ps)=(C.take i).flatMap (msS ps)++msS ps C[i]:=by rw[IJ hi,NG];simp
   generalize C[i]=es at sl ss tk ⊢
   generalize (C.take i).flatMap (msS ps)=T at tz tz0 tz1 tk ⊢
   have s1:Fm 2000 (aW es):=(u3 (by omega) ss).mono (by decide)
   have s2:Fm 2000 (qd (cntN ps es "shut") ps.length):=(sK h1 (by omega) fun p=>FV p es "shut").mono (by decide)
   have s3:Fm 2000 (qd (cntN ps es "open") ps.length):=(sK h1 (by omega) fun p=>FV p es "open").mono (by decide)
   have c1:(plc (fun p=>FV p es "shut") ps).length=cntN ps es "shut" := kG _ _
   have c2:(plc (fun p=>FV p es "open") ps).length=cntN ps es "open" := kG _ _
   simp_arith only[ah,af,Ff,rvO,Fz,c1,c2,bC.eq,fg.eq]
   refine cU (by rw[Ic,HW];exact tz) (hK _ (ck ?_))
   rw[tk]
   simp[fo,Jk,msS,teD,Ft,FX]
 · rintro ρ rfl
   rw[IG (HX _)]
   simp_arith only[ah,af]
   exact aw hQ
abbrev GE:=Rat×Str×List Sd
theorem lT{α:Type}:∀(ts:List (Rat×α))(t0:Rat×α),Gm ts t0=t0\/Gm ts t0∈ts
 | [],t0=>.inl rfl
 | t::ts,t0=>by
   have e:Gm (t::ts) t0=Gm ts (if t0.1<t.1 then t else t0):=rfl
   rw[e]
   by_cases c:t0.1<t.1
   · rw[if_pos c]
     rcases lT ts t with h|h
     · exact .inr (Ih.mpr (.inl h))
     · exact .inr (HK _ h)
   · rw[if_neg c]
     rcases lT ts t0 with h|h
     · exact .inl h
     · exact .inr (HK _ h)
noncomputable def aJ:List W->(HH->Prop)->Prop:=fun ws Q=>∃(t0:GE)(ts:List GE),ws=[.d (.list ((t0::ts).map teD))]/\((∀t∈t0::ts,Fm 2000 t.1))/\Q (teD (Gm (t0::ts) t0))
theorem aJ.mono:∀ws (Q Q':HH->Prop),(∀d,Q d->Q' d)->aJ ws Q->aJ ws Q':=fun _ _ _ h_=>H0 fun _=>H0 fun _=>HP (HP (h_ _))
theorem aJ.len:∀ws (Q:HH->Prop),aJ ws Q->ws.length=1:=fun _ _ h_=>by obtain⟨_,_,e_,_⟩:=h_;subst e_;rfl
theorem aJ.eq(t0:GE)(ts:List GE)(hq:∀t∈t0::ts,Fm 2000 t.1):aJ [.d (.list ((t0::ts).map teD))]=VL.ret (teD (Gm (t0::ts) t0):HH):=by
 refine ai fun Q=>⟨?_,fun q_=>⟨t0,ts,rfl,hq,q_⟩⟩
 rintro⟨t0',ts',e_,_,q_⟩
 simp_arith only[cL,bG,bJ,aO,aR,bP,dC,fH,gz,fF,fY,fB,fU,and_assoc]at e_
 obtain⟨rfl,rfl⟩:=e_
 exact q_
theorem eS:FnScope ["rows", "best", "row"] ["rows"] (defScope (EG 34)):=⟨rfl,rfl,rfl,by decide +kernel,rfl,by decide +kernel,by decide +kernel⟩
theorem d_first_greatest(Fn:FnIn K mg "first_greatest" (EG 34) ["rows"])(Z:Bz mg)(d_is_below:∀rl,Dfn P w K mg base rl "is_below" ["one", "other"] 1 bq)   : Dfn P w K mg base rl "first_greatest" ["rows"] 2 aJ:=by
 have sc:=eS
 refine Dfn.of Fn sc (aJ.mono) (aJ.len) (fun cdv A outer s H E hr=>(ag (aj 1 sc.nd (aQ (vn 0) ae))
  (ag (b_ [2] IZ rfl (bT (vn 0)) (aq 2 sc.nd) (ak (bW (de (al (d_is_below _) (hr.mono (by decide)) (aa (aQ (vn 1) ae) (aa (aQ (vn 2) ae) ac)))) (ak (aj 1 sc.nd (vn 2))) ba)))
  (ak (av (vn 1)))))) ?_
 rintro ws Q ⟨t0,ts,rfl,hq,hQ⟩
 refine az ?_
 have e0:atI ((t0::ts).map teD) 0=some (teD t0):=by rw[cA,show(0:Int)=((0:Nat):Int)from rfl,dQ (by rfl)];rfl
 simp_arith only[ah,af,e0]
 refine eF (xs:=t0::ts) (enc:=teD) (fun i ρ=>Gm ((t0::ts).take i) t0∈t0::ts/\ρ=[some (.d (.list ((t0::ts).map teD))),some (.d (teD (Gm ((t0::ts).take i) t0))),none]) rfl ⟨HM,rfl⟩ ?_ ?_
 · rintro i hi ρ ⟨mt,rfl⟩ K hK
   have mi:=Ji hi
   have tk:Gm ((t0::ts).take (i+1)) t0=if(Gm ((t0::ts).take i) t0).1<((t0::ts)[i]).1 then(t0::ts)[i]else Gm ((t0::ts).take i) t0:=by
    unfold Gm;rw[IJ hi,KB];rfl
   generalize (t0::ts)[i]=r at mi tk ⊢
   generalize Gm ((t0::ts).take i) t0=t at mt tk ⊢
   have q1:=hq t mt
   have q2:=hq r mi
   have i1:∀t:GE,itemAt (teD t) 0=some (fr t.1):=fun t=>rfl
   by_cases hlt:t.1<r.1
   · have d:decide (t.1<r.1)=true:=decide_eq_true hlt
     rw[if_pos hlt]at tk
     simp_arith only[ah,af,i1,bq.eq,d]
     exact hK _ (ck ⟨by rw[tk];exact mi,by rw[tk];rfl⟩)
   · have d:decide (t.1<r.1)=false:=decide_eq_false hlt
     rw[if_neg hlt]at tk
     simp_arith only[ah,af,i1,bq.eq,d]
     exact hK _ (ck ⟨by rw[tk];exact mt,by rw[tk];rfl⟩)
 · rintro ρ ⟨mt,rfl⟩
   rw[IG (HX _)]
   simp_arith only[ah,af]
   exact aw hQ
theorem uc{α:Type}:∀(rows:List (List α))(ch:List (List α)),ch≠[]->(∀r∈rows,r≠[])->rows.foldl (fun ch r=>ch.flatMap fun b=>r.map fun t=>b++[t]) ch≠[]
 | [],ch,h,_=>h
 | r::rows,ch,h,hr=>by
   refine uc rows _ ?_ fun x mx=>hr x (HK _ mx)
   obtain⟨b,bs,rfl⟩:=Lb h
   obtain⟨t,ts,e⟩:=Lb (hr r HM)
   rw[e]
   simp
theorem xZ(f:Nat)(rs:List Rat):slS f rs≠[]:=by
 have h:Sd.from (-1) 1∈slFS rs:=IU.mpr ⟨-1,HM,I_.mpr ⟨1,HY _ HM,by rw[if_pos (by decide)]⟩⟩
 unfold slS
 split
 · simp
 · split
   · exact List.ne_nil_of_mem h
   · exact List.ne_nil_of_mem (IK _ h)
noncomputable def msL(f:Nat)(ps:List (List Rat)):List GE:=(chP (rowsS f ps)).flatMap (msS ps)
theorem o9(f:Nat)(ps:List (List Rat)):∃t ts,msL f ps=t::ts:=by
 have h:chP (rowsS f ps)≠[]:=uc (rowsS f ps) [[]] (by simp) fun r mr=>by
  obtain⟨j,_,rfl⟩:=IM.mp mr
  exact xZ f _
 obtain⟨b,bs,e⟩:=Lb h
 refine⟨(Ft ps b, "over", b),(FX ps b, "lack", b)::bs.flatMap (msS ps),?_⟩
 unfold msL
 rw[e,JW]
 rfl
noncomputable def Er(f:Nat)(ps:List (List Rat)):GE:=Gm (msL f ps) ((msL f ps).headD (0, "", []))
theorem lF{f:Nat}(hw:GA f ps):∀t∈msL f ps,Fm 900 t.1:=fun t mt=>by
 have hsm:=hw.sm (HX _)
 have el:=eV f ps
 rw[IG (by omega)]at hsm
 obtain⟨ss,ms,h⟩:=IU.mp mt
 obtain⟨sl,sm⟩:=hsm ss ms
 have o:=yN hw.1.1.1 (by have:=hw.2.1;omega) (show ss.length<=4 by have:=hw.1.1.2.2.2.2;omega) sm
 rcases Ih.mp h with rfl|h
 · exact o.1
 · rw[Ij.mp h];exact o.2
theorem sP{f:Nat}(hw:GA f ps):Fm 900 (Er f ps).1:=by
 obtain⟨t,ts,e⟩:=o9 f ps
 have h:=lF hw
 unfold Er
 rw[e]at h ⊢
 rcases lT (t::ts) ((t::ts).headD (0, "", []))with z|z
 · rw[z];exact h t HM
 · exact h _ z
noncomputable def dr:List W->(HH->Prop)->Prop:=fun ws Q=>∃(ps:List (List Rat))(f:Fin 3),ws=[.d (ptsQ ps),.d (.str (cI f))]/\((GA f.val ps))/\Q (teD (Er f.val ps))
theorem dr.mono:∀ws (Q Q':HH->Prop),(∀d,Q d->Q' d)->dr ws Q->dr ws Q':=fun _ _ _ h_=>H0 fun _=>H0 fun _=>HP (HP (h_ _))
theorem dr.len:∀ws (Q:HH->Prop),dr ws Q->ws.length=2:=fun _ _ h_=>by obtain⟨_,_,e_,_⟩:=h_;subst e_;rfl
theorem dr.eq(ps:List (List Rat))(f:Fin 3)(hw:GA f.val ps):dr [.d (ptsQ ps),.d (.str (cI f))]=VL.ret (teD (Er f.val ps):HH):=by
 refine ai fun Q=>⟨?_,fun q_=>⟨ps,f,rfl,hw,q_⟩⟩
 rintro⟨ps',f',e_,_,q_⟩
 simp_arith only[cL,bG,bJ,aO,aR,bP,dC,fH,gz,fF,fY,fB,fU,and_assoc]at e_
 obtain⟨rfl,rfl⟩:=e_
 exact q_
theorem re:FnScope ["points", "family"] ["points", "family"] (defScope (EG 35)):=⟨rfl,rfl,rfl,by decide +kernel,rfl,by decide +kernel,by decide +kernel⟩
theorem d_worst(Fn:FnIn K mg "worst" (EG 35) ["points", "family"])(Z:Bz mg)(d_first_greatest:∀rl,Dfn P w K mg base rl "first_greatest" ["rows"] 2 aJ)(d_misses:∀rl,Dfn P w K mg base rl "misses" ["points", "family"] 7 cP)   : Dfn P w K mg base rl "worst" ["points", "family"] 8 dr:=by
 have sc:=re
 refine Dfn.of Fn sc (dr.mono) (dr.len) (fun cdv A outer s H E hr=>(ak (av (al (d_first_greatest _) (hr.mono (by decide)) (aa (al (d_misses _) (hr.mono (by decide)) (aa (vn 0) (aa (vn 1) ac))) ac))))) ?_
 rintro ws Q ⟨ps,f,rfl,hw,hQ⟩
 refine az ?_
 have em:((chP (rowsS f.val ps)).flatMap (msS ps)).map teD=(msL f.val ps).map teD:=rfl
 have hq:=fun t mt=>(lF hw t mt).mono (show 900<=2000 by decide)
 have ew:Er f.val ps=Gm (msL f.val ps) ((msL f.val ps).headD (0, "", [])):=rfl
 simp_arith only[ah,af,cP.eq,em]
 obtain⟨t,ts,e⟩:=o9 f.val ps
 rw[e]at hq ew ⊢
 rw[ew]at hQ
 have pf:aJ [.d (.list (teD t::ts.map teD))]=VL.ret (teD (Gm (t::ts) t):HH):=aJ.eq t ts hq
 simp_arith only[ah,af,pf]
 exact aw hQ
noncomputable def bK:List W->(HH->Prop)->Prop:=fun ws Q=>∃(ps:List (List Rat))(f:Fin 3),ws=[.d (ptsQ ps),.d (.str (cI f))]/\((GA f.val ps))/\Q (fr (Er f.val ps).1)
theorem bK.mono:∀ws (Q Q':HH->Prop),(∀d,Q d->Q' d)->bK ws Q->bK ws Q':=fun _ _ _ h_=>H0 fun _=>H0 fun _=>HP (HP (h_ _))
theorem bK.len:∀ws (Q:HH->Prop),bK ws Q->ws.length=2:=fun _ _ h_=>by obtain⟨_,_,e_,_⟩:=h_;subst e_;rfl
theorem bK.eq(ps:List (List Rat))(f:Fin 3)(hw:GA f.val ps):bK [.d (ptsQ ps),.d (.str (cI f))]=VL.ret (fr (Er f.val ps).1:HH):=by
 refine ai fun Q=>⟨?_,fun q_=>⟨ps,f,rfl,hw,q_⟩⟩
 rintro⟨ps',f',e_,_,q_⟩
 simp_arith only[cL,bG,bJ,aO,aR,bP,dC,fH,gz,fF,fY,fB,fU,and_assoc]at e_
 obtain⟨rfl,rfl⟩:=e_
 exact q_
theorem iM:FnScope ["points", "family"] ["points", "family"] (defScope (EG 36)):=⟨rfl,rfl,rfl,by decide +kernel,rfl,by decide +kernel,by decide +kernel⟩
theorem d_unevenness(Fn:FnIn K mg "unevenness" (EG 36) ["points", "family"])(Z:Bz mg)(d_worst:∀rl,Dfn P w K mg base rl "worst" ["points", "family"] 8 dr)   : Dfn P w K mg base rl "unevenness" ["points", "family"] 9 bK:=by
 have sc:=iM
 refine Dfn.of Fn sc (bK.mono) (bK.len) (fun cdv A outer s H E hr=>(ak (av (aQ (al (d_worst _) (hr.mono (by decide)) (aa (vn 0) (aa (vn 1) ac))) ae)))) ?_
 rintro ws Q ⟨ps,f,rfl,hw,hQ⟩
 refine az ?_
 have i1:∀t:GE,itemAt (teD t) 0=some (fr t.1):=fun t=>rfl
 simp_arith only[ah,af,dr.eq,i1]
 exact aw hQ
theorem DZ:Fm 1 0:=⟨by decide,by decide⟩
noncomputable def GQ(s:Sd):Prop:=Fm 2000 s.first/\Fm 2000 s.last
noncomputable def Ep(b:Fin 3):Int:=(b.val:Int)
noncomputable def Em(b:Fin 3):Str:=if b=0 then "half" else if b=1 then "shut" else "open"
theorem wX{a b:Fin 3}:Ep a=Ep b↔a=b:=by revert a b;decide
theorem lV(xs:List α)(f:α->HH){k:Int}(h:0<=k):VL.cutD (xs.map f) (some k) none=(xs.drop k.toNat).map f:=by
 unfold VL.cutD
 rw[HT.sIx_none,ot h,HW,<- List.map_drop,<- MN]
 congr 1
 by_cases z:k.toNat<=xs.length
 · rw[Nf z,IG (by rw[KM];omega)]
 · rw[MS (by omega),LA (by omega),LA (by omega)];simp
theorem eN(q r:Rat):decide (Gq q r<1) = !decide (r<q):=by
 unfold Gq
 by_cases h:r<q
 · rw[if_pos h];simp[h]
 · rw[if_neg h];split<;>simp[h]
theorem sI(x:HH)(xs:List HH):VL.cutD (x::xs) (some 1) none=xs:=by
 have h:VL.cutD ((x::xs).map id) (some 1) none=((x::xs).drop (1:Int).toNat).map id:=lV (x::xs) id (by decide)
 rw[List.map_id,List.map_id]at h
 exact h
theorem oF{x d:Int}(hd:0<d)(h:0<x):0<qd x d:=by
 refine KW (oG hd (by omega)) fun e=>?_
 have:=rm (a:=x) hd
 rw[<- e]at this
 simp at this
 omega
theorem yo(x:Int){d:Int}:qd (-x) d = -(qd x d):=by
 unfold qd
 rw[Rat.intCast_neg,Kh,Kh,Rat.neg_mul]
theorem AY{x d:Int}(hd:0<d):qd (max 0 x) d=mx (qd x d) 0:=by
 unfold mx
 rcases Int.lt_trichotomy x 0 with h|h|h
 · have e:max 0 x=0:=by omega
   have p:=oF hd (show 0 < -x by omega)
   rw[yo]at p
   have:qd x d<0:=by grind
   rw[if_pos this,e]
   unfold qd;rw[Kh];show(0:Rat)*_=0;rw[Ms]
 · subst h
   have e:qd 0 d=0:=by unfold qd;rw[Kh];show(0:Rat)*_=0;rw[Ms]
   rw[show max 0 (0:Int)=0 from rfl,e,if_neg (by decide)]
 · have e:max 0 x=x:=by omega
   rw[e,if_neg (Jl.mpr (Iq (oF hd h)))]
theorem tD{d:Int}(hd:0<d):qd d d=1:=by
 unfold qd
 rw[Kh]
 have hne:(d:Rat)≠0:=by
  intro z
  have e:d=0:=by exact_mod_cast z
  omega
 exact Mt _ hne
theorem yq(a b:Int){d:Int}(h:0<d):qd (a+b) d=qd a d+qd b d:=by
 unfold qd
 rw[Mf,Kh,Kh,Kh,Os]
theorem AZ{x d:Int}(hd:0<d):qd (min d (d+x)) d=mn (1+qd x d) 1:=by
 unfold mn
 by_cases h:x<0
 · have p:=oF hd (show 0 < -x by omega)
   rw[yo]at p
   rw[show min d (d+x)=d+x by omega,yq _ _ hd,tD hd,if_pos (by grind)]
 · have p:=oG hd (show 0<=x by omega)
   rw[show min d (d+x)=d by omega,tD hd,if_neg (by grind)]
theorem i8(x y z:HH):atI [x,y,z] 2=some z:=rfl
theorem i9(x y z:HH):atI [x,y,z] 1=some y:=rfl
noncomputable def aT:List W->(HH->Prop)->Prop:=fun ws Q=>∃(s:Sd),ws=[.d (Fd s)]/\((GQ s))/\Q (fr (szQ s))
theorem aT.mono:∀ws (Q Q':HH->Prop),(∀d,Q d->Q' d)->aT ws Q->aT ws Q':=fun _ _ _ h_=>H0 fun _=>HP (HP (h_ _))
theorem aT.len:∀ws (Q:HH->Prop),aT ws Q->ws.length=1:=fun _ _ h_=>by obtain⟨_,e_,_⟩:=h_;subst e_;rfl
theorem aT.eq(s:Sd)(hs:GQ s):aT [.d (Fd s)]=VL.ret (fr (szQ s):HH):=by
 refine ai fun Q=>⟨?_,fun q_=>⟨s,rfl,hs,q_⟩⟩
 rintro⟨s',e_,_,q_⟩
 simp_arith only[cL,bG,bJ,aO,aR,bP]at e_
 obtain rfl:=e_
 exact q_
theorem eU:FnScope ["_law_side", "_law_ends", "_law_bottom_here", "_law_more"] ["_law_side"] (defScope (EG 46)):=⟨rfl,rfl,rfl,by decide +kernel,rfl,by decide +kernel,by decide +kernel⟩
theorem d__law_side_size(Fn:FnIn K mg "_law_side_size" (EG 46) ["_law_side"])(Z:Bz mg)(d__law_frac:∀rl,Dfn P w K mg base rl "_law_frac" ["_law_top", "_law_bottom_here"] 1 bf)   : Dfn P w K mg base rl "_law_side_size" ["_law_side"] 2 aT:=by
 have sc:=eU
 refine Dfn.of Fn sc (aT.mono) (aT.len) (fun cdv A outer s H E hr=>(ag (cr 1 sc.nd ["_law_one"] [none] rfl (dU (xn (vn 0) (kd ae) ke)) (fun _=>(aq 0 (show Js (["_law_one"]:List Str) by decide +kernel))) (fun _=>b9) (fun _=>(dG (aF oU nE (ay _) (aQ (vn 0) ae) ae) (vn 0) (bU (aa ae (aa ae ac))))))
  (ag (bW (aF (cC hr.units) bX (ay _) (aQ (vn 0) ae) aH) (ak (av (aQ (vn 1) ae))) ba)
  (ag (aj 2 sc.nd (v_mul (aQ (aQ (vn 1) ae) ae) (aQ (aQ (vn 1) ae) ae)))
  (ag (aj 3 sc.nd (v_sub (v_mul (aQ (aQ (vn 1) ae) ae) (aQ (aQ (vn 1) ae) ae)) (v_mul (aQ (aQ (vn 1) ae) ae) (aQ (aQ (vn 1) ae) ae))))
  (ag (bW (aF (cC hr.units) bX (ay _) (aQ (vn 0) ae) aH) (ak (av (al (d__law_frac _) (hr.mono (by decide)) (aa (xt Z.max_ (aa ae (aa (vn 3) ac))) (aa (vn 2) ac))))) ba)
  (ak (av (al (d__law_frac _) (hr.mono (by decide)) (aa (xq Z.min_ (aa (vn 2) (aa (v_add (vn 2) (vn 3)) ac))) (aa (vn 2) ac))))))))))) ?_
 rintro ws Q ⟨s,rfl,hs,hQ⟩
 have w1:decide (HG "from" = HG "to")=false:=by decide +kernel
 have w2:decide (HG "round" = HG "to")=false:=by decide +kernel
 have w3:decide (HG "round" = HG "from")=false:=by decide +kernel
 have w4:decide (HG "to" = HG "to")=true:=by decide +kernel
 have w5:decide (HG "from" = HG "from")=true:=by decide +kernel
 have s1:IW (KP "to")=true:=by decide +kernel
 have s2:IW (KP "from")=true:=by decide +kernel
 have s3:IW (KP "round")=true:=by decide +kernel
 have hw1:decide (HG "half" = HG "shut")=false:=by decide +kernel
 have hw2:decide (HG "half" = HG "open")=false:=by decide +kernel
 have eqi:∀i j:Int,IB (.int i) (.int j)=(i==j):=fun i j=>by simp[IB]
 refine az ?_
 have sz:=Is
 have mxe:∀q:Rat,(if decide (0<q.num)=true then fr q else Kd [.int 0,.int 1])=fr (mx q 0):=fun q=>by
  unfold mx
  by_cases h:0<q.num
  · rw[if_pos (by simpa using h),if_neg];exact Jl.mpr (Rat.num_nonneg.mp (by omega))
  · rw[if_neg (by simpa using h)]
    by_cases h2:q<0
    · rw[if_pos h2];rfl
    · rw[if_neg h2]
      have h3:=Rat.num_nonneg.mpr (Jl.mp h2)
      have e:q=0:=Rat.num_eq_zero.mp (by omega)
      rw[e];rfl
 obtain⟨a1,a2⟩:=hs
 cases s with
 | to t =>
   simp_arith only[ah,af,HD,w1,w2,w3,w4,w5,Fd,sI]
   refine EY (cq (xs:=[t]) (enc:=fr) (fun q=>fr (mx q 0)) rfl ?_ (by simp;omega) ?_)
   · intro q mq
     simp_arith only[ah,af,FZ,HD]
     rw[mxe q]
   · simp_arith only[ah,af,HD,w1,w2,w3,w4,w5,db]
     exact aw hQ
 | «from» a b =>
   have a1:Fm 2000 a:=a1
   have a2:Fm 2000 b:=a2
   simp_arith only[ah,af,HD,w1,w2,w3,w4,w5,Fd,sI]
   refine EY (cq (xs:=[a,b]) (enc:=fr) (fun q=>fr (mx q 0)) rfl ?_ (by simp;omega) ?_)
   · intro q mq
     simp_arith only[ah,af,FZ,HD]
     rw[mxe q]
   have x1:Fm 2000 (mx a 0):=dO a1 (DZ.mono (by decide))
   have x2:Fm 2000 (mx b 0):=dO a2 (DZ.mono (by decide))
   have n1:aN ((mx a 0).den:Int) ((mx b 0).den:Int):=.bb x1.bd x2.bd
   have n2:aN (mx b 0).num ((mx a 0).den:Int):=.bb x2.bn x1.bd
   have n3:aN (mx a 0).num ((mx b 0).den:Int):=.bb x1.bn x2.bd
   have hb:0<((mx a 0).den:Int)*((mx b 0).den:Int):=den_pos _ _
   have hz:(((mx a 0).den:Int)*((mx b 0).den:Int)).natAbs<2^8000:=by
    rw[IR,Ik,Ik]
    exact HL (aD x1.2 x2.2) (HS (by decide) (by decide))
   have ed:qd ((mx b 0).num*((mx a 0).den:Int)-(mx a 0).num*((mx b 0).den:Int)) (((mx a 0).den:Int)*((mx b 0).den:Int))=mx b 0-mx a 0:=by rw[N9 ((mx a 0).den:Int)];exact oE (mx b 0) (mx a 0)
   simp_arith only[ah,af,HD,w1,w2,w3,w4,w5,db,bf.eq]
   rw[AY hb,ed]
   exact aw hQ
 | round a b =>
   have a1:Fm 2000 a:=a1
   have a2:Fm 2000 b:=a2
   simp_arith only[ah,af,HD,w1,w2,w3,w4,w5,Fd,sI]
   refine EY (cq (xs:=[a,b]) (enc:=fr) (fun q=>fr (mx q 0)) rfl ?_ (by simp;omega) ?_)
   · intro q mq
     simp_arith only[ah,af,FZ,HD]
     rw[mxe q]
   have x1:Fm 2000 (mx a 0):=dO a1 (DZ.mono (by decide))
   have x2:Fm 2000 (mx b 0):=dO a2 (DZ.mono (by decide))
   have n1:aN ((mx a 0).den:Int) ((mx b 0).den:Int):=.bb x1.bd x2.bd
   have n2:aN (mx b 0).num ((mx a 0).den:Int):=.bb x2.bn x1.bd
   have n3:aN (mx a 0).num ((mx b 0).den:Int):=.bb x1.bn x2.bd
   have hb:0<((mx a 0).den:Int)*((mx b 0).den:Int):=den_pos _ _
   have hz:(((mx a 0).den:Int)*((mx b 0).den:Int)).natAbs<2^8000:=by
    rw[IR,Ik,Ik]
    exact HL (aD x1.2 x2.2) (HS (by decide) (by decide))
   have ed:qd ((mx b 0).num*((mx a 0).den:Int)-(mx a 0).num*((mx b 0).den:Int)) (((mx a 0).den:Int)*((mx b 0).den:Int))=mx b 0-mx a 0:=by rw[N9 ((mx a 0).den:Int)];exact oE (mx b 0) (mx a 0)
   simp_arith only[ah,af,HD,w1,w2,w3,w4,w5,db,bf.eq]
   rw[AZ hb,ed]
   exact aw hQ
noncomputable def bZ:List W->(HH->Prop)->Prop:=fun ws Q=>∃(x:Rat)(s:Sd)(b:Fin 3),ws=[.d (fr x),.d (Fd s),.d (.int (Ep b))]/\((Fm 2000 x)/\(GQ s))/\Q (.bool (FO s (Em b) x))
theorem bZ.mono:∀ws (Q Q':HH->Prop),(∀d,Q d->Q' d)->bZ ws Q->bZ ws Q':=fun _ _ _ h_=>H0 fun _=>H0 fun _=>H0 fun _=>HP (HP (h_ _))
theorem bZ.len:∀ws (Q:HH->Prop),bZ ws Q->ws.length=3:=fun _ _ h_=>by obtain⟨_,_,_,e_,_⟩:=h_;subst e_;rfl
theorem bZ.eq(x:Rat)(s:Sd)(b:Fin 3)(h1:Fm 2000 x)(hs:GQ s):bZ [.d (fr x),.d (Fd s),.d (.int (Ep b))]=VL.ret (.bool (FO s (Em b) x):HH):=by
 refine ai fun Q=>⟨?_,fun q_=>⟨x,s,b,rfl,⟨h1,hs⟩,q_⟩⟩
 rintro⟨x',s',b',e_,_,q_⟩
 simp_arith only[cL,bG,bJ,aO,aR,bP,wX]at e_
 obtain⟨rfl,rfl,rfl⟩:=e_
 exact q_
theorem jB:FnScope ["_law_x", "_law_side", "_law_way", "_law_ahead", "_law_behind"] ["_law_x", "_law_side", "_law_way"] (defScope (EG 45)):=⟨rfl,rfl,rfl,by decide +kernel,rfl,by decide +kernel,by decide +kernel⟩
theorem d__law_lies(Fn:FnIn K mg "_law_lies" (EG 45) ["_law_x", "_law_side", "_law_way"])(Z:Bz mg)(d__law_cmp:∀rl,Dfn P w K mg base rl "_law_cmp" ["_law_one", "_law_other"] 1 aC)   : Dfn P w K mg base rl "_law_lies" ["_law_x", "_law_side", "_law_way"] 2 bZ:=by
 have sc:=jB
 refine Dfn.of Fn sc (bZ.mono) (bZ.len) (fun cdv A outer s H E hr=>(ag (aj 3 sc.nd (eR gu fR (ay _) (al (d__law_cmp _) (hr.mono (by decide)) (aa (vn 0) (aa (aQ (vn 1) (v_sub (cv Z.len_ (aa (vn 1) ac)) ae)) ac))) (jt Z.int_ (aa (eR (cC hr.units) bX (ay _) (vn 2) ae) ac))))
  (ag (bW (aF (cC hr.units) bX (ay _) (aQ (vn 1) ae) aH) (ak (av (vn 3))) ba)
  (ag (aj 4 sc.nd (eR gu fR (ay _) (al (d__law_cmp _) (hr.mono (by decide)) (aa (aQ (vn 1) ae) (aa (vn 0) ac))) (jt Z.int_ (aa (eR (gt hr.units) bX (ay _) (vn 2) ae) ac))))
  (ak (av (dG (aF (cC hr.units) bX (ay _) (aQ (vn 1) ae) aH) (v_and (vn 4) (nK (vn 3))) (v_or (vn 4) (nK (vn 3)))))))))) ?_
 rintro ws Q ⟨x,s,b,rfl,⟨h1,hs⟩,hQ⟩
 have w1:decide (HG "from" = HG "to")=false:=by decide +kernel
 have w2:decide (HG "round" = HG "to")=false:=by decide +kernel
 have w3:decide (HG "round" = HG "from")=false:=by decide +kernel
 have w4:decide (HG "to" = HG "to")=true:=by decide +kernel
 have w5:decide (HG "from" = HG "from")=true:=by decide +kernel
 have s1:IW (KP "to")=true:=by decide +kernel
 have s2:IW (KP "from")=true:=by decide +kernel
 have s3:IW (KP "round")=true:=by decide +kernel
 have eqi:∀i j:Int,IB (.int i) (.int j)=(i==j):=fun i j=>by simp[IB]
 have hw1:decide (HG "shut" = HG "shut")=true:=by decide +kernel
 have hw2:decide (HG "shut" = HG "open")=false:=by decide +kernel
 have hw3:decide (HG "open" = HG "shut")=false:=by decide +kernel
 have hw4:decide (HG "open" = HG "open")=true:=by decide +kernel
 have hw5:decide (HG "half" = HG "shut")=false:=by decide +kernel
 have hw6:decide (HG "half" = HG "open")=false:=by decide +kernel
 have y0:Ep 0=0:=rfl
 have y1:Ep 1=1:=rfl
 have y2:Ep 2=2:=rfl
 have z0:Em 0=HG "half" := rfl
 have z1:Em 1=HG "shut" := rfl
 have z2:Em 2=HG "open" := rfl
 refine az ?_
 obtain⟨a1,a2⟩:=hs
 cases s with
 | to t =>
   have a2:Fm 2000 t:=a2
   obtain rfl|rfl|rfl:=pW b
   · rw[y0]
     rw[z0]at hQ
     · simp_arith only[ah,af,HD,w1,w2,w3,w4,w5,Fd,eqi,db,i8,i9,aC.eqQ,eM,eN]
       simp only[FO,Gg,Sd.last,Sd.first,hw1,hw2,hw3,hw4,hw5,hw6,Jb,↓reduceIte,Jr,JQ,if_true,if_false]at hQ
       exact aw hQ
   · rw[y1]
     rw[z1]at hQ
     · simp_arith only[ah,af,HD,w1,w2,w3,w4,w5,Fd,eqi,db,i8,i9,aC.eqQ,eM,eN]
       simp only[FO,Gg,Sd.last,Sd.first,hw1,hw2,hw3,hw4,hw5,hw6,Jb,↓reduceIte,Jr,JQ,if_true,if_false]at hQ
       exact aw hQ
   · rw[y2]
     rw[z2]at hQ
     · simp_arith only[ah,af,HD,w1,w2,w3,w4,w5,Fd,eqi,db,i8,i9,aC.eqQ,eM,eN]
       simp only[FO,Gg,Sd.last,Sd.first,hw1,hw2,hw3,hw4,hw5,hw6,Jb,↓reduceIte,Jr,JQ,if_true,if_false]at hQ
       exact aw hQ
 | «from» a c =>
   have a1:Fm 2000 a:=a1
   have a2:Fm 2000 c:=a2
   obtain rfl|rfl|rfl:=pW b
   · rw[y0]
     rw[z0]at hQ
     · simp_arith only[ah,af,HD,w1,w2,w3,w4,w5,Fd,eqi,db,i8,i9,aC.eqQ,eM,eN]
       simp only[FO,Gg,Sd.last,Sd.first,hw1,hw2,hw3,hw4,hw5,hw6,Jb,↓reduceIte,Jr,JQ,if_true,if_false]at hQ
       exact aw hQ
   · rw[y1]
     rw[z1]at hQ
     · simp_arith only[ah,af,HD,w1,w2,w3,w4,w5,Fd,eqi,db,i8,i9,aC.eqQ,eM,eN]
       simp only[FO,Gg,Sd.last,Sd.first,hw1,hw2,hw3,hw4,hw5,hw6,Jb,↓reduceIte,Jr,JQ,if_true,if_false]at hQ
       exact aw hQ
   · rw[y2]
     rw[z2]at hQ
     · simp_arith only[ah,af,HD,w1,w2,w3,w4,w5,Fd,eqi,db,i8,i9,aC.eqQ,eM,eN]
       simp only[FO,Gg,Sd.last,Sd.first,hw1,hw2,hw3,hw4,hw5,hw6,Jb,↓reduceIte,Jr,JQ,if_true,if_false]at hQ
       exact aw hQ
 | round a c =>
   have a1:Fm 2000 a:=a1
   have a2:Fm 2000 c:=a2
   obtain rfl|rfl|rfl:=pW b
   · rw[y0]
     rw[z0]at hQ
     · simp_arith only[ah,af,HD,w1,w2,w3,w4,w5,Fd,eqi,db,i8,i9,aC.eqQ,eM,eN]
       simp only[FO,Gg,Sd.last,Sd.first,hw1,hw2,hw3,hw4,hw5,hw6,Jb,↓reduceIte,Jr,JQ,if_true,if_false]at hQ
       exact aw hQ
   · rw[y1]
     rw[z1]at hQ
     · simp_arith only[ah,af,HD,w1,w2,w3,w4,w5,Fd,eqi,db,i8,i9,aC.eqQ,eM,eN]
       simp only[FO,Gg,Sd.last,Sd.first,hw1,hw2,hw3,hw4,hw5,hw6,Jb,↓reduceIte,Jr,JQ,if_true,if_false]at hQ
       exact aw hQ
   · rw[y2]
     rw[z2]at hQ
     · simp_arith only[ah,af,HD,w1,w2,w3,w4,w5,Fd,eqi,db,i8,i9,aC.eqQ,eM,eN]
       simp only[FO,Gg,Sd.last,Sd.first,hw1,hw2,hw3,hw4,hw5,hw6,Jb,↓reduceIte,Jr,JQ,if_true,if_false]at hQ
       exact aw hQ
theorem ge{x b:Int}(hb:0<b)(h:(x:Rat)=q*(b:Rat)):qd x b=q:=by
 have:=cZ hb
 unfold qd
 grind
noncomputable def tpS(ss:List Sd):Int:=ss.foldl (fun t s=>t*(szQ s).num) 1
noncomputable def btS(ss:List Sd):Int:=ss.foldl (fun t s=>t*((szQ s).den:Int)) 1
theorem xH(ss:List Sd)(s:Sd):tpS (ss++[s])=tpS ss*(szQ s).num:=by unfold tpS;rw[KB];rfl
theorem zN(ss:List Sd)(s:Sd):btS (ss++[s])=btS ss*((szQ s).den:Int):=by unfold btS;rw[KB];rfl
theorem zK(q:Rat):((q.den:Int):Rat)≠0:=fun e=>by
 have z:(q.den:Int)=0:=by exact_mod_cast e
 have:=q.den_pos
 omega
theorem im(q:Rat):(q.num:Rat)=q*((q.den:Int):Rat):=by have:=cN q;have:=zK q;unfold qd at *;grind
noncomputable def Aj(k:Nat)(ss:List Sd):Prop:=0<btS ss/\(tpS ss:Rat)=aW ss*(btS ss:Rat)/\(tpS ss).natAbs<2^k/\(btS ss).natAbs<2^k
theorem qW:∀(n:Nat)(ss:List Sd),ss.length=n->(∀s∈ss,Fm 1300 (szQ s))->Aj (1+1300*n) ss
 | 0,ss,h,_=>by
   cases KJ.mp h
   exact⟨by decide,show((1:Int):Rat)=1*((1:Int):Rat) by decide +kernel,by decide,by decide⟩
 | n+1,ss,h,hs=>by
   obtain⟨b,s,rfl⟩:=iJ h
   obtain⟨h1,h2,h3,h4⟩:=qW n b (by simpa using h) fun s ms=>hs s (IK _ ms)
   have z:=(hs s (HY _ HM))
   unfold Aj
   rw[xH,zN,jz]
   refine⟨KI h1 (by have:=(szQ s).den_pos;omega),?_,?_,?_⟩
   · rw[IN,IN,h2,im (szQ s)]
     grind
   · rw[IR]
     exact HL (aD h3 z.1) (HS (by decide) (by omega))
   · rw[IR,Ik]
     exact HL (aD h4 z.2) (HS (by decide) (by omega))
theorem Aj.big(h:Aj (1+1300*n) ss)(h4:n<=4):HA (tpS ss)/\HA (btS ss)/\(tpS ss).natAbs<2^5201/\(btS ss).natAbs<2^5201:=by
 have a:=HL h.2.2.1 (HS (by decide) (show 1+1300*n<=5201 by omega):2^(1+1300*n)<=2^5201)
 have b:=HL h.2.2.2 (HS (by decide) (show 1+1300*n<=5201 by omega):2^(1+1300*n)<=2^5201)
 exact⟨HL a (HS (by decide) (by decide)),HL b (HS (by decide) (by decide)),a,b⟩
theorem zL{w:Str}(hi:i<ps.length)(e:ps[i]=p):(cntN (ps.take (i+1)) ss w:Int)=(cntN (ps.take i) ss w:Int)+(if FV p ss w=true then 1 else 0):=by
 unfold cntN
 rw[IJ hi,e]
 simp
 split<;>simp_all
theorem pi(h1:1<=ps.length)(tb:Aj n ss)(w:Str):0<(ps.length:Int)*btS ss/\qd ((cntN ps ss w:Int)*btS ss-(ps.length:Int)*tpS ss) ((ps.length:Int)*btS ss)=qd (cntN ps ss w) ps.length-aW ss:=by
 obtain⟨b0,et,_,_⟩:=tb
 have hN:(0:Int)<(ps.length:Int):=by omega
 have p0:0<(ps.length:Int)*btS ss:=KI hN b0
 have rn:=cZ hN
 have rb:=cZ b0
 have q1:qd (cntN ps ss w:Nat) ps.length*(((ps.length:Nat):Int):Rat)=(((cntN ps ss w:Nat):Int):Rat):=by unfold qd;grind
 refine⟨p0,ge p0 ?_⟩
 rw[K6,IN,IN,IN,et,<- q1]
 grind
theorem nw(hl:p.length=ss.length)(w:Str):((IV ss.length).map fun k=>FO (ss.getD k (.to 0)) w (p.getD k 0)).all id=FV p ss w:=by
 have e:(IV ss.length).map (fun k=>(p.getD k 0,ss.getD k (.to 0)))=p.zip ss:=by
  refine MR (by simp[hl]) fun i h1 h2=>?_
  have hi:i<ss.length:=by simpa using h1
  simp[Ib,Ia hi,Ia (show i<p.length by omega)]
 unfold FV
 rw[<- e,N7,N7]
 rfl
theorem zR{a:Nat}(hn:n<=8)(h:a<2^5201):n*a<2^8000:=by
 have h1:n*a<=8*a:=LU _ hn
 have h2:8*2^5201<=2^8000:=by
  rw[show(8:Nat)=2^3 from rfl,<- Md]
  exact HS (by decide) (by decide)
 generalize 2^5201=T at h h2
 exact HL (show n*a<8*T by omega) h2
noncomputable def aG:List W->(HH->Prop)->Prop:=fun ws Q=>∃(ps:List (List Rat))(ss:List Sd)(b:Fin 3),ws=[.d (ptsQ ps),.d (boxD ss),.d (.int (Ep b))]/\((1<=ps.length)/\(ps.length<=8)/\(ss.length<=4)/\(∀p∈ps,p.length=ss.length/\∀q∈p,Gd q)/\(∀s∈ss,GQ s/\Fm 1300 (szQ s)))/\Q (fr (qd (cntN ps ss (Em b)) ps.length-aW ss))
theorem aG.mono:∀ws (Q Q':HH->Prop),(∀d,Q d->Q' d)->aG ws Q->aG ws Q':=fun _ _ _ h_=>H0 fun _=>H0 fun _=>H0 fun _=>HP (HP (h_ _))
theorem aG.len:∀ws (Q:HH->Prop),aG ws Q->ws.length=3:=fun _ _ h_=>by obtain⟨_,_,_,e_,_⟩:=h_;subst e_;rfl
theorem aG.eq(ps:List (List Rat))(ss:List Sd)(b:Fin 3)(h1:1<=ps.length)(h8:ps.length<=8)(s4:ss.length<=4)(hp:∀p∈ps,p.length=ss.length/\∀q∈p,Gd q)(hs:∀s∈ss,GQ s/\Fm 1300 (szQ s)):aG [.d (ptsQ ps),.d (boxD ss),.d (.int (Ep b))]=VL.ret (fr (qd (cntN ps ss (Em b)) ps.length-aW ss):HH):=by
 refine ai fun Q=>⟨?_,fun q_=>⟨ps,ss,b,rfl,⟨h1,h8,s4,hp,hs⟩,q_⟩⟩
 rintro⟨ps',ss',b',e_,_,q_⟩
 simp_arith only[cL,bG,bJ,aO,aR,bP,dC,fH,gz,fF,fY,fB,fU,and_assoc,wX]at e_
 obtain⟨rfl,rfl,rfl⟩:=e_
 exact q_
theorem fE:FnScope ["_law_points_told", "_law_box_here", "_law_way", "_law_many", "_law_point", "_law_top", "_law_bottom_here", "_law_side", "_law_one"] ["_law_points_told", "_law_box_here", "_law_way"] (defScope (EG 47)):=⟨rfl,rfl,rfl,by decide +kernel,rfl,by decide +kernel,by decide +kernel⟩
theorem d__law_box_miss(Fn:FnIn K mg "_law_box_miss" (EG 47) ["_law_points_told", "_law_box_here", "_law_way"])(Z:Bz mg)(d__law_frac:∀rl,Dfn P w K mg base rl "_law_frac" ["_law_top", "_law_bottom_here"] 1 bf)(d__law_side_size:∀rl,Dfn P w K mg base rl "_law_side_size" ["_law_side"] 2 aT)(d__law_lies:∀rl,Dfn P w K mg base rl "_law_lies" ["_law_x", "_law_side", "_law_way"] 2 bZ)   : Dfn P w K mg base rl "_law_box_miss" ["_law_points_told", "_law_box_here", "_law_way"] 3 aG:=by
 have sc:=fE
 refine Dfn.of Fn sc (aG.mono) (aG.len) (fun cdv A outer s H E hr=>(ag (aj 3 sc.nd ae)
  (ag (b_ [4] IZ rfl (dU (vn 0)) (aq 4 sc.nd) (ak (bW (de (v_all Z.all_ (aa (ci ["_law_k", "_law_point", "_law_box_here", "_law_way"] [none,some 4,some 1,some 2] rfl (bI Z.range_ (aa (cv Z.len_ (aa (vn 1) ac)) ac)) (fun _=>(aq 0 (show Js (["_law_k", "_law_point", "_law_box_here", "_law_way"]:List Str) by decide +kernel))) (fun _=>b9) (fun _=>(al (d__law_lies _) (hr.mono (by decide)) (aa (aQ (vn 1) (vn 0)) (aa (aQ (vn 2) (vn 0)) (aa (vn 3) ac)))))) ac))) (ak (aj 3 sc.nd (v_add (vn 3) ae))) ba)))
  (ag (jq (bU (aa ae (aa ae ac))) (fS (n:=2) rfl (aP (aq 5 sc.nd) (aP (aq 6 sc.nd) dF))))
  (ag (b_ [7,8] IZ rfl (dU (vn 1)) (aq 7 sc.nd) (ag (aj 8 sc.nd (al (d__law_side_size _) (hr.mono (by decide)) (aa (vn 7) ac)))
  (ak (lh 5 6 rfl sc.nd (aa (v_mul (vn 5) (aQ (vn 8) ae)) (aa (v_mul (vn 6) (aQ (vn 8) ae)) ac))))))
  (ak (av (al (d__law_frac _) (hr.mono (by decide)) (aa (v_sub (v_mul (vn 3) (vn 6)) (v_mul (cv Z.len_ (aa (vn 0) ac)) (vn 5))) (aa (v_mul (cv Z.len_ (aa (vn 0) ac)) (vn 6)) ac)))))))))) ?_
 rintro ws Q ⟨ps,ss,b,rfl,⟨h1,h8,s4,hp,hs⟩,hQ⟩
 refine az ?_
 have sz:=Is
 have tb:=qW ss.length ss rfl fun s ms=>(hs s ms).2
 have bg:=tb.big s4
 have gn : -(2^62)<=((ss.length:Nat):Int)/\((ss.length:Nat):Int)<2^62:=by omega
 simp_arith only[ah,af,HD]
 refine eF (xs:=ps) (enc:=Fp) (fun i ρ=>ρ=[some (.d (ptsQ ps)),some (.d (boxD ss)),some (.d (.int (Ep b))),some (.d (.int (cntN (ps.take i) ss (Em b):Nat))),none,none,none,none,none]) rfl rfl ?_ ?_
 · rintro i hi ρ rfl K hK
   obtain⟨pl,pg⟩:=hp _ (Ji hi)
   have cs:=zL (ss:=ss) (w:=Em b) hi rfl
   generalize ps[i]=p at pl pg cs ⊢
   simp_arith only[ah,af,HD]
   refine lZ (fun k=>.bool (FO (ss.getD k (.to 0)) (Em b) (p.getD k 0))) ?_ (by omega) ?_
   · intro k hk
     have e1:=eO (xs:=p) 0 (show(0:Int)<=0+(k:Int) by omega) (by omega)
     have e2:=eO (xs:=ss) (.to 0) (show(0:Int)<=0+(k:Int) by omega) (by omega)
     rw[show(0+(k:Int)).toNat=k by omega]at e1 e2
     have i2:itemAt (boxD ss) (0+(k:Int))=some (Fd (ss.getD k (.to 0))):=by show atI (ss.map Fd) _=_;rw[cA,e2];rfl
     have x1:Fm 2000 (p.getD k 0):=((pg _ (getD_mem (by omega))).1).mono (by decide)
     have x2:GQ (ss.getD k (.to 0)):=(hs _ (getD_mem hk)).1
     simp_arith only[ah,af,FZ,HD,e1,i2,bZ.eq]
   have em:((IV ss.length).map fun k=>Lj (FO (ss.getD k (.to 0)) (Em b) (p.getD k 0)))=((IV ss.length).map fun k=>FO (ss.getD k (.to 0)) (Em b) (p.getD k 0)).map .bool:=by rw[JG];rfl
   rw[em]
   have za:=nw pl (Em b)
   simp_arith only[ah,af,za]
   refine hK _ (ck ?_)
   rw[cs]
   split<;>rfl
 · rintro ρ rfl
   rw[IG (HX _)]
   simp_arith only[ah,af,HD]
   refine eF (xs:=ss) (enc:=Fd) (fun i ρ=>ρ=[some (.d (ptsQ ps)),some (.d (boxD ss)),some (.d (.int (Ep b))),some (.d (.int (cntN ps ss (Em b):Nat))),none,some (.d (.int (tpS (ss.take i)))),some (.d (.int (btS (ss.take i)))),none,none]) rfl rfl ?_ ?_
   · rintro i hi ρ rfl K hK
     have es:=hs _ (Ji hi)
     have tbi:=qW i (ss.take i) (by rw[JH];omega) fun s ms=>(hs s (Lc ms)).2
     obtain⟨b1,b2,_,_⟩:=tbi.big (by omega)
     have t1:tpS (ss.take (i+1))=tpS (ss.take i)*(szQ ss[i]).num:=by rw[IJ hi,xH]
     have t2:btS (ss.take (i+1))=btS (ss.take i)*((szQ ss[i]).den:Int):=by rw[IJ hi,zN]
     generalize ss[i]=s at es t1 t2 ⊢
     have z:=es.2.mono (show 1300<=2000 by decide)
     have sc:=es.1
     have c1:aN (tpS (ss.take i)) (szQ s).num:=.bb b1 z.bn
     have c2:aN (btS (ss.take i)) ((szQ s).den:Int):=.bb b2 z.bd
     simp_arith only[ah,af,HD,aT.eq]
     refine hK _ (ck ?_)
     rw[t1,t2]
     rfl
   · rintro ρ rfl
     rw[IG (HX _)]
     obtain⟨m0,mq⟩:=pi h1 tb (Em b)
     obtain⟨b1,b2,_,B2⟩:=bg
     have n8:cntN ps ss (Em b)<=8:=IT (K4 ..) h8
     have c1:aN ((cntN ps ss (Em b):Nat):Int) (btS ss):=.lt (by omega)
     have c3:∀x:Int,aN ((ps.length:Nat):Int) x:=fun x=>.lt (by omega)
     have hz:((ps.length:Int)*btS ss).natAbs<2^8000:=by
      rw[IR,Ik]
      exact zR h8 B2
     simp_arith only[ah,af,HD,bf.eq,c3,mq]
     exact aw hQ
noncomputable def qK(q:Rat):Prop:=-1<=q/\q<=1/\Fm 80 q
noncomputable def qV:Rat:=qd (-1) (10^9)
theorem xK:Kd [.int (-1),.int (10^9)]=fr qV:=by
 have h1:qV.num = -1:=by decide +kernel
 have h2:qV.den=10^9:=by decide +kernel
 unfold fr
 rw[h1,h2]
 rfl
theorem uM:Fm 80 qV:=⟨by decide +kernel,by decide +kernel⟩
noncomputable def ce:List W->(HH->Prop)->Prop:=fun ws Q=>∃(ps:List (List Rat))(k:Int),ws=[.reel,.d (ptsQ ps),.d (.int k)]/\((1<=ps.length)/\(ps.length<=8)/\(0<=k)/\(∀p∈ps,k<(p.length:Int)/\∀q∈p,Gd q))/\∀q:Rat,(qK q)->Q (fr q)
theorem ce.mono:∀ws (Q Q':HH->Prop),(∀d,Q d->Q' d)->ce ws Q->ce ws Q':=fun _ _ _ h_=>H0 fun _=>H0 fun _=>HP (HP fun q_ o_ ho_=>h_ _ (q_ o_ ho_))
theorem ce.len:∀ws (Q:HH->Prop),ce ws Q->ws.length=3:=fun _ _ h_=>by obtain⟨_,_,e_,_⟩:=h_;subst e_;rfl
theorem ce.eq(ps:List (List Rat))(k:Int)(h1:1<=ps.length)(h8:ps.length<=8)(k0:0<=k)(hp:∀p∈ps,k<(p.length:Int)/\∀q∈p,Gd q):ce [.reel,.d (ptsQ ps),.d (.int k)]=Gs (anyM fun q:Rat=>qK q) fun q=>VL.ret (fr q:HH):=by
 refine ai fun Q=>⟨?_,fun q_=>⟨ps,k,rfl,⟨h1,h8,k0,hp⟩,q_⟩⟩
 rintro⟨ps',k',e_,_,q_⟩
 simp_arith only[cL,bG,bJ,aO,aR,bP]at e_
 obtain⟨rfl,rfl⟩:=e_
 exact q_
theorem kr:FnScope ["_law_feed_here", "_law_pts", "_law_k", "_law_x", "_law_small", "_law_near_it_here", "_law_drawn", "_law_found"] ["_law_feed_here", "_law_pts", "_law_k"] (defScope (EG 48)):=⟨rfl,rfl,rfl,by decide +kernel,rfl,by decide +kernel,by decide +kernel⟩
theorem d__law_end(Fn:FnIn K mg "_law_end" (EG 48) ["_law_feed_here", "_law_pts", "_law_k"])(Z:Bz mg)(d__law_frac:∀rl,Dfn P w K mg base rl "_law_frac" ["_law_top", "_law_bottom_here"] 1 bf)(d__law_draw:∀rl,Dfn P w K mg base rl "_law_draw" ["_law_feed_here", "_law_many"] 1 aU)   : Dfn P w K mg base rl "_law_end" ["_law_feed_here", "_law_pts", "_law_k"] 2 ce:=by
 have sc:=kr
 refine Dfn.of Fn sc (ce.mono) (ce.len) (fun cdv A outer s H E hr=>(ag (aj 3 sc.nd (aQ (aQ (vn 1) (al (d__law_draw _) (hr.mono (by decide)) (aa (vn 0) (aa (cv Z.len_ (aa (vn 1) ac)) ac)))) (vn 2)))
  (ag (aj 4 sc.nd (aQ (cE (aa ae (aa ae (aa (mF ae) ac)))) (al (d__law_draw _) (hr.mono (by decide)) (aa (vn 0) (aa ae ac)))))
  (ag (aj 5 sc.nd (al (d__law_frac _) (hr.mono (by decide)) (aa (v_add (v_mul (aQ (vn 3) ae) (v_pow ae ae)) (v_mul (vn 4) (aQ (vn 3) ae))) (aa (v_mul (aQ (vn 3) ae) (v_pow ae ae)) ac))))
  (ag (aj 6 sc.nd (al (d__law_frac _) (hr.mono (by decide)) (aa (v_sub (al (d__law_draw _) (hr.mono (by decide)) (aa (vn 0) (aa ae ac))) ae) (aa ae ac))))
  (ag (aj 7 sc.nd (aQ (cE (aa (vn 3) (aa (vn 3) (aa (vn 5) (aa (vn 6) (aa (bU (aa ae (aa ae ac))) (aa (bU (aa ae (aa ae ac))) (aa (bU (aa (mF ae) (aa ae ac))) (aa (bU (aa (mF ae) (aa (v_pow ae ae) ac))) ac))))))))) (al (d__law_draw _) (hr.mono (by decide)) (aa (vn 0) (aa ae ac)))))
  (ak (av (dG (qO vO vO (v_sub ae (aQ (vn 7) ae)) (aQ (vn 7) ae) (aQ (vn 7) ae)) (vn 7) (bU (aa ae (aa ae ac)))))))))))) ?_
 rintro ws Q ⟨ps,k,rfl,⟨h1,h8,k0,hp⟩,hQ⟩
 refine az ?_
 have sz:=Is
 have l1:(0:Int)<(ps.length:Int):=by omega
 have l2:(ps.length:Int)<2^60:=by omega
 simp_arith only[ah,af,aY,aZ,aA,a_,aB,au,HD,aU.eq]
 (with_reducible (first|refine aE fun a ha=>?_|refine aK fun a ha=>?_))
 try simp_arith only[ah,af,aY,aZ,aA,a_,aB,au,HD,aU.eq]
 refine EX (pz (fun p=>k<(p.length:Int)/\∀q∈p,Gd q) ha.1 ha.2 hp fun p mp hpp=>?_)
 have e:=eO (xs:=p) 0 k0 hpp.1
 have hx:Gd (p.getD k.toNat 0):=hpp.2 _ (getD_mem (by have:=hpp.1;omega))
 generalize p.getD k.toNat 0=x at e hx
 have c9:zW 10 9:=⟨by decide,by decide,by decide⟩
 simp_arith only[ah,af,aY,aZ,aA,a_,aB,au,HD,e,aU.eq]
 (with_reducible (first|refine aE fun b hb=>?_|refine aK fun b hb=>?_))
 try simp_arith only[ah,af,aY,aZ,aA,a_,aB,au,HD]
 refine EX (bQ (xs:=[0,1,-1]) (enc:=Iw) (fun y:Int=>-1<=y/\y<=1) rfl hb.1 (by simpa using hb.2) (by decide) fun y hy=>?_)
 have dn:0<(x.den:Int):=by have:=x.den_pos;omega
 have d2:(x.den:Int)<2^45:=by have:=hx.1.2;exact_mod_cast this
 have n2:x.num.natAbs<2^45:=hx.1.1
 have t9:(10:Int)^JD 9=1000000000:=by decide
 have cm1:∀z:Int,aN z (10^JD 9):=fun z=>.rt (by decide)
 have cm2:∀z:Int,aN y z:=fun z=>.lt (by omega)
 have hb9:0<(x.den:Int)*10^JD 9:=by rw[t9];omega
 have hz9:((x.den:Int)*10^JD 9).natAbs<2^8000:=by
  rw[t9]
  exact HL (show((x.den:Int)*1000000000).natAbs<2^80 by omega) (HS (by decide) (by decide))
 have near:Fm 80 (qd (x.num*10^JD 9+y*(x.den:Int)) ((x.den:Int)*10^JD 9)):=by
  rw[t9]
  have yd:(y*(x.den:Int)).natAbs<=x.den:=by
   rw[IR,Ik]
   exact IT (LU _ (show y.natAbs<=1 by omega)) (by omega)
  have hd:x.den<2^45:=hx.1.2
  refine mU (by omega) ?_ ?_
  · generalize y*(x.den:Int)=v at yd
    omega
  · omega
 simp_arith only[ah,af,aY,aZ,aA,a_,aB,au,HD,c9,cm1,cm2,bf.eq,aU.eq]
 (with_reducible (first|refine aE fun c hc=>?_|refine aK fun c hc=>?_))
 generalize qd (x.num*10^JD 9+y*(x.den:Int)) ((x.den:Int)*10^JD 9)=u at near ⊢
 have drw:Fm 80 (qd (c-6) 18):=mU (by decide) (by omega) (by decide)
 generalize qd (c-6) 18=v at drw ⊢
 have td:Kd [Iw (-1),Iw (10^JD 9)]=fr qV:=xK
 simp_arith only[ah,af,aY,aZ,aA,a_,aB,au,HD,c9,td,aU.eq]
 (with_reducible (first|refine aE fun m hm=>?_|refine aK fun m hm=>?_))
 try simp_arith only[ah,af,aY,aZ,aA,a_,aB,au,HD,c9,td]
 refine EX (bQ (xs:=[x,x,u,v,0,1,-1,qV]) (enc:=fr) (fun q:Rat=>Fm 80 q) rfl hm.1 (by simpa using hm.2) (by
  intro q mq
  simp only[Ih,MV,or_false]at mq
  rcases mq with rfl|rfl|rfl|rfl|rfl|rfl|rfl|rfl
  · exact hx.1.mono (by decide)
  · exact hx.1.mono (by decide)
  · exact near
  · exact drw
  · exact⟨by decide,by decide⟩
  · exact⟨by decide,by decide⟩
  · exact⟨by decide,by decide⟩
  · exact uM) fun q hq=>?_)
 have l1:decide (0-(q.den:Int)<=q.num)=decide (-1<=q):=by
  rw[decide_eq_decide,Rat.le_iff]
  simp<;>omega
 have l2:decide (q.num<=(q.den:Int))=decide (q<=1):=by
  rw[decide_eq_decide,Rat.le_iff]
  simp
 simp_arith only[ah,af,aY,aZ,aA,a_,aB,au,HD,l1,l2]
 by_cases h1 : -1<=q
 · by_cases h2:q<=1
   · rw[if_pos (by simp[h1,h2])]
     exact aw (hQ q ⟨h1,h2,hq⟩)
   · rw[if_neg (by simp[h1,h2])]
     exact aw (hQ 1 ⟨by decide,by decide,by decide,by decide⟩)
 · rw[if_neg (by simp[h1])]
   exact aw (hQ 1 ⟨by decide,by decide,by decide,by decide⟩)
theorem gf{a b c d:Int}(hb:0<b)(hd:0<d):a*d<c*b↔qd a b<qd c d:=by
 have e1:(a:Rat)=qd a b*(b:Rat):=by have:=cZ hb;unfold qd;grind
 have e2:(c:Rat)=qd c d*(d:Rat):=by have:=cZ hd;unfold qd;grind
 have z1:(0:Rat)<(b:Rat):=by exact_mod_cast hb
 have z2:(0:Rat)<(d:Rat):=by exact_mod_cast hd
 have z3:(0:Rat)<(b:Rat)*(d:Rat):=Rat.mul_pos z1 z2
 rw[<- Rat.intCast_lt_intCast,IN,IN,e1,e2]
 generalize qd a b=x
 generalize qd c d=y
 generalize (b:Rat)=u at *
 generalize (d:Rat)=v at *
 constructor
 · intro h
   by_cases c:x<y
   · exact c
   · have:=LL (show 0<=x-y by grind) (Iq z3)
     grind
 · intro h
   have:=Rat.mul_pos (show 0<y-x by grind) z3
   grind
noncomputable def G_(f:Fin 3)(s:Sd):Prop:=(f=0/\∃t,s = .to t)\/(f=1/\∃a b,s = .from a b)\/(f=2/\((∃a b,s = .from a b)\/∃a b,s = .round a b))
theorem wl(x y:Rat):Gg x y true=true↔x<=y:=by
 unfold Gg
 simp[Jl]
theorem tV(x y:Rat):Gg x y false=true↔x<y:=by
 unfold Gg
 simp
theorem Ap:decide (("shut" : Str) = "shut")=true:=by decide +kernel
theorem Aq:decide (("open" : Str) = "shut")=false:=by decide +kernel
theorem CM:decide (("shut" : Str) = "open")=false:=by decide +kernel
theorem CN:decide (("open" : Str) = "open")=true:=by decide +kernel
theorem Ar:decide (("half" : Str) = "shut")=false:=by decide +kernel
theorem CO:decide (("half" : Str) = "open")=false:=by decide +kernel
theorem bV(t x:Rat):(FO (.to t) "shut" x=true↔x<=t)/\(FO (.to t) "open" x=true↔x<t)/\(FO (.to t) "half" x=true↔x<t):=by
 refine⟨?_,?_,?_⟩
 · show Gg x t (decide (("shut" : Str) = "shut"))=true↔_
   rw[Ap,wl]
 · show Gg x t (decide (("open" : Str) = "shut"))=true↔_
   rw[Aq,tV]
 · show Gg x t (decide (("half" : Str) = "shut"))=true↔_
   rw[Ar,tV]
theorem bH(a b x:Rat):(FO (.from a b) "shut" x=true↔a<=x/\x<=b)/\(FO (.from a b) "open" x=true↔a<x/\x<b)/\(FO (.from a b) "half" x=true↔a<=x/\x<b):=by
 refine⟨?_,?_,?_⟩
 · show(Gg a x (!decide (("shut" : Str) = "open"))&&Gg x b (decide (("shut" : Str) = "shut")))=true↔_
   rw[Ap,CM,Li,wl,Jr,wl]
 · show(Gg a x (!decide (("open" : Str) = "open"))&&Gg x b (decide (("open" : Str) = "shut")))=true↔_
   rw[Aq,CN,Li,tV,JQ,tV]
 · show(Gg a x (!decide (("half" : Str) = "open"))&&Gg x b (decide (("half" : Str) = "shut")))=true↔_
   rw[Ar,CO,Li,tV,Jr,wl]
theorem cp(a b x:Rat):(FO (.round a b) "shut" x=true↔a<=x\/x<=b)/\(FO (.round a b) "open" x=true↔a<x\/x<b)/\(FO (.round a b) "half" x=true↔a<=x\/x<b):=by
 refine⟨?_,?_,?_⟩
 · show(Gg a x (!decide (("shut" : Str) = "open"))||Gg x b (decide (("shut" : Str) = "shut")))=true↔_
   rw[Ap,CM,Nj,wl,Jr,wl]
 · show(Gg a x (!decide (("open" : Str) = "open"))||Gg x b (decide (("open" : Str) = "shut")))=true↔_
   rw[Aq,CN,Nj,tV,JQ,tV]
 · show(Gg a x (!decide (("half" : Str) = "open"))||Gg x b (decide (("half" : Str) = "shut")))=true↔_
   rw[Ar,CO,Nj,tV,Jr,wl]
theorem cH{a b:Rat}(h:a<=b):mx a 0<=mx b 0:=by unfold mx;split<;>split<;>grind
theorem oY(a:Rat):0<=mx a 0:=by unfold mx;split<;>grind
theorem yW:mx (-1) 0=0:=by decide
theorem vV:mx 1 0=1:=by decide
theorem iI{a b a' b':Rat}(h1:mx a 0<=mx a' 0)(h2:mx b' 0<=mx b 0):szQ (.from a' b')<=szQ (.from a b):=by
 show mx (mx b' 0-mx a' 0) 0<=mx (mx b 0-mx a 0) 0
 exact cH (by grind)
theorem Bi{a b:Rat}(h:a<=b):mn a 1<=mn b 1:=by unfold mn;split<;>split<;>grind
theorem lx{a b a' b':Rat}(h1:mx a 0<=mx a' 0)(h2:mx b' 0<=mx b 0):szQ (.round a' b')<=szQ (.round a b):=by
 show mn (1+(mx b' 0-mx a' 0)) 1<=mn (1+(mx b 0-mx a 0)) 1
 exact Bi (by grind)
theorem dZ(s:Sd)(h:s.In1):0<=szQ s/\szQ s<=1:=by
 obtain⟨⟨h1,h2⟩,h3,h4⟩:=h
 cases s with
 | to t =>
   refine⟨oY t,?_⟩
   show mx t 0<=1
   have:t<=1:=h4
   have:=cH this
   rwa [vV]at this
 | «from» a b =>
   refine⟨oY _,?_⟩
   show mx (mx b 0-mx a 0) 0<=1
   have:b<=1:=h4
   have:=cH this
   have:=oY a
   rw[vV]at *
   have:mx (mx b 0-mx a 0) 0<=mx 1 0:=cH (by grind)
   rwa [vV]at this
 | round a b =>
   have ha:a<=1:=h2
   have:=cH ha
   have:=oY b
   rw[vV]at *
   show 0<=mn (1+(mx b 0-mx a 0)) 1/\mn (1+(mx b 0-mx a 0)) 1<=1
   unfold mn
   split<;>constructor<;>grind
theorem nh{t:Rat}:∀{rs:List Rat},(∃x∈rs,t<=x)->∃m∈rs,t<=m/\∀x∈rs,t<=x->m<=x
 | [],h=>by obtain⟨_,h,_⟩:=h;cases h
 | r::rs,h=>by
   by_cases c:∃x∈rs,t<=x
   · obtain⟨m,m1,m2,m3⟩:=nh c
     by_cases d:t<=r/\r<=m
     · refine⟨r,HM,d.1,fun x mx hx=>?_⟩
       rcases Ih.mp mx with rfl|mx
       · exact ID
       · exact IS d.2 (m3 x mx hx)
     · refine⟨m,HK _ m1,m2,fun x mx hx=>?_⟩
       rcases Ih.mp mx with rfl|mx
       · rcases Rat.le_total (a:=m) (b:=x)with z|z
         · exact z
         · exact absurd ⟨hx,z⟩ d
       · exact m3 x mx hx
   · obtain⟨y,my,hy⟩:=h
     rcases Ih.mp my with rfl|my
     · refine⟨y,HM,hy,fun x mx hx=>?_⟩
       rcases Ih.mp mx with rfl|mx
       · exact ID
       · exact absurd ⟨x,mx,hx⟩ c
     · exact absurd ⟨y,my,hy⟩ c
theorem pX(h:∃x∈rs,x<=t):∃m∈rs,m<=t/\∀x∈rs,x<=t->x<=m:=by
 obtain⟨x,mx,hx⟩:=h
 obtain⟨m,m1,m2,m3⟩:=nh (t:=-t) (rs:=rs.map (- ·)) ⟨-x,J8 mx,by grind⟩
 obtain⟨r,mr,rfl⟩:=IM.mp m1
 exact⟨r,mr,by grind,fun y my hy=>by have:=m3 (-y) (J8 my) (by grind);grind⟩
theorem Ab{a b:Rat}(ha:a∈(-1)::rs)(hb:b∈rs++[1])(h:a<=b):Sd.from a b∈slFS rs :=
 IU.mpr ⟨a,ha,I_.mpr ⟨b,hb,by rw[if_pos h]⟩⟩
theorem Dc{a b:Rat}(ha:a∈rs++[1])(hb:b∈(-1)::rs)(h:b<=a):Sd.round a b∈slRS rs :=
 IU.mpr ⟨a,ha,I_.mpr ⟨b,hb,by rw[if_pos h]⟩⟩
theorem wc(rs:List Rat)(h:f≠0):Sd.from (-1) 1∈slS f.val rs:=by
 have:Sd.from (-1) 1∈slFS rs:=Ab HM (HY _ (Ij.mpr rfl)) (by decide)
 unfold slS
 rw[if_neg (by intro z;exact h (Fin.ext z))]
 split
 · exact this
 · exact IK _ this
theorem wb(h:f≠0){s:Sd}(m:s∈slFS rs):s∈slS f.val rs:=by
 unfold slS
 rw[if_neg (by intro z;exact h (Fin.ext z))]
 split
 · exact m
 · exact IK _ m
theorem qX:szQ (.from (-1) 1)=1:=by
 show mx (mx 1 0-mx (-1) 0) 0=1
 rw[vV,yW,show(1:Rat)-0=1 by grind]
 exact vV
theorem uP{a b:Rat}(h:a<=b):szQ (.round a b)=1:=by
 show mn (1+(mx b 0-mx a 0)) 1=1
 have:=cH h
 unfold mn
 split<;>grind
theorem uT(hr:∀q∈rs,0<=q/\q<1){s:Sd}(hf:G_ f s)(h1:s.In1)(hx:∃x∈rs,FO s "shut" x=true):∃s'∈slS f.val rs,(∀x∈rs,FO s "shut" x=true->FO s' "shut" x=true)/\szQ s'<=szQ s:=by
 have hF:∀{a b:Rat},f≠0->(∃x∈rs,FO (.from a b) "shut" x=true)->∃s'∈slS f.val rs,(∀x∈rs,FO (.from a b) "shut" x=true->FO s' "shut" x=true)/\szQ s'<=szQ (.from a b):=by
  intro a b hf hx
  obtain⟨x,mx',hx⟩:=hx
  obtain⟨x1,x2⟩:=(bH a b x).1.mp hx
  obtain⟨a',ma,a1,a2⟩:=nh (t:=a) ⟨x,mx',x1⟩
  obtain⟨b',mb,b1,b2⟩:=pX (t:=b) ⟨x,mx',x2⟩
  refine⟨.from a' b',wb hf (Ab (HK _ ma) (IK _ mb) (IS (a2 x mx' x1) (b2 x mx' x2))),fun y my hy=>?_,iI (cH a1) (cH b1)⟩
  obtain⟨y1,y2⟩:=(bH a b y).1.mp hy
  exact(bH a' b' y).1.mpr ⟨a2 y my y1,b2 y my y2⟩
 obtain⟨rfl,t,rfl⟩|⟨rfl,a,b,rfl⟩|⟨rfl,⟨a,b,rfl⟩|⟨a,b,rfl⟩⟩:=hf
 · obtain⟨x,mx',hx⟩:=hx
   obtain⟨m,mm,m1,m2⟩:=pX (t:=t) ⟨x,mx',(bV t x).1.mp hx⟩
   exact⟨.to m,J8 (IK _ mm),fun y my hy=>(bV m y).1.mpr (m2 y my ((bV t y).1.mp hy)),cH m1⟩
 · exact hF (by decide) hx
 · exact hF (by decide) hx
 · have ha1:a<=1:=h1.1.2
   have hb1 : -1<=b:=h1.2.1
   obtain⟨a',ma,a1,a2,a3⟩:∃a'∈rs++[1],a<=a'/\(∀x∈rs,a<=x->a'<=x)/\a'<=1:=by
    by_cases c:∃x∈rs,a<=x
    · obtain⟨m,m1,m2,m3⟩:=nh c
      exact⟨m,IK _ m1,m2,m3,Iq (hr m m1).2⟩
    · exact⟨1,HY _ (Ij.mpr rfl),ha1,fun x mx' hx'=>absurd ⟨x,mx',hx'⟩ c,ID⟩
   obtain⟨b',mb,b1,b2⟩:∃b'∈(-1)::rs,b'<=b/\∀x∈rs,x<=b->x<=b':=by
    by_cases c:∃x∈rs,x<=b
    · obtain⟨m,m1,m2,m3⟩:=pX c
      exact⟨m,HK _ m1,m2,m3⟩
    · exact⟨-1,HM,hb1,fun x mx' hx'=>absurd ⟨x,mx',hx'⟩ c⟩
   by_cases c:b'<=a'
   · refine⟨.round a' b',HY _ (Dc ma mb c),fun y my hy=>?_,lx (cH a1) (cH b1)⟩
     rcases(cp a b y).1.mp hy with z|z
     · exact(cp a' b' y).1.mpr (.inl (a2 y my z))
     · exact(cp a' b' y).1.mpr (.inr (b2 y my z))
   · refine⟨.from (-1) 1,wc rs (by decide),fun y my _=>(bH (-1) 1 y).1.mpr ⟨IS (by decide) (hr y my).1,Iq (hr y my).2⟩,?_⟩
     rw[qX,uP (IS a1 (IS (Iq (JK.mp c)) b1))]
     exact ID
theorem qZ(hr:∀q∈rs,0<=q/\q<1){s:Sd}(hf:G_ f s)(h1:s.In1):∃s'∈slS f.val rs,(∀x∈rs,FO s' "open" x=true->FO s "open" x=true)/\szQ s<=szQ s':=by
 have up:∀{t:Rat},t<=1->∃t'∈rs++[1],t<=t'/\∀x∈rs,x<t'->x<t:=by
  intro t ht
  by_cases c:∃x∈rs,t<=x
  · obtain⟨m,m1,m2,m3⟩:=nh c
    exact⟨m,IK _ m1,m2,fun x mx' hx=>JK.mp fun z=>JK.mpr hx (m3 x mx' z)⟩
  · exact⟨1,HY _ (Ij.mpr rfl),ht,fun x mx' _=>JK.mp fun z=>c ⟨x,mx',z⟩⟩
 have dn:∀{t:Rat},-1<=t->∃t'∈(-1)::rs,t'<=t/\∀x∈rs,t'<x->t<x:=by
  intro t ht
  by_cases c:∃x∈rs,x<=t
  · obtain⟨m,m1,m2,m3⟩:=pX c
    exact⟨m,HK _ m1,m2,fun x mx' hx=>JK.mp fun z=>JK.mpr hx (m3 x mx' z)⟩
  · exact⟨-1,HM,ht,fun x mx' _=>JK.mp fun z=>c ⟨x,mx',z⟩⟩
 have hF:∀{a b:Rat},f≠0->(Sd.from a b).In1->∃s'∈slS f.val rs,(∀x∈rs,FO s' "open" x=true->FO (.from a b) "open" x=true)/\szQ (.from a b)<=szQ s':=by
  intro a b hf h1
  obtain⟨a',ma,a1,a2⟩:=dn (t:=a) h1.1.1
  obtain⟨b',mb,b1,b2⟩:=up (t:=b) h1.2.2
  by_cases c:a'<=b'
  · refine⟨.from a' b',wb hf (Ab ma mb c),fun y my hy=>?_,iI (cH a1) (cH b1)⟩
    obtain⟨y1,y2⟩:=(bH a' b' y).2.1.mp hy
    exact(bH a b y).2.1.mpr ⟨a2 y my y1,b2 y my y2⟩
  · have c:=JK.mp c
    have ma':a'∈rs:=by
     rcases Ih.mp ma with rfl|m
     · rcases Ip.mp mb with m|m
       · exact absurd (IS (show(-1:Rat)<=0 by decide) (hr b' m).1) (JK.mpr c)
       · cases Ij.mp m
         exact absurd c (by decide)
     · exact m
    refine⟨.from a' a',wb hf (Ab ma (IK _ ma') ID),fun y my hy=>?_,?_⟩
    · obtain⟨y1,y2⟩:=(bH a' a' y).2.1.mp hy
      grind
    · have:szQ (.from a b)<=szQ (.from a a):=iI ID (cH (by grind))
      refine IS this ?_
      show mx (mx a 0-mx a 0) 0<=mx (mx a' 0-mx a' 0) 0
      rw[show mx a 0-mx a 0=0 by grind,show mx a' 0-mx a' 0=0 by grind]
      exact ID
 obtain⟨rfl,t,rfl⟩|⟨rfl,a,b,rfl⟩|⟨rfl,⟨a,b,rfl⟩|⟨a,b,rfl⟩⟩:=hf
 · obtain⟨t',m,t1,t2⟩:=up (t:=t) h1.1.2
   exact⟨.to t',J8 m,fun y my hy=>(bV t y).2.1.mpr (t2 y my ((bV t' y).2.1.mp hy)),cH t1⟩
 · exact hF (by decide) h1
 · exact hF (by decide) h1
 · by_cases c:∀x∈rs,FO (.round a b) "open" x=true
   · refine⟨.from (-1) 1,wc rs (by decide),fun y my _=>c y my,?_⟩
     rw[qX]
     exact(dZ _ h1).2
   · obtain⟨x,mx',hx⟩:∃x∈rs,¬FO (.round a b) "open" x=true:=by
       refine My fun z=>c fun x mx'=>?_
       exact My fun y=>z ⟨x,mx',y⟩
     have xa:x<=a:=Jl.mp fun z=>hx ((cp a b x).2.1.mpr (.inl z))
     have xb:b<=x:=Jl.mp fun z=>hx ((cp a b x).2.1.mpr (.inr z))
     obtain⟨a',ma,a1,a2⟩:=pX (t:=a) ⟨x,mx',xa⟩
     obtain⟨b',mb,b1,b2⟩:=nh (t:=b) ⟨x,mx',xb⟩
     refine⟨.round a' b',HY _ (Dc (IK _ ma) (HK _ mb) (IS (b2 x mx' xb) (a2 x mx' xa))),fun y my hy=>?_,lx (cH a1) (cH b1)⟩
     rcases(cp a' b' y).2.1.mp hy with z|z
     · exact(cp a b y).2.1.mpr (.inl (JK.mp fun q=>JK.mpr z (a2 y my q)))
     · exact(cp a b y).2.1.mpr (.inr (JK.mp fun q=>JK.mpr z (b2 y my q)))
theorem c_(hl:p.length=ss.length)(w:Str):FV p ss w=true↔∀k,k<ss.length->FO (ss.getD k (.to 0)) w (p.getD k 0)=true:=by
 rw[<- nw hl w]
 simp[JP]
theorem gi:∀(qs:List Rat)(a:Rat),qs.foldl (· * ·) a=a*mW qs
 | [],a=>by simp[mW,Rat.mul_one]
 | q::qs,a=>by
   unfold mW
   rw[JZ,JZ,gi qs,gi qs (1*q),Lk,Rat.mul_assoc]
theorem cw(s:Sd)(ss:List Sd):aW (s::ss)=szQ s*aW ss:=by
 show((szQ s::ss.map szQ).foldl (· * ·) 1)=_
 rw[JZ,gi,Lk]
 rfl
theorem i3{a b c d:Rat}(a0:0<=a)(ab:a<=b)(c0:0<=c)(cd:c<=d):0<=a*c/\a*c<=b*d:=by
 refine⟨LL a0 c0,IS (IQ ab c0) (KN cd (IS a0 ab))⟩
theorem dJ:∀{ss' ss:List Sd},ss'.length=ss.length->(∀k,k<ss.length->0<=szQ (ss'.getD k (.to 0))/\szQ (ss'.getD k (.to 0))<=szQ (ss.getD k (.to 0)))->0<=aW ss'/\aW ss'<=aW ss
 | [],[],_,_=>⟨by decide,ID⟩
 | s'::ss',s::ss,hl,h=>by
   have h0:=h 0 (by simp)
   have ih:=dJ (ss':=ss') (ss:=ss) (by simpa using hl) fun k hk=>by
    have:=h (k+1) (by simp;omega)
    simpa using this
   rw[cw,cw]
   exact i3 (by simpa using h0.1) (by simpa using h0.2) ih.1 ih.2
 | [],_::_,hl,_=>by simp at hl
 | _::_,[],hl,_=>by simp at hl
theorem i4{β:Type}(d:β){R:Nat->β->Prop}:∀{n:Nat},(∀k,k<n->∃y,R k y)->∃ys:List β,ys.length=n/\∀k,k<n->R k (ys.getD k d)
 | 0,_=>⟨[],rfl,fun _ h=>absurd h (by omega)⟩
 | n+1,h=>by
   obtain⟨ys,h1,h2⟩:=i4 d (n:=n) fun k hk=>h k (by omega)
   obtain⟨y,hy⟩:=h n (by omega)
   refine⟨ys++[y],by rw[Ic,h1];rfl,fun k hk=>?_⟩
   rw[Ib]
   by_cases c:k<n
   · rw[Ka (by omega),<- Ib]
     exact h2 k c
   · have:k=n:=by omega
     subst this
     rw[Kp (by omega),h1,N_]
     exact hy
theorem k_{ss':List Sd}{w w':Str}(h:∀p∈ps,FV p ss w=true->FV p ss' w'=true):cntN ps ss w<=cntN ps ss' w':=by
 unfold cntN
 rw[<- LZ,<- LZ]
 exact List.countP_mono_left h
theorem rj{a b:Nat}(hn:1<=n)(h:a<=b):qd (a:Nat) (n:Nat)<=qd (b:Nat) (n:Nat):=by
 rcases Nat.lt_or_ge a b with z|z
 · refine Iq ((gf (by omega) (by omega)).mp ?_)
   exact Me (by omega) (by omega)
 · have:a=b:=by omega
   rw[this];exact ID
structure Pn (n:Nat) (N:Nat->List Rat) (ps:List (List Rat)):Prop where
 n1:1<=ps.length
 unit:∀k,k<n->∀q∈N k,0<=q/\q<1
 len:∀p∈ps,p.length=n
 at_:∀p∈ps,∀k,k<n->p.getD k 0∈N k
noncomputable def nn(f:Fin 3)(n:Nat)(N:Nat->List Rat)(ss:List Sd):Prop:=ss.length=n/\∀k,k<n->ss.getD k (.to 0)∈slS f.val (N k)
noncomputable def zU(f:Fin 3)(n:Nat)(ss:List Sd):Prop:=ss.length=n/\∀k,k<n->G_ f (ss.getD k (.to 0))/\(ss.getD k (.to 0)).In1
theorem eZ(hr:∀q∈rs,0<=q/\q<1):∀s∈slS f.val rs,G_ f s/\s.In1:=by
 have hE:∀q∈rs++[1],-1<=q/\q<=1:=fun q mq=>by
  rcases Ip.mp mq with m|m
  · obtain⟨a,b⟩:=hr q m
    exact⟨IS (by decide) a,Iq b⟩
  · cases Ij.mp m;exact⟨by decide,by decide⟩
 have hB:∀q∈(-1)::rs,-1<=q/\q<=1:=fun q mq=>by
  rcases Ih.mp mq with rfl|m
  · exact⟨by decide,by decide⟩
  · exact hE q (IK _ m)
 have hF:∀s∈slFS rs,(∃a b,s = .from a b)/\s.In1:=fun s ms=>by
  obtain⟨a,ma,h1⟩:=IU.mp ms
  obtain⟨b,mb,h2⟩:=I_.mp h1
  split at h2
  · cases h2;exact⟨⟨a,b,rfl⟩,hB a ma,hE b mb⟩
  · cases h2
 have hR:∀s∈slRS rs,(∃a b,s = .round a b)/\s.In1:=fun s ms=>by
  obtain⟨a,ma,h1⟩:=IU.mp ms
  obtain⟨b,mb,h2⟩:=I_.mp h1
  split at h2
  · cases h2;exact⟨⟨a,b,rfl⟩,hE a ma,hB b mb⟩
  · cases h2
 intro s ms
 obtain rfl|rfl|rfl:=pW f
 · have ms:s∈(rs++[1]).map Sd.to:=ms
   obtain⟨t,mt,rfl⟩:=IM.mp ms
   exact⟨.inl ⟨rfl,t,rfl⟩,hE t mt,hE t mt⟩
 · have ms:s∈slFS rs:=ms
   obtain⟨h1,h2⟩:=hF s ms
   exact⟨.inr (.inl ⟨rfl,h1⟩),h2⟩
 · have ms:s∈slFS rs++slRS rs:=ms
   rcases Ip.mp ms with m|m
   · obtain⟨h1,h2⟩:=hF s m
     exact⟨.inr (.inr ⟨rfl,.inl h1⟩),h2⟩
   · obtain⟨h1,h2⟩:=hR s m
     exact⟨.inr (.inr ⟨rfl,.inr h1⟩),h2⟩
theorem u0(h:zU f n ss):0<=aW ss:=(dJ (ss':=ss) (ss:=ss) rfl fun k hk=>⟨(dZ _ (h.2 k (by rw[<- h.1];exact hk)).2).1,ID⟩).1
theorem iZ(hp:Pn n N ps){U:Rat}(U0:0<=U)(hU:∀ss,nn f n N ss->Ft ps ss<=U/\FX ps ss<=U)(hs:zU f n ss):Ft ps ss<=U/\FX ps ss<=U:=by
 have hN:(1:Nat)<=ps.length:=hp.n1
 have s0:=u0 hs
 constructor
 · by_cases hx:∃p∈ps,FV p ss "shut" = true
   · obtain⟨p,mp,hx⟩:=hx
     have lp:p.length=ss.length:=by rw[hp.len p mp,hs.1]
     have hx:=(c_ lp "shut").mp hx
     obtain⟨ss',l',h'⟩:=i4 (Sd.to 0) (n:=n) (R:=fun k y=>y∈slS f.val (N k)/\(∀x∈N k,FO (ss.getD k (.to 0)) "shut" x=true->FO y "shut" x=true)/\szQ y<=szQ (ss.getD k (.to 0))) fun k hk=>by
      obtain⟨o,i⟩:=hs.2 k hk
      obtain⟨y,y1,y2,y3⟩:=uT (hp.unit k hk) o i ⟨_,hp.at_ p mp k hk,hx k (by rw[hs.1];exact hk)⟩
      exact⟨y,y1,y2,y3⟩
     refine IS ?_ (hU ss' ⟨l',fun k hk=>(h' k hk).1⟩).1
     unfold Ft
     have c:cntN ps ss "shut" <= cntN ps ss' "shut" := k_ fun q mq hq=>by
      have lq:q.length=ss.length:=by rw[hp.len q mq,hs.1]
      rw[c_ (by rw[hp.len q mq,l'])]
      intro k hk
      rw[l']at hk
      exact(h' k hk).2.1 _ (hp.at_ q mq k hk) ((c_ lq "shut").mp hq k (by rw[hs.1];exact hk))
     have z:aW ss'<=aW ss:=(dJ (by rw[l',hs.1]) fun k hk=>by
      rw[hs.1]at hk
      exact⟨(dZ _ (eZ (hp.unit k hk) _ (h' k hk).1).2).1,(h' k hk).2.2⟩).2
     have:=rj hN c
     grind
   · have c:cntN ps ss "shut" = 0:=by
       unfold cntN
       rw[KJ,M2]
       intro p mp hq
       exact hx ⟨p,mp,hq⟩
     unfold Ft
     rw[c]
     have:qd ((0:Nat):Int) (ps.length:Nat)=0:=by unfold qd;simp[Kh,Ms]
     rw[this]
     grind
 · obtain⟨ss',l',h'⟩:=i4 (Sd.to 0) (n:=n) (R:=fun k y=>y∈slS f.val (N k)/\(∀x∈N k,FO y "open" x=true->FO (ss.getD k (.to 0)) "open" x=true)/\szQ (ss.getD k (.to 0))<=szQ y) fun k hk=>by
     obtain⟨o,i⟩:=hs.2 k hk
     obtain⟨y,y1,y2,y3⟩:=qZ (hp.unit k hk) o i
     exact⟨y,y1,y2,y3⟩
   refine IS ?_ (hU ss' ⟨l',fun k hk=>(h' k hk).1⟩).2
   unfold FX
   have c:cntN ps ss' "open" <= cntN ps ss "open" := k_ fun q mq hq=>by
    have lq:q.length=ss'.length:=by rw[hp.len q mq,l']
    rw[c_ (by rw[hp.len q mq,hs.1])]
    intro k hk
    rw[hs.1]at hk
    exact(h' k hk).2.1 _ (hp.at_ q mq k hk) ((c_ lq "open").mp hq k (by rw[l'];exact hk))
   have z:aW ss<=aW ss':=(dJ (by rw[l',hs.1]) fun k hk=>by
    rw[l']at hk
    exact⟨(dZ _ (hs.2 k hk).2).1,(h' k hk).2.2⟩).2
   have:=rj hN c
   grind
theorem lQ{k:Nat}(x d:α)(h:k<n):(IC n x).getD k d=x:=by
 rw[Ib,Lu,if_pos h];rfl
theorem mw(hp:Pn n N ps){U:Rat}(hU:∀ss,nn f n N ss->Ft ps ss<=U/\FX ps ss<=U):0<=U:=by
 have key:∃s:Sd,(∀rs,s∈slS f.val rs)/\(∀x:Rat,0<=x->x<1->FO s "shut" x=true)/\szQ s=1:=by
  by_cases c:f=0
  · subst c
    exact⟨.to 1,fun rs=>J8 (HY _ (Ij.mpr rfl)),fun x _ h=>(bV 1 x).1.mpr (Iq h),vV⟩
  · exact⟨.from (-1) 1,fun rs=>wc rs c,fun x h0 h1=>(bH (-1) 1 x).1.mpr ⟨IS (by decide) h0,Iq h1⟩,qX⟩
 obtain⟨s,s1,s2,s3⟩:=key
 have h:=(hU (IC n s) ⟨KZ,fun k hk=>by rw[lQ _ _ hk];exact s1 _⟩).1
 have c:cntN ps (IC n s) "shut" = ps.length:=by
  unfold cntN
  rw[NH.mpr]
  intro p mp
  rw[c_ (by rw[hp.len p mp,KZ])]
  intro k hk
  rw[KZ]at hk
  rw[lQ _ _ hk]
  have:=hp.unit k hk _ (hp.at_ p mp k hk)
  exact s2 _ this.1 this.2
 have z:∀m,aW (IC m s)=1:=fun m=>by
  induction m with
  | zero=>rfl
  | succ m ih=>rw[JE,cw,ih,s3,Lk]
 unfold Ft at h
 rw[c,z]at h
 have:qd (ps.length:Nat) (ps.length:Nat)=1:=by
  unfold qd
  rw[Kh,Mt _ (cZ (by have:=hp.n1;omega))]
 rw[this]at h
 have e:(1:Rat)-1=0:=by grind
 rwa [e]at h
abbrev Gn:=(Rat->Rat)×Rat
noncomputable def ev:List Gn->List Rat->Rat
 | [],_=>1
 | _::_,[]=>0
 | g::gs,x::p=>g.1 x*ev gs p
noncomputable def Go:List Gn->Rat
 | []=>1
 | g::gs=>g.2*Go gs
noncomputable def E6:List Rat->Rat
 | []=>0
 | x::xs=>x+E6 xs
noncomputable def Gp(ps:List (List Rat))(gs:List Gn):Rat:=E6 (ps.map (ev gs))*((ps.length:Nat):Rat)⁻¹-Go gs
noncomputable def Ht(x:Rat):Prop:=0<=x/\x<1
structure Dif (g g1 g2:Gn):Prop where
 fn:∀x,Ht x->g.1 x=g1.1 x-g2.1 x
 sz:g.2=g1.2-g2.2
theorem tW{g g1 g2:Gn}(h:Dif g g1 g2):∀(pre post:List Gn)(p:List Rat),(∀x∈p,Ht x)->ev (pre++g::post) p=ev (pre++g1::post) p-ev (pre++g2::post) p
 | [],post,[],_=>by show(0:Rat)=0-0;grind
 | [],post,x::p,hx=>by
   show g.1 x*ev post p=g1.1 x*ev post p-g2.1 x*ev post p
   rw[h.fn x (hx x HM)]
   grind
 | g0::pre,post,[],_=>by show(0:Rat)=0-0;grind
 | g0::pre,post,x::p,hx=>by
   show g0.1 x*ev (pre++g::post) p=g0.1 x*ev (pre++g1::post) p-g0.1 x*ev (pre++g2::post) p
   rw[tW h pre post p fun y my=>hx y (HK _ my)]
   grind
theorem pY{g g1 g2:Gn}(h:Dif g g1 g2):∀(pre post:List Gn),Go (pre++g::post)=Go (pre++g1::post)-Go (pre++g2::post)
 | [],post=>by
   show g.2*Go post=g1.2*Go post-g2.2*Go post
   rw[h.sz]
   grind
 | g0::pre,post=>by
   show g0.2*Go (pre++g::post)=g0.2*Go (pre++g1::post)-g0.2*Go (pre++g2::post)
   rw[pY h pre post]
   grind
theorem tj{α:Type}{f g h:α->Rat}:∀{xs:List α},(∀x∈xs,f x=g x-h x)->E6 (xs.map f)=E6 (xs.map g)-E6 (xs.map h)
 | [],_=>by show(0:Rat)=0-0;grind
 | x::xs,hx=>by
   show f x+E6 (xs.map f)=(g x+E6 (xs.map g))-(h x+E6 (xs.map h))
   rw[hx x HM,tj fun y my=>hx y (HK _ my)]
   grind
theorem wu{g g1 g2:Gn}(h:Dif g g1 g2)(hp:∀p∈ps,∀x∈p,Ht x)(pre post:List Gn):Gp ps (pre++g::post)=Gp ps (pre++g1::post)-Gp ps (pre++g2::post):=by
 unfold Gp
 rw[tj (fun p mp=>tW h pre post p (hp p mp)),pY h]
 grind
theorem tJ{ps:List (List Rat)}(hp:∀p∈ps,∀x∈p,Ht x){low:Gn->Prop}{n:Nat}{U:Rat}(hl:∀gs:List Gn,gs.length=n->(∀g∈gs,low g) -> -U<=Gp ps gs/\Gp ps gs<=U) :
 ∀(hs lows:List Gn),(∀h∈hs,∃g1 g2,low g1/\low g2/\Dif h g1 g2)->(∀g∈lows,low g)->lows.length+hs.length=n -> -(2^hs.length*U)<=Gp ps (lows++hs)/\Gp ps (lows++hs)<=2^hs.length*U
 | [],lows,_,h2,h3=>by
   rw[Kc,K1,Rat.pow_zero,Lk]
   exact hl lows (by simpa using h3) h2
 | h::hs,lows,h1,h2,h3=>by
   obtain⟨g1,g2,l1,l2,d⟩:=h1 h HM
   have key:∀g,low g -> -(2^hs.length*U)<=Gp ps (lows++g::hs)/\Gp ps (lows++g::hs)<=2^hs.length*U:=fun g lg=>by
    have:=tJ hp hl hs (lows++[g]) (fun x mx'=>h1 x (HK _ mx')) (fun x mx'=>by
     rcases Ip.mp mx' with m|m
     · exact h2 x m
     · cases Ij.mp m;exact lg) (by rw[Ic,K0];rw[Io]at h3;omega)
    rw[K9]at this
    exact this
   have k1:=key g1 l1
   have k2:=key g2 l2
   rw[wu d hp,Io,Rat.pow_succ]
   have e:(2:Rat)^hs.length*2*U=2^hs.length*U+2^hs.length*U:=by grind
   rw[e]
   generalize (2:Rat)^hs.length*U=V at *
   constructor<;>grind
noncomputable def wS(b:Bool):Str:=if b then "shut" else "open"
noncomputable def dB(w:Str)(s:Sd):Gn:=(fun x=>if FO s w x=true then 1 else 0,szQ s)
theorem tX(w:Str):∀{ss:List Sd}{p:List Rat},p.length=ss.length->ev (ss.map (dB w)) p=if FV p ss w=true then 1 else 0
 | [],[],_=>rfl
 | s::ss,x::p,h=>by
   have ih:=tX w (ss:=ss) (p:=p) (by simpa using h)
   show(if FO s w x=true then(1:Rat)else 0)*ev (ss.map (dB w)) p=_
   have e:FV (x::p) (s::ss) w=(FO s w x&&FV p ss w):=by simp[FV]
   rw[ih,e]
   cases FO s w x<;>cases FV p ss w<;>simp[Rat.mul_zero,Ms,Lk]
 | [],_::_,h=>by simp at h
 | _::_,[],h=>by simp at h
theorem kS(w:Str):∀ss:List Sd,Go (ss.map (dB w))=aW ss
 | []=>rfl
 | s::ss=>by
   show szQ s*Go (ss.map (dB w))=_
   rw[kS w ss,cw]
theorem tm{α:Type}(c:α->Bool):∀xs:List α,E6 (xs.map fun x=>if c x=true then(1:Rat)else 0)=(((xs.filter c).length:Nat):Rat)
 | []=>rfl
 | x::xs=>by
   show(if c x=true then(1:Rat)else 0)+E6 (xs.map fun x=>if c x=true then(1:Rat)else 0)=_
   rw[tm c xs]
   cases h:c x
   · simp[h,Rat.zero_add]
   · simp[h]
     grind
theorem kU(hp:Pn n N ps)(hs:ss.length=n)(w:Str):Gp ps (ss.map (dB w))=qd (cntN ps ss w) ps.length-aW ss:=by
 unfold Gp
 rw[kS,Ko (g:=fun p=>if FV p ss w=true then(1:Rat)else 0) fun p mp=>tX w (by rw[hp.len p mp,hs]),tm]
 unfold qd cntN
 rw[Kh]
 rfl
theorem Bl{s:Sd}{x:Rat}(h:FO s "open" x=true):FO s "shut" x=true:=by
 cases s with
 | to t=>exact(bV t x).1.mpr (Iq ((bV t x).2.1.mp h))
 | «from» a b =>
   obtain⟨h1,h2⟩:=(bH a b x).2.1.mp h
   exact(bH a b x).1.mpr ⟨Iq h1,Iq h2⟩
 | round a b =>
   rcases(cp a b x).2.1.mp h with h|h
   · exact(cp a b x).1.mpr (.inl (Iq h))
   · exact(cp a b x).1.mpr (.inr (Iq h))
noncomputable def Hf(f:Fin 3)(g:Gn):Prop:=∃s b,G_ f s/\s.In1/\g=dB (wS b) s
theorem zr(s:Sd)(b:Bool)(x:Rat):0<=(dB "open" s).1 x/\(dB "open" s).1 x<=(dB (wS b) s).1 x/\(dB (wS b) s).1 x<=(dB "shut" s).1 x:=by
 show 0<=(if FO s "open" x=true then(1:Rat)else 0)/\(if FO s "open" x=true then(1:Rat)else 0)<=(if FO s (wS b) x=true then(1:Rat)else 0)/\(if FO s (wS b) x=true then(1:Rat)else 0)<=(if FO s "shut" x=true then(1:Rat)else 0)
 by_cases o:FO s "open" x=true
 · have sh:=Bl o
   cases b
   · show _/\_<=(if FO s "open" x=true then(1:Rat)else 0)/\(if FO s "open" x=true then(1:Rat)else 0)<=_
     rw[if_pos o,if_pos sh]
     exact⟨by decide,ID,ID⟩
   · show _/\_<=(if FO s "shut" x=true then(1:Rat)else 0)/\(if FO s "shut" x=true then(1:Rat)else 0)<=_
     rw[if_pos o,if_pos sh]
     exact⟨by decide,ID,ID⟩
 · rw[if_neg o]
   cases b
   · show _/\_<=(if FO s "open" x=true then(1:Rat)else 0)/\(if FO s "open" x=true then(1:Rat)else 0)<=_
     rw[if_neg o]
     refine⟨ID,ID,?_⟩
     split<;>decide
   · show _/\_<=(if FO s "shut" x=true then(1:Rat)else 0)/\(if FO s "shut" x=true then(1:Rat)else 0)<=_
     refine⟨ID,?_,ID⟩
     split<;>decide
theorem lH{f:Fin 3}:∀gs:List Gn,(∀g∈gs,Hf f g)->∃ss:List Sd,ss.length=gs.length/\(∀s∈ss,G_ f s/\s.In1)/\Go gs=aW ss/\∀p,0<=ev (ss.map (dB "open")) p/\ev (ss.map (dB "open")) p<=ev gs p/\ev gs p<=ev (ss.map (dB "shut")) p
 | [],_=>⟨[],rfl,fun _ h=>absurd h (by simp),rfl,fun p=>⟨by show(0:Rat)<=1;decide,ID,ID⟩⟩
 | g::gs,h=>by
   obtain⟨ss,h1,h2,h3,h4⟩:=lH gs fun g mg=>h g (HK _ mg)
   obtain⟨s,b,o,i,rfl⟩:=h g HM
   refine⟨s::ss,by rw[Io,Io,h1],fun t mt=>?_,?_,fun p=>?_⟩
   · rcases Ih.mp mt with rfl|mt
     · exact⟨o,i⟩
     · exact h2 t mt
   · show szQ s*Go gs=_
     rw[h3,cw]
   · cases p with
     | nil=>exact⟨ID,ID,ID⟩
     | cons x p =>
       obtain⟨k0,k1,k2⟩:=h4 p
       obtain⟨i0,i1,i2⟩:=zr s b x
       show 0<=(dB "open" s).1 x*_/\(dB "open" s).1 x*_<=(dB (wS b) s).1 x*ev gs p/\(dB (wS b) s).1 x*ev gs p<=(dB "shut" s).1 x*_
       have m1:=i3 i0 i1 k0 k1
       have m2:=i3 (IS i0 i1) i2 (IS k0 k1) k2
       exact⟨m1.1,m1.2,m2.2⟩
theorem uU{α:Type}{f g:α->Rat}:∀{xs:List α},(∀x∈xs,f x<=g x)->E6 (xs.map f)<=E6 (xs.map g)
 | [],_=>ID
 | x::xs,h=>by
   show f x+E6 (xs.map f)<=g x+E6 (xs.map g)
   have h1:=h x HM
   have h2:=uU fun y my=>h y (HK _ my)
   grind
theorem ze(hp:Pn n N ps){U:Rat}(U0:0<=U)(hU:∀ss,nn f n N ss->Ft ps ss<=U/\FX ps ss<=U)(gs:List Gn)(hl:gs.length=n)(h:∀g∈gs,Hf f g) : -U<=Gp ps gs/\Gp ps gs<=U:=by
 obtain⟨ss,h1,h2,h3,h4⟩:=lH gs h
 have fb:zU f n ss:=⟨by omega,fun k hk=>h2 _ (by rw[Ib,Ia (by omega)];exact Ji _)⟩
 obtain⟨o,l⟩:=iZ hp U0 hU fb
 have eo:=kU hp fb.1 "open"
 have es:=kU hp fb.1 "shut"
 have n0:(0:Rat)<=((ps.length:Nat):Rat)⁻¹:=Iq (Rat.inv_pos.mpr (by have:=hp.n1;exact_mod_cast this))
 unfold Ft at o
 unfold FX at l
 unfold Gp at eo es ⊢
 rw[kS]at eo es
 rw[h3]
 have a1:=IQ (uU fun p (_:p∈ps)=>(h4 p).2.1) n0
 have a2:=IQ (uU fun p (_:p∈ps)=>(h4 p).2.2) n0
 constructor<;>grind
theorem eI{w:Str}{s:Sd}{x:Rat}(h:FO s w x=true):(dB w s).1 x=1:=if_pos h
theorem cD{w:Str}{s:Sd}{x:Rat}(h:¬FO s w x=true):(dB w s).1 x=0:=if_neg h
theorem mH{a b:Rat}(h:a<=b):szQ (.from a b)=mx b 0-mx a 0:=by
 show mx (mx b 0-mx a 0) 0=_
 have:=cH h
 generalize mx b 0=y at *
 generalize mx a 0=x at *
 unfold mx
 split<;>grind
theorem AS{a b:Rat}(h:b<=a):szQ (.round a b)=1-(mx a 0-mx b 0):=by
 show mn (1+(mx b 0-mx a 0)) 1=_
 have:=cH h
 generalize mx b 0=y at *
 generalize mx a 0=x at *
 unfold mn
 split<;>grind
theorem rS{g:Fin 3}(hfg:(f=1/\g=0)\/(f=2/\g=1))(hr:∀q∈rs,0<=q/\q<1){s:Sd}(ms:s∈slS f.val rs)(b:Bool):∃g1 g2,Hf g g1/\Hf g g2/\Dif (dB (wS b) s) g1 g2:=by
 have hin:=(eZ hr s ms).2
 have ws:wS true = "shut" := rfl
 have wo:wS false = "open" := rfl
 rcases hfg with⟨rfl,rfl⟩|⟨rfl,rfl⟩
 · have ms:s∈slFS rs:=ms
   obtain⟨a,ma,h1⟩:=IU.mp ms
   obtain⟨c,mc,h2⟩:=I_.mp h1
   split at h2
   · rename_i hac
     cases h2
     have lo:∀(t:Rat)(b:Bool),-1<=t->t<=1->Hf 0 (dB (wS b) (.to t)):=fun t b t0 t1=>⟨.to t,b,.inl ⟨rfl,t,rfl⟩,⟨⟨t0,t1⟩,t0,t1⟩,rfl⟩
     by_cases e:a=c
     · subst e
       cases b
       · refine⟨_,_,lo a true hin.1.1 hin.1.2,lo a true hin.1.1 hin.1.2,fun x _=>?_,?_⟩
         · rw[wo,cD fun z=>by obtain⟨z1,z2⟩:=(bH a a x).2.1.mp z;grind]
           grind
         · dsimp only[dB]
           rw[mH ID]
           grind
       · refine⟨_,_,lo a true hin.1.1 hin.1.2,lo a false hin.1.1 hin.1.2,fun x _=>?_,?_⟩
         · rw[ws,wo]
           by_cases z1:x<=a
           · rw[eI ((bV a x).1.mpr z1)]
             by_cases z2:x<a
             · rw[eI ((bV a x).2.1.mpr z2),cD fun z=>by obtain⟨y1,y2⟩:=(bH a a x).1.mp z;grind]
               grind
             · rw[cD fun z=>z2 ((bV a x).2.1.mp z),eI ((bH a a x).1.mpr ⟨by grind,z1⟩)]
               grind
           · rw[cD fun z=>z1 ((bV a x).1.mp z),cD (s:=.to a) (w := "open") fun z=>by have:=(bV a x).2.1.mp z;grind,cD fun z=>z1 ((bH a a x).1.mp z).2]
             grind
         · dsimp only[dB]
           rw[mH ID]
           rfl
     · have lt:a<c:=KW hac e
       cases b
       · refine⟨_,_,lo c false hin.2.1 hin.2.2,lo a true hin.1.1 hin.1.2,fun x _=>?_,?_⟩
         · rw[ws,wo]
           by_cases z1:x<c
           · rw[eI ((bV c x).2.1.mpr z1)]
             by_cases z2:x<=a
             · rw[eI ((bV a x).1.mpr z2),cD fun z=>by obtain⟨y1,y2⟩:=(bH a c x).2.1.mp z;grind]
               grind
             · rw[cD fun z=>z2 ((bV a x).1.mp z),eI ((bH a c x).2.1.mpr ⟨JK.mp z2,z1⟩)]
               grind
           · rw[cD fun z=>z1 ((bV c x).2.1.mp z),cD (s:=.to a) (w := "shut") fun z=>by have:=(bV a x).1.mp z;grind,cD fun z=>z1 ((bH a c x).2.1.mp z).2]
             grind
         · dsimp only[dB]
           rw[mH hac]
           rfl
       · refine⟨_,_,lo c true hin.2.1 hin.2.2,lo a false hin.1.1 hin.1.2,fun x _=>?_,?_⟩
         · rw[ws,wo]
           by_cases z1:x<=c
           · rw[eI ((bV c x).1.mpr z1)]
             by_cases z2:x<a
             · rw[eI ((bV a x).2.1.mpr z2),cD fun z=>by obtain⟨y1,y2⟩:=(bH a c x).1.mp z;grind]
               grind
             · rw[cD fun z=>z2 ((bV a x).2.1.mp z),eI ((bH a c x).1.mpr ⟨Jl.mp z2,z1⟩)]
               grind
           · rw[cD fun z=>z1 ((bV c x).1.mp z),cD (s:=.to a) (w := "open") fun z=>by have:=(bV a x).2.1.mp z;grind,cD fun z=>z1 ((bH a c x).1.mp z).2]
             grind
         · dsimp only[dB]
           rw[mH hac]
           rfl
   · cases h2
 · have lo:∀(a c:Rat)(b:Bool),-1<=a->a<=1 -> -1<=c->c<=1->Hf 1 (dB (wS b) (.from a c)):=fun a c b a0 a1 c0 c1=>⟨.from a c,b,.inr (.inl ⟨rfl,a,c,rfl⟩),⟨⟨a0,a1⟩,c0,c1⟩,rfl⟩
   have ms:s∈slFS rs++slRS rs:=ms
   rcases Ip.mp ms with ms|ms
   · obtain⟨a,ma,h1⟩:=IU.mp ms
     obtain⟨c,mc,h2⟩:=I_.mp h1
     split at h2
     · cases h2
       refine⟨_,_,lo a c b hin.1.1 hin.1.2 hin.2.1 hin.2.2,lo 0 0 false (by decide) (by decide) (by decide) (by decide),fun x _=>?_,?_⟩
       · rw[wo,cD (s:=.from 0 0) fun z=>by obtain⟨y1,y2⟩:=(bH 0 0 x).2.1.mp z;grind]
         grind
       · dsimp only[dB]
         rw[mH (a:=0) (b:=0) ID]
         grind
     · cases h2
   · obtain⟨a,ma,h1⟩:=IU.mp ms
     obtain⟨c,mc,h2⟩:=I_.mp h1
     split at h2
     · rename_i hca
       cases h2
       refine⟨_,_,lo (-1) 1 true (by decide) (by decide) (by decide) (by decide),lo c a (!b) hin.2.1 hin.2.2 hin.1.1 hin.1.2,fun x hx=>?_,?_⟩
       · rw[ws,eI (s:=.from (-1) 1) ((bH (-1) 1 x).1.mpr ⟨IS (by decide) hx.1,Iq hx.2⟩)]
         cases b
         · rw[Jr,ws,wo]
           by_cases z:FO (.from c a) "shut" x=true
           · obtain⟨y1,y2⟩:=(bH c a x).1.mp z
             rw[eI z,cD fun z=>by rcases(cp a c x).2.1.mp z with y|y<;>grind]
             grind
           · have:FO (.round a c) "open" x=true:=(cp a c x).2.1.mpr (by
               by_cases y:c<=x
               · exact .inl (JK.mp fun y'=>z ((bH c a x).1.mpr ⟨y,y'⟩))
               · exact .inr (JK.mp y))
             rw[cD z,eI this]
             grind
         · rw[JQ,ws,wo]
           by_cases z:FO (.from c a) "open" x=true
           · obtain⟨y1,y2⟩:=(bH c a x).2.1.mp z
             rw[eI z,cD fun z=>by rcases(cp a c x).1.mp z with y|y<;>grind]
             grind
           · have:FO (.round a c) "shut" x=true:=(cp a c x).1.mpr (by
               by_cases y:c<x
               · exact .inl (Jl.mp fun y'=>z ((bH c a x).2.1.mpr ⟨y,y'⟩))
               · exact .inr (Jl.mp y))
             rw[cD z,eI this]
             grind
       · dsimp only[dB]
         rw[qX,AS hca,mH hca]
     · cases h2
theorem uH{g:Fin 3}(hfg:(f=1/\g=0)\/(f=2/\g=1))(hp:Pn n N ps){U:Rat}(hU:∀ss,nn g n N ss->Ft ps ss<=U/\FX ps ss<=U)(hs:nn f n N ss):Ft ps ss<=2^n*U/\FX ps ss<=2^n*U:=by
 have U0:=mw hp hU
 have h0:∀p∈ps,∀x∈p,Ht x:=fun p mp x mx'=>by
  obtain⟨k,hk,rfl⟩:=Lm mx'
  have hk':k<n:=by rw[<- hp.len p mp];exact hk
  have:=hp.unit k hk' _ (hp.at_ p mp k hk')
  rwa [Ib,Ia hk]at this
 have key:∀b:Bool,-(2^n*U)<=Gp ps (ss.map (dB (wS b)))/\Gp ps (ss.map (dB (wS b)))<=2^n*U:=fun b=>by
  have:=tJ h0 (low:=Hf g) (n:=n) (fun gs hl h=>ze hp U0 hU gs hl h) (ss.map (dB (wS b))) [] (fun h mh=>by
   obtain⟨s,ms,rfl⟩:=IM.mp mh
   obtain⟨k,hk,rfl⟩:=Lm ms
   have hk':k<n:=by rw[<- hs.1];exact hk
   have:=hs.2 k hk'
   rw[Ib,Ia hk]at this
   exact rS hfg (hp.unit k hk') this b) (fun _ h=>absurd h (by simp)) (by rw[K1,HW,hs.1];omega)
  rw[HW,hs.1]at this
  exact this
 have k1:=(key true).2
 have k2:=(key false).1
 rw[kU hp hs.1]at k1 k2
 unfold Ft FX
 refine⟨k1,?_⟩
 have k2 : -(2^n*U)<=qd (cntN ps ss "open") ps.length-aW ss:=k2
 grind
theorem sC{g:Fin 3}(hfg:(f=1/\g=0)\/(f=2/\g=1))(hp:Pn n N ps){U:Rat}(hU:∀ss,nn f n N ss->Ft ps ss<=U/\FX ps ss<=U)(hs:nn g n N ss):Ft ps ss<=U/\FX ps ss<=U:=by
 have U0:=mw hp hU
 have hin:∀k,k<n->G_ g (ss.getD k (.to 0))/\(ss.getD k (.to 0)).In1:=fun k hk=>eZ (hp.unit k hk) _ (hs.2 k hk)
 rcases hfg with⟨rfl,rfl⟩|⟨rfl,rfl⟩
 · obtain⟨ss',l',h'⟩:=i4 (Sd.to 0) (n:=n) (R:=fun k y=>(G_ 1 y/\y.In1)/\(∀x,Ht x->(FO y "shut" x=FO (ss.getD k (.to 0)) "shut" x/\FO y "open" x=FO (ss.getD k (.to 0)) "open" x))/\szQ y=szQ (ss.getD k (.to 0))) fun k hk=>by
     obtain⟨o,i⟩:=hin k hk
     obtain⟨_,t,e⟩|⟨z,_⟩|⟨z,_⟩:=o
     · rw[e]at i ⊢
       refine⟨.from (-1) t,⟨.inr (.inl ⟨rfl,_,_,rfl⟩),⟨⟨(by decide:(-1:Rat) <= -1),(by decide:(-1:Rat)<=1)⟩,i.2⟩⟩,fun x hx=>⟨?_,?_⟩,?_⟩
       · rw[Jn,(bH (-1) t x).1,(bV t x).1]
         exact⟨fun z=>z.2,fun z=>⟨IS (by decide) hx.1,z⟩⟩
       · rw[Jn,(bH (-1) t x).2.1,(bV t x).2.1]
         exact⟨fun z=>z.2,fun z=>⟨by have:=hx.1;grind,z⟩⟩
       · show mx (mx t 0-mx (-1) 0) 0=mx t 0
         rw[yW]
         have:=oY t
         generalize mx t 0=y at *
         unfold mx
         split<;>grind
     · exact absurd z (by decide)
     · exact absurd z (by decide)
   obtain⟨a,b⟩:=iZ hp U0 hU (ss:=ss') ⟨l',fun k hk=>(h' k hk).1⟩
   have sz:aW ss'=aW ss:=Rat.le_antisymm
    (dJ (by rw[l',hs.1]) fun k hk=>by rw[hs.1]at hk;exact⟨(dZ _ (h' k hk).1.2).1,by rw[(h' k hk).2.2];exact ID⟩).2
    (dJ (by rw[l',hs.1]) fun k hk=>by rw[l']at hk;exact⟨(dZ _ (hin k hk).2).1,by rw[(h' k hk).2.2];exact ID⟩).2
   have c:∀b:Bool,cntN ps ss' (wS b)=cntN ps ss (wS b):=fun b=>by
    unfold cntN
    congr 1
    refine LH fun p mp=>?_
    rw[Jn,c_ (by rw[hp.len p mp,l']),c_ (by rw[hp.len p mp,hs.1]),l',hs.1]
    refine forall_congr' fun k=>forall_congr' fun hk=>?_
    have u:=hp.unit k hk _ (hp.at_ p mp k hk)
    obtain⟨e1,e2⟩:=(h' k hk).2.1 _ u
    cases b
    · show FO _ "open" _=true↔FO _ "open" _=true
      rw[e2]
    · show FO _ "shut" _=true↔FO _ "shut" _=true
      rw[e1]
   unfold Ft at a
   unfold FX at b
   unfold Ft FX
   have c1:cntN ps ss' "shut" = cntN ps ss "shut" := c true
   have c2:cntN ps ss' "open" = cntN ps ss "open" := c false
   rw[<- c1,<- c2,<- sz]
   exact⟨a,b⟩
 · refine iZ hp U0 hU (ss:=ss) ⟨hs.1,fun k hk=>?_⟩
   obtain⟨o,i⟩:=hin k hk
   refine⟨?_,i⟩
   obtain⟨z,_⟩|⟨_,a,b,e⟩|⟨z,_⟩:=o
   · exact absurd z (by decide)
   · exact .inr (.inr ⟨rfl,.inl ⟨a,b,e⟩⟩)
   · exact absurd z (by decide)
noncomputable def nxt(e x:Rat):Rat:=if x=1 then 1 else x+e
noncomputable def FF(e:Rat):Sd->Sd
 | .to t=>.to (nxt e t)
 | .from a b=>.from a (nxt e b)
 | .round a b=>.round a (nxt e b)
noncomputable def FG(e:Rat):Sd->Sd
 | .to t=>.to t
 | .from a b=>.from (nxt e a) b
 | .round a b=>.round (nxt e a) b
noncomputable def Hv(e:Rat)(rs:List Rat)(t:Rat):Prop:=(∀x∈rs,t<x->t+e<=x)/\(t≠1->t+e<=1)
theorem gv(e0:0<e)(h:Hv e rs t)(h1 : -1<=t/\t<=1):(-1<=nxt e t/\nxt e t<=1)/\t<=nxt e t/\nxt e t<=t+e:=by
 unfold nxt
 by_cases c:t=1
 · rw[if_pos c];constructor<;>grind
 · rw[if_neg c];have:=h.2 c;constructor<;>grind
theorem oX(e0:0<e)(h:Hv e rs t)(h1:t<=1){x:Rat}(mx':x∈rs)(hx:x<1):x<nxt e t↔x<=t:=by
 unfold nxt
 by_cases c:t=1
 · rw[if_pos c,c];exact⟨fun _=>Iq hx,fun _=>hx⟩
 · rw[if_neg c]
   constructor
   · intro z
     exact Jl.mp fun y=>by have:=h.1 x mx' y;grind
   · intro z;grind
theorem tN(e0:0<e)(h:Hv e rs t){x:Rat}(mx':x∈rs)(hx:x<1):nxt e t<=x↔t<x:=by
 unfold nxt
 by_cases c:t=1
 · rw[if_pos c,c];constructor<;>intro z<;>grind
 · rw[if_neg c]
   exact⟨fun z=>by grind,h.1 x mx'⟩
theorem gw{u:Rat}(e0:0<e)(h1:t<=u)(h2:u<=t+e):mx t 0<=mx u 0/\mx u 0<=mx t 0+e:=by
 refine⟨cH h1,?_⟩
 unfold mx
 split<;>split<;>grind
theorem oZ(e0:0<e)(hr:∀q∈rs,0<=q/\q<1){s:Sd}(h1:s.In1)(g:Hv e rs s.last):(∀x∈rs,FO (FF e s) "half" x=FO s "shut" x)/\szQ (FF e s)<=szQ s+e/\(FF e s).In1:=by
 cases s with
 | to t =>
   have g:Hv e rs t:=g
   have i:=gv e0 g h1.2
   refine⟨fun x mx'=>?_,(gw e0 i.2.1 i.2.2).2,i.1,i.1⟩
   rw[Jn]
   show FO (.to (nxt e t)) "half" x=true↔_
   rw[(bV _ x).2.2,(bV t x).1]
   exact oX e0 g h1.2.2 mx' (hr x mx').2
 | «from» a b =>
   have g:Hv e rs b:=g
   have i:=gv e0 g h1.2
   have m:=gw e0 i.2.1 i.2.2
   refine⟨fun x mx'=>?_,?_,h1.1,i.1⟩
   · rw[Jn]
     show FO (.from a (nxt e b)) "half" x=true↔_
     rw[(bH a _ x).2.2,(bH a b x).1,oX e0 g h1.2.2 mx' (hr x mx').2]
   · show mx (mx (nxt e b) 0-mx a 0) 0<=mx (mx b 0-mx a 0) 0+e
     exact(gw e0 (t:=mx b 0-mx a 0) (u:=mx (nxt e b) 0-mx a 0) (by grind) (by grind)).2
 | round a b =>
   have g:Hv e rs b:=g
   have i:=gv e0 g h1.2
   have m:=gw e0 i.2.1 i.2.2
   refine⟨fun x mx'=>?_,?_,h1.1,i.1⟩
   · rw[Jn]
     show FO (.round a (nxt e b)) "half" x=true↔_
     rw[(cp a _ x).2.2,(cp a b x).1,oX e0 g h1.2.2 mx' (hr x mx').2]
   · show mn (1+(mx (nxt e b) 0-mx a 0)) 1<=mn (1+(mx b 0-mx a 0)) 1+e
     generalize mx (nxt e b) 0=u at *
     generalize mx b 0=v at *
     generalize mx a 0=y at *
     unfold mn
     split<;>split<;>grind
theorem o0(e0:0<e)(hr:∀q∈rs,0<=q/\q<1){s:Sd}(h1:s.In1)(g:Hv e rs s.first):(∀x∈rs,FO (FG e s) "half" x=FO s "open" x)/\szQ s<=szQ (FG e s)+e/\(FG e s).In1:=by
 cases s with
 | to t =>
   refine⟨fun x mx'=>?_,by show szQ (.to t)<=szQ (.to t)+e;grind,h1⟩
   rw[Jn]
   show FO (.to t) "half" x=true↔_
   rw[(bV _ x).2.2,(bV t x).2.1]
 | «from» a b =>
   have g:Hv e rs a:=g
   have i:=gv e0 g h1.1
   have m:=gw e0 i.2.1 i.2.2
   refine⟨fun x mx'=>?_,?_,i.1,h1.2⟩
   · rw[Jn]
     show FO (.from (nxt e a) b) "half" x=true↔_
     rw[(bH _ b x).2.2,(bH a b x).2.1,tN e0 g mx' (hr x mx').2]
   · show mx (mx b 0-mx a 0) 0<=mx (mx b 0-mx (nxt e a) 0) 0+e
     exact(gw e0 (t:=mx b 0-mx (nxt e a) 0) (u:=mx b 0-mx a 0) (by grind) (by grind)).2
 | round a b =>
   have g:Hv e rs a:=g
   have i:=gv e0 g h1.1
   have m:=gw e0 i.2.1 i.2.2
   refine⟨fun x mx'=>?_,?_,i.1,h1.2⟩
   · rw[Jn]
     show FO (.round (nxt e a) b) "half" x=true↔_
     rw[(cp _ b x).2.2,(cp a b x).2.1,tN e0 g mx' (hr x mx').2]
   · show mn (1+(mx b 0-mx a 0)) 1<=mn (1+(mx b 0-mx (nxt e a) 0)) 1+e
     generalize mx (nxt e a) 0=u at *
     generalize mx b 0=v at *
     generalize mx a 0=y at *
     unfold mn
     split<;>split<;>grind
theorem rO{z z' P P' k:Rat}(z0:0<=z)(z1:z<=1)(p1:P'<=1)(p0:0<=P')(e0:0<=e)(k0:0<=k)(hz:z'<=z+e)(hp:P'<=P+k):z'*P'<=z*P+(k+e):=by
 have a:=IQ hz p0
 have b:=KN hp z0
 have c:=KN p1 e0
 have d:=IQ z1 k0
 grind
theorem d8{e:Rat}(e0:0<=e):∀{ss' ss:List Sd},ss'.length=ss.length->(∀k,k<ss.length->(0<=szQ (ss'.getD k (.to 0))/\szQ (ss'.getD k (.to 0))<=1)/\(0<=szQ (ss.getD k (.to 0))/\szQ (ss.getD k (.to 0))<=1)/\szQ (ss'.getD k (.to 0))<=szQ (ss.getD k (.to 0))+e)->(0<=aW ss'/\aW ss'<=1)/\aW ss'<=aW ss+(ss.length:Nat)*e
 | [],[],_,_=>⟨⟨by decide,by decide⟩,by show(1:Rat)<=1+((0:Nat):Rat)*e;grind⟩
 | s'::ss',s::ss,hl,h=>by
   obtain⟨a1,a2,a3⟩:=h 0 (by simp)
   have ih:=d8 e0 (ss':=ss') (ss:=ss) (by simpa using hl) fun k hk=>by
    have:=h (k+1) (by simp;omega)
    simpa using this
   simp only[List.getD_cons_zero]at a1 a2 a3
   obtain⟨⟨i0,i1⟩,i2⟩:=ih
   rw[cw,cw]
   refine⟨⟨LL a1.1 i0,?_⟩,?_⟩
   · have:=(i3 a1.1 a1.2 i0 i1).2
     rwa [Lk]at this
   · have k0:(0:Rat)<=(ss.length:Nat)*e:=LL (by exact_mod_cast Ix _) e0
     have:=rO a2.1 a2.2 i1 i0 e0 k0 a3 i2
     have ec:((((s::ss).length:Nat):Rat))*e=(ss.length:Nat)*e+e:=by
      rw[Io]
      push_cast
      grind
     rw[ec]
     exact this
 | [],_::_,hl,_=>by simp at hl
 | _::_,[],hl,_=>by simp at hl
theorem jQ(g:α->β)(xs:List α){k:Nat}(h:k<xs.length)(d:α)(d':β):(xs.map g).getD k d'=g (xs.getD k d):=by
 rw[Ib,Jd,Ia h,Ib,Ia h];rfl
theorem ua(hp:Pn n N ps){ss':List Sd}(l':ss'.length=n)(l:ss.length=n){w w':Str}(h:∀k,k<n->∀x∈N k,FO (ss'.getD k (.to 0)) w' x=FO (ss.getD k (.to 0)) w x):cntN ps ss' w'=cntN ps ss w:=by
 unfold cntN
 congr 1
 refine LH fun p mp=>?_
 rw[Jn,c_ (by rw[hp.len p mp,l']),c_ (by rw[hp.len p mp,l]),l',l]
 exact forall_congr' fun k=>forall_congr' fun hk=>by rw[h k hk _ (hp.at_ p mp k hk)]
theorem yU(hp:Pn n N ps)(e0:0<e)(hs:nn f n N ss)(hg:∀k,k<n->Hv e (N k) (ss.getD k (.to 0)).last):Ft ps ss-(n:Nat)*e<=qd (cntN ps (ss.map (FF e)) "half") ps.length-aW (ss.map (FF e)):=by
 have l':(ss.map (FF e)).length=n:=by rw[HW,hs.1]
 have ok:∀k,k<n->_:=fun k hk=>oZ e0 (hp.unit k hk) (eZ (hp.unit k hk) _ (hs.2 k hk)).2 (hg k hk)
 have gd:∀k,k<n->(ss.map (FF e)).getD k (.to 0)=FF e (ss.getD k (.to 0)):=fun k hk=>jQ _ _ (by rw[hs.1];exact hk) _ _
 have c:cntN ps (ss.map (FF e)) "half" = cntN ps ss "shut" := ua hp l' hs.1 fun k hk x mx'=>by rw[gd k hk];exact(ok k hk).1 x mx'
 have z:=(d8 (Iq e0) (ss':=ss.map (FF e)) (ss:=ss) (by rw[l',hs.1]) fun k hk=>by
  rw[hs.1]at hk
  rw[gd k hk]
  exact⟨dZ _ (ok k hk).2.2,dZ _ (eZ (hp.unit k hk) _ (hs.2 k hk)).2,(ok k hk).2.1⟩).2
 rw[hs.1]at z
 unfold Ft
 rw[c]
 grind
theorem yV(hp:Pn n N ps)(e0:0<e)(hs:nn f n N ss)(hg:∀k,k<n->Hv e (N k) (ss.getD k (.to 0)).first):FX ps ss-(n:Nat)*e <= -(qd (cntN ps (ss.map (FG e)) "half") ps.length-aW (ss.map (FG e))):=by
 have l':(ss.map (FG e)).length=n:=by rw[HW,hs.1]
 have ok:∀k,k<n->_:=fun k hk=>o0 e0 (hp.unit k hk) (eZ (hp.unit k hk) _ (hs.2 k hk)).2 (hg k hk)
 have gd:∀k,k<n->(ss.map (FG e)).getD k (.to 0)=FG e (ss.getD k (.to 0)):=fun k hk=>jQ _ _ (by rw[hs.1];exact hk) _ _
 have c:cntN ps (ss.map (FG e)) "half" = cntN ps ss "open" := ua hp l' hs.1 fun k hk x mx'=>by rw[gd k hk];exact(ok k hk).1 x mx'
 have z:=(d8 (Iq e0) (ss':=ss) (ss:=ss.map (FG e)) (by rw[l',hs.1]) fun k hk=>by
  rw[l']at hk
  rw[gd k hk]
  exact⟨dZ _ (eZ (hp.unit k hk) _ (hs.2 k hk)).2,dZ _ (ok k hk).2.2,(ok k hk).2.1⟩).2
 rw[l']at z
 unfold FX
 rw[c]
 grind
noncomputable def pd:List Rat->Nat
 | []=>1
 | x::xs=>x.den*pd xs
theorem oS:∀a b:List Rat,pd (a++b)=pd a*pd b
 | [],b=>(Nat.one_mul _).symm
 | x::a,b=>by show x.den*pd (a++b)=x.den*pd a*pd b;rw[oS a b,Nat.mul_assoc]
theorem tL:∀a:List Rat,0<pd a
 | []=>Nat.one_pos
 | x::a=>Nat.mul_pos x.den_pos (tL a)
theorem oR:∀{a:List Rat}{x:Rat},x∈a->x.den∣pd a
 | y::a,x,h=>by
   rcases Ih.mp h with rfl|h
   · exact Nat.dvd_mul_right _ _
   · exact NX (oR h) (MW _ _)
theorem yM{k:Nat}:∀{a:List Rat},(∀x∈a,x.den<2^k)->pd a<=2^(k*a.length)
 | [],_=>by show 1<=2^(k*0);rw[Nat.mul_zero];exact HX _
 | x::a,h=>by
   have h1:=h x HM
   have h2:=yM (a:=a) fun y my=>h y (HK _ my)
   show x.den*pd a<=_
   rw[Io,Nat.mul_succ,Md,Mp]
   exact Nat.mul_le_mul h2 (M5 h1)
noncomputable def enS:Sd->List Rat
 | .to t=>[t] | .from a b=>[a,b] | .round a b=>[a,b]
noncomputable def botN(ps:List (List Rat))(ss:List Sd):Nat:=4*pd (ps++ss.map enS).flatten
theorem pP{x:Rat}(h:(x.den:Int)∣B):∃n:Int,x*(B:Rat)=(n:Rat):=by
 obtain⟨c,rfl⟩:=h
 refine⟨x.num*c,?_⟩
 rw[IN,IN,im x]
 grind
theorem iX(B0:0<B):qd 1 B*(B:Rat)=1:=by
 have:=cZ B0
 unfold qd
 grind
theorem De{x:Rat}(B0:0<B)(hx:(x.den:Int)∣B)(ht:(t.den:Int)∣B)(h:t<x):t+qd 1 B<=x:=by
 obtain⟨n,hn⟩:=pP hx
 obtain⟨m,hm⟩:=pP ht
 have Bp:(0:Rat)<(B:Rat):=by exact_mod_cast B0
 have q:=iX B0
 refine Jl.mp fun z=>?_
 have z1:=Mg h Bp
 have z2:=Mg z Bp
 rw[Os,hm,hn,q]at z2
 rw[hm,hn]at z1
 have y1:m<n:=by exact_mod_cast z1
 have y2:n<m+1:=by
  have:((n:Int):Rat)<((m+1:Int):Rat):=by rw[Mf];exact z2
  exact_mod_cast this
 omega
theorem dj(B0:0<B):0<qd 1 B:=by
 have Bp:(0:Rat)<(B:Rat):=by exact_mod_cast B0
 refine JK.mp fun z=>?_
 have:=IQ z (Iq Bp)
 rw[iX B0,Ms]at this
 exact absurd this (by decide)
theorem tU(B0:0<B)(hr:∀x∈rs,(x.den:Int)∣B)(ht:(t.den:Int)∣B)(h1:t<=1):Hv (qd 1 B) rs t :=
 ⟨fun x mx' h=>De B0 (hr x mx') ht h,fun n=>De B0 (show((1:Rat).den:Int)∣B from⟨B,(Int.one_mul B).symm⟩) ht (KW h1 n)⟩
theorem qu(ps:List (List Rat))(ss:List Sd):0<botN ps ss:=Nat.mul_pos (by decide) (tL _)
theorem zP{x:Rat}(mp:p∈ps)(mx':x∈p):(x.den:Int)∣((botN ps ss:Nat):Int) :=
 MO.mpr (NX (oR (MX.mpr ⟨p,IK _ mp,mx'⟩)) (MW _ _))
theorem uh{s:Sd}{x:Rat}(ms:s∈ss)(mx':x∈enS s):(x.den:Int)∣((botN ps ss:Nat):Int) :=
 MO.mpr (NX (oR (MX.mpr ⟨enS s,HY _ (J8 ms),mx'⟩)) (MW _ _))
theorem Df(s:Sd):s.last∈enS s/\s.first∈enS s:=by cases s<;>simp[enS,Sd.last,Sd.first]
theorem DV(h:ds.length=1)(hd:∀d∈ds,∃q,qK q/\d=fr q):∃q,qK q/\ds=[fr q]:=by
 obtain⟨d,rfl⟩:=List.length_eq_one_iff.mp h
 obtain⟨q,hq,rfl⟩:=hd d HM
 exact⟨q,hq,rfl⟩
theorem Dg(h:ds.length=2)(hd:∀d∈ds,∃q,qK q/\d=fr q):∃a c,qK a/\qK c/\ds=[fr a,fr c]:=by
 match ds,h with
 | [x,y],_ =>
   obtain⟨a,ha,rfl⟩:=hd x HM
   obtain⟨c,hc,rfl⟩:=hd y (HK _ HM)
   exact⟨a,c,ha,hc,rfl⟩
noncomputable def Hz(f:Fin 3)(n:Nat)(ss:List Sd):Prop:=ss.length=n/\∀s∈ss,G_ f s/\s.In1/\Fm 80 s.first/\Fm 80 s.last
noncomputable def cf:List W->(HH->Prop)->Prop:=fun ws Q=>∃(ps:List (List Rat))(f:Fin 3),ws=[.reel,.d (ptsQ ps),.d (.str (cI f))]/\((1<=ps.length)/\(ps.length<=8)/\(dimP ps<=4)/\(∀p∈ps,p.length=dimP ps/\∀q∈p,Gd q))/\∀ss:List Sd,(Hz f (dimP ps) ss)->Q (boxD ss)
theorem cf.mono:∀ws (Q Q':HH->Prop),(∀d,Q d->Q' d)->cf ws Q->cf ws Q':=fun _ _ _ h_=>H0 fun _=>H0 fun _=>HP (HP fun q_ o_ ho_=>h_ _ (q_ o_ ho_))
theorem cf.len:∀ws (Q:HH->Prop),cf ws Q->ws.length=3:=fun _ _ h_=>by obtain⟨_,_,e_,_⟩:=h_;subst e_;rfl
theorem cf.eq(ps:List (List Rat))(f:Fin 3)(h1:1<=ps.length)(h8:ps.length<=8)(d4:dimP ps<=4)(hp:∀p∈ps,p.length=dimP ps/\∀q∈p,Gd q):cf [.reel,.d (ptsQ ps),.d (.str (cI f))]=Gs (anyM fun ss:List Sd=>Hz f (dimP ps) ss) fun ss=>VL.ret (boxD ss:HH):=by
 refine ai fun Q=>⟨?_,fun q_=>⟨ps,f,rfl,⟨h1,h8,d4,hp⟩,q_⟩⟩
 rintro⟨ps',f',e_,_,q_⟩
 simp_arith only[cL,bG,bJ,aO,aR,bP,dC]at e_
 obtain⟨rfl,rfl⟩:=e_
 exact q_
theorem kz:FnScope ["_law_feed_here", "_law_pts", "_law_family", "_law_found", "_law_k", "_law_word", "_law_ends"] ["_law_feed_here", "_law_pts", "_law_family"] (defScope (EG 49)):=⟨rfl,rfl,rfl,by decide +kernel,rfl,by decide +kernel,by decide +kernel⟩
theorem d__law_box(Fn:FnIn K mg "_law_box" (EG 49) ["_law_feed_here", "_law_pts", "_law_family"])(Z:Bz mg)(d__law_end:∀rl,Dfn P w K mg base rl "_law_end" ["_law_feed_here", "_law_pts", "_law_k"] 2 ce)(d__law_draw:∀rl,Dfn P w K mg base rl "_law_draw" ["_law_feed_here", "_law_many"] 1 aU)   : Dfn P w K mg base rl "_law_box" ["_law_feed_here", "_law_pts", "_law_family"] 3 cf:=by
 have sc:=kz
 refine Dfn.of Fn sc (cf.mono) (cf.len) (fun cdv A outer s H E hr=>(ag (jp 3 sc.nd (cE ac))
  (ag (b_ [4,5,6] IZ rfl (bI Z.range_ (aa (cv Z.len_ (aa (aQ (vn 1) ae) ac)) ac)) (aq 4 sc.nd) (ag (aj 5 sc.nd (kf (hr.mono (Ix _)) (by decide +kernel) aH aH (aQ (cE (aa aH (aa aH ac))) (al (d__law_draw _) (hr.mono (by decide)) (aa (vn 0) (aa ae ac)))) (vn 2)))
  (ag (aj 6 sc.nd (eQ Z.tuple_ (aa (ci ["_law_j", "_law_feed_here", "_law_pts", "_law_k"] [none,some 0,some 1,some 4] rfl (bI Z.range_ (aa (v_add ae (jt Z.int_ (aa (eR vL nD (ay _) (vn 2) aH) ac))) ac)) (fun _=>(aq 0 (show Js (["_law_j", "_law_feed_here", "_law_pts", "_law_k"]:List Str) by decide +kernel))) (fun _=>b9) (fun _=>(al (d__law_end _) (hr.mono (by decide)) (aa (vn 1) (aa (vn 2) (aa (vn 3) ac)))))) ac)))
  (ak (jr 3 (aa (nM (bU (aa (vn 5) ac)) (vn 6)) ac))))))
  (ak (av (eQ Z.tuple_ (aa (vn 3) ac))))))) ?_
 rintro ws Q ⟨ps,f,rfl,⟨h1,h8,d4,hp⟩,hQ⟩
 have q1:decide (HG "inner" = HG "corner")=false:=by decide +kernel
 have q2:decide (HG "round" = HG "corner")=false:=by decide +kernel
 have q3:decide (HG "round" = HG "inner")=false:=by decide +kernel
 have q4:decide (HG "corner" = HG "corner")=true:=by decide +kernel
 have q5:decide (HG "inner" = HG "inner")=true:=by decide +kernel
 have q6:decide (HG "corner" = HG "round")=false:=by decide +kernel
 have q7:decide (HG "inner" = HG "round")=false:=by decide +kernel
 have q8:decide (HG "round" = HG "round")=true:=by decide +kernel
 have f0:cI 0=HG "corner" := rfl
 have f1:cI 1=HG "inner" := rfl
 have f2:cI 2=HG "round" := rfl
 refine az ?_
 have sz:=Is
 obtain⟨p0,pr,ep⟩:=LP (show 0<ps.length by omega)
 have et0:itemAt (ptsQ ps) 0=some (Fp p0):=by rw[ep];show atI ((p0::pr).map Fp) ((0:Nat):Int)=_;exact dQ rfl
 have ed:qE (Fp p0)=some (dimP ps):=by rw[ep];show some (p0.map fr).length=_;rw[HW];rfl
 have gn : -(2^62)<=((dimP ps:Nat):Int)/\((dimP ps:Nat):Int)<2^62:=by omega
 simp_arith only[ah,af,aY,aZ,aA,a_,aB,au,HD,et0,ed]
 refine i6 (fun i ρ=>∃ss:List Sd,Hz f i ss/\ρ=[some .reel,some (.d (ptsQ ps)),some (.d (.str (cI f))),some (.ml (ss.map Fd)),none,none,none]) ⟨[],⟨rfl,fun _ h=>absurd h (by simp)⟩,rfl⟩ ?_ ?_
 · rintro i hi ρ ⟨ss,⟨hl,hs⟩,rfl⟩ K hK
   simp_arith only[ah,af,aY,aZ,aA,a_,aB,au,HD,eB,aU.eq]
   (with_reducible (first|refine aE fun a ha=>?_|refine aK fun a ha=>?_))
   refine EX (bQ (xs:=[false,true]) (enc:=fun b:Bool=>KP (if b then "round" else "from")) (fun _=>True) rfl ha.1 (by simpa using ha.2) (fun _ _=>trivial) fun b _=>?_)
   have k0:(0:Int)<=0+(i:Int):=by omega
   have hp':∀p∈ps,0+(i:Int)<(p.length:Int)/\∀q∈p,Gd q:=fun p mp=>⟨by rw[(hp p mp).1];omega,(hp p mp).2⟩
   have b1:(HG "inner" == HG "corner")=false:=by decide +kernel
   have b2:(HG "round" == HG "corner")=false:=by decide +kernel
   have b3:(HG "round" == HG "inner")=false:=by decide +kernel
   have lk0:∀a b c:HH,JB (HG "corner") [(HG "corner", a),(HG "inner", b),(HG "round", c)]=some a:=fun a b c=>by simp[JB]
   have lk1:∀a b c:HH,JB (HG "inner") [(HG "corner", a),(HG "inner", b),(HG "round", c)]=some b:=fun a b c=>by simp[JB,b1]
   have lk2:∀a b c:HH,JB (HG "round") [(HG "corner", a),(HG "inner", b),(HG "round", c)]=some c:=fun a b c=>by simp[JB,b2,b3]
   have ls:(ss.map Fd).length<sizeLine:=by rw[HW];omega
   have fin:∀s:Sd,(G_ f s/\s.In1/\Fm 80 s.first/\Fm 80 s.last)->∀ρ,fo [4,5,6] ρ=[some .reel,some (.d (ptsQ ps)),some (.d (.str (cI f))),some (.ml (ss.map Fd++[Fd s])),none,none,none]->K (.nx ρ):=fun s h ρ e=>hK _ (ck ⟨ss++[s],⟨by rw[Ic,hl];rfl,fun t mt=>by
    rcases Ip.mp mt with m|m
    · exact hs t m
    · cases Ij.mp m;exact h⟩,by rw[e,Jk];rfl⟩)
   obtain rfl|rfl|rfl:=pW f
   · simp_arith only[ah,af,aY,aZ,aA,a_,aB,au,HD,q1,q2,q3,q4,q5,q6,q7,q8,f0,f1,f2,lk0]
     refine EY (jh (fun d=>∃q,qK q/\d=fr q) ?_ (by omega) ?_)
     · intro j hj K2 hK2
       simp_arith only[ah,af,FZ,ce.eq]
       intro q hq
       exact hK2 _ ⟨q,hq,rfl⟩
     intro ds dl hd
     obtain⟨q,hq,rfl⟩:=DV dl hd
     simp_arith only[ah,af,aY,aZ,aA,a_,aB,au,HD]
     exact fin (.to q) ⟨.inl ⟨rfl,q,rfl⟩,⟨⟨hq.1,hq.2.1⟩,hq.1,hq.2.1⟩,hq.2.2,hq.2.2⟩ _ rfl
   · simp_arith only[ah,af,aY,aZ,aA,a_,aB,au,HD,q1,q2,q3,q4,q5,q6,q7,q8,f0,f1,f2,lk1]
     refine EY (jh (fun d=>∃q,qK q/\d=fr q) ?_ (by omega) ?_)
     · intro j hj K2 hK2
       simp_arith only[ah,af,FZ,ce.eq]
       intro q hq
       exact hK2 _ ⟨q,hq,rfl⟩
     intro ds dl hd
     obtain⟨x,y,hx,hy,rfl⟩:=Dg dl hd
     simp_arith only[ah,af,aY,aZ,aA,a_,aB,au,HD]
     exact fin (.from x y) ⟨.inr (.inl ⟨rfl,x,y,rfl⟩),⟨⟨hx.1,hx.2.1⟩,hy.1,hy.2.1⟩,hx.2.2,hy.2.2⟩ _ rfl
   · simp_arith only[ah,af,aY,aZ,aA,a_,aB,au,HD,q1,q2,q3,q4,q5,q6,q7,q8,f0,f1,f2,lk2]
     refine EY (jh (fun d=>∃q,qK q/\d=fr q) ?_ (by omega) ?_)
     · intro j hj K2 hK2
       simp_arith only[ah,af,FZ,ce.eq]
       intro q hq
       exact hK2 _ ⟨q,hq,rfl⟩
     intro ds dl hd
     obtain⟨x,y,hx,hy,rfl⟩:=Dg dl hd
     simp_arith only[ah,af,aY,aZ,aA,a_,aB,au,HD]
     cases b
     · exact fin (.from x y) ⟨.inr (.inr ⟨rfl,.inl ⟨x,y,rfl⟩⟩),⟨⟨hx.1,hx.2.1⟩,hy.1,hy.2.1⟩,hx.2.2,hy.2.2⟩ _ rfl
     · exact fin (.round x y) ⟨.inr (.inr ⟨rfl,.inr ⟨x,y,rfl⟩⟩),⟨⟨hx.1,hx.2.1⟩,hy.1,hy.2.1⟩,hx.2.2,hy.2.2⟩ _ rfl
 · rintro ρ ⟨ss,hs,rfl⟩
   simp_arith only[ah,af,aY,aZ,aA,a_,aB,au,HD]
   exact aw (hQ ss hs)
theorem xD(t:Rat):tupD (Fd (.to t))=some [.str "to", fr t]:=rfl
theorem xF(a b:Rat):tupD (Fd (.from a b))=some [.str "from", fr a,fr b]:=rfl
theorem xE(a b:Rat):tupD (Fd (.round a b))=some [.str "round", fr a,fr b]:=rfl
theorem Ba{xs:List Rat}(h:i<xs.length):pd (xs.take (i+1))=pd (xs.take i)*xs[i].den:=by
 rw[IJ h,oS]
 show _*(xs[i].den*1)=_
 rw[Nat.mul_one]
theorem BF{xs:List (List Rat)}(h:i<xs.length):pd (xs.take (i+1)).flatten=pd (xs.take i).flatten*pd xs[i]:=by
 rw[IJ h,NK,oS]
 simp
noncomputable def bw:List W->(HH->Prop)->Prop:=fun ws Q=>∃(ps:List (List Rat))(ss:List Sd),ws=[.d (ptsQ ps),.d (boxD ss)]/\((ps.length<=8)/\(ss.length<=4)/\(∀p∈ps,p.length<=4/\∀q∈p,Fm 45 q)/\(∀s∈ss,∀q∈enS s,Fm 45 q))/\Q (.int ((botN ps ss:Nat):Int))
theorem bw.mono:∀ws (Q Q':HH->Prop),(∀d,Q d->Q' d)->bw ws Q->bw ws Q':=fun _ _ _ h_=>H0 fun _=>H0 fun _=>HP (HP (h_ _))
theorem bw.len:∀ws (Q:HH->Prop),bw ws Q->ws.length=2:=fun _ _ h_=>by obtain⟨_,_,e_,_⟩:=h_;subst e_;rfl
theorem bw.eq(ps:List (List Rat))(ss:List Sd)(h8:ps.length<=8)(s4:ss.length<=4)(hp:∀p∈ps,p.length<=4/\∀q∈p,Fm 45 q)(hs:∀s∈ss,∀q∈enS s,Fm 45 q):bw [.d (ptsQ ps),.d (boxD ss)]=VL.ret (.int ((botN ps ss:Nat):Int):HH):=by
 refine ai fun Q=>⟨?_,fun q_=>⟨ps,ss,rfl,⟨h8,s4,hp,hs⟩,q_⟩⟩
 rintro⟨ps',ss',e_,_,q_⟩
 simp_arith only[cL,bG,bJ,aO,aR,bP,dC,fH,gz,fF,fY,fB,fU,and_assoc]at e_
 obtain⟨rfl,rfl⟩:=e_
 exact q_
theorem gY:FnScope ["_law_pts", "_law_box_here", "_law_found", "_law_row", "_law_x"] ["_law_pts", "_law_box_here"] (defScope (EG 50)):=⟨rfl,rfl,rfl,by decide +kernel,rfl,by decide +kernel,by decide +kernel⟩
theorem d__law_bottom(Fn:FnIn K mg "_law_bottom" (EG 50) ["_law_pts", "_law_box_here"])(Z:Bz mg)    : Dfn P w K mg base rl "_law_bottom" ["_law_pts", "_law_box_here"] 1 bw:=by
 have sc:=gY
 refine Dfn.of Fn sc (bw.mono) (bw.len) (fun cdv A outer s H E hr=>(ag (aj 2 sc.nd ae)
  (ag (b_ [3,4] IZ rfl (bT (ju (dW Z.list_ (aa (vn 0) ac)) (ci ["_law_side"] [none] rfl (dU (vn 1)) (fun _=>(aq 0 (show Js (["_law_side"]:List Str) by decide +kernel))) (fun _=>b9) (fun _=>(xn (vn 0) (kd ae) ke))))) (aq 3 sc.nd) (ak (b_ [4] IZ rfl (dU (vn 3)) (aq 4 sc.nd) (ak (aj 2 sc.nd (v_mul (vn 2) (aQ (vn 4) ae)))))))
  (ak (av (vn 2)))))) ?_
 rintro ws Q ⟨ps,ss,rfl,⟨h8,s4,hp,hs⟩,hQ⟩
 refine az ?_
 have sz:=Is
 simp_arith only[ah,af,HD]
 refine EY (cq (xs:=ss) (enc:=Fd) (fun s=>Fp (enS s)) rfl ?_ (by omega) ?_)
 · intro s ms
   cases s
   all_goals simp_arith only[ah,af,FZ,xD,xF,xE,sI]
   all_goals rfl
 have em:ps.map Fp++ss.map (fun s=>Fp (enS s))=(ps++ss.map enS).map Fp:=by rw[Jk,JG];rfl
 have hq:∀r∈ps++ss.map enS,r.length<=4/\∀q∈r,Fm 45 q:=fun r mr=>by
  rcases Ip.mp mr with m|m
  · exact hp r m
  · obtain⟨t,mt,rfl⟩:=IM.mp m
    exact⟨by cases t<;>simp[enS],hs t mt⟩
 have rl:(ps++ss.map enS).length<=12:=by rw[Ic,HW];omega
 have hb:botN ps ss=4*pd (ps++ss.map enS).flatten:=rfl
 rw[hb]at hQ
 rw[em]
 have gl:ps.length+(ss.map fun s=>Fp (enS s)).length<=sizeLine:=by rw[HW];omega
 rw[ah gl]
 generalize ps++ss.map enS=rs at hq rl hQ ⊢
 refine eF (xs:=rs) (enc:=Fp) (fun i ρ=>ρ=[some (.d (ptsQ ps)),some (.d (boxD ss)),some (.d (.int ((4*pd (rs.take i).flatten:Nat):Int))),none,none]) rfl rfl ?_ ?_
 · rintro i hi ρ rfl K hK
   obtain⟨r4,hr⟩:=hq _ (Ji hi)
   have et:=BF hi
   generalize rs[i]=r at r4 hr et ⊢
   have fin:∀ρ,fo [3,4] ρ=[some (.d (ptsQ ps)),some (.d (boxD ss)),some (.d (.int ((4*(pd (rs.take i).flatten*pd r):Nat):Int))),none,none]->K (.nx ρ):=fun ρ e=>hK _ (ck (by rw[e,et]))
   generalize pd (rs.take i).flatten=m at fin ⊢
   simp_arith only[ah,af,HD]
   refine BH (eF (xs:=r) (enc:=fr) (fun j ρ=>ρ=[some (.d (ptsQ ps)),some (.d (boxD ss)),some (.d (.int ((4*(m*pd (r.take j)):Nat):Int))),some (.d (Fp r)),none]) rfl (by rw[List.take_zero];show _=[_,_,some (W.d (.int ((4*(m*1):Nat):Int))),_,_];rw[Nat.mul_one]) ?_ ?_)
   · rintro j hj ρ rfl K2 hK2
     have ep:=Ba hj
     have qs:=hr _ (Ji hj)
     generalize r[j]=x at ep qs ⊢
     have cm:∀z:Int,aN z (x.den:Int):=fun z=>.rt (by rw[Ik];exact HL qs.2 (by decide))
     simp_arith only[ah,af,HD,cm]
     refine hK2 _ (ck ?_)
     have e:((4*(m*pd (r.take j)):Nat):Int)*(x.den:Int)=((4*(m*pd (r.take (j+1))):Nat):Int):=by
      rw[ep]
      push_cast
      grind
     rw[e]
     rfl
   · rintro ρ rfl
     rw[IG (HX _)]
     exact fin _ rfl
 · rintro ρ rfl
   rw[IG (HX _)]
   simp_arith only[ah,af]
   exact aw hQ
theorem fW(t:Rat):jm (Fd (.to t))=some [.str "to", fr t]:=rfl
theorem gU(a b:Rat):jm (Fd (.from a b))=some [.str "from", fr a,fr b]:=rfl
theorem gT(a b:Rat):jm (Fd (.round a b))=some [.str "round", fr a,fr b]:=rfl
theorem qy(x y:α):atI [x,y] 1=some y:=rfl
theorem qI(x y z:α):atI [x,y,z] 1=some y:=rfl
theorem qH(x y z:α):atI [x,y,z] 2=some z:=rfl
noncomputable def FE(b:Bool)(e:Rat)(s:Sd):Sd:=if b then FF e s else FG e s
noncomputable def Eo(b:Bool):Str:=if b then "over" else "lack"
theorem Ao{a:Bool}:Eo a=Eo b↔a=b:=by revert a b;decide +kernel
theorem mZ{x:Rat}(B0:0<B)(h:x≠1):qd (x.num*B+(x.den:Int)) ((x.den:Int)*B)=nxt (qd 1 B) x:=by
 unfold nxt
 rw[if_neg h]
 have dp:(0:Int)<(x.den:Int):=by have:=x.den_pos;omega
 refine ge (KI dp B0) ?_
 have e:=im x
 have q:=iX B0
 rw[Mf,IN,IN,e,Os]
 grind
theorem wM(e:Rat):nxt e 1=1:=if_pos rfl
noncomputable def bj:List W->(HH->Prop)->Prop:=fun ws Q=>∃(ss:List Sd)(b:Bool)(B:Int),ws=[.d (boxD ss),.d (.str (Eo b)),.d (.int B)]/\((ss.length<=4)/\(0<B)/\(B.natAbs<2^1300)/\(∀s∈ss,∀q∈enS s,Fm 45 q))/\Q (boxD (ss.map (FE b (qd 1 B))))
theorem bj.mono:∀ws (Q Q':HH->Prop),(∀d,Q d->Q' d)->bj ws Q->bj ws Q':=fun _ _ _ h_=>H0 fun _=>H0 fun _=>H0 fun _=>HP (HP (h_ _))
theorem bj.len:∀ws (Q:HH->Prop),bj ws Q->ws.length=3:=fun _ _ h_=>by obtain⟨_,_,_,e_,_⟩:=h_;subst e_;rfl
theorem bj.eq(ss:List Sd)(b:Bool)(B:Int)(s4:ss.length<=4)(B0:0<B)(Bz:B.natAbs<2^1300)(hs:∀s∈ss,∀q∈enS s,Fm 45 q):bj [.d (boxD ss),.d (.str (Eo b)),.d (.int B)]=VL.ret (boxD (ss.map (FE b (qd 1 B))):HH):=by
 refine ai fun Q=>⟨?_,fun q_=>⟨ss,b,B,rfl,⟨s4,B0,Bz,hs⟩,q_⟩⟩
 rintro⟨ss',b',B',e_,_,q_⟩
 simp_arith only[cL,bG,bJ,aO,aR,bP,dC,fH,gz,fF,fY,fB,fU,and_assoc,Ao]at e_
 obtain⟨rfl,rfl,rfl⟩:=e_
 exact q_
theorem iV:FnScope ["_law_box_here", "_law_way", "_law_bottom_here", "_law_found", "_law_side", "_law_row", "_law_at", "_law_x"] ["_law_box_here", "_law_way", "_law_bottom_here"] (defScope (EG 51)):=⟨rfl,rfl,rfl,by decide +kernel,rfl,by decide +kernel,by decide +kernel⟩
theorem d__law_moved(Fn:FnIn K mg "_law_moved" (EG 51) ["_law_box_here", "_law_way", "_law_bottom_here"])(Z:Bz mg)(d__law_frac:∀rl,Dfn P w K mg base rl "_law_frac" ["_law_top", "_law_bottom_here"] 1 bf)   : Dfn P w K mg base rl "_law_moved" ["_law_box_here", "_law_way", "_law_bottom_here"] 2 bj:=by
 have sc:=iV
 refine Dfn.of Fn sc (bj.mono) (bj.len) (fun cdv A outer s H E hr=>(ag (jp 3 sc.nd (cE ac))
  (ag (b_ [4,5,6,7] IZ rfl (dU (vn 0)) (aq 4 sc.nd) (ag (jp 5 sc.nd (dW Z.list_ (aa (vn 4) ac)))
  (ag (aj 6 sc.nd (dG (aF dN cu (ay _) (vn 1) aH) (v_sub (cv Z.len_ (aa (vn 5) ac)) ae) ae))
  (ag (bW (G8.pb (uA (G8.pb (eY (aF (cC hr.units) bX (ay _) (vn 6) (v_sub (cv Z.len_ (aa (vn 5) ac)) ae)) (df (aF dN cu (ay _) (vn 1) aH)))) (nG (G8.pb (eY (aF (cC hr.units) bX (ay _) (cv Z.len_ (aa (vn 5) ac)) ae) (df (aF dN cu (ay _) (vn 1) aH))))))) (ag (aj 7 sc.nd (aQ (vn 5) (vn 6)))
  (ak (bW (aF (gt hr.units) bX (ay _) (vn 7) (bU (aa ae (aa ae ac)))) (ak (uq 5 (vn 6) (al (d__law_frac _) (hr.mono (by decide)) (aa (v_add (v_mul (aQ (vn 7) ae) (vn 2)) (aQ (vn 7) ae)) (aa (v_mul (aQ (vn 7) ae) (vn 2)) ac))))) ba))) ba)
  (ak (jr 3 (aa (eQ Z.tuple_ (aa (vn 5) ac)) ac)))))))
  (ak (av (eQ Z.tuple_ (aa (vn 3) ac))))))) ?_
 rintro ws Q ⟨ss,b,B,rfl,⟨s4,B0,Bz,hs⟩,hQ⟩
 refine az ?_
 have sz:=Is
 have q1:decide (HG "over" = HG "over")=true:=by decide +kernel
 have q2:decide (HG "over" = HG "lack")=false:=by decide +kernel
 have q3:decide (HG "lack" = HG "over")=false:=by decide +kernel
 have q4:decide (HG "lack" = HG "lack")=true:=by decide +kernel
 have eqi:∀i j:Int,IB (.int i) (.int j)=(i==j):=fun i j=>by simp[IB]
 have w1:Eo true=HG "over" := rfl
 have w2:Eo false=HG "lack" := rfl
 simp_arith only[ah,af,HD]
 refine eF (xs:=ss) (enc:=Fd) (fun i ρ=>ρ=[some (.d (boxD ss)),some (.d (.str (Eo b))),some (.d (.int B)),some (.ml ((ss.take i).map fun s=>Fd (FE b (qd 1 B) s))),none,none,none,none]) rfl rfl ?_ ?_
 · rintro i hi ρ rfl K hK
   have hq:=hs _ (Ji hi)
   have ls:((ss.take i).map fun s=>Fd (FE b (qd 1 B) s)).length<sizeLine:=by rw[HW,JH];omega
   have fin:∀ρ,fo [4,5,6,7] ρ=[some (.d (boxD ss)),some (.d (.str (Eo b))),some (.d (.int B)),some (.ml (((ss.take i).map fun s=>Fd (FE b (qd 1 B) s))++[Fd (FE b (qd 1 B) ss[i])])),none,none,none,none]->K (.nx ρ):=fun ρ e=>hK _ (ck (by rw[e,IJ hi,Jk];rfl))
   generalize ss[i]=s at hq fin ⊢
   generalize (ss.take i).map (fun s=>Fd (FE b (qd 1 B) s))=acc at ls fin ⊢
   have key:∀x,Fm 45 x->aN x.num B/\aN (x.den:Int) B/\0<(x.den:Int)*B/\((x.den:Int)*B).natAbs<2^8000/\IB (fr x) (fr 1)=decide (x=1):=fun x h=>by
    refine⟨.lt (HL h.1 (by decide)),.lt (by rw[Ik];exact HL h.2 (by decide)),KI (by have:=x.den_pos;omega) B0,?_,zF x 1⟩
    rw[IR,Ik]
    exact HL (aD h.2 Bz) (HS (by decide) (by decide))
   have s1:=cF 1
   have f1:Kd [Iw 1,Iw 1]=fr 1:=rfl
   cases s with
   | to t =>
     cases b
     · have em:FE false (qd 1 B) (.to t) = .to t:=rfl
       rw[em]at fin
       have k6:True:=trivial
       have en:True:=trivial
       simp_arith only[ah,af,HD,di,w1,w2,q1,q2,q3,q4,eqi,f1,bf.eq,fW,qy,cY]
       exact fin _ rfl
     · have h:=hq t (by simp[enS])
       obtain⟨k1,k2,k3,k4,k5⟩:=key t h
       have s2:=cF t
       have em:FE true (qd 1 B) (.to t) = .to (nxt (qd 1 B) t):=rfl
       rw[em]at fin
       by_cases cc:t=1
       · have k6:IB (fr t) (fr 1)=true:=by rw[k5];simp[cc]
         have en:nxt (qd 1 B) t=t:=by rw[cc];exact wM _
         rw[en]at fin
         simp_arith only[ah,af,HD,di,w1,w2,q1,q2,q3,q4,eqi,f1,k6,en,bf.eq,fW,gU,gT,qy,qI,qH,cY]
         exact fin _ rfl
       · have k6:IB (fr t) (fr 1)=false:=by rw[k5];simp[cc]
         have en:=mZ (x:=t) B0 cc
         simp_arith only[ah,af,HD,di,w1,w2,q1,q2,q3,q4,eqi,f1,k6,en,bf.eq,fW,gU,gT,qy,qI,qH,cY]
         exact fin _ rfl
   | «from» a c =>
     cases b
     · have h:=hq a (by simp[enS])
       obtain⟨k1,k2,k3,k4,k5⟩:=key a h
       have s2:=cF a
       have em:FE false (qd 1 B) (.from a c) = .from (nxt (qd 1 B) a) c:=rfl
       rw[em]at fin
       by_cases cc:a=1
       · have k6:IB (fr a) (fr 1)=true:=by rw[k5];simp[cc]
         have en:nxt (qd 1 B) a=a:=by rw[cc];exact wM _
         rw[en]at fin
         simp_arith only[ah,af,HD,di,w1,w2,q1,q2,q3,q4,eqi,f1,k6,en,bf.eq,fW,gU,gT,qy,qI,qH,cY]
         exact fin _ rfl
       · have k6:IB (fr a) (fr 1)=false:=by rw[k5];simp[cc]
         have en:=mZ (x:=a) B0 cc
         simp_arith only[ah,af,HD,di,w1,w2,q1,q2,q3,q4,eqi,f1,k6,en,bf.eq,fW,gU,gT,qy,qI,qH,cY]
         exact fin _ rfl
     · have h:=hq c (by simp[enS])
       obtain⟨k1,k2,k3,k4,k5⟩:=key c h
       have s2:=cF c
       have em:FE true (qd 1 B) (.from a c) = .from a (nxt (qd 1 B) c):=rfl
       rw[em]at fin
       by_cases cc:c=1
       · have k6:IB (fr c) (fr 1)=true:=by rw[k5];simp[cc]
         have en:nxt (qd 1 B) c=c:=by rw[cc];exact wM _
         rw[en]at fin
         simp_arith only[ah,af,HD,di,w1,w2,q1,q2,q3,q4,eqi,f1,k6,en,bf.eq,fW,gU,gT,qy,qI,qH,cY]
         exact fin _ rfl
       · have k6:IB (fr c) (fr 1)=false:=by rw[k5];simp[cc]
         have en:=mZ (x:=c) B0 cc
         simp_arith only[ah,af,HD,di,w1,w2,q1,q2,q3,q4,eqi,f1,k6,en,bf.eq,fW,gU,gT,qy,qI,qH,cY]
         exact fin _ rfl
   | round a c =>
     cases b
     · have h:=hq a (by simp[enS])
       obtain⟨k1,k2,k3,k4,k5⟩:=key a h
       have s2:=cF a
       have em:FE false (qd 1 B) (.round a c) = .round (nxt (qd 1 B) a) c:=rfl
       rw[em]at fin
       by_cases cc:a=1
       · have k6:IB (fr a) (fr 1)=true:=by rw[k5];simp[cc]
         have en:nxt (qd 1 B) a=a:=by rw[cc];exact wM _
         rw[en]at fin
         simp_arith only[ah,af,HD,di,w1,w2,q1,q2,q3,q4,eqi,f1,k6,en,bf.eq,fW,gU,gT,qy,qI,qH,cY]
         exact fin _ rfl
       · have k6:IB (fr a) (fr 1)=false:=by rw[k5];simp[cc]
         have en:=mZ (x:=a) B0 cc
         simp_arith only[ah,af,HD,di,w1,w2,q1,q2,q3,q4,eqi,f1,k6,en,bf.eq,fW,gU,gT,qy,qI,qH,cY]
         exact fin _ rfl
     · have h:=hq c (by simp[enS])
       obtain⟨k1,k2,k3,k4,k5⟩:=key c h
       have s2:=cF c
       have em:FE true (qd 1 B) (.round a c) = .round a (nxt (qd 1 B) c):=rfl
       rw[em]at fin
       by_cases cc:c=1
       · have k6:IB (fr c) (fr 1)=true:=by rw[k5];simp[cc]
         have en:nxt (qd 1 B) c=c:=by rw[cc];exact wM _
         rw[en]at fin
         simp_arith only[ah,af,HD,di,w1,w2,q1,q2,q3,q4,eqi,f1,k6,en,bf.eq,fW,gU,gT,qy,qI,qH,cY]
         exact fin _ rfl
       · have k6:IB (fr c) (fr 1)=false:=by rw[k5];simp[cc]
         have en:=mZ (x:=c) B0 cc
         simp_arith only[ah,af,HD,di,w1,w2,q1,q2,q3,q4,eqi,f1,k6,en,bf.eq,fW,gU,gT,qy,qI,qH,cY]
         exact fin _ rfl
 · rintro ρ rfl
   rw[IG (HX _)]
   have em:(ss.map fun s=>Fd (FE b (qd 1 B) s))=(ss.map (FE b (qd 1 B))).map Fd:=by rw[JG];rfl
   rw[em]
   simp_arith only[ah,af,HD]
   exact aw hQ
theorem oN{f:Nat}(hw:GA f ps):Pn (dimP ps) (nuQ ps) ps :=
 ⟨hw.1.1.1,fun k hk q mq=>((hw.1.2 k hk).2 q mq).2,fun p mp=>(hw.1.1.2.2.1 p mp).1,fun p mp k hk=>((hX (colQ ps k)).2 _).mpr (J8 mp)⟩
theorem tQ{F:Fin 3}(ss:List Sd):ss∈chP (rowsS F.val ps)↔nn F (dimP ps) (nuQ ps) ss:=by
 rw[kO (.to 0) (dimP ps) (rowsS F.val ps) (eV F.val ps)]
 refine and_congr_right fun _=>forall_congr' fun k=>forall_congr' fun hk=>?_
 have:(rowsS F.val ps).getD k []=slS F.val (nuQ ps k):=by
  rw[Ib,Ia (by rw[eV];exact hk),iW]
  rfl
 rw[this]
theorem zC{α:Type}:∀(ts:List (Rat×α))(t0:Rat×α),t0.1<=(Gm ts t0).1/\∀t∈ts,t.1<=(Gm ts t0).1
 | [],t0=>⟨ID,fun _ h=>absurd h (by simp)⟩
 | t::ts,t0=>by
   have e:Gm (t::ts) t0=Gm ts (if t0.1<t.1 then t else t0):=rfl
   rw[e]
   obtain⟨h1,h2⟩:=zC ts (if t0.1<t.1 then t else t0)
   by_cases c:t0.1<t.1
   · rw[if_pos c]at h1 h2 ⊢
     refine⟨IS (Iq c) h1,fun u mu=>?_⟩
     rcases Ih.mp mu with rfl|mu
     · exact h1
     · exact h2 u mu
   · rw[if_neg c]at h1 h2 ⊢
     refine⟨h1,fun u mu=>?_⟩
     rcases Ih.mp mu with rfl|mu
     · exact IS (Jl.mp c) h1
     · exact h2 u mu
theorem jn{F:Fin 3}:∀ss,nn F (dimP ps) (nuQ ps) ss->Ft ps ss<=(Er F.val ps).1/\FX ps ss<=(Er F.val ps).1:=fun ss hs=>by
 have h:=(zC (msL F.val ps) ((msL F.val ps).headD (0, "", []))).2
 have m:∀t∈msS ps ss,t∈msL F.val ps:=fun t mt=>IU.mpr ⟨ss,(tQ ss).mpr hs,mt⟩
 exact⟨h _ (m _ HM),h _ (m _ (HK _ HM))⟩
theorem ny(f:Nat)(ps:List (List Rat)):Er f ps∈msL f ps:=by
 obtain⟨t,ts,e⟩:=o9 f ps
 unfold Er
 rw[e]
 rcases lT (t::ts) ((t::ts).headD (0, "", []))with z|z
 · rw[z];exact HM
 · exact z
theorem vW{F:Fin 3}{t:GE}(mt:t∈msL F.val ps):∃ss,nn F (dimP ps) (nuQ ps) ss/\t∈msS ps ss:=by
 obtain⟨ss,ms,h⟩:=IU.mp mt
 exact⟨ss,(tQ ss).mp ms,h⟩
theorem wn{D n:Int}{k:Nat}(D0:0<D)(e:q*(D:Rat)=(n:Rat))(h1 : -1<=q)(h2:q<=1)(hD:D.natAbs<2^k):Fm k q:=by
 have eq:qd n D=q:=ge D0 e.symm
 have Dp:(0:Rat)<=(D:Rat):=by exact_mod_cast Int.le_of_lt D0
 have a1:=IQ h1 Dp
 have a2:=IQ h2 Dp
 rw[e]at a1 a2
 have b1 : -D<=n:=by
  have:((-D:Int):Rat)<=(n:Rat):=by rw[Rat.intCast_neg];grind
  exact_mod_cast this
 have b2:n<=D:=by
  have:(n:Rat)<=(D:Rat):=by grind
  exact_mod_cast this
 rw[<- eq]
 exact mU D0 (by omega) hD
theorem jL{x:Rat}(B0:0<B)(hx:Fm 45 x)(hB:B.natAbs<2^1173)(h : -1<=nxt (qd 1 B) x/\nxt (qd 1 B) x<=1):Fm 1218 (nxt (qd 1 B) x):=by
 by_cases c:x=1
 · rw[c,wM]
   exact⟨by decide +kernel,by decide +kernel⟩
 · have dp:(0:Int)<(x.den:Int):=by have:=x.den_pos;omega
   refine wn (D:=(x.den:Int)*B) (n:=x.num*B+x.den) (KI dp B0) ?_ h.1 h.2 ?_
   · rw[<- mZ B0 c]
     have:=cZ (KI dp B0)
     unfold qd
     grind
   · rw[IR,Ik]
     exact aD hx.2 hB
theorem lE(x:Rat):∃n:Int,mx x 0*((x.den:Int):Rat)=(n:Rat):=by
 unfold mx
 split
 · exact⟨0,by grind⟩
 · exact⟨x.num,(im x).symm⟩
theorem mI{s:Sd}(h:s.In1){a b:Nat}(ha:Fm a s.first)(hb:Fm b s.last):Fm (a+b) (szQ s):=by
 have z:=dZ s h
 have key:∀x y:Rat,Fm a x->Fm b y->(∃n:Int,szQ s*(((x.den:Int)*(y.den:Int):Int):Rat)=(n:Rat))->Fm (a+b) (szQ s):=fun x y hx hy ⟨n,e⟩=>by
  refine wn (KI (by have:=x.den_pos;omega) (by have:=y.den_pos;omega)) e (IS (by decide) z.1) z.2 ?_
  rw[IR,Ik,Ik]
  exact aD hx.2 hy.2
 cases s with
 | to t =>
   have hb:Fm b t:=hb
   have b1:Fm b (mx t 0):=by
    unfold mx
    split
    · exact⟨by have:=Nat.two_pow_pos b;exact this,Kf (show(0:Rat).den<=t.den from t.den_pos) hb.2⟩
    · exact hb
   exact b1.mono (by omega)
 | «from» x y =>
   refine key x y ha hb ?_
   obtain⟨m,hm⟩:=lE x
   obtain⟨n,hn⟩:=lE y
   show ∃k:Int,mx (mx y 0-mx x 0) 0*_=_
   generalize mx y 0=u at hn
   generalize mx x 0=v at hm
   unfold mx
   split
   · exact⟨0,by grind⟩
   · refine⟨n*x.den-m*y.den,?_⟩
     rw[K6,IN,IN,IN,<- hm,<- hn]
     grind
 | round x y =>
   refine key x y ha hb ?_
   obtain⟨m,hm⟩:=lE x
   obtain⟨n,hn⟩:=lE y
   show ∃k:Int,mn (1+(mx y 0-mx x 0)) 1*_=_
   generalize mx y 0=u at hn
   generalize mx x 0=v at hm
   unfold mn
   split
   · refine⟨x.den*y.den+n*x.den-m*y.den,?_⟩
     rw[K6,Mf,IN,IN,IN,<- hm,<- hn]
     grind
   · exact⟨x.den*y.den,by grind⟩
theorem pC{n:Nat}:∀{ps:List (List Rat)},(∀p∈ps,p.length=n)->ps.flatten.length=ps.length*n
 | [],_=>by simp
 | p::ps,h=>by
   rw[J7,Ic,pC fun q mq=>h q (HK _ mq),h p HM,Io,N6]
   omega
theorem tR:∀ss:List Sd,((ss.map enS).flatten).length<=2*ss.length
 | []=>by simp
 | s::ss=>by
   have:=tR ss
   rw[Ja,J7,Ic,Io]
   have:(enS s).length<=2:=by cases s<;>simp[enS]
   omega
theorem zQ(h18:ps.length*n<=18)(hp:∀p∈ps,p.length=n/\∀q∈p,Fm 45 q)(s4:ss.length<=4)(hs:∀s∈ss,∀q∈enS s,Fm 45 q):((botN ps ss:Nat):Int).natAbs<2^1173:=by
 rw[Ik]
 have l1:(ps++ss.map enS).flatten.length<=26:=by
  rw[NK,Ic,pC fun p mp=>(hp p mp).1]
  have:=tR ss
  omega
 have h:=yM (k:=45) (a:=(ps++ss.map enS).flatten) fun x mx'=>by
  obtain⟨r,mr,mx'⟩:=MX.mp mx'
  rcases Ip.mp mr with m|m
  · exact((hp r m).2 x mx').2
  · obtain⟨t,mt,rfl⟩:=IM.mp m
    exact(hs t mt x mx').2
 have h2:2^(45*(ps++ss.map enS).flatten.length)<=2^1170:=HS (by decide) (by omega)
 have h3:(4:Nat)*2^1170<2^1173:=by
  rw[show(4:Nat)=2^2 from rfl,<- Md]
  exact LS (by decide) (by decide)
 unfold botN
 have h4:=IT h h2
 generalize 2^1170=T at h3 h4
 exact Kf (NC 4 h4) h3
theorem uW{f:Nat}(hg:∀q∈rs,Gd q):∀s∈slS f rs,∀q∈enS s,Fm 45 q:=by
 have h1:Fm 45 1:=⟨by decide,by decide⟩
 have h2:Fm 45 (-1):=⟨by decide,by decide⟩
 have hE:∀q∈rs++[1],Fm 45 q:=fun q mq=>by
  rcases Ip.mp mq with m|m
  · exact(hg q m).1
  · cases Ij.mp m;exact h1
 have hB:∀q∈(-1)::rs,Fm 45 q:=fun q mq=>by
  rcases Ih.mp mq with rfl|m
  · exact h2
  · exact(hg q m).1
 have two:∀a b q:Rat,Fm 45 a->Fm 45 b->q∈[a,b]->Fm 45 q:=fun a b q ha hb mq=>by
  rcases Ih.mp mq with rfl|mq
  · exact ha
  · cases Ij.mp mq;exact hb
 have hF:∀s∈slFS rs,∀q∈enS s,Fm 45 q:=fun s ms q mq=>by
  obtain⟨a,ma,h1⟩:=IU.mp ms
  obtain⟨b,mb,h2⟩:=I_.mp h1
  split at h2
  · cases h2;exact two a b q (hB a ma) (hE b mb) mq
  · cases h2
 have hR:∀s∈slRS rs,∀q∈enS s,Fm 45 q:=fun s ms q mq=>by
  obtain⟨a,ma,h1⟩:=IU.mp ms
  obtain⟨b,mb,h2⟩:=I_.mp h1
  split at h2
  · cases h2;exact two a b q (hE a ma) (hB b mb) mq
  · cases h2
 intro s ms q mq
 unfold slS at ms
 split at ms
 · obtain⟨t,mt,rfl⟩:=IM.mp ms
   cases Ij.mp mq
   exact hE _ mt
 · split at ms
   · exact hF s ms q mq
   · rcases Ip.mp ms with m|m
     · exact hF s m q mq
     · exact hR s m q mq
structure MvOk (ps:List (List Rat)) (ss ss':List Sd):Prop where
 len:ss'.length=ss.length
 in1:∀s∈ss',s.In1
 smc:∀s∈ss',GQ s/\Fm 1300 (szQ s)
theorem yY{F:Fin 3}(hw:GA F.val ps)(h18:ps.length*dimP ps<=18)(hs:nn F (dimP ps) (nuQ ps) ss):MvOk ps ss (ss.map (FE b (qd 1 (botN ps ss:Nat))))/\(∀s∈ss,∀q∈enS s,Fm 45 q)/\((botN ps ss:Nat):Int).natAbs<2^1173/\∀k,k<dimP ps->Hv (qd 1 (botN ps ss:Nat)) (nuQ ps k) (ss.getD k (.to 0)).last/\Hv (qd 1 (botN ps ss:Nat)) (nuQ ps k) (ss.getD k (.to 0)).first:=by
 have hp:=oN hw
 have d4:=hw.1.1.2.2.2.2
 have at_:∀s∈ss,∃k,k<dimP ps/\s=ss.getD k (.to 0):=fun s ms=>by
  obtain⟨k,hk,rfl⟩:=Lm ms
  exact⟨k,by rw[<- hs.1];exact hk,by rw[Ib,Ia hk];rfl⟩
 have h45:∀s∈ss,∀q∈enS s,Fm 45 q:=fun s ms=>by
  obtain⟨k,hk,rfl⟩:=at_ s ms
  exact uW (hw.1.2 k hk).2 _ (hs.2 k hk)
 have hB:=zQ (n:=dimP ps) (ps:=ps) (ss:=ss) h18 (fun p mp=>⟨(hw.1.1.2.2.1 p mp).1,fun q mq=>((hw.1.1.2.2.1 p mp).2 q mq).1⟩) (by rw[hs.1];exact d4) h45
 have B0:(0:Int)<((botN ps ss:Nat):Int):=by have:=qu ps ss;omega
 have mem:∀k,k<dimP ps->ss.getD k (.to 0)∈ss:=fun k hk=>getD_mem (by rw[hs.1];exact hk)
 have hin:∀k,k<dimP ps->(ss.getD k (.to 0)).In1:=fun k hk=>(eZ (hp.unit k hk) _ (hs.2 k hk)).2
 have nd:∀k,k<dimP ps->∀x∈nuQ ps k,(x.den:Int)∣((botN ps ss:Nat):Int):=fun k hk x mx'=>by
  obtain⟨p,mp,rfl⟩:=IM.mp (((hX (colQ ps k)).2 x).mp mx')
  exact zP mp (getD_mem (by rw[(hw.1.1.2.2.1 p mp).1];exact hk))
 have gp:∀k,k<dimP ps->Hv (qd 1 (botN ps ss:Nat)) (nuQ ps k) (ss.getD k (.to 0)).last/\Hv (qd 1 (botN ps ss:Nat)) (nuQ ps k) (ss.getD k (.to 0)).first:=fun k hk =>
  ⟨tU B0 (nd k hk) (uh (mem k hk) (Df _).1) (hin k hk).2.2,tU B0 (nd k hk) (uh (mem k hk) (Df _).2) (hin k hk).1.2⟩
 refine⟨⟨by rw[HW],?_,?_⟩,h45,hB,gp⟩
 · intro s ms
   obtain⟨t,mt,rfl⟩:=IM.mp ms
   obtain⟨k,hk,rfl⟩:=at_ t mt
   cases b
   · exact(o0 (dj B0) (hp.unit k hk) (hin k hk) (gp k hk).2).2.2
   · exact(oZ (dj B0) (hp.unit k hk) (hin k hk) (gp k hk).1).2.2
 · intro s ms
   obtain⟨t,mt,rfl⟩:=IM.mp ms
   have q45:=h45 t mt
   obtain⟨k,hk,rfl⟩:=at_ t mt
   have i1:=hin k hk
   have g1:=gv (dj B0) (gp k hk).1 i1.2
   have g2:=gv (dj B0) (gp k hk).2 i1.1
   have iO:=(oZ (dj B0) (hp.unit k hk) i1 (gp k hk).1).2.2
   have iL:=(o0 (dj B0) (hp.unit k hk) i1 (gp k hk).2).2.2
   generalize ss.getD k (.to 0)=u at q45 i1 g1 g2 iO iL
   cases u with
   | to t =>
     have t45:=q45 t (by simp[enS])
     cases b
     · exact⟨⟨t45.mono (by decide),t45.mono (by decide)⟩,(mI (a:=45) (b:=45) i1 t45 t45).mono (by decide)⟩
     · have n:=jL B0 t45 hB g1.1
       have b1:Fm 1218 (mx (nxt (qd 1 (botN ps ss:Nat)) t) 0):=dO n ⟨by decide +kernel,by decide +kernel⟩
       exact⟨⟨n.mono (by decide),n.mono (by decide)⟩,b1.mono (by decide)⟩
   | «from» x y =>
     have x45:=q45 x (by simp[enS])
     have y45:=q45 y (by simp[enS])
     cases b
     · have n:=jL B0 x45 hB g2.1
       exact⟨⟨n.mono (by decide),y45.mono (by decide)⟩,(mI (s:=.from (nxt (qd 1 (botN ps ss:Nat)) x) y) (a:=1218) (b:=45) iL n y45).mono (by decide)⟩
     · have n:=jL B0 y45 hB g1.1
       exact⟨⟨x45.mono (by decide),n.mono (by decide)⟩,(mI (s:=.from x (nxt (qd 1 (botN ps ss:Nat)) y)) (a:=45) (b:=1218) iO x45 n).mono (by decide)⟩
   | round x y =>
     have x45:=q45 x (by simp[enS])
     have y45:=q45 y (by simp[enS])
     cases b
     · have n:=jL B0 x45 hB g2.1
       exact⟨⟨n.mono (by decide),y45.mono (by decide)⟩,(mI (s:=.round (nxt (qd 1 (botN ps ss:Nat)) x) y) (a:=1218) (b:=45) iL n y45).mono (by decide)⟩
     · have n:=jL B0 y45 hB g1.1
       exact⟨⟨x45.mono (by decide),n.mono (by decide)⟩,(mI (s:=.round x (nxt (qd 1 (botN ps ss:Nat)) y)) (a:=45) (b:=1218) iO x45 n).mono (by decide)⟩
theorem kN(h1:1<=ps.length)(h8:ps.length<=8)(s4:ss.length<=4)(hi:∀s∈ss,s.In1)(hs:∀s∈ss,GQ s/\Fm 1300 (szQ s))(w:Str):HA (qd (cntN ps ss w) ps.length-aW ss).num/\HA ((qd (cntN ps ss w) ps.length-aW ss).den:Int):=by
 have tb:=qW ss.length ss rfl fun s ms=>(hs s ms).2
 obtain⟨_,_,_,B2⟩:=tb.big s4
 obtain⟨m0,mq⟩:=pi h1 tb w
 have z:=dJ (ss':=ss) (ss:=ss) rfl fun k hk=>⟨(dZ _ (hi _ (getD_mem hk))).1,ID⟩
 have z1:=d8 (e:=0) (ID) (ss':=ss) (ss:=ss) rfl fun k hk=>by
  have:=dZ _ (hi _ (getD_mem (d:=.to 0) hk))
  exact⟨this,this,by grind⟩
 have n8:cntN ps ss w<=ps.length:=K4 ..
 have c1:qd (cntN ps ss w) ps.length<=1:=by
  have:=rj h1 n8
  have e:qd (ps.length:Nat) (ps.length:Nat)=1:=by
   unfold qd
   rw[Kh,Mt _ (cZ (by omega))]
  rwa [e]at this
 have c0:0<=qd (cntN ps ss w) ps.length:=oG (by omega) (by omega)
 have key:Fm 8000 (qd (cntN ps ss w) ps.length-aW ss):=by
  refine wn (D:=(ps.length:Int)*btS ss) (n:=(cntN ps ss w:Int)*btS ss-(ps.length:Int)*tpS ss) m0 ?_ ?_ ?_ ?_
  · rw[<- mq]
    have:=cZ m0
    unfold qd
    grind
  · have:=z1.1.2
    grind
  · have:=z1.1.1
    grind
  · rw[IR,Ik]
    exact zR h8 B2
 exact⟨HL key.1 (HS (by decide) (by decide)),by show((_:Nat):Int).natAbs<_;rw[Ik];exact HL key.2 (HS (by decide) (by decide))⟩
theorem zM{a b c d:Int}(hb:0<b)(hd:0<d)(h:qd a b<=qd c d):decide (Gr (a*d) (c*b)<=0)=true:=by
 have:¬c*b<a*d:=fun z=>Jl.mpr h ((gf hd hb).mp z)
 unfold Gr
 rw[if_neg (by simpa using this)]
 simp
 split<;>omega
theorem lJ(B0:0<B)(n:Nat):0<(t.den:Int)*B/\qd (t.num*B-(n:Int)*(t.den:Int)) ((t.den:Int)*B)=t-(n:Nat)*qd 1 B:=by
 have dp:(0:Int)<(t.den:Int):=by have:=t.den_pos;omega
 refine⟨KI dp B0,ge (KI dp B0) ?_⟩
 have e:=im t
 have q:=iX B0
 rw[K6,IN,IN,IN,e]
 have c:((n:Int):Rat)=((n:Nat):Rat):=rfl
 rw[c]
 generalize ((t.den:Int):Rat)=D
 generalize (B:Rat)=b at q
 generalize qd 1 B=u at q
 grind
theorem sY(t:GE):tupD (teD t)=some [fr t.1,.str t.2.1,boxD t.2.2]:=rfl
noncomputable def bo:List W->(HH->Prop)->Prop:=fun ws Q=>∃(ps:List (List Rat))(t:GE),ws=[.d (ptsQ ps),.d (teD t)]/\((ps.length*dimP ps<=18)/\(∃F:Fin 3,GA F.val ps/\t∈msL F.val ps))/\Q (.bool true)
theorem bo.mono:∀ws (Q Q':HH->Prop),(∀d,Q d->Q' d)->bo ws Q->bo ws Q':=fun _ _ _ h_=>H0 fun _=>H0 fun _=>HP (HP (h_ _))
theorem bo.len:∀ws (Q:HH->Prop),bo ws Q->ws.length=2:=fun _ _ h_=>by obtain⟨_,_,e_,_⟩:=h_;subst e_;rfl
theorem bo.eq(ps:List (List Rat))(t:GE)(h18:ps.length*dimP ps<=18)(hz:∃F:Fin 3,GA F.val ps/\t∈msL F.val ps):bo [.d (ptsQ ps),.d (teD t)]=VL.ret (.bool true:HH):=by
 refine ai fun Q=>⟨?_,fun q_=>⟨ps,t,rfl,⟨h18,hz⟩,q_⟩⟩
 rintro⟨ps',t',e_,_,q_⟩
 simp_arith only[cL,bG,bJ,aO,aR,bP,dC,fH,gz,fF,fY,fB,fU,and_assoc]at e_
 obtain⟨rfl,rfl⟩:=e_
 exact q_
theorem fX:FnScope ["_law_pts", "_law_told", "_law_number_here", "_law_way", "_law_box_here", "_law_bottom_here", "_law_found", "_law_least"] ["_law_pts", "_law_told"] (defScope (EG 52)):=⟨rfl,rfl,rfl,by decide +kernel,rfl,by decide +kernel,by decide +kernel⟩
theorem d__law_near_it(Fn:FnIn K mg "_law_near_it" (EG 52) ["_law_pts", "_law_told"])(Z:Bz mg)(d__law_bottom:∀rl,Dfn P w K mg base rl "_law_bottom" ["_law_pts", "_law_box_here"] 1 bw)(d__law_box_miss:∀rl,Dfn P w K mg base rl "_law_box_miss" ["_law_points_told", "_law_box_here", "_law_way"] 3 aG)(d__law_moved:∀rl,Dfn P w K mg base rl "_law_moved" ["_law_box_here", "_law_way", "_law_bottom_here"] 2 bj)(d__law_cmp:∀rl,Dfn P w K mg base rl "_law_cmp" ["_law_one", "_law_other"] 1 aC)   : Dfn P w K mg base rl "_law_near_it" ["_law_pts", "_law_told"] 4 bo:=by
 have sc:=fX
 refine Dfn.of Fn sc (bo.mono) (bo.len) (fun cdv A outer s H E hr=>(ag (jq (vn 1) (fS (n:=3) rfl (aP (aq 2 sc.nd) (aP (aq 3 sc.nd) (aP (aq 4 sc.nd) dF)))))
  (ag (aj 5 sc.nd (al (d__law_bottom _) (hr.mono (by decide)) (aa (vn 0) (aa (vn 4) ac))))
  (ag (aj 6 sc.nd (al (d__law_box_miss _) (hr.mono (by decide)) (aa (vn 0) (aa (al (d__law_moved _) (hr.mono (by decide)) (aa (vn 4) (aa (vn 3) (aa (vn 5) ac)))) (aa ae ac)))))
  (ag (bW (aF dN cu (ay _) (vn 3) aH) (ak (aj 6 sc.nd (bU (aa (v_sub ae (aQ (vn 6) ae)) (aa (aQ (vn 6) ae) ac))))) ba)
  (ag (aj 7 sc.nd (bU (aa (v_sub (v_mul (aQ (vn 2) ae) (vn 5)) (v_mul (cv Z.len_ (aa (vn 4) ac)) (aQ (vn 2) ae))) (aa (v_mul (aQ (vn 2) ae) (vn 5)) ac))))
  (ak (av (eR vO As (ay _) (al (d__law_cmp _) (hr.mono (by decide)) (aa (vn 7) (aa (vn 6) ac))) ae))))))))) ?_
 rintro ws Q ⟨ps,t,rfl,⟨h18,hz⟩,hQ⟩
 refine az ?_
 have sz:=Is
 have q1:decide (HG "over" = HG "over")=true:=by decide +kernel
 have q2:decide (HG "over" = HG "lack")=false:=by decide +kernel
 have q3:decide (HG "lack" = HG "over")=false:=by decide +kernel
 have q4:decide (HG "lack" = HG "lack")=true:=by decide +kernel
 obtain⟨F,hw,mt⟩:=hz
 obtain⟨ss,hlk,h⟩:=vW mt
 have h1:=hw.1.1.1
 have h8:=hw.2.1
 have d4:=hw.1.1.2.2.2.2
 have s4:ss.length<=4:=by rw[hlk.1];exact d4
 have B0:(0:Int)<((botN ps ss:Nat):Int):=by have:=qu ps ss;omega
 rcases Ih.mp h with rfl|h
 · have tt:=sY (Ft ps ss, "over", ss)
   obtain⟨mo,h45,hB,gp⟩:=yY (b:=true) hw h18 hlk
   have nr:=yU (oN hw) (dj B0) hlk fun k hk=>(gp k hk).1
   have pb:=bw.eq ps ss h8 s4 (fun p mp=>⟨by rw[(hw.1.1.2.2.1 p mp).1];exact d4,fun q mq=>((hw.1.1.2.2.1 p mp).2 q mq).1⟩) h45
   have pm:bj [.d (boxD ss),.d (.str (HG "over")),.d (.int (botN ps ss:Nat))]=VL.ret (boxD (ss.map (FE true (qd 1 (botN ps ss:Nat))))):=bj.eq ss true _ s4 B0 (HL hB (HS (by decide) (by decide))) h45
   have px:aG [.d (ptsQ ps),.d (boxD (ss.map (FE true (qd 1 (botN ps ss:Nat))))),.d (.int 0)]=VL.ret (fr (qd (cntN ps (ss.map (FE true (qd 1 (botN ps ss:Nat)))) (Em 0)) ps.length-aW (ss.map (FE true (qd 1 (botN ps ss:Nat)))))):=aG.eq ps _ 0 h1 h8 (by rw[mo.len];exact s4) (fun p mp=>⟨by rw[mo.len,hlk.1];exact(hw.1.1.2.2.1 p mp).1,(hw.1.1.2.2.1 p mp).2⟩) mo.smc
   obtain⟨f1,f2⟩:=kN h1 h8 (by rw[mo.len];exact s4) mo.in1 mo.smc (Em 0)
   have em:ss.map (FE true (qd 1 (botN ps ss:Nat)))=ss.map (FF (qd 1 (botN ps ss:Nat))):=rfl
   have ew:Em 0 = "half" := rfl
   rw[<- em,<- ew]at nr
   generalize qd (cntN ps (ss.map (FE true (qd 1 (botN ps ss:Nat)))) (Em 0)) ps.length-aW (ss.map (FE true (qd 1 (botN ps ss:Nat))))=r at px f1 f2 nr
   have ts:Fm 900 (Ft ps ss):=lF hw _ mt
   obtain⟨l0,lq⟩:=lJ (t:=Ft ps ss) B0 (dimP ps)
   have rd:(0:Int)<(r.den:Int):=by have:=r.den_pos;omega
   have cl:decide (Gr (((Ft ps ss).num*(botN ps ss:Nat)-(ss.length:Int)*((Ft ps ss).den:Int))*(r.den:Int)) ((r.num)*(((Ft ps ss).den:Int)*(botN ps ss:Nat)))<=0)=true:=by
    rw[hlk.1]
    refine zM l0 rd ?_
    rw[lq]
    rw[cN r]
    exact nr
   have bB:HA ((botN ps ss:Nat):Int):=HL hB (HS (by decide) (by decide))
   have c1:aN (Ft ps ss).num ((botN ps ss:Nat):Int):=.bb (ts.mono (by decide)).bn bB
   have c2:aN ((Ft ps ss).den:Int) ((botN ps ss:Nat):Int):=.bb (ts.mono (by decide)).bd bB
   have c3:∀z:Int,aN (ss.length:Int) z:=fun z=>.lt (by omega)
   generalize Ft ps ss=v at *
   have bd2:HA ((v.den:Int)*(botN ps ss:Nat)):=by
    show Int.natAbs _<_
    rw[IR,Ik]
    exact HL (aD ts.2 hB) (HS (by decide) (by decide))
   have bn2:HA (v.num*(botN ps ss:Nat)-(ss.length:Int)*(v.den:Int)):=by
    have h1:(v.num*((botN ps ss:Nat):Int)).natAbs<2^2073:=by rw[IR];exact aD ts.1 hB
    have h2:((ss.length:Int)*(v.den:Int)).natAbs<2^910:=by
     rw[IR,Ik,Ik]
     exact HL (aD (show ss.length<2^10 by omega) ts.2) (HS (by decide) (by decide))
    have h3:2^910<=2^2073:=HS (by decide) (by decide)
    have h4:2^2073+2^2073<=2^60000:=by
     rw[<- Nat.two_mul,Mp,<- N8]
     exact HS (by decide) (by decide)
    generalize v.num*((botN ps ss:Nat):Int)=x at h1 ⊢
    generalize (ss.length:Int)*(v.den:Int)=y at h2 ⊢
    show(x-y).natAbs<_
    have:=Int.natAbs_sub_le x y
    generalize 2^60000=T at h4 ⊢
    generalize 2^2073=U at h1 h3 h4
    generalize 2^910=V at h2 h3
    omega
   have bz:HA (0-r.num):=by show(0-r.num).natAbs<_;rw[Oa,Mw];exact f1
   have pc:aC [.d (Fq (v.num*(botN ps ss:Nat)-(ss.length:Int)*(v.den:Int),(v.den:Int)*(botN ps ss:Nat))),.d (Fq (r.num,(r.den:Int)))]=_:=aC.eq _ _ bn2 bd2 f1 f2
   generalize ((botN ps ss:Nat):Int)=B at *
   simp_arith only[ah,af,HD,tt,q1,q2,q3,q4,pb,pm,px,c3]
   refine(show Gs (aC [.d (Fq (v.num*B-(ss.length:Int)*(v.den:Int),(v.den:Int)*B)),.d (Fq (r.num,(r.den:Int)))]) _ _ from ?_)
   rw[pc]
   simp_arith only[ah,af,cl]
   exact aw hQ
 · have et:=Ij.mp h
   subst et
   have tt:=sY (FX ps ss, "lack", ss)
   obtain⟨mo,h45,hB,gp⟩:=yY (b:=false) hw h18 hlk
   have nr:=yV (oN hw) (dj B0) hlk fun k hk=>(gp k hk).2
   have pb:=bw.eq ps ss h8 s4 (fun p mp=>⟨by rw[(hw.1.1.2.2.1 p mp).1];exact d4,fun q mq=>((hw.1.1.2.2.1 p mp).2 q mq).1⟩) h45
   have pm:bj [.d (boxD ss),.d (.str (HG "lack")),.d (.int (botN ps ss:Nat))]=VL.ret (boxD (ss.map (FE false (qd 1 (botN ps ss:Nat))))):=bj.eq ss false _ s4 B0 (HL hB (HS (by decide) (by decide))) h45
   have px:aG [.d (ptsQ ps),.d (boxD (ss.map (FE false (qd 1 (botN ps ss:Nat))))),.d (.int 0)]=VL.ret (fr (qd (cntN ps (ss.map (FE false (qd 1 (botN ps ss:Nat)))) (Em 0)) ps.length-aW (ss.map (FE false (qd 1 (botN ps ss:Nat)))))):=aG.eq ps _ 0 h1 h8 (by rw[mo.len];exact s4) (fun p mp=>⟨by rw[mo.len,hlk.1];exact(hw.1.1.2.2.1 p mp).1,(hw.1.1.2.2.1 p mp).2⟩) mo.smc
   obtain⟨f1,f2⟩:=kN h1 h8 (by rw[mo.len];exact s4) mo.in1 mo.smc (Em 0)
   have em:ss.map (FE false (qd 1 (botN ps ss:Nat)))=ss.map (FG (qd 1 (botN ps ss:Nat))):=rfl
   have ew:Em 0 = "half" := rfl
   rw[<- em,<- ew]at nr
   generalize qd (cntN ps (ss.map (FE false (qd 1 (botN ps ss:Nat)))) (Em 0)) ps.length-aW (ss.map (FE false (qd 1 (botN ps ss:Nat))))=r at px f1 f2 nr
   have ts:Fm 900 (FX ps ss):=lF hw _ mt
   obtain⟨l0,lq⟩:=lJ (t:=FX ps ss) B0 (dimP ps)
   have rd:(0:Int)<(r.den:Int):=by have:=r.den_pos;omega
   have cl:decide (Gr (((FX ps ss).num*(botN ps ss:Nat)-(ss.length:Int)*((FX ps ss).den:Int))*(r.den:Int)) ((0-r.num)*(((FX ps ss).den:Int)*(botN ps ss:Nat)))<=0)=true:=by
    rw[hlk.1]
    refine zM l0 rd ?_
    rw[lq]
    rw[show qd (0-r.num) (r.den:Int) = -r by have:=cN r;unfold qd at *;rw[K6];grind]
    exact nr
   have bB:HA ((botN ps ss:Nat):Int):=HL hB (HS (by decide) (by decide))
   have c1:aN (FX ps ss).num ((botN ps ss:Nat):Int):=.bb (ts.mono (by decide)).bn bB
   have c2:aN ((FX ps ss).den:Int) ((botN ps ss:Nat):Int):=.bb (ts.mono (by decide)).bd bB
   have c3:∀z:Int,aN (ss.length:Int) z:=fun z=>.lt (by omega)
   generalize FX ps ss=v at *
   have bd2:HA ((v.den:Int)*(botN ps ss:Nat)):=by
    show Int.natAbs _<_
    rw[IR,Ik]
    exact HL (aD ts.2 hB) (HS (by decide) (by decide))
   have bn2:HA (v.num*(botN ps ss:Nat)-(ss.length:Int)*(v.den:Int)):=by
    have h1:(v.num*((botN ps ss:Nat):Int)).natAbs<2^2073:=by rw[IR];exact aD ts.1 hB
    have h2:((ss.length:Int)*(v.den:Int)).natAbs<2^910:=by
     rw[IR,Ik,Ik]
     exact HL (aD (show ss.length<2^10 by omega) ts.2) (HS (by decide) (by decide))
    have h3:2^910<=2^2073:=HS (by decide) (by decide)
    have h4:2^2073+2^2073<=2^60000:=by
     rw[<- Nat.two_mul,Mp,<- N8]
     exact HS (by decide) (by decide)
    generalize v.num*((botN ps ss:Nat):Int)=x at h1 ⊢
    generalize (ss.length:Int)*(v.den:Int)=y at h2 ⊢
    show(x-y).natAbs<_
    have:=Int.natAbs_sub_le x y
    generalize 2^60000=T at h4 ⊢
    generalize 2^2073=U at h1 h3 h4
    generalize 2^910=V at h2 h3
    omega
   have bz:HA (0-r.num):=by show(0-r.num).natAbs<_;rw[Oa,Mw];exact f1
   have pc:aC [.d (Fq (v.num*(botN ps ss:Nat)-(ss.length:Int)*(v.den:Int),(v.den:Int)*(botN ps ss:Nat))),.d (Fq (0-r.num,(r.den:Int)))]=_:=aC.eq _ _ bn2 bd2 bz f2
   generalize ((botN ps ss:Nat):Int)=B at *
   simp_arith only[ah,af,HD,tt,q1,q2,q3,q4,pb,pm,px,c3]
   refine(show Gs (aC [.d (Fq (v.num*B-(ss.length:Int)*(v.den:Int),(v.den:Int)*B)),.d (Fq (0-r.num,(r.den:Int)))]) _ _ from ?_)
   rw[pc]
   simp_arith only[ah,af,cl]
   exact aw hQ
theorem qM{f s:Nat}(h:Wd f s ps):GA f ps:=by
 obtain⟨hd,hN,hm,hg⟩:=lb h
 obtain⟨hf,s1,s4,hn,_,h2,_⟩:=h
 have t:=(sZ ⟨f,hf⟩ ⟨s,by omega⟩ s1 hn ⟨0,by omega⟩ (Ix _)).2.1
 simp only at t
 exact⟨hN,by omega,fun j hj=>(hg j hj).1,fun i hi=>by have:=hm i (by omega);omega⟩
theorem Be{f g:Nat}(h:f<=g){n:Int}(h0:0<=n)(h8:n<=8):FH f n<=FH g n:=by
 have hn:n=0\/n=1\/n=2\/n=3\/n=4\/n=5\/n=6\/n=7\/n=8:=by omega
 have hi:n+1<=inr n/\0<=inr n:=by rcases hn with rfl|rfl|rfl|rfl|rfl|rfl|rfl|rfl|rfl<;>decide
 unfold FH
 by_cases f0:f=0
 · rw[if_pos f0]
   by_cases g0:g=0
   · rw[if_pos g0];exact Op _
   · rw[if_neg g0];split<;>omega
 · rw[if_neg f0,if_neg (show ¬g=0 by omega)]
   by_cases f1:f=1
   · rw[if_pos f1];split<;>omega
   · rw[if_neg f1,if_neg (show ¬g=1 by omega)];exact Op _
theorem y8{f g:Nat}(h:f<=g){ps:List (List Rat)}(hN:∀j,j<dimP ps->(nuQ ps j).length<=8):∀i,i<=dimP ps->0<=FI f ps i/\FI f ps i<=FI g ps i
 | 0,_=>by simp[FI]
 | i+1,hi=>by
   obtain⟨a,b⟩:=y8 h hN i (by omega)
   have h8:=hN i (by omega)
   have m0:=(o4 (f:=f) (n:=((nuQ ps i).length:Nat)) (by omega) (by omega)).1
   have m1:=Be h (n:=((nuQ ps i).length:Nat)) (by omega) (by omega)
   rw[eg,eg]
   exact⟨Nx a m0,Nw b m1 m0 (Mr a b)⟩
theorem GA.less{f g:Nat}(hw:GA g ps)(h:f<=g):GA f ps:=⟨hw.1,hw.2.1,hw.2.2.1,fun i hi=>Mr (y8 h (fun j hj=>(hw.1.2 j hj).1) i hi).2 (hw.2.2.2 i hi)⟩
theorem Bm{s:Sd}{x:Rat}(h:FO s "open" x=true):FO s "half" x=true:=by
 cases s with
 | to t=>exact(bV t x).2.2.mpr ((bV t x).2.1.mp h)
 | «from» a b =>
   obtain⟨h1,h2⟩:=(bH a b x).2.1.mp h
   exact(bH a b x).2.2.mpr ⟨Iq h1,h2⟩
 | round a b =>
   rcases(cp a b x).2.1.mp h with h|h
   · exact(cp a b x).2.2.mpr (.inl (Iq h))
   · exact(cp a b x).2.2.mpr (.inr h)
theorem Bn{s:Sd}{x:Rat}(h:FO s "half" x=true):FO s "shut" x=true:=by
 cases s with
 | to t=>exact(bV t x).1.mpr (Iq ((bV t x).2.2.mp h))
 | «from» a b =>
   obtain⟨h1,h2⟩:=(bH a b x).2.2.mp h
   exact(bH a b x).1.mpr ⟨h1,Iq h2⟩
 | round a b =>
   rcases(cp a b x).2.2.mp h with h|h
   · exact(cp a b x).1.mpr (.inl h)
   · exact(cp a b x).1.mpr (.inr (Iq h))
theorem zO{F:Fin 3}(hw:GA F.val ps)(hs:zU F (dimP ps) ss)(b:Fin 3):(b≠2->qd (cntN ps ss (Em b)) ps.length-aW ss<=(Er F.val ps).1)/\(b≠1 -> -(qd (cntN ps ss (Em b)) ps.length-aW ss)<=(Er F.val ps).1):=by
 have hp:=oN hw
 obtain⟨o,l⟩:=iZ hp (mw hp jn) jn hs
 unfold Ft at o
 unfold FX at l
 have li:∀{w w':Str},(∀(s:Sd)(x:Rat),FO s w x=true->FO s w' x=true)->qd (cntN ps ss w) ps.length<=qd (cntN ps ss w') ps.length:=fun{w w'} h=>rj hp.n1 (k_ fun p mp hq=>by
  have lp:p.length=ss.length:=by rw[hp.len p mp,hs.1]
  exact(c_ lp w').mpr fun k hk=>h _ _ ((c_ lp w).mp hq k hk))
 obtain rfl|rfl|rfl:=pW b
 · have a1:=li (w := "half") (w' := "shut") fun s x h=>Bn h
   have a2:=li (w := "open") (w' := "half") fun s x h=>Bm h
   show(_->qd (cntN ps ss "half") ps.length-aW ss<=_)/\(_ -> -(qd (cntN ps ss "half") ps.length-aW ss)<=_)
   exact⟨fun _=>by grind,fun _=>by grind⟩
 · exact⟨fun _=>o,fun z=>absurd rfl z⟩
 · refine⟨fun z=>absurd rfl z,fun _=>?_⟩
   show -(qd (cntN ps ss "open") ps.length-aW ss)<=_
   grind
noncomputable def Gk(f:Fin 3):Fin 3:=if f=2 then 1 else 0
theorem zD{F:Fin 3}(hw:GA F.val ps):(Er (Gk F).val ps).1<=(Er F.val ps).1/\(Er F.val ps).1<=2^(dimP ps)*(Er (Gk F).val ps).1:=by
 have hp:=oN hw
 have two:∀{f g:Fin 3},(f=1/\g=0)\/(f=2/\g=1)->(Er g.val ps).1<=(Er f.val ps).1/\(Er f.val ps).1<=2^(dimP ps)*(Er g.val ps).1:=fun{f g} h=>by
  constructor
  · obtain⟨ss,h1,h2⟩:=vW (ny g.val ps)
    have k:=sC h hp (jn (F:=f)) h1
    rcases Ih.mp h2 with e|h2
    · rw[e];exact k.1
    · rw[Ij.mp h2];exact k.2
  · obtain⟨ss,h1,h2⟩:=vW (ny f.val ps)
    have k:=uH h hp (jn (F:=g)) h1
    rcases Ih.mp h2 with e|h2
    · rw[e];exact k.1
    · rw[Ij.mp h2];exact k.2
 obtain rfl|rfl|rfl:=pW F
 · refine⟨ID,?_⟩
   have U0:0<=(Er (0:Fin 3).val ps).1:=mw hp jn
   show(Er (0:Fin 3).val ps).1<=2^(dimP ps)*(Er (0:Fin 3).val ps).1
   have p1:∀n:Nat,(1:Rat)<=2^n:=fun n=>by
    induction n with
    | zero=>exact ID
    | succ n ih=>rw[Rat.pow_succ];grind
   have:=IQ (p1 (dimP ps)) U0
   rwa [Lk]at this
 · exact two (.inl ⟨rfl,rfl⟩)
 · exact two (.inr ⟨rfl,rfl⟩)
theorem sL{a b c d:Int}(hb:0<b)(hd:0<d)(h:qd c d<=qd a b):decide (Gr (a*d) (c*b)<0)=false:=by
 have:¬a*d<c*b:=fun z=>Jl.mpr h ((gf hb hd).mp z)
 unfold Gr
 rw[if_neg (show ¬decide (a*d<c*b)=true by simpa using this)]
 simp
 split<;>omega
theorem BC:∀f:Fin 3,(Gk f).val<=f.val:=by decide
theorem Es:∀f:Fin 3,∀s:Fin 5,(mst f.val s.val+2)*s.val<=18:=by decide
theorem BJ{F:Fin 3}(h:Hz F n ss):zU F n ss:=⟨h.1,fun k hk=>by
 obtain⟨o,i,_⟩:=h.2 _ (getD_mem (d:=.to 0) (show k<ss.length by rw[h.1];exact hk))
 exact⟨o,i⟩⟩
theorem x8:FnScope ["_law_script", "_law_feed_here", "_law_k", "_law_family", "_law_pts", "_law_number_here", "_law_j", "_law_box_here", "_law_way", "_law_found", "_law_turned_about", "_law_told", "_law_fewer", "_law_less_it"] ["_law_script"] (defScope (EG 53)):=⟨rfl,rfl,rfl,by decide +kernel,rfl,by decide +kernel,by decide +kernel⟩
theorem rV(Z:Bz mg)(d__law_feed:DfnR P w K mg base "_law_feed" ["_law_script"] 2 zZ)(d__law_world:∀rl,Dfn P w K mg base rl "_law_world" ["_law_feed_here"] 4 bO)(d_unevenness:∀rl,Dfn P w K mg base rl "unevenness" ["points", "family"] 9 bK)(d_worst:∀rl,Dfn P w K mg base rl "worst" ["points", "family"] 8 dr)(d__law_box:∀rl,Dfn P w K mg base rl "_law_box" ["_law_feed_here", "_law_pts", "_law_family"] 3 cf)(d__law_box_miss:∀rl,Dfn P w K mg base rl "_law_box_miss" ["_law_points_told", "_law_box_here", "_law_way"] 3 aG)(d__law_near_it:∀rl,Dfn P w K mg base rl "_law_near_it" ["_law_pts", "_law_told"] 4 bo)(d__law_cmp:∀rl,Dfn P w K mg base rl "_law_cmp" ["_law_one", "_law_other"] 1 aC){f:Addr}(F:Fun K "law" "law" (EG 53) f fd):FnOk P w K mg base Hy 11 f fd ["_law_script"] (hZ K):=by
 have sc:=x8
 refine vS F sc (fun cdv A outer s H E hr=>(uo 1 d__law_feed (hr.mono (by decide)) sc.nd (aa (vn 0) ac) (fun r _=>(ag (b_ [2,3,4,5,6,7,8,9,10,11,12,13] IZ rfl (bI Z.range_ (aa ae ac)) (aq 2 sc.nd) (ag (jq (al (d__law_world _) (hr.mono (by decide)) (aa (vn 1) ac)) (fS (n:=2) rfl (aP (aq 3 sc.nd) (aP (aq 4 sc.nd) dF))))
  (ag (aj 5 sc.nd (al (d_unevenness _) (hr.mono (by decide)) (aa (vn 4) (aa (vn 3) ac))))
  (ag (b_ [6,7,8,9,10] IZ rfl (bI Z.range_ (aa ae ac)) (aq 6 sc.nd) (ag (aj 7 sc.nd (al (d__law_box _) (hr.mono (by decide)) (aa (vn 1) (aa (vn 4) (aa (vn 3) ac)))))
  (ak (b_ [8,9,10] IZ rfl (dU (bU (aa ae (aa ae (aa ae ac))))) (aq 8 sc.nd) (ag (aj 9 sc.nd (al (d__law_box_miss _) (hr.mono (by decide)) (aa (vn 4) (aa (vn 7) (aa (vn 8) ac)))))
  (ag (aj 10 sc.nd (bU (aa (v_sub ae (aQ (vn 9) ae)) (aa (aQ (vn 9) ae) ac))))
  (ag (bW (G8.pb (eY (aF (gt hr.units) bX (ay _) (vn 8) ae) (df (aF gu fR (ay _) (al (d__law_cmp _) (hr.mono (by decide)) (aa (vn 5) (aa (vn 9) ac))) ae)))) (ak (av mV)) ba)
  (ak (bW (G8.pb (eY (aF (gt hr.units) bX (ay _) (vn 8) ae) (df (aF gu fR (ay _) (al (d__law_cmp _) (hr.mono (by decide)) (aa (vn 5) (aa (vn 10) ac))) ae)))) (ak (av mV)) ba)))))))))
  (ag (aj 11 sc.nd (al (d_worst _) (hr.mono (by decide)) (aa (vn 4) (aa (vn 3) ac))))
  (ag (bW (G8.pb (uA (aF vL nD (ay _) (sS (hr.mono (Ix _)) Z.repr_ (aa (aQ (vn 11) ae) ac)) (sS (hr.mono (Ix _)) Z.repr_ (aa (vn 5) ac))) (nG (nH (de (al (d__law_near_it _) (hr.mono (by decide)) (aa (vn 4) (aa (vn 11) ac)))))))) (ak (av mV)) ba)
  (ag (aj 12 sc.nd (kf (hr.mono (Ix _)) (by decide +kernel) aH aH aH (vn 3)))
  (ag (aj 13 sc.nd (al (d_unevenness _) (hr.mono (by decide)) (aa (vn 4) (aa (vn 12) ac))))
  (ag (bW (G8.pb (uA (aF gu fR (ay _) (al (d__law_cmp _) (hr.mono (by decide)) (aa (vn 5) (aa (vn 13) ac))) ae) (nG (aF gu fR (ay _) (al (d__law_cmp _) (hr.mono (by decide)) (aa (bU (aa (xo (aQ (vn 13) ae) (cv Z.len_ (aa (aQ (vn 4) ae) ac))) (aa (aQ (vn 13) ae) ac))) (aa (vn 5) ac))) ae)))) (ak (av mV)) ba)
  (ak (bW (G8.pb (eY (aF dN cu (ay _) (vn 3) aH) (df (aF (cC hr.units) bX (ay _) (cv Z.len_ (aa (aQ (vn 4) ae) ac)) ae)))) (ak (av mV)) ba)))))))))))
  (ak (av mV)))))) ?_
 intro ns hn
 have sz:=Is
 have pf:=zZ.eq hn
 simp_arith only[ah,af,aY,aZ,aA,a_,aB,au,pf]
 refine lU ?_ ?_
 · intro i hi K hK
   simp_arith only[ah,af,aY,aZ,aA,a_,aB,au,bO.eq]
   (with_reducible (first|refine aE fun z hz=>?_|refine aK fun z hz=>?_))
   obtain⟨f,s,ps⟩:=z
   have hz:Wd f s ps:=hz
   have hw:=qM hz
   obtain⟨F,rfl⟩:∃F:Fin 3,F.val=f:=⟨⟨f,hz.1⟩,rfl⟩
   have hd:dimP ps=s:=(lb hz).1
   have h18:ps.length*dimP ps<=18:=by
    rw[hd]
    exact IT (LU _ hz.2.2.2.2.2.1) (Es F ⟨s,by have:=hz.2.2.1;omega⟩)
   have ef:sD F.val=cI F:=rfl
   have hlaw:∀ρ,fo [2,3,4,5,6,7,8,9,10,11,12,13] ρ=[some (.sc ns),some .reel,none,none,none,none,none,none,none,none,none,none,none,none]->K (.nx ρ):=fun ρ e=>hK _ (ck e)
   have hret:K (.rt (.d (.bool true))):=hK _ (zd pG)
   have h1:=hw.1.1.1
   have h8:=hw.2.1
   have d4:=hw.1.1.2.2.2.2
   have hp:∀p∈ps,p.length=dimP ps/\∀q∈p,Gd q:=hw.1.1.2.2.1
   have us:=sP hw
   have eqi:∀i j:Int,IB (.int i) (.int j)=(i==j):=fun i j=>by simp[IB]
   dsimp only
   rw[ef]
   simp_arith only[ah,af,aY,aZ,aA,a_,aB,au,HD,bK.eq]
   refine lU ?_ ?_
   · intro j hj K2 hK2
     simp_arith only[ah,af,aY,aZ,aA,a_,aB,au,HD,cf.eq]
     (with_reducible (first|refine aE fun ss hs=>?_|refine aK fun ss hs=>?_))
     have fb:=BJ hs
     have s4:ss.length<=4:=by rw[hs.1];exact d4
     have hi1:∀s∈ss,s.In1:=fun s ms=>(hs.2 s ms).2.1
     have hsm:∀s∈ss,GQ s/\Fm 1300 (szQ s):=fun s ms=>by
      obtain⟨_,i,a,b⟩:=hs.2 s ms
      exact⟨⟨a.mono (by decide),b.mono (by decide)⟩,(mI i a b).mono (by decide)⟩
     have hpp:∀p∈ps,p.length=ss.length/\∀q∈p,Gd q:=fun p mp=>⟨by rw[hs.1];exact(hp p mp).1,(hp p mp).2⟩
     simp_arith only[ah,af,aY,aZ,aA,a_,aB,au,HD]
     refine BH (wA (xs:=([0,1,2]:List (Fin 3))) (enc:=fun b=>Iw (Ep b)) rfl ?_ ?_)
     · intro b _ K3 hK3
       obtain⟨b1,b2⟩:=zO hw fb b
       obtain⟨f1,f2⟩:=kN h1 h8 s4 hi1 hsm (Em b)
       have px:=aG.eq ps ss b h1 h8 s4 hpp hsm
       generalize qd (cntN ps ss (Em b)) ps.length-aW ss=r at b1 b2 f1 f2 px
       have rd:(0:Int)<(r.den:Int):=by have:=r.den_pos;omega
       have ud:(0:Int)<((Er F.val ps).1.den:Int):=by have:=(Er F.val ps).1.den_pos;omega
       have u1:HA (Er F.val ps).1.num:=(us.mono (by decide)).bn
       have u2:HA ((Er F.val ps).1.den:Int):=(us.mono (by decide)).bd
       have bz:HA (0-r.num):=by show(0-r.num).natAbs<_;rw[Oa,Mw];exact f1
       have e1:qd r.num (r.den:Int)=r:=cN r
       have e2:qd (0-r.num) (r.den:Int) = -r:=by have:=cN r;unfold qd at *;rw[K6];grind
       have e3:qd (Er F.val ps).1.num ((Er F.val ps).1.den:Int)=(Er F.val ps).1:=cN _
       have c1:b≠2->decide (Gr ((Er F.val ps).1.num*(r.den:Int)) (r.num*((Er F.val ps).1.den:Int))<0)=false:=fun z=>sL ud rd (by rw[e1,e3];exact b1 z)
       have c2:b≠1->decide (Gr ((Er F.val ps).1.num*(r.den:Int)) ((0-r.num)*((Er F.val ps).1.den:Int))<0)=false:=fun z=>sL ud rd (by rw[e2,e3];exact b2 z)
       have p1:aC [.d (fr (Er F.val ps).1),.d (fr r)]=VL.ret (Iw (Gr ((Er F.val ps).1.num*(r.den:Int)) (r.num*((Er F.val ps).1.den:Int)))):=aC.eq ((Er F.val ps).1.num,((Er F.val ps).1.den:Int)) (r.num,(r.den:Int)) u1 u2 f1 f2
       have p2:aC [.d (fr (Er F.val ps).1),.d (.tuple [.int (0-r.num),.int (r.den:Int)])]=VL.ret (Iw (Gr ((Er F.val ps).1.num*(r.den:Int)) ((0-r.num)*((Er F.val ps).1.den:Int)))):=aC.eq ((Er F.val ps).1.num,((Er F.val ps).1.den:Int)) (0-r.num,(r.den:Int)) u1 u2 bz f2
       generalize Gr ((Er F.val ps).1.num*(r.den:Int)) (r.num*((Er F.val ps).1.den:Int))=x1 at c1 p1
       generalize Gr ((Er F.val ps).1.num*(r.den:Int)) ((0-r.num)*((Er F.val ps).1.den:Int))=x2 at c2 p2
       have y0:Ep 0=0:=rfl
       have y1:Ep 1=1:=rfl
       have y2:Ep 2=2:=rfl
       obtain rfl|rfl|rfl:=pW b
       · have c1:=c1 (by decide)
         have c2:=c2 (by decide)
         rw[y0]at px ⊢
         simp_arith only[ah,af,aY,aZ,aA,a_,aB,au,HD,px,p1,p2,c1,c2,eqi]
         exact hK3 _ (ck rfl)
       · have c1:=c1 (by decide)
         rw[y1]at px ⊢
         simp_arith only[ah,af,aY,aZ,aA,a_,aB,au,HD,px,p1,p2,c1,eqi]
         exact hK3 _ (ck rfl)
       · have c2:=c2 (by decide)
         rw[y2]at px ⊢
         simp_arith only[ah,af,aY,aZ,aA,a_,aB,au,HD,px,p1,p2,c2,eqi]
         exact hK3 _ (ck rfl)
     · exact hK2 _ (ck rfl)
   · have nt:=bo.eq ps (Er F.val ps) h18 ⟨F,hw,ny _ _⟩
     have i1:itemAt (teD (Er F.val ps)) 0=some (fr (Er F.val ps).1):=rfl
     have sg:GS (fr (Er F.val ps).1):=(BD us (by decide)).shw (by decide) (by decide)
     have hG:GA (Gk F).val ps:=hw.less (show(Gk F).val<=F.val from BC F)
     have vs:=sP hG
     obtain⟨g1,g2⟩:=zD hw
     obtain⟨p0,pr,ep⟩:=LP (show 0<ps.length by omega)
     have et0:itemAt (ptsQ ps) 0=some (Fp p0):=by rw[ep];show atI ((p0::pr).map Fp) ((0:Nat):Int)=_;exact dQ rfl
     have ed:qE (Fp p0)=some (dimP ps):=by rw[ep];show some (p0.map fr).length=_;rw[HW];rfl
     have pu:=bK.eq ps (Gk F) hG
     have pw:=dr.eq ps F hw
     generalize (Er (Gk F).val ps).1=v at vs g1 g2 pu
     generalize Er F.val ps=tw at us nt i1 sg g1 g2 pw ⊢
     have ud:(0:Int)<(tw.1.den:Int):=by have:=tw.1.den_pos;omega
     have vd:(0:Int)<(v.den:Int):=by have:=v.den_pos;omega
     have u1:HA tw.1.num:=(us.mono (by decide)).bn
     have u2:HA (tw.1.den:Int):=(us.mono (by decide)).bd
     have v1:HA v.num:=(vs.mono (by decide)).bn
     have v2:HA (v.den:Int):=(vs.mono (by decide)).bd
     have csh:BQ v.num ((dimP ps:Nat):Int):=⟨by omega,by omega,v1⟩
     have v3:HA (v.num*2^((dimP ps:Nat):Int).toNat):=by
      rw[Jo]
      show Int.natAbs _<_
      rw[IR,Int.natAbs_pow]
      have h2:(2:Int).natAbs^dimP ps<2^10:=by
       show 2^dimP ps<2^10
       exact LS (by decide) (by omega)
      exact HL (aD vs.1 h2) (HS (by decide) (by decide))
     have ev:qd v.num (v.den:Int)=v:=cN v
     have eu:qd tw.1.num (tw.1.den:Int)=tw.1:=cN _
     have e2:qd (v.num*2^((dimP ps:Nat):Int).toNat) (v.den:Int)=2^(dimP ps)*v:=by
      rw[Jo]
      refine ge vd ?_
      rw[IN,im v]
      have:((2^dimP ps:Int):Rat)=2^(dimP ps):=by push_cast;rfl
      rw[this]
      grind
     have c3:decide (Gr (tw.1.num*(v.den:Int)) (v.num*(tw.1.den:Int))<0)=false:=sL ud vd (by rw[ev,eu];exact g1)
     have c4:decide (Gr (v.num*2^((dimP ps:Nat):Int).toNat*(tw.1.den:Int)) (tw.1.num*(v.den:Int))<0)=false:=sL vd ud (by rw[e2,eu];exact g2)
     have p3:aC [.d (fr tw.1),.d (fr v)]=VL.ret (Iw (Gr (tw.1.num*(v.den:Int)) (v.num*(tw.1.den:Int)))):=aC.eq (tw.1.num,(tw.1.den:Int)) (v.num,(v.den:Int)) u1 u2 v1 v2
     have p4:aC [.d (.tuple [.int (v.num*2^((dimP ps:Nat):Int).toNat),.int (v.den:Int)]),.d (fr tw.1)]=VL.ret (Iw (Gr (v.num*2^((dimP ps:Nat):Int).toNat*(tw.1.den:Int)) (tw.1.num*(v.den:Int)))):=aC.eq (v.num*2^((dimP ps:Nat):Int).toNat,(v.den:Int)) (tw.1.num,(tw.1.den:Int)) v3 v2 u1 u2
     generalize Gr (tw.1.num*(v.den:Int)) (v.num*(tw.1.den:Int))=x3 at c3 p3
     generalize Gr (v.num*2^((dimP ps:Nat):Int).toNat*(tw.1.den:Int)) (tw.1.num*(v.den:Int))=x4 at c4 p4
     rw[Jo]at p4
     have b1:(HG "inner" == HG "corner")=false:=by decide +kernel
     have b2:(HG "round" == HG "corner")=false:=by decide +kernel
     have b3:(HG "round" == HG "inner")=false:=by decide +kernel
     have lk0:∀a b c:HH,JB (HG "corner") [(HG "corner", a),(HG "inner", b),(HG "round", c)]=some a:=fun a b c=>by simp[JB]
     have lk1:∀a b c:HH,JB (HG "inner") [(HG "corner", a),(HG "inner", b),(HG "round", c)]=some b:=fun a b c=>by simp[JB,b1]
     have lk2:∀a b c:HH,JB (HG "round") [(HG "corner", a),(HG "inner", b),(HG "round", c)]=some c:=fun a b c=>by simp[JB,b2,b3]
     have q1:decide (HG "corner" = HG "inner")=false:=by decide +kernel
     have q2:decide (HG "inner" = HG "inner")=true:=by decide +kernel
     have q3:decide (HG "round" = HG "inner")=false:=by decide +kernel
     have f0:cI 0=HG "corner" := rfl
     have f1:cI 1=HG "inner" := rfl
     have f2:cI 2=HG "round" := rfl
     obtain rfl|rfl|rfl:=pW F
     · have fe:cI (Gk 0)=HG "corner" := rfl
       rw[fe]at pu
       rw[f0]at pw ⊢
       simp_arith only[ah,af,aY,aZ,aA,a_,aB,au,HD,eB,lk0,lk1,lk2,q1,q2,q3,pw,pu,nt,i1,et0,ed,csh,p3,p4,c3,c4,eqi,Jo]
       exact hlaw _ rfl
     · have fe:cI (Gk 1)=HG "corner" := rfl
       rw[fe]at pu
       rw[f1]at pw ⊢
       simp_arith only[ah,af,aY,aZ,aA,a_,aB,au,HD,eB,lk0,lk1,lk2,q1,q2,q3,pw,pu,nt,i1,et0,ed,csh,p3,p4,c3,c4,eqi,Jo]
       split
       · exact hret
       · exact hlaw _ rfl
     · have fe:cI (Gk 2)=HG "inner" := rfl
       rw[fe]at pu
       rw[f2]at pw ⊢
       simp_arith only[ah,af,aY,aZ,aA,a_,aB,au,HD,eB,lk0,lk1,lk2,q1,q2,q3,pw,pu,nt,i1,et0,ed,csh,p3,p4,c3,c4,eqi,Jo]
       exact hlaw _ rfl
 · simp_arith only[ah,af]
   exact pG
structure Txt (K:KE) (mg:Str->Option HQ):Prop where
 bz:Bz mg
 f__law_feed:FnIn K mg "_law_feed" (EG 38) ["_law_script"]
 f__law_draw:FnIn K mg "_law_draw" (EG 39) ["_law_feed_here", "_law_many"]
 f__law_frac:FnIn K mg "_law_frac" (EG 40) ["_law_top", "_law_bottom_here"]
 f__law_cmp:FnIn K mg "_law_cmp" (EG 41) ["_law_one", "_law_other"]
 f__law_number:FnIn K mg "_law_number" (EG 42) ["_law_feed_here", "_law_seen", "_law_is_first"]
 f__law_points:FnIn K mg "_law_points" (EG 43) ["_law_feed_here", "_law_s", "_law_most"]
 f__law_world:FnIn K mg "_law_world" (EG 44) ["_law_feed_here"]
 f_common_divisor:FnIn K mg "common_divisor" (EG 7) ["one", "other"]
 f_fraction:FnIn K mg "fraction" (EG 8) ["top", "bottom"]
 f_plus:FnIn K mg "plus" (EG 9) ["one", "other"]
 f_less:FnIn K mg "less" (EG 10) ["one", "other"]
 f_times:FnIn K mg "times" (EG 11) ["one", "other"]
 f_is_below:FnIn K mg "is_below" (EG 12) ["one", "other"]
 f_lesser:FnIn K mg "lesser" (EG 13) ["one", "other"]
 f_greater:FnIn K mg "greater" (EG 14) ["one", "other"]
 f_in_size:FnIn K mg "in_size" (EG 15) ["some"]
 f_sides_of:FnIn K mg "sides_of" (EG 21) ["points"]
 f_numbers_at:FnIn K mg "numbers_at" (EG 22) ["points", "side"]
 f_side_looks:FnIn K mg "side_looks" (EG 26) ["numbers", "family"]
 f_many_side_looks:FnIn K mg "many_side_looks" (EG 27) ["many", "family"]
 f_many_looks:FnIn K mg "many_looks" (EG 28) ["points", "family"]
 f_looks_by_side:FnIn K mg "looks_by_side" (EG 29) ["points", "family"]
 f_side_size:FnIn K mg "side_size" (EG 17) ["side"]
 f_goes_ahead:FnIn K mg "goes_ahead" (EG 18) ["one", "other", "may_meet"]
 f_lies:FnIn K mg "lies" (EG 19) ["x", "side", "way"]
 f_marked:FnIn K mg "marked" (EG 30) ["numbers", "look"]
 f_widened:FnIn K mg "widened" (EG 31) ["row", "mark"]
 f_counted_looks:FnIn K mg "counted_looks" (EG 32) ["points", "family"]
 f_misses:FnIn K mg "misses" (EG 33) ["points", "family"]
 f_first_greatest:FnIn K mg "first_greatest" (EG 34) ["rows"]
 f_worst:FnIn K mg "worst" (EG 35) ["points", "family"]
 f_unevenness:FnIn K mg "unevenness" (EG 36) ["points", "family"]
 f__law_side_size:FnIn K mg "_law_side_size" (EG 46) ["_law_side"]
 f__law_lies:FnIn K mg "_law_lies" (EG 45) ["_law_x", "_law_side", "_law_way"]
 f__law_box_miss:FnIn K mg "_law_box_miss" (EG 47) ["_law_points_told", "_law_box_here", "_law_way"]
 f__law_end:FnIn K mg "_law_end" (EG 48) ["_law_feed_here", "_law_pts", "_law_k"]
 f__law_box:FnIn K mg "_law_box" (EG 49) ["_law_feed_here", "_law_pts", "_law_family"]
 f__law_bottom:FnIn K mg "_law_bottom" (EG 50) ["_law_pts", "_law_box_here"]
 f__law_moved:FnIn K mg "_law_moved" (EG 51) ["_law_box_here", "_law_way", "_law_bottom_here"]
 f__law_near_it:FnIn K mg "_law_near_it" (EG 52) ["_law_pts", "_law_told"]
 g_ONE:GlD K mg "ONE" (pr 1 1)
 g_ZERO:GlD K mg "ZERO" (pr 0 1)
 g_BELOW_ALL:GlD K mg "BELOW_ALL" (.tuple [.int (-1),.int 1])
 g_MOST_LOOKS:GlD K mg "MOST_LOOKS" (.int 3000)
theorem yT{f:Addr}(F:Fun K "law" "law" (EG 53) f fd)(T:Txt K mg)  : FnOk P w K mg base Hy 11 f fd ["_law_script"] (hZ K):=by
 have d__law_feed:DfnR P w K mg base "_law_feed" ["_law_script"] 2 zZ:=K24.d__law_feed T.f__law_feed T.bz   
 have d__law_draw:∀rl,Dfn P w K mg base rl "_law_draw" ["_law_feed_here", "_law_many"] 1 aU:=fun rl=>K24.d__law_draw T.f__law_draw T.bz   
 have d__law_frac:∀rl,Dfn P w K mg base rl "_law_frac" ["_law_top", "_law_bottom_here"] 1 bf:=fun rl=>K24.d__law_frac T.f__law_frac T.bz   
 have d__law_cmp:∀rl,Dfn P w K mg base rl "_law_cmp" ["_law_one", "_law_other"] 1 aC:=fun rl=>K24.d__law_cmp T.f__law_cmp T.bz   
 have d__law_number:∀rl,Dfn P w K mg base rl "_law_number" ["_law_feed_here", "_law_seen", "_law_is_first"] 2 bv:=fun rl=>K24.d__law_number T.f__law_number T.bz d__law_draw d__law_frac  
 have d__law_points:∀rl,Dfn P w K mg base rl "_law_points" ["_law_feed_here", "_law_s", "_law_most"] 3 bu:=fun rl=>K24.d__law_points T.f__law_points T.bz d__law_draw d__law_number  
 have d__law_world:∀rl,Dfn P w K mg base rl "_law_world" ["_law_feed_here"] 4 bO:=fun rl=>K24.d__law_world T.f__law_world T.bz d__law_draw d__law_points  
 have d_common_divisor:∀rl,Dfn P w K mg base rl "common_divisor" ["one", "other"] 1 aS:=fun rl=>K24.d_common_divisor T.f_common_divisor T.bz   
 have d_fraction:∀rl,Dfn P w K mg base rl "fraction" ["top", "bottom"] 2 bC:=fun rl=>K24.d_fraction T.f_fraction T.bz d_common_divisor  
 have d_plus:∀rl,Dfn P w K mg base rl "plus" ["one", "other"] 3 gq:=fun rl=>K24.d_plus T.f_plus T.bz d_fraction  
 have d_less:∀rl,Dfn P w K mg base rl "less" ["one", "other"] 3 fg:=fun rl=>K24.d_less T.f_less T.bz d_fraction  
 have d_times:∀rl,Dfn P w K mg base rl "times" ["one", "other"] 3 dM:=fun rl=>K24.d_times T.f_times T.bz d_fraction  
 have d_is_below:∀rl,Dfn P w K mg base rl "is_below" ["one", "other"] 1 bq:=fun rl=>K24.d_is_below T.f_is_below T.bz   
 have d_lesser:∀rl,Dfn P w K mg base rl "lesser" ["one", "other"] 2 cR:=fun rl=>K24.d_lesser T.f_lesser T.bz d_is_below  
 have d_greater:∀rl,Dfn P w K mg base rl "greater" ["one", "other"] 2 cz:=fun rl=>K24.d_greater T.f_greater T.bz d_is_below  
 have d_in_size:∀rl,Dfn P w K mg base rl "in_size" ["some"] 1 cj:=fun rl=>K24.d_in_size T.f_in_size T.bz   
 have d_sides_of:∀rl,Dfn P w K mg base rl "sides_of" ["points"] 1 b8:=fun rl=>K24.d_sides_of T.f_sides_of T.bz   
 have d_numbers_at:∀rl,Dfn P w K mg base rl "numbers_at" ["points", "side"] 2 br:=fun rl=>K24.d_numbers_at T.f_numbers_at T.bz d_in_size  
 have d_side_looks:∀rl,Dfn P w K mg base rl "side_looks" ["numbers", "family"] 2 bL:=fun rl=>K24.d_side_looks T.f_side_looks T.bz d_is_below T.g_ONE T.g_BELOW_ALL 
 have d_many_side_looks:∀rl,Dfn P w K mg base rl "many_side_looks" ["many", "family"] 1 aM:=fun rl=>K24.d_many_side_looks T.f_many_side_looks T.bz   
 have d_many_looks:∀rl,Dfn P w K mg base rl "many_looks" ["points", "family"] 3 bM:=fun rl=>K24.d_many_looks T.f_many_looks T.bz d_sides_of d_many_side_looks d_numbers_at  
 have d_looks_by_side:∀rl,Dfn P w K mg base rl "looks_by_side" ["points", "family"] 4 bc:=fun rl=>K24.d_looks_by_side T.f_looks_by_side T.bz d_many_looks d_side_looks d_numbers_at d_sides_of T.g_MOST_LOOKS 
 have d_side_size:∀rl,Dfn P w K mg base rl "side_size" ["side"] 4 bY:=fun rl=>K24.d_side_size T.f_side_size T.bz d_greater d_less d_lesser d_plus T.g_ZERO T.g_ONE 
 have d_goes_ahead:∀rl,Dfn P w K mg base rl "goes_ahead" ["one", "other", "may_meet"] 2 bN:=fun rl=>K24.d_goes_ahead T.f_goes_ahead T.bz d_is_below  
 have d_lies:∀rl,Dfn P w K mg base rl "lies" ["x", "side", "way"] 3 gr:=fun rl=>K24.d_lies T.f_lies T.bz d_goes_ahead  
 have d_marked:∀rl,Dfn P w K mg base rl "marked" ["numbers", "look"] 5 cQ:=fun rl=>K24.d_marked T.f_marked T.bz d_lies d_side_size  
 have d_widened:∀rl,Dfn P w K mg base rl "widened" ["row", "mark"] 4 cy:=fun rl=>K24.d_widened T.f_widened T.bz d_times  
 have d_counted_looks:∀rl,Dfn P w K mg base rl "counted_looks" ["points", "family"] 6 be:=fun rl=>K24.d_counted_looks T.f_counted_looks T.bz d_looks_by_side d_marked d_widened T.g_ONE 
 have d_misses:∀rl,Dfn P w K mg base rl "misses" ["points", "family"] 7 cP:=fun rl=>K24.d_misses T.f_misses T.bz d_counted_looks d_less d_fraction  
 have d_first_greatest:∀rl,Dfn P w K mg base rl "first_greatest" ["rows"] 2 aJ:=fun rl=>K24.d_first_greatest T.f_first_greatest T.bz d_is_below  
 have d_worst:∀rl,Dfn P w K mg base rl "worst" ["points", "family"] 8 dr:=fun rl=>K24.d_worst T.f_worst T.bz d_first_greatest d_misses  
 have d_unevenness:∀rl,Dfn P w K mg base rl "unevenness" ["points", "family"] 9 bK:=fun rl=>K24.d_unevenness T.f_unevenness T.bz d_worst  
 have d__law_side_size:∀rl,Dfn P w K mg base rl "_law_side_size" ["_law_side"] 2 aT:=fun rl=>K24.d__law_side_size T.f__law_side_size T.bz d__law_frac  
 have d__law_lies:∀rl,Dfn P w K mg base rl "_law_lies" ["_law_x", "_law_side", "_law_way"] 2 bZ:=fun rl=>K24.d__law_lies T.f__law_lies T.bz d__law_cmp  
 have d__law_box_miss:∀rl,Dfn P w K mg base rl "_law_box_miss" ["_law_points_told", "_law_box_here", "_law_way"] 3 aG:=fun rl=>K24.d__law_box_miss T.f__law_box_miss T.bz d__law_frac d__law_side_size d__law_lies  
 have d__law_end:∀rl,Dfn P w K mg base rl "_law_end" ["_law_feed_here", "_law_pts", "_law_k"] 2 ce:=fun rl=>K24.d__law_end T.f__law_end T.bz d__law_frac d__law_draw  
 have d__law_box:∀rl,Dfn P w K mg base rl "_law_box" ["_law_feed_here", "_law_pts", "_law_family"] 3 cf:=fun rl=>K24.d__law_box T.f__law_box T.bz d__law_end d__law_draw  
 have d__law_bottom:∀rl,Dfn P w K mg base rl "_law_bottom" ["_law_pts", "_law_box_here"] 1 bw:=fun rl=>K24.d__law_bottom T.f__law_bottom T.bz   
 have d__law_moved:∀rl,Dfn P w K mg base rl "_law_moved" ["_law_box_here", "_law_way", "_law_bottom_here"] 2 bj:=fun rl=>K24.d__law_moved T.f__law_moved T.bz d__law_frac  
 have d__law_near_it:∀rl,Dfn P w K mg base rl "_law_near_it" ["_law_pts", "_law_told"] 4 bo:=fun rl=>K24.d__law_near_it T.f__law_near_it T.bz d__law_bottom d__law_box_miss d__law_moved d__law_cmp  
 exact rV T.bz d__law_feed d__law_world d_unevenness d_worst d__law_box d__law_box_miss d__law_near_it d__law_cmp   F
end
theorem Ds(hl:us.length=0):us=[]:=LR hl
theorem sX(hl:us.length=1):∃a0,us=[a0]:=by
 cases us with
 | nil=>cases hl
 | cons a0 t=>cases Ds (Ob hl);exact⟨a0,rfl⟩
theorem fA(hl:us.length=2):∃a0 a1,us=[a0,a1]:=by
 cases us with
 | nil=>cases hl
 | cons a0 t=>obtain⟨a1,rfl⟩:=sX (Ob hl);exact⟨a0,a1,rfl⟩
theorem qT(hl:us.length=3):∃a0 a1 a2,us=[a0,a1,a2]:=by
 cases us with
 | nil=>cases hl
 | cons a0 t=>obtain⟨a1,a2,rfl⟩:=fA (Ob hl);exact⟨a0,a1,a2,rfl⟩
theorem aI{K:KE}(X:K.In h)(G:h.Ns Jf mg){st:Stmt}{ps:List Str}{f:Addr}{oc kV dc pm cd ct:HQ}{od an:Option Addr}{sl:Array (Option HQ)}(a:Oc K Jf x=some (some (.ref f)))(l:K.lookup f=some ⟨oc,od,.func (Od x x (defArgs st) (defBody st) (defScope st) .none kV dc pm an cd ct),sl⟩)(c:Ie K cd x=true)(k:Ig K (.ref f)=true)(hb:∀(kV doc pm:HQ)(an:Option Addr)(cdv ct:HQ)(us:List HQ),us.length=ps.length->bindArgs (Od x x (defArgs st) (defBody st) (defScope st) .none kV doc pm an cdv ct) ⟨us,[]⟩=pure (ps.zip us)):FnIn K mg x st ps:=⟨⟨f,_,PySem.W.mg_of X G a,pS l c k,(pS l c k).binds hb⟩⟩
abbrev NI(K:KE)(x:Str)(f:Addr):Prop:=Oc K Jf x=some (some (.ref f))
abbrev NZ(K:KE)(x:Str):Prop:=Oc K Jf x=some none
abbrev LK(K:KE)(x:Str)(st:Stmt)(f:Addr)(oc:HQ)(od:Option Addr)(kV dc pm:HQ)(an:Option Addr)(cd ct:HQ)(sl:Array (Option HQ)):Prop:=K.lookup f=some ⟨oc,od,.func (Od x x (defArgs st) (defBody st) (defScope st) .none kV dc pm an cd ct),sl⟩
theorem all_mk{l:Nk}{K:KE}{fa:Addr}(X:K.In h)(G:h.Ns Jf mg)(hfa:mg "law" = some (.ref fa))
 {f1 f2 f3 f4 f5 f6 f7 f8 f9 f10 f11 f12 f13 f14 f15 f16 f17 f18 f19 f20 f21 f22 f23 f24 f25 f26 f27 f28 f29 f30 f31 f32 f33 f34 f35 f36 f37 f38 f39 f40 f41:Addr}{od1 an1 od2 an2 od3 an3 od4 an4 od5 an5 od6 an6 od7 an7 od8 an8 od9 an9 od10 an10 od11 an11 od12 an12 od13 an13 od14 an14 od15 an15 od16 an16 od17 an17 od18 an18 od19 an19 od20 an20 od21 an21 od22 an22 od23 an23 od24 an24 od25 an25 od26 an26 od27 an27 od28 an28 od29 an29 od30 an30 od31 an31 od32 an32 od33 an33 od34 an34 od35 an35 od36 an36 od37 an37 od38 an38 od39 an39 od40 an40 od41 an41:Option Addr}{sl1 sl2 sl3 sl4 sl5 sl6 sl7 sl8 sl9 sl10 sl11 sl12 sl13 sl14 sl15 sl16 sl17 sl18 sl19 sl20 sl21 sl22 sl23 sl24 sl25 sl26 sl27 sl28 sl29 sl30 sl31 sl32 sl33 sl34 sl35 sl36 sl37 sl38 sl39 sl40 sl41:Array (Option HQ)}{oc1 kV1 dc1 pm1 cd1 ct1 oc2 kV2 dc2 pm2 cd2 ct2 oc3 kV3 dc3 pm3 cd3 ct3 oc4 kV4 dc4 pm4 cd4 ct4 oc5 kV5 dc5 pm5 cd5 ct5 oc6 kV6 dc6 pm6 cd6 ct6 oc7 kV7 dc7 pm7 cd7 ct7 oc8 kV8 dc8 pm8 cd8 ct8 oc9 kV9 dc9 pm9 cd9 ct9 oc10 kV10 dc10 pm10 cd10 ct10 oc11 kV11 dc11 pm11 cd11 ct11 oc12 kV12 dc12 pm12 cd12 ct12 oc13 kV13 dc13 pm13 cd13 ct13 oc14 kV14 dc14 pm14 cd14 ct14 oc15 kV15 dc15 pm15 cd15 ct15 oc16 kV16 dc16 pm16 cd16 ct16 oc17 kV17 dc17 pm17 cd17 ct17 oc18 kV18 dc18 pm18 cd18 ct18 oc19 kV19 dc19 pm19 cd19 ct19 oc20 kV20 dc20 pm20 cd20 ct20 oc21 kV21 dc21 pm21 cd21 ct21 oc22 kV22 dc22 pm22 cd22 ct22 oc23 kV23 dc23 pm23 cd23 ct23 oc24 kV24 dc24 pm24 cd24 ct24 oc25 kV25 dc25 pm25 cd25 ct25 oc26 kV26 dc26 pm26 cd26 ct26 oc27 kV27 dc27 pm27 cd27 ct27 oc28 kV28 dc28 pm28 cd28 ct28 oc29 kV29 dc29 pm29 cd29 ct29 oc30 kV30 dc30 pm30 cd30 ct30 oc31 kV31 dc31 pm31 cd31 ct31 oc32 kV32 dc32 pm32 cd32 ct32 oc33 kV33 dc33 pm33 cd33 ct33 oc34 kV34 dc34 pm34 cd34 ct34 oc35 kV35 dc35 pm35 cd35 ct35 oc36 kV36 dc36 pm36 cd36 ct36 oc37 kV37 dc37 pm37 cd37 ct37 oc38 kV38 dc38 pm38 cd38 ct38 oc39 kV39 dc39 pm39 cd39 ct39 oc40 kV40 dc40 pm40 cd40 ct40 oc41 kV41 dc41 pm41 cd41 ct41:HQ}
 (a1:NI K "_law_feed" f1)(l1:LK K "_law_feed" (EG 38) f1 oc1 od1 kV1 dc1 pm1 an1 cd1 ct1 sl1)(c1:Ie K cd1 "_law_feed" = true)(k1:Ig K (.ref f1)=true)(a2:NI K "_law_draw" f2)(l2:LK K "_law_draw" (EG 39) f2 oc2 od2 kV2 dc2 pm2 an2 cd2 ct2 sl2)(c2:Ie K cd2 "_law_draw" = true)(k2:Ig K (.ref f2)=true)(a3:NI K "_law_frac" f3)(l3:LK K "_law_frac" (EG 40) f3 oc3 od3 kV3 dc3 pm3 an3 cd3 ct3 sl3)(c3:Ie K cd3 "_law_frac" = true)(k3:Ig K (.ref f3)=true)(a4:NI K "_law_cmp" f4)(l4:LK K "_law_cmp" (EG 41) f4 oc4 od4 kV4 dc4 pm4 an4 cd4 ct4 sl4)(c4:Ie K cd4 "_law_cmp" = true)(k4:Ig K (.ref f4)=true)(a5:NI K "_law_number" f5)(l5:LK K "_law_number" (EG 42) f5 oc5 od5 kV5 dc5 pm5 an5 cd5 ct5 sl5)(c5:Ie K cd5 "_law_number" = true)(k5:Ig K (.ref f5)=true)(a6:NI K "_law_points" f6)(l6:LK K "_law_points" (EG 43) f6 oc6 od6 kV6 dc6 pm6 an6 cd6 ct6 sl6)(c6:Ie K cd6 "_law_points" = true)(k6:Ig K (.ref f6)=true)(a7:NI K "_law_world" f7)(l7:LK K "_law_world" (EG 44) f7 oc7 od7 kV7 dc7 pm7 an7 cd7 ct7 sl7)(c7:Ie K cd7 "_law_world" = true)(k7:Ig K (.ref f7)=true)(a8:NI K "common_divisor" f8)(l8:LK K "common_divisor" (EG 7) f8 oc8 od8 kV8 dc8 pm8 an8 cd8 ct8 sl8)(c8:Ie K cd8 "common_divisor" = true)(k8:Ig K (.ref f8)=true)(a9:NI K "fraction" f9)(l9:LK K "fraction" (EG 8) f9 oc9 od9 kV9 dc9 pm9 an9 cd9 ct9 sl9)(c9:Ie K cd9 "fraction" = true)(k9:Ig K (.ref f9)=true)(a10:NI K "plus" f10)(l10:LK K "plus" (EG 9) f10 oc10 od10 kV10 dc10 pm10 an10 cd10 ct10 sl10)(c10:Ie K cd10 "plus" = true)(k10:Ig K (.ref f10)=true)(a11:NI K "less" f11)(l11:LK K "less" (EG 10) f11 oc11 od11 kV11 dc11 pm11 an11 cd11 ct11 sl11)(c11:Ie K cd11 "less" = true)(k11:Ig K (.ref f11)=true)(a12:NI K "times" f12)(l12:LK K "times" (EG 11) f12 oc12 od12 kV12 dc12 pm12 an12 cd12 ct12 sl12)(c12:Ie K cd12 "times" = true)(k12:Ig K (.ref f12)=true)(a13:NI K "is_below" f13)(l13:LK K "is_below" (EG 12) f13 oc13 od13 kV13 dc13 pm13 an13 cd13 ct13 sl13)(c13:Ie K cd13 "is_below" = true)(k13:Ig K (.ref f13)=true)(a14:NI K "lesser" f14)(l14:LK K "lesser" (EG 13) f14 oc14 od14 kV14 dc14 pm14 an14 cd14 ct14 sl14)(c14:Ie K cd14 "lesser" = true)(k14:Ig K (.ref f14)=true)(a15:NI K "greater" f15)(l15:LK K "greater" (EG 14) f15 oc15 od15 kV15 dc15 pm15 an15 cd15 ct15 sl15)(c15:Ie K cd15 "greater" = true)(k15:Ig K (.ref f15)=true)(a16:NI K "in_size" f16)(l16:LK K "in_size" (EG 15) f16 oc16 od16 kV16 dc16 pm16 an16 cd16 ct16 sl16)(c16:Ie K cd16 "in_size" = true)(k16:Ig K (.ref f16)=true)(a17:NI K "sides_of" f17)(l17:LK K "sides_of" (EG 21) f17 oc17 od17 kV17 dc17 pm17 an17 cd17 ct17 sl17)(c17:Ie K cd17 "sides_of" = true)(k17:Ig K (.ref f17)=true)(a18:NI K "numbers_at" f18)(l18:LK K "numbers_at" (EG 22) f18 oc18 od18 kV18 dc18 pm18 an18 cd18 ct18 sl18)(c18:Ie K cd18 "numbers_at" = true)(k18:Ig K (.ref f18)=true)(a19:NI K "side_looks" f19)(l19:LK K "side_looks" (EG 26) f19 oc19 od19 kV19 dc19 pm19 an19 cd19 ct19 sl19)(c19:Ie K cd19 "side_looks" = true)(k19:Ig K (.ref f19)=true)(a20:NI K "many_side_looks" f20)(l20:LK K "many_side_looks" (EG 27) f20 oc20 od20 kV20 dc20 pm20 an20 cd20 ct20 sl20)(c20:Ie K cd20 "many_side_looks" = true)(k20:Ig K (.ref f20)=true)(a21:NI K "many_looks" f21)(l21:LK K "many_looks" (EG 28) f21 oc21 od21 kV21 dc21 pm21 an21 cd21 ct21 sl21)(c21:Ie K cd21 "many_looks" = true)(k21:Ig K (.ref f21)=true)(a22:NI K "looks_by_side" f22)(l22:LK K "looks_by_side" (EG 29) f22 oc22 od22 kV22 dc22 pm22 an22 cd22 ct22 sl22)(c22:Ie K cd22 "looks_by_side" = true)(k22:Ig K (.ref f22)=true)(a23:NI K "side_size" f23)(l23:LK K "side_size" (EG 17) f23 oc23 od23 kV23 dc23 pm23 an23 cd23 ct23 sl23)(c23:Ie K cd23 "side_size" = true)(k23:Ig K (.ref f23)=true)(a24:NI K "goes_ahead" f24)(l24:LK K "goes_ahead" (EG 18) f24 oc24 od24 kV24 dc24 pm24 an24 cd24 ct24 sl24)(c24:Ie K cd24 "goes_ahead" = true)(k24:Ig K (.ref f24)=true)(a25:NI K "lies" f25)(l25:LK K "lies" (EG 19) f25 oc25 od25 kV25 dc25 pm25 an25 cd25 ct25 sl25)(c25:Ie K cd25 "lies" = true)(k25:Ig K (.ref f25)=true)(a26:NI K "marked" f26)(l26:LK K "marked" (EG 30) f26 oc26 od26 kV26 dc26 pm26 an26 cd26 ct26 sl26)(c26:Ie K cd26 "marked" = true)(k26:Ig K (.ref f26)=true)(a27:NI K "widened" f27)(l27:LK K "widened" (EG 31) f27 oc27 od27 kV27 dc27 pm27 an27 cd27 ct27 sl27)(c27:Ie K cd27 "widened" = true)(k27:Ig K (.ref f27)=true)(a28:NI K "counted_looks" f28)(l28:LK K "counted_looks" (EG 32) f28 oc28 od28 kV28 dc28 pm28 an28 cd28 ct28 sl28)(c28:Ie K cd28 "counted_looks" = true)(k28:Ig K (.ref f28)=true)(a29:NI K "misses" f29)(l29:LK K "misses" (EG 33) f29 oc29 od29 kV29 dc29 pm29 an29 cd29 ct29 sl29)(c29:Ie K cd29 "misses" = true)(k29:Ig K (.ref f29)=true)(a30:NI K "first_greatest" f30)(l30:LK K "first_greatest" (EG 34) f30 oc30 od30 kV30 dc30 pm30 an30 cd30 ct30 sl30)(c30:Ie K cd30 "first_greatest" = true)(k30:Ig K (.ref f30)=true)(a31:NI K "worst" f31)(l31:LK K "worst" (EG 35) f31 oc31 od31 kV31 dc31 pm31 an31 cd31 ct31 sl31)(c31:Ie K cd31 "worst" = true)(k31:Ig K (.ref f31)=true)(a32:NI K "unevenness" f32)(l32:LK K "unevenness" (EG 36) f32 oc32 od32 kV32 dc32 pm32 an32 cd32 ct32 sl32)(c32:Ie K cd32 "unevenness" = true)(k32:Ig K (.ref f32)=true)(a33:NI K "_law_side_size" f33)(l33:LK K "_law_side_size" (EG 46) f33 oc33 od33 kV33 dc33 pm33 an33 cd33 ct33 sl33)(c33:Ie K cd33 "_law_side_size" = true)(k33:Ig K (.ref f33)=true)(a34:NI K "_law_lies" f34)(l34:LK K "_law_lies" (EG 45) f34 oc34 od34 kV34 dc34 pm34 an34 cd34 ct34 sl34)(c34:Ie K cd34 "_law_lies" = true)(k34:Ig K (.ref f34)=true)(a35:NI K "_law_box_miss" f35)(l35:LK K "_law_box_miss" (EG 47) f35 oc35 od35 kV35 dc35 pm35 an35 cd35 ct35 sl35)(c35:Ie K cd35 "_law_box_miss" = true)(k35:Ig K (.ref f35)=true)(a36:NI K "_law_end" f36)(l36:LK K "_law_end" (EG 48) f36 oc36 od36 kV36 dc36 pm36 an36 cd36 ct36 sl36)(c36:Ie K cd36 "_law_end" = true)(k36:Ig K (.ref f36)=true)(a37:NI K "_law_box" f37)(l37:LK K "_law_box" (EG 49) f37 oc37 od37 kV37 dc37 pm37 an37 cd37 ct37 sl37)(c37:Ie K cd37 "_law_box" = true)(k37:Ig K (.ref f37)=true)(a38:NI K "_law_bottom" f38)(l38:LK K "_law_bottom" (EG 50) f38 oc38 od38 kV38 dc38 pm38 an38 cd38 ct38 sl38)(c38:Ie K cd38 "_law_bottom" = true)(k38:Ig K (.ref f38)=true)(a39:NI K "_law_moved" f39)(l39:LK K "_law_moved" (EG 51) f39 oc39 od39 kV39 dc39 pm39 an39 cd39 ct39 sl39)(c39:Ie K cd39 "_law_moved" = true)(k39:Ig K (.ref f39)=true)(a40:NI K "_law_near_it" f40)(l40:LK K "_law_near_it" (EG 52) f40 oc40 od40 kV40 dc40 pm40 an40 cd40 ct40 sl40)(c40:Ie K cd40 "_law_near_it" = true)(k40:Ig K (.ref f40)=true)(a41:NI K "law" f41)(l41:LK K "law" (EG 53) f41 oc41 od41 kV41 dc41 pm41 an41 cd41 ct41 sl41)(c41:Ie K cd41 "law" = true)(k41:Ig K (.ref f41)=true)
 (z_int:NZ K "int")(z_bool:NZ K "bool")(z_str:NZ K "str")(z_list:NZ K "list")(z_tuple:NZ K "tuple")(z_dict:NZ K "dict")(z_isinstance:NZ K "isinstance")(z_len:NZ K "len")(z_abs:NZ K "abs")(z_repr:NZ K "repr")(z_range:NZ K "range")(z_all:NZ K "all")(z_any:NZ K "any")(z_sum:NZ K "sum")(z_min:NZ K "min")(z_max:NZ K "max")(z_sorted:NZ K "sorted")(z_zip:NZ K "zip")(z_enumerate:NZ K "enumerate")(z_reversed:NZ K "reversed")(z_divmod:NZ K "divmod")(z_set:NZ K "set")(g_ONE:GlK K "ONE" (pr 1 1))(g_ZERO:GlK K "ZERO" (pr 0 1))(g_BELOW_ALL:GlK K "BELOW_ALL" (.tuple [.int (-1),.int 1]))(g_MOST_LOOKS:GlK K "MOST_LOOKS" (.int 3000))  :
 ∃fd:KH,(∀(s:HU)(v:HQ),Oi s fd ⟨[v],[]⟩ [("_law_script", v)])/\∀base:Heap,K.In base->base.Ns Jf mg->FnOk l.prog w K mg base Hy 11 fa fd ["_law_script"] (hZ K):=by
 have e:=hfa.symm.trans (PySem.W.mg_of X G a41)
 cases e
 have B:Bz mg:=⟨Iu X G z_int,Iu X G z_bool,Iu X G z_str,Iu X G z_list,Iu X G z_tuple,Iu X G z_dict,Iu X G z_isinstance,Iu X G z_len,Iu X G z_abs,Iu X G z_repr,Iu X G z_range,Iu X G z_all,Iu X G z_any,Iu X G z_sum,Iu X G z_min,Iu X G z_max,Iu X G z_sorted,Iu X G z_zip,Iu X G z_enumerate,Iu X G z_reversed,Iu X G z_divmod,Iu X G z_set⟩
 have T:Txt K mg:=⟨B,(aI X G a1 l1 c1 k1 fun _ _ _ _ _ _ us hl=>(by obtain⟨_,rfl⟩:=sX hl;exact rfl)),(aI X G a2 l2 c2 k2 fun _ _ _ _ _ _ us hl=>(by obtain⟨_,_,rfl⟩:=fA hl;exact rfl)),(aI X G a3 l3 c3 k3 fun _ _ _ _ _ _ us hl=>(by obtain⟨_,_,rfl⟩:=fA hl;exact rfl)),(aI X G a4 l4 c4 k4 fun _ _ _ _ _ _ us hl=>(by obtain⟨_,_,rfl⟩:=fA hl;exact rfl)),(aI X G a5 l5 c5 k5 fun _ _ _ _ _ _ us hl=>(by obtain⟨_,_,_,rfl⟩:=qT hl;exact rfl)),(aI X G a6 l6 c6 k6 fun _ _ _ _ _ _ us hl=>(by obtain⟨_,_,_,rfl⟩:=qT hl;exact rfl)),(aI X G a7 l7 c7 k7 fun _ _ _ _ _ _ us hl=>(by obtain⟨_,rfl⟩:=sX hl;exact rfl)),(aI X G a8 l8 c8 k8 fun _ _ _ _ _ _ us hl=>(by obtain⟨_,_,rfl⟩:=fA hl;exact rfl)),(aI X G a9 l9 c9 k9 fun _ _ _ _ _ _ us hl=>(by obtain⟨_,_,rfl⟩:=fA hl;exact rfl)),(aI X G a10 l10 c10 k10 fun _ _ _ _ _ _ us hl=>(by obtain⟨_,_,rfl⟩:=fA hl;exact rfl)),(aI X G a11 l11 c11 k11 fun _ _ _ _ _ _ us hl=>(by obtain⟨_,_,rfl⟩:=fA hl;exact rfl)),(aI X G a12 l12 c12 k12 fun _ _ _ _ _ _ us hl=>(by obtain⟨_,_,rfl⟩:=fA hl;exact rfl)),(aI X G a13 l13 c13 k13 fun _ _ _ _ _ _ us hl=>(by obtain⟨_,_,rfl⟩:=fA hl;exact rfl)),(aI X G a14 l14 c14 k14 fun _ _ _ _ _ _ us hl=>(by obtain⟨_,_,rfl⟩:=fA hl;exact rfl)),(aI X G a15 l15 c15 k15 fun _ _ _ _ _ _ us hl=>(by obtain⟨_,_,rfl⟩:=fA hl;exact rfl)),(aI X G a16 l16 c16 k16 fun _ _ _ _ _ _ us hl=>(by obtain⟨_,rfl⟩:=sX hl;exact rfl)),(aI X G a17 l17 c17 k17 fun _ _ _ _ _ _ us hl=>(by obtain⟨_,rfl⟩:=sX hl;exact rfl)),(aI X G a18 l18 c18 k18 fun _ _ _ _ _ _ us hl=>(by obtain⟨_,_,rfl⟩:=fA hl;exact rfl)),(aI X G a19 l19 c19 k19 fun _ _ _ _ _ _ us hl=>(by obtain⟨_,_,rfl⟩:=fA hl;exact rfl)),(aI X G a20 l20 c20 k20 fun _ _ _ _ _ _ us hl=>(by obtain⟨_,_,rfl⟩:=fA hl;exact rfl)),(aI X G a21 l21 c21 k21 fun _ _ _ _ _ _ us hl=>(by obtain⟨_,_,rfl⟩:=fA hl;exact rfl)),(aI X G a22 l22 c22 k22 fun _ _ _ _ _ _ us hl=>(by obtain⟨_,_,rfl⟩:=fA hl;exact rfl)),(aI X G a23 l23 c23 k23 fun _ _ _ _ _ _ us hl=>(by obtain⟨_,rfl⟩:=sX hl;exact rfl)),(aI X G a24 l24 c24 k24 fun _ _ _ _ _ _ us hl=>(by obtain⟨_,_,_,rfl⟩:=qT hl;exact rfl)),(aI X G a25 l25 c25 k25 fun _ _ _ _ _ _ us hl=>(by obtain⟨_,_,_,rfl⟩:=qT hl;exact rfl)),(aI X G a26 l26 c26 k26 fun _ _ _ _ _ _ us hl=>(by obtain⟨_,_,rfl⟩:=fA hl;exact rfl)),(aI X G a27 l27 c27 k27 fun _ _ _ _ _ _ us hl=>(by obtain⟨_,_,rfl⟩:=fA hl;exact rfl)),(aI X G a28 l28 c28 k28 fun _ _ _ _ _ _ us hl=>(by obtain⟨_,_,rfl⟩:=fA hl;exact rfl)),(aI X G a29 l29 c29 k29 fun _ _ _ _ _ _ us hl=>(by obtain⟨_,_,rfl⟩:=fA hl;exact rfl)),(aI X G a30 l30 c30 k30 fun _ _ _ _ _ _ us hl=>(by obtain⟨_,rfl⟩:=sX hl;exact rfl)),(aI X G a31 l31 c31 k31 fun _ _ _ _ _ _ us hl=>(by obtain⟨_,_,rfl⟩:=fA hl;exact rfl)),(aI X G a32 l32 c32 k32 fun _ _ _ _ _ _ us hl=>(by obtain⟨_,_,rfl⟩:=fA hl;exact rfl)),(aI X G a33 l33 c33 k33 fun _ _ _ _ _ _ us hl=>(by obtain⟨_,rfl⟩:=sX hl;exact rfl)),(aI X G a34 l34 c34 k34 fun _ _ _ _ _ _ us hl=>(by obtain⟨_,_,_,rfl⟩:=qT hl;exact rfl)),(aI X G a35 l35 c35 k35 fun _ _ _ _ _ _ us hl=>(by obtain⟨_,_,_,rfl⟩:=qT hl;exact rfl)),(aI X G a36 l36 c36 k36 fun _ _ _ _ _ _ us hl=>(by obtain⟨_,_,_,rfl⟩:=qT hl;exact rfl)),(aI X G a37 l37 c37 k37 fun _ _ _ _ _ _ us hl=>(by obtain⟨_,_,_,rfl⟩:=qT hl;exact rfl)),(aI X G a38 l38 c38 k38 fun _ _ _ _ _ _ us hl=>(by obtain⟨_,_,rfl⟩:=fA hl;exact rfl)),(aI X G a39 l39 c39 k39 fun _ _ _ _ _ _ us hl=>(by obtain⟨_,_,_,rfl⟩:=qT hl;exact rfl)),(aI X G a40 l40 c40 k40 fun _ _ _ _ _ _ us hl=>(by obtain⟨_,_,rfl⟩:=fA hl;exact rfl)),g_ONE.of X G,g_ZERO.of X G,g_BELOW_ALL.of X G,g_MOST_LOOKS.of X G⟩
 have FL:=pS (st:=EG 53) l41 c41 k41
 exact⟨_,fun s v=>.of_eq rfl,fun base _ _=>yT FL T ⟩
theorem walk{l:Nk}{q:II}{YP:Ju->Heap->Prop}{d:DefRec}{K:Ou->KE}(hn:l.most=some 63)(hdf:d.params.defaults=[])
 (hY:∀(w:Ju)(h:Heap),YP w h->(K w.params).In h)
 (F:∀(w:Ju)(mg:Str->Option HQ)(fa:Addr)(h:Heap),(K w.params).In h->h.Ns Jf mg->mg d.name=some (.ref fa) ->
  ∃fd:KH,(∀(s:HU)(u:HQ),Oi s fd ⟨[u],[]⟩ [("_law_script", u)])/\∀base:Heap,(K w.params).In base->base.Ns Jf mg->FnOk l.prog w (K w.params) mg base Hy 11 fa fd ["_law_script"] (hZ (K w.params))) :
 PySem.W.WalkO q loose XP YP l.row.toRowW d [] (fun f vs=>PySem.call f vs) :=
 L2.walk_of (n:=63) (k:=11) (x := "_law_script") (CX:=fun _=>Hy) (sp:=fun w=>hZ (K w.params)) hn (by decide) hdf ⟨rfl,by decide,by decide,rfl⟩ hY F (fun _ _ a ns hl _ hS=>⟨a,ns,rfl,hS,hl,fun _=>rfl⟩) fun _ _ _ _ _ z=>z
end K24
noncomputable def PySem.W.Fast.tw16011006452093275090:PySem.Params->KE:=K24.heapK
theorem PySem.W.Fast.te16011006452093275090:K24.heapK=PySem.W.Fast.tw16011006452093275090:=rfl
open PySem PySem.W PyProof.Rows
set_option maxRecDepth 100000 in
set_option maxHeartbeats 0 in
theorem PySem.Challenge.cw_evenpoints_k24_whole_no_box_misses_more_holds : PySem.Challenge.rw_evenpoints_k24_whole_no_box_misses_more.Holds := by
 refine(congrArg Nk.Holds K24.rw_eq).mpr ?_
 w_on;o_law
 refine holds_open (loose:=[]) (XP:=XL K24.zview []) (YP:=Hook.says (kHook K24.heapK K24.heapA K24.heapE)) K24.zleft
  (Hook.of _) (Hook.keeps _) (fun s e=>xl_of s (HV.mp e).1)
  XL.keeps (by rfl) (by rfl) (by rfl) (fun s e=>recFacts_of (HV.mp e).2) (by rfl)
  (by first|assumption|decide +kernel) (by decide +kernel) ⟨rfl,rfl,rfl,rfl,rfl,by decide +kernel⟩ ?hw ?hc
 (case hw=>w_witness2)
 k_fill
 refine K24.walk (l:=K24.rwN) rfl rfl (fun w h Y=>PySem.W.kIn_of (as:=K24.heapA) (e:=K24.heapE) Y) ?F
 case F =>
  intro w mg fa h KX G hmg
  refine' K24.all_mk KX G hmg ?a1 ?l1 ?c1 ?k1 ?a2 ?l2 ?c2 ?k2 ?a3 ?l3 ?c3 ?k3 ?a4 ?l4 ?c4 ?k4 ?a5 ?l5 ?c5 ?k5 ?a6 ?l6 ?c6 ?k6 ?a7 ?l7 ?c7 ?k7 ?a8 ?l8 ?c8 ?k8 ?a9 ?l9 ?c9 ?k9 ?a10 ?l10 ?c10 ?k10 ?a11 ?l11 ?c11 ?k11 ?a12 ?l12 ?c12 ?k12 ?a13 ?l13 ?c13 ?k13 ?a14 ?l14 ?c14 ?k14 ?a15 ?l15 ?c15 ?k15 ?a16 ?l16 ?c16 ?k16 ?a17 ?l17 ?c17 ?k17 ?a18 ?l18 ?c18 ?k18 ?a19 ?l19 ?c19 ?k19 ?a20 ?l20 ?c20 ?k20 ?a21 ?l21 ?c21 ?k21 ?a22 ?l22 ?c22 ?k22 ?a23 ?l23 ?c23 ?k23 ?a24 ?l24 ?c24 ?k24 ?a25 ?l25 ?c25 ?k25 ?a26 ?l26 ?c26 ?k26 ?a27 ?l27 ?c27 ?k27 ?a28 ?l28 ?c28 ?k28 ?a29 ?l29 ?c29 ?k29 ?a30 ?l30 ?c30 ?k30 ?a31 ?l31 ?c31 ?k31 ?a32 ?l32 ?c32 ?k32 ?a33 ?l33 ?c33 ?k33 ?a34 ?l34 ?c34 ?k34 ?a35 ?l35 ?c35 ?k35 ?a36 ?l36 ?c36 ?k36 ?a37 ?l37 ?c37 ?k37 ?a38 ?l38 ?c38 ?k38 ?a39 ?l39 ?c39 ?k39 ?a40 ?l40 ?c40 ?k40 ?a41 ?l41 ?c41 ?k41 ?zint ?zbool ?zstr ?zlist ?ztuple ?zdict ?zisinstance ?zlen ?zabs ?zrepr ?zrange ?zall ?zany ?zsum ?zmin ?zmax ?zsorted ?zzip ?zenumerate ?zreversed ?zdivmod ?zset ?gONE ?gZERO ?gBELOW_ALL ?gMOST_LOOKS 
  all_goals (try change _=_)
  (case a1=>k_is);(case l1=>k_is);(case c1=>k_is);(case k1=>k_is)
  (case a2=>k_is);(case l2=>k_is);(case c2=>k_is);(case k2=>k_is)
  (case a3=>k_is);(case l3=>k_is);(case c3=>k_is);(case k3=>k_is)
  (case a4=>k_is);(case l4=>k_is);(case c4=>k_is);(case k4=>k_is)
  (case a5=>k_is);(case l5=>k_is);(case c5=>k_is);(case k5=>k_is)
  (case a6=>k_is);(case l6=>k_is);(case c6=>k_is);(case k6=>k_is)
  (case a7=>k_is);(case l7=>k_is);(case c7=>k_is);(case k7=>k_is)
  (case a8=>k_is);(case l8=>k_is);(case c8=>k_is);(case k8=>k_is)
  (case a9=>k_is);(case l9=>k_is);(case c9=>k_is);(case k9=>k_is)
  (case a10=>k_is);(case l10=>k_is);(case c10=>k_is);(case k10=>k_is)
  (case a11=>k_is);(case l11=>k_is);(case c11=>k_is);(case k11=>k_is)
  (case a12=>k_is);(case l12=>k_is);(case c12=>k_is);(case k12=>k_is)
  (case a13=>k_is);(case l13=>k_is);(case c13=>k_is);(case k13=>k_is)
  (case a14=>k_is);(case l14=>k_is);(case c14=>k_is);(case k14=>k_is)
  (case a15=>k_is);(case l15=>k_is);(case c15=>k_is);(case k15=>k_is)
  (case a16=>k_is);(case l16=>k_is);(case c16=>k_is);(case k16=>k_is)
  (case a17=>k_is);(case l17=>k_is);(case c17=>k_is);(case k17=>k_is)
  (case a18=>k_is);(case l18=>k_is);(case c18=>k_is);(case k18=>k_is)
  (case a19=>k_is);(case l19=>k_is);(case c19=>k_is);(case k19=>k_is)
  (case a20=>k_is);(case l20=>k_is);(case c20=>k_is);(case k20=>k_is)
  (case a21=>k_is);(case l21=>k_is);(case c21=>k_is);(case k21=>k_is)
  (case a22=>k_is);(case l22=>k_is);(case c22=>k_is);(case k22=>k_is)
  (case a23=>k_is);(case l23=>k_is);(case c23=>k_is);(case k23=>k_is)
  (case a24=>k_is);(case l24=>k_is);(case c24=>k_is);(case k24=>k_is)
  (case a25=>k_is);(case l25=>k_is);(case c25=>k_is);(case k25=>k_is)
  (case a26=>k_is);(case l26=>k_is);(case c26=>k_is);(case k26=>k_is)
  (case a27=>k_is);(case l27=>k_is);(case c27=>k_is);(case k27=>k_is)
  (case a28=>k_is);(case l28=>k_is);(case c28=>k_is);(case k28=>k_is)
  (case a29=>k_is);(case l29=>k_is);(case c29=>k_is);(case k29=>k_is)
  (case a30=>k_is);(case l30=>k_is);(case c30=>k_is);(case k30=>k_is)
  (case a31=>k_is);(case l31=>k_is);(case c31=>k_is);(case k31=>k_is)
  (case a32=>k_is);(case l32=>k_is);(case c32=>k_is);(case k32=>k_is)
  (case a33=>k_is);(case l33=>k_is);(case c33=>k_is);(case k33=>k_is)
  (case a34=>k_is);(case l34=>k_is);(case c34=>k_is);(case k34=>k_is)
  (case a35=>k_is);(case l35=>k_is);(case c35=>k_is);(case k35=>k_is)
  (case a36=>k_is);(case l36=>k_is);(case c36=>k_is);(case k36=>k_is)
  (case a37=>k_is);(case l37=>k_is);(case c37=>k_is);(case k37=>k_is)
  (case a38=>k_is);(case l38=>k_is);(case c38=>k_is);(case k38=>k_is)
  (case a39=>k_is);(case l39=>k_is);(case c39=>k_is);(case k39=>k_is)
  (case a40=>k_is);(case l40=>k_is);(case c40=>k_is);(case k40=>k_is)
  (case a41=>k_is);(case l41=>k_is);(case c41=>k_is);(case k41=>k_is)
  (case zint=>k_is)
  (case zbool=>k_is)
  (case zstr=>k_is)
  (case zlist=>k_is)
  (case ztuple=>k_is)
  (case zdict=>k_is)
  (case zisinstance=>k_is)
  (case zlen=>k_is)
  (case zabs=>k_is)
  (case zrepr=>k_is)
  (case zrange=>k_is)
  (case zall=>k_is)
  (case zany=>k_is)
  (case zsum=>k_is)
  (case zmin=>k_is)
  (case zmax=>k_is)
  (case zsorted=>k_is)
  (case zzip=>k_is)
  (case zenumerate=>k_is)
  (case zreversed=>k_is)
  (case zdivmod=>k_is)
  (case zset=>k_is)
  (case gONE=>refine' L2.VL.GlK.pair ?h1 ?h2;(case h1=>k_is);(case h2=>k_is))
  (case gZERO=>refine' L2.VL.GlK.pair ?h1 ?h2;(case h1=>k_is);(case h2=>k_is))
  (case gBELOW_ALL=>refine' L2.VL.GlK.pair ?h1 ?h2;(case h1=>k_is);(case h2=>k_is))
  (case gMOST_LOOKS=>refine' L2.VL.GlK.int ?h1;(case h1=>k_is))
