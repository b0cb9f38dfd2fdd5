import PyProof.Rows.All
import Wide.All
import OpenK.AllK
import Wide.FinOn
import Lean
import PyProof.EqAt
import PyProof.EqKinds
import PyProof.TupleCall
import KE.KDictSum
import KE.KMinKey
import PyProof.Rows.CallKwBuiltin
import PyProof.SumWalkG
import PyProof.WalksMore
import PyProof.AutoSeq1
import PySem.Challenge.RW_evenpoints_k25_whole_moved_points
set_option Elab.async false
set_option linter.all false
set_option maxRecDepth 100000
set_option maxHeartbeats 4000000
open And renaming intro->Hh, imp_right->Ho
open Array renaming length_toList->KE, getElem?_toList->Mr, toArray_toList->MG, mk->Ny
open Bool renaming and_eq_true_iff->Hw, or_eq_true_iff->HP, false_ne_true->Ic, false_eq_true->Kn, eq_iff_iff->KP, not_false->Lg, and_eq_true->Mf, or_eq_true->MA, not_true->Ng
open Classical renaming choose_spec->Hs, choose->IM, byContradiction->LY
open Exists renaming imp->HB
open False renaming elim->Jw
open ForInStep renaming yield->LB
open Function renaming comp_apply->M1
open Iff renaming rfl->K8
open Int renaming natAbs_natCast->Iz, fmod_nonneg_of_pos->I_, gcd->Jv, natAbs_mul->JD, mul_le_mul_of_nonneg_right->JP, fmod_lt_of_pos->JQ, toNat_natCast->JW, toNat->J0, fdiv_eq_ediv_of_nonneg->J3, eq_ofNat_of_zero_le->Kf, mul_lt_mul_of_pos_right->LH, fmod_add_mul_fdiv->Mu, natCast_mul->My, mul_pos->MT, le_trans->Nt, zero_add->Nu
open List renaming length_map->Hm, mem_cons_of_mem->Hn, getD_eq_getElem?_getD->Hr, mem_cons_self->Ht, getElem?_eq_getElem->Hu, mem_append_right->HC, length_append->HD, mem_cons->HJ, mem_singleton->HK, range->HL, size_toArray->HN, mem_map->HQ, getElem?_set_ne->HU, mem_append->HW, replicate->H0, getElem?_eq_some_iff->Ia, getElem?_set_self->Ib, getElem?_map->Ii, map_map->Ij, map_cons->Ik, mem_range->Im, mem_append_left->Io, length_cons->Ip, Nodup->Ir, length_range->Ix, getElem_mem->Iy, lookup_cons->IE, mem_flatMap->IF, map_append->IJ, mem_filterMap->IN, map_congr_left->IR, find?_cons->IT, getElem?_set->IV, drop_eq_getElem_cons->IZ, take_of_length_le->Ja, countP_eq_length_filter->Jd, replicate_succ->Jg, mem_map_of_mem->Jj, idxOf_lt_length_of_mem->Jk, foldl_cons->Jo, filterMap_cons->Ju, flatMap_cons->JA, append_nil->JF, all_eq_true->JI, ext_getElem->JJ, getElem?_append_left->JM, length_take->JR, mem_of_getElem?->JS, mem_filter->JX, nodup_cons->JZ, getElem?_append_right->J1, length_zipIdx->J6, take_succ_eq_append_getElem->J7, flatten_cons->Kb, length_eq_zero_iff->Kg, drop_length->Ki, pairwise_cons->Ko, length_replicate->Kr, append_assoc->Kw, any_cons->Kx, exists_cons_of_ne_nil->KB, of_mem_zip->KS, getElem?_replicate->KU, getElem_idxOf->KZ, foldl_append->La, filter_congr->Lb, lookup->Lc, length_singleton->Lh, take_append_drop->Lj, length_filter_le->Lk, countP_mono_left->Ll, exists_cons_of_length_pos->Lm, length_drop->Ln, cons_append->Lo, getElem_map->Lp, map_flatMap->Lq, eq_nil_of_length_eq_zero->Lr, nodup_range->Ls, mem_of_mem_take->Lv, length_nil->LA, forIn_cons->LC, filter_map->LJ, fst_mem_of_mem_zipIdx->LN, map_nil->LS, getElem_range->LU, map->LV, mem_of_find?_eq_some->LX, length_filterMap_le->L4, not_mem_nil->Me, filterMap_eq_map'->Mj, length_pos_of_mem->Ml, filter_eq_nil_iff->Mm, getElem?_eq_none->Ms, length_zip->Mz, mem_of_mem_drop->MI, pairwise_append->MJ, length_pos_iff->MV, flatMap_append->MX, filter_eq_self->MY, length_flatMap->MZ, getElem?_range->M0, map_take->Nh, map_id'->Nv
open List.Pairwise renaming nil->L0
open List.cons renaming injEq->Ji
open Nat renaming lt_of_lt_of_le->Hz, le_refl->HA, pow_le_pow_right->HM, zero_le->Ig, ne_of_lt->Is, le_trans->IH, lt_irrefl->Jb, ne_of_gt->JV, lt_of_le_of_lt->Km, le_of_succ_le->Ky, le_add_right->KC, mul_add->Ld, lt_succ_of_lt->L3, lt_succ_self->Mb, mul_lt_mul''->Md, mul_ne_zero->Mx, add_mul->MW, le_of_lt->No, mul_comm->Nq, sub_self->Nr, pow_add->NO
open Nat.succ renaming inj->MB
open Ne renaming symm->Mp
open Option renaming isSome_iff_exists->Ka, map_eq_some_iff->K1
open Option.some renaming inj->IG
open Or renaming inr->IK, inl->Jy
open PyProof.Rows renaming callWith_type1->Jf, IntsAre->Lz, assignInOrder_cons->LO, subscriptTail_builtinR->Mg, envOfC->Mq, AllBare->MN, subscriptTail->M_, seqObj->NN
open PySem renaming PyData->Hg, wpAny_bind->Hi, Value->Hq, Shared->Hv, starEach->Hy, wpAny_pure->HH, wpAny->HS, sizeLine_eq->HV, foldedSetIterable->HX, Program->HZ, model->Ie, wpAny_mono->Ih, mainGlobals->IA, Around->ID, World->IL, wpAny_setField_rec->IP, mem_of_lookup->IQ, Paired->I0, backTo->Je, wpAny_field->Jh, wpAny_standAt->Jt, wpAny_newObj_type->Jx, wpAny_comprehension_free->Jz, swapsWith->JE, wpAny_callSpecial?_slot->JG, cellsFrom->JK, wpAny_seqItems->JN, letOwnedTupleGo->JO, codeAny->JY, wpAny_call_entry->J4, FuncData->J8, wpAny_truthy_bool->J9, wpAny_passesOwn->J_, compareOp->Kh, assignEach->Kj, wpAny_Call_Name_kw->Kl, keywordEach->Kq, sysModules->Kt, binaryOp->Ku, attributeBase->Kv, assign->Kz, Keyword->KF, wpAny_letGo->KG, bootBuiltins->KH, behindInMarks->KQ, NameKind->KR, wpAny_holding->KY, wpAny_assign_Name->K4, wpAny_rule->K5, wpAny_pyIter_list->K6, sliceBounds->K7, newFunctionEnv->Lf, exec_Assign_Name_used->Li, wpAny_updateSeq_pair->Lu, wpAny_execs_nil->Ly, theTreesLotGoes->LD, IsPair->LF, wpAny_pyIter_tuple->LP, codeAny_mono->LQ, backToKw->LR, pyNext->LZ, swapsWithSole->L5, swappedStores->L6, wpAny_onRaise->L7, wpAny_attempt->L8, plainId_quiet->L9, noFill_tuple_add->Ma, codeAny_compStart_list->Mi, importedModules->Mn, codeAny_loop->Mt, wpAny_updateSeq->Mw, call_meets->ME, wpAny_loadName_local->MF, intBits_le_iff->MK, wpAny_tryCatch->ML, wpAny_loadName_cell->MO, standAt->MP, subscripted->MQ, wpAny_noted->MR, tupleKind->M5, assignInOrder->M6, PassesOwn->M7, seq_tuple_add->M9, compTurn->Na, noteFrame->Nb, compPost->Nc, comprehension->Nd, cLine->Ni, valueAt->Nk, callerA->Nl, IsZip->Nn, concat_meets->Np, Operator->Nz, pyIter->NB, rawInt->NC, Result->ND, BindsTo->NE, getItem->NF, seqIndex_of->NG, pushCells->NH, field->NJ, seqItems?->NK, wpAny_of_eq->NL, IsEnum->NP, Params->NQ, relabel->NS, atKey->NT
open PySem.Around renaming under_plainId->MH
open PySem.AutoSeq1 renaming wpAny_loadPart'->KO
open PySem.Builtin.Builtins renaming bindParams->LG
open PySem.Builtin.List renaming listFitsIndex->KA, listTooLong->KJ
open PySem.Builtin.SmallTypes renaming nextOf->Iu, ownedTupleIsFree->IB, ownedTupleHandOut->Jr
open PySem.Calls renaming Name_function_global->LM
open PySem.F renaming plain_max_loop->JL, plainAttrs_list->Ke, args_tuple_add_2->KI, slot_list_append->KL, type_list_append->KM, entry_tuple_add->KW, slot_tuple_add->K2, entry_max_loop->Mk
open PySem.Heap renaming get?_push_of_some->Hl, lt_size->HE, get?_push_size->HI, get?_update_other->Jm, size_push->Jq, SameBut->J5, get?_update_self->Mv
open PySem.Heap.SameBut renaming refl->L1, update->MS
open PySem.NameKind renaming free->II, cell->JU
open PySem.Obj renaming mapSeq->Nj
open PySem.Paired renaming length->Kd
open PySem.PassesOwn renaming never->Js
open PySem.PyData renaming int->H_, eqv->Iq, canLayAll0->IW, tuple->Jl, depthAll->Jp, bool->JH, canLay0->Kk, list->Ks, depth->KN, eqvAll->Nf, str->Nm
open PySem.PyData.int renaming injEq->Mc
open PySem.PyData.list renaming injEq->K9
open PySem.PyData.tuple renaming injEq->Jc
open PySem.SeqAt renaming shaped->Iv, canLay_of_shaped->Mh
open PySem.Shared renaming heap->NM
open PySem.Str renaming ofString->Hj
open PySem.Value renaming ref->Kp, none->K3, int->M3, str->NA
open PySem.W renaming codeIn->HF, keepIn->HG, mg_none_of->HR, boot_heap->Jn, Frag->Kc, OpenLaw->MC, boot_drawn->MD, boot_toks->M2, nsIn->Nw, fnOf->Nx, OpenLaw->NR
open Rat renaming le_of_lt->HY, le_trans->Il, mul_le_mul_of_nonneg_right->IC, le_refl->IS, intCast_mul->IU, not_lt->JB, not_le->JC, intCast_add->K0, one_mul->K_, lt_irrefl->Lw, le_antisymm->LI, intCast_sub->LL, lt_of_le_of_ne->LW, normalize->L_, mul_nonneg->MM, div_def->MU
open Sum renaming inr->Iw, inl->JT
open True renaming intro->Lx
open PySem PySem.Spec PyProof.Rows
variable{loose N:List Str}{α β:Type}{m M t' i j n:Nat}{xs xs':List Hg}{us:List Hq}{a b it:Addr}{P:HZ}{w:IL}{h h':Heap}{x qual:Str}{A:ID}{E Q:Hq->Hv->Prop}{u:Hq}{e c tg iter:Expr}{s:Hv}{pos pos' px spos:Pos}{pins:List (Addr×Obj)}{fp:List Addr}{f:Fin 3}{fd:J8}{ps qs:List (List Rat)}{mg:Str->Option Hq}{scope:Scope}{ns:List Int}{XP:(Str->Option Hq)->Heap->Prop}{d:Hg}{r q U:Rat}{cl:List (Str×Addr)}{ifs:List Expr}{tn:Nat->Heap->Prop}{Rp:Addr->ND->Hv->Prop}{n':Nat×List Int}{xss:List (List Hg)}{rs p:List Rat}{g:Nat->Rat->Rat}
noncomputable section
namespace L2
open PySem
noncomputable def pF(s:Stmt)(j:Nat):Stmt:=match s with
 | .ClassDef _ _ _ body _ _ _ _ _ _ _=>body.getD j (.Pass ⟨0,0,0,0⟩)
 | _=>.Pass ⟨0,0,0,0⟩
noncomputable def defArgs(s:Stmt):Arguments:=match s with
 | .FunctionDef _ a _ _ _ _ _ _ _ _=>a
 | _=>{posonlyargs:=[],args:=[],vararg:=none,kwonlyargs:=[],kw_defaults:=[],kwarg:=none,defaults:=[]}
noncomputable def defBody(s:Stmt):List Stmt:=match s with
 | .FunctionDef _ _ b _ _ _ _ _ _ _=>b
 | _=>[]
noncomputable def defScope(s:Stmt):Scope:=match s with
 | .FunctionDef _ _ _ _ _ _ sc _ _ _=>sc
 | _=>{kind:=.function,names:=[],isGenerator:=false,isCoroutine:=false}
end L2
namespace L2.TT
open PySem PySem.W
noncomputable def FJ(tb:String->Option Builtin)(p:HZ)(w:IL)(m:Nat)(ann:Option Hq):Nat->SharedT->Thread->Option SharedT
 | 0,_,_=>none
 | n+1,s,t=>match through t with
   | true=>some s
   | false=>match stepOk m ann t with
     | false=>none
     | true=>match stepT (denote tb) p w s t with
       | some r=>FJ tb p w m ann n r.1 r.2
       | none=>none
theorem tf{tb:String->Option Builtin}{p:HZ}{w:IL}{m:Nat}{ann:Option Hq}:∀{n:Nat}{s s':SharedT}{t:Thread},FJ tb p w m ann n s t=some s'->topRun tb p w m ann n s.abs t=some s'.abs
 | 0,_,_,_,h=>by cases h
 | n+1,s,s',t,h=>by
   unfold FJ at h
   unfold topRun
   cases he:through t with
   | true=>rw[he]at h;cases h;rfl
   | false =>
     rw[he]at h
     cases hk:stepOk m ann t with
     | false=>rw[hk]at h;cases h
     | true =>
       rw[hk]at h
       cases hs:stepT (denote tb) p w s t with
       | none=>rw[hs]at h;cases h
       | some r=>rw[hs]at h;rw[stepT_spec hs];exact tf h
noncomputable def bt(os:List Obj):Nat->Nat->Nat->BT
 | 0,_,_=>.nil
 | f+1,a,b=>match os[b]? with
   | some o=>.node o (bt os f (2*a) (a+b)) (bt os f (2*a) (2*a+b))
   | none=>.nil
theorem boot_abs(P:NQ):absHeap (bt (Jn P).objs.toList 12 1 0) (Jn P).objs.size (Jn P).life=Jn P:=by kernel_rfl
abbrev yF(p q:HZ)(loose:List Str)(Xt:Hv->Bool){α:Type}(Yf:Hv->α)(h₀:Heap)(s:Hv) :=
 (staticsOk (Mn p.main.body) h₀ s.heap&&namesBound p s.heap&&gensDone s&&laidKept h₀ s.heap,openSeen q loose (Mn p.main.body) Xt true s,Yf s)
theorem left_of{p q:HZ}{Xt:Hv->Bool}{Yf:Hv->α}{Ya:IL->α}{N:Nat}{ann:Option Hq}
 (e:opening p=plainProg p.main.scope.names)(hN:Nat.ble 600 N=true)(f:∀s,fenceModules? p s=some s)(le:Nat.ble M N=true)
 (size:∀w:IL,((Jn w.params).isNs IA,(Jn w.params).objs.size,(Jn w.params).nsMap IA "__annotations__")=(true,m,ann))
 (run:∀(w:IL)(os:OsState),(FJ treeTable p w m ann M ⟨bt (Jn w.params).objs.toList 12 1 0,(Jn w.params).objs.size,(Jn w.params).life,Ny [],MD,M2,os⟩ (topStub p)).map (fun s=>yF p q loose Xt Yf (Jn w.params) s.abs)=some (true,openGood q loose,Ya w)) :
 LeftO p q loose Xt Yf Ya N:=fun w=>by
 obtain⟨⟨h,gs,d,k,os⟩,eo,e'⟩:=K1.mp (boot_open e hN f w)
 obtain⟨rfl,rfl,rfl,rfl⟩:h=Jn w.params/\gs=Ny []/\d=MD/\k=M2:=by simpa using e'
 obtain⟨z1,z2,z3⟩:_/\_/\_:=by simpa only[Prod.mk.injEq]using size w
 obtain⟨s',r,l⟩:=K1.mp (run w os)
 obtain⟨l1,l2,l3⟩:_/\_/\_:=by simpa only[yF,Prod.mk.injEq]using l
 have r:=tf r
 have hb:SharedT.abs ⟨bt (Jn w.params).objs.toList 12 1 0,(Jn w.params).objs.size,(Jn w.params).life,Ny [],MD,M2,os⟩=⟨Jn w.params,Ny [],MD,M2,os⟩:=by
  show Hv.mk (absHeap _ _ _) _ _ _ _=_
  rw[boot_abs]
 rw[hb]at r
 have r:=topRun_mono (N-M) _ _ _ _ r
 rw[show M+(N-M)=N by have:=Nat.le_of_ble_eq_true le;omega]at r
 have t:topFrom treeTable p w N ⟨Jn w.params,Ny [],MD,M2,os⟩=some s'.abs:=by
  unfold topFrom
  dsimp only
  rw[z1,z2,z3,r]
  show(match staticsOk (Mn p.main.body) (Jn w.params) s'.abs.heap&&namesBound p s'.abs.heap&&gensDone s'.abs&&laidKept (Jn w.params) s'.abs.heap with|true=>_|false=>_)=_
  rw[l1]
 unfold openEnds
 rw[eo]
 show(topFrom treeTable p w N _).map _=_
 rw[t]
 exact congrArg some (Prod.ext l2 l3)
end L2.TT
namespace K25
open PySem
def Ef(i:Nat):Stmt:=PySem.Challenge.pw_evenpoints_k25_whole_moved_points.main.body.getD i (.Pass ⟨0,0,0,0⟩)
end K25
noncomputable def PySem.W.Fast.tw12372631675828705765:PySem.Program:=PySem.Challenge.pw_evenpoints_k25_whole_moved_points
theorem PySem.W.Fast.te12372631675828705765:PySem.Challenge.pw_evenpoints_k25_whole_moved_points=PySem.W.Fast.tw12372631675828705765:=rfl
namespace K25
open PySem PySem.W L2
def DM:Stmt:=Ef 0
def DL:Stmt:=Ef 1
def DK:Stmt:=Ef 2
def DJ:Stmt:=Ef 3
def DI:Stmt:=Ef 4
def DH:Stmt:=Ef 5
def DG:Stmt:=Ef 6
def DF:Stmt:=Ef 7
def DE:Stmt:=Ef 8
def DC:Stmt:=Ef 9
def Cm:Stmt:=Ef 10
def Ck:Stmt:=Ef 11
def Cj:Stmt:=Ef 12
def Ci:Stmt:=Ef 13
def Ch:Stmt:=Ef 14
def Cg:Stmt:=Ef 15
def Cf:Stmt:=Ef 16
def CY:Stmt:=Ef 17
def Ce:Stmt:=Ef 18
def Cd:Stmt:=Ef 19
def Cc:Stmt:=Ef 20
def CW:Stmt:=Ef 21
def Cb:Stmt:=Ef 22
def Ca:Stmt:=Ef 23
def B_:Stmt:=Ef 24
def CV:Stmt:=Ef 25
def B9:Stmt:=Ef 26
def B8:Stmt:=Ef 27
def B7:Stmt:=Ef 28
def B6:Stmt:=Ef 29
def B5:Stmt:=Ef 30
def B4:Stmt:=Ef 31
def B3:Stmt:=Ef 32
def B2:Stmt:=Ef 33
def B1:Stmt:=Ef 34
def B0:Stmt:=Ef 35
def BZ:Stmt:=Ef 36
def BY:Stmt:=Ef 37
def BX:Stmt:=Ef 38
def CU:Stmt:=Ef 39
def BW:Stmt:=Ef 40
def BV:Stmt:=Ef 41
def BU:Stmt:=Ef 42
def BS:Stmt:=Ef 43
def BR:Stmt:=Ef 44
def BQ:Stmt:=Ef 45
def BP:Stmt:=Ef 46
def CT:Stmt:=Ef 47
def BO:Stmt:=Ef 48
def BN:Stmt:=Ef 49
def BM:Stmt:=Ef 50
def BL:Stmt:=Ef 51
def BK:Stmt:=Ef 52
def BJ:Stmt:=Ef 53
def BI:Stmt:=Ef 54
def BH:Stmt:=Ef 55
def BG:Stmt:=Ef 56
def BF:Stmt:=Ef 57
def ER:HZ:={PySem.Challenge.pw_evenpoints_k25_whole_moved_points with main:={PySem.Challenge.pw_evenpoints_k25_whole_moved_points.main with body:=[DM,DL,DK,DJ,DI,DH,DG,DF,DE,DC,Cm,Ck,Cj,Ci,Ch,Cg,Cf,CY,Ce,Cd,Cc,CW,Cb,Ca,B_,CV,B9,B8,B7,B6,B5,B4,B3,B2,B1,B0,BZ,BY,BX,CU,BW,BV,BU,BS,BR,BQ,BP,CT,BO,BN,BM,BL,BK,BJ,BI,BH,BG,BF]}}
def rwN:NR:={PySem.Challenge.rw_evenpoints_k25_whole_moved_points with prog:=ER}
noncomputable def zview:HZ:={PySem.Challenge.pw_evenpoints_k25_whole_moved_points with main:={PySem.Challenge.pw_evenpoints_k25_whole_moved_points.main with body:=[DL,DK,DJ,DH,DG,DF,DE,DC,Cm,Ck,Cj,Ci,Ch,Cg,Cf,Ce,Cd,Cc,Cb,Ca,B_,B9,B8,B7,B6,B5,B4,B3,B2,B1,B0,BZ,BY,BX,BW,BV,BU,BS,BR,BQ,BP,BO,BN,BM,BL,BK,BJ,BI,BH,BG,BF]}}
theorem rw_eq:PySem.Challenge.rw_evenpoints_k25_whole_moved_points=rwN:=rfl
noncomputable def DW(P:NQ)(x:Str)(t:Nat)(v:Hq):DictEntry:=⟨Hg.keyHash P x,.str x t,v⟩
noncomputable def DV(n q:Str)(s:Stmt)(pm cd:Hq):Obj:=⟨.type "function", none,.func (fnOf n q (defArgs s) (defBody s) (defScope s) .none .none .none pm none cd .none),#[]⟩
noncomputable def DY(n q:Str)(a b c:Nat)(l x y:Int)(r:Nat)(z:Int)(r2:Nat)(v1 v2 v3:Hq)(r3:Nat)(u:Int)(c2:Nat):Obj:=⟨.type "code", none,.fields #[.str n a,.str q b,.str "/claim/cut.py" c,.int l 0,.int x 0,.int 0 0,.int 0 0,.int y 0,.ref r,.bool true,.int z 0,.ref r2,v1,v2,v3,.ref r3,.int u 0,.int l 0,.str "/claim/cut.py" c2],#[]⟩
noncomputable def DT:Hq:=.str "evenpoints.errors" 187
noncomputable def DS:Hq:=.str "evenpoints.fractions" 257
noncomputable def DR:Hq:=.str "evenpoints.boxes" 343
noncomputable def DQ:Hq:=.str "evenpoints.points" 374
noncomputable def DP:Hq:=.str "evenpoints.looks" 391
noncomputable def DO:Hq:=.str "evenpoints.moves" 487
noncomputable def DN:Hq:=.str "law_evenpoints_k25_whole_moved_points" 538
abbrev DU(n:Str):=DV n n
abbrev DX(n:Str):=DY n n
noncomputable def heapK(P:NQ):Frag :=
 (nat_lit 2,(.mk .none none (.dict #[] 0) #[])) ::
 (nat_lit 3,(.mk (.type "dict") none (.dict #[DW P "__name__" 165 (.str "law_evenpoints_k25_whole_moved_points" 538),DW P "__doc__" 166 .none,DW P "__package__" 167 .none,DW P "__loader__" 168 (.builtin "__main__.__loader__#opaque"),DW P "__spec__" 169 .none,DW P "__annotations__" 170 (.ref 6),DW P "__builtins__" 171 (.ref 4),DW P "__file__" 173 (.str "/claim/cut.py" 172),DW P "__cached__" 174 .none,DW P "EvenError" 206 (.ref 24),DW P "Nought" 231 (.ref 44),DW P "TooMany" 256 (.ref 63),DW P "ZERO" 261 (.ref 66),DW P "ONE" 264 (.ref 67),DW P "common_divisor" 272 (.ref 74),DW P "fraction" 281 (.ref 81),DW P "plus" 289 (.ref 88),DW P "less" 297 (.ref 95),DW P "times" 305 (.ref 102),DW P "is_below" 313 (.ref 109),DW P "lesser" 321 (.ref 116),DW P "greater" 329 (.ref 123),DW P "wrapped" 336 (.ref 130),DW P "in_size" 342 (.ref 135),DW P "side_size" 353 (.ref 142),DW P "goes_ahead" 362 (.ref 149),DW P "lies" 373 (.ref 156),DW P "MOST_POINTS" 377 (.int 40 376),DW P "sides_of" 384 (.ref 163),DW P "numbers_at" 390 (.ref 168),DW P "MOST_LOOKS" 394 (.int 3000 393),DW P "BELOW_ALL" 398 (.ref 169),DW P "side_looks" 404 (.ref 174),DW P "many_side_looks" 413 (.ref 181),DW P "many_looks" 423 (.ref 188),DW P "looks_by_side" 429 (.ref 193),DW P "marked" 435 (.ref 198),DW P "widened" 441 (.ref 203),DW P "counted_looks" 447 (.ref 208),DW P "misses" 461 (.ref 215),DW P "first_greatest" 470 (.ref 222),DW P "worst" 478 (.ref 229),DW P "unevenness" 486 (.ref 236),DW P "shifted" 494 (.ref 241),DW P "mirrored_number" 501 (.ref 248),DW P "mirrored" 507 (.ref 253),DW P "picked" 513 (.ref 258),DW P "exchanged" 521 (.ref 265),DW P "shadow" 529 (.ref 272),DW P "beside" 537 (.ref 279),DW P "_law_feed" 546 (.ref 286),DW P "_law_draw" 558 (.ref 293),DW P "_law_frac" 568 (.ref 300),DW P "_law_cmp" 578 (.ref 307),DW P "_law_number" 591 (.ref 314),DW P "_law_points" 597 (.ref 319),DW P "_law_order" 607 (.ref 326),DW P "_law_round_right" 613 (.ref 331),DW P "_law_family_right" 619 (.ref 336),DW P "law" 633 (.ref 343)] 60) #[])) ::
 (nat_lit 6,(.mk (.type "dict") none (.dict #[] 0) #[])) ::
 (nat_lit 15,(.mk (.type "tuple") none (.seq #[(.type "ValueError")] 0) #[])) ::
 (nat_lit 22,(.mk (.type "tuple") none (.seq #[] 0) #[])) ::
 (nat_lit 23,(.mk (.type "dict") none (.dict #[DW P "__module__" 196 (.str "evenpoints.errors" 187),DW P "__firstlineno__" 200 (.int 2 199),DW P "__static_attributes__" 201 (.ref 22),DW P "__weakref__" 203 (.ref 25),DW P "__doc__" 204 .none] 3) #[])) ::
 (nat_lit 24,(.mk (.type "type") none (.cls (.mk "EvenError" [(.type "ValueError")] [(.ref 24),(.type "ValueError"),(.type "Exception"),(.type "BaseException"),(.type "object")] 23 "EvenError" true [] [(.ref 44),(.ref 63)] false none false)) #[(some (.ref 15)),none,(some (.str "EvenError" 189)),(some (.str "EvenError" 197)),(some (.builtin "ValueError.__new__")),(some (.bool true))])) ::
 (nat_lit 25,(.mk (.type "getset_descriptor") none (.fields #[(.str "__weakref__" 202),(.ref 24),(.builtin "ExceptionGroup.__weakref__"),.none]) #[])) ::
 (nat_lit 28,(.mk (.type "tuple") none (.seq #[(.ref 24)] 0) #[])) ::
 (nat_lit 40,DY "__init__" "Nought.__init__" 219 220 221 6 2 3 35 181 36 .none (.ref 37) (.ref 38) 39 224 225) ::
 (nat_lit 41,DV "__init__" "Nought.__init__" (pF (Ef 2) 0) DT (.ref 40)) ::
 (nat_lit 42,(.mk (.type "tuple") none (.seq #[(.str "word" 227)] 0) #[])) ::
 (nat_lit 43,(.mk (.type "dict") none (.dict #[DW P "__module__" 214 (.str "evenpoints.errors" 187),DW P "__firstlineno__" 218 (.int 4 217),DW P "__init__" 226 (.ref 41),DW P "__static_attributes__" 228 (.ref 42),DW P "__doc__" 229 .none] 2) #[])) ::
 (nat_lit 44,(.mk (.type "type") none (.cls (.mk "Nought" [(.ref 24)] [(.ref 44),(.ref 24),(.type "ValueError"),(.type "Exception"),(.type "BaseException"),(.type "object")] 43 "Nought" true [] [] false none false)) #[(some (.ref 28)),none,(some (.str "Nought" 207)),(some (.str "Nought" 215)),(some (.builtin "ValueError.__new__")),(some (.bool true))])) ::
 (nat_lit 47,(.mk (.type "tuple") none (.seq #[(.ref 24)] 0) #[])) ::
 (nat_lit 59,DY "__init__" "TooMany.__init__" 244 245 246 10 2 3 54 181 55 .none (.ref 56) (.ref 57) 58 249 250) ::
 (nat_lit 60,DV "__init__" "TooMany.__init__" (pF (Ef 3) 0) DT (.ref 59)) ::
 (nat_lit 61,(.mk (.type "tuple") none (.seq #[(.str "word" 252)] 0) #[])) ::
 (nat_lit 62,(.mk (.type "dict") none (.dict #[DW P "__module__" 239 (.str "evenpoints.errors" 187),DW P "__firstlineno__" 243 (.int 8 242),DW P "__init__" 251 (.ref 60),DW P "__static_attributes__" 253 (.ref 61),DW P "__doc__" 254 .none] 2) #[])) ::
 (nat_lit 63,(.mk (.type "type") none (.cls (.mk "TooMany" [(.ref 24)] [(.ref 63),(.ref 24),(.type "ValueError"),(.type "Exception"),(.type "BaseException"),(.type "object")] 62 "TooMany" true [] [] false none false)) #[(some (.ref 47)),none,(some (.str "TooMany" 232)),(some (.str "TooMany" 240)),(some (.builtin "ValueError.__new__")),(some (.bool true))])) ::
 (nat_lit 66,(.mk (.type "tuple") none (.seq #[(.int 0 259),(.int 1 260)] 0) #[])) ::
 (nat_lit 67,(.mk (.type "tuple") none (.seq #[(.int 1 262),(.int 1 263)] 0) #[])) ::
 (nat_lit 73,DX "common_divisor" 265 266 267 15 2 3 68 181 69 .none (.ref 70) (.ref 71) 72 270 271) ::
 (nat_lit 74,DU "common_divisor" (Ef 7) DS (.ref 73)) ::
 (nat_lit 80,DX "fraction" 273 274 275 19 2 3 75 181 76 .none (.ref 77) (.ref 78) 79 279 280) ::
 (nat_lit 81,DU "fraction" (Ef 8) DS (.ref 80)) ::
 (nat_lit 87,DX "plus" 282 283 284 26 2 3 82 181 83 .none (.ref 84) (.ref 85) 86 287 288) ::
 (nat_lit 88,DU "plus" (Ef 9) DS (.ref 87)) ::
 (nat_lit 94,DX "less" 290 291 292 28 2 3 89 181 90 .none (.ref 91) (.ref 92) 93 295 296) ::
 (nat_lit 95,DU "less" (Ef 10) DS (.ref 94)) ::
 (nat_lit 101,DX "times" 298 299 300 30 2 3 96 181 97 .none (.ref 98) (.ref 99) 100 303 304) ::
 (nat_lit 102,DU "times" (Ef 11) DS (.ref 101)) ::
 (nat_lit 108,DX "is_below" 306 307 308 32 2 3 103 181 104 .none (.ref 105) (.ref 106) 107 311 312) ::
 (nat_lit 109,DU "is_below" (Ef 12) DS (.ref 108)) ::
 (nat_lit 115,DX "lesser" 314 315 316 34 2 3 110 181 111 .none (.ref 112) (.ref 113) 114 319 320) ::
 (nat_lit 116,DU "lesser" (Ef 13) DS (.ref 115)) ::
 (nat_lit 122,DX "greater" 322 323 324 36 2 3 117 181 118 .none (.ref 119) (.ref 120) 121 327 328) ::
 (nat_lit 123,DU "greater" (Ef 14) DS (.ref 122)) ::
 (nat_lit 129,DX "wrapped" 330 331 332 38 1 3 124 181 125 .none (.ref 126) (.ref 127) 128 334 335) ::
 (nat_lit 130,DU "wrapped" (Ef 15) DS (.ref 129)) ::
 (nat_lit 134,DX "in_size" 337 338 339 40 1 3 131 181 132 .none .none .none 133 340 341) ::
 (nat_lit 135,DU "in_size" (Ef 16) DS (.ref 134)) ::
 (nat_lit 141,DX "side_size" 345 346 347 46 1 3 136 181 137 .none (.ref 138) (.ref 139) 140 351 352) ::
 (nat_lit 142,DU "side_size" (Ef 18) DR (.ref 141)) ::
 (nat_lit 148,DX "goes_ahead" 354 355 356 54 3 3 143 181 144 .none (.ref 145) (.ref 146) 147 360 361) ::
 (nat_lit 149,DU "goes_ahead" (Ef 19) DR (.ref 148)) ::
 (nat_lit 155,DX "lies" 363 364 365 58 3 3 150 181 151 .none (.ref 152) (.ref 153) 154 371 372) ::
 (nat_lit 156,DU "lies" (Ef 20) DR (.ref 155)) ::
 (nat_lit 162,DX "sides_of" 378 379 380 68 1 3 157 181 158 .none (.ref 159) (.ref 160) 161 382 383) ::
 (nat_lit 163,DU "sides_of" (Ef 23) DQ (.ref 162)) ::
 (nat_lit 167,DX "numbers_at" 385 386 387 70 2 3 164 181 165 .none .none .none 166 388 389) ::
 (nat_lit 168,DU "numbers_at" (Ef 24) DQ (.ref 167)) ::
 (nat_lit 169,(.mk (.type "tuple") none (.seq #[(.int (Neg.neg 1) 396),(.int 1 397)] 0) #[])) ::
 (nat_lit 173,DX "side_looks" 399 400 401 75 2 3 170 181 171 .none .none .none 172 402 403) ::
 (nat_lit 174,DU "side_looks" (Ef 28) DP (.ref 173)) ::
 (nat_lit 180,DX "many_side_looks" 405 406 407 84 2 3 175 181 176 .none (.ref 177) (.ref 178) 179 411 412) ::
 (nat_lit 181,DU "many_side_looks" (Ef 29) DP (.ref 180)) ::
 (nat_lit 187,DX "many_looks" 414 415 416 89 2 3 182 181 183 .none (.ref 184) (.ref 185) 186 421 422) ::
 (nat_lit 188,DU "many_looks" (Ef 30) DP (.ref 187)) ::
 (nat_lit 192,DX "looks_by_side" 424 425 426 94 2 3 189 181 190 .none .none .none 191 427 428) ::
 (nat_lit 193,DU "looks_by_side" (Ef 31) DP (.ref 192)) ::
 (nat_lit 197,DX "marked" 430 431 432 98 2 3 194 181 195 .none .none .none 196 433 434) ::
 (nat_lit 198,DU "marked" (Ef 32) DP (.ref 197)) ::
 (nat_lit 202,DX "widened" 436 437 438 102 2 3 199 181 200 .none .none .none 201 439 440) ::
 (nat_lit 203,DU "widened" (Ef 33) DP (.ref 202)) ::
 (nat_lit 207,DX "counted_looks" 442 443 444 106 2 3 204 181 205 .none .none .none 206 445 446) ::
 (nat_lit 208,DU "counted_looks" (Ef 34) DP (.ref 207)) ::
 (nat_lit 214,DX "misses" 448 449 450 114 2 3 209 181 210 .none (.ref 211) (.ref 212) 213 459 460) ::
 (nat_lit 215,DU "misses" (Ef 35) DP (.ref 214)) ::
 (nat_lit 221,DX "first_greatest" 462 463 464 121 1 3 216 181 217 .none (.ref 218) (.ref 219) 220 468 469) ::
 (nat_lit 222,DU "first_greatest" (Ef 36) DP (.ref 221)) ::
 (nat_lit 228,DX "worst" 471 472 473 127 2 3 223 181 224 .none (.ref 225) (.ref 226) 227 476 477) ::
 (nat_lit 229,DU "worst" (Ef 37) DP (.ref 228)) ::
 (nat_lit 235,DX "unevenness" 479 480 481 129 2 3 230 181 231 .none (.ref 232) (.ref 233) 234 484 485) ::
 (nat_lit 236,DU "unevenness" (Ef 38) DP (.ref 235)) ::
 (nat_lit 240,DX "shifted" 489 490 491 132 2 3 237 181 238 .none .none .none 239 492 493) ::
 (nat_lit 241,DU "shifted" (Ef 40) DO (.ref 240)) ::
 (nat_lit 247,DX "mirrored_number" 495 496 497 134 1 3 242 181 243 .none (.ref 244) (.ref 245) 246 499 500) ::
 (nat_lit 248,DU "mirrored_number" (Ef 41) DO (.ref 247)) ::
 (nat_lit 252,DX "mirrored" 502 503 504 136 2 3 249 181 250 .none .none .none 251 505 506) ::
 (nat_lit 253,DU "mirrored" (Ef 42) DO (.ref 252)) ::
 (nat_lit 257,DX "picked" 508 509 510 138 2 3 254 181 255 .none .none .none 256 511 512) ::
 (nat_lit 258,DU "picked" (Ef 43) DO (.ref 257)) ::
 (nat_lit 264,DX "exchanged" 514 515 516 140 2 3 259 181 260 .none (.ref 261) (.ref 262) 263 519 520) ::
 (nat_lit 265,DU "exchanged" (Ef 44) DO (.ref 264)) ::
 (nat_lit 271,DX "shadow" 522 523 524 142 2 3 266 181 267 .none (.ref 268) (.ref 269) 270 527 528) ::
 (nat_lit 272,DU "shadow" (Ef 45) DO (.ref 271)) ::
 (nat_lit 278,DX "beside" 530 531 532 144 2 3 273 181 274 .none (.ref 275) (.ref 276) 277 535 536) ::
 (nat_lit 279,DU "beside" (Ef 46) DO (.ref 278)) ::
 (nat_lit 285,DX "_law_feed" 540 541 542 149 1 3 280 181 281 .none (.ref 282) (.ref 283) 284 544 545) ::
 (nat_lit 286,DU "_law_feed" (Ef 48) DN (.ref 285)) ::
 (nat_lit 292,DX "_law_draw" 547 548 549 151 2 3 287 181 288 .none (.ref 289) (.ref 290) 291 556 557) ::
 (nat_lit 293,DU "_law_draw" (Ef 49) DN (.ref 292)) ::
 (nat_lit 299,DX "_law_frac" 559 560 561 168 2 3 294 181 295 .none (.ref 296) (.ref 297) 298 566 567) ::
 (nat_lit 300,DU "_law_frac" (Ef 50) DN (.ref 299)) ::
 (nat_lit 306,DX "_law_cmp" 569 570 571 173 2 3 301 181 302 .none (.ref 303) (.ref 304) 305 576 577) ::
 (nat_lit 307,DU "_law_cmp" (Ef 51) DN (.ref 306)) ::
 (nat_lit 313,DX "_law_number" 579 580 581 177 3 3 308 181 309 .none (.ref 310) (.ref 311) 312 589 590) ::
 (nat_lit 314,DU "_law_number" (Ef 52) DN (.ref 313)) ::
 (nat_lit 318,DX "_law_points" 592 593 594 189 3 3 315 181 316 .none .none .none 317 595 596) ::
 (nat_lit 319,DU "_law_points" (Ef 53) DN (.ref 318)) ::
 (nat_lit 325,DX "_law_order" 598 599 600 203 2 3 320 181 321 .none (.ref 322) (.ref 323) 324 605 606) ::
 (nat_lit 326,DU "_law_order" (Ef 54) DN (.ref 325)) ::
 (nat_lit 330,DX "_law_round_right" 608 609 610 209 2 3 327 181 328 .none .none .none 329 611 612) ::
 (nat_lit 331,DU "_law_round_right" (Ef 55) DN (.ref 330)) ::
 (nat_lit 335,DX "_law_family_right" 614 615 616 215 4 3 332 181 333 .none .none .none 334 617 618) ::
 (nat_lit 336,DU "_law_family_right" (Ef 56) DN (.ref 335)) ::
 (nat_lit 342,DX "law" 620 621 622 231 1 3 337 181 338 .none (.ref 339) (.ref 340) 341 631 632) ::
 (nat_lit 343,DU "law" (Ef 57) DN (.ref 342))::[]
noncomputable def heapA:List Addr:=nat_lit 2::nat_lit 3::nat_lit 6::nat_lit 15::nat_lit 22::nat_lit 23::nat_lit 24::nat_lit 25::nat_lit 28::nat_lit 40::nat_lit 41::nat_lit 42::nat_lit 43::nat_lit 44::nat_lit 47::nat_lit 59::nat_lit 60::nat_lit 61::nat_lit 62::nat_lit 63::nat_lit 66::nat_lit 67::nat_lit 73::nat_lit 74::nat_lit 80::nat_lit 81::nat_lit 87::nat_lit 88::nat_lit 94::nat_lit 95::nat_lit 101::nat_lit 102::nat_lit 108::nat_lit 109::nat_lit 115::nat_lit 116::nat_lit 122::nat_lit 123::nat_lit 129::nat_lit 130::nat_lit 134::nat_lit 135::nat_lit 141::nat_lit 142::nat_lit 148::nat_lit 149::nat_lit 155::nat_lit 156::nat_lit 162::nat_lit 163::nat_lit 167::nat_lit 168::nat_lit 169::nat_lit 173::nat_lit 174::nat_lit 180::nat_lit 181::nat_lit 187::nat_lit 188::nat_lit 192::nat_lit 193::nat_lit 197::nat_lit 198::nat_lit 202::nat_lit 203::nat_lit 207::nat_lit 208::nat_lit 214::nat_lit 215::nat_lit 221::nat_lit 222::nat_lit 228::nat_lit 229::nat_lit 235::nat_lit 236::nat_lit 240::nat_lit 241::nat_lit 247::nat_lit 248::nat_lit 252::nat_lit 253::nat_lit 257::nat_lit 258::nat_lit 264::nat_lit 265::nat_lit 271::nat_lit 272::nat_lit 278::nat_lit 279::nat_lit 285::nat_lit 286::nat_lit 292::nat_lit 293::nat_lit 299::nat_lit 300::nat_lit 306::nat_lit 307::nat_lit 313::nat_lit 314::nat_lit 318::nat_lit 319::nat_lit 325::nat_lit 326::nat_lit 330::nat_lit 331::nat_lit 335::nat_lit 336::nat_lit 342::nat_lit 343::[]
theorem heapE:∀P,heapA=(heapK P).map (·.1):=fun _=>rfl
theorem zH:∀w:IL,((Jn w.params).isNs IA,(Jn w.params).objs.size,(Jn w.params).nsMap IA "__annotations__")=(true,11,some (.ref 6)):=fun w=>by kernel_rfl
set_option maxHeartbeats 0 in
theorem zleft:LeftO ER zview [] (fun s=>xlAt zview [] s&&recOk (RowW.records rwN.row.toRowW) s) (Hook.obs (kHook heapK heapA heapE)) (Hook.val (kHook heapK heapA heapE)) 4864 :=
 L2.TT.left_of (M:=4864) (by kernel_rfl) rfl (fun s=>by kernel_rfl) rfl zH fun w os=>by kernel_rfl
end K25
namespace L2
abbrev GQ:=Sum Int Str
noncomputable def kw:GQ->Hq->Bool
 | .inl k,v=>Hq.isInt k v
 | .inr x,v=>Hq.isStrOf x v
noncomputable def Dk(w:IL):GQ->Int
 | .inl k=>hashInt k
 | .inr x=>hashStr w x
theorem bc:∀{k:GQ}{v:Hq},kw k v=true->(∃i t,k=JT i/\v=M3 i t)\/(∃x t,k=Iw x/\v=NA x t)
 | .inl i,v,h=>by
   obtain⟨t,e⟩:=Hq.isInt_shape (k:=i) (v:=v) h
   exact .inl ⟨i,t,rfl,e⟩
 | .inr x,v,h=>by
   obtain⟨t,e⟩:=Hq.isStrOf_shape (x:=x) (v:=v) h
   exact .inr ⟨x,t,rfl,e⟩
theorem po(i:Int)(t:Tok):kw (.inl i) (.int i t)=true:=by simp[kw,Hq.isInt]
theorem pj(x:Str)(t:Tok):kw (.inr x) (.str x t)=true:=by simp[kw,Hq.isStrOf]
theorem yL(a b:Int):decide ((JT a:GQ)=JT b)=(a==b):=by
 by_cases e:a=b
 · subst e;simp
 · have h:¬(JT a:GQ)=JT b:=fun q=>e (JT.inj q)
   rw[decide_eq_false h]
   exact(beq_eq_false_iff_ne.mpr e).symm
theorem yI(a b:Str):decide ((Iw a:GQ)=Iw b)=decide (a=b):=by
 by_cases e:a=b
 · subst e;simp
 · have h:¬(Iw a:GQ)=Iw b:=fun q=>e (Iw.inj q)
   rw[decide_eq_false h,decide_eq_false e]
theorem yK(a:Int)(b:Str):decide ((JT a:GQ)=Iw b)=false:=decide_eq_false (fun q=>nomatch q)
theorem yJ(a:Str)(b:Int):decide ((Iw a:GQ)=JT b)=false:=decide_eq_false (fun q=>nomatch q)
noncomputable def bD(prog:HZ)(w:IL):PySem.KeyKind prog w GQ where
 is:=kw
 hash:=Dk w
 inj:=fun v a b ha hb=>by
  rcases bc ha with⟨i,t,rfl,rfl⟩|⟨x,t,rfl,rfl⟩
  · rcases bc hb with⟨j,u,rfl,e⟩|⟨y,u,rfl,e⟩
    · injection e with e1 _;rw[e1]
    · exact nomatch e
  · rcases bc hb with⟨j,u,rfl,e⟩|⟨y,u,rfl,e⟩
    · exact nomatch e
    · injection e with e1 _;rw[e1]
 byValue:=fun k v h=>by
   rcases bc h with⟨i,t,rfl,rfl⟩|⟨x,t,rfl,rfl⟩<;>rfl
 pyHash:=fun hv h=>by
  rcases bc hv with⟨i,t,rfl,rfl⟩|⟨x,t,rfl,rfl⟩
  · exact wpAny_pyHash_int h
  · exact wpAny_pyHash_str h
 eqBool:=fun hu hv h=>by
  rcases bc hu with⟨i,t,rfl,rfl⟩|⟨x,t,rfl,rfl⟩
  · rcases bc hv with⟨j,u,rfl,rfl⟩|⟨y,u,rfl,rfl⟩
    · rw[yL]at h;exact wpAny_eqBool_int h
    · rw[yK]at h;exact SeqAt.EqAt.int_str i t y u _ _ _ _ h
  · rcases bc hv with⟨j,u,rfl,rfl⟩|⟨y,u,rfl,rfl⟩
    · rw[yJ]at h;exact SeqAt.EqAt.str_int x t j u _ _ _ _ h
    · rw[yI]at h;exact wpAny_eqBool_str h
 «strs»:=fun k x t v h=>by
  rcases bc h with⟨i,u,rfl,e⟩|⟨y,u,rfl,e⟩
  · exact nomatch e
  · injection e with e1 _
    subst e1
    cases v<;>rfl
theorem kj(prog:HZ)(w:IL)(i:Int)(t:Tok):(bD prog w).is (.inl i) (.int i t)=true:=po i t
theorem ki(prog:HZ)(w:IL)(x:Str)(t:Tok):(bD prog w).is (.inr x) (.str x t)=true:=pj x t
inductive V where
 | non|bl (b:Bool)|int (i:Int)|str (x:Str)|byt (b:Array UInt8)|flt (b:UInt64)|ref (a:Addr)|ty (n:String)
 deriving DecidableEq
noncomputable def RelV:V->Hq->Prop
 | .non,u=>u=K3
 | .bl b,u=>u=Hq.bool b
 | .int i,u=>∃t,u=M3 i t
 | .str x,u=>∃t,u=NA x t
 | .byt b,u=>∃t,u=Hq.bytes b t
 | .flt b,u=>∃t,u=Hq.float b t
 | .ref a,u=>u=Kp a
 | .ty n,u=>u=Hq.type n
abbrev ci:List V->List Hq->Prop:=I0 RelV
theorem ci.length{xs:List V}(r:ci xs us):xs.length=us.length:=Kd r
theorem ci.get:∀{xs:List V}{us:List Hq}{i:Nat}{x:V},ci xs us->xs[i]?=some x->∃u,us[i]?=some u/\RelV x u
 | _,_,_,_,.nil,e=>by simp at e
 | _,_,0,_,.cons r _,e=>by simp at e;subst e;exact⟨_,rfl,r⟩
 | _,_,i+1,x,.cons _ t,e=>by
   obtain⟨u,h1,h2⟩:=ci.get (i:=i) (x:=x) t (by simpa using e)
   exact⟨u,by simpa using h1,h2⟩
theorem ci.append:∀{xs ys:List V}{us ws:List Hq},ci xs us->ci ys ws->ci (xs++ys) (us++ws)
 | _,_,_,_,.nil,s=>s
 | _,_,_,_,.cons r t,s=>.cons r (ci.append t s)
theorem ci.take:∀{xs:List V}{us:List Hq}(n:Nat),ci xs us->ci (xs.take n) (us.take n)
 | _,_,0,_=>.nil
 | _,_,_+1,.nil=>.nil
 | _,_,n+1,.cons r t=>.cons r (ci.take n t)
theorem ci.drop:∀{xs:List V}{us:List Hq}(n:Nat),ci xs us->ci (xs.drop n) (us.drop n)
 | _,_,0,r=>r
 | _,_,_+1,.nil=>.nil
 | _,_,n+1,.cons _ t=>ci.drop n t
noncomputable def wv:Option V->Option Hq->Prop
 | some v,some u=>RelV v u
 | none,none=>True
 | _,_=>False
noncomputable def KV{κ:Type}:List (κ×V)->List (κ×Hq)->Prop:=I0 fun(p:κ×V)(q:κ×Hq)=>p.1=q.1/\RelV p.2 q.2
noncomputable def kV:GQ->V
 | .inl i=>.int i
 | .inr x=>.str x
inductive HO where
 | lst (xs:List V)
 | tup (xs:List V)
 | dK (kvs:List (GQ×V))|dT (kvs:List (List GQ×V))
 | set (S:Int->Bool) (n:Nat)
 | ins (C dx:Addr) (fs:List (Str×V))
 | own (x:Addr)
 | xd (fs:List (Str×V))
 | met (f x:Addr)
 | rng (lo hi:Int)
 | frz (o:Obj) (u:HO)
 | tbl (ps:Array Hq)
 | ext (φ:Heap->Prop)
abbrev Hp:=Addr->Option HO
noncomputable def D9(H:Hp)(a:Addr)(o:HO):Hp:=fun b=>if b=a then some o else H b
theorem az{H:Hp}{o:HO}:D9 H a o a=some o:=by unfold D9;rw[if_pos rfl]
theorem aq{H:Hp}{o:HO}(h:b≠a):D9 H a o b=H b:=by unfold D9;rw[if_neg h]
theorem AM{H:Hp}{o u:HO}(h:H a=some o)(h':H b=some u)(d:o≠u):a≠b:=by
 intro e;subst e;rw[h]at h';exact d (IG h')
theorem aU{H:Hp}{o:HO}(h:H a=some o)(h':H b=none):a≠b:=by
 intro e;subst e;rw[h]at h';cases h'
section
variable(P:HZ)(w:IL)
noncomputable def qf(h:Heap)(a:Addr)(items:Array Hq):Prop:=∃o,h.get? a=some o/\o.cls = .type "tuple" /\ (∃n,o.data = .seq items n)/\o.dict=none
theorem qf.tup{h:Heap}{a:Addr}{items:Array Hq}(x:qf h a items):IsTup h a items:=let ⟨o,e1,e2,e3,_⟩:=x;⟨o,e1,e2,e3⟩
theorem qf.new(h:Heap)(items:Array Hq):qf (h.push {cls:=.type "tuple", data:=.seq items}) h.objs.size items:=⟨_,HI _ rfl,rfl,⟨_,rfl⟩,rfl⟩
noncomputable def cF(H:Hp)(h:Heap)(a:Addr):HO->Prop
 | .lst xs=>xs.length<=sizeLine/\∃(its:List Hq)(n:Nat),ci xs its/\h.get? a=some {cls:=.type "list", data:=.seq its.toArray n}
 | .tup xs=>xs.length<=sizeLine/\∃its:List Hq,ci xs its/\qf h a its.toArray
 | .dK kvs=>kvs.length<=sizeLine/\(a==Kt)=false/\∃vs,KV kvs vs/\h.DictOf (bD P w) a vs
 | .dT kvs=>kvs.length<=sizeLine/\(a==Kt)=false/\∃xs:List (List GQ×Addr×Hq),
     I0 (fun(p:List GQ×V)(q:List GQ×Addr×Hq)=>p.1=q.1/\H q.2.1=some (.tup (p.1.map kV))/\RelV p.2 q.2.2) kvs xs /\
     ∃o es ep,h.get? a=some o/\o.ExactDict/\o.data = .dict es ep/\es.toList=xs.map (entryOfKey (M5 (bD P w)))/\(xs.map (·.1)).Nodup
 | .set S n=>h.SetOf (intKind P w) a S n
 | .ins C dx fs=>H dx=some (.own a)/\fs.length<=1000/\dx≠a/\h.get? a=some (W.instObj C dx) /\
     ∃mA,h.Ns1 dx mA/\(∀f,wv (fs.lookup f) (mA f))/\PySem.Within mA (fs.map (·.1))
 | .own _=>∃o,h.get? a=some o
 | .xd fs=>∃mA,h.Ns1 a mA/\∀f,wv (fs.lookup f) (mA f)
 | .rng lo hi=>∃t u v,h.get? a=some {cls:=.type "range", data:=.fields #[.int lo t,.int hi u,.int 1 v]}
 | .frz o u=>h.get? a=some o/\cF H h a u
 | .tbl ps=>h.get? a=some {cls:=.none,data:=.fields ps}
 | .met f x=>h.get? a=some (W.methodObj (.ref f) (.ref x))
 | .ext φ=>φ h/\(∃o,h.get? a=some o)/\∀h1 h2:Heap,φ h1->(∀o,h1.get? a=some o->h2.get? a=some o)->φ h2
noncomputable def G4(H:Hp)(h:Heap):Prop:=∀a o,H a=some o->cF P w H h a o
end
section
variable{P:HZ}{w:IL}{H H':Hp}{h h':Heap}{a:Addr}{o:HO}
theorem cF.lt(x:cF P w H h a o):a<h.objs.size:=by
 cases o with
 | lst xs=>obtain⟨_,_,_,_,e⟩:=x;exact HE e
 | tup xs=>obtain⟨_,_,_,p⟩:=x;exact p.tup.lt
 | dK kvs=>obtain⟨_,_,_,_,o,_,_,e,_⟩:=x;exact HE e
 | dT kvs=>obtain⟨_,_,_,_,o,_,_,e,_⟩:=x;exact HE e
 | set S n=>obtain⟨o,_,_,_,e,_⟩:=x;exact HE e
 | ins C dx fs=>obtain⟨_,_,_,e,_⟩:=x;exact HE e
 | own y=>obtain⟨_,e⟩:=x;exact HE e
 | xd fs=>obtain⟨_,⟨_,_,_,e,_⟩,_⟩:=x;exact HE e
 | rng lo hi=>obtain⟨_,_,_,e⟩:=x;exact HE e
 | frz ob u=>obtain⟨e,_⟩:=x;exact HE e
 | tbl ps=>exact HE (show h.get? a=some _ from x)
 | met f y=>exact HE (show h.get? a=some _ from x)
 | ext φ=>obtain⟨_,⟨_,e⟩,_⟩:=x;exact HE e
theorem I0.mapP{α β:Type}{F G:α->β->Prop}:∀{l₁:List α}{l₂:List β},I0 F l₁ l₂->(∀a b,F a b->G a b)->I0 G l₁ l₂
 | _,_,.nil,_=>.nil
 | _,_,.cons r t,f=>.cons (f _ _ r) (I0.mapP t f)
theorem cF.stay(x:cF P w H h a o)(k:∀b u,(b=a\/H b=some (.own a))->h.get? b=some u->h'.get? b=some u)
 (ho:∀b,H b=some (.own a)->H' b=some (.own a))(ht:∀b xs,H b=some (.tup xs)->H' b=some (.tup xs)):cF P w H' h' a o:=by
 induction o with
 | lst xs=>obtain⟨z,its,n,r,e⟩:=x;exact⟨z,its,n,r,k _ _ (.inl rfl) e⟩
 | tup xs=>obtain⟨z,its,r,ob,e,c⟩:=x;exact⟨z,its,r,ob,k _ _ (.inl rfl) e,c⟩
 | dK kvs=>obtain⟨z,y,vs,r,ob,es,ep,e,c⟩:=x;exact⟨z,y,vs,r,ob,es,ep,k _ _ (.inl rfl) e,c⟩
 | dT kvs =>
   obtain⟨z,y,xs,r,ob,es,ep,e,c⟩:=x
   exact⟨z,y,xs,I0.mapP r fun p q z=>⟨z.1,ht _ _ z.2.1,z.2.2⟩,ob,es,ep,k _ _ (.inl rfl) e,c⟩
 | set S n=>obtain⟨ob,es,ep,t,e,c⟩:=x;exact⟨ob,es,ep,t,k _ _ (.inl rfl) e,c⟩
 | ins C dx fs =>
   obtain⟨d,z,ne,e,mA,⟨od,es,ep,e2,c⟩,r⟩:=x
   exact⟨ho _ d,z,ne,k _ _ (.inl rfl) e,mA,⟨od,es,ep,k _ _ (.inr d) e2,c⟩,r⟩
 | own y=>obtain⟨ob,e⟩:=x;exact⟨ob,k _ _ (.inl rfl) e⟩
 | xd fs=>obtain⟨mA,⟨od,es,ep,e,c⟩,r⟩:=x;exact⟨mA,⟨od,es,ep,k _ _ (.inl rfl) e,c⟩,r⟩
 | rng lo hi=>obtain⟨t,u,v,e⟩:=x;exact⟨t,u,v,k _ _ (.inl rfl) e⟩
 | frz ob u ih=>obtain⟨e,q⟩:=x;exact⟨k _ _ (.inl rfl) e,ih q⟩
 | tbl ps =>
   have e:h.get? a=some {cls:=.none,data:=.fields ps}:=x
   show h'.get? a=some {cls:=.none,data:=.fields ps}
   exact k a _ (.inl rfl) e
 | met f y =>
   have e:h.get? a=some (W.methodObj (.ref f) (.ref y)):=x
   show h'.get? a=some (W.methodObj (.ref f) (.ref y))
   exact k a _ (.inl rfl) e
 | ext φ=>obtain⟨p,⟨o,e⟩,st⟩:=x;exact⟨st _ _ p fun o q=>k _ _ (.inl rfl) q,⟨o,k _ _ (.inl rfl) e⟩,st⟩
theorem G4.lt(x:G4 P w H h)(e:H a=some o):a<h.objs.size:=(x a o e).lt
theorem G4.fresh(x:G4 P w H h)(e:h.objs.size<=a):H a=none:=by
 cases q:H a with
 | none=>rfl
 | some u=>exact absurd (Hz (x.lt q) e) (Jb _)
theorem G4.kept(x:G4 P w H h)(k:∀b u,h.get? b=some u->h'.get? b=some u):G4 P w H h':=fun a o e =>
 (x a o e).stay (fun b u _ q=>k b u q) (fun _ q=>q) fun _ _ q=>q
theorem G4.laid(x:G4 P w H h)(k:∀b u,h.get? b=some u->h'.get? b=some u)(hp:h.objs.size<=a)(new:cF P w (D9 H a o) h' a o):G4 P w (D9 H a o) h':=fun b u e=>by
 have hn:=x.fresh hp
 by_cases hb:b=a
 · subst hb;rw[az]at e;cases e;exact new
 · rw[aq hb]at e
   exact(x b u e).stay (fun c v _ q=>k c v q) (fun c q=>by rw[aq (aU q hn)];exact q) fun c xs q=>by rw[aq (aU q hn)];exact q
end
noncomputable def Rd(H:Hp)(a:Addr)(u:HO):Prop:=H a=some u\/∃o,H a=some (.frz o u)
theorem Rd.ok{H:Hp}{u:HO}(r:Rd H a u)(x:G4 P w H h):cF P w H h a u:=by
 rcases r with r|⟨o,r⟩
 · exact x a u r
 · obtain⟨_,q⟩:=x a _ r
   exact q
noncomputable def GM:Option HO->Prop
 | some (.lst _)=>True
 | some (.dK _)=>True
 | some (.dT _)=>True
 | some (.set _ _)=>True
 | some (.ins _ _ _)=>True
 | some (.ext _)=>True
 | _=>False
section
variable{P:HZ}{w:IL}{H:Hp}{h h':Heap}{x e:Addr}{o':HO}
theorem G4.write(ok:G4 P w H h)(mu:GM (H x))(he:e=x\/H e=some (.own x))(k:∀b u,b≠e->h.get? b=some u->h'.get? b=some u)(heo:∃u,h'.get? e=some u)
 (new:cF P w (D9 H x o') h' x o'):G4 P w (D9 H x o') h':=fun b u q=>by
 have nown:∀c y,H c=some (.own y)->c≠x:=fun c y r z=>by subst z;rw[r]at mu;exact mu
 have ntup:∀c xs,H c=some (.tup xs)->c≠x:=fun c xs r z=>by subst z;rw[r]at mu;exact mu
 by_cases hb:b=x
 · subst hb;rw[az]at q;cases q;exact new
 · rw[aq hb]at q
   by_cases hbe:b=e
   · have q':H b=some (.own x):=by
       rcases he with z|z
       · exact absurd (hbe.trans z) hb
       · rw[hbe];exact z
     rw[q]at q';cases q'
     obtain⟨v,hv⟩:=heo
     exact⟨v,by rw[hbe];exact hv⟩
   · refine(ok b u q).stay (fun c v hc r=>k c v ?_ r) (fun c r=>by rw[aq (nown c b r)];exact r) fun c xs r=>by rw[aq (ntup c xs r)];exact r
     rcases hc with rfl|hc
     · exact hbe
     · rintro rfl
       rcases he with z|z
       · exact nown c b hc z
       · rw[hc]at z;cases z;exact hb rfl
end
structure Un (fs ex:List Addr) (H H':Hp) (h h':Heap):Prop where
 keep:∀b o,h.get? b=some o->H b=none->b∉fs->b∉ex->h'.get? b=some o
 slot:∀b o,h.get? b=some o->H b=none->b∈fs->b∉ex->∃sl,h'.get? b=some {o with slots:=sl}
 free:∀b o,h.get? b=some o->H b=none->b∉ex->H' b=none
 there:∀b o,h.get? b=some o->b∉ex->∃o',h'.get? b=some o'
 tups:∀b xs,H b=some (.tup xs)->H' b=some (.tup xs)
 frzs:∀b o u,H b=some (.frz o u)->H' b=some (.frz o u)
 tbls:∀b ps,H b=some (.tbl ps)->∃more,H' b=some (.tbl (ps++more))
section
variable{fs fs' ex ex':List Addr}{H H1 H2:Hp}{h h1 h2 h':Heap}{a x e:Addr}{o:HO}
theorem Un.any(u:Un fs ex H H1 h h1){ob:Obj}(q:h.get? b=some ob)(n:H b=none)(hx:b∉ex):∃sl,h1.get? b=some {ob with slots:=sl}:=by
 by_cases hb:b∈fs
 · exact u.slot b ob q n hb hx
 · exact⟨ob.slots,u.keep b ob q n hb hx⟩
theorem Un.kept(k:∀b u,h.get? b=some u->h'.get? b=some u):Un fs ex H H h h' :=
 ⟨fun b ob q _ _ _=>k b ob q,fun b ob q _ _ _=>⟨ob.slots,k b ob q⟩,fun _ _ _ n _=>n,fun b ob q _=>⟨ob,k b ob q⟩,fun _ _ q=>q,fun _ _ _ q=>q,fun _ ps q=>⟨#[],by rw[q];simp⟩⟩
theorem Un.refl:Un fs ex H H h h:=Un.kept fun _ _ q=>q
theorem Un.laid(k:∀b u,h.get? b=some u->h'.get? b=some u)(hp:h.objs.size<=a)(hn:H a=none):Un fs ex H (D9 H a o) h h' where
 keep:=fun b u q _ _ _=>k b u q
 slot:=fun b u q _ _ _=>⟨u.slots,k b u q⟩
 free:=fun b u q n _=>by rw[aq (Is (Hz (HE q) hp))];exact n
 there:=fun b u q _=>⟨u,k b u q⟩
 tups:=fun b xs q=>by rw[aq (aU q hn)];exact q
 frzs:=fun b u xs q=>by rw[aq (aU q hn)];exact q
 tbls:=fun b ps q=>⟨#[],by rw[aq (aU q hn),q];simp⟩
theorem Un.write(mu:GM (H x))(he:e=x\/H e=some (.own x))(k:∀b u,b≠e->h.get? b=some u->h'.get? b=some u)(heo:∃u,h'.get? e=some u):Un fs ex H (D9 H x o) h h':=by
 have hx:∀b,H b=none->b≠x:=fun b n z=>by subst z;rw[n]at mu;exact mu
 have hb:∀b,H b=none->b≠e:=fun b n z=>by
  subst z
  rcases he with r|r
  · exact hx b n r
  · rw[n]at r;cases r
 have hm:∀b u,H b=some u->¬GM (some u)->b≠x:=fun b u q nm z=>by subst z;rw[q]at mu;exact nm mu
 refine⟨fun b u q n _ _=>k b u (hb b n) q,fun b u q n _ _=>⟨u.slots,k b u (hb b n) q⟩,fun b u q n _=>by rw[aq (hx b n)];exact n,fun b u q _=>?_,
  fun b xs q=>by rw[aq (hm b _ q fun z=>z)];exact q,fun b u xs q=>by rw[aq (hm b _ q fun z=>z)];exact q,fun b ps q=>⟨#[],by rw[aq (hm b _ q fun z=>z),q];simp⟩⟩
 by_cases hbe:b=e
 · subst hbe;exact heo
 · exact⟨u,k b u hbe q⟩
end
noncomputable def Ee(h:Heap)(H:Hp):List Addr:=(HL h.objs.size).filter fun a=>(H a).isSome
noncomputable def rC(h:Heap)(H:Hp):Heap:=W.hideAll h (Ee h H)
theorem pG(h:Heap)(H:Hp):(rC h H).objs.size=h.objs.size:=W.hideAll_size _ _
theorem rB{H:Hp}{o:Obj}(e:h.get? b=some o)(n:H b=none):(rC h H).get? b=some o :=
 W.hideAll_get _ e fun hm=>by
  have q:(H b).isSome=true:=(JX.mp hm).2
  rw[n]at q;simp at q
theorem vp{H:Hp}{o:Obj}(e:(rC h H).get? b=some o):h.get? b=some o/\H b=none:=by
 have e':h.get? b=some o:=W.of_hideAll (Ee h H) e
 refine⟨e',?_⟩
 cases q:H b with
 | none=>rfl
 | some x =>
   have hm:b∈Ee h H:=JX.mpr ⟨Im.mpr (HE e'),by simp[q]⟩
   have z:(rC h H).get? b=none:=W.hideAll_none (Ee h H) hm
   rw[z]at e;cases e
noncomputable def wm(g h:Heap)(L:Addr):List (Addr×Obj):=(HL h.objs.size).filterMap fun a=>if a=L\/(g.get? a).isSome=true then none else(h.get? a).map fun o=>(a,o)
noncomputable def rest(g h:Heap)(L d:Addr):List (Addr×Obj):=(wm g h L).filter fun p=>decide (p.1≠d)
structure Mod (K:W.Frag) (mg:Str->Option Hq) (base:Heap):Prop where
 kin:K.In base
 glob:base.Ns IA mg
 blt:∃mb,base.Ns builtinsNs mb/\∀x:Str,x ≠ "__name__" -> mb x=KH x
 nolimit:base.NoLimit
structure Cx where
 prog:HZ
 w:IL
 K:W.Frag
 mg:Str->Option Hq
 base:Heap
 A:ID
 N:List Str
 s₀:Hv
 H₀:Hp
 env:Env
 outer:List Env
 stack:List Env
 ex:List Addr
 fn:Str->Bool
 calm:Bool
 pn:List (Addr×Obj)
 xe:Hq->Hv->Prop
noncomputable def frs(l:List Env):List Addr:=l.filterMap (·.frame)
abbrev Cx.fs(X:Cx):List Addr:=frs X.outer
noncomputable def F0(sc:Scope)(x:Str):Prop:=sc.names.lookup x=some .local\/sc.names.lookup x=some .cell\/sc.names.lookup x=some .free
noncomputable def Loc(sc:Scope)(x:Str):Prop:=sc.names.lookup x=some .local\/sc.names.lookup x=some .cell
noncomputable def Look(env:Env)(h:Heap)(m:Str->Option Hq)(x:Str)(u:Hq):Prop :=
 (env.kindOf x=some .local/\m x=some u)\/((env.kindOf x=some .cell\/env.kindOf x=some .free)/\∃c,env.cells.lookup x=some c/\h.IsCell c (some u))
structure Cx.Ok (X:Cx):Prop where
 mod:Mod X.K X.mg X.base
 kind:X.env.scope.kind = .function
 glob:X.env.globals=IA
 blt:X.env.builtins=builtinsNs
 above:X.s₀.heap.objs.size<=X.env.locals
 inj:∀x y c,X.env.cells.lookup x=some c->X.env.cells.lookup y=some c->x=y
 has:∀x,(X.env.kindOf x=some .cell\/X.env.kindOf x=some .free)->∃c,X.env.cells.lookup x=some c
 cab:∀x c,X.fn x=true->X.env.cells.lookup x=some c->X.s₀.heap.objs.size<=c
 hd:X.calm=true->X.A.handled=none
 frames:X.A.frames=some X.stack
 stk:X.stack=X.outer\/(X.stack=X.env::X.outer/\X.env.frame=some X.env.locals)
 exf:∀b∈X.ex,b≠X.env.locals/\∀x c,X.env.cells.lookup x=some c->c≠b
 bs:∀b o,X.base.get? b=some o->X.s₀.heap.get? b=some o/\X.H₀ b=none
 bsz:X.base.objs.size<=X.s₀.heap.objs.size
 noex:∀b o,X.base.get? b=some o->b∉X.ex
 exfs:∀b∈X.ex,b∉X.fs
 funs:X.s₀.heap.FunFrames X.base X.outer
 frf:∀b∈X.fs,X.H₀ b=none
structure Inv (X:Cx) (pins:List (Addr×Obj)) (σ:List (Option V)) (H:Hp) (s:Hv):Prop where
 ok:X.Ok
 os:s.os=X.s₀.os
 bare:MN s.gens
 base:Un X.fs X.ex X.H₀ H X.s₀.heap s.heap
 loc:∃m,s.heap.Ns X.env.locals m/\∀(i:Nat)(x:Str)(v:V),X.N[i]?=some x->σ[i]?=some (some v)->F0 X.env.scope x->∃u,RelV v u/\Look X.env s.heap m x u
 cell:∀x c,X.env.cells.lookup x=some c->∃v,s.heap.IsCell c v
 free:H X.env.locals=none
 freeC:∀x c,X.env.cells.lookup x=some c->H c=none
 pin:∀p∈X.pn++pins,s.heap.get? p.1=some p.2/\H p.1=none/\p.1≠X.env.locals/\p.1∉X.fs/\∀v,p.2.data ≠ .cell v
 hok:G4 X.prog X.w H s.heap
 len:σ.length=X.N.length
section
variable{X:Cx}{pins:List (Addr×Obj)}{σ:List (Option V)}{H H':Hp}{s:Hv}{h':Heap}
theorem Cx.Ok.nofr(ok:X.Ok){o:Obj}(e:X.base.get? b=some o):b∉X.fs:=fun hb=>by
 have:=(ok.funs.mem hb).1
 rw[e]at this;cases this
theorem Inv.bs(I:Inv X pins σ H s):∀b o,X.base.get? b=some o->s.heap.get? b=some o/\H b=none:=fun b o e =>
 ⟨I.base.keep b o (I.ok.bs b o e).1 (I.ok.bs b o e).2 (I.ok.nofr e) (I.ok.noex b o e),I.base.free b o (I.ok.bs b o e).1 (I.ok.bs b o e).2 (I.ok.noex b o e)⟩
theorem Inv.bk(I:Inv X pins σ H s):∀b o,X.base.get? b=some o->s.heap.get? b=some o:=fun b o e=>(I.bs b o e).1
theorem Inv.mod(I:Inv X pins σ H s):Mod X.K X.mg X.base:=I.ok.mod
theorem Inv.kIn(I:Inv X pins σ H s):X.K.In s.heap:=I.ok.mod.kin.keeps I.bk
theorem Inv.lt(I:Inv X pins σ H s):X.env.locals<s.heap.objs.size:=let ⟨_,hn,_⟩:=I.loc;hn.lt
theorem Inv.sz(I:Inv X pins σ H s):X.s₀.heap.objs.size<=s.heap.objs.size:=IH I.ok.above (No I.lt)
theorem Inv.nofs(I:Inv X pins σ H s)(h:s.heap.objs.size<=a):a∉X.fs:=fun hb=>by
 obtain⟨_,o,ho,_⟩:=I.ok.funs.mem hb
 exact absurd (Hz (HE ho) (IH I.sz h)) (Jb _)
theorem Inv.cne(I:Inv X pins σ H s):∀x c,X.env.cells.lookup x=some c->c≠X.env.locals:=fun x c e z=>by
 obtain⟨v,o,ho,hd⟩:=I.cell x c e
 obtain⟨m,⟨o',es,ep,ho',hd',_⟩,_⟩:=I.loc
 rw[z,ho']at ho;cases ho;rw[hd']at hd;cases hd
theorem Inv.funs(I:Inv X pins σ H s):s.heap.FunFrames X.base X.outer:=by
 have all:∀(l:List Env),(∀b∈frs l,b∈X.fs)->X.s₀.heap.FunFrames X.base l->s.heap.FunFrames X.base l:=by
  intro l
  induction l with
  | nil=>intro _ _;trivial
  | cons env r ih =>
    intro hs hl
    obtain⟨hk,⟨L,o,hf,hn,ho,hd⟩,hr⟩:=hl
    have hL:L∈X.fs:=hs L (by unfold frs;rw[Ju,hf];exact Ht)
    obtain⟨sl,e⟩:=I.base.slot L o ho (I.ok.frf L hL) hL fun z=>I.ok.exfs L z hL
    exact⟨hk,⟨L,_,hf,hn,e,hd⟩,ih (fun b hb=>hs b (by unfold frs;rw[Ju,hf];exact Hn _ hb)) hr⟩
 exact all X.outer (fun _ hb=>hb) I.ok.funs
theorem Inv.stack(I:Inv X pins σ H s):s.heap.FunFrames X.base X.stack:=by
 rcases I.ok.stk with e|⟨e,hf⟩
 · rw[e];exact I.funs
 · rw[e]
   obtain⟨m,hn,_⟩:=I.loc
   refine .cons (by rw[I.ok.kind];decide) hf hn ?_ I.funs
   exact Heap.get?_none_of_le (IH I.ok.bsz I.ok.above)
theorem Inv.stkSub(I:Inv X pins σ H s):∀b∈frs X.stack,b∈X.env.locals::X.fs:=fun b hb=>by
 rcases I.ok.stk with e|⟨e,hf⟩
 · rw[e]at hb;exact Hn _ hb
 · rw[e]at hb
   unfold frs at hb
   rw[Ju,hf]at hb
   exact hb
theorem Inv.stkFree(I:Inv X pins σ H s):∀b∈frs X.stack,H b=none:=fun b hb=>by
 rcases HJ.mp (I.stkSub b hb)with e|hb
 · rw[e];exact I.free
 · obtain⟨_,o,ho,_⟩:=I.ok.funs.mem hb
   exact I.base.free b o ho (I.ok.frf b hb) fun z=>I.ok.exfs b z hb
theorem Inv.step{g':Array GenState}{d':Drawn}{ch:List Addr}(I:Inv X pins σ H s)
 (hch:∀b∈ch,(b∈X.ex\/X.s₀.heap.objs.size<=b)/\b≠X.env.locals/\(∀x c,X.env.cells.lookup x=some c->c≠b)/\∀p∈X.pn++pins,p.1≠b)
 (keep:∀b o,b≠X.env.locals->b∉X.fs->b∉ch->s.heap.get? b=some o->H b=none->h'.get? b=some o)
 (slot:∀b o,b≠X.env.locals->b∈X.fs->b∉ch->s.heap.get? b=some o->H b=none->∃sl,h'.get? b=some {o with slots:=sl})(free:∀b o,b∉ch->s.heap.get? b=some o->H b=none->H' b=none)
 (there:∀b o,b∉ch->s.heap.get? b=some o->∃o',h'.get? b=some o')
 (tups:∀b xs,H b=some (.tup xs)->H' b=some (.tup xs))(frzs:∀b o u,H b=some (.frz o u)->H' b=some (.frz o u))(tbls:∀b ps,H b=some (.tbl ps)->∃more,H' b=some (.tbl (ps++more)))
 (ns:∀m,s.heap.Ns X.env.locals m->h'.Ns X.env.locals m)(hok:G4 X.prog X.w H' h')(hg:MN g') :
 Inv X pins σ H' {s with heap:=h',gens:=g',drawn:=d',toks:=t' }:=by
 have neL:∀b o,X.s₀.heap.get? b=some o->b≠X.env.locals:=fun b o e=>Is (Hz (HE e) I.ok.above)
 have neC:∀b o,X.s₀.heap.get? b=some o->b∉X.ex->b∉ch:=fun b o e hx hb=>by
  rcases(hch b hb).1 with z|z
  · exact hx z
  · exact absurd (Hz (HE e) z) (Jb _)
 have cellK:∀x c,X.env.cells.lookup x=some c->∀v,s.heap.IsCell c v->h'.IsCell c v:=fun x c e v ⟨o,ho,hd⟩=>by
  have nch:c∉ch:=fun z=>(hch c z).2.2.1 x c e rfl
  by_cases hc:c∈X.fs
  · obtain⟨sl,q⟩:=slot c o (I.cne x c e) hc nch ho (I.freeC x c e)
    exact⟨_,q,hd⟩
  · exact⟨o,keep c o (I.cne x c e) hc nch ho (I.freeC x c e),hd⟩
 refine⟨I.ok,I.os,hg,⟨fun b o e n hb hx=>?_,fun b o e n hb hx=>?_,fun b o e n hx=>?_,fun b o e hx=>?_,fun b xs e=>tups b xs (I.base.tups b xs e),fun b o xs e=>frzs b o xs (I.base.frzs b o xs e),fun b ps e=>?_⟩,?_,fun x c e=>?_,?_,fun x c e=>?_,fun p hp=>?_,hok,I.len⟩
 · exact keep b o (neL b o e) hb (neC b o e hx) (I.base.keep b o e n hb hx) (I.base.free b o e n hx)
 · obtain⟨sl,e1⟩:=I.base.slot b o e n hb hx
   obtain⟨sl',e2⟩:=slot b _ (neL b o e) hb (neC b o e hx) e1 (I.base.free b o e n hx)
   exact⟨sl',e2⟩
 · obtain⟨o',e1⟩:=I.base.there b o e hx
   exact free b o' (neC b o e hx) e1 (I.base.free b o e n hx)
 · obtain⟨o',e1⟩:=I.base.there b o e hx
   exact there b o' (neC b o e hx) e1
 · obtain⟨m1,e1⟩:=I.base.tbls b ps e
   obtain⟨m2,e2⟩:=tbls b _ e1
   exact⟨m1++m2,by rw[e2,Array.append_assoc]⟩
 · obtain⟨m,hn,hl⟩:=I.loc
   refine⟨m,ns m hn,fun i x v e1 e2 e3=>?_⟩
   obtain⟨u,r,l⟩:=hl i x v e1 e2 e3
   refine⟨u,r,?_⟩
   rcases l with l|⟨k,c,e,z⟩
   · exact .inl l
   · exact .inr ⟨k,c,e,cellK x c e _ z⟩
 · obtain⟨v,z⟩:=I.cell x c e
   exact⟨v,cellK x c e v z⟩
 · obtain⟨m,⟨o,_,_,ho,_⟩,_⟩:=I.loc
   exact free _ o (fun z=>(hch _ z).2.1 rfl) ho I.free
 · obtain⟨v,o,ho,hd⟩:=I.cell x c e
   exact free c o (fun z=>(hch c z).2.2.1 x c e rfl) ho (I.freeC x c e)
 · obtain⟨e,n,ne,nf,d⟩:=I.pin p hp
   have nch:p.1∉ch:=fun z=>(hch p.1 z).2.2.2 p hp rfl
   exact⟨keep p.1 p.2 ne nf nch e n,free p.1 p.2 nch e n,ne,nf,d⟩
theorem Inv.un(I:Inv X pins σ H s)(u:Un X.fs [] H H' s.heap h')(hok:G4 X.prog X.w H' h'):Inv X pins σ H' {s with heap:=h',toks:=t' }:=by
 obtain⟨m,⟨o,es,ep,ho,r⟩,_⟩:=id I.loc
 obtain⟨sl,hL⟩:=u.any ho I.free (by simp)
 exact I.step (g':=s.gens) (d':=s.drawn) (ch:=[]) (fun _ z=>nomatch z) (fun b o _ hb _ e n=>u.keep b o e n hb (by simp)) (fun b o _ hb _ e n=>u.slot b o e n hb (by simp)) (fun b o _ e n=>u.free b o e n (by simp)) (fun b o _ e=>u.there b o e (by simp)) u.tups u.frzs u.tbls (fun m' hm=>by
  obtain⟨o',es',ep',ho',r'⟩:=hm
  rw[ho]at ho';cases ho'
  exact⟨_,es',ep',hL,r'⟩) hok I.bare
theorem Inv.call{g':Array GenState}{d':Drawn}{ch:List Addr}(I:Inv X pins σ H s)(u:Un (frs X.stack) ch H H' s.heap h')(hok:G4 X.prog X.w H' h')(hg:MN g')
 (hch:∀b∈ch,(b∈X.ex\/X.s₀.heap.objs.size<=b)/\b≠X.env.locals/\(∀x c,X.env.cells.lookup x=some c->c≠b)/\∀p∈X.pn++pins,p.1≠b) :
 Inv X pins σ H' {s with heap:=h',gens:=g',drawn:=d',toks:=t' }:=by
 obtain⟨m,⟨o,es,ep,ho,r⟩,_⟩:=id I.loc
 obtain⟨sl,hL⟩:=u.any ho I.free fun z=>(hch _ z).2.1 rfl
 exact I.step (ch:=ch) hch (fun b o hL hb hc e n=>u.keep b o e n (fun z=>(HJ.mp (I.stkSub b z)).elim hL hb) hc) (fun b o _ _ hc e n=>u.any e n hc) (fun b o hc e n=>u.free b o e n hc) (fun b o hc e=>u.there b o e hc) u.tups u.frzs u.tbls (fun m' hm=>by
  obtain⟨o',es',ep',ho',r'⟩:=hm
  rw[ho]at ho';cases ho'
  exact⟨_,es',ep',hL,r'⟩) hok hg
theorem Inv.turned(I:Inv X pins σ H s)(k:∀b o,b≠it->s.heap.get? b=some o->h'.get? b=some o)(hn:H it=none)(hL:it≠X.env.locals)
 (h1:it∈X.ex\/X.s₀.heap.objs.size<=it)(h2:∀x c,X.env.cells.lookup x=some c->c≠it)(h3:∀p∈X.pn++pins,p.1≠it):Inv X pins σ H {s with heap:=h',toks:=t' }:=by
 have nit:∀b u,H b=some u->b≠it:=fun b u e z=>by rw[z,hn]at e;cases e
 refine I.step (g':=s.gens) (d':=s.drawn) (ch:=[it]) (fun b hb=>?_) (fun b o _ _ hc e _=>k b o (fun z=>hc (by simp[z])) e) (fun b o _ _ hc e _=>⟨o.slots,k b o (fun z=>hc (by simp[z])) e⟩) (fun _ _ _ _ n=>n)
  (fun b o hc e=>⟨o,k b o (fun z=>hc (by simp[z])) e⟩) (fun _ _ e=>e) (fun _ _ _ e=>e) (fun b ps e=>⟨#[],by rw[e];simp⟩) (fun m hm=>?_) (fun b u e=>?_) I.bare
 · have e:b=it:=by simpa using hb
   subst e
   exact⟨h1,hL,h2,h3⟩
 · obtain⟨o,es,ep,ho,r⟩:=hm
   exact⟨o,es,ep,k _ o (Mp hL) ho,r⟩
 · refine(I.hok b u e).stay (fun c v hc q=>k c v ?_ q) (fun _ q=>q) fun _ _ q=>q
   rcases hc with z|z
   · rw[z];exact nit b u e
   · exact nit c _ z
theorem Inv.tok(I:Inv X pins σ H s)(t:Nat):Inv X pins σ H {s with toks:=t}:=I.un (h':=s.heap) (t':=t) Un.refl I.hok
theorem Inv.kept{t':Nat}(I:Inv X pins σ H s)(k:∀b u,s.heap.get? b=some u->h'.get? b=some u):Inv X pins σ H {s with heap:=h',toks:=t' }:=I.un (Un.kept k) (I.hok.kept k)
theorem Inv.laid{a:Addr}{o:HO}{t':Nat}(I:Inv X pins σ H s)(k:∀b u,s.heap.get? b=some u->h'.get? b=some u)(hp:s.heap.objs.size<=a)(new:cF X.prog X.w (D9 H a o) h' a o) :
 Inv X pins σ (D9 H a o) {s with heap:=h',toks:=t' }:=I.un (Un.laid k hp (I.hok.fresh hp)) (I.hok.laid k hp new)
theorem Inv.write{x e:Addr}{o:HO}{t':Nat}(I:Inv X pins σ H s)(mu:GM (H x))(he:e=x\/H e=some (.own x))(k:∀b u,b≠e->s.heap.get? b=some u->h'.get? b=some u)(heo:∃u,h'.get? e=some u)
 (new:cF X.prog X.w (D9 H x o) h' x o):Inv X pins σ (D9 H x o) {s with heap:=h',toks:=t' }:=I.un (Un.write mu he k heo) (I.hok.write mu he k heo new)
theorem Inv.pins_of{pins':List (Addr×Obj)}(I:Inv X pins σ H s)(h:∀p∈pins',s.heap.get? p.1=some p.2/\H p.1=none/\p.1≠X.env.locals/\p.1∉X.fs/\∀v,p.2.data ≠ .cell v):Inv X pins' σ H s :=
 ⟨I.ok,I.os,I.bare,I.base,I.loc,I.cell,I.free,I.freeC,fun p hp=>(HW.mp hp).elim (fun z=>I.pin p (Io _ z)) (h p),I.hok,I.len⟩
theorem ll(hN:N.Nodup)(a:N[i]?=some x)(b:N[j]?=some x):i=j:=by
 obtain⟨h1,e1⟩:=Ia.mp a
 obtain⟨h2,e2⟩:=Ia.mp b
 exact(List.getElem_inj hN).mp (e1.trans e2.symm)
theorem dW{M:Model}{v:V}{Q:Unit->Hv->Prop}(I:Inv X pins σ H s)(hN:X.N.Nodup)(hi:X.N[i]?=some x)(hx:Loc X.env.scope x)(r:RelV v u)
 (h:∀s',Inv X pins (σ.set i (some v)) H s'->(∃a,J5 a s.heap s'.heap/\(a=X.env.locals\/X.env.cells.lookup x=some a))->Q () s')(hf:X.fn x=true\/X.env.scope.names.lookup x=some .local:=by first|exact .inl rfl|exact .inr rfl|assumption):HS M A (storeName X.env x u) Q E s:=by
 obtain⟨m,hn,hl⟩:=id I.loc
 have hcls:(X.env.scope.kind == .class||(X.env.scope.kind == .module&&X.env.locals != X.env.globals))=false:=by rw[I.ok.kind];rfl
 have hiσ:i<σ.length:=by rw[I.len];exact(Ia.mp hi).1
 have cne:=I.cne
 have tracked:∀{a:Addr}{h':Heap},(∃o,s.heap.get? a=some o/\H a=none)->J5 a s.heap h'->G4 X.prog X.w H h':=fun{a h'} ha hs b ob e=>by
  obtain⟨_,_,hfree⟩:=ha
  refine(I.hok b ob e).stay (fun c w' hc q=>(hs.2 c ?_).trans q) (fun _ q=>q) fun _ _ q=>q
  rintro rfl
  rcases hc with rfl|hc
  · rw[hfree]at e;cases e
  · rw[hfree]at hc;cases hc
 rcases hx with hk|hk
 · refine wpAny_storeName_local hk hn (fun h' hn' hs=>?_) hcls
   obtain⟨oL,_,_,hoL,_⟩:=id hn
   refine h _ ⟨I.ok,I.os,I.bare,⟨fun b o e n hb hx=>?_,fun b o e n hb hx=>?_,I.base.free,fun b o e hx=>?_,I.base.tups,I.base.frzs,I.base.tbls⟩,⟨_,hn',fun j y v' e1 e2 e3=>?_⟩,fun y c e=>?_,I.free,I.freeC,fun p hp=>?_,tracked ⟨oL,hoL,I.free⟩ hs,by simpa using I.len⟩ ⟨_,hs,.inl rfl⟩
   · exact(hs.2 b (Is (Hz (HE e) I.ok.above))).trans (I.base.keep b o e n hb hx)
   · obtain⟨sl,e1⟩:=I.base.slot b o e n hb hx
     exact⟨sl,(hs.2 b (Is (Hz (HE e) I.ok.above))).trans e1⟩
   · obtain⟨o',e1⟩:=I.base.there b o e hx
     exact⟨o',(hs.2 b (Is (Hz (HE e) I.ok.above))).trans e1⟩
   · by_cases hj:j=i
     · subst hj
       rw[hi]at e1;cases e1
       rw[Ib hiσ]at e2
       cases e2
       exact⟨u,r,.inl ⟨hk,by simp⟩⟩
     · rw[HU (Mp hj)]at e2
       obtain⟨u',r',q⟩:=hl j y v' e1 e2 e3
       refine⟨u',r',?_⟩
       rcases q with⟨k,e⟩|⟨k,c,e,z⟩
       · refine .inl ⟨k,?_⟩
         have:y≠x:=fun e=>hj (ll hN e1 (e▸hi))
         simp[this,e]
       · exact .inr ⟨k,c,e,z.sameBut hs (cne y c e)⟩
   · obtain⟨w',z⟩:=I.cell y c e
     exact⟨w',z.sameBut hs (cne y c e)⟩
   · obtain⟨e,n,ne,nf,d⟩:=I.pin p hp
     exact⟨(hs.2 p.1 ne).trans e,n,ne,nf,d⟩
 · have hfn:X.fn x=true:=by
     rcases hf with z|z
     · exact z
     · rw[z]at hk;cases hk
   obtain⟨c,hc⟩:=I.ok.has x (.inl hk)
   obtain⟨w',z⟩:=I.cell x c hc
   refine wpAny_storeName_cell I.ok.kind hk hc z (fun h' hc' hs=>?_)
   obtain⟨oc,hoc,hocd⟩:=id z
   refine h {s with heap:=h' } ⟨I.ok,I.os,I.bare,⟨fun b o e n hb hx=>?_,fun b o e n hb hx=>?_,I.base.free,fun b o e hx=>?_,I.base.tups,I.base.frzs,I.base.tbls⟩,⟨m,hn.sameBut hs (Mp (cne x c hc)),fun j y v' e1 e2 e3=>?_⟩,fun y c' e=>?_,I.free,I.freeC,fun p hp=>?_,tracked ⟨oc,hoc,I.freeC x c hc⟩ hs,by simpa using I.len⟩ ⟨c,hs,.inr hc⟩
   · exact(hs.2 b (Is (Hz (HE e) (I.ok.cab x c hfn hc)))).trans (I.base.keep b o e n hb hx)
   · obtain⟨sl,e1⟩:=I.base.slot b o e n hb hx
     exact⟨sl,(hs.2 b (Is (Hz (HE e) (I.ok.cab x c hfn hc)))).trans e1⟩
   · obtain⟨o',e1⟩:=I.base.there b o e hx
     exact⟨o',(hs.2 b (Is (Hz (HE e) (I.ok.cab x c hfn hc)))).trans e1⟩
   · by_cases hj:j=i
     · subst hj
       rw[hi]at e1;cases e1
       rw[Ib hiσ]at e2
       cases e2
       exact⟨u,r,.inr ⟨.inl hk,c,hc,hc'⟩⟩
     · rw[HU (Mp hj)]at e2
       obtain⟨u',r',q⟩:=hl j y v' e1 e2 e3
       refine⟨u',r',?_⟩
       rcases q with q|⟨k,c',e,z'⟩
       · exact .inl q
       · refine .inr ⟨k,c',e,z'.sameBut hs ?_⟩
         rintro rfl
         exact hj (ll hN e1 (I.ok.inj _ _ _ e hc▸hi))
   · by_cases hcc:c'=c
     · subst hcc;exact⟨_,hc'⟩
     · obtain⟨w2,z2⟩:=I.cell y c' e
       exact⟨w2,z2.sameBut hs hcc⟩
   · obtain⟨e,n,ne,nf,d⟩:=I.pin p hp
     refine⟨(hs.2 p.1 ?_).trans e,n,ne,nf,d⟩
     intro q
     rw[q,hoc]at e
     have q':oc=p.2:=IG e
     exact d w' (by rw[<- q'];exact hocd)
theorem dX{M:Model}{v:V}{Q:Unit->Hv->Prop}(I:Inv X pins σ H s)(hN:X.N.Nodup)(hi:X.N[i]?=some x)(hx:Loc X.env.scope x)(r:RelV v u)
 (h:∀s',Inv X pins (σ.set i (some v)) H s'->Q () s')(hf:X.fn x=true\/X.env.scope.names.lookup x=some .local:=by first|exact .inl rfl|exact .inr rfl|assumption):HS M A (storeName X.env x u) Q E s :=
 dW I hN hi hx r (fun s' I' _=>h s' I') hf
end
abbrev XK:=Hq->Option Addr->Hp->Prop
abbrev St:=List (Option V)
abbrev VK:=V->Hp->Prop
abbrev TE:=St->Hp->VK->Prop
abbrev TT:=St->Hp->(Bool->Hp->Prop)->Prop
abbrev TA:=St->Hp->(List V->Hp->Prop)->Prop
structure Ends where
 nx:St->Hp->Prop
 rt:VK
 bk:St->Hp->Prop:=fun _ _=>False
 ct:St->Hp->Prop:=fun _ _=>False
abbrev TS:=Ends->St->Hp->Prop
noncomputable def EP(X:Cx)(pins:List (Addr×Obj))(σ:St)(Q:VK)(u:Hq)(s':Hv):Prop:=∃v H',Inv X pins σ H' s'/\RelV v u/\Q v H'
noncomputable def TP(X:Cx)(pins:List (Addr×Obj))(σ:St)(Q:Bool->Hp->Prop)(b:Bool)(s':Hv):Prop:=∃H',Inv X pins σ H' s'/\Q b H'
noncomputable def AP(X:Cx)(pins:List (Addr×Obj))(σ:St)(Q:List V->Hp->Prop)(us:List Hq)(s':Hv):Prop:=∃vs H',Inv X pins σ H' s'/\ci vs us/\Q vs H'
noncomputable def SP(X:Cx)(pins:List (Addr×Obj))(D:Ends)(f:Flow)(s':Hv):Prop :=
 match f with
 | .next=>∃σ' H',Inv X pins σ' H' s'/\D.nx σ' H'
 | .brk=>∃σ' H',Inv X pins σ' H' s'/\D.bk σ' H'
 | .cont=>∃σ' H',Inv X pins σ' H' s'/\D.ct σ' H'
 | .ret u=>∃v σ' H',Inv X pins σ' H' s'/\RelV v u/\D.rt v H'
noncomputable def PE(X:Cx)(e:Expr)(t:TE):Prop :=
 ∀(pins:List (Addr×Obj))(s:Hv)(σ:St)(H:Hp)(Q:VK),Inv X pins σ H s->t σ H Q->HS (Ie X.prog X.w) X.A (eval e X.env) (EP X pins σ Q) X.xe s
noncomputable def PT(X:Cx)(e:Expr)(t:TT):Prop :=
 ∀(pins:List (Addr×Obj))(s:Hv)(σ:St)(H:Hp)(Q:Bool->Hp->Prop),Inv X pins σ H s->t σ H Q->HS (Ie X.prog X.w) X.A (isTrue e X.env (eval e X.env)) (TP X pins σ Q) X.xe s
noncomputable def PW(X:Cx)(e:Expr)(t:TT):Prop :=
 ∀(whole:Sem Hq)(pins:List (Addr×Obj))(s:Hv)(σ:St)(H:Hp)(Q:Bool->Hp->Prop),Inv X pins σ H s->t σ H Q->HS (Ie X.prog X.w) X.A (isTrue e X.env whole) (TP X pins σ Q) X.xe s
theorem PW.pt{X:Cx}{t:TT}(h:PW X e t):PT X e t:=h _
noncomputable def PA(X:Cx)(es:List Expr)(t:TA):Prop :=
 ∀(pos:Pos)(pins:List (Addr×Obj))(s:Hv)(σ:St)(H:Hp)(Q:List V->Hp->Prop),Inv X pins σ H s->t σ H Q->HS (Ie X.prog X.w) X.A (spliced (Je pos (Hy es X.env))) (AP X pins σ Q) X.xe s
noncomputable def PS(X:Cx)(st:Stmt)(t:TS):Prop :=
 ∀(pins:List (Addr×Obj))(s:Hv)(σ:St)(H:Hp)(D:Ends),Inv X pins σ H s->t D σ H->HS (Ie X.prog X.w) X.A (exec st X.env) (SP X pins D) X.xe s
noncomputable def GA(X:Cx)(st:List Stmt)(t:TS):Prop :=
 ∀(pins:List (Addr×Obj))(s:Hv)(σ:St)(H:Hp)(D:Ends),Inv X pins σ H s->t D σ H->HS (Ie X.prog X.w) X.A (execs st X.env) (SP X pins D) X.xe s
theorem Eh{t:Sem α}{Q Q':α->Hv->Prop}{M:Model}(h:HS M A t Q E s)(hQ:∀a s,Q a s->Q' a s):HS M A t Q' E s:=Ih h hQ fun _ _ x=>x
section
variable{X:Cx}
noncomputable def Af(i:Nat):TE:=fun σ H Q=>∃v,σ[i]?=some (some v)/\Q v H
noncomputable def tC(v:V):TE:=fun _ H Q=>Q v H
theorem cx(hN:X.N[i]?=some x)(hv:F0 X.env.scope x)(hd:(x==("__debug__" : Str))=false:=by decide)(hcd:(x==("__classdict__" : Str))=false:=by decide):PE X (.Name x pos) (Af i):=by
 intro pins s σ H Q I h
 obtain⟨v,e,h⟩:=h
 obtain⟨m,hn,hl⟩:=I.loc
 obtain⟨u,r,l⟩:=hl i x v hN e hv
 have fin:EP X pins σ Q u s:=⟨v,H,I,r,h⟩
 rcases l with⟨hk,hm⟩|⟨hk,c,hc,hcell⟩
 · exact wpAny_Name (MF I.ok.kind hk hn hm fin) hd
 · rcases hk with hk|hk
   · exact wpAny_Name (MO I.ok.kind hk hc hcell fin) hd
   · exact wpAny_Name (wpAny_loadName_free I.ok.kind hk hc hcell fin hcd) hd
theorem lj{i j pos}:PE X (.Constant (.int i) j pos) (tC (.int i)):=fun _ _ _ H _ I h=>wpAny_Constant_int ⟨.int i,H,I.tok _,⟨_,rfl⟩,h⟩
theorem AH{b j pos}:PE X (.Constant (.bool b) j pos) (tC (.bl b)):=fun _ _ _ H _ I h=>Constant_bool ⟨.bl b,H,I,rfl,h⟩
theorem dj{x j pos}:PE X (.Constant (.str x) j pos) (tC (.str x)):=fun _ _ _ H _ I h=>Calls.Constant_str ⟨.str x,H,I.tok _,⟨_,rfl⟩,h⟩
noncomputable def Gl(X:Cx)(x:Str):Prop:=X.env.kindOf x=some .globalImplicit
theorem o9{σ:St}{H:Hp}(I:Inv X pins σ H s)(hg:Gl X x)(hm:X.mg x=some u)(h:Q u s)
 (hd:(x==("__debug__" : Str))=false:=by decide):HS (Ie X.prog X.w) X.A (eval (.Name x pos) X.env) Q E s :=
 LM I.ok.kind hg (Calls.loadGlobal_global (by rw[I.ok.glob];exact I.mod.glob.keeps I.bk) hm h) hd
theorem eW{σ:St}{H:Hp}(I:Inv X pins σ H s)(hg:Gl X x)(hm:X.mg x=none)(hv:KH x=some u)(h:Q u s)
 (hn:x ≠ "__name__" := by decide)(hd:(x==("__debug__" : Str))=false:=by decide):HS (Ie X.prog X.w) X.A (eval (.Name x pos) X.env) Q E s:=by
 obtain⟨mb,h1,h2⟩:=I.mod.blt
 exact LM I.ok.kind hg (Calls.loadGlobal_builtin (by rw[I.ok.glob];exact I.mod.glob.keeps I.bk) hm (by rw[I.ok.blt];exact h1.keeps I.bk) ((h2 x hn).trans hv) h) hd
theorem u8{v:V}(hg:Gl X x)(hm:X.mg x=some u)(r:RelV v u)(hd:(x==("__debug__" : Str))=false:=by decide):PE X (.Name x pos) (tC v) :=
 fun _ _ _ H _ I h=>o9 I hg hm ⟨v,H,I,r,h⟩ hd
variable{a b:Expr}{ta tb:TE}{pos:Pos}
noncomputable def tB(t:TE):TT:=fun σ H Q=>t σ H fun x H1=>∃c,x = .bl c/\Q c H1
theorem x5{t:TE}(h:PE X e t)(he:∀whole,isTrue e X.env whole=(do let v <- whole;MP e.pos;holding [v] (truthy v)):=by intro _;rfl):PT X e (tB t):=by
 intro pins s σ H Q I hw
 refine isTrue_plain (Eh (h pins s σ H _ I hw) fun v s1 ⟨x,H1,I1,r1,q1⟩=>?_) (he _)
 obtain⟨d,rfl,q⟩:=q1
 cases r1
 exact J9 ⟨H1,I1,q⟩
variable{tA tB':TT}{rest:List Expr}
noncomputable def De(t u:TT):TT:=fun σ H Q=>t σ H fun c H1=>if c=true then u σ H1 Q else Q false H1
noncomputable def C8(t:TT):TT:=fun σ H Q=>t σ H fun c H1=>Q (!c) H1
theorem uN(ha:PT X a tA):PW X (.BoolOp .And [a] pos) tA:=by
 intro wh pins s σ H Q I h
 refine isTrue_and (Eh (ha pins s σ H Q I h) fun c s1 e=>?_)
 cases c with
 | true=>exact isTrue_and_nil e
 | false=>exact e
theorem xZ(ha:PT X a tA)(hb:PW X (.BoolOp .And (b::rest) pos) tB'):PW X (.BoolOp .And (a::b::rest) pos) (De tA tB'):=by
 intro wh pins s σ H Q I h
 refine isTrue_and (Eh (ha pins s σ H _ I h) fun c s1 ⟨H1,I1,q1⟩=>?_)
 cases c with
 | true=>exact hb wh pins s1 σ H1 Q I1 q1
 | false=>exact⟨H1,I1,q1⟩
theorem x6(ha:PT X a tA):PT X (.UnaryOp .Not a pos) (C8 tA):=by
 intro pins s σ H Q I h
 exact isTrue_not (ha pins s σ H (fun c H1=>Q (!c) H1) I h)
noncomputable def Ao(ta tb:TE):TE:=fun σ H Q=>ta σ H fun x H1=>∃c,x = .bl c/\if c=true then tb σ H1 Q else Q (.bl false) H1
noncomputable def C7(ta tb:TE):TE:=fun σ H Q=>ta σ H fun x H1=>∃c,x = .bl c/\if c=true then Q (.bl true) H1 else tb σ H1 Q
noncomputable def Ai(ta:TE):TE:=fun σ H Q=>ta σ H fun x H1=>∃c,x = .bl c/\Q (.bl (!c)) H1
theorem yg{op}{t:TE}(h:PE X a t):PE X (.BoolOp op [a] pos) t:=fun pins s σ H Q I hw=>BoolOp_one (h pins s σ H Q I hw)
theorem yj(ha:PE X a ta)(hb:PE X (.BoolOp .And (b::rest) pos) tb):PE X (.BoolOp .And (a::b::rest) pos) (Ao ta tb):=by
 intro pins s σ H Q I h
 refine BoolOp_and (Eh (ha pins s σ H _ I h) fun v s1 ⟨x,H1,I1,r1,q1⟩=>?_)
 obtain⟨c,rfl,q1⟩:=q1
 cases r1
 refine J9 ?_
 cases c with
 | true=>exact hb pins s1 σ H1 Q I1 q1
 | false=>exact⟨.bl false,H1,I1,rfl,q1⟩
theorem AF(ha:PE X a ta)(hb:PE X (.BoolOp .Or (b::rest) pos) tb):PE X (.BoolOp .Or (a::b::rest) pos) (C7 ta tb):=by
 intro pins s σ H Q I h
 refine BoolOp_or (Eh (ha pins s σ H _ I h) fun v s1 ⟨x,H1,I1,r1,q1⟩=>?_)
 obtain⟨c,rfl,q1⟩:=q1
 cases r1
 refine J9 ?_
 cases c with
 | false=>exact hb pins s1 σ H1 Q I1 q1
 | true=>exact⟨.bl true,H1,I1,rfl,q1⟩
theorem yh(ha:PE X a ta):PE X (.UnaryOp .Not a pos) (Ai ta):=by
 intro pins s σ H Q I h
 refine UnaryOp_ (Eh (ha pins s σ H _ I h) fun v s1 ⟨x,H1,I1,r1,q1⟩=>?_)
 obtain⟨c,rfl,q1⟩:=q1
 cases r1
 exact not_of (J9 ⟨.bl (!c),H1,I1,rfl,q1⟩)
noncomputable def Eo(t:TT)(ta tb:TE):TE:=fun σ H Q=>t σ H fun c H1=>if c=true then ta σ H1 Q else tb σ H1 Q
theorem qR(hc:PT X c tA)(ha:PE X a ta)(hb:PE X b tb):PE X (.IfExp c a b pos) (Eo tA ta tb):=by
 intro pins s σ H Q I h
 refine wpAny_IfExp (Eh (hc pins s σ H _ I h) fun d s1 ⟨H1,I1,q1⟩=>?_)
 cases d with
 | true=>exact ha pins s1 σ H1 Q I1 q1
 | false=>exact hb pins s1 σ H1 Q I1 q1
end
noncomputable def Go(K:W.Frag)(H:Hp)(a:Addr)(xs:List V):Prop :=
 Rd H a (.lst xs) \/
  ∃(o:Obj)(its:Array Hq)(n:Nat),K.lookup a=some o/\o.cls = .type "list" /\ o.dict=none/\o.data = .seq its n/\its.size<=sizeLine/\ci xs its.toList
noncomputable def Gm(K:W.Frag)(H:Hp)(a:Addr)(xs:List V):Prop :=
 Rd H a (.tup xs) \/
  ∃(o:Obj)(its:Array Hq)(n:Nat),K.lookup a=some o/\o.cls = .type "tuple" /\ o.data = .seq its n/\its.size<=sizeLine/\ci xs its.toList/\o.dict=none
noncomputable def DA:Hq->Option V
 | .none=>some .non
 | .bool b=>some (.bl b)
 | .int i _=>some (.int i)
 | .str x _=>some (.str x)
 | .bytes b _=>some (.byt b)
 | .float b _=>some (.flt b)
 | .ref a=>some (.ref a)
 | .type n=>some (.ty n)
 | _=>none
theorem RelV.abs{x:V}(r:RelV x u):DA u=some x:=by
 cases x with
 | non=>cases r;rfl
 | bl _=>cases r;rfl
 | int _=>obtain⟨t,rfl⟩:=r;rfl
 | str _=>obtain⟨t,rfl⟩:=r;rfl
 | byt _=>obtain⟨t,rfl⟩:=r;rfl
 | flt _=>obtain⟨t,rfl⟩:=r;rfl
 | ref _=>cases r;rfl
 | ty _=>cases r;rfl
theorem RelV.inj{x y:V}(r:RelV x u)(q:RelV y u):x=y:=IG (r.abs.symm.trans q.abs)
theorem ci.inj:∀{xs ys:List V}{us:List Hq},ci xs us->ci ys us->xs=ys
 | _,_,_,.nil,.nil=>rfl
 | _,_,_,.cons r t,.cons r' t'=>by rw[r.inj r',ci.inj t t']
section
variable{X:Cx}{pins:List (Addr×Obj)}{σ:St}{H:Hp}{s:Hv}{a:Addr}{xs ys:List V}
theorem Inv.list(I:Inv X pins σ H s)(h:Go X.K H a xs):∃its:List Hq,ci xs its/\PlainL s.heap a its.toArray/\xs.length<=sizeLine:=by
 rcases h with h|⟨o,its,n,hk,hc,hd,hs,hz,r⟩
 · obtain⟨z,its,n,r,e⟩:=h.ok I.hok
   exact⟨its,r,⟨_,n,e,rfl,rfl,rfl⟩,z⟩
 · refine⟨its.toList,r,⟨o,n,I.kIn a o hk,hc,hd,by simpa using hs⟩,?_⟩
   have e:=r.length
   simp only[KE]at e
   omega
theorem Inv.tuple(I:Inv X pins σ H s)(h:Gm X.K H a xs):∃its:List Hq,ci xs its/\IsTup s.heap a its.toArray/\xs.length<=sizeLine:=by
 rcases h with h|⟨o,its,n,hk,hc,hs,hz,r,hd⟩
 · obtain⟨z,its,r,p⟩:=h.ok I.hok
   exact⟨its,r,p.tup,z⟩
 · refine⟨its.toList,r,⟨o,I.kIn a o hk,hc,n,by simpa using hs⟩,?_⟩
   have e:=r.length
   simp only[KE]at e
   omega
theorem Inv.list_inj(I:Inv X pins σ H s)(h:Go X.K H a xs)(h':Go X.K H a ys):xs=ys:=by
 obtain⟨its,r,⟨o,n,e,_,_,d⟩,_⟩:=I.list h
 obtain⟨its',r',⟨o',n',e',_,_,d'⟩,_⟩:=I.list h'
 rw[e]at e';cases e'
 rw[d]at d'
 injection d' with d1 _
 have:its=its':=by simpa using congrArg Array.toList d1
 subst this
 exact r.inj r'
theorem Inv.tupleD(I:Inv X pins σ H s)(h:Gm X.K H a xs):∃ob,s.heap.get? a=some ob/\ob.cls = .type "tuple" /\ ob.dict=none:=by
 rcases h with h|⟨o,its,n,hk,hc,hs,hz,r,hd⟩
 · obtain⟨z,its,r,⟨o,e1,e2,_,e3⟩⟩:=h.ok I.hok
   exact⟨o,e1,e2,e3⟩
 · exact⟨o,I.kIn a o hk,hc,hd⟩
theorem Inv.tuple_inj(I:Inv X pins σ H s)(h:Gm X.K H a xs)(h':Gm X.K H a ys):xs=ys:=by
 obtain⟨its,r,⟨o,e,_,n,d⟩,_⟩:=I.tuple h
 obtain⟨its',r',⟨o',e',_,n',d'⟩,_⟩:=I.tuple h'
 rw[e]at e';cases e'
 rw[d]at d'
 injection d' with d1 _
 have:its=its':=by simpa using congrArg Array.toList d1
 subst this
 exact r.inj r'
end
abbrev Cx.wish(X:Cx)(E:Hq->Hv->Prop):Cx:={X with xe:=E}
abbrev Cx.nox(X:Cx):Cx:=X.wish fun _ _=>False
theorem Cx.Ok.wish{X:Cx}(ok:X.Ok)(E:Hq->Hv->Prop):(X.wish E).Ok :=
 ⟨ok.mod,ok.kind,ok.glob,ok.blt,ok.above,ok.inj,ok.has,ok.cab,ok.hd,ok.frames,ok.stk,ok.exf,ok.bs,ok.bsz,ok.noex,ok.exfs,ok.funs,ok.frf⟩
theorem Cx.Ok.unwish{X:Cx}(ok:(X.wish E).Ok):X.Ok :=
 ⟨ok.mod,ok.kind,ok.glob,ok.blt,ok.above,ok.inj,ok.has,ok.cab,ok.hd,ok.frames,ok.stk,ok.exf,ok.bs,ok.bsz,ok.noex,ok.exfs,ok.funs,ok.frf⟩
section
variable{X:Cx}{pins:List (Addr×Obj)}{σ:St}{H:Hp}{s:Hv}{E:Hq->Hv->Prop}
theorem Inv.wish(I:Inv X pins σ H s)(E:Hq->Hv->Prop):Inv (X.wish E) pins σ H s:=⟨I.ok.wish E,I.os,I.bare,I.base,I.loc,I.cell,I.free,I.freeC,I.pin,I.hok,I.len⟩
theorem Inv.unwish(I:Inv (X.wish E) pins σ H s):Inv X pins σ H s:=⟨I.ok.unwish,I.os,I.bare,I.base,I.loc,I.cell,I.free,I.freeC,I.pin,I.hok,I.len⟩
theorem SP.unwish{D:Ends}{f:Flow}{s':Hv}(h:SP (X.wish E) pins D f s'):SP X pins D f s':=by
 cases f with
 | next=>obtain⟨σ',H',I,q⟩:=h;exact⟨σ',H',I.unwish,q⟩
 | brk=>obtain⟨σ',H',I,q⟩:=h;exact⟨σ',H',I.unwish,q⟩
 | cont=>obtain⟨σ',H',I,q⟩:=h;exact⟨σ',H',I.unwish,q⟩
 | ret u=>obtain⟨v,σ',H',I,r,q⟩:=h;exact⟨v,σ',H',I.unwish,r,q⟩
theorem GA.nox{st:List Stmt}{t:TS}(h:GA X.nox st t):GA X st t:=fun pins s σ H D I hw =>
 Ih (h pins s σ H D (I.wish _) hw) (fun _ _ q=>q.unwish) fun _ _ z=>Jw z
end
section
variable{X:Cx}{st:Stmt}{rest:List Stmt}{t u:TS}{e:Expr}{te:TE}{pos:Pos}
noncomputable def Aj:TS:=fun D σ H=>D.nx σ H
noncomputable def C3(t u:TS):TS:=fun D σ H=>t {D with nx:=u D} σ H
theorem oG:GA X [] Aj:=fun _ _ σ H _ I h=>Ly ⟨σ,H,I,h⟩
theorem fy(h1:PS X st t)(h2:GA X rest u):GA X (st::rest) (C3 t u):=by
 intro pins s σ H D I h
 refine wpAny_execs_cons (Eh (h1 pins s σ H {D with nx:=u D} I h) fun f s1 q=>?_)
 cases f with
 | next =>
   obtain⟨σ',H',I',q⟩:=q
   exact h2 pins s1 σ' H' D I' q
 | ret v=>exact q
 | brk=>exact q
 | cont=>exact q
theorem oE(h1:PS X st t):GA X [st] t:=by
 intro pins s σ H D I h
 refine wpAny_execs_cons (Eh (h1 pins s σ H D I h) fun f s1 q=>?_)
 cases f with
 | next=>exact Ly q
 | ret v=>exact q
 | brk=>exact q
 | cont=>exact q
theorem Inv.quiet{σ:St}{H:Hp}(I:Inv X pins σ H s):interactive X.env=false:=by simp[interactive,I.ok.kind]
noncomputable def Al(te:TE):TS:=fun D σ H=>te σ H fun _ H1=>D.nx σ H1
theorem j8(he:PE X e te)(hs:JE e none pos.line X.env=pure false:=by rfl):PS X (.Expr e pos) (Al te):=by
 intro pins s σ H D I h
 exact wpAny_Expr_any (Eh (he pins s σ H _ I h) fun v s1 ⟨x,H1,I1,r1,q1⟩=>⟨σ,H1,I1,q1⟩) I.quiet hs
noncomputable def C5(te:TE):TS:=fun D σ H=>te σ H D.rt
theorem sN(he:PE X e te):PS X (.Return (some e) pos) (C5 te):=by
 intro pins s σ H D I h
 exact wpAny_Return_some (Eh (he pins s σ H _ I h) fun v s1 ⟨x,H1,I1,r1,q1⟩=>⟨x,σ,H1,I1,r1,q1⟩)
noncomputable def Da(c:TT)(t u:TS):TS:=fun D σ H=>c σ H fun b H1=>if b=true then t D σ H1 else u D σ H1
theorem AB{a b:List Stmt}{tc:TT}(hc:PT X c tc)(ha:GA X a t)(hb:GA X b u):PS X (.If c a b pos) (Da tc t u):=by
 intro pins s σ H D I h
 refine wpAny_If (Eh (hc pins s σ H _ I h) fun d s1 ⟨H1,I1,q1⟩=>?_)
 cases d with
 | true=>exact ha pins s1 σ H1 D I1 q1
 | false=>exact hb pins s1 σ H1 D I1 q1
noncomputable def xn:TS:=fun _ _ _=>False
theorem qO:PS X st xn:=fun _ _ _ _ _ _ h=>h.elim
end
abbrev TG:=V->St->Hp->(St->Hp->Prop)->Prop
abbrev Gk:=List V->St->Hp->(St->Hp->Prop)->Prop
noncomputable def PG(X:Cx)(target:Expr)(t:TG):Prop :=
 ∀ (pins:List (Addr×Obj))(s:Hv)(σ:St)(H:Hp)(v:V)(u:Hq)(Q:St->Hp->Prop),Inv X pins σ H s->RelV v u->t v σ H Q ->
   HS (Ie X.prog X.w) X.A (Kz target X.env u) (fun _ s'=>∃σ' H',Inv X pins σ' H' s'/\Q σ' H') X.xe s
noncomputable def GH(X:Cx)(ts:List Expr)(t:Gk):Prop :=
 ∀ (pins:List (Addr×Obj))(s:Hv)(σ:St)(H:Hp)(vs:List V)(us:List Hq)(Q:St->Hp->Prop),Inv X pins σ H s->ci vs us->t vs σ H Q ->
   HS (Ie X.prog X.w) X.A (M6 ((Kj ts X.env).map (·.2)) us) (fun _ s'=>∃σ' H',Inv X pins σ' H' s'/\Q σ' H') X.xe s
abbrev Gi:=V->V->Hp->VK->Prop
noncomputable def GE(X:Cx)(op:Nz)(t:Gi):Prop :=
 ∀ (pins:List (Addr×Obj))(s:Hv)(σ:St)(H:Hp)(x y:V)(v u:Hq)(Q:VK),Inv X pins σ H s->RelV x v->RelV y u->t x y H Q ->
   HS (Ie X.prog X.w) X.A (inplaceOp op v u) (EP X pins σ Q) X.xe s
section
variable{X:Cx}{pos:Pos}
noncomputable def iG(i:Nat):TG:=fun v σ H Q=>Q (σ.set i (some v)) H
theorem u4(hN:X.N.Nodup)(hi:X.N[i]?=some x)(hx:Loc X.env.scope x)(hf:X.fn x=true\/X.env.scope.names.lookup x=some .local:=by first|exact .inl rfl|exact .inr rfl|assumption):PG X (.Name x pos) (iG i):=by
 intro pins s σ H v u Q I r h
 exact K4 (dX I hN hi hx r (fun s' I'=>⟨_,H,I',h⟩) hf)
noncomputable def Du:Gk:=fun vs σ H Q=>vs=[]/\Q σ H
noncomputable def A8(t:TG)(u:Gk):Gk:=fun vs σ H Q=>∃v r,vs=v::r/\t v σ H fun σ' H'=>u r σ' H' Q
theorem u3:GH X [] Du:=by
 intro pins s σ H vs us Q I r h
 obtain⟨e,h⟩:=h
 subst e
 cases r
 exact assignInOrder_nil ⟨σ,H,I,h⟩
theorem qP{es:List Expr}{t:TG}{u:Gk}(h1:PG X e t)(h2:GH X es u)
 (hs:(Kj (e::es) X.env).map (·.2)=Kz e X.env::(Kj es X.env).map (·.2):=by rfl):GH X (e::es) (A8 t u):=by
 intro pins s σ H vs us Q I r h
 obtain⟨v,vr,e1,h⟩:=h
 subst e1
 cases r with
 | cons r rr =>
   rw[hs]
   refine LO (Eh (h1 pins s σ H _ _ _ I r h) fun _ s1 ⟨σ1,H1,I1,q1⟩=>?_)
   exact h2 pins s1 σ1 H1 _ _ Q I1 rr q1
noncomputable def Dt(K:W.Frag)(n:Nat)(t:Gk):TG:=fun v σ H Q=>∃a xs,v = .ref a/\Gm K H a xs/\xs.length=n/\t xs σ H Q
theorem ye{es:List Expr}{k:Nat}{t:Gk}(hc:X.calm=true)(h:GH X es t)
 (hn:(Kj es X.env).length=n:=by rfl)(hst:(Kj es X.env).findIdx? (·.1)=none:=by rfl):PG X (.Tuple es k pos) (Dt X.K n t):=by
 intro pins s σ H v u Q I r hw
 obtain⟨a,xs,e1,hq,hl,hw⟩:=hw
 subst e1
 cases r
 obtain⟨its,rv,ht,hz⟩:=I.tuple hq
 refine assign_Tuple_tuple (I.ok.hd hc) ht (by simp[hn,<- hl,rv.length]) hst fun h' hx=>?_
 have I1:Inv X pins σ H {s with heap:=h' }:=I.kept (t':=s.toks) fun b o e=>hx b o (Is (HE e)) e
 exact h pins _ σ H xs _ Q I1 (by simpa using rv) hw
noncomputable def xq(te:TE)(g:TG):TS:=fun D σ H=>te σ H fun x H1=>g x σ H1 D.nx
theorem x_{te:TE}{g:TG}(he:PE X e te)(hg:PG X tg g)(hs:L5 [tg] e pos.line X.env=pure false:=by rfl)(hw:L6 [tg] e X.env=pure none:=by rfl)
 (h1:(Kj [tg] X.env).map (·.2)=[Kz tg X.env]:=by rfl):PS X (.Assign [tg] e pos) (xq te g):=by
 intro pins s σ H D I h
 refine wpAny_Assign_stores (Eh (he pins s σ H _ I h) fun v s1 ⟨x,H1,I1,r1,q1⟩=>?_) hs hw
 rw[h1]
 exact Eh (hg pins s1 σ H1 x v _ I1 r1 q1) fun _ s2 q=>q
theorem fP{te:TE}(hN:X.N.Nodup)(hi:X.N[i]?=some x)(hx:Loc X.env.scope x)(he:PE X e te)(hs:JE e (some (.Name x pos')) pos.line X.env=pure false:=by rfl)(hf:X.fn x=true\/X.env.scope.names.lookup x=some .local:=by first|exact .inl rfl|exact .inr rfl|assumption) :
 PS X (.Assign [.Name x pos'] e pos) (xq te (iG i)):=by
 intro pins s σ H D I h
 refine wpAny_Assign_Name (Eh (he pins s σ H _ I h) fun v s1 ⟨y,H1,I1,r1,q1⟩=>?_) hs
 exact dX I1 hN hi hx r1 (fun s2 I2=>⟨_,H1,I2,q1⟩) hf
noncomputable def C6(i j:Nat)(ta:TA):TS:=fun D σ H=>ta σ H fun vs H1=>∃v w,vs=[v,w]/\D.nx ((σ.set i (some v)).set j (some w)) H1
theorem x8{y:Str}{a b:Expr}{ta:TA}{py pt:Pos}{kt k2 pt2}(hc:X.calm=true)(hN:X.N.Nodup)(hi:X.N[i]?=some x)(hj:X.N[j]?=some y)(hij:i≠j)
 (hx:X.env.scope.names.lookup x=some .local)(hy:X.env.scope.names.lookup y=some .local)(ha:PA X [a,b] ta)
 (hw:L6 [.Tuple [.Name x px,.Name y py] kt pt] (.Tuple [a,b] k2 pt2) X.env=pure (some [x,y]))
 (hs:L5 [.Tuple [.Name x px,.Name y py] kt pt] (.Tuple [a,b] k2 pt2) pos.line X.env=pure false:=by rfl) :
 PS X (.Assign [.Tuple [.Name x px,.Name y py] kt pt] (.Tuple [a,b] k2 pt2) pos) (C6 i j ta):=by
 intro pins s σ H D I h
 rw[exec_Assign_arm]
 refine Hi (Jt ?_)
 rw[hs]
 refine Hi (HH ?_)
 rw[if_neg (by decide)]
 refine Hi (Tuple_ (Eh (ha _ pins s σ H _ I h) fun us s1 ⟨vs,H1,I1,r1,q1⟩=>?_))
 obtain⟨v,w,e1,q1⟩:=q1
 subst e1
 obtain⟨u1,u2,rfl,rv,rw'⟩:∃u1 u2,us=[u1,u2]/\RelV v u1/\RelV w u2:=by
  cases r1 with
  | cons p q =>
    cases q with
    | cons p' q' =>
      cases q'
      exact⟨_,_,rfl,p,p'⟩
 refine Jx ?_ (by show 2<=sizeLine;decide)
 have I2:Inv X pins σ H1 {s1 with heap:=s1.heap.push {cls:=.type "tuple", data:=.seq [u1,u2].toArray}}:=I1.kept (t':=s1.toks) fun b o e=>Hl _ e
 rw[hw]
 refine Hi (HH ?_)
 show HS (Ie X.prog X.w) X.A (do rule "assign.swapped-stores"; let items <- unpackItems (.ref s1.heap.objs.size) 2 none;M6 [fun v=>bindName X.env y v,fun v=>bindName X.env x v] items.reverse;pure Flow.next) _ _ _
 refine Hi (K5 (Hi (unpackItems_tuple (items:=#[u1,u2]) (I.ok.hd hc) (IsTup.new s1.heap _) fun h' hx'=>?_)))
 have I3:=I2.kept (h':=h') (t':=s1.toks) fun b o e=>hx' b o (Is (HE e)) e
 show HS _ _ (M6 [fun v=>bindName X.env y v,fun v=>bindName X.env x v] [u2,u1] >>= fun _=>pure Flow.next) _ _ _
 refine Hi (LO (wpAny_bindName (dX I3 hN hj (.inl hy) rw' (fun s2 I4=>?_) (.inr hy))))
 refine LO (wpAny_bindName (dX I4 hN hi (.inl hx) rv (fun s3 I5=>assignInOrder_nil (HH ?_)) (.inr hx)))
 rw[List.set_comm _ _ (Mp hij)]at I5
 exact⟨_,H1,I5,q1⟩
noncomputable def Dc(i:Nat)(te:TE)(ti:Gi):TS:=fun D σ H=>∃x,σ[i]?=some (some x)/\te σ H fun y H1=>ti x y H1 fun z H2=>D.nx (σ.set i (some z)) H2
theorem x9{te:TE}{op:Nz}{ti:Gi}(hN:X.N.Nodup)(hi:X.N[i]?=some x)(hx:Loc X.env.scope x)(he:PE X e te)(ho:GE X op ti)(hf:X.fn x=true\/X.env.scope.names.lookup x=some .local:=by first|exact .inl rfl|exact .inr rfl|assumption) :
 PS X (.AugAssign (.Name x pos') op e pos) (Dc i te ti):=by
 intro pins s σ H D I h
 obtain⟨v,e1,h⟩:=h
 obtain⟨m,hn,hl⟩:=I.loc
 have vis:F0 X.env.scope x:=by rcases hx with k|k;exact .inl k;exact .inr (.inl k)
 obtain⟨u,r,l⟩:=hl i x v hi e1 vis
 refine wpAny_AugAssign_Name ?_
 have go:HS (Ie X.prog X.w) X.A (eval e X.env) (fun w s₂=>HS (Ie X.prog X.w) X.A (inplaceOp op u w) (fun r s₃=>HS (Ie X.prog X.w) X.A (storeName X.env x r) (fun _=>SP X pins D .next) X.xe s₃) X.xe s₂) X.xe s:=by
  refine Eh (he pins s σ H _ I h) fun w s1 ⟨y,H1,I1,r1,q1⟩=>?_
  refine Eh (ho pins s1 σ H1 v y u w _ I1 r r1 q1) fun z s2 ⟨zv,H2,I2,r2,q2⟩=>?_
  exact dX I2 hN hi hx r2 (fun s3 I3=>⟨_,H2,I3,q2⟩) hf
 rcases l with⟨hk,hm⟩|⟨hk,c,hc,hcell⟩
 · exact MF I.ok.kind hk hn hm go
 · rcases hk with hk|hk
   · exact MO I.ok.kind hk hc hcell go
   · rcases hx with k|k
     · have:X.env.scope.names.lookup x=some .free:=hk
       rw[k]at this;cases this
     · have:X.env.scope.names.lookup x=some .free:=hk
       rw[k]at this;cases this
end
section
variable{X:Cx}{pos:Pos}
noncomputable def xm(c:TT)(tb:TS):TS:=fun D σ H=>∃W:Nat->St->Hp->Prop,(∃m,W m σ H)/\∀m σ H,W m σ H ->
 c σ H fun b H1=>if b=true then ∃N:St->Hp->Prop,(∀σ' H',N σ' H'->∃m',m'<m/\W m' σ' H')/\tb {D with nx:=N,ct:=N,bk:=D.nx} σ H1 else D.nx σ H1
theorem qN{body:List Stmt}{tc:TT}{tb:TS}(hp:M7 (Ie X.prog X.w) X.A X.env X.xe)(hc:PT X c tc)(hb:GA X body tb):PS X (.While c body [] pos) (xm tc tb):=by
 intro pins s σ H D I h
 obtain⟨W,⟨m0,w0⟩,turn⟩:=h
 refine wpAny_While (codeAny_whileLoop (fun n s'=>∃σ' H',Inv X pins σ' H' s'/\W n σ' H') ?_ m0 ⟨σ,H,I,w0⟩)
 rintro n s1 ⟨σ1,H1,I1,w1⟩
 refine J_ hp (Eh (hc pins s1 σ1 H1 _ I1 (turn n σ1 H1 w1)) fun b s2 ⟨H2,I2,q2⟩=>?_)
 cases b with
 | true =>
   obtain⟨N,hN,q2⟩:=q2
   rw[if_pos rfl]
   refine J_ hp (Eh (hb pins s2 σ1 H2 _ I2 q2) fun f s3 q3=>?_)
   cases f with
   | next =>
     obtain⟨σ3,H3,I3,n3⟩:=q3
     obtain⟨m',hm,w3⟩:=hN σ3 H3 n3
     exact⟨m',hm,σ3,H3,I3,w3⟩
   | cont =>
     obtain⟨σ3,H3,I3,n3⟩:=q3
     obtain⟨m',hm,w3⟩:=hN σ3 H3 n3
     exact⟨m',hm,σ3,H3,I3,w3⟩
   | brk=>exact q3
   | ret v=>exact q3
 | false =>
   rw[if_neg Ic]
   exact Ly ⟨σ1,H2,I2,q2⟩
end
structure It where
 go:Nat->Hp->Prop
 yld:Nat->Hp->V->Hp->Prop
 stop:Nat->Hp->Prop
noncomputable def jJ(X:Cx)(pins:List (Addr×Obj))(H:Hp)(b:Addr):Prop :=
 H b=none/\b≠X.env.locals/\b∉X.fs/\(b∈X.ex\/X.s₀.heap.objs.size<=b)/\(∀x c,X.env.cells.lookup x=some c->c≠b)/\∀p∈X.pn++pins,p.1≠b
theorem Inv.fpOk{X:Cx}{σ:St}{H H':Hp}(I:Inv X pins σ H s)(hb:s.heap.objs.size<=b)(hn:H' b=none):jJ X pins H' b:=by
 refine⟨hn,JV (Hz I.lt hb),I.nofs hb,.inr (IH I.sz hb),fun x c e z=>?_,fun p hp z=>?_⟩
 · obtain⟨v,q⟩:=I.cell x c e
   exact absurd (Hz q.lt (by rw[z];exact hb)) (Jb _)
 · exact absurd (Hz (HE (I.pin p hp).1) (by rw[z];exact hb)) (Jb _)
structure Turn (P:HZ) (w:IL) (K:W.Frag) (tg:Expr) (J:It) (fp:List Addr) (it:Addr) (tn:Nat->Heap->Prop):Prop where
 mem:it∈fp
 obj:∀i h,tn i h->∀b∈fp,∃o,h.get? b=some o/\∀v,o.data ≠ .cell v
 keep:∀i h h',tn i h->(∀b∈fp,∀o,h.get? b=some o->h'.get? b=some o)->tn i h'
 item:∀(X:Cx),X.prog=P->X.w=w->X.K=K->X.calm=true->∀(i:Nat)(pins:List (Addr×Obj))(s:Hv)(σ:St)(H:Hp)(E:Hq->Hv->Prop),Inv X pins σ H s->(∀b∈fp,jJ X pins H b)->tn i s.heap->J.go i H ->
  HS (Ie P w) X.A (LZ (.ref it)) (fun r s1=>∃u,r=some u /\
   HS (Ie P w) X.A (JO tg (.ref it) u) (fun _ s2=>∃x H',Inv X pins σ H' s2/\RelV x u/\J.yld i H x H'/\tn (i+1) s2.heap/\∀b∈fp,H' b=none) E s1) E s
 done:∀(X:Cx),X.prog=P->X.w=w->X.K=K->X.calm=true->∀(i:Nat)(pins:List (Addr×Obj))(s:Hv)(σ:St)(H:Hp)(E:Hq->Hv->Prop),Inv X pins σ H s->(∀b∈fp,jJ X pins H b)->tn i s.heap->J.stop i H ->
  HS (Ie P w) X.A (LZ (.ref it)) (fun r s1=>r=none/\Inv X pins σ H s1) E s
 self:∀(A:ID)(i:Nat)(s:Hv)(Q:Hq->Hv->Prop)(E:Hq->Hv->Prop),tn i s.heap->Q (.ref it) s->HS (Ie P w) A (NB (.ref it)) Q E s
abbrev TI:=St->Hp->(It->Hp->Prop)->Prop
noncomputable def GG(X:Cx)(pins:List (Addr×Obj))(σ:St)(tg:Expr)(R:It->Hp->Prop)(itv:Hq)(s2:Hv):Prop :=
 ∃(it:Addr)(fp:List Addr)(tn:Nat->Heap->Prop)(J:It)(H':Hp),itv = .ref it/\Inv X pins σ H' s2/\Turn X.prog X.w X.K tg J fp it tn/\tn 0 s2.heap/\(∀b∈fp,jJ X pins H' b)/\R J H'
noncomputable def PI(X:Cx)(tg iter:Expr)(wi:TI):Prop :=
 ∀ (pins:List (Addr×Obj))(s:Hv)(σ:St)(H:Hp)(R:It->Hp->Prop),Inv X pins σ H s->wi σ H R ->
   HS (Ie X.prog X.w) X.A (eval iter X.env) (fun v s1=>HS (Ie X.prog X.w) X.A (NB v) (GG X pins σ tg R) X.xe s1) X.xe s
theorem vR{M:Model}{o:Obj}{n:String}{vs:Array Hq}{Q:Unit->Hv->Prop}(ho:s.heap.get? it=some o)(hc:o.cls = .type n)(hd:o.data = .fields vs)
 (hn:["enumerate", "zip", "dict_itemiterator", "dict_reverseitemiterator", "odict_iterator", "itertools.zip_longest", "itertools.pairwise"].contains n=false)(hQ:Q () s):HS M A (JO tg (.ref it) u) Q E s:=by
 unfold JO
 cases tg<;>first
  | exact HH hQ
  | (cases u<;>first
      | exact HH hQ
      | (refine Hi (wpAny_load ho ?_)
         rw[hc,hd]
         show HS M A (if(["enumerate", "zip", "dict_itemiterator", "dict_reverseitemiterator", "odict_iterator", "itertools.zip_longest", "itertools.pairwise"].contains n&&vs[0]?==some (NC _))=true then _ else _) Q E s
         rw[if_neg (by intro h;rw[hn,Bool.false_and]at h;cases h)]
         exact HH hQ))
noncomputable def GX(K:W.Frag)(a:Addr):It :=
 ⟨fun i H=>∃xs x,Go K H a xs/\xs[i]?=some x,fun i H x H'=>H'=H/\∀xs,Go K H a xs->xs[i]?=some x,fun i H=>∃xs,Go K H a xs/\xs.length<=i⟩
noncomputable def GV(K:W.Frag)(a:Addr):It :=
 ⟨fun i H=>∃xs x,Gm K H a xs/\xs[i]?=some x,fun i H x H'=>H'=H/\∀xs,Gm K H a xs->xs[i]?=some x,fun i H=>∃xs,Gm K H a xs/\xs.length<=i⟩
noncomputable def GW(lo:Int)(n:Nat):It:=⟨fun i _=>i<n,fun i H x H'=>H'=H/\x = .int (lo+i),fun i _=>n<=i⟩
theorem iZ{K:W.Frag}(a it:Addr):Turn P w K tg (GX K a) [it] it (fun i h=>h.IsListIter it a i) where
 mem:=by simp
 obj:=fun i h st b hb=>by
  have e:b=it:=by simpa using hb
  subst e
  obtain⟨o,e,c,d⟩:=st
  exact⟨o,e,fun v z=>by rw[d]at z;cases z⟩
 keep:=fun i h h' st k=>st.at fun o e=>k it (by simp) o e
 item:=by
  intro X hP hw hK hc i pins s σ H E I hf st hg
  subst hP hw hK
  obtain⟨xs,x,hq,hx⟩:=hg
  obtain⟨its,rv,p,hz⟩:=I.list hq
  obtain⟨u,hu,ru⟩:=rv.get hx
  obtain⟨f0,f1,f2,f3,f4,f5⟩:=hf it (by simp)
  refine wpAny_pyNext_list_item st p.isList (x:=u) (by simpa using hu) fun h' st' sb=>?_
  have I1:Inv X pins σ H {s with heap:=h' }:=I.turned (t':=s.toks) (fun b o hb e=>(sb.2 b hb).trans e) f0 f1 f3 f4 f5
  obtain⟨o,e,c,d⟩:=id st'
  exact⟨u,rfl,vR (s:={s with heap:=h' }) e c d (by decide) ⟨x,H,I1,ru,⟨rfl,fun ys hy=>by rw[I.list_inj hy hq];exact hx⟩,st',fun b hb=>(hf b hb).1⟩⟩
 done:=by
  intro X hP hw hK hc i pins s σ H E I hf st hg
  subst hP hw hK
  obtain⟨xs,hq,hx⟩:=hg
  obtain⟨its,rv,p,hz⟩:=I.list hq
  obtain⟨f0,f1,f2,f3,f4,f5⟩:=hf it (by simp)
  have hl:=rv.length
  exact wpAny_pyNext_list_end (I.ok.hd hc) st p.isList (by simp;omega) fun h' eb=>⟨rfl,I.turned (t':=s.toks) (fun b o hb e=>eb b o hb e) f0 f1 f3 f4 f5⟩
 self:=fun _ _ _ _ _ st h=>wpAny_pyIter_listiter st h
theorem gz{K:W.Frag}(a it:Addr):Turn P w K tg (GV K a) [it] it (fun i h=>h.IsTupleIter it a i) where
 mem:=by simp
 obj:=fun i h st b hb=>by
  have e:b=it:=by simpa using hb
  subst e
  obtain⟨o,e,c,d⟩:=st
  exact⟨o,e,fun v z=>by rw[d]at z;cases z⟩
 keep:=fun i h h' st k=>st.at fun o e=>k it (by simp) o e
 item:=by
  intro X hP hw hK hc i pins s σ H E I hf st hg
  subst hP hw hK
  obtain⟨xs,x,hq,hx⟩:=hg
  obtain⟨its,rv,p,hz⟩:=I.tuple hq
  obtain⟨u,hu,ru⟩:=rv.get hx
  obtain⟨f0,f1,f2,f3,f4,f5⟩:=hf it (by simp)
  refine wpAny_pyNext_tuple_item st (show s.heap.IsTuple a its.toArray from p) (x:=u) (by simpa using hu) fun h' st' sb=>?_
  have I1:Inv X pins σ H {s with heap:=h' }:=I.turned (t':=s.toks) (fun b o hb e=>(sb.2 b hb).trans e) f0 f1 f3 f4 f5
  obtain⟨o,e,c,d⟩:=id st'
  exact⟨u,rfl,vR (s:={s with heap:=h' }) e c d (by decide) ⟨x,H,I1,ru,⟨rfl,fun ys hy=>by rw[I.tuple_inj hy hq];exact hx⟩,st',fun b hb=>(hf b hb).1⟩⟩
 done:=by
  intro X hP hw hK hc i pins s σ H E I hf st hg
  subst hP hw hK
  obtain⟨xs,hq,hx⟩:=hg
  obtain⟨its,rv,p,hz⟩:=I.tuple hq
  obtain⟨f0,f1,f2,f3,f4,f5⟩:=hf it (by simp)
  have hl:=rv.length
  exact wpAny_pyNext_tuple_end (I.ok.hd hc) st (show s.heap.IsTuple a its.toArray from p) (by simp;omega) fun h' eb=>⟨rfl,I.turned (t':=s.toks) (fun b o hb e=>eb b o hb e) f0 f1 f3 f4 f5⟩
 self:=fun _ _ _ _ _ st h=>wpAny_pyIter_tupleiter st h
theorem lV{K:W.Frag}(it:Addr)(lo:Int)(n:Nat):Turn P w K tg (GW lo n) [it] it (fun i h=>IsRangeIter h it (lo+(i:Nat)*1) ((n:Int)-(i:Nat)) 1) where
 mem:=by simp
 obj:=fun i h st b hb=>by
  have e:b=it:=by simpa using hb
  subst e
  exact⟨_,st,fun v z=>by
   have z':Data.fields _=Data.cell v:=z
   cases z'⟩
 keep:=fun i h h' st k=>k it (by simp) _ st
 item:=by
  intro X hP hw hK hc i pins s σ H E I hf st hg
  subst hP hw hK
  obtain⟨f0,f1,f2,f3,f4,f5⟩:=hf it (by simp)
  have W:=Walks.range (prog:=X.prog) (w:=X.w) (I.ok.hd hc) it lo 1 n
  refine W.item i s _ _ hg st fun v h' tk hv st' kk=>?_
  obtain⟨t,rfl⟩:=hv
  have I1:Inv X pins σ H {s with heap:=h',toks:=tk}:=I.turned (fun b o hb e=>kk b o (by simpa using hb) e) f0 f1 f3 f4 f5
  refine⟨_,rfl,vR (s:={s with heap:=h',toks:=tk}) (n := "range_iterator") st' rfl rfl (by decide) ⟨.int (lo+i),H,I1,⟨t,?_⟩,⟨rfl,rfl⟩,st',fun b hb=>(hf b hb).1⟩⟩
  rw[Int.mul_one]
 done:=by
  intro X hP hw hK hc i pins s σ H E I hf st hg
  subst hP hw hK
  obtain⟨f0,f1,f2,f3,f4,f5⟩:=hf it (by simp)
  exact wpAny_pyNext_range_end (I.ok.hd hc) st (by have:n<=i:=hg;omega) fun h' eb=>⟨rfl,I.turned (t':=s.toks) (fun b o hb e=>eb b o hb e) f0 f1 f3 f4 f5⟩
 self:=fun _ _ _ _ _ st h=>wpAny_pyIter_rangeiter st h
section
variable{X:Cx}{tg:Expr}
noncomputable def A3(K:W.Frag)(tl:TE):TI:=fun σ H R=>tl σ H fun x H1=>∃a,x = .ref a/\(∃xs,Go K H1 a xs)/\R (GX K a) H1
noncomputable def Dq(K:W.Frag)(tl:TE):TI:=fun σ H R=>tl σ H fun x H1=>∃a,x = .ref a/\(∃xs,Gm K H1 a xs)/\R (GV K a) H1
theorem uZ{l:Expr}{tl:TE}(hl:PE X l tl):PI X tg l (A3 X.K tl):=by
 intro pins s σ H R I h
 refine Eh (hl pins s σ H _ I h) fun v s1 ⟨x,H1,I1,r1,q1⟩=>?_
 obtain⟨a,e,⟨xs,hq⟩,q⟩:=q1
 subst e
 cases r1
 obtain⟨its,rv,p,hz⟩:=I1.list hq
 refine K6 p.isList ?_
 refine⟨s1.heap.objs.size,[s1.heap.objs.size],_,_,H1,rfl,I1.kept (t':=s1.toks) fun b o e=>Hl _ e,iZ a _,⟨_,HI _ rfl,rfl,rfl⟩,fun b hb=>?_,q⟩
 have e:b=s1.heap.objs.size:=by simpa using hb
 subst e
 exact I1.fpOk (HA _) (I1.hok.fresh (HA _))
theorem yc{l:Expr}{tl:TE}(hl:PE X l tl):PI X tg l (Dq X.K tl):=by
 intro pins s σ H R I h
 refine Eh (hl pins s σ H _ I h) fun v s1 ⟨x,H1,I1,r1,q1⟩=>?_
 obtain⟨a,e,⟨xs,hq⟩,q⟩:=q1
 subst e
 cases r1
 obtain⟨its,rv,p,hz⟩:=I1.tuple hq
 refine LP (show s1.heap.IsTuple a its.toArray from p) ?_
 refine⟨s1.heap.objs.size,[s1.heap.objs.size],_,_,H1,rfl,I1.kept (t':=s1.toks) fun b o e=>Hl _ e,gz a _,⟨_,HI _ rfl,rfl,rfl⟩,fun b hb=>?_,q⟩
 have e:b=s1.heap.objs.size:=by simpa using hb
 subst e
 exact I1.fpOk (HA _) (I1.hok.fresh (HA _))
theorem qI{σ:St}{H:Hp}{R:It->Hp->Prop}{lo hi:Int}{t u v:Tok}{tk:Nat}(I:Inv X pins σ H s)(h1 : -(2^62)<=lo)(h2:lo<2^62)(h3 : -(2^62)<=hi)(h4:hi<2^62)
 (q:R (GW lo (hi-lo).toNat) H):HS (Ie X.prog X.w) X.A (NB (.ref s.heap.objs.size)) (GG X pins σ tg R) E {s with heap:=s.heap.push {cls:=.type "range", data:=.fields #[.int lo t,.int hi u,.int 1 v]},toks:=tk}:=by
 refine wpAny_pyIter_range (IsRange.new ..) (small_one h1 h2 h3 h4) ?_
 have I1:Inv X pins σ H {s with heap:=s.heap.push {cls:=.type "range", data:=.fields #[.int lo t,.int hi u,.int 1 v]},toks:=tk}:=I.kept fun b o e=>Hl _ e
 refine⟨(s.heap.push {cls:=.type "range", data:=.fields #[.int lo t,.int hi u,.int 1 v]}).objs.size,[(s.heap.push {cls:=.type "range", data:=.fields #[.int lo t,.int hi u,.int 1 v]}).objs.size],_,_,H,rfl,
  I1.kept (t':=tk) fun b o e=>Hl _ e,lV _ lo (hi-lo).toNat,?_,fun b hb=>?_,q⟩
 · have e1:lo+((0:Nat):Int)*1=lo:=by simp
   have e2:(((hi-lo).toNat:Nat):Int)-((0:Nat):Int)=Builtin.Range.rangeSize lo hi 1:=by rw[rangeSize_one];split<;>omega
   show IsRangeIter _ _ (lo+((0:Nat):Int)*1) ((((hi-lo).toNat:Nat):Int)-((0:Nat):Int)) 1
   rw[e1,e2]
   exact HI _ rfl
 · have e:b=(s.heap.push {cls:=.type "range", data:=.fields #[.int lo t,.int hi u,.int 1 v]}).objs.size:=by simpa using hb
   subst e
   exact I1.fpOk (HA _) (I1.hok.fresh (HA _))
noncomputable def A2(ta:TA):TI:=fun σ H R=>ta σ H fun vs H1=>∃j:Int,vs=[.int j] /\ -(2^62)<=j/\j<2^62/\R (GW 0 j.toNat) H1
theorem oK{a:Expr}{ta:TA}{p:Pos}(hg:Gl X "range")(hm:X.mg "range" = none)(ha:PA X [a] ta)(hs:Hy [a] X.env=[(false,eval a X.env)]:=by rfl):PI X tg (.Call (.Name "range" p) [a] [] pos) (A2 ta):=by
 intro pins s σ H R I h
 refine Call_ (eW I hg hm boot_range (Jf (Eh (ha pos pins s σ H _ I h) fun us s1 ⟨vs,H1,I1,r1,q1⟩=>?_) hs rfl))
 obtain⟨j,e,q1,q2,q⟩:=q1
 subst e
 cases r1 with
 | cons r rr =>
   cases rr
   obtain⟨t,rfl⟩:=r
   exact call_range_1 (qI I1 (by omega) (by omega) q1 q2 (by simpa using q))
noncomputable def Db(wi:TI)(g:TG)(tb:TS):TS:=fun D σ H=>wi σ H fun J H1=>∃W:Nat->Nat->St->Hp->Prop,(∃m,W 0 m σ H1)/\∀i m σ H,W i m σ H ->
 (J.stop i H/\D.nx σ H)\/(J.go i H/\∃N:St->Hp->Prop,(∀σ' H',N σ' H'->∃m',m'<m/\W (i+1) m' σ' H')/\∀x H',J.yld i H x H'->g x σ H' fun σ2 H2=>tb {D with nx:=N,ct:=N,bk:=D.nx} σ2 H2)
noncomputable def eT(fp:List Addr)(h:Heap):List (Addr×Obj):=fp.filterMap fun b=>(h.get? b).map fun o=>(b,o)
theorem bA{o:Obj}(hb:b∈fp)(e:h.get? b=some o):(b,o)∈eT fp h:=IN.mpr ⟨b,hb,by rw[e];rfl⟩
theorem oP{p:Addr×Obj}(hp:p∈eT fp h):p.1∈fp/\h.get? p.1=some p.2:=by
 obtain⟨b,hb,e⟩:=IN.mp hp
 cases q:h.get? b with
 | none=>rw[q]at e;cases e
 | some o =>
   rw[q]at e
   have e':(b,o)=p:=IG e
   subst e'
   exact⟨hb,q⟩
theorem Inv.pinned{σ:St}{H:Hp}(I:Inv X pins σ H s)(hf:∀b∈fp,jJ X pins H b)(ho:∀b∈fp,∃o,s.heap.get? b=some o/\∀v,o.data ≠ .cell v):Inv X (pins++eT fp s.heap) σ H s :=
 I.pins_of fun p hp=>(HW.mp hp).elim (fun z=>I.pin p (HC _ z)) fun z=>by
  obtain⟨hb,e⟩:=oP z
  obtain⟨f0,f1,f2,_⟩:=hf p.1 hb
  obtain⟨o,e',d⟩:=ho p.1 hb
  rw[e]at e';cases e'
  exact⟨e,f0,f1,f2,d⟩
theorem Inv.unpinned{pl:List (Addr×Obj)}{σ:St}{H:Hp}(I:Inv X (pins++pl) σ H s):Inv X pins σ H s:=I.pins_of fun p hp=>I.pin p (HC _ (Io _ hp))
theorem sO{body:List Stmt}{wi:TI}{g:TG}{tb:TS}(hp:M7 (Ie X.prog X.w) X.A X.env X.xe)(hc:X.calm=true)(hi:PI X tg iter wi)(hg:PG X tg g)(hb:GA X body tb)
 (hs:∀x,HX iter X.env x=pure x:=by intro _;rfl):PS X (.For tg iter body [] pos) (Db wi g tb):=by
 intro pins s σ H D I h
 refine wpAny_For (Eh (hi pins s σ H _ I h) fun v s1 h1=>Eh h1 fun itv s2 h2=>?_) hs
 obtain⟨it,fp,tn,J,H2,e,I2,T,st2,f2,W,⟨m0,w0⟩,turn⟩:=h2
 subst e
 have stat:∀{H':Hp},(∀b∈fp,H' b=none)->∀b∈fp,jJ X pins H' b:=fun hn b hb=>⟨hn b hb,(f2 b hb).2⟩
 refine codeAny_forLoop_any (fun n s'=>∃i σ' H',Inv X pins σ' H' s'/\tn i s'.heap/\(∀b∈fp,H' b=none)/\W i n σ' H') ?_ m0 ⟨0,σ,H2,I2,st2,fun b hb=>(f2 b hb).1,w0⟩
 rintro n s3 ⟨i,σ3,H3,I3,st3,fr3,w3⟩
 rcases turn i n σ3 H3 w3 with⟨stop,qn⟩|⟨go,N,hN,step⟩
 · refine J_ hp (Eh (T.done X rfl rfl rfl hc i pins s3 σ3 H3 X.xe I3 (stat fr3) st3 stop) fun r s4 ⟨hr,I4⟩=>?_)
   subst hr
   exact Ly ⟨σ3,H3,I4,qn⟩
 · refine J_ hp (Eh (T.item X rfl rfl rfl hc i pins s3 σ3 H3 X.xe I3 (stat fr3) st3 go) fun r s4 ⟨u,hr,h4⟩=>?_)
   subst hr
   refine J_ hp (Eh h4 fun _ s5 ⟨x,H5,I5,r5,y5,st5,fr5⟩=>?_)
   have I5':=I5.pinned (stat fr5) (T.obj _ _ st5)
   refine J_ hp (Eh (hg _ s5 σ3 H5 x u _ I5' r5 (step x H5 y5)) fun _ s6 ⟨σ6,H6,I6,q6⟩=>?_)
   refine J_ hp (Eh (hb _ s6 σ6 H6 _ I6 q6) fun f s7 q7=>?_)
   have again:∀{σ7:St}{H7:Hp},Inv X (pins++eT fp s5.heap) σ7 H7 s7->N σ7 H7->∃m,m<n/\∃i σ' H',Inv X pins σ' H' s7/\tn i s7.heap/\(∀b∈fp,H' b=none)/\W i m σ' H':=fun{σ7 H7} I7 n7=>by
    obtain⟨m',hm,w7⟩:=hN σ7 H7 n7
    refine⟨m',hm,i+1,σ7,H7,I7.unpinned,T.keep _ _ _ st5 fun b hb o e=>(I7.pin (b,o) (HC _ (HC _ (bA hb e)))).1,fun b hb=>?_,w7⟩
    obtain⟨o,e,d⟩:=T.obj _ _ st5 b hb
    exact(I7.pin (b,o) (HC _ (HC _ (bA hb e)))).2.1
   cases f with
   | next=>obtain⟨σ7,H7,I7,n7⟩:=q7;exact again I7 n7
   | cont=>obtain⟨σ7,H7,I7,n7⟩:=q7;exact again I7 n7
   | brk=>obtain⟨σ7,H7,I7,q7⟩:=q7;exact⟨σ7,H7,I7.unpinned,q7⟩
   | ret v=>obtain⟨x7,σ7,H7,I7,r7,q7⟩:=q7;exact⟨x7,σ7,H7,I7.unpinned,r7,q7⟩
end
abbrev R2:=V->V->Hp->VK->Prop
noncomputable def GK(X:Cx)(f:Hq->Hq->Sem Hq)(r:R2):Prop :=
 ∀ (pins:List (Addr×Obj))(s:Hv)(σ:St)(H:Hp)(x y:V)(v u:Hq)(Q:VK),Inv X pins σ H s->RelV x v->RelV y u->r x y H Q ->
   HS (Ie X.prog X.w) X.A (f v u) (EP X pins σ Q) X.xe s
noncomputable def Gb(X:Cx)(f:Hq->Sem Hq)(r:V->Hp->VK->Prop):Prop :=
 ∀ (pins:List (Addr×Obj))(s:Hv)(σ:St)(H:Hp)(x:V)(v:Hq)(Q:VK),Inv X pins σ H s->RelV x v->r x H Q ->
   HS (Ie X.prog X.w) X.A (f v) (EP X pins σ Q) X.xe s
noncomputable def gh(X:Cx)(f:Hq)(r:List V->Hp->VK->Prop):Prop :=
 ∀ (pins:List (Addr×Obj))(s:Hv)(σ:St)(H:Hp)(xs:List V)(us:List Hq)(Q:VK),Inv X pins σ H s->ci xs us->r xs H Q ->
   HS (Ie X.prog X.w) X.A (call f us) (EP X pins σ Q) X.xe s
noncomputable def Ek(r:R2)(ta tb:TE):TE:=fun σ H Q=>ta σ H fun x H1=>tb σ H1 fun y H2=>r x y H2 Q
noncomputable def Ei(r:V->Hp->VK->Prop)(ta:TE):TE:=fun σ H Q=>ta σ H fun x H1=>r x H1 Q
noncomputable def rI(C:Int->Int->Prop)(g:Int->Int->V):R2:=fun x y H Q=>∃i j,x = .int i/\y = .int j/\C i j/\Q (g i j) H
noncomputable def EN(g:Int->Int->V):R2:=fun x y H Q=>∃i j,x = .int i/\y = .int j/\Q (g i j) H
noncomputable def rU(g:Int->V):V->Hp->VK->Prop:=fun x H Q=>∃i,x = .int i/\Q (g i) H
section
variable{X:Cx}{a b c:Expr}{ta tb tc:TE}{pos:Pos}
theorem Bn(ha:PE X a ta)(hb:PE X b tb){σ:St}{H:Hp}{R:V->V->Hp->Prop}(I:Inv X pins σ H s)
 (h:ta σ H fun x H1=>tb σ H1 fun y H2=>R x y H2){f:Hq->Hq->Sem Hq}
 (hf:∀v u s2 x y H2,Inv X pins σ H2 s2->RelV x v->RelV y u->R x y H2->HS (Ie X.prog X.w) X.A (f v u) Q X.xe s2) :
 HS (Ie X.prog X.w) X.A (eval a X.env) (fun v s₁=>HS (Ie X.prog X.w) X.A (eval b X.env) (fun u s₂=>HS (Ie X.prog X.w) X.A (f v u) Q X.xe s₂) X.xe s₁) X.xe s:=by
 refine Eh (ha pins s σ H _ I h) fun v s1 ⟨x,H1,I1,r1,q1⟩=>?_
 refine Eh (hb pins s1 σ H1 _ I1 q1) fun u s2 ⟨y,H2,I2,r2,q2⟩=>?_
 exact hf v u s2 x y H2 I2 r1 r2 q2
theorem AG{op:Nz}{r:R2}(ho:GK X (Ku op) r)(ha:PE X a ta)(hb:PE X b tb):PE X (.BinOp a op b pos) (Ek r ta tb):=by
 intro pins s σ H Q I h
 exact wpAny_BinOp (Bn ha hb I h fun v u s2 x y H2 I2 rx ry q=>ho pins s2 σ H2 x y v u Q I2 rx ry q)
theorem AE{op:UnaryOp}{r:V->Hp->VK->Prop}(ho:Gb X (unaryOp op) r)(ha:PE X a ta):PE X (.UnaryOp op a pos) (Ei r ta):=by
 intro pins s σ H Q I h
 exact UnaryOp_ (Eh (ha pins s σ H _ I h) fun v s1 ⟨x,H1,I1,r1,q1⟩=>ho pins s1 σ H1 x v Q I1 r1 q1)
theorem EX{f:Hq->Hq->Sem Hq}{C:Int->Int->Prop}{g:Int->Int->Int}
 (rule:∀(i j:Int)(t u:Tok)(s:Hv)(Q:Hq->Hv->Prop)(E:Hq->Hv->Prop),C i j->Q (.int (g i j) s.toks) {s with toks:=s.toks+1}->HS (Ie X.prog X.w) X.A (f (.int i t) (.int j u)) Q E s) :
 GK X f (rI C fun i j=>.int (g i j)):=by
 intro pins s σ H x y v u Q I rx ry h
 obtain⟨i,j,rfl,rfl,hc,q⟩:=h
 obtain⟨t,rfl⟩:=rx
 obtain⟨t',rfl⟩:=ry
 exact rule i j t t' s _ _ hc ⟨.int (g i j),H,I.tok _,⟨_,rfl⟩,q⟩
theorem CJ{f:Hq->Hq->Sem Hq}{g:Int->Int->Int}
 (rule:∀(i j:Int)(t u:Tok)(s:Hv)(Q:Hq->Hv->Prop)(E:Hq->Hv->Prop),Q (.int (g i j) s.toks) {s with toks:=s.toks+1}->HS (Ie X.prog X.w) X.A (f (.int i t) (.int j u)) Q E s) :
 GK X f (EN fun i j=>.int (g i j)):=by
 intro pins s σ H x y v u Q I rx ry h
 obtain⟨i,j,rfl,rfl,q⟩:=h
 obtain⟨t,rfl⟩:=rx
 obtain⟨t',rfl⟩:=ry
 exact rule i j t t' s _ _ ⟨.int (g i j),H,I.tok _,⟨_,rfl⟩,q⟩
theorem zp{f:Hq->Hq->Sem Hq}{g:Int->Int->Bool}
 (rule:∀(i j:Int)(t u:Tok)(s:Hv)(Q:Hq->Hv->Prop)(E:Hq->Hv->Prop),Q (.bool (g i j)) s->HS (Ie X.prog X.w) X.A (f (.int i t) (.int j u)) Q E s) :
 GK X f (EN fun i j=>.bl (g i j)):=by
 intro pins s σ H x y v u Q I rx ry h
 obtain⟨i,j,rfl,rfl,q⟩:=h
 obtain⟨t,rfl⟩:=rx
 obtain⟨t',rfl⟩:=ry
 exact rule i j t t' s _ _ ⟨.bl (g i j),H,I,rfl,q⟩
noncomputable def zG(i j:Int):Prop:=0<=j/\j<=1000000/\i.natAbs<2^64
theorem yp:GK X (Ku .Add) (EN fun i j=>.int (i+j)):=CJ fun _ _ _ _ _ _ _ q=>add_int q
theorem yl:GK X (Ku .Sub) (EN fun i j=>.int (i-j)):=CJ fun _ _ _ _ _ _ _ q=>sub_int q
theorem vd:GK X (Ku .Mod) (rI (fun _ j=>j≠0) fun i j=>.int (i.fmod j)):=EX fun _ _ _ _ _ _ _ hc q=>mod_int' hc q
theorem yn:GK X (Ku .Pow) (rI zG fun i j=>.int (i^j.toNat)):=EX fun _ _ _ _ _ _ _ hc q=>pow_int_small hc.1 hc.2.1 hc.2.2 q
theorem Eb{f:Hq->Sem Hq}{g:Int->Int}
 (rule:∀(i:Int)(t:Tok)(s:Hv)(Q:Hq->Hv->Prop)(E:Hq->Hv->Prop),Q (.int (g i) s.toks) {s with toks:=s.toks+1}->HS (Ie X.prog X.w) X.A (f (.int i t)) Q E s) :
 Gb X f (rU fun i=>.int (g i)):=by
 intro pins s σ H x v Q I rx h
 obtain⟨i,rfl,q⟩:=h
 obtain⟨t,rfl⟩:=rx
 exact rule i t s _ _ ⟨.int (g i),H,I.tok _,⟨_,rfl⟩,q⟩
theorem xf:Gb X (unaryOp .USub) (rU fun i=>.int (-i)):=Eb fun _ _ _ _ _ q=>neg_int q
end
noncomputable def Cz:V->V->Bool
 | .non,.non=>true | .non,.int _=>true | .int _,.non=>true | .non,.bl _=>true | .bl _,.non=>true | .non,.str _=>true | .str _,.non=>true
 | .int _,.int _=>true | .bl _,.bl _=>true | .str _,.str _=>true | .byt _,.byt _=>true
 | .int _,.str _=>true | .str _,.int _=>true | .bl _,.str _=>true | .str _,.bl _=>true
 | _,_=>false
noncomputable def EO:R2:=fun x y H Q=>Cz x y=true/\Q (.bl (decide (x=y))) H
noncomputable def EL:R2:=fun x y H Q=>Cz x y=true/\Q (.bl (!decide (x=y))) H
theorem pP{i j:Int}:decide (V.int i=V.int j)=(i==j):=by
 rw[KP]
 simp
theorem tq{i j:Bool}:decide (V.bl i=V.bl j)=(i==j):=by
 rw[KP]
 simp
theorem pO{i j:Str}:decide (V.str i=V.str j)=(i==j):=by
 rw[KP]
 simp
theorem pQ{i j:Array UInt8}:decide (V.byt i=V.byt j)=(i.toList==j.toList):=by
 rw[KP]
 cases i
 cases j
 simp
section
variable{X:Cx}{a b c:Expr}{ta tb tc:TE}{pos:Pos}
theorem aZ{σ:St}{H:Hp}{Q:VK}{k k':Bool}(I:Inv X pins σ H s)(q:Q (.bl k) H)(e:k=k'):EP X pins σ Q (.bool k') s:=by
 subst e
 exact⟨.bl k,H,I,rfl,q⟩
theorem gm:GK X (Kh .Eq) EO:=by
 intro pins s σ H x y v u Q I rx ry h
 obtain⟨hs,q⟩:=h
 cases x with
 | non =>
   cases rx
   cases y with
   | non=>cases ry;exact PySem.EqNone.eq_none_none (aZ I q (by simp))
   | bl j=>cases ry;exact PySem.EqNone.eq_none_bool (aZ I q (by simp))
   | int j=>obtain⟨t',rfl⟩:=ry;exact PySem.EqNone.eq_none_int (aZ I q (by simp))
   | str j=>obtain⟨t',rfl⟩:=ry;exact PySem.EqNone.eq_none_str (aZ I q (by simp))
   | _=>exact absurd (show false=true from hs) Ic
 | bl i =>
   cases rx
   cases y with
   | non=>cases ry;exact PySem.EqNone.eq_bool_none (aZ I q (by simp))
   | bl j=>cases ry;exact eq_bool (aZ I q tq)
   | str j=>obtain⟨t',rfl⟩:=ry;exact PySem.EqMixed.eq_bool_str (aZ I q (by simp))
   | _=>exact absurd (show false=true from hs) Ic
 | int i =>
   obtain⟨t,rfl⟩:=rx
   cases y with
   | non=>cases ry;exact PySem.EqNone.eq_int_none (aZ I q (by simp))
   | int j=>obtain⟨t',rfl⟩:=ry;exact eq_int (aZ I q pP)
   | str j=>obtain⟨t',rfl⟩:=ry;exact PySem.EqMixed.eq_int_str (aZ I q (by simp))
   | _=>exact absurd (show false=true from hs) Ic
 | str i =>
   obtain⟨t,rfl⟩:=rx
   cases y with
   | non=>cases ry;exact PySem.EqNone.eq_str_none (aZ I q (by simp))
   | bl j=>cases ry;exact PySem.EqMixed.eq_str_bool (aZ I q (by simp))
   | int j=>obtain⟨t',rfl⟩:=ry;exact PySem.EqMixed.eq_str_int (aZ I q (by simp))
   | str j=>obtain⟨t',rfl⟩:=ry;exact eq_str (aZ I q pO)
   | _=>exact absurd (show false=true from hs) Ic
 | byt i =>
   obtain⟨t,rfl⟩:=rx
   cases y with
   | byt j=>obtain⟨t',rfl⟩:=ry;exact W.eq_bytes (aZ I q pQ)
   | _=>exact absurd (show false=true from hs) Ic
 | _=>cases y<;>exact absurd (show false=true from hs) Ic
theorem AI:GK X (Kh .NotEq) EL:=by
 intro pins s σ H x y v u Q I rx ry h
 obtain⟨hs,q⟩:=h
 cases x with
 | non =>
   cases rx
   cases y with
   | non=>cases ry;exact PySem.EqNone.ne_none_none (aZ I q (by simp))
   | bl j=>cases ry;exact PySem.EqNone.ne_none_bool (aZ I q (by simp))
   | int j=>obtain⟨t',rfl⟩:=ry;exact PySem.EqNone.ne_none_int (aZ I q (by simp))
   | str j=>obtain⟨t',rfl⟩:=ry;exact PySem.EqNone.ne_none_str (aZ I q (by simp))
   | _=>exact absurd (show false=true from hs) Ic
 | bl i =>
   cases rx
   cases y with
   | non=>cases ry;exact PySem.EqNone.ne_bool_none (aZ I q (by simp))
   | bl j=>cases ry;exact ne_bool (aZ I q (congrArg not tq))
   | str j=>obtain⟨t',rfl⟩:=ry;exact PySem.EqMixed.ne_bool_str (aZ I q (by simp))
   | _=>exact absurd (show false=true from hs) Ic
 | int i =>
   obtain⟨t,rfl⟩:=rx
   cases y with
   | non=>cases ry;exact PySem.EqNone.ne_int_none (aZ I q (by simp))
   | int j=>obtain⟨t',rfl⟩:=ry;exact ne_int (aZ I q (congrArg not pP))
   | str j=>obtain⟨t',rfl⟩:=ry;exact PySem.EqMixed.ne_int_str (aZ I q (by simp))
   | _=>exact absurd (show false=true from hs) Ic
 | str i =>
   obtain⟨t,rfl⟩:=rx
   cases y with
   | non=>cases ry;exact PySem.EqNone.ne_str_none (aZ I q (by simp))
   | bl j=>cases ry;exact PySem.EqMixed.ne_str_bool (aZ I q (by simp))
   | int j=>obtain⟨t',rfl⟩:=ry;exact PySem.EqMixed.ne_str_int (aZ I q (by simp))
   | str j=>obtain⟨t',rfl⟩:=ry;exact ne_str (aZ I q (congrArg not pO))
   | _=>exact absurd (show false=true from hs) Ic
 | byt i =>
   obtain⟨t,rfl⟩:=rx
   cases y with
   | byt j=>obtain⟨t',rfl⟩:=ry;exact W.ne_bytes (aZ I q (congrArg not pQ))
   | _=>exact absurd (show false=true from hs) Ic
 | _=>cases y<;>exact absurd (show false=true from hs) Ic
theorem mH:GK X (Kh .Lt) (EN fun i j=>.bl (decide (i<j))):=zp fun _ _ _ _ _ _ _ q=>lt_int q
theorem AJ:GK X (Kh .LtE) (EN fun i j=>.bl (decide (i<=j))):=zp fun _ _ _ _ _ _ _ q=>le_int q
theorem mI:GK X (Kh .Gt) (EN fun i j=>.bl (decide (j<i))):=zp fun _ _ _ _ _ _ _ q=>gt_int q
theorem AK:GK X (Kh .GtE) (EN fun i j=>.bl (decide (j<=i))):=zp fun _ _ _ _ _ _ _ q=>ge_int q
theorem aK(b:Expr){op:CmpOp}(h:op ≠ .In:=by decide)(h2:op ≠ .NotIn:=by decide):KQ op b=false:=by
 have e1:(op==CmpOp.In)=false:=by cases op<;>first|rfl|exact absurd rfl h
 have e2:(op==CmpOp.NotIn)=false:=by cases op<;>first|rfl|exact absurd rfl h2
 cases b<;>simp[KQ,e1,e2]
theorem u9{op:CmpOp}{r:R2}(ho:GK X (Kh op) r)(ha:PE X a ta)(hb:PE X b tb)(hm:KQ op b=false):PE X (.Compare a [op] [b] pos) (Ek r ta tb):=by
 intro pins s σ H Q I h
 exact wpAny_Compare1 (Bn ha hb I h fun v u s2 x y H2 I2 rx ry q=>ho pins s2 σ H2 x y v u Q I2 rx ry q) hm
noncomputable def Ag(t:TE):TT:=fun σ H Q=>t σ H fun x H'=>∃k,x = .bl k/\Q k H'
theorem uR{op:CmpOp}{r:R2}(ho:GK X (Kh op) r)(ha:PE X a ta)(hb:PE X b tb)(hm:KQ op b=false):PT X (.Compare a [op] [b] pos) (Ag (Ek r ta tb)):=by
 intro pins s σ H Q I h
 refine wpAny_isTrue_Compare1 (Eh (ha pins s σ H _ I h) fun v s1 ⟨x,H1,I1,r1,q1⟩=>Eh (hb pins s1 σ H1 _ I1 q1) fun u s2 ⟨y,H2,I2,r2,q2⟩ =>
  Eh (ho pins s2 σ H2 x y v u _ I2 r1 r2 q2) fun c s3 ⟨z,H3,I3,r3,k,e,q3⟩=>?_) hm
 subst e
 cases r3
 exact J9 ⟨H3,I3,q3⟩
theorem lw:(sizeLine:Nat)<2^63:=by rw[sizeLine_eq];decide
theorem vals1{x:V}(r:ci [x] us):∃u,us=[u]/\RelV x u:=by
 cases r with
 | cons r1 r2=>cases r2;exact⟨_,rfl,r1⟩
theorem vals2{x y:V}(r:ci [x,y] us):∃u w',us=[u,w']/\RelV x u/\RelV y w':=by
 cases r with
 | cons r1 r2 =>
   cases r2 with
   | cons r3 r4=>cases r4;exact⟨_,_,rfl,r1,r3⟩
theorem sd:gh X (.builtin "abs") (fun xs H Q=>∃i,xs=[.int i]/\Q (.int (if i<0 then -i else i)) H):=by
 intro pins s σ H xs us Q I r h
 obtain⟨i,rfl,q⟩:=h
 obtain⟨u,rfl,t,rfl⟩:=vals1 r
 exact call_abs_int fun u tk=>⟨.int (if i<0 then -i else i),H,I.tok _,⟨_,rfl⟩,q⟩
theorem p7(hc:X.calm=true):gh X (.builtin "min") (fun xs H Q=>∃i j,xs=[.int i,.int j]/\Q (.int (if j<i then j else i)) H):=by
 intro pins s σ H xs us Q I r h
 obtain⟨i,j,rfl,q⟩:=h
 obtain⟨u,w',rfl,⟨t,rfl⟩,⟨t',rfl⟩⟩:=vals2 r
 refine min_two_ints (I.ok.hd hc) fun h' tk k=>⟨_,H,I.kept k,?_,q⟩
 by_cases hj:j<i
 · rw[if_pos hj,if_pos hj];exact⟨_,rfl⟩
 · rw[if_neg hj,if_neg hj];exact⟨_,rfl⟩
theorem p8:gh X (.type "int") (fun xs H Q=>(∃i,xs=[.int i]/\Q (.int i) H)\/∃k,xs=[.bl k]/\Q (.int (if k then 1 else 0)) H):=by
 intro pins s σ H xs us Q I r h
 rcases h with⟨i,rfl,q⟩|⟨k,rfl,q⟩
 · obtain⟨u,rfl,t,rfl⟩:=vals1 r
   exact call_int_int ⟨.int i,H,I,⟨_,rfl⟩,q⟩
 · obtain⟨u,rfl,r1⟩:=vals1 r
   cases r1
   exact call_int_bool ⟨.int (if k then 1 else 0),H,I.tok _,⟨_,rfl⟩,q⟩
end
section
variable{prog:HZ}{w:IL}{A:ID}{E:Hq->Hv->Prop}{s:Hv}{K:W.Frag}{x dx C f:Addr}{mA:Str->Option Hq}{name:Str}{v:Hq}
end
noncomputable def putF(f:Str)(v:V):List (Str×V)->List (Str×V)
 | []=>[(f,v)]
 | (g,x)::r=>if g=f then(g,v)::r else(g,x)::putF f v r
theorem wv.some_of{v:V}{o:Option Hq}(r:wv (some v) o):∃u,o=some u/\RelV v u:=by
 cases o with
 | none=>exact(show False from r).elim
 | some u=>exact⟨u,rfl,r⟩
section
variable{P:HZ}{w:IL}{H H':Hp}{h h':Heap}{a C dx:Addr}{fs fs':List (Str×V)}
end
section
variable{X:Cx}{pins:List (Addr×Obj)}{σ:St}{H:Hp}{s:Hv}{a C dx:Addr}{fs:List (Str×V)}{f:Str}{v:V}{A:ID}{E:Hq->Hv->Prop}
end
section
variable{X:Cx}{o e value:Expr}{f:Str}{pos pos' tpos:Pos}{ta tv:TE}
end
section
variable{X:Cx}{pins:List (Addr×Obj)}{σ:St}{H:Hp}{s:Hv}{A:ID}{E:Hq->Hv->Prop}{Q:Hq->Hv->Prop}{c:Hq}{b:Bool}
end
structure Room (k:Nat) (A:ID):Prop where
 hd:A.handled=none
 dp:A.depth+3*k+5<recursionLimit
 un:A.units+16*k+200<Ni
 gd:A.guards=some []
theorem Room.mono{k:Nat}(r:Room k A)(h:j<=k):Room j A:=⟨r.hd,by have:=r.dp;omega,by have:=r.un;omega,r.gd⟩
theorem Room.deeper{k:Nat}(r:Room (k+1) A)(env:Env):Room k (A.deeper env) :=
 ⟨r.hd,by have:=r.dp;show A.depth+1+3*k+5<_;omega,by have:=r.un;show A.units+3+16*k+200<_;omega,r.gd⟩
theorem Room.depth{k:Nat}(r:Room k A):A.depth<recursionLimit:=by have:=r.dp;omega
theorem Room.units{k:Nat}(r:Room k A):A.units+64<Ni:=by have:=r.un;omega
noncomputable def Cw:TA:=fun _ H Q=>Q [] H
noncomputable def xp(ta:TE)(tr:TA):TA:=fun σ H Q=>ta σ H fun x H1=>tr σ H1 fun xs H2=>Q (x::xs) H2
section
variable{X:Cx}{e:Expr}{es:List Expr}{te:TE}{t:TA}{pos:Pos}
theorem jk:PA X [] Cw:=fun _ _ _ _ H Q I h=>Calls.spliced_nil ⟨[],H,I,.nil,h⟩
theorem dO(ha:PE X e te)(hr:PA X es t)(hs:Hy (e::es) X.env=(false,eval e X.env)::Hy es X.env:=by rfl):PA X (e::es) (xp te t):=by
 intro pos pins s σ H Q I h
 rw[hs]
 show HS _ _ (spliced ((false,eval e X.env)::Je pos (Hy es X.env))) _ _ s
 refine Calls.spliced_cons (Eh (ha pins s σ H _ I h) fun u s1 ⟨x,H1,I1,r1,q1⟩=>?_)
 exact Eh (hr pos pins s1 σ H1 _ I1 q1) fun us s2 ⟨xs,H2,I2,r2,q2⟩=>⟨x::xs,H2,I2,.cons r1 r2,q2⟩
noncomputable def C1(t:TA):TE:=fun σ H Q=>t σ H fun xs H1=>xs.length<=sizeLine/\∀p,H1 p=none->Q (.ref p) (D9 H1 p (.tup xs))
noncomputable def C9(t:TA):TE:=fun σ H Q=>t σ H fun xs H1=>xs.length<=sizeLine/\∀p,H1 p=none->Q (.ref p) (D9 H1 p (.lst xs))
theorem yf{x1}(h:PA X es t):PE X (.Tuple es x1 pos) (C1 t):=by
 intro pins s σ H Q I hq
 refine wpAny_Tuple_spliced (Eh (h pos pins s σ H _ I hq) fun us s1 ⟨xs,H1,I1,r,z,q⟩=>⟨by rw[<- r.length];exact z,?_⟩)
 have hf:H1 s1.heap.objs.size=none:=I1.hok.fresh (HA _)
 refine⟨.ref s1.heap.objs.size,D9 H1 s1.heap.objs.size (.tup xs),I1.laid (t':=s1.toks) (fun b u e=>Hl _ e) (HA _) ?_,rfl,q _ hf⟩
 exact⟨z,us,r,qf.new _ _⟩
theorem yi(h:PA X es t):PE X (.List es pos) (C9 t):=by
 intro pins s σ H Q I hq
 refine wpAny_List_spliced (Eh (h pos pins s σ H _ I hq) fun us s1 ⟨xs,H1,I1,r,z,q⟩=>⟨by rw[<- r.length];exact z,?_⟩)
 have hf:H1 s1.heap.objs.size=none:=I1.hok.fresh (HA _)
 refine⟨.ref s1.heap.objs.size,D9 H1 s1.heap.objs.size (.lst xs),I1.laid (t':=s1.toks) (fun b u e=>Hl _ e) (HA _) ?_,rfl,q _ hf⟩
 exact⟨z,us,0,r,HI _ rfl⟩
end
abbrev Sp:=List V->Hp->VK->XK->Prop
abbrev G6:=List Env->Hp->Hv->XK->Hq->Hv->Prop
structure Env0 (P:HZ) (w:IL) (K:W.Frag) (mg:Str->Option Hq) (base:Heap) (A:ID) (outer:List Env) (s:Hv) (H:Hp):Prop where
 frames:A.frames=some outer
 mod:Mod K mg base
 bs:∀b o,base.get? b=some o->s.heap.get? b=some o/\H b=none
 bsz:base.objs.size<=s.heap.objs.size
 funs:s.heap.FunFrames base outer
 frf:∀b∈frs outer,H b=none
 hok:G4 P w H s.heap
 bare:MN s.gens
noncomputable def CE(outer:List Env)(P:HZ)(w:IL)(H:Hp)(s:Hv)(Q:VK)(u:Hq)(s':Hv):Prop :=
 ∃v H',s'.os=s.os/\MN s'.gens/\Un (frs outer) [] H H' s.heap s'.heap/\G4 P w H' s'.heap/\RelV v u/\Q v H'
noncomputable def CR(CX:G6)(outer:List Env)(P:HZ)(w:IL)(H:Hp)(s:Hv)(Q:VK)(E:XK)(r:ND)(s':Hv):Prop :=
 match r with
 | .ok (.ret u)=>CE outer P w H s Q u s'
 | .ok _=>False
 | .error e=>CX outer H s E e s'
structure FnOk (P:HZ) (w:IL) (K:W.Frag) (mg:Str->Option Hq) (base:Heap) (CX:G6) (k:Nat) (f:Addr) (fd:J8) (ps:List Str) (sp:Sp):Prop where
 len:∀vs H Q E,sp vs H Q E->vs.length=ps.length
 run:∀(A:ID)(outer:List Env)(s:Hv)(H:Hp)(args:Args)(us:List Hq)(vs:List V)(Q:VK)(E:XK),Room k A->Env0 P w K mg base A outer s H->NE s fd args (ps.zip us)->ci vs us->sp vs H Q E ->
  JY (Ie P w) A (.call (.ref f) args) (CR CX outer P w H s Q E) s
section
variable{X:Cx}{pins:List (Addr×Obj)}{σ:St}{H:Hp}{s s':Hv}
theorem Inv.env0(I:Inv X pins σ H s):Env0 X.prog X.w X.K X.mg X.base X.A X.stack s H :=
 ⟨I.ok.frames,I.ok.mod,I.bs,IH I.ok.bsz I.sz,I.stack,I.stkFree,I.hok,I.bare⟩
theorem Inv.after{Q:VK}(I:Inv X pins σ H s)(h:CE X.stack X.prog X.w H s Q u s'):EP X pins σ Q u s':=by
 obtain⟨v,H',os,bare,un,hok,r,q⟩:=h
 obtain⟨hh,g,d,t,os'⟩:=s'
 obtain rfl:os'=s.os:=os
 exact⟨v,H',I.call (h':=hh) (g':=g) (d':=d) (t':=t) (ch:=[]) un hok bare (fun b z=>absurd z (by simp)),r,q⟩
end
noncomputable def An(sp:Sp)(dvs:List V)(E:XK)(t:TA):TE:=fun σ H Q=>t σ H fun vs H1=>sp (vs++dvs) H1 Q E
noncomputable def Binds(K:W.Frag)(fd:J8)(ps:List Str)(ds:List Hq):Prop :=
 ∀(s:Hv)(us:List Hq),K.In s.heap->(us++ds).length=ps.length->NE s fd ⟨us,[]⟩ (ps.zip (us++ds))
theorem Binds.all{K:W.Frag}{ps:List Str}(h:∀us:List Hq,us.length=ps.length->bindArgs fd ⟨us,[]⟩=pure (ps.zip us)):Binds K fd ps []:=fun s us _ hl=>by
 rw[JF]at hl ⊢
 exact .of_eq (h us hl)
noncomputable def qe(CX:G6)(X:Cx)(E:XK):Prop:=∀(pins:List (Addr×Obj))(σ:St)(H:Hp)(s:Hv)(e:Hq)(s':Hv),Inv X pins σ H s->CX X.stack H s E e s'->X.xe e s'
section
variable{X:Cx}{CX:G6}{k:Nat}{f C:Addr}{fd:J8}{ps:List Str}{sp:Sp}{dvs:List V}{ds:List Hq}{E:XK}{x m:Str}{p pos apos:Pos}{e o:Expr}{es:List Expr}{ta:TE}{t:TA}
theorem xJ{σ:St}{H:Hp}{Q:VK}{vs:List V}(F:FnOk X.prog X.w X.K X.mg X.base CX k f fd ps sp)(hr:Room k X.A)(hb:Binds X.K fd ps ds)(hd:ci dvs ds)(hx:qe CX X E)
 (I:Inv X pins σ H s)(r:ci vs us)(h:sp (vs++dvs) H Q E):HS (Ie X.prog X.w) X.A (call (.ref f) us) (EP X pins σ Q) X.xe s:=by
 have r2:ci (vs++dvs) (us++ds):=r.append hd
 have hl:(us++ds).length=ps.length:=by rw[<- r2.length];exact F.len _ _ _ _ h
 refine wpAny_call (LQ (F.run X.A X.stack s H ⟨us,[]⟩ (us++ds) (vs++dvs) Q E hr I.env0 (hb s us I.kIn hl) r2 h) fun r s' hq=>?_)
 cases r with
 | error e=>exact hx pins σ H s e s' I hq
 | ok fl =>
   cases fl with
   | ret u=>exact I.after hq
   | next=>exact Jw hq
   | brk=>exact Jw hq
   | cont=>exact Jw hq
theorem j_(F:FnOk X.prog X.w X.K X.mg X.base CX k f fd ps sp)(hr:Room k X.A)(hg:Gl X x)(hm:X.mg x=some (.ref f))(hk:W.keepIn X.K (.ref f)=true)(hb:Binds X.K fd ps ds)(hd:ci dvs ds)(hx:qe CX X E)
 (ha:PA X (e::es) t)(hdb:(x==("__debug__" : Str))=false:=by decide)(he:Hy (e::es) X.env=(false,eval e X.env)::Hy es X.env:=by rfl)(hpl:(Je pos (Hy es X.env)).any (·.1)=false:=by rfl) :
 PE X (.Call (.Name x p) (e::es) [] pos) (An sp dvs E t):=by
 intro pins s σ H Q I h
 refine Kl (o9 I hg hm ?_ hdb)
 refine W.callWith_K (h₀:=X.base) I.ok.mod.kin hk (Eh (ha pos pins s σ H _ I h) fun us s1 ⟨vs,H1,I1,r,q⟩=>⟨I1.kIn,?_⟩) he hpl
 exact xJ F hr hb hd hx I1 r q
end
noncomputable def PK(X:Cx)(kws:List KF)(t:TA):Prop :=
 ∀(pos:Pos)(pins:List (Addr×Obj))(s:Hv)(σ:St)(H:Hp)(Q:List V->Hp->Prop),Inv X pins σ H s->t σ H Q->HS (Ie X.prog X.w) X.A (evalAll ((LR pos (Kq kws X.env)).map (·.2))) (AP X pins σ Q) X.xe s
section
variable{X:Cx}{CX:G6}{k:Nat}{f C:Addr}{fd:J8}{ps ks:List Str}{sp:Sp}{E:XK}{x m:Str}{p pos apos kpos:Pos}{e o:Expr}{es:List Expr}{kws:List KF}{te ta:TE}{t tk:TA}{nm:Option Str}
theorem ya:PK X [] Cw:=fun _ _ _ _ H Q I h=>wpAny_evalAll_nil ⟨[],H,I,.nil,h⟩
theorem uX(ha:PE X e te)(hr:PK X kws t):PK X (⟨nm,e,kpos⟩::kws) (xp te t):=by
 intro pos pins s σ H Q I h
 show HS _ _ (evalAll ((do let v <- eval e X.env;MP pos;pure v)::(LR pos (Kq kws X.env)).map (·.2))) _ _ s
 refine wpAny_evalAll_cons (Hi (Eh (ha pins s σ H _ I h) fun u s1 ⟨x,H1,I1,r1,q1⟩=>Hi (Jt (HH ?_))))
 exact Eh (hr pos pins s1 σ H1 _ I1 q1) fun us s2 ⟨xs,H2,I2,r2,q2⟩=>⟨x::xs,H2,I2,.cons r1 r2,q2⟩
variable{g:List Hq->List Hq->List Hq}{gV:List V->List V->List V}
end
structure FnScope (N P:List Str) (sc:Scope):Prop where
 kind:sc.kind = .function
 co:sc.isCoroutine=false
 gen:sc.isGenerator=false
 nd:N.Nodup
 pre:N.take P.length=P
 par:∀x∈P,sc.names.lookup x=some .local\/sc.names.lookup x=some .cell
 nofree:∀y∈sc.names,y.2 ≠ .free
theorem jE{kindOf:Str->Option KR}{x:Str}:∀{binds:List (Str×Hq)}{m:Str->Option Hq},(∀v,(x,v)∉binds)->bindL kindOf binds m x=m x
 | [],_,_=>rfl
 | (n,v)::r,m,h=>by
   unfold bindL
   rw[jE fun w hw=>h w (Hn _ hw)]
   split
   · have:x≠n:=by rintro rfl;exact h v Ht
     simp[this]
   · rfl
theorem jG{kindOf:Str->Option KR}{x:Str}:∀{binds:List (Str×Hq)}{m:Str->Option Hq},(∀v,(x,v)∉binds)->bindC kindOf binds m x=m x
 | [],_,_=>rfl
 | (n,v)::r,m,h=>by
   unfold bindC
   rw[jG fun w hw=>h w (Hn _ hw)]
   split
   · rfl
   · have:x≠n:=by rintro rfl;exact h v Ht
     simp[this]
theorem jF{kindOf:Str->Option KR}{x:Str}{v:Hq}:∀{P:List Str}{vs:List Hq}{i:Nat}{m:Str->Option Hq},P.Nodup->P[i]?=some x->vs[i]?=some v->kindOf x=some .local ->
 bindL kindOf (P.zip vs) m x=some v
 | [],_,_,_,_,h,_,_=>by simp at h
 | _::_,[],_,_,_,_,h,_=>by simp at h
 | p::P,w::vs,0,m,nd,h1,h2,hk=>by
   simp at h1 h2;subst h1;subst h2
   show bindL kindOf ((p,w)::P.zip vs) m p=_
   unfold bindL
   rw[jE fun v hv=>(JZ.mp nd).1 (KS hv).1,if_pos hk]
   simp
 | p::P,w::vs,i+1,m,nd,h1,h2,hk=>by
   show bindL kindOf ((p,w)::P.zip vs) m x=_
   unfold bindL
   exact jF (i:=i) (JZ.mp nd).2 (by simpa using h1) (by simpa using h2) hk
theorem jH{kindOf:Str->Option KR}{x:Str}{v:Hq}:∀{P:List Str}{vs:List Hq}{i:Nat}{m:Str->Option Hq},P.Nodup->P[i]?=some x->vs[i]?=some v->kindOf x≠some .local ->
 bindC kindOf (P.zip vs) m x=some v
 | [],_,_,_,_,h,_,_=>by simp at h
 | _::_,[],_,_,_,_,h,_=>by simp at h
 | p::P,w::vs,0,m,nd,h1,h2,hk=>by
   simp at h1 h2;subst h1;subst h2
   show bindC kindOf ((p,w)::P.zip vs) m p=_
   unfold bindC
   rw[jG fun v hv=>(JZ.mp nd).1 (KS hv).1,if_neg hk]
   simp
 | p::P,w::vs,i+1,m,nd,h1,h2,hk=>by
   show bindC kindOf ((p,w)::P.zip vs) m x=_
   unfold bindC
   exact jH (i:=i) (JZ.mp nd).2 (by simpa using h1) (by simpa using h2) hk
noncomputable def start(N:List Str)(vs:List V):St:=vs.map some++H0 (N.length-vs.length) none
noncomputable def qj(CX:G6)(P:HZ)(w:IL)(K:W.Frag)(mg:Str->Option Hq)(base:Heap)(N:List Str)(qual:Str)(scope:Scope)(f:Addr)(cd:Hq)(A:ID)(outer:List Env)(s:Hv)(H:Hp)(E:XK):Cx where
 prog:=P
 w:=w
 K:=K
 mg:=mg
 base:=base
 A:=A.deeper (Mq qual scope s.heap.objs.size f cd)
 N:=N
 s₀:=s
 H₀:=H
 env:=Mq qual scope s.heap.objs.size f cd
 outer:=outer
 stack:=Mq qual scope s.heap.objs.size f cd::outer
 ex:=[]
 calm:=true
 fn:=fun _=>true
 pn:=[]
 xe:=fun e s'=>HS (Ie P w) (A.deeper (Mq qual scope s.heap.objs.size f cd)) (leaving (Mq qual scope s.heap.objs.size f cd) e) (fun _ s''=>CX outer H s E e s'') (fun e' s''=>CX outer H s E e' s'') s'
theorem lK{sc:Scope}(h:sc.names.lookup x=some .cell):∃c,(JK n sc.names []).lookup x=some c:=by
 have q:=W.cellsFrom_some sc.names n [] (.inl h)
 exact Ka.mp q
theorem pC{CX:G6}{K:W.Frag}{base:Heap}{ps:List Str}{f:Addr}{cd:Hq}{outer:List Env}{s1:Hv}{H:Hp}{E:XK}{vs:List V}
 (S:FnScope N ps scope)(hd:A.handled=none)(e0:Env0 P w K mg base A outer s H)(hl:vs.length=ps.length)(r:ci vs us)
 (x:InCallC s s.heap.objs.size (bindL (Mq qual scope s.heap.objs.size f cd).kindOf (ps.zip us) fun _=>none) (JK (s.heap.objs.size+1) scope.names []) (bindC (Mq qual scope s.heap.objs.size f cd).kindOf (ps.zip us) fun _=>none) s1) :
 Inv (qj CX P w K mg base N qual scope f cd A outer s H E) [] (start N vs) H s1:=by
 have hpl:ps.length<=N.length:=by have:=congrArg List.length S.pre;rw[JR]at this;omega
 obtain⟨h1,tk,rfl,hk⟩:=x.done
 have noA:∀b:Addr,b∉(qj CX P w K mg base N qual scope f cd A outer s H E).ex:=fun b z=>absurd (show b∈([]:List Addr)from z) (by simp)
 refine⟨⟨e0.mod,S.kind,rfl,rfl,HA _,fun y z c h1 h2=>?_,fun y hy=>?_,fun y c _ h=>?_,fun _=>hd,ID.frames_deeper e0.frames,.inr ⟨rfl,rfl⟩,fun b z=>absurd z (noA b),e0.bs,e0.bsz,fun b _ _=>noA b,fun b z=>absurd z (noA b),e0.funs,e0.frf⟩,
  rfl,e0.bare,Un.kept hk,⟨_,x.toInCall.ns,fun i y v h1 h2 h3=>?_⟩,fun y c h=>⟨_,x.cell y c h⟩,e0.hok.fresh (HA _),fun y c h=>?_,fun p hp=>absurd (show p∈([]:List (Addr×Obj))from hp) (by simp),e0.hok.kept hk,?_⟩
 · exact name_of_addr x.apart (IQ h1) (IQ h2)
 · have hy:scope.names.lookup y=some .cell\/scope.names.lookup y=some .free:=hy
   rcases hy with hy|hy
   · exact lK hy
   · exact absurd rfl (S.nofree _ (IQ hy))
 · exact No (x.above y c (IQ h))
 · have hi:i<vs.length:=by
     unfold start at h2
     by_cases hi:i<vs.length
     · exact hi
     · rw[J1 (by simpa using hi)]at h2
       rw[KU]at h2
       split at h2<;>cases h2
   have ha:vs[i]?=some v:=by
    unfold start at h2
    rw[JM (by simpa using hi),Ii]at h2
    cases e:vs[i]? with
    | none=>rw[e]at h2;cases h2
    | some a=>rw[e]at h2;cases h2;rfl
   obtain⟨u,hu,rv⟩:=r.get ha
   have hp:ps[i]?=some y:=by
    rw[<- S.pre,List.getElem?_take_of_lt (by omega)];exact h1
   have ndP:ps.Nodup:=by rw[<- S.pre];exact S.nd.sublist (List.take_sublist _ _)
   refine⟨u,rv,?_⟩
   rcases S.par y (JS hp)with k|k
   · exact .inl ⟨k,jF ndP hp hu k⟩
   · obtain⟨c,e⟩:=lK (n:=s.heap.objs.size+1) k
     refine .inr ⟨.inl k,c,e,?_⟩
     have q:=x.cell y c e
     rw[jH ndP hp hu (by show scope.names.lookup y≠_;rw[k];decide)]at q
     exact q
 · exact e0.hok.fresh (No (x.above y c (IQ h)))
 · unfold start
   show _=N.length
   rw[HD,Hm,Kr]
   omega
theorem Bf{CX:G6}{K:W.Frag}{base:Heap}{k:Nat}{f:Addr}{name:Str}{params:Arguments}{body:List Stmt}{dV kV doc pm cdv ct oc:Hq}{an od:Option Addr}
 {osl:Array (Option Hq)}{ps:List Str}{sp:Sp}(lk:K.lookup f=some ⟨oc,od,.func (W.fnOf name qual params body scope dV kV doc pm an cdv ct),osl⟩)(hcd:W.codeIn K cdv qual=true)(S:FnScope N ps scope)
 (len:∀vs H Q E,sp vs H Q E->vs.length=ps.length)
 (hbody:∀(A:ID)(outer:List Env)(s:Hv)(H:Hp)(vs:List V)(Q:VK)(E:XK),Room k (A.deeper (Mq qual scope s.heap.objs.size f cdv))->sp vs H Q E ->
  ∃t,GA (qj CX P w K mg base N qual scope f cdv A outer s H E) body t/\t {nx:=fun _ H'=>Q .non H',rt:=Q} (start N vs) H) :
 FnOk P w K mg base CX (k+1) f (W.fnOf name qual params body scope dV kV doc pm an cdv ct) ps sp:=by
 refine⟨len,fun A outer s H args us vs Q E hr e0 hb r hsp=>?_⟩
 have hl:=len _ _ _ _ hsp
 have KX:K.In s.heap:=e0.mod.kin.keeps fun b o e=>(e0.bs b o e).1
 have lim:s.heap.NoLimit:=e0.mod.nolimit.keeps fun b o e=>(e0.bs b o e).1
 have hkind:∀y∈ps.zip us,scope.names.lookup y.1=some .local\/(scope.names.lookup y.1=some .cell/\((JK (s.heap.objs.size+1) scope.names []).lookup y.1).isSome=true):=fun⟨n,v⟩ hy=>by
  rcases S.par n (KS hy).1 with q|q
  · exact .inl q
  · exact .inr ⟨q,W.cellsFrom_some _ _ _ (.inl q)⟩
 refine codeAny_call_function hr.depth (KX _ _ lk) rfl S.co S.gen rfl (W.codeRec_of KX hcd) (hb _ _ _ _ ?_)
 refine wpAny_newFunctionEnv_cells S.kind hkind fun env he s1 x=>?_
 subst he
 refine⟨lim.keeps x.toInCall.keep,codeAny_func ?_⟩
 obtain⟨t,ht,hq⟩:=hbody A outer s H vs Q E (hr.deeper _) hsp
 have I:Inv (qj CX P w K mg base N qual scope f cdv A outer s H E) [] (start N vs) H s1:=pC S hr.hd e0 hl r x
 refine Ih (ht [] s1 (start N vs) H _ I hq) (fun fl s' hs=>?_) fun e s' hs=>hs
 have fin:∀{σ':St}{H':Hp}{v:V}{u:Hq},Inv (qj CX P w K mg base N qual scope f cdv A outer s H E) [] σ' H' s'->RelV v u->Q v H'->CE outer P w H s Q u s' :=
  fun{σ' H' v u} J rv q=>⟨v,H',J.os,J.bare,J.base,J.hok,rv,q⟩
 cases fl with
 | ret u =>
   obtain⟨v,σ',H',J,rv,q⟩:=hs
   exact fin J rv q
 | next =>
   obtain⟨σ',H',J,q⟩:=hs
   exact fin (v:=V.non) (u:=K3) J rfl q
 | brk =>
   obtain⟨_,_,_,q⟩:=hs
   exact Jw q
 | cont =>
   obtain⟨_,_,_,q⟩:=hs
   exact Jw q
section
variable{X:Cx}{x:Str}{p pos:Pos}{e:Expr}{es:List Expr}{t:TA}{id T:String}{r:List V->Hp->VK->Prop}
noncomputable def Ep(r:List V->Hp->VK->Prop)(t:TA):TE:=fun σ H Q=>t σ H fun vs H1=>r vs H1 Q
theorem qT(hc:gh X (.builtin id) r)(hg:Gl X x)(hm:X.mg x=none)(hv:KH x=some (.builtin id))(ha:PA X (e::es) t)(hn:x ≠ "__name__" := by decide)(hdb:(x==("__debug__" : Str))=false:=by decide)
 (he:Hy (e::es) X.env=(false,eval e X.env)::Hy es X.env:=by rfl)(hpl:(Je pos (Hy es X.env)).any (·.1)=false:=by rfl):PE X (.Call (.Name x p) (e::es) [] pos) (Ep r t):=by
 intro pins s σ H Q I h
 refine Kl (eW I hg hm hv ?_ hn hdb)
 exact PyProof.Rows.callWith_builtin1 (Eh (ha pos pins s σ H _ I h) fun us s1 ⟨vs,H1,I1,r1,q1⟩=>hc pins s1 σ H1 vs us Q I1 r1 q1) he hpl
theorem oN(hc:gh X (.type T) r)(hg:Gl X x)(hm:X.mg x=none)(hv:KH x=some (.type T))(ha:PA X (e::es) t)(hn:x ≠ "__name__" := by decide)(hdb:(x==("__debug__" : Str))=false:=by decide)
 (he:Hy (e::es) X.env=(false,eval e X.env)::Hy es X.env:=by rfl)(hpl:(Je pos (Hy es X.env)).any (·.1)=false:=by rfl):PE X (.Call (.Name x p) (e::es) [] pos) (Ep r t):=by
 intro pins s σ H Q I h
 refine Kl (eW I hg hm hv ?_ hn hdb)
 exact Jf (Eh (ha pos pins s σ H _ I h) fun us s1 ⟨vs,H1,I1,r1,q1⟩=>hc pins s1 σ H1 vs us Q I1 r1 q1) he hpl
end
end L2
variable{H H' F F' F₀ H₀:L2.Hp}{v:L2.V}{X:L2.Cx}{σ:L2.St}{vs:List L2.V}{kvs:List (List L2.GQ×L2.V)}
namespace HT
open PySem PyProof.Rows
section
open PySem.SeqAt
open PySem.AutoSeq1 (wpAny_loadPart')
open PySem.MeetsSeq PySem.MeetsSeq2 PySem.MeetsSeq3
end
section
variable{prog:HZ}{w:IL}{A:ID}{E:Hq->Hv->Prop}{s:Hv}
theorem cat_tup{t:Addr}{vs ws:List Hq}(ht:IsTup s.heap t vs.toArray)(hb:IsTup s.heap b ws.toArray)(hv:vs≠[])
 (h1:ws=[]->Q (.ref t) s)(h2:ws≠[]->Q (.ref s.heap.objs.size) {s with heap:=s.heap.push {cls:=.type "tuple", data:=.seq (vs++ws).toArray}})
 (hsz:vs.length+ws.length<=sizeLine):HS (Ie prog w) A (Ku .Add (.ref t) (.ref b)) Q E s:=by
 obtain⟨⟨cls,dd,data,sl⟩,ho,hc,n,hd⟩:=id ht
 obtain⟨⟨cls2,dd2,data2,sl2⟩,ho2,hc2,n2,hd2⟩:=id hb
 simp only at hc hd hc2 hd2
 subst hc hd hc2 hd2
 have e:vs.toArray++ws.toArray=(vs++ws).toArray:=by simp
 by_cases hw:ws=[]
 · exact Np ⟨_,ho,rfl⟩ ⟨_,ho2,rfl⟩ Ma M9 K2 KW (KI _ _)
     (tuple_addW1 t b vs.toArray ws.toArray n n2 dd dd2 sl sl2 (by simpa using hv) (by simp[hw])) ⟨ho,ho2,h1 hw⟩
 · refine Np ⟨_,ho,rfl⟩ ⟨_,ho2,rfl⟩ Ma M9 K2 KW (KI _ _)
     (tuple_addW2 t b vs.toArray ws.toArray n n2 dd dd2 sl sl2 (by simpa using hv) (by simpa using hw) (by rw[HN,HN];exact hsz)) ⟨ho,ho2,?_⟩
   rw[e]
   exact h2 hw
noncomputable def sIx(n d:Nat):Option Int->Nat
 | none=>d
 | some v=>if v<0 then(v+(n:Int)).toNat else min v.toNat n
theorem sIx_none(n d:Nat):sIx n d none=d:=rfl
theorem sIx_nat(n d k:Nat):sIx n d (some (k:Int))=min k n:=by
 show(if(k:Int)<0 then((k:Int)+(n:Int)).toNat else min (k:Int).toNat n)=min k n
 rw[if_neg (by omega),JW]
end
end HT
namespace L2
abbrev TO:=St->Hp->(Option Int->Hp->Prop)->Prop
noncomputable def PO(X:Cx)(e:Option Expr)(t:TO):Prop :=
 ∀ (pins:List (Addr×Obj))(s:Hv)(σ:St)(H:Hp)(Q:Option Int->Hp->Prop),Inv X pins σ H s->t σ H Q ->
   HS (Ie X.prog X.w) X.A (evalPart e X.env) (fun u s'=>∃o H',Inv X pins σ H' s'/\IsPart u o/\Q o H') X.xe s
noncomputable def uo:TO:=fun _ H Q=>Q none H
noncomputable def Ah(t:TE):TO:=fun σ H Q=>t σ H fun x H1=>∃i,x = .int i/\Q (some i) H1
theorem intsAre_of:∀{us:List Hq},ci (ns.map V.int) us->Lz us ns:=by
 induction ns with
 | nil=>intro us r;rw[LS]at r;cases r;exact .nil
 | cons n ns ih =>
   intro us r
   rw[Ik]at r
   cases r with
   | cons r1 r2 =>
     obtain⟨t,e⟩:=r1
     subst e
     exact .cons n t (ih r2)
section
variable{X:Cx}{e:Expr}{te:TE}{lo hi:Option Expr}{tl th:TO}{pos p2:Pos}
theorem uV:PO X none uo:=by
 intro pins s σ H Q I h
 rw[evalPart_none]
 exact HH ⟨none,H,I,.none,h⟩
theorem uU(h:PE X e te):PO X (some e) (Ah te):=by
 intro pins s σ H Q I hw
 rw[evalPart_some]
 refine Eh (h pins s σ H _ I hw) fun u s1 ⟨x,H1,I1,r1,q1⟩=>?_
 obtain⟨i,rfl,q⟩:=q1
 obtain⟨t,rfl⟩:=r1
 exact⟨some i,H1,I1,.int i t,q⟩
noncomputable def Gr(X:Cx)(r:V->Option Int->Option Int->Hp->VK->Prop):Prop :=
 ∀ (pins:List (Addr×Obj))(s:Hv)(σ:St)(H:Hp)(x:V)(v vl vu:Hq)(lo hi:Option Int)(sl:Addr)(Q:VK),Inv X pins σ H s->RelV x v->s.heap.IsSliceOf sl vl vu .none->IsPart vl lo->IsPart vu hi->r x lo hi H Q ->
   ∃T id,typeLookup (.type T) "__getitem__" = pure (some (.builtin id))/\s.TypeIs v T/\HS (Ie X.prog X.w) X.A (NF v (.ref sl)) (EP X pins σ Q) X.xe s
noncomputable def Ej(r:V->Option Int->Option Int->Hp->VK->Prop)(te:TE)(tl th:TO):TE:=fun σ H Q=>te σ H fun x H1=>tl σ H1 fun l H2=>th σ H2 fun u H3=>r x l u H3 Q
theorem qQ{r:V->Option Int->Option Int->Hp->VK->Prop}(hr:Gr X r)(he:PE X e te)(hl:PO X lo tl)(hu:PO X hi th):PE X (.Subscript e (.Slice lo hi none p2) pos) (Ej r te tl th):=by
 intro pins s σ H Q I h
 refine Subscript_ (Eh (he pins s σ H _ I h) fun v s1 ⟨x,H1,I1,r1,q1⟩=>?_)
 refine wpAny_Slice (Eh (hl pins s1 σ H1 _ I1 q1) fun vl s2 ⟨l,H2,I2,pl,q2⟩=>Eh (hu pins s2 σ H2 _ I2 q2) fun vu s3 ⟨u,H3,I3,pu,q3⟩=>?_)
 rw[evalPart_none]
 refine HH ?_
 have I4:Inv X pins σ H3 {s3 with heap:=s3.heap.push {cls:=.type "slice", data:=.fields #[vl,vu,.none]}}:=I3.kept (t':=s3.toks) fun b ob q=>Hl _ q
 obtain⟨T,id,hT,ht,hg⟩:=hr pins {s3 with heap:=s3.heap.push {cls:=.type "slice", data:=.fields #[vl,vu,.none]}} σ H3 x v vl vu l u s3.heap.objs.size Q I4 r1 (Heap.IsSliceOf.new ..) pl pu q3
 show HS (Ie X.prog X.w) X.A (M_ e (.Slice lo hi none p2) v (.ref s3.heap.objs.size)) (EP X pins σ Q) X.xe {s3 with heap:=s3.heap.push {cls:=.type "slice", data:=.fields #[vl,vu,.none]}}
 exact tail_any (ops:=[.ref s3.heap.objs.size,v]) ht hT hg (by with_unfolding_all rfl)
noncomputable def wu(xs:List V)(lo hi:Option Int):List V:=(xs.drop (HT.sIx xs.length 0 lo)).take (HT.sIx xs.length xs.length hi-HT.sIx xs.length 0 lo)
theorem kG(xs:List V)(lo hi:Option Int):(wu xs lo hi).length<=xs.length:=by
 unfold wu
 rw[JR,Ln]
 omega
noncomputable def uL(K:W.Frag):R2:=fun x y H Q=>∃a b xs ys,x = .ref a/\y = .ref b/\Gm K H a xs/\Gm K H b ys/\xs≠[]/\xs.length+ys.length<=sizeLine /\
 (ys=[]->Q (.ref a) H)/\(ys≠[]->∀p,H p=none->Q (.ref p) (D9 H p (.tup (xs++ys))))
theorem ci.nil_iff{xs:List V}(r:ci xs us):us=[]↔xs=[]:=by
 cases r with
 | nil=>simp
 | cons _ _=>simp
theorem ve:GK X (Ku .Add) (uL X.K):=by
 intro pins s σ H x y v u Q I rx ry h
 obtain⟨a,b,xs,ys,rfl,rfl,ha,hb,hx,hz,q1,q2⟩:=h
 cases rx
 cases ry
 obtain⟨its,r1,p1,_⟩:=I.tuple ha
 obtain⟨its2,r2,p2,_⟩:=I.tuple hb
 refine HT.cat_tup p1 p2 (fun z=>hx (r1.nil_iff.mp z)) (fun z=>⟨.ref a,H,I,rfl,q1 (r2.nil_iff.mp z)⟩) (fun z=>?_) (by rw[<- r1.length,<- r2.length];exact hz)
 refine⟨.ref s.heap.objs.size,_,I.laid (t':=s.toks) (o:=.tup (xs++ys)) (fun b ob q=>Hl _ q) (HA _) ?_,rfl,q2 (fun w=>z (r2.nil_iff.mpr w)) _ (I.hok.fresh (HA _))⟩
 exact⟨by rw[HD];exact hz,_,r1.append r2,qf.new _ _⟩
end
noncomputable def ixN(n:Nat)(i:Int):Option Nat:=if 0<=i then(if i<n then some i.toNat else none)else if -(n:Int)<=i then some (i+n).toNat else none
noncomputable def atI{α:Type}(xs:List α)(i:Int):Option α:=(ixN xs.length i).bind fun j=>xs[j]?
theorem vK{i:Int}(h:ixN n i=some j):seqIndex? i n=some j/\j<n /\ -(n:Int)<=i/\i<n:=by
 unfold ixN at h
 by_cases h0:0<=i
 · rw[if_pos h0]at h
   by_cases h1:i<n
   · rw[if_pos h1]at h
     have e:i.toNat=j:=IG h
     exact⟨by rw[NG h0 h1,e],by omega,by omega,h1⟩
   · rw[if_neg h1]at h;cases h
 · rw[if_neg h0]at h
   by_cases h1 : -(n:Int)<=i
   · rw[if_pos h1]at h
     have e:(i+n).toNat=j:=IG h
     exact⟨by rw[seqIndex_neg (by omega) h1,e],by omega,h1,by omega⟩
   · rw[if_neg h1]at h;cases h
theorem kK{xs:List α}{i:Int}{v:α}(h:atI xs i=some v):∃j,seqIndex? i xs.length=some j/\xs[j]?=some v/\j<xs.length /\ -(xs.length:Int)<=i/\i<xs.length:=by
 unfold atI at h
 cases e:ixN xs.length i with
 | none=>rw[e]at h;cases h
 | some j =>
   rw[e]at h
   obtain⟨h1,h2,h3,h4⟩:=vK e
   exact⟨j,h1,h,h2,h3,h4⟩
theorem dw{xs:List α}{v:α}(h:xs[j]?=some v):atI xs (j:Int)=some v:=by
 have hj:j<xs.length:=(Ia.mp h).1
 have e:ixN xs.length (j:Int)=some j:=by
  unfold ixN
  rw[if_pos (by omega),if_pos (by omega)];simp
 unfold atI;rw[e];exact h
noncomputable def iV(b:Expr):Prop:=∀o i,MQ b false o i=operate [o,i] (NF o i)
noncomputable def GT(X:Cx)(r:R2):Prop :=
 ∀ (value slice:Expr)(pins:List (Addr×Obj))(s:Hv)(σ:St)(H:Hp)(x y:V)(v u:Hq)(Q:VK),Inv X pins σ H s->RelV x v->RelV y u->r x y H Q ->
   MQ slice false v u=operate [v,u] (NF v u)->HS (Ie X.prog X.w) X.A (M_ value slice v u) (EP X pins σ Q) X.xe s
noncomputable def GN(X:Cx)(id:String)(r:V->List V->Hp->VK->Prop):Prop :=
 ∀ (pins:List (Addr×Obj))(s:Hv)(σ:St)(H:Hp)(x:V)(xs:List V)(v:Hq)(us:List Hq)(Q:VK),Inv X pins σ H s->RelV x v->ci xs us->r x xs H Q ->
   HS (Ie X.prog X.w) X.A (call (.builtin id) (v::us)) (EP X pins σ Q) X.xe s
section
variable{X:Cx}{a b:Expr}{ta tb:TE}{pos:Pos}
theorem GT.or{r r':R2}(h:GT X r)(h':GT X r'):GT X (fun x y H Q=>r x y H Q\/r' x y H Q):=by
 intro value slice pins s σ H x y v u Q I rx ry q hs
 rcases q with q|q
 · exact h value slice pins s σ H x y v u Q I rx ry q hs
 · exact h' value slice pins s σ H x y v u Q I rx ry q hs
theorem u7{r:R2}(hr:GT X r)(ha:PE X a ta)(hb:PE X b tb)(hs:iV b):PE X (.Subscript a b pos) (Ek r ta tb):=by
 intro pins s σ H Q I h
 exact Subscript_ (Bn ha hb I h fun v u s2 x y H2 I2 rx ry q=>hr a b pins s2 σ H2 x y v u Q I2 rx ry q (hs _ _))
noncomputable def CF(K:W.Frag):R2:=fun x y H Q=>∃p xs i v,x = .ref p/\y = .int i/\Go K H p xs/\atI xs i=some v/\Q v H
noncomputable def CC(K:W.Frag):R2:=fun x y H Q=>∃p xs i v,x = .ref p/\y = .int i/\Gm K H p xs/\atI xs i=some v/\Q v H
noncomputable def CD:R2:=fun x y H Q=>∃z i c,x = .str z/\y = .int i/\z.length<=sizeLine/\atI z.cps.toList i=some c/\Q (.str ⟨#[c]⟩) H
theorem A1:GT X (CF X.K):=by
 intro value slice pins s σ H x y v u Q I rx ry h hs
 obtain⟨p,xs,i,z,rfl,rfl,hq,he,q⟩:=h
 cases rx
 obtain⟨t,rfl⟩:=ry
 obtain⟨its,r,pl,hz⟩:=I.list hq
 obtain⟨j,h1,h2,h3,h4,h5⟩:=kK he
 obtain⟨w,ew,rw'⟩:=r.get h2
 have hl:=r.length
 have hn:=lw
 have fin:EP X pins σ Q w s:=⟨z,H,I,rw',q⟩
 by_cases h0:0<=i
 · have hj:i.toNat=j:=by
     rw[NG h0 h5]at h1
     exact IG h1
   exact item_listR pl.isList h0 (by omega) (by rw[hj];simpa using ew) fin hs
 · have hj:(i+(its.toArray.size:Int)).toNat=j:=by
     rw[seqIndex_neg (by omega) h4]at h1
     rw[HN,<- hl]
     exact IG h1
   exact Mg (x:=w) pl.isList.typeIs slot_list_getitem.lookup
    (wpAny_getItem_list_neg (Q:=fun r s'=>r=w/\EP X pins σ Q r s') pl.isList (by omega) (by rw[HN]<;>omega) (by omega) (by rw[hj];simpa using ew) ⟨rfl,fin⟩) hs
theorem CM:GT X (CC X.K):=by
 intro value slice pins s σ H x y v u Q I rx ry h hs
 obtain⟨p,xs,i,z,rfl,rfl,hq,he,q⟩:=h
 cases rx
 obtain⟨t,rfl⟩:=ry
 obtain⟨its,r,pl,hz⟩:=I.tuple hq
 obtain⟨j,h1,h2,h3,h4,h5⟩:=kK he
 obtain⟨w,ew,rw'⟩:=r.get h2
 have hl:=r.length
 have hn:=lw
 have fin:EP X pins σ Q w s:=⟨z,H,I,rw',q⟩
 exact Mg (x:=w) pl.typeIs slot_tuple_getitem.lookup
  (getItem_tuple (j:=j) (Q:=fun r s'=>r=w/\EP X pins σ Q r s') pl (by omega) (by omega) (by rw[HN,<- hl];exact h1) (by simpa using ew) ⟨rfl,fin⟩) hs
theorem yM:GT X CD:=by
 intro value slice pins s σ H x y v u Q I rx ry h hs
 obtain⟨z,i,c,rfl,rfl,hz,he,q⟩:=h
 obtain⟨t,rfl⟩:=rx
 obtain⟨t',rfl⟩:=ry
 obtain⟨j,h1,h2,h3,h4,h5⟩:=kK he
 have hl:z.cps.toList.length=z.length:=by simp[Str.length]
 rw[hl]at h1 h4 h5
 have hn:=lw
 exact tail_any (typeIs_str s z t) slot_str_getitem.lookup (getItem_str (c:=c) (by
  have e1:decide (i < -(2^63:Int))=false:=decide_eq_false (by omega)
  have e2:decide (i ≥ 2^63)=false:=decide_eq_false (by omega)
  rw[e1,e2,Bool.or_false]) (by rw[h1];simpa using h2) ⟨.str ⟨#[c]⟩,H,I.tok _,⟨_,rfl⟩,q⟩) hs
noncomputable def EM(K:W.Frag):R2:=fun x y H Q=>CF K x y H Q\/CC K x y H Q\/CD x y H Q
theorem pA:GT X (EM X.K):=A1.or (CM.or yM)
theorem i7(lo hi:Option Int)(n:Nat):(K7 lo hi none n).1=((HT.sIx n 0 lo:Nat):Int)/\(K7 lo hi none n).2.1=((HT.sIx n n hi:Nat):Int)/\(K7 lo hi none n).2.2=1:=by
 refine⟨?_,?_,rfl⟩
 · cases lo with
   | none=>simp[K7,HT.sIx]
   | some i =>
     simp only[K7,HT.sIx,Option.getD_none,show(1:Int)>0 by decide,if_true]
     by_cases h:i<0
     · simp only[h,if_true]<;>omega
     · simp only[h,if_false]<;>omega
 · cases hi with
   | none=>simp[K7,HT.sIx]
   | some i =>
     simp only[K7,HT.sIx,Option.getD_none,show(1:Int)>0 by decide,if_true]
     by_cases h:i<0
     · simp only[h,if_true]<;>omega
     · simp only[h,if_false]<;>omega
theorem hZ(its:List Hq)(lo hi:Option Int):slicePick its.toArray lo hi none=((its.drop (HT.sIx its.length 0 lo)).take (HT.sIx its.length its.length hi-HT.sIx its.length 0 lo)).toArray:=by
 obtain⟨h1,h2,h3⟩:=i7 lo hi its.toArray.size
 unfold slicePick
 rw[h1,h2,h3]
 simp only[sliceRange_one,pick_run,HN]<;>rfl
noncomputable def Df(K:W.Frag):V->Option Int->Option Int->Hp->VK->Prop:=fun x lo hi H Q=>∃a xs,x = .ref a/\Go K H a xs/\∀p,H p=none->Q (.ref p) (D9 H p (.lst (wu xs lo hi)))
theorem uy:Gr X (Df X.K):=by
 intro pins s σ H x v vl vu lo hi sl Q I rx hs pl pu h
 obtain⟨a,xs,rfl,hx,q⟩:=h
 cases rx
 obtain⟨its,r,ht,hz⟩:=I.list hx
 have hlen:=r.length
 refine⟨"list", _,slot_list_getitem.lookup,ht.isList.typeIs,?_⟩
 refine wpAny_getItem_list_slice ht.isList hs pl pu .none (by simp) ?_ (by rw[HN]<;>omega)
 rw[hZ,<- hlen]
 refine⟨.ref s.heap.objs.size,_,I.laid (t':=s.toks) (o:=.lst (wu xs lo hi)) (fun b ob q=>Hl _ q) (HA _) ?_,rfl,q _ (I.hok.fresh (HA _))⟩
 exact⟨IH (kG xs lo hi) hz,_,0,(r.drop (HT.sIx xs.length 0 lo)).take (HT.sIx xs.length xs.length hi-HT.sIx xs.length 0 lo),HI _ rfl⟩
theorem jC:gh X (.builtin "len") (fun xs H Q=>∃p ys,xs=[.ref p]/\(Go X.K H p ys\/Gm X.K H p ys)/\Q (.int ys.length) H):=by
 intro pins s σ H xs us Q I r h
 obtain⟨p,ys,rfl,hq,q⟩:=h
 obtain⟨u,rfl,rx⟩:=vals1 r
 cases rx
 have hn:=lw
 rcases hq with hq|hq
 · obtain⟨its,r',pl,hz⟩:=I.list hq
   have hlen:=r'.length
   exact Calls.call_len_list pl.isList (by simp only[HN]<;>omega) ⟨.int ys.length,H,I.tok _,⟨s.toks+1,by rw[HN,hlen]⟩,q⟩
 · obtain⟨its,r',pl,hz⟩:=I.tuple hq
   have hlen:=r'.length
   exact len_tuple pl (by simp only[HN]<;>omega) ⟨.int ys.length,H,I.tok _,⟨s.toks+1,by rw[HN,hlen]⟩,q⟩
theorem jB:gh X (.type "list") (fun xs H Q=>∃p ys,xs=[.ref p]/\(Go X.K H p ys\/Gm X.K H p ys)/\∀l,H l=none->Q (.ref l) (D9 H l (.lst ys))):=by
 intro pins s σ H xs us Q I r h
 obtain⟨p,ys,rfl,hq,q⟩:=h
 obtain⟨u,rfl,rx⟩:=vals1 r
 cases rx
 have fin:∀(its:List Hq),ci ys its->ys.length<=sizeLine->∀(h':Heap)(c':Nat),(∀b o',s.heap.get? b=some o'->h'.get? b=some o') ->
  h'.get? s.heap.objs.size=some {cls:=.type "list", dict:=none,data:=.seq its.toArray c',slots:=#[]}->EP X pins σ Q (.ref s.heap.objs.size) {s with heap:=h' }:=fun its r' hz h' c' kp e =>
  ⟨.ref s.heap.objs.size,_,I.laid (t':=s.toks) kp (HA _) (show cF X.prog X.w _ h' _ (.lst ys)from⟨hz,its,c',r',e⟩),rfl,q _ (I.hok.fresh (HA _))⟩
 rcases hq with hq|hq
 · obtain⟨its,r',pl,hz⟩:=I.list hq
   have hlen:=r'.length
   obtain⟨o,ho,hc,n,hd⟩:=pl.isList
   exact call_list_seq p (.inl rfl) ho hc hd (fun h' c' kp e=>fin its r' hz h' c' kp e) (by simp only[HN]<;>omega)
 · obtain⟨its,r',pl,hz⟩:=I.tuple hq
   have hlen:=r'.length
   obtain⟨o,ho,hc,n,hd⟩:=pl
   exact call_list_seq p (.inr rfl) ho hc hd (fun h' c' kp e=>fin its r' hz h' c' kp e) (by simp only[HN]<;>omega)
theorem iO:gh X (.type "tuple") (fun xs H Q=>∃p ys,xs=[.ref p]/\((Go X.K H p ys/\∀l,H l=none->Q (.ref l) (D9 H l (.tup ys)))\/(Gm X.K H p ys/\Q (.ref p) H))):=by
 intro pins s σ H xs us Q I r h
 obtain⟨p,ys,rfl,h⟩:=h
 obtain⟨u,rfl,rx⟩:=vals1 r
 cases rx
 rcases h with⟨hq,q⟩|⟨hq,q⟩
 · obtain⟨its,r',pl,hz⟩:=I.list hq
   have hlen:=r'.length
   refine call_tuple_list pl.isList (fun h' kp=>?_) (by simp only[HN]<;>omega)
   have I1:Inv X pins σ H {s with heap:=h' }:=I.kept (t':=s.toks) kp
   have I2:Inv X pins σ (D9 H h'.objs.size (.tup ys)) {s with heap:=h'.push {cls:=.type "tuple", data:=.seq its.toArray}} :=
    I1.laid (t':=s.toks) (fun b o e=>Hl _ e) (HA _) (show cF X.prog X.w _ _ _ (.tup ys)from⟨hz,its,r',qf.new _ _⟩)
   exact⟨.ref h'.objs.size,_,I2,rfl,q _ (I1.hok.fresh (HA _))⟩
 · obtain⟨its,r',pl,hz⟩:=I.tuple hq
   exact call_tuple_same pl ⟨.ref p,H,I,rfl,q⟩
noncomputable def Ec(K:W.Frag)(T:String)(x:V)(H:Hp):Prop:=match x with
 | .str _=>T = "str"
 | .int _=>T = "int"
 | .ref p=>(T = "list" /\ ∃xs,Go K H p xs)\/(T = "tuple" /\ ∃xs,Gm K H p xs) \/
     (T = "dict" /\ ((∃kvs,H p=some (.dK kvs))\/∃kvs,H p=some (.dT kvs)))\/(T = "set" /\ ∃S n,H p=some (.set S n))
 | _=>False
theorem xg{T:String}{x:V}{v:Hq}(I:Inv X pins σ H s)(r:RelV x v)(ty:Ec X.K T x H) :
 s.TypeIs v T/\∀a,v = .ref a->∃ob,s.heap.get? a=some ob/\ob.dict=none:=by
 cases x with
 | str z =>
   obtain⟨t,rfl⟩:=r
   cases(show T = "str" from ty)
   exact⟨typeIs_str s z t,fun _ e=>nomatch e⟩
 | int i =>
   obtain⟨t,rfl⟩:=r
   cases(show T = "int" from ty)
   exact⟨typeIs_int s i t,fun _ e=>nomatch e⟩
 | ref p =>
   cases r
   rcases ty with⟨rfl,xs,hq⟩|⟨rfl,xs,hq⟩|⟨rfl,hk⟩|⟨rfl,S,n,hk⟩
   · obtain⟨its,_,pl,_⟩:=I.list hq
     refine⟨pl.isList.typeIs,fun a e=>?_⟩
     cases e
     obtain⟨o,n,e,c,hd,_⟩:=pl
     exact⟨o,e,hd⟩
   · obtain⟨o,e1,e2,e3⟩:=I.tupleD hq
     refine⟨⟨o,e1,e2⟩,fun a e=>?_⟩
     cases e
     exact⟨o,e1,e3⟩
   · have z:∃o,s.heap.get? p=some o/\o.ExactDict:=by
       rcases hk with⟨kvs,hk⟩|⟨kvs,hk⟩
       · obtain⟨_,_,_,_,o,_,_,e,ex,_⟩:=I.hok p _ hk
         exact⟨o,e,ex⟩
       · obtain⟨_,_,_,_,o,_,_,e,ex,_⟩:=I.hok p _ hk
         exact⟨o,e,ex⟩
     obtain⟨o,e,ex⟩:=z
     refine⟨⟨o,e,ex.1⟩,fun a e2=>?_⟩
     cases e2
     exact⟨o,e,ex.2.1⟩
   · obtain⟨o,_,_,_,e,ex,_⟩:=I.hok p _ hk
     refine⟨⟨o,e,ex.1⟩,fun a e2=>?_⟩
     cases e2
     exact⟨o,e,ex.2.1⟩
 | _=>exact Jw ty
noncomputable def Er(K:W.Frag)(T:String)(r:V->List V->Hp->VK->Prop)(to:TE)(t:TA):TE:=fun σ H Q=>to σ H fun x H1=>Ec K T x H1/\t σ H1 fun xs H2=>r x xs H2 Q
variable{o e:Expr}{es:List Expr}{to:TE}{t:TA}{name:Str}{apos cpos:Pos}{T id:String}{r:V->List V->Hp->VK->Prop}
theorem qU(pa:PlainAttrs T)(slot:Slot T name id)(hty:typeOf (.builtin id)=pure (.type "method_descriptor"))(hm:GN X id r)(ho:PE X o to)(ha:PA X (e::es) t)
 (hbase:Kv o name X.env (eval o X.env)=eval o X.env:=by rfl)
 (hfew:((Je cpos (Hy (e::es) X.env)).all (fun x=>!x.1)&&(LR cpos (Kq [] X.env)).all (fun x=>x.1.isSome)
  && decide ((e::es).length+([]:List KF).length+(if([]:List KF).isEmpty then 0 else 1)<30))=true:=by rfl)
 (hline:(apos.endLine==cpos.line)=true:=by rfl)(hs:Hy (e::es) X.env=(false,eval e X.env)::Hy es X.env:=by rfl)(hplain:(Je cpos (Hy es X.env)).any (·.1)=false:=by rfl) :
 PE X (.Call (.Attribute o name apos) (e::es) [] cpos) (Er X.K T r to t):=by
 intro pins s σ H Q I h
 refine wpAny_Call_method_late hbase hfew hline rfl (Eh (ho pins s σ H _ I h) fun v s1 ⟨x,H1,I1,r1,ty,q1⟩=>?_)
 obtain⟨h1,h2⟩:=xg I1 r1 ty
 refine⟨T,id,pa,slot,hty,h1,h2,?_⟩
 have hA:=ha cpos pins s1 σ H1 _ I1 q1
 rw[hs]at hA ⊢
 refine Calls.callWith_builtin (by show(false||(Je cpos (Hy es X.env)).any (·.1))=false;rw[hplain]<;>rfl) (Calls.evalArgs_plain ?_)
 exact Eh hA fun us s2 ⟨vs,H2,I2,r2,q2⟩=>hm pins s2 σ H2 x vs v us Q I2 r1 r2 q2
end
noncomputable def GO(X:Cx)(id:String)(r:V->List V->Hp->VK->Prop):Prop :=
 ∀ (pins:List (Addr×Obj))(s:Hv)(σ:St)(H:Hp)(x:V)(xs:List V)(v:Hq)(us:List Hq)(Q:VK),Inv X pins σ H s->RelV x v->ci xs us->r x xs H Q ->
   HS (Ie X.prog X.w) X.A (call (.builtin id) (v::us)) (EP X pins σ Q) X.xe s
theorem ci.one:∀{x:V}{us:List Hq},ci [x] us->∃u,us=[u]/\RelV x u
 | _,_,.cons r .nil=>⟨_,rfl,r⟩
theorem ci.eraseIdx:∀{xs:List V}{us:List Hq}(i:Nat),ci xs us->ci (xs.eraseIdx i) (us.eraseIdx i)
 | _,_,_,.nil=>.nil
 | _,_,0,.cons _ t=>t
 | _,_,i+1,.cons r t=>.cons r (ci.eraseIdx i t)
theorem ci.rep{xs:List V}{us:List Hq}(h:ci xs us):∀k:Nat,ci (H0 k xs).flatten (H0 k us).flatten
 | 0=>.nil
 | k+1=>by
   rw[Jg,Jg,Kb,Kb]
   exact ci.append h (ci.rep h k)
theorem jt{α:Type}:∀(l:List α)(i:Nat),(l.eraseIdx i).length<=l.length
 | [],_=>HA _
 | _::_,0=>Nat.le_succ _
 | _::r,i+1=>Nat.succ_le_succ (jt r i)
theorem foldl_rep(its:List Hq):∀(k:Nat)(acc:List Hq),
 List.foldl (fun x1 x2=>x1++x2) acc.toArray (H0 k its.toArray)=(acc++(H0 k its).flatten).toArray
 | 0,acc=>by simp
 | k+1,acc=>by
   have e:acc.toArray++its.toArray=(acc++its).toArray:=by simp
   have e2:(acc++its)++(H0 k its).flatten=acc++(H0 (k+1) its).flatten:=by
    rw[Jg,Kb,Kw]
   rw[<- e2,<- foldl_rep its k (acc++its),<- e,Jg,Jo]
section
variable{X:Cx}{pins:List (Addr×Obj)}{σ:St}{H:Hp}{s:Hv}{l b:Addr}{xs ys zs:List V}
theorem Inv.lset{its its':List Hq}{f:Array Hq->Array Hq}(I:Inv X pins σ H s)(hH:H l=some (.lst xs))
 (e:s.heap.get? l=some {cls:=.type "list", data:=.seq its.toArray n})(hf:f its.toArray=its'.toArray)(hv:ci ys its')(hz:ys.length<=sizeLine) :
 Inv X pins σ (D9 H l (.lst ys)) {s with heap:=s.heap.update l (Nj f),toks:=t' }:=by
 have q:=PySem.IsL.update e f
 rw[hf]at q
 refine I.write (x:=l) (e:=l) (by rw[hH];exact trivial) (.inl rfl) (fun b' u hb hu=>(Jm s.heap (Nj f) (Mp hb)).trans hu) ⟨_,q⟩ ?_
 exact⟨hz,its',_,hv,q⟩
theorem Inv.lnew{its:List Hq}(I:Inv X pins σ H s)(hv:ci ys its)(hz:ys.length<=sizeLine) :
 Inv X pins σ (D9 H s.heap.objs.size (.lst ys)) {s with heap:=s.heap.push {cls:=.type "list", data:=.seq its.toArray},toks:=t' } :=
 I.laid (fun _ _ q=>Hl _ q) (HA _) ⟨hz,its,0,hv,HI _ rfl⟩
theorem Inv.fresh(I:Inv X pins σ H s):H s.heap.objs.size=none:=I.hok.fresh (HA _)
theorem Inv.lstM(I:Inv X pins σ H s)(hH:H l=some (.lst xs)):xs.length<=sizeLine/\∃(its:List Hq)(n:Nat),ci xs its/\xs.length=its.length/\s.heap.get? l=some {cls:=.type "list", data:=.seq its.toArray n}:=by
 obtain⟨z,its,n,r,e⟩:=I.hok l _ hH
 exact⟨z,its,n,r,r.length,e⟩
theorem qW(h:n<=sizeLine):KJ n=false:=by
 unfold KJ
 exact decide_eq_false (by omega)
end
section
variable{X:Cx}
noncomputable def oA:V->List V->Hp->VK->Prop:=fun x vs H Q=>∃l xs y,x = .ref l/\vs=[y]/\H l=some (.lst xs)/\xs.length<sizeLine/\Q .non (D9 H l (.lst (xs++[y])))
theorem dr:GO X "list.append" oA:=by
 intro pins s σ H x vs v us Q I rx rv h
 obtain⟨l,xs,y,rfl,rfl,hH,hz,q⟩:=h
 cases rx
 obtain⟨u,rfl,ru⟩:=rv.one
 obtain⟨z,its,n,r,hl,e⟩:=I.lstM hH
 refine ME F.slot_list_append ⟨_,e,rfl⟩ F.entry_list_append (F.args_list_append_2 _ _) (PySem.list_append l its.toArray n u (by rw[HN];omega)) ⟨e,?_⟩
 refine⟨.non,_,I.lset (its':=its++[u]) hH e (by simp) (r.append (.cons ru .nil)) ?_,rfl,q⟩
 rw[HD,Lh]
 omega
noncomputable def xS:V->List V->Hp->VK->Prop:=fun x vs H Q=>∃l xs i k y,x = .ref l/\vs=[.int i]/\H l=some (.lst xs) /\ -(2^63)<=i/\i<2^63/\seqIndex? i xs.length=some k/\xs[k]?=some y/\Q y (D9 H l (.lst (xs.eraseIdx k)))
theorem re:GO X "list.pop" xS:=by
 intro pins s σ H x vs v us Q I rx rv h
 obtain⟨l,xs,i,k,y,rfl,rfl,hH,h1,h2,hk,hy,q⟩:=h
 cases rx
 obtain⟨u,rfl,ru⟩:=rv.one
 obtain⟨t,rfl⟩:=ru
 obtain⟨z,its,n,r,hl,e⟩:=I.lstM hH
 obtain⟨w,hw,rw'⟩:=r.get hy
 refine ME F.slot_list_pop ⟨_,e,rfl⟩ F.entry_list_pop (F.args_list_pop_2 _ _)
  (MeetsSeq.list_pop_at l its.toArray n i t k w (fitsIndex_both h1 h2) (by rw[HN,<- hl];exact hk) (by rw[<- Mr];exact hw) (by rw[HN];omega)) ⟨e,?_⟩
 refine⟨y,_,I.lset (its':=its.eraseIdx k) hH e ?_ (r.eraseIdx k) ?_,rw',q⟩
 · show its.toArray.eraseIdxIfInBounds k=(its.eraseIdx k).toArray
   rw[List.eraseIdxIfInBounds_toArray]
 · have:=jt xs k
   omega
noncomputable def CH:R2:=fun x y H Q=>∃l b xs zs,x = .ref l/\y = .ref b/\H l=some (.lst xs)/\H b=some (.lst zs)/\xs.length+zs.length<=sizeLine/\∀p,H p=none->Q (.ref p) (D9 H p (.lst (xs++zs)))
theorem yo:GK X (Ku .Add) CH:=by
 intro pins s σ H x y v u Q I rx ry h
 obtain⟨l,b,xs,zs,rfl,rfl,hH,hB,hz,q⟩:=h
 cases rx
 cases ry
 obtain⟨z,its,n,r,hl,e⟩:=I.lstM hH
 obtain⟨z2,its2,n2,r2,hl2,e2⟩:=I.lstM hB
 refine PySem.P.add_list e e2 ?_ (by rw[HN,HN];omega)
 have ea:its.toArray++its2.toArray=(its++its2).toArray:=by simp
 rw[ea]
 exact⟨.ref _,_,I.lnew (t':=s.toks) (r.append r2) (by rw[HD];omega),rfl,q _ I.fresh⟩
noncomputable def CB:R2:=fun x y H Q=>∃l k xs,x = .ref l/\y = .int k/\H l=some (.lst xs) /\ -(2^63)<=k/\k<2^63/\xs.length*k.toNat<=sizeLine /\
 ∀p,H p=none->Q (.ref p) (D9 H p (.lst (H0 k.toNat xs).flatten))
theorem vI(xs:List α)(k:Nat):(H0 k xs).flatten.length=k*xs.length:=by
 induction k with
 | zero=>simp
 | succ k ih=>rw[Jg,Kb,HD,ih,Nat.succ_mul,Nat.add_comm]
theorem ym:GK X (Ku .Mult) CB:=by
 intro pins s σ H x y v u Q I rx ry h
 obtain⟨l,k,xs,rfl,rfl,hH,h1,h2,hz,q⟩:=h
 cases rx
 obtain⟨t,rfl⟩:=ry
 obtain⟨z,its,n,r,hl,e⟩:=I.lstM hH
 have hlen:its.toArray.size*k.toNat<=sizeLine:=by rw[HN,<- hl];exact hz
 have hcap:¬its.toArray.size*k.toNat>(2^63-1) / 8:=by
  have:(sizeLine:Nat)<=(2^63-1) / 8:=by decide
  omega
 have hfit:¬(!KA k)=true:=by
  rw[fitsIndex_both h1 h2]
  exact Ic
 have hlong:¬KJ (its.toArray.size*k.toNat)=true:=by
  rw[qW hlen]
  exact Ic
 have hnew:List.foldl (fun x1 x2=>x1++x2) #[] (H0 (if its.toArray.isEmpty=true then 0 else k.toNat) its.toArray)=(H0 k.toNat its).flatten.toArray:=by
  have f0:∀m:Nat,List.foldl (fun x1 x2=>x1++x2) #[] (H0 m its.toArray)=(H0 m its).flatten.toArray:=fun m=>by
   have:=foldl_rep its m []
   rw[List.nil_append]at this
   exact this
  rw[f0]
  cases its with
  | nil=>simp
  | cons a r'=>rw[if_neg (by simp)]
 refine wpAny_binaryOp_repeat_ref (T := "list") (U := "int") (by decide) ⟨_,e,rfl⟩ (fun s'=>typeIs_int s' k t) noFill_list_mul F.fills_int_mul F.slot_int_rmul repeat_list F.slot_int_index.lookup
  (ME F.slot_int_rmul (typeIs_int s k t) F.entry_int_rmul (F.args_int_rmul_2 _ _) (int___rmul___int_list k t l its.toArray n)
   ⟨e,rfl,⟨_,e,rfl⟩,ME F.slot_list_mul ⟨_,e,rfl⟩ F.entry_list_mul (F.args_list_mul_2 _ _) (AutoListH.list___mul___list_int_3 l its.toArray n k t hfit hcap hlong) ⟨e,?_⟩⟩)
 rw[hnew]
 exact⟨.ref _,_,I.lnew (t':=s.toks) (r.rep k.toNat) (by rw[vI,Nq];exact hz),rfl,q _ I.fresh⟩
end
section
variable{prog:HZ}{w:IL}{A:ID}{E:Hq->Hv->Prop}{s:Hv}
end
section
variable{X:Cx}
end
section
variable{κ:Type}[DecidableEq κ]
noncomputable def eY(kvs:List (κ×V))(k:κ):Option V:=(kvs.find? fun kv=>decide (kv.1=k)).map (·.2)
noncomputable def dC(kvs:List (κ×V))(k:κ)(v:V):List (κ×V) :=
 if(kvs.any fun kv=>decide (kv.1=k))=true then kvs.map (fun kv=>if kv.1=k then(kv.1,v)else kv)else kvs++[(k,v)]
theorem cI{p:κ×V}{r:List (κ×V)}{k:κ}(e:p.1=k):eY (p::r) k=some p.2:=by simp[eY,IT,e]
theorem gZ{p:κ×V}{r:List (κ×V)}{k:κ}(e:¬p.1=k):eY (p::r) k=eY r k:=by simp[eY,IT,e]
theorem kX(k:κ):∀kvs:List (κ×V),(kvs.any fun kv=>decide (kv.1=k))=(eY kvs k).isSome
 | []=>rfl
 | p::r=>by
   rw[Kx]
   by_cases e:p.1=k
   · simp only[cI e,decide_eq_true e,Bool.true_or,Option.isSome_some]
   · rw[gZ e,decide_eq_false e,Bool.false_or];exact kX k r
theorem cS(kvs:List (κ×V))(k:κ)(v:V):(dC kvs k v).length<=kvs.length+1:=by
 unfold dC
 split
 · rw[Hm];omega
 · rw[HD,Ip,LA];omega
theorem wv.isSome_eq{o:Option V}{u:Option Hq}(r:wv o u):o.isSome=u.isSome:=by
 cases o with
 | none=>cases u with
   | none=>rfl
   | some _=>exact(show False from r).elim
 | some _=>cases u with
   | none=>exact(show False from r).elim
   | some _=>rfl
theorem KV.val{kvs:List (κ×V)}{vs:List (κ×Hq)}(r:KV kvs vs)(k:κ):wv (eY kvs k) (Nk vs k):=by
 unfold KV at r
 induction r with
 | nil=>exact Lx
 | @cons p q ps qs h t ih =>
   obtain⟨h1,h2⟩:=h
   by_cases e:p.1=k
   · have e':q.1=k:=h1.symm.trans e
     have b:Nk (q::qs) k=some q.2:=by simp[Nk,IT,e']
     rw[cI e,b];exact h2
   · have e':¬q.1=k:=fun z=>e (h1.trans z)
     have b:Nk (q::qs) k=Nk qs k:=by simp[Nk,IT,e']
     rw[gZ e,b];exact ih
theorem KV.any{kvs:List (κ×V)}{vs:List (κ×Hq)}(r:KV kvs vs)(k:κ):(kvs.any fun kv=>decide (kv.1=k))=vs.any fun kv=>decide (kv.1=k):=by
 unfold KV at r
 induction r with
 | nil=>rfl
 | cons h t ih=>rw[Kx,Kx,ih,h.1]
theorem KV.repl{kvs:List (κ×V)}{vs:List (κ×Hq)}(r:KV kvs vs)(k:κ){y:V}(ry:RelV y u) :
 KV (kvs.map fun kv=>if kv.1=k then(kv.1,y)else kv) (vs.map fun kv=>if kv.1=k then(kv.1,u)else kv):=by
 unfold KV at r ⊢
 induction r with
 | nil=>exact .nil
 | @cons p q ps qs h t ih =>
   rw[Ik,Ik]
   refine .cons ?_ ih
   obtain⟨h1,h2⟩:=h
   by_cases e:p.1=k
   · rw[if_pos e,if_pos (h1.symm.trans e)];exact⟨h1,ry⟩
   · rw[if_neg e,if_neg (fun z=>e (h1.trans z))];exact⟨h1,h2⟩
theorem KV.put{kvs:List (κ×V)}{vs:List (κ×Hq)}(r:KV kvs vs)(k:κ){y:V}(ry:RelV y u):KV (dC kvs k y) (stored vs k u):=by
 unfold dC stored
 rw[r.any k]
 by_cases e:(vs.any fun kv=>decide (kv.1=k))=true
 · rw[if_pos e,if_pos e];exact r.repl k ry
 · rw[if_neg e,if_neg e];exact I0.snoc r ⟨rfl,ry⟩
theorem KV.keys{kvs:List (κ×V)}{vs:List (κ×Hq)}(r:KV kvs vs):kvs.map (·.1)=vs.map (·.1):=by
 unfold KV at r
 induction r with
 | nil=>rfl
 | cons h t ih=>rw[Ik,Ik,ih,h.1]
theorem KV.length{kvs:List (κ×V)}{vs:List (κ×Hq)}(r:KV kvs vs):kvs.length=vs.length:=Kd r
end
theorem pz{k:GQ}(r:RelV (kV k) u):(bD P w).is k u=true:=by
 cases k with
 | inl i=>obtain⟨t,e⟩:=(show ∃t,u=M3 i t from r);subst e;exact kj P w i t
 | inr x=>obtain⟨t,e⟩:=(show ∃t,u=NA x t from r);subst e;exact ki P w x t
theorem ju{P:HZ}{w:IL}:∀{ks:List GQ}{us:List Hq},ci (ks.map kV) us->ItemsAre (bD P w) ks us
 | [],_,r=>by rw[LS]at r;cases r;exact .nil
 | k::ks,_,r=>by
   rw[Ik]at r
   cases r with
   | cons h t=>exact .cons (pz h) (ju t)
abbrev KT(H:Hp):List (List GQ×V)->List (List GQ×Addr×Hq)->Prop:=I0 fun p q=>p.1=q.1/\H q.2.1=some (.tup (p.1.map kV))/\RelV p.2 q.2.2
theorem KT.val{xs:List (List GQ×Addr×Hq)}(r:KT H kvs xs)(k:List GQ):wv (eY kvs k) ((NT xs k).map (·.2)):=by
 induction r with
 | nil=>exact Lx
 | @cons p q ps qs h t ih =>
   obtain⟨h1,_,h2⟩:=h
   by_cases e:p.1=k
   · have e':q.1=k:=h1.symm.trans e
     have b:NT (q::qs) k=some q.2:=by simp[NT,IT,e']
     rw[cI e,b];exact h2
   · have e':¬q.1=k:=fun z=>e (h1.trans z)
     have b:NT (q::qs) k=NT qs k:=by simp[NT,IT,e']
     rw[gZ e,b];exact ih
theorem KT.repl{xs:List (List GQ×Addr×Hq)}(r:KT H kvs xs)(k:List GQ){y:V}(ry:RelV y u) :
 KT H (kvs.map fun kv=>if kv.1=k then(kv.1,y)else kv) (xs.map (putAt k u)):=by
 induction r with
 | nil=>exact .nil
 | @cons p q ps qs h t ih =>
   rw[Ik,Ik]
   refine .cons ?_ ih
   obtain⟨h1,h2,h3⟩:=h
   unfold putAt
   by_cases e:p.1=k
   · rw[if_pos e,if_pos (h1.symm.trans e)];exact⟨h1,h2,ry⟩
   · rw[if_neg e,if_neg (fun z=>e (h1.trans z))];exact⟨h1,h2,h3⟩
theorem KT.put{xs:List (List GQ×Addr×Hq)}(r:KT H kvs xs)(k:List GQ){y:V}(hb:H b=some (.tup (k.map kV)))(ry:RelV y u) :
 KT H (dC kvs k y) (storedH xs k b u):=by
 have e:(kvs.any fun kv=>decide (kv.1=k))=(NT xs k).isSome:=by
  rw[kX,(r.val k).isSome_eq,Option.isSome_map]
 unfold dC storedH
 rw[e]
 by_cases q:(NT xs k).isSome=true
 · rw[if_pos q,if_pos q];exact r.repl k ry
 · rw[if_neg q,if_neg q];exact I0.snoc r ⟨rfl,hb,ry⟩
theorem KT.keeps{xs:List (List GQ×Addr×Hq)}(r:KT H kvs xs)(ht:∀b ys,H b=some (.tup ys)->H' b=some (.tup ys)):KT H' kvs xs :=
 I0.mapP r fun _ _ z=>⟨z.1,ht _ _ z.2.1,z.2.2⟩
section
variable{P:HZ}{w:IL}{H:Hp}{h:Heap}{a:Addr}
theorem xR{u:HO}(ok:G4 P w H h)(e:Rd H a u):cF P w H h a u:=e.ok ok
theorem rW{kvs:List (GQ×V)}(ok:G4 P w H h)(e:Rd H a (.dK kvs)):kvs.length<=sizeLine/\(a==Kt)=false/\∃vs,KV kvs vs/\h.DictOf (bD P w) a vs :=
 show cF P w H h a (.dK kvs)from xR ok e
theorem v6{kvs:List (GQ×V)}(ok:G4 P w H h)(e:H a=some (.dK kvs)):kvs.length<=sizeLine/\(a==Kt)=false/\∃vs,KV kvs vs/\h.DictOf (bD P w) a vs:=rW ok (.inl e)
theorem pi{ks:List GQ}(ok:G4 P w H h)(e:H a=some (.tup (ks.map kV))):(M5 (bD P w)).is h ks a:=by
 obtain⟨_,its,r,o,h1,h2,⟨n,h3⟩,_⟩:=(show cF P w H h a (.tup (ks.map kV))from ok a _ e)
 exact⟨o,its.toArray,n,h1,h2,h3,by simpa using ju r⟩
theorem vZ(ok:G4 P w H h)(e:Rd H a (.dT kvs)):kvs.length<=sizeLine/\(a==Kt)=false /\
 ∃xs,KT H kvs xs/\h.DictOfH (M5 (bD P w)) a xs:=by
 obtain⟨z,y,xs,r,o,es,ep,h1,h2,h3,h4,h5⟩:=(show cF P w H h a (.dT kvs)from xR ok e)
 refine⟨z,y,xs,r,o,es,ep,h1,h2,h3,h4,fun x hx=>?_,h5⟩
 have all:∀{l:List (List GQ×V)}{m:List (List GQ×Addr×Hq)},KT H l m->∀x∈m,(M5 (bD P w)).is h x.1 x.2.1:=by
  intro l m q
  induction q with
  | nil=>intro x hx;exact nomatch hx
  | @cons p q ps qs hq t ih =>
    intro x hx
    rcases HJ.mp hx with e|hx
    · subst e
      exact pi ok (by rw[<- hq.1];exact hq.2.1)
    · exact ih x hx
 exact all r x hx
theorem Bi(ok:G4 P w H h)(e:H a=some (.dT kvs)):kvs.length<=sizeLine/\(a==Kt)=false /\
 ∃xs,KT H kvs xs/\h.DictOfH (M5 (bD P w)) a xs:=vZ ok (.inl e)
end
noncomputable def zF(H:Hp)(a:Addr)(y:V)(r:Option V):Prop :=
 (∃kvs k,Rd H a (.dK kvs)/\y=kV k/\r=eY kvs k)\/∃kvs k b,Rd H a (.dT kvs)/\y = .ref b/\H b=some (.tup (k.map kV))/\r=eY kvs k
noncomputable def Br(H:Hp)(a:Addr)(y v:V)(H':Hp):Prop :=
 (∃kvs k,H a=some (.dK kvs)/\y=kV k/\kvs.length<sizeLine/\H'=D9 H a (.dK (dC kvs k v))) \/
 ∃kvs k b,H a=some (.dT kvs)/\y = .ref b/\H b=some (.tup (k.map kV))/\kvs.length<sizeLine/\H'=D9 H a (.dT (dC kvs k v))
theorem zF.k{H:Hp}{a:Addr}{kvs:List (GQ×V)}{k:GQ}(e:H a=some (.dK kvs)):zF H a (kV k) (eY kvs k):=.inl ⟨kvs,k,.inl e,rfl,rfl⟩
theorem Br.k{H:Hp}{a:Addr}{kvs:List (GQ×V)}{k:GQ}{v:V}(e:H a=some (.dK kvs))(hl:kvs.length<sizeLine):Br H a (kV k) v (D9 H a (.dK (dC kvs k v))):=.inl ⟨kvs,k,e,rfl,hl,rfl⟩
section
variable{X:Cx}{pins:List (Addr×Obj)}{σ:St}{H:Hp}{s:Hv}{a:Addr}{y v:V}{u r:Hq}{o:Option V}{A:ID}{E:Hq->Hv->Prop}
theorem Inv.big(I:Inv X pins σ H s):Kt<s.heap.objs.size:=by
 have h:IA<s.heap.objs.size:=(I.mod.glob.keeps I.bk).lt
 exact Nat.lt_trans (by decide) h
theorem pS(hu:A.units+1<Ni)(I:Inv X pins σ H s)(g:zF H a y (some v))(ry:RelV y u)(h:∀w' s',Inv X pins σ H s'->RelV v w'->Q w' s') :
 HS (Ie X.prog X.w) A (NF (.ref a) u) Q E s:=by
 rcases g with⟨kvs,k,e,ey,l⟩|⟨kvs,k,b,e,ey,eb,l⟩
 · subst ey
   obtain⟨z,hd,vs,rel,dd⟩:=rW I.hok e
   obtain⟨w',hw,rw'⟩:=wv.some_of (v:=v) (o:=Nk vs k) (by rw[l];exact rel.val k)
   exact wpAny_getItem_of (pz ry) dd.mapOf hw (h w' _ (I.tok _) rw')
 · subst ey
   cases(show u=Kp b from ry)
   obtain⟨z,hd,xs,rel,dd⟩:=vZ I.hok e
   obtain⟨w',hw,rw'⟩:=wv.some_of (v:=v) (o:=(NT xs k).map (·.2)) (by rw[l];exact rel.val k)
   obtain⟨p,hp,hp2⟩:=K1.mp hw
   refine wpAny_getItem_heap (tupleKind_room_in1 hu) (pi I.hok eb) dd hp ?_
   rw[hp2]
   exact h w' _ (I.tok _) rw'
theorem iK{ob:HO}(I:Inv X pins σ H s)(mu:GM (H a))(hs:J5 a s.heap h')(he:∃q,h'.get? a=some q)(new:cF X.prog X.w (D9 H a ob) h' a ob) :
 Inv X pins σ (D9 H a ob) {s with heap:=h',toks:=t' } :=
 I.write (x:=a) (e:=a) mu (.inl rfl) (fun b q hb z=>(hs.2 b hb).trans z) he new
theorem dk_new{kvs:List (GQ×V)}{vs:List (GQ×Hq)}(z:kvs.length<=sizeLine)(hd:(a==Kt)=false)(rel:KV kvs vs)(dd:h'.DictOf (bD P w) a vs) :
 cF P w H' h' a (.dK kvs):=⟨z,hd,vs,rel,dd⟩
theorem pR{Q:Unit->Hv->Prop}(hu:A.units+1<Ni)(I:Inv X pins σ H s)(g:Br H a y v H')(ry:RelV y u)(rv:RelV v r)(h:∀s',Inv X pins σ H' s'->Q () s') :
 HS (Ie X.prog X.w) A (setItem (.ref a) u r) Q E s:=by
 rcases g with⟨kvs,k,e,ey,l,eH⟩|⟨kvs,k,b,e,ey,eb,l,eH⟩
 · subst ey eH
   obtain⟨z,hd,vs,rel,dd⟩:=v6 I.hok e
   have hz:vs.length<=sizeLine:=by rw[<- rel.length];exact z
   have hl:(dC kvs k v).length<=sizeLine:=by have:=cS kvs k v;omega
   refine wpAny_setItem_pairs (hsz:=hz) (pz ry) dd fun h' dd' hs=>h _ ?_
   have he:∃q,h'.get? a=some q:=let ⟨q,_,_,hq,_⟩:=dd';⟨q,hq⟩
   exact iK I (by rw[e];exact Lx) hs he (dk_new hl hd (rel.put k rv) dd')
 · subst ey eH
   cases(show u=Kp b from ry)
   obtain⟨z,hd,xs,rel,dd⟩:=Bi I.hok e
   have hz:xs.length<=sizeLine:=by rw[<- Kd rel];exact z
   have hl:(dC kvs k v).length<=sizeLine:=by have:=cS kvs k v;omega
   refine wpAny_setItem_heap (hsz:=hz) (tupleKind_room_in1 hu) (pi I.hok eb) dd fun h' dd' hs=>h _ ?_
   obtain⟨q,es,ep,hq,h2,h3,h4,_,h5⟩:=dd'
   refine iK I (by rw[e];exact Lx) hs ⟨q,hq⟩ ⟨hl,hd,_,(rel.put k eb rv).keeps fun c ys ec=>?_,q,es,ep,hq,h2,h3,h4,h5⟩
   rw[aq (AM ec e (fun z=>nomatch z))]
   exact ec
end
section
variable{X:Cx}{pins:List (Addr×Obj)}{σ:St}{H:Hp}{s:Hv}{a:Addr}{kvs:List (GQ×V)}{k:GQ}{u:Hq}{A:ID}{E:Hq->Hv->Prop}
end
noncomputable def wA(i:Expr):Prop:=∀ov iv,MQ i false ov iv=operate [ov,iv] (NF ov iv)
theorem uv{prog:HZ}{env:Env}{value slice:Expr}{T id:String}
 (hl:typeLookup (.type T) "__getitem__" = pure (some (.builtin id)))(hs:wA slice)
 (h:HS (Ie prog w) A (eval value env) (fun o s₁=>HS (Ie prog w) A (eval slice env) (fun i s₂=>s₂.TypeIs o T/\HS (Ie prog w) A (NF o i) Q E s₂) E s₁) E s) :
 HS (Ie prog w) A (eval (.Subscript value slice pos) env) Q E s:=by
 refine Subscript_ (Ih h (fun o s₁ h₁=>Ih h₁ (fun i s₂ h₂=>?_) fun _ _ x=>x) fun _ _ x=>x)
 obtain⟨hT,h₂⟩:=h₂
 unfold M_
 refine Hi ?_
 rw[getitemInPython_of_ne hT.not_modules]
 refine Hi (wpAny_specialOf hT hl ?_)
 have fin:HS (Ie prog w) A (MQ slice false o i) (fun r s₃=>HS (Ie prog w) A (letTemporaryGo value o r >>= fun _=>pure r) Q E s₃) E s₂:=by
  rw[hs o i]
  exact wpAny_operating (Ih h₂ (fun r s₃ h₃=>Hi (wpAny_letTemporaryGo (HH h₃))) fun _ _ x=>x)
 first
  | exact HH (Hi fin)
  | exact Hi (HH (Hi fin))
  | exact Hi fin
theorem kE{y:V}{o:Option V}(I:Inv X pins σ H s)(g:zF H a y o):s.TypeIs (.ref a) "dict" := by
 rcases g with⟨kvs,k,e,_,_⟩|⟨kvs,k,b,e,_,_,_⟩
 · obtain⟨_,_,vs,_,dd⟩:=rW I.hok e
   exact dd.typeIs
 · obtain⟨_,_,xs,_,dd⟩:=vZ I.hok e
   exact dd.typeIs
noncomputable def xo(td ty:TE):TE:=fun σ H Q=>td σ H fun x H1=>ty σ H1 fun y H2=>∃a v,x = .ref a/\zF H2 a y (some v)/\Q v H2
noncomputable def Ar(td ty tv:TE):TS:=fun D σ H=>tv σ H fun v H1=>td σ H1 fun x H2=>ty σ H2 fun y H3=>∃a H4,x = .ref a/\Br H3 a y v H4/\D.nx σ H4
section
variable{X:Cx}{o i e value:Expr}{pos pos' tpos:Pos}{td ty tv:TE}
theorem iu(hu:X.A.units+1<Ni)(ho:PE X o td)(hi:PE X i ty)(hs:wA i):PE X (.Subscript o i pos) (xo td ty):=by
 intro pins s σ H Q I h
 refine uv PySem.F.slot_dict_getitem.lookup hs (Eh (ho pins s σ H _ I h) fun u s1 ⟨x,H1,I1,rx,q1⟩=>Eh (hi pins s1 σ H1 _ I1 q1) fun iv s2 ⟨y,H2,I2,ry,a,v,ex,g,q2⟩=>?_)
 subst ex
 obtain rfl:u=Kp a:=rx
 exact⟨kE I2 g,pS hu I2 g ry fun w' s3 I3 rw'=>⟨v,H2,I3,rw',q2⟩⟩
theorem uT(hu:X.A.units+1<Ni)(ho:PE X o td)(hi:PE X i ty)(hv:PE X value tv)(hs:JE value (some (.Subscript o i pos')) pos.line X.env=pure false) :
 PS X (.Assign [.Subscript o i pos'] value pos) (Ar td ty tv):=by
 intro pins s σ H D I h
 refine wpAny_Assign_Subscript (Eh (hv pins s σ H _ I h) fun r s1 ⟨v,H1,I1,rv,q1⟩=>Eh (ho pins s1 σ H1 _ I1 q1) fun u s2 ⟨x,H2,I2,rx,q2⟩=>Eh (hi pins s2 σ H2 _ I2 q2) fun iv s3 ⟨y,H3,I3,ry,a,H4,ex,g,q3⟩=>?_) hs
 subst ex
 obtain rfl:u=Kp a:=rx
 exact pR hu I3 g ry rv fun s4 I4=>⟨σ,H4,I4,q3⟩
end
theorem iJ(h:Heap)(hb:Kt<h.objs.size):cF P w H (h.push {cls:=.type "dict", data:=.dict #[]}) h.objs.size (.dK []) :=
 ⟨Ig _,beq_eq_false_iff_ne.mpr (Mp (Is hb)),[],.nil,Heap.DictOf.new h⟩
section
variable{X:Cx}{pos:Pos}
end
noncomputable def nB:List (TE×TE)->St->Hp->(List (V×V)->Hp->Prop)->Prop
 | [],_,H,Q=>Q [] H
 | (tk,tv)::r,σ,H,Q=>tk σ H fun x H1=>tv σ H1 fun y H2=>nB r σ H2 fun ps H3=>Q ((x,y)::ps) H3
abbrev VV:List (V×V)->List (Hq×Hq)->Prop:=I0 fun p q=>RelV p.1 q.1/\RelV p.2 q.2
noncomputable def GD(X:Cx)(pos:Pos)(keys:List (Option Expr))(values:List Expr)(trs:List (TE×TE)):Prop :=
 ∀ (pins:List (Addr×Obj))(s:Hv)(σ:St)(H:Hp)(Q:List (V×V)->Hp->Prop),Inv X pins σ H s->nB trs σ H Q ->
   HS (Ie X.prog X.w) X.A (evalPairs (pairTrees keys values X.env pos)) (fun vs s'=>∃ps H',Inv X pins σ H' s'/\VV ps vs/\Q ps H') X.xe s
theorem oI:GD X pos [] [] []:=fun pins s σ H Q I h=>pairTrees_nil_walk ⟨[],H,I,.nil,h⟩
theorem cL{k v:Expr}{ks:List (Option Expr)}{vs:List Expr}{tk tv:TE}{trs:List (TE×TE)}(hk:PE X k tk)(hv:PE X v tv)(hr:GD X pos ks vs trs) :
 GD X pos (some k::ks) (v::vs) ((tk,tv)::trs):=fun pins s σ H Q I h =>
 pairTrees_cons_walk (Eh (hk pins s σ H _ I h) fun u s1 ⟨x,H1,I1,rx,q1⟩=>Eh (hv pins s1 σ H1 _ I1 q1) fun w2 s2 ⟨y,H2,I2,ry,q2⟩ =>
  Eh (hr pins s2 σ H2 _ I2 q2) fun ws s3 ⟨ps,H3,I3,rel,q3⟩=>⟨(x,y)::ps,H3,I3,.cons ⟨rx,ry⟩ rel,q3⟩)
noncomputable def d8(kvs more:List (GQ×V)):List (GQ×V):=more.foldl (fun acc kv=>dC acc kv.1 kv.2) kvs
theorem KV.merge:∀{more:List (GQ×V)}{rs:List (GQ×Hq)}{kvs:List (GQ×V)}{vs:List (GQ×Hq)},KV more rs->KV kvs vs->KV (d8 kvs more) (merged vs rs):=by
 intro more rs kvs vs r
 unfold KV at r
 induction r generalizing kvs vs with
 | nil=>intro q;exact q
 | @cons p q ps qs h t ih =>
   intro r0
   have e:KV (dC kvs p.1 p.2) (stored vs q.1 q.2):=by
    have:=r0.put p.1 h.2
    rw[<- h.1];exact this
   exact ih e
theorem eg:∀(more kvs:List (GQ×V)),(d8 kvs more).length<=kvs.length+more.length
 | [],kvs=>by show kvs.length<=kvs.length+0;omega
 | p::r,kvs=>by
   have h1:=eg r (dC kvs p.1 p.2)
   have h2:=cS kvs p.1 p.2
   show(d8 (dC kvs p.1 p.2) r).length<=_
   rw[Ip];omega
theorem gP{P:HZ}{w:IL}:∀{kvs:List (GQ×V)}{ws:List (Hq×Hq)},VV (kvs.map fun kv=>(kV kv.1,kv.2)) ws->∃rs,Carries (bD P w) ws rs/\KV kvs rs
 | [],_,r=>by rw[LS]at r;cases r;exact⟨[],Lx,.nil⟩
 | p::kvs,_,r=>by
   rw[Ik]at r
   cases r with
   | @cons a b as bs h t =>
     obtain⟨rs,c,q⟩:=gP (P:=P) (w:=w) t
     obtain⟨b1,b2⟩:=b
     exact⟨(p.1,b2)::rs,⟨pz h.1,rfl,c⟩,.cons ⟨rfl,h.2⟩ q⟩
noncomputable def Am(trs:List (TE×TE)):TE:=fun σ H Q=>∀p,H p=none->nB trs σ (D9 H p (.dK [])) fun ps H2=>H2 p=some (.dK [])/\∃kvs:List (GQ×V),ps=kvs.map (fun kv=>(kV kv.1,kv.2))/\kvs.length<=15/\Q (.ref p) (D9 H2 p (.dK (d8 [] kvs)))
theorem oM{keys:List (Option Expr)}{values:List Expr}{trs:List (TE×TE)}(h:GD X pos keys values trs)(hall:keys.all (·.isSome)=true)(hl:keys.length=values.length)(h0:keys≠[])
 (h15:keys.length<=15):PE X (.Dict keys values pos) (Am trs):=by
 intro pins s σ H Q I q
 have hn:=I.hok.fresh (HA s.heap.objs.size)
 have I1:=I.laid (a:=s.heap.objs.size) (o:=.dK []) (h':=s.heap.push {cls:=.type "dict", data:=.dict #[]}) (t':=s.toks) (fun _ _ q=>Hl _ q) (HA _) (iJ s.heap I.big)
 refine wpAny_Dict_walk (knd:=bD X.prog X.w) hall hl h0 h15 (Eh (h pins _ σ _ _ I1 (q _ hn)) fun ws s2 ⟨ps,H2,I2,rel,e,kvs,ep,lk,q2⟩=>?_)
 subst ep
 obtain⟨rs,c,rk⟩:=gP (P:=X.prog) (w:=X.w) rel
 obtain⟨z,hd,vs0,r0,dd⟩:=v6 I2.hok e
 cases r0
 refine⟨rs,c,dd,fun h' dd' hs=>⟨.ref s.heap.objs.size,_,?_,rfl,q2⟩⟩
 have hz:(d8 [] kvs).length<=sizeLine:=by
  have h1:=eg kvs []
  rw[LA]at h1
  rw[sizeLine_eq];omega
 have he:∃q,h'.get? s.heap.objs.size=some q:=let ⟨q,_,_,hq,_⟩:=dd';⟨q,hq⟩
 exact iK I2 (by rw[e];exact Lx) hs he (dk_new hz hd (rk.merge .nil) dd')
section
variable{X:Cx}{pins:List (Addr×Obj)}{σ:St}{H:Hp}{s:Hv}{a:Addr}{y d:V}{u r:Hq}{o:Option V}{A:ID}{E:Hq->Hv->Prop}
end
section
variable{X:Cx}{o e f:Expr}{apos cpos:Pos}{td ty tx:TE}
end
section
variable{X:Cx}{pins:List (Addr×Obj)}{σ:St}{H:Hp}{s:Hv}{a:Addr}{kvs:List (GQ×V)}{A:ID}{E:Hq->Hv->Prop}
end
section
variable{X:Cx}{pins:List (Addr×Obj)}{σ:St}{H:Hp}{s:Hv}{a:Addr}{y:V}{u:Hq}{A:ID}{E:Hq->Hv->Prop}
end
end L2
namespace Att
open PySem PySem.W PySem.Calls PyProof.Rows
theorem fW{P:NQ}:∀(ns:List Int)(vs:List Hq),WellAll P h vs (ns.map WData.int)->Lz vs ns:=by
 intro ns
 induction ns with
 | nil =>
   intro vs w
   rw[LS]at w
   cases w
   exact .nil
 | cons n ns ih =>
   intro vs w
   rw[Ik]at w
   cases w with
   | cons a b =>
     cases a
     exact .cons _ _ (ih _ b)
theorem nW{l:NR}(hn:l.most=some n){P:NQ}{args:List WData}{vals:List Hq}
 (hpre:l.row.toRowW.claim.pre args=true)(hwl:WellAll P h vals args) :
 ∃a vs ns,vals=[Kp a]/\args=[WData.list (ns.map WData.int)]/\h.get? a=some {cls:=.type "list", data:=.seq vs.toArray}/\Lz vs ns/\ns.length<=n:=by
 have hsh:WShape.hasAll [] args [.list .int]=true:=(pre_splitW hpre).1
 have hc:l.pre.holds [] {args:=args}=true:=(pre_splitW hpre).2
 obtain⟨d,r,rfl,h1,h2⟩:=hasAllW_cons hsh
 obtain rfl:=hasAllW_nil h2
 obtain⟨xs,rfl,h3⟩:=hasW_list h1
 obtain⟨ns,rfl⟩:=items_int h3
 have hlen:ns.length<=n:=by
  unfold NR.pre at hc
  have h4:(WTm.not (.lt (.lit (.int (n:Int))) (.len (.arg 0)))).holds [] {args:=[.list (ns.map .int)]}=true:=by
   have h4:=(holds_andW hc).1
   rw[hn]at h4
   exact h4
  have h5:=condW_of h4 (w_not (w_lt w_lit (w_len_list (w_arg rfl))))
  rw[Hm]at h5
  refine Nat.le_of_not_lt fun q=>?_
  have q':(n:Int)<((ns.length:Nat):Int):=by omega
  first
   | (rw[decide_eq_true q']at h5;exact absurd h5 (by decide))
   | (simp at h5;omega)
 cases hwl with
 | cons w1 w2 =>
   cases w2
   cases w1 with
   | list ho hall=>exact⟨_,_,ns,rfl,rfl,ho,fW ns _ hall,hlen⟩
theorem oJ(l:NR)(args:List WData):l.row.toRowW.claim.post args (.bool true) args=true :=
 postW_of (r:=l.row.toRowW) (X:=(true==true))
  (show WShape.has [] (.bool true) .bool=true by first|rfl|decide|simp[WShape.has,WShape.arms,WShape.armsAll])
  (show(WTm.eq .res (.lit (.bool true))).value [] {args:=args,res:=some (.bool true),after:=args}=some (.bool (true==true))from w_eq_bool (w_res rfl) w_lit) rfl
theorem attach_call{l:NR}{q:HZ}{YP:IL->Heap->Prop}{d:DefRec}
 (hn:l.most=some n)(hdf:d.params.defaults=[])
 (call:∀(w:IL)(s₀ s₁:Hv)(mg mb:Str->Option Hq)(fa:Addr)(o:Obj)(pm cd doc:Hq)(a:Addr)(vs:List Hq)(ns:List Int),
  Ground q loose [] XP w s₀ mg mb s₁.heap->YP w s₁.heap ->
  s₁.heap.get? fa=some o->o.data = .func (docDef d.name d.params d.body d.scope pm cd doc)->s₁.heap.CodeRec cd d.name->mg d.name=some (.ref fa) ->
  s₁.heap.get? a=some {cls:=.type "list", data:=.seq vs.toArray}->Lz vs ns->ns.length<=n->s₁.gens = #[] ->
  JY (Ie l.prog w) Nl (.call (.ref fa) ⟨[.ref a],[]⟩) (fun r s'=>r = .ok (.ret (.bool true))/\OldK s₁.heap s'.heap/\s'.os=s₁.os/\MN s'.gens) s₁) :
 WalkO q loose XP YP l.row.toRowW d [] (fun f vs=>PySem.call f vs):=by
 intro w s₀ s₁ mg mb G Y fa o pm cd doc dV kV ho hd hcd hD hmg hg args vals as hpre hlay hrd hwl hlo
 obtain rfl:dV = .none:=Dflts.none hD hdf
 obtain rfl:kV = .none:=Dflts.noKw hD
 obtain⟨a,vs,ns,rfl,rfl,hobj,hints,hlen⟩:=nW hn hpre hwl
 refine enter_call (LQ (call w s₀ s₁ mg mb fa o pm cd doc a vs ns G Y ho (fd_plain hd) hcd hmg hobj hints hlen hg) fun r s' hq=>?_)
 obtain⟨rfl,h2,h3,h4⟩:=hq
 exact⟨.inl ⟨.bool true,.bool true,[],rfl,fun _=>rfl,.bool true,oJ l _,fun _=>⟨L0,fun _ hm=>(nomatch hm)⟩⟩,h2,h3,h4⟩
section
variable{prog:HZ}{w:IL}{A:ID}{E:Hq->Hv->Prop}{s:Hv}{K:Frag}
end
end Att
namespace L2
theorem iW:∀{vs:List Hq}{ns:List Int},Lz vs ns->ci (ns.map V.int) vs
 | _,_,.nil=>.nil
 | _,_,.cons n t h=>.cons ⟨t,rfl⟩ (iW h)
noncomputable def Bp(H:Hp):Prop:=∀b,H b=none\/∃o xs,H b=some (.frz o (.lst xs))
theorem rm{K:W.Frag}{mb:Str->Option Hq}{CX:G6}{k:Nat}{fa:Addr}{sp:Sp}{s₁:Hv}{vs:List Hq}
 (KX:K.In s₁.heap)(hns:s₁.heap.Ns IA mg)(hb:s₁.heap.Ns builtinsNs mb)(hbb:∀x:Str,x ≠ "__name__" -> mb x=KH x)(hlim:s₁.heap.NoLimit)(hg:s₁.gens = #[])
 (ha:s₁.heap.get? a=some {cls:=.type "list", data:=.seq vs.toArray})(hi:Lz vs ns)(hl:ns.length<=sizeLine)(hr:Room k Nl)
 (F:∀base:Heap,K.In base->base.Ns IA mg->FnOk P w K mg base CX k fa fd [x] sp)(hbind:∀(s:Hv)(u:Hq),NE s fd ⟨[u],[]⟩ [(x,u)])
 (hsp:∀H:Hp,Bp H->Go K H a (ns.map V.int)->sp [.ref a] H (fun v _=>v = .bl true) fun _ _ _=>False)
 (hCX:∀H e s',CX [] H s₁ (fun _ _ _=>False) e s'->False) :
 JY (Ie P w) Nl (.call (.ref fa) ⟨[.ref a],[]⟩) (fun r s'=>r = .ok (.ret (.bool true))/\OldK s₁.heap s'.heap/\s'.os=s₁.os/\MN s'.gens) s₁:=by
 have rv:=iW hi
 have lenV:=hi.length
 have core:∀H:Hp,Bp H->Go K H a (ns.map V.int)->G4 P w H s₁.heap->(∀b,H b≠none->b=a)->(H a≠none->K.lookup a=none) ->
  JY (Ie P w) Nl (.call (.ref fa) ⟨[.ref a],[]⟩) (fun r s'=>r = .ok (.ret (.bool true))/\OldK s₁.heap s'.heap/\s'.os=s₁.os/\MN s'.gens) s₁:=by
  intro H hO hS hok hA hK
  have base_of:∀{b:Addr}{o:Obj},s₁.heap.get? b=some o->H b=none->(rC s₁.heap H).get? b=some o:=fun e n=>rB e n
  have noA:∀{b:Addr}{o:Obj}{es:Array DictEntry}{ep:Nat},s₁.heap.get? b=some o->o.data = .dict es ep->H b=none:=fun{b o es ep} e d=>by
   cases q:H b with
   | none=>rfl
   | some u =>
     have e':b=a:=hA b (by rw[q];simp)
     subst e'
     rw[ha]at e;cases e
     have d':Data.seq vs.toArray _=Data.dict es ep:=d
     cases d'
  have nsK:∀{b:Addr}{m:Str->Option Hq},s₁.heap.Ns b m->(rC s₁.heap H).Ns b m:=fun{b m} ⟨o,es,ep,e,d,r⟩=>⟨o,es,ep,base_of e (noA e d),d,r⟩
  have hKb:K.In (rC s₁.heap H):=fun b o e=>base_of (KX b o e) (by
   cases q:H b with
   | none=>rfl
   | some u =>
     have e':b=a:=hA b (by rw[q];simp)
     subst e'
     rw[hK (by rw[q];simp)]at e;cases e)
  have hM:Mod K mg (rC s₁.heap H):=⟨hKb,nsK hns,⟨mb,nsK hb,hbb⟩,let ⟨mc,h1,h2⟩:=hlim;⟨mc,nsK h1,h2⟩⟩
  have e0:Env0 P w K mg (rC s₁.heap H) Nl [] s₁ H:=⟨rfl,hM,fun b o e=>vp e,Nat.le_of_eq (pG _ _),trivial,fun b hb=>absurd (show b∈([]:List Addr)from hb) (by simp),hok,.of_eq hg⟩
  refine LQ ((F _ hKb (nsK hns)).run Nl [] s₁ H ⟨[.ref a],[]⟩ [.ref a] [.ref a] _ _ hr e0 (hbind s₁ (.ref a)) (.cons rfl .nil) (hsp H hO hS)) fun r s' h=>?_
  cases r with
  | error e=>exact(hCX H e s' h).elim
  | ok fl =>
    cases fl with
    | next=>exact Jw h
    | brk=>exact Jw h
    | cont=>exact Jw h
    | ret u =>
      obtain⟨v,H',os,bare,un,hok',r',q⟩:=h
      have q':v = .bl true:=q
      subst q'
      obtain rfl:u=Hq.bool true:=r'
      refine⟨rfl,OldK.of_keep fun b o e=>?_,os,bare⟩
      cases q:H b with
      | none=>exact un.keep b o e q (by intro z;exact absurd (show b∈([]:List Addr)from z) (by simp)) (by simp)
      | some u =>
        rcases hO b with z|⟨ob,xs,z⟩
        · rw[q]at z;cases z
        · have z2:=un.frzs b ob _ z
          obtain⟨e1,_⟩:=hok b _ z
          obtain⟨e2,_⟩:=hok' b _ z2
          rw[e]at e1;cases e1
          exact e2
 cases hk:K.lookup a with
 | some o =>
   have e:=KX a o hk
   rw[ha]at e
   cases e
   refine core (fun _=>none) (fun _=>.inl rfl) (.inr ⟨_,vs.toArray,_,hk,rfl,rfl,rfl,by rw[HN,lenV];exact hl,by simpa using rv⟩) (fun b u z=>by have z':(none:Option HO)=some u:=z;cases z') (fun b z=>absurd rfl z) fun z=>absurd rfl z
 | none =>
   refine core (fun b=>if b=a then some (.frz {cls:=.type "list", data:=.seq vs.toArray} (.lst (ns.map V.int)))else none) (fun b=>?_) (.inl (.inr ⟨{cls:=.type "list", data:=.seq vs.toArray},if_pos rfl⟩)) (fun b u z=>?_) (fun b z=>?_) fun _=>hk
   · by_cases hb:b=a
     · exact .inr ⟨_,_,if_pos hb⟩
     · exact .inl (if_neg hb)
   · by_cases hb:b=a
     · have z':=(if_pos hb).symm.trans z
       cases z'
       subst hb
       exact⟨ha,by rw[Hm];exact hl,vs,_,rv,ha⟩
     · have z':=(if_neg hb).symm.trans z
       cases z'
   · by_cases hb:b=a
     · exact hb
     · exact absurd (if_neg hb) z
theorem walk_of{l:W.OpenLaw}{k:Nat}{q:HZ}{YP:IL->Heap->Prop}{d:DefRec}{K:NQ->W.Frag}{CX:IL->G6}{sp:IL->Sp}
 (hn:l.most=some n)(hn2:n<=sizeLine)(hdf:d.params.defaults=[])(hr:Room k Nl)
 (hY:∀(w:IL)(h:Heap),YP w h->(K w.params).In h)
 (F:∀(w:IL)(mg:Str->Option Hq)(fa:Addr)(h:Heap),(K w.params).In h->h.Ns IA mg->mg d.name=some (.ref fa) ->
  ∃ fd:J8,(∀(s:Hv)(u:Hq),NE s fd ⟨[u],[]⟩ [(x,u)]) /\
    ∀base:Heap,(K w.params).In base->base.Ns IA mg->FnOk l.prog w (K w.params) mg base (CX w) k fa fd [x] (sp w))
 (hsp:∀(w:IL)(H:Hp)(a:Addr)(ns:List Int),ns.length<=n->Bp H->Go (K w.params) H a (ns.map V.int)->sp w [.ref a] H (fun v _=>v = .bl true) fun _ _ _=>False)
 (hCX:∀(w:IL)(H:Hp)(s:Hv)(e:Hq)(s':Hv),CX w [] H s (fun _ _ _=>False) e s'->False) :
 W.WalkO q loose XP YP l.row.toRowW d [] (fun f vs=>PySem.call f vs):=by
 refine Att.attach_call hn hdf fun w s₀ s₁ mg mb fa o pm cd doc a vs ns G Y ho hd hcd hmg hobj hints hlen hg=>?_
 have KX:=hY w _ Y
 obtain⟨fd,hb,hF⟩:=F w mg fa _ KX G.T.g hmg
 exact rm KX G.T.g G.T.b G.T.builtins G.T.nolimit hg hobj hints (IH hlen hn2) hr hF hb (fun H hO hS=>hsp w H a ns hlen hO hS) fun H e s'=>hCX w H s₁ e s'
abbrev G7:G6:=fun _ _ _ _ _ _=>False
abbrev E0:XK:=fun _ _ _=>False
theorem u_:qe G7 X E0:=fun _ _ _ _ _ _ _ h=>h.elim
structure Fun (K:W.Frag) (x qual:Str) (st:Stmt) (f:Addr) (fd:J8):Prop where
 ex:∃(oc:Hq)(od:Option Addr)(kV doc pm:Hq)(an:Option Addr)(cdv ct:Hq)(osl:Array (Option Hq)),
  fd=W.fnOf x qual (defArgs st) (defBody st) (defScope st) .none kV doc pm an cdv ct/\K.lookup f=some ⟨oc,od,.func fd,osl⟩/\W.codeIn K cdv qual=true
 kp:W.keepIn K (.ref f)=true
section
variable{P:HZ}{w:IL}{K:W.Frag}{mg:Str->Option Hq}{base:Heap}
theorem Fun.ok{st:Stmt}{f:Addr}{ps:List Str}{k:Nat}{sp:Sp}(F:Fun K x qual st f fd)(S:FnScope N ps (defScope st))(len:∀vs H Q E,sp vs H Q E->vs.length=ps.length)
 (hbody:∀(cdv:Hq)(A:ID)(outer:List Env)(s:Hv)(H:Hp)(vs:List V)(Q:VK)(E:XK),Room k (A.deeper (Mq qual (defScope st) s.heap.objs.size f cdv))->sp vs H Q E ->
  ∃t,GA (qj G7 P w K mg base N qual (defScope st) f cdv A outer s H E).nox (defBody st) t/\t {nx:=fun _ H'=>Q .non H',rt:=Q} (start N vs) H):FnOk P w K mg base G7 (k+1) f fd ps sp:=by
 obtain⟨oc,od,kV,doc,pm,an,cdv,ct,osl,rfl,lk,hcd⟩:=F.ex
 refine Bf lk hcd S len fun A outer s H vs Q E hr hsp=>?_
 obtain⟨t,h,q⟩:=hbody cdv A outer s H vs Q E hr hsp
 exact⟨t,h.nox,q⟩
theorem Fun.binds{st:Stmt}{f:Addr}{ps:List Str}(F:Fun K x qual st f fd)
 (h:∀(kV doc pm:Hq)(an:Option Addr)(cdv ct:Hq)(us:List Hq),us.length=ps.length->bindArgs (W.fnOf x qual (defArgs st) (defBody st) (defScope st) .none kV doc pm an cdv ct) ⟨us,[]⟩=pure (ps.zip us)):Binds K fd ps []:=by
 obtain⟨oc,od,kV,doc,pm,an,cdv,ct,osl,rfl,lk,hcd⟩:=F.ex
 exact .all (h kV doc pm an cdv ct)
theorem pH{st:Stmt}{f:Addr}{oc:Hq}{od an:Option Addr}{osl:Array (Option Hq)}{kV doc pm cdv ct:Hq}(l:K.lookup f=some ⟨oc,od,.func (W.fnOf x qual (defArgs st) (defBody st) (defScope st) .none kV doc pm an cdv ct),osl⟩)
 (c:W.codeIn K cdv qual=true)(k:W.keepIn K (.ref f)=true):Fun K x qual st f (W.fnOf x qual (defArgs st) (defBody st) (defScope st) .none kV doc pm an cdv ct):=⟨⟨oc,od,kV,doc,pm,an,cdv,ct,osl,rfl,l,c⟩,k⟩
end
theorem rA{k:Nat}(hr:Room k A):A.units+1<Ni:=Km (Nat.add_le_add_left (by decide:1<=64) _) hr.units
theorem nO(h:n<=1000):n<sizeLine:=Km h (by decide)
section
variable{X:Cx}
theorem pv(i:Nat)(hN:X.N[i]?=some x:=by rfl)(hv:F0 X.env.scope x:=by first|exact Jy rfl|exact IK (Jy rfl)|exact IK (IK rfl))(hd:(x==("__debug__" : Str))=false:=by decide)
 (hcd:(x==("__classdict__" : Str))=false:=by decide):PE X (.Name x pos) (Af i):=cx hN hv hd hcd
end
noncomputable def bH(H H':Hp):Prop:=∀b o,H b=some o->H' b=some o
theorem bH.refl(H:Hp):bH H H:=fun _ _ h=>h
theorem bH.trans{H1 H2:Hp}(a:bH H H1)(b:bH H1 H2):bH H H2:=fun c o h=>b c o (a c o h)
theorem bH.free(e:bH H H'){l:Addr}(h:H' l=Option.none):H l=Option.none:=by
 cases q:H l with
 | none=>rfl
 | some o =>
   rw[e l o q]at h
   cases h
section
variable{X:Cx}
end
section
variable{κ:Type}[DecidableEq κ]
end
end L2
namespace L2.VL
structure RlT where
 a:Option Addr
 b:Nat×List Int
abbrev RlT.no:RlT:=⟨none,(0,[])⟩
abbrev RlT.at'(r:Addr)(b:Nat×List Int):RlT:=⟨some r,b⟩
noncomputable def RO(c:Nat×List Int)(F:Hp)(o:HO):Prop:=∃(a l t:Int),o = .dK [(Iw "cells", .ref c.1),(Iw "at", .int a),(Iw "left", .int l),(Iw "turn", .int t)]/\F c.1=some (.lst (c.2.map V.int))/\c.2.length<=63/\0<=a/\0<=l/\0<=t
theorem RO.mono{c:Nat×List Int}{o:HO}(s:bH F F')(h:RO c F o):RO c F' o:=by
 obtain⟨a,l,t,e,q,r⟩:=h
 exact⟨a,l,t,e,s _ _ q,r⟩
mutual
inductive Rep (K:W.Frag) (F:Hp):V->Hg->Prop
 | non:Rep K F .non .none
 | bl (b:Bool):Rep K F (.bl b) (.bool b)
 | int (i:Int):Rep K F (.int i) (.int i)
 | str (x:Str):Rep K F (.str x) (.str x)
 | tup {a:Addr} {vs:List V} {ds:List Hg}:Gm K F a vs->Reps K F vs ds->Rep K F (.ref a) (.tuple ds)
 | lst {a:Addr} {vs:List V} {ds:List Hg}:F a=some (.lst vs)->Reps K F vs ds->Rep K F (.ref a) (.list ds)
inductive Reps (K:W.Frag) (F:Hp):List V->List Hg->Prop
 | nil:Reps K F [] []
 | cons {v:V} {d:Hg} {vs:List V} {ds:List Hg}:Rep K F v d->Reps K F vs ds->Reps K F (v::vs) (d::ds)
end
theorem e9{K:W.Frag}{xs:List V}(e:bH H H')(h:Gm K H a xs):Gm K H' a xs:=by
 rcases h with(h|⟨o,h⟩)|h
 · exact .inl (.inl (e _ _ h))
 · exact .inl (.inr ⟨o,e _ _ h⟩)
 · exact .inr h
theorem qG{K:W.Frag}{xs:List V}(e:bH H H')(h:Go K H a xs):Go K H' a xs:=by
 rcases h with(h|⟨o,h⟩)|h
 · exact .inl (.inl (e _ _ h))
 · exact .inl (.inr ⟨o,e _ _ h⟩)
 · exact .inr h
mutual
theorem Rep.mono{K:W.Frag}{F F':Hp}(s:bH F F'):∀{v:V}{d:Hg},Rep K F v d->Rep K F' v d
 | _,_,.non=>.non
 | _,_,.bl b=>.bl b
 | _,_,.int i=>.int i
 | _,_,.str x=>.str x
 | _,_,.tup h r=>.tup (e9 s h) (Reps.mono s r)
 | _,_,.lst h r=>.lst (s _ _ h) (Reps.mono s r)
theorem Reps.mono{K:W.Frag}{F F':Hp}(s:bH F F'):∀{vs:List V}{ds:List Hg},Reps K F vs ds->Reps K F' vs ds
 | _,_,.nil=>.nil
 | _,_,.cons h r=>.cons (Rep.mono s h) (Reps.mono s r)
end
theorem Reps.length{K:W.Frag}{F:Hp}:∀{vs:List V}{ds:List Hg},Reps K F vs ds->vs.length=ds.length
 | _,_,.nil=>rfl
 | _,_,.cons _ r=>by simp[Reps.length r]
theorem Reps.get{K:W.Frag}{F:Hp}:∀{vs:List V}{ds:List Hg}{i:Nat}{d:Hg},Reps K F vs ds->ds[i]?=some d->∃v,vs[i]?=some v/\Rep K F v d
 | _,_,_,_,.nil,e=>by simp at e
 | _,_,0,_,.cons h _,e=>by simp at e;subst e;exact⟨_,rfl,h⟩
 | _,_,i+1,d,.cons _ r,e=>by
   obtain⟨v,h1,h2⟩:=Reps.get (i:=i) (d:=d) r (by simpa using e)
   exact⟨v,by simpa using h1,h2⟩
theorem Reps.append{K:W.Frag}{F:Hp}:∀{vs us:List V}{ds es:List Hg},Reps K F vs ds->Reps K F us es->Reps K F (vs++us) (ds++es)
 | _,_,_,_,.nil,s=>s
 | _,_,_,_,.cons h r,s=>.cons h (Reps.append r s)
theorem Reps.snoc{K:W.Frag}{ds:List Hg}(r:Reps K F vs ds)(h:Rep K F v d):Reps K F (vs++[v]) (ds++[d]):=r.append (.cons h .nil)
theorem Reps.take{K:W.Frag}{F:Hp}:∀{vs:List V}{ds:List Hg}(n:Nat),Reps K F vs ds->Reps K F (vs.take n) (ds.take n)
 | _,_,0,_=>.nil
 | _,_,_+1,.nil=>.nil
 | _,_,n+1,.cons h r=>.cons h (Reps.take n r)
theorem Reps.drop{K:W.Frag}{F:Hp}:∀{vs:List V}{ds:List Hg}(n:Nat),Reps K F vs ds->Reps K F (vs.drop n) (ds.drop n)
 | _,_,0,r=>r
 | _,_,_+1,.nil=>.nil
 | _,_,n+1,.cons _ r=>Reps.drop n r
theorem Reps.nil_iff{K:W.Frag}(h:Reps K F vs []):vs=[]:=by cases h;rfl
mutual
theorem Rep.reads{X:Cx}{pins:List (Addr×Obj)}{σ:St}{H F:Hp}{s:Hv}(I:Inv X pins σ H s)(sub:bH F H):∀{v:V}{d:Hg},Rep X.K F v d->∀u,RelV v u->∃as,Reads s.heap u d as
 | _,_,.non,u,r=>by cases(show u=K3 from r);exact⟨_,.none⟩
 | _,_,.bl b,u,r=>by cases(show u=Hq.bool b from r);exact⟨_,.bool b⟩
 | _,_,.int i,u,r=>by obtain⟨t,q⟩:=(show ∃t,u=M3 i t from r);cases q;exact⟨_,.int i t⟩
 | _,_,.str x,u,r=>by obtain⟨t,q⟩:=(show ∃t,u=NA x t from r);cases q;exact⟨_,.str x t⟩
 | _,_,.tup (a:=a) h q,u,r=>by
   cases(show u=Kp a from r)
   obtain⟨its,rv,⟨o,h1,h2,n,h3⟩,hz⟩:=I.tuple (e9 sub h)
   obtain⟨as,ra⟩:=Reps.reads I sub q its rv
   exact⟨_,.tuple h1 h2 h3 (by simpa using ra)⟩
 | _,_,.lst (a:=a) h q,u,r=>by
   cases(show u=Kp a from r)
   obtain⟨its,rv,p,hz⟩:=I.list (.inl (.inl (sub _ _ h)))
   obtain⟨o,h1,h2,n,h3⟩:=p.isList
   obtain⟨as,ra⟩:=Reps.reads I sub q its rv
   exact⟨_,.list h1 h2 h3 (by simpa using ra)⟩
theorem Reps.reads{X:Cx}{pins:List (Addr×Obj)}{σ:St}{H F:Hp}{s:Hv}(I:Inv X pins σ H s)(sub:bH F H):∀{vs:List V}{ds:List Hg},Reps X.K F vs ds->∀us,ci vs us->∃as,ReadsAll s.heap us ds as
 | _,_,.nil,us,r=>by cases r;exact⟨_,.nil⟩
 | _,_,.cons h q,us,r=>by
   cases r with
   | cons r1 r2 =>
     obtain⟨as,a1⟩:=Rep.reads I sub h _ r1
     obtain⟨bs,a2⟩:=Reps.reads I sub q _ r2
     exact⟨_,.cons a1 a2⟩
end
structure ReelOk (b:Nat×List Int) (F H:Hp) (r:Addr):Prop where
 ex:∃o,H r=some o/\RO b F o
noncomputable def Gu(rl:RlT)(F H:Hp):Prop:=∀r,rl.a=some r->F r=none/\ReelOk rl.b F H r
theorem Gu.live{rl:RlT}(h:Gu rl F H){r:Addr}(e:rl.a=some r):∃o,H r=some o:=by
 obtain⟨_,⟨o,q,_⟩⟩:=h r e
 exact⟨_,q⟩
structure Grow (rl:RlT) (F H F' H':Hp):Prop where
 same:∀b o,H b=some o->rl.a≠some b->H' b=some o
 fs:bH F F'
 sub:bH F' H'
 old:∀b o,H b=some o->F' b=F b
 reel:Gu rl F' H'
theorem Grow.refl{rl:RlT}{F H:Hp}(s:bH F H)(r:Gu rl F H):Grow rl F H F H:=⟨fun _ _ e _=>e,.refl F,s,fun _ _ _=>rfl,r⟩
theorem Grow.live{rl:RlT}{F H F' H':Hp}(g:Grow rl F H F' H'){b:Addr}{o:HO}(e:H b=some o):∃o',H' b=some o':=by
 by_cases h:rl.a=some b
 · exact g.reel.live h
 · exact⟨o,g.same b o e h⟩
theorem Grow.trans{rl:RlT}{F H F1 H1 F2 H2:Hp}(a:Grow rl F H F1 H1)(b:Grow rl F1 H1 F2 H2):Grow rl F H F2 H2 :=
 ⟨fun c o e n=>b.same c o (a.same c o e n) n,a.fs.trans b.fs,b.sub,fun c o e=>by obtain⟨o',e'⟩:=a.live e;rw[b.old c o' e',a.old c o e],b.reel⟩
theorem Grow.freeB{rl:RlT}(g:Grow rl F H F' H')(e:H' b=none):H b=none:=by
 cases q:H b with
 | none=>rfl
 | some o=>obtain⟨o',e'⟩:=g.live q;rw[e]at e';cases e'
theorem Grow.laid{rl:RlT}{o:HO}(s:bH F H)(r:Gu rl F H)(n:H a=none):Grow rl F H F (D9 H a o):=by
 have ne:∀b u,H b=some u->b≠a:=fun b u e=>aU e n
 refine⟨fun b u e _=>by rw[aq (ne b u e)];exact e,.refl F,fun b u e=>by rw[aq (ne b u (s b u e))];exact s b u e,fun _ _ _=>rfl,fun q e=>?_⟩
 obtain⟨z,⟨u,h1,h2⟩⟩:=r q e
 exact⟨z,⟨u,by rw[aq (ne _ _ h1)];exact h1,h2⟩⟩
theorem Grow.data{rl:RlT}{o:HO}(s:bH F H)(r:Gu rl F H)(n:H a=none):Grow rl F H (D9 F a o) (D9 H a o):=by
 have ne:∀b u,H b=some u->b≠a:=fun b u e=>aU e n
 have neF:∀b u,F b=some u->b≠a:=fun b u e=>ne b u (s b u e)
 refine⟨fun b u e _=>by rw[aq (ne b u e)];exact e,fun b u e=>by rw[aq (neF b u e)];exact e,fun b u e=>?_,fun b u e=>by rw[aq (ne b u e)],fun q e=>?_⟩
 · by_cases hb:b=a
   · subst hb;rw[az]at e ⊢;exact e
   · rw[aq hb]at e ⊢;exact s b u e
 · obtain⟨z,⟨u,h1,h2⟩⟩:=r q e
   exact⟨by rw[aq (ne _ _ h1)];exact z,⟨u,by rw[aq (ne _ _ h1)];exact h1,RO.mono (fun b u e=>by rw[aq (neF b u e)];exact e) h2⟩⟩
theorem Grow.freeze{rl:RlT}{F1 H1:Hp}{o:HO}(g:Grow rl F H F1 H1)(n:H a=none)(e:H1 a=some o)(f:F1 a=none)(hr:rl.a≠some a):Grow rl F H (D9 F1 a o) H1:=by
 have neF:∀b u,F1 b=some u->b≠a:=fun b u q z=>by subst z;rw[f]at q;cases q
 refine⟨g.same,fun b u q=>by rw[aq (neF b u (g.fs b u q))];exact g.fs b u q,fun b u q=>?_,fun b u q=>by rw[aq (aU q n)];exact g.old b u q,fun q z=>?_⟩
 · by_cases hb:b=a
   · subst hb;rw[az]at q;rw[e];exact q
   · rw[aq hb]at q;exact g.sub b u q
 · obtain⟨z1,⟨u,h1,h2⟩⟩:=g.reel q z
   exact⟨by rw[aq (fun y=>hr (by rw[<- y];exact z))];exact z1,⟨u,h1,RO.mono (fun b u e=>by rw[aq (neF b u e)];exact e) h2⟩⟩
inductive W where
 | d (x:Hg)
 | ml (xs:List Hg)
 | pk (xs:List Hg)
 | reel
 | vv (v:V)
 | md (kvs:List (List GQ×Hg))
 | mk (kvs:List (GQ×Hg))
 | nt (ds:List Hg)
 | lk
 | sc (ns:List Int)
 | fd (kvs:List (GQ×Hg))
 | fw (kvs:List (GQ×Hg))
 | ft (kvs:List (List GQ×Hg))
 | xc (x:Str) (fs:List (Str×Hg))
 | dp (kvs:List (GQ×Hg)) (x:Hg)
noncomputable def W.dat:W->Option Hg
 | .d x=>some x
 | .ml xs=>some (.list xs)
 | .pk xs=>some (.list xs)
 | .nt ds=>some (.tuple ds)
 | _=>none
noncomputable def W.peek:W->W
 | .ml xs=>.pk xs
 | .md _=>.lk
 | .mk _=>.lk
 | w=>w
noncomputable def W.own:W->Bool
 | .ml _=>true
 | .md _=>true
 | .mk _=>true
 | _=>false
abbrev KD(K:W.Frag)(F:Hp):List (List GQ×V)->List (List GQ×Hg)->Prop:=I0 fun p q=>p.1=q.1/\Rep K F p.2 q.2
abbrev GS(K:W.Frag)(F:Hp):List (GQ×V)->List (GQ×Hg)->Prop:=I0 fun p q=>p.1=q.1/\Rep K F p.2 q.2
abbrev GR(K:W.Frag)(F:Hp):List (Str×V)->List (Str×Hg)->Prop:=I0 fun p q=>p.1=q.1/\Rep K F p.2 q.2
noncomputable def Bq(e C dx:Addr):Heap->Prop:=fun h=>∃oe vs,h.get? e=some oe/\oe.cls = .ref C/\oe.dict=some dx/\oe.data = .fields vs
noncomputable def wz(K:W.Frag)(rl:RlT)(F H:Hp)(v:V)(kvs:List (List GQ×Hg)):Prop:=∃a us,v = .ref a/\F a=none/\rl.a≠some a/\H a=some (.dT us)/\KD K F us kvs
noncomputable def ww(K:W.Frag)(rl:RlT)(F H:Hp)(v:V)(kvs:List (GQ×Hg)):Prop:=∃a us,v = .ref a/\F a=none/\rl.a≠some a/\H a=some (.dK us)/\GS K F us kvs
noncomputable def gt(K:W.Frag)(rl:RlT)(F H:Hp)(v:V)(xs:List Hg):Prop:=∃a vs,v = .ref a/\F a=none/\rl.a≠some a/\H a=some (.lst vs)/\Reps K F vs xs
noncomputable def dA(K:W.Frag)(rl:RlT)(F H:Hp)(v:V):W->Prop
 | .d x=>Rep K F v x
 | .ml xs=>gt K rl F H v xs
 | .pk xs=>gt K rl F H v xs
 | .reel=>∃r,rl.a=some r/\v = .ref r
 | .vv u=>v=u
 | .md kvs=>wz K rl F H v kvs
 | .mk kvs=>ww K rl F H v kvs
 | .nt ds=>∃a vs,v = .ref a/\F a=some (.tup vs)/\Reps K F vs ds
 | .lk=>True
 | .sc ns=>∃a,v = .ref a/\Go K F a (ns.map V.int)
 | .fd kvs=>∃a us,v = .ref a/\F a=some (.dK us)/\GS K F us kvs
 | .fw kvs=>∃a us o,v = .ref a/\F a=some (.frz o (.dK us))/\GS K F us kvs
 | .ft kvs=>∃a us o,v = .ref a/\F a=some (.frz o (.dT us))/\KD K F us kvs
 | .xc x fs=>∃e dx us C,v = .ref e/\W.nsIn K IA x=some (some (.ref C))/\F e=some (.ext (Bq e C dx))/\F dx=some (.xd us)/\GR K F us fs
 | .dp kvs x=>∃a b us u o,v = .ref a/\F a=some (.tup [.ref b,u])/\F b=some (.frz o (.dK us))/\GS K F us kvs/\Rep K F u x
theorem wz.grow{K:W.Frag}{rl:RlT}{kvs:List (List GQ×Hg)}(g:Grow rl F H F' H')(r:wz K rl F H v kvs):wz K rl F' H' v kvs:=by
 obtain⟨a,us,rfl,h1,h2,h3,h4⟩:=r
 exact⟨a,us,rfl,by rw[g.old a _ h3];exact h1,h2,g.same a _ h3 h2,I0.mapP h4 fun _ _ z=>⟨z.1,z.2.mono g.fs⟩⟩
theorem ww.grow{K:W.Frag}{rl:RlT}{kvs:List (GQ×Hg)}(g:Grow rl F H F' H')(r:ww K rl F H v kvs):ww K rl F' H' v kvs:=by
 obtain⟨a,us,rfl,h1,h2,h3,h4⟩:=r
 exact⟨a,us,rfl,by rw[g.old a _ h3];exact h1,h2,g.same a _ h3 h2,I0.mapP h4 fun _ _ z=>⟨z.1,z.2.mono g.fs⟩⟩
theorem gt.grow{K:W.Frag}{rl:RlT}(g:Grow rl F H F' H')(r:gt K rl F H v xs):gt K rl F' H' v xs:=by
 obtain⟨a,vs,rfl,h1,h2,h3,h4⟩:=r
 exact⟨a,vs,rfl,by rw[g.old a _ h3];exact h1,h2,g.same a _ h3 h2,h4.mono g.fs⟩
theorem dA.grow{K:W.Frag}{rl:RlT}{F H F' H':Hp}{v:V}{w:W}(g:Grow rl F H F' H')(r:dA K rl F H v w):dA K rl F' H' v w:=by
 cases w with
 | d x=>exact Rep.mono g.fs r
 | ml xs=>exact gt.grow g r
 | pk xs=>exact gt.grow g r
 | reel=>exact r
 | vv u=>exact r
 | md kvs=>exact wz.grow g r
 | mk kvs=>exact ww.grow g r
 | nt ds=>obtain⟨a,vs,e,h,q⟩:=r;exact⟨a,vs,e,g.fs _ _ h,q.mono g.fs⟩
 | lk=>trivial
 | sc ns=>obtain⟨a,e,h⟩:=r;exact⟨a,e,qG g.fs h⟩
 | fd kvs=>obtain⟨a,us,e,h,q⟩:=r;exact⟨a,us,e,g.fs _ _ h,I0.mapP q fun _ _ z=>⟨z.1,z.2.mono g.fs⟩⟩
 | fw kvs=>obtain⟨a,us,o,e,h,q⟩:=r;exact⟨a,us,o,e,g.fs _ _ h,I0.mapP q fun _ _ z=>⟨z.1,z.2.mono g.fs⟩⟩
 | ft kvs=>obtain⟨a,us,o,e,h,q⟩:=r;exact⟨a,us,o,e,g.fs _ _ h,I0.mapP q fun _ _ z=>⟨z.1,z.2.mono g.fs⟩⟩
 | xc _ _=>obtain⟨a,dx,us,C,e,n,h1,h2,q⟩:=r;exact⟨a,dx,us,C,e,n,g.fs _ _ h1,g.fs _ _ h2,I0.mapP q fun _ _ z=>⟨z.1,z.2.mono g.fs⟩⟩
 | dp _ _=>obtain⟨a,b,us,u,o,e,h1,h2,q,z⟩:=r;exact⟨a,b,us,u,o,e,g.fs _ _ h1,g.fs _ _ h2,I0.mapP q fun _ _ z=>⟨z.1,z.2.mono g.fs⟩,z.mono g.fs⟩
theorem dA.peek{K:W.Frag}{rl:RlT}{w:W}(r:dA K rl F H v w):dA K rl F H v w.peek:=by cases w<;>first|exact r|trivial
theorem gt.rep{K:W.Frag}{rl:RlT}(s:bH F H)(r:gt K rl F H v xs):Rep K H v (.list xs):=by
 obtain⟨a,vs,rfl,h1,h2,h3,h4⟩:=r
 exact .lst h3 (h4.mono s)
theorem dA.dat{K:W.Frag}{rl:RlT}{w:W}{x:Hg}(s:bH F H)(r:dA K rl F H v w)(e:w.dat=some x):Rep K H v x:=by
 cases w with
 | d y=>cases e;exact Rep.mono s r
 | ml xs=>cases e;exact gt.rep s r
 | pk xs=>cases e;exact gt.rep s r
 | reel=>cases e
 | vv u=>cases e
 | md kvs=>cases e
 | mk kvs=>cases e
 | nt ds=>cases e;obtain⟨a,vs,rfl,h,q⟩:=r;exact .tup (.inl (.inl (s _ _ h))) (q.mono s)
 | lk=>cases e
 | sc _=>cases e
 | fd _=>cases e
 | fw _=>cases e
 | ft _=>cases e
 | xc _ _=>cases e
 | dp _ _=>cases e
theorem dA.items{K:W.Frag}{rl:RlT}{w:W}(s:bH F H)(r:dA K rl F H v w)(e:w.dat=some (.list xs)):∃a vs,v = .ref a/\Go K H a vs/\Reps K F vs xs:=by
 have own:gt K rl F H v xs->∃a vs,v = .ref a/\Go K H a vs/\Reps K F vs xs:=fun⟨a,vs,e1,_,_,e2,e3⟩=>⟨a,vs,e1,.inl (.inl e2),e3⟩
 cases w with
 | d y =>
   cases e
   cases(show Rep K F v (.list xs)from r)with
   | lst h q=>exact⟨_,_,rfl,.inl (.inl (s _ _ h)),q⟩
 | ml ys=>cases e;exact own r
 | pk ys=>cases e;exact own r
 | reel=>cases e
 | vv u=>cases e
 | md kvs=>cases e
 | mk kvs=>cases e
 | nt ds=>cases e
 | lk=>cases e
 | sc _=>cases e
 | fd _=>cases e
 | fw _=>cases e
 | ft _=>cases e
 | xc _ _=>cases e
 | dp _ _=>cases e
theorem dA.itemsT{K:W.Frag}{rl:RlT}{w:W}(s:bH F H)(r:dA K rl F H v w)(e:w.dat=some (.tuple xs)):∃a vs,v = .ref a/\Gm K H a vs/\Reps K F vs xs:=by
 cases w with
 | d y =>
   cases e
   cases(show Rep K F v (.tuple xs)from r)with
   | tup h q=>exact⟨_,_,rfl,e9 s h,q⟩
 | ml ys=>cases e
 | pk ys=>cases e
 | reel=>cases e
 | vv u=>cases e
 | md kvs=>cases e
 | mk kvs=>cases e
 | nt ds=>cases e;obtain⟨a,vs,rfl,h,q⟩:=r;exact⟨a,vs,rfl,.inl (.inl (s _ _ h)),q⟩
 | lk=>cases e
 | sc _=>cases e
 | fd _=>cases e
 | fw _=>cases e
 | ft _=>cases e
 | xc _ _=>cases e
 | dp _ _=>cases e
noncomputable def dS(H:Hp)(v:V):W->Prop
 | .ml _=>∀a,v = .ref a->H a=none
 | .md _=>∀a,v = .ref a->H a=none
 | .mk _=>∀a,v = .ref a->H a=none
 | _=>True
theorem dA.live{K:W.Frag}{rl:RlT}{w:W}(r:dA K rl F H v w)(h:w.own=true):∃a o,v = .ref a/\H a=some o:=by
 cases w with
 | ml xs=>obtain⟨a,vs,e,_,_,hh,_⟩:=r;exact⟨a,_,e,hh⟩
 | md xs=>obtain⟨a,vs,e,_,_,hh,_⟩:=r;exact⟨a,_,e,hh⟩
 | mk xs=>obtain⟨a,vs,e,_,_,hh,_⟩:=r;exact⟨a,_,e,hh⟩
 | _=>cases h
theorem dS.none{w:W}(n:dS H v w)(h:w.own=true)(e:v = .ref a):H a=none:=by
 cases w with
 | ml xs=>exact n a e
 | md xs=>exact n a e
 | mk xs=>exact n a e
 | _=>cases h
abbrev En:=List (Option W)
structure VR (K:W.Frag) (rl:RlT) (F₀ H₀ F H:Hp) (σ:St) (ρ:En):Prop where
 g:Grow rl F₀ H₀ F H
 sl:∀(i:Nat) w,ρ[i]?=some (some w)->∃v,σ[i]?=some (some v)/\dA K rl F H v w/\dS H₀ v w
 ap:∀(i j:Nat)(x y:W) v,i≠j->ρ[i]?=some (some x)->ρ[j]?=some (some y)->x.own=true->y.own=true->σ[i]?=some (some v)->σ[j]?=some (some v)->False
 np:∀(i:Nat) xs,ρ[i]?≠some (some (W.pk xs))
 len:ρ.length=σ.length
section
variable{K:W.Frag}{rl:RlT}{F₀ H₀ F H F' H':Hp}{σ:St}{ρ:En}
theorem VR.sub(r:VR K rl F₀ H₀ F H σ ρ):bH F H:=r.g.sub
theorem VR.reel(r:VR K rl F₀ H₀ F H σ ρ):Gu rl F H:=r.g.reel
theorem VR.grow(r:VR K rl F₀ H₀ F H σ ρ)(g:Grow rl F H F' H'):VR K rl F₀ H₀ F' H' σ ρ :=
 ⟨r.g.trans g,fun i w e=>let ⟨v,e1,e2,e3⟩:=r.sl i w e;⟨v,e1,e2.grow g,e3⟩,r.ap,r.np,r.len⟩
theorem VR.set(r:VR K rl F₀ H₀ F H σ ρ){H1 F1:Hp}(g:Grow rl F H F1 H1){w:W}(rw':dA K rl F1 H1 v w)(hn:dS H v w)(hp:∀xs,w ≠ .pk xs)(i:Nat):VR K rl F₀ H₀ F1 H1 (σ.set i (some v)) (ρ.set i (some w)):=by
 have r1:=r.grow g
 refine⟨r1.g,fun j w' e=>?_,fun j k xs ys u hjk e1 e2 w1 w2 s1 s2=>?_,fun j xs z=>?_,by simp[r.len]⟩
 · by_cases hj:i=j
   · subst hj
     have hi:i<ρ.length:=by
      rw[IV]at e
      by_cases hi:i<ρ.length
      · exact hi
      · simp[hi]at e
     rw[Ib hi]at e
     cases e
     refine⟨v,by rw[Ib (by rw[<- r.len];exact hi)],rw',?_⟩
     cases w with
     | ml xs=>exact fun a ea=>r.g.freeB (hn a ea)
     | d x=>trivial
     | pk xs=>trivial
     | reel=>trivial
     | vv u=>trivial
     | md xs=>exact fun a ea=>r.g.freeB (hn a ea)
     | mk xs=>exact fun a ea=>r.g.freeB (hn a ea)
     | nt ds=>trivial
     | lk=>trivial
     | sc _=>trivial
     | fd _=>trivial
     | fw _=>trivial
     | ft _=>trivial
     | xc _ _=>trivial
     | dp _ _=>trivial
   · rw[HU hj]at e
     obtain⟨u,h1,h2,h3⟩:=r1.sl j w' e
     exact⟨u,by rw[HU hj];exact h1,h2,h3⟩
 · have key:∀(k:Nat)(x y:W),ρ[k]?=some (some y)->some (some w)=some (some x)->x.own=true->y.own=true->σ[k]?=some (some v)->False:=fun k x y d2 e1 o1 o2 s2=>by
     cases e1
     obtain⟨u',h1,h2,h3⟩:=r.sl k _ d2
     rw[s2]at h1
     cases h1
     obtain⟨a,o,ea,hh⟩:=h2.live o2
     rw[hn.none o1 ea]at hh
     cases hh
   by_cases hj:i=j
   · subst hj
     have hk:i≠k:=hjk
     have hi:i<ρ.length:=by
      rw[IV]at e1
      by_cases hi:i<ρ.length
      · exact hi
      · simp[hi]at e1
     rw[Ib hi]at e1
     rw[HU hk]at e2 s2
     rw[Ib (by rw[<- r.len];exact hi)]at s1
     cases s1
     exact key k xs ys e2 e1 w1 w2 s2
   · by_cases hk:i=k
     · subst hk
       have hi:i<ρ.length:=by
        rw[IV]at e2
        by_cases hi:i<ρ.length
        · exact hi
        · simp[hi]at e2
       rw[Ib hi]at e2
       rw[HU hj]at e1 s1
       rw[Ib (by rw[<- r.len];exact hi)]at s2
       cases s2
       exact key j ys xs e1 e2 w2 w1 s1
     · rw[HU hj]at e1 s1
       rw[HU hk]at e2 s2
       exact r.ap j k xs ys u hjk e1 e2 w1 w2 s1 s2
 · rw[IV]at z
   split at z
   · split at z
     · exact hp xs (IG (IG z))
     · cases z
   · exact r.np j xs z
theorem VR.freeze(r:VR K rl F₀ H₀ F H σ ρ){i:Nat}{xs:List Hg}(e:ρ[i]?=some (some (.ml xs))):∃F1,VR K rl F₀ H₀ F1 H σ (ρ.set i (some (.d (.list xs)))):=by
 obtain⟨v,h1,h2,h3⟩:=r.sl i _ e
 obtain⟨a,vs,rfl,f,hr,hh,q⟩:=(show gt K rl F H v xs from h2)
 have hi:i<ρ.length:=(Ia.mp e).1
 have neF:∀b u,F b=some u->b≠a:=fun b u q z=>by subst z;rw[f]at q;cases q
 have fsm:bH F (D9 F a (.lst vs)):=fun b u z=>by rw[aq (neF b u z)];exact z
 refine⟨D9 F a (.lst vs),r.g.freeze (h3 a rfl) hh f hr,fun j w e1=>?_,fun j k ys zs u hjk e1 e2 w1 w2 s1 s2=>?_,fun j ys z=>?_,by simp[r.len]⟩
 · by_cases hj:i=j
   · subst hj
     rw[Ib hi]at e1
     cases e1
     exact⟨.ref a,h1,.lst az (q.mono fsm),trivial⟩
   · rw[HU hj]at e1
     obtain⟨u,g1,g2,g3⟩:=r.sl j w e1
     refine⟨u,g1,?_,g3⟩
     have own:∀ys,(∀zs,w = .ml zs->ys=zs)->gt K rl F H u ys->(∃b,u = .ref b/\b≠a)->gt K rl (D9 F a (.lst vs)) H u ys:=fun ys _ ⟨b,us,eb,f1,f2,f3,f4⟩ ⟨b',eb',ne⟩=>by
      rw[eb]at eb'
      cases eb'
      exact⟨b,us,eb,by rw[aq ne];exact f1,f2,f3,f4.mono fsm⟩
     cases w with
     | d x=>exact Rep.mono fsm g2
     | reel=>exact g2
     | vv u=>exact g2
     | ml ys =>
       obtain⟨b,us,eb,f1,f2,f3,f4⟩:=(show gt K rl F H u ys from g2)
       have ne:b≠a:=fun z=>r.ap i j _ _ (.ref a) hj e e1 rfl rfl h1 (by rw[g1,eb,z])
       exact⟨b,us,eb,by rw[aq ne];exact f1,f2,f3,f4.mono fsm⟩
     | pk ys=>exact absurd e1 (r.np j ys)
     | md ys =>
       obtain⟨b,us,eb,f1,f2,f3,f4⟩:=(show wz K rl F H u ys from g2)
       have ne:b≠a:=fun z=>r.ap i j _ _ (.ref a) hj e e1 rfl rfl h1 (by rw[g1,eb,z])
       exact⟨b,us,eb,by rw[aq ne];exact f1,f2,f3,I0.mapP f4 fun _ _ z=>⟨z.1,z.2.mono fsm⟩⟩
     | mk ys =>
       obtain⟨b,us,eb,f1,f2,f3,f4⟩:=(show ww K rl F H u ys from g2)
       have ne:b≠a:=fun z=>r.ap i j _ _ (.ref a) hj e e1 rfl rfl h1 (by rw[g1,eb,z])
       exact⟨b,us,eb,by rw[aq ne];exact f1,f2,f3,I0.mapP f4 fun _ _ z=>⟨z.1,z.2.mono fsm⟩⟩
     | nt ds=>obtain⟨b,us,eb,f1,f2⟩:=g2;exact⟨b,us,eb,fsm _ _ f1,f2.mono fsm⟩
     | lk=>trivial
     | sc ns=>obtain⟨b,eb,f1⟩:=g2;exact⟨b,eb,qG fsm f1⟩
     | fd kvs=>obtain⟨b,us,eb,f1,f2⟩:=g2;exact⟨b,us,eb,fsm _ _ f1,I0.mapP f2 fun _ _ z=>⟨z.1,z.2.mono fsm⟩⟩
     | fw kvs=>obtain⟨b,us,o,eb,f1,f2⟩:=g2;exact⟨b,us,o,eb,fsm _ _ f1,I0.mapP f2 fun _ _ z=>⟨z.1,z.2.mono fsm⟩⟩
     | ft kvs=>obtain⟨b,us,o,eb,f1,f2⟩:=g2;exact⟨b,us,o,eb,fsm _ _ f1,I0.mapP f2 fun _ _ z=>⟨z.1,z.2.mono fsm⟩⟩
     | xc _ _=>obtain⟨b,dx,us,C,eb,n,f1,f3,f2⟩:=g2;exact⟨b,dx,us,C,eb,n,fsm _ _ f1,fsm _ _ f3,I0.mapP f2 fun _ _ z=>⟨z.1,z.2.mono fsm⟩⟩
     | dp _ _=>obtain⟨c,b,us,u,o,eb,f1,f3,f2,z⟩:=g2;exact⟨c,b,us,u,o,eb,fsm _ _ f1,fsm _ _ f3,I0.mapP f2 fun _ _ z=>⟨z.1,z.2.mono fsm⟩,z.mono fsm⟩
 · have nd:∀(j:Nat)(y:W),(ρ.set i (some (W.d (.list xs))))[j]?=some (some y)->y.own=true->ρ[j]?=some (some y):=fun j y z o=>by
     by_cases hj:i=j
     · subst hj
       rw[Ib hi]at z
       cases z
       cases o
     · rw[HU hj]at z
       exact z
   exact r.ap j k ys zs u hjk (nd j ys e1 w1) (nd k zs e2 w2) w1 w2 s1 s2
 · rw[IV]at z
   split at z
   · first|cases z|(split at z<;>cases z)
   · exact r.np j ys z
end
abbrev TV:=En->(W->Prop)->Prop
abbrev TB:=En->(Bool->Prop)->Prop
abbrev Ge:=En->(List W->Prop)->Prop
abbrev gf(K:W.Frag)(rl:RlT)(F H:Hp):List V->List W->Prop:=I0 (dA K rl F H)
noncomputable def PV(X:Cx)(rl:RlT)(e:Expr)(f:TV):Prop:=∃t,PE X e t/\∀{F₀ H₀ F H:Hp}{σ:St}{ρ:En},VR X.K rl F₀ H₀ F H σ ρ->∀(Qd:W->Prop)(Q:VK),f ρ Qd ->
 (∀v w F' H',Grow rl F H F' H'->dA X.K rl F' H' v w->dS H v w->Qd w->Q v H')->t σ H Q
noncomputable def PB(X:Cx)(rl:RlT)(e:Expr)(f:TB):Prop:=∃t,PT X e t/\∀{F₀ H₀ F H:Hp}{σ:St}{ρ:En},VR X.K rl F₀ H₀ F H σ ρ->∀(Qd:Bool->Prop)(Q:Bool->Hp->Prop),f ρ Qd ->
 (∀b F' H',Grow rl F H F' H'->Qd b->Q b H')->t σ H Q
noncomputable def Gx(X:Cx)(rl:RlT)(es:List Expr)(f:Ge):Prop:=∃t,PA X es t/\∀{F₀ H₀ F H:Hp}{σ:St}{ρ:En},VR X.K rl F₀ H₀ F H σ ρ->∀(Qd:List W->Prop)(Q:List V->Hp->Prop),f ρ Qd ->
 (∀vs ws F' H',Grow rl F H F' H'->gf X.K rl F' H' vs ws->Qd ws->Q vs H')->t σ H Q
noncomputable def W.fz:W->W
 | .ml xs=>.d (.list xs)
 | .nt ds=>.d (.tuple ds)
 | w=>w
theorem dA.fz{K:W.Frag}{rl:RlT}{F1 H1:Hp}{w:W}(g:Grow rl F H F1 H1)(r:dA K rl F1 H1 v w)(n:dS H v w):∃F2,Grow rl F H F2 H1/\bH F1 F2/\dA K rl F2 H1 v w.fz:=by
 cases w with
 | d x=>exact⟨F1,g,.refl _,r⟩
 | pk xs=>exact⟨F1,g,.refl _,r⟩
 | reel=>exact⟨F1,g,.refl _,r⟩
 | vv u=>exact⟨F1,g,.refl _,r⟩
 | md u=>exact⟨F1,g,.refl _,r⟩
 | mk u=>exact⟨F1,g,.refl _,r⟩
 | lk=>exact⟨F1,g,.refl _,r⟩
 | sc _=>exact⟨F1,g,.refl _,r⟩
 | fd _=>exact⟨F1,g,.refl _,r⟩
 | fw _=>exact⟨F1,g,.refl _,r⟩
 | ft _=>exact⟨F1,g,.refl _,r⟩
 | xc _ _=>exact⟨F1,g,.refl _,r⟩
 | dp _ _=>exact⟨F1,g,.refl _,r⟩
 | nt ds=>obtain⟨a,vs,rfl,h,q⟩:=r;exact⟨F1,g,.refl _,.tup (.inl (.inl h)) q⟩
 | ml xs =>
   obtain⟨a,vs,rfl,f,hr,hh,q⟩:=(show gt K rl F1 H1 v xs from r)
   have neF:∀b u,F1 b=some u->b≠a:=fun b u q z=>by subst z;rw[f]at q;cases q
   have fsm:bH F1 (D9 F1 a (.lst vs)):=fun b u z=>by rw[aq (neF b u z)];exact z
   exact⟨D9 F1 a (.lst vs),g.freeze (n a rfl) hh f hr,fsm,.lst az (q.mono fsm)⟩
section
variable{X:Cx}{rl:RlT}{a b e:Expr}{es:List Expr}{fa fb fc:TV}{fs:Ge}{pos p:Pos}
noncomputable def vC(x:Hg):TV:=fun _ Q=>Q (.d x)
theorem fx{x:Hg}(h:PE X e (tC v))(r:∀F,Rep X.K F v x):PV X rl e (vC x) :=
 ⟨_,h,fun R Qd Q q k=>k v (.d x) _ _ (Grow.refl R.sub R.reel) (r _) trivial q⟩
theorem af{i:Int}{j pos}:PV X rl (.Constant (.int i) j pos) (vC (.int i)):=fx lj fun _=>.int i
theorem mF{i:Bool}{j pos}:PV X rl (.Constant (.bool i) j pos) (vC (.bool i)):=fx AH fun _=>.bl i
theorem bG{j pos}:PV X rl (.Constant (.str x) j pos) (vC (.str x)):=fx dj fun _=>.str x
theorem uO{pos:Pos}(hm:X.mg x=some u)(r:RelV v u)(h:∀F,Rep X.K F v d)(hg:Gl X x:=by rfl)(hd:(x==("__debug__" : Str))=false:=by decide):PV X rl (.Name x pos) (vC d) :=
 fx (u8 hg hm r hd) h
noncomputable def ue(i:Nat):TV:=fun ρ Q=>∃w,ρ[i]?=some (some w)/\Q w.peek
theorem vn(i:Nat){pos:Pos}(hN:X.N[i]?=some x:=by rfl)(hv:F0 X.env.scope x:=by first|exact Jy rfl|exact IK (Jy rfl)|exact IK (IK rfl))(hd:(x==("__debug__" : Str))=false:=by decide)
 (hcd:(x==("__classdict__" : Str))=false:=by decide):PV X rl (.Name x pos) (ue i) :=
 ⟨_,cx hN hv hd hcd,fun R Qd Q ⟨w,e,q⟩ k=>by
  obtain⟨v,e1,r,_⟩:=R.sl i w e
  refine⟨v,e1,k v w.peek _ _ (Grow.refl R.sub R.reel) r.peek ?_ q⟩
  cases w<;>trivial⟩
noncomputable def sC:Ge:=fun _ Q=>Q []
noncomputable def iY(f:TV)(fs:Ge):Ge:=fun ρ Q=>f ρ fun w=>fs ρ fun ws=>Q (w.fz::ws)
theorem ac:Gx X rl [] sC:=⟨_,jk,fun R Qd Q q k=>k [] [] _ _ (Grow.refl R.sub R.reel) .nil q⟩
theorem aa(h1:PV X rl e fa)(h2:Gx X rl es fs)(hs:Hy (e::es) X.env=(false,eval e X.env)::Hy es X.env:=by rfl):Gx X rl (e::es) (iY fa fs):=by
 obtain⟨t,p1,k1⟩:=h1
 obtain⟨ts,p2,k2⟩:=h2
 refine⟨_,dO p1 p2 hs,fun R Qd Q q k=>?_⟩
 refine k1 R _ _ q fun v w F1 H1 g1 r1 n1 q1=>?_
 obtain⟨F2,g2,s2,r2⟩:=dA.fz g1 r1 n1
 refine k2 (R.grow g2) _ _ q1 fun vs ws F3 H3 g3 r3 q3=>?_
 exact k (v::vs) (w.fz::ws) F3 H3 (g2.trans g3) (.cons (r2.grow g3) r3) q3
noncomputable def F_(X:Cx)(rl:RlT)(r:R2)(g:W->W->(W->Prop)->Prop):Prop:=∀{F H:Hp}{x y:V}{wx wy:W}(Qd:W->Prop)(Q:VK),bH F H->Gu rl F H->dA X.K rl F H x wx->dA X.K rl F H y wy->g wx wy Qd ->
 (∀v w F' H',Grow rl F H F' H'->dA X.K rl F' H' v w->dS H v w->Qd w->Q v H')->r x y H Q
noncomputable def D7(g:W->W->(W->Prop)->Prop)(fa fb:TV):TV:=fun ρ Q=>fa ρ fun x=>fb ρ fun y=>g x y Q
theorem m7{r:R2}{g:W->W->(W->Prop)->Prop}(vo:F_ X rl r g)(ha:PV X rl a fa)(hb:PV X rl b fb){e:Expr}(hp:∀ta tb,PE X a ta->PE X b tb->PE X e (Ek r ta tb)):PV X rl e (D7 g fa fb):=by
 obtain⟨ta,p1,k1⟩:=ha
 obtain⟨tb,p2,k2⟩:=hb
 refine⟨_,hp ta tb p1 p2,fun R Qd Q q k=>?_⟩
 refine k1 R _ _ q fun v w F1 H1 g1 r1 n1 q1=>?_
 refine k2 (R.grow g1) _ _ q1 fun v2 w2 F2 H2 g2 r2 n2 q2=>?_
 exact vo Qd Q g2.sub g2.reel (r1.grow g2) r2 q2 fun v3 w3 F3 H3 g3 r3 n3 q3=>k v3 w3 F3 H3 ((g1.trans g2).trans g3) r3 (by
  cases w3 with
  | ml xs=>exact fun a ea=>g1.freeB (g2.freeB (n3 a ea))
  | md xs=>exact fun a ea=>g1.freeB (g2.freeB (n3 a ea))
  | mk xs=>exact fun a ea=>g1.freeB (g2.freeB (n3 a ea))
  | nt _=>trivial
  | lk=>trivial
  | sc _=>trivial
  | fd _=>trivial
  | fw _=>trivial
  | ft _=>trivial
  | xc _ _=>trivial
  | dp _ _=>trivial
  | d _=>trivial
  | pk _=>trivial
  | reel=>trivial
  | vv _=>trivial) q3
theorem iq{op:Nz}{r:R2}{g:W->W->(W->Prop)->Prop}(ho:GK X (Ku op) r)(vo:F_ X rl r g)(ha:PV X rl a fa)(hb:PV X rl b fb):PV X rl (.BinOp a op b pos) (D7 g fa fb) :=
 m7 vo ha hb fun _ _ p1 p2=>AG ho p1 p2
noncomputable def gI(C:Int->Int->Prop)(g:Int->Int->Hg):W->W->(W->Prop)->Prop:=fun x y Q=>∃i j,x = .d (.int i)/\y = .d (.int j)/\C i j/\Q (.d (g i j))
theorem aT{K:W.Frag}{i:Int}(h:Rep K F v (.int i)):v = .int i:=by cases h;rfl
theorem gU{C:Int->Int->Prop}{g:Int->Int->V}{gd:Int->Int->Hg}(h:∀K F i j,Rep K F (g i j) (gd i j)):F_ X rl (rI C g) (gI C gd):=fun{F H x y wx wy} Qd Q s ra r1 r2 q k=>by
 obtain⟨i,j,rfl,rfl,c,q⟩:=q
 exact⟨i,j,aT r1,aT r2,c,k _ (.d _) _ _ (Grow.refl s ra) (h _ _ i j) trivial q⟩
noncomputable def FO(g:Int->Int->Hg):W->W->(W->Prop)->Prop:=fun x y Q=>∃i j,x = .d (.int i)/\y = .d (.int j)/\Q (.d (g i j))
theorem dB{g:Int->Int->V}{gd:Int->Int->Hg}(h:∀K F i j,Rep K F (g i j) (gd i j)):F_ X rl (EN g) (FO gd):=fun{F H x y wx wy} Qd Q s ra r1 r2 q k=>by
 obtain⟨i,j,rfl,rfl,q⟩:=q
 exact⟨i,j,aT r1,aT r2,k _ (.d _) _ _ (Grow.refl s ra) (h _ _ i j) trivial q⟩
theorem v_add(ha:PV X rl a fa)(hb:PV X rl b fb):PV X rl (.BinOp a .Add b pos) (D7 (FO fun i j=>.int (i+j)) fa fb):=iq yp (dB fun _ _ _ _=>.int _) ha hb
theorem v_sub(ha:PV X rl a fa)(hb:PV X rl b fb):PV X rl (.BinOp a .Sub b pos) (D7 (FO fun i j=>.int (i-j)) fa fb):=iq yl (dB fun _ _ _ _=>.int _) ha hb
noncomputable def G9(i:Int):Prop:=i.natAbs<2^60000
theorem G9.bits{i:Int}(h:G9 i):Builtin.Int.intBits i<=60000:=MK.mpr h
noncomputable def bh(i j:Int):Prop:=i.natAbs<2^64\/j.natAbs<2^64\/(G9 i/\G9 j)
theorem bh.lt{i j:Int}(h:i.natAbs<2^64):bh i j:=.inl h
theorem bh.rt{i j:Int}(h:j.natAbs<2^64):bh i j:=.inr (.inl h)
theorem bh.bb{i j:Int}(h:G9 i)(h':G9 j):bh i j:=.inr (.inr ⟨h,h'⟩)
theorem bh.ok{i j:Int}(h:bh i j):IntMulOk i j:=by
 rcases h with h|h|h
 · exact .of_left (MK.mpr h)
 · exact .of_right (MK.mpr h)
 · exact IntMulOk.of_le h.1.bits h.2.bits (by decide)
theorem va:GK X (Ku .Mult) (rI bh fun i j=>.int (i*j)):=EX fun _ _ _ _ _ _ _ hc q=>mul_int q hc.ok
theorem v_mul(ha:PV X rl a fa)(hb:PV X rl b fb):PV X rl (.BinOp a .Mult b pos) (D7 (gI bh fun i j=>.int (i*j)) fa fb):=iq va (gU fun _ _ _ _=>.int _) ha hb
noncomputable def eO(_ j:Int):Prop:=j≠0/\j.natAbs<2^9000
theorem qV:GK X (Ku .FloorDiv) (rI eO fun i j=>.int (i.fdiv j)):=EX fun _ j _ _ _ _ _ hc q=>floordiv_int hc.1 q (.inl (PyProof.noPylong_of_log2 ((Nat.log2_lt (by have:=hc.1;omega)).mpr hc.2)))
theorem v_div(ha:PV X rl a fa)(hb:PV X rl b fb):PV X rl (.BinOp a .FloorDiv b pos) (D7 (gI eO fun i j=>.int (i.fdiv j)) fa fb):=iq qV (gU fun _ _ _ _=>.int _) ha hb
theorem v_mod(ha:PV X rl a fa)(hb:PV X rl b fb):PV X rl (.BinOp a .Mod b pos) (D7 (gI (fun _ j=>j≠0) fun i j=>.int (i.fmod j)) fa fb):=iq vd (gU fun _ _ _ _=>.int _) ha hb
theorem v_pow(ha:PV X rl a fa)(hb:PV X rl b fb):PV X rl (.BinOp a .Pow b pos) (D7 (gI zG fun i j=>.int (i^j.toNat)) fa fb):=iq yn (gU fun _ _ _ _=>.int _) ha hb
noncomputable def zX(fa:TV):TV:=fun ρ Q=>fa ρ fun x=>∃i,x = .d (.int i)/\Q (.d (.int (-i)))
theorem t_(ha:PV X rl a fa):PV X rl (.UnaryOp .USub a pos) (zX fa):=by
 obtain⟨ta,p1,k1⟩:=ha
 refine⟨_,AE xf p1,fun R Qd Q q k=>k1 R _ _ q fun v w F1 H1 g1 r1 n1 ⟨i,ew,q1⟩=>?_⟩
 subst ew
 exact⟨i,aT r1,k _ (.d _) F1 H1 g1 (.int _) trivial q1⟩
theorem fG{op:CmpOp}{r:R2}{g:W->W->(W->Prop)->Prop}(ho:GK X (Kh op) r)(vo:F_ X rl r g)(hm:KQ op b=false)(ha:PV X rl a fa)(hb:PV X rl b fb):PV X rl (.Compare a [op] [b] pos) (D7 g fa fb) :=
 m7 vo ha hb fun _ _ p1 p2=>u9 ho p1 p2 hm
noncomputable def qu(f:TV):TB:=fun ρ Q=>f ρ fun w=>∃k,w = .d (.bool k)/\Q k
theorem fM{K:W.Frag}{i:Bool}(h:Rep K F v (.bool i)):v = .bl i:=by cases h;rfl
theorem a_{op:CmpOp}{r:R2}{g:W->W->(W->Prop)->Prop}(ho:GK X (Kh op) r)(vo:F_ X rl r g)(hm:KQ op b=false)(ha:PV X rl a fa)(hb:PV X rl b fb):PB X rl (.Compare a [op] [b] pos) (qu (D7 g fa fb)):=by
 obtain⟨ta,p1,k1⟩:=ha
 obtain⟨tb,p2,k2⟩:=hb
 refine⟨_,uR ho p1 p2 hm,fun R Qd Q q k=>?_⟩
 refine k1 R _ _ q fun v w F1 H1 g1 r1 n1 q1=>?_
 refine k2 (R.grow g1) _ _ q1 fun v2 w2 F2 H2 g2 r2 n2 q2=>?_
 refine vo _ _ g2.sub g2.reel (r1.grow g2) r2 q2 fun v3 w3 F3 H3 g3 r3 n3 ⟨kb,ew,q3⟩=>?_
 subst ew
 exact⟨kb,fM r3,k kb F3 H3 ((g1.trans g2).trans g3) q3⟩
theorem de(ha:PV X rl e fa)(he:∀whole,isTrue e X.env whole=(do let v <- whole;MP e.pos;holding [v] (truthy v)):=by intro _;rfl):PB X rl e (qu fa):=by
 obtain⟨ta,p1,k1⟩:=ha
 refine⟨_,x5 p1 he,fun R Qd Q q k=>k1 R _ _ q fun v w F1 H1 g1 r1 n1 ⟨kb,ew,q1⟩=>?_⟩
 subst ew
 exact⟨kb,fM r1,k kb F1 H1 g1 q1⟩
abbrev zA(p:Int->Int->Bool):=FO fun i j=>.bool (p i j)
theorem lS:F_ X rl (EN fun i j=>.bl (decide (i<j))) (zA fun i j=>decide (i<j)):=dB fun _ _ _ _=>.bl _
theorem zO:F_ X rl (EN fun i j=>.bl (decide (i<=j))) (zA fun i j=>decide (i<=j)):=dB fun _ _ _ _=>.bl _
theorem lT:F_ X rl (EN fun i j=>.bl (decide (j<i))) (zA fun i j=>decide (j<i)):=dB fun _ _ _ _=>.bl _
theorem zQ:F_ X rl (EN fun i j=>.bl (decide (j<=i))) (zA fun i j=>decide (j<=i)):=dB fun _ _ _ _=>.bl _
noncomputable def Av(K:W.Frag)(neg:Bool):R2:=fun x y H Q=>∃dx dy,Rep K H x dx/\Rep K H y dy/\Iv dx=true/\Iv dy=true/\Q (.bl (if neg then !Iq dx dy else Iq dx dy)) H
theorem eV(hu:X.A.units+64<Ni):GK X (Kh .Eq) (Av X.K false):=by
 intro pins s σ H x y v u Q I rx ry ⟨dx,dy,h1,h2,s1,s2,q⟩
 obtain⟨as,a1⟩:=Rep.reads I (.refl H) h1 v rx
 obtain⟨bs,a2⟩:=Rep.reads I (.refl H) h2 u ry
 exact SeqAt.compareEq_shaped a1 a2 s1 s2 hu ⟨.bl _,H,I,rfl,q⟩
theorem jm(hu:X.A.units+64<Ni):GK X (Kh .NotEq) (Av X.K true):=by
 intro pins s σ H x y v u Q I rx ry ⟨dx,dy,h1,h2,s1,s2,q⟩
 obtain⟨as,a1⟩:=Rep.reads I (.refl H) h1 v rx
 obtain⟨bs,a2⟩:=Rep.reads I (.refl H) h2 u ry
 exact SeqAt.compareNe_shaped a1 a2 s1 s2 hu ⟨.bl _,H,I,rfl,q⟩
noncomputable def A7(neg:Bool):W->W->(W->Prop)->Prop:=fun x y Q=>∃dx dy,x.dat=some dx/\y.dat=some dy/\Iv dx=true/\Iv dy=true/\Q (.d (.bool (if neg then !Iq dx dy else Iq dx dy)))
theorem cD{neg:Bool}:F_ X rl (Av X.K neg) (A7 neg):=fun{F H x y wx wy} Qd Q s ra r1 r2 q k=>by
 obtain⟨dx,dy,e1,e2,s1,s2,q⟩:=q
 exact⟨dx,dy,r1.dat s e1,r2.dat s e2,s1,s2,k _ (.d _) _ _ (Grow.refl s ra) (.bl _) trivial q⟩
noncomputable def CG(K:W.Frag)(neg:Bool):R2:=fun x y H Q=>∃dx ys,Rep K H x dx/\(Rep K H y (.list ys)\/Rep K H y (.tuple ys))/\Iv dx=true/\IW ys=true/\Q (.bl (if neg then !(ys.any fun z=>Iq z dx)else ys.any fun z=>Iq z dx)) H
theorem pE{ys:List Hg}(hu:A.units+65<Ni)(h:Iv d=true):A.units+1+min (Jp ys) d.depth<Ni:=by
 have h1:=SeqAt.depth_of_shaped h
 have h2:min (Jp ys) d.depth<=d.depth:=Nat.min_le_right _ _
 omega
theorem sU(hu:X.A.units+65<Ni):GK X (Kh .In) (CG X.K false):=by
 intro pins s σ H x y v u Q I rx ry ⟨dx,ys,h1,h2,s1,s2,q⟩
 obtain⟨as,a1⟩:=Rep.reads I (.refl H) h1 v rx
 rcases h2 with h2|h2
 · obtain⟨bs,a2⟩:=Rep.reads I (.refl H) h2 u ry
   exact SeqAt.in_list_reads a2 a1 s2 (Mh s1) (pE hu s1) ⟨.bl _,H,I,rfl,q⟩
 · obtain⟨bs,a2⟩:=Rep.reads I (.refl H) h2 u ry
   exact SeqAt.in_tuple_reads a2 a1 s2 (Mh s1) (pE hu s1) ⟨.bl _,H,I,rfl,q⟩
noncomputable def A6(neg:Bool):W->W->(W->Prop)->Prop:=fun x y Q=>∃dx ys,x.dat=some dx/\(y.dat=some (.list ys)\/y.dat=some (.tuple ys))/\Iv dx=true/\IW ys=true/\Q (.d (.bool (if neg then !(ys.any fun z=>Iq z dx)else ys.any fun z=>Iq z dx)))
theorem sv{neg:Bool}:F_ X rl (CG X.K neg) (A6 neg):=fun{F H x y wx wy} Qd Q s ra r1 r2 q k=>by
 obtain⟨dx,ys,e1,e2,s1,s2,q⟩:=q
 exact⟨dx,ys,r1.dat s e1,e2.imp (fun e=>r2.dat s e) (fun e=>r2.dat s e),s1,s2,k _ (.d _) _ _ (Grow.refl s ra) (.bl _) trivial q⟩
noncomputable def Aa(f g:TB):TB:=fun ρ Q=>f ρ fun b=>if b=true then g ρ Q else Q false
noncomputable def Cu(f:TB):TB:=fun ρ Q=>f ρ fun b=>Q (!b)
noncomputable def GJ(X:Cx)(rl:RlT)(e:Expr)(f:TB):Prop:=∃t,PW X e t/\∀{F₀ H₀ F H:Hp}{σ:St}{ρ:En},VR X.K rl F₀ H₀ F H σ ρ->∀(Qd:Bool->Prop)(Q:Bool->Hp->Prop),f ρ Qd ->
 (∀b F' H',Grow rl F H F' H'->Qd b->Q b H')->t σ H Q
variable{f g:TB}{rest:List Expr}
theorem GJ.pb(h:GJ X rl e f):PB X rl e f:=let ⟨t,p,k⟩:=h;⟨t,p.pt,k⟩
theorem ng(ha:PB X rl a f):GJ X rl (.BoolOp .And [a] pos) f:=let ⟨t,p,k⟩:=ha;⟨t,uN p,k⟩
theorem sy(ha:PB X rl a f)(hb:GJ X rl (.BoolOp .And (b::rest) pos) g):GJ X rl (.BoolOp .And (a::b::rest) pos) (Aa f g):=by
 obtain⟨t,p,k⟩:=ha
 obtain⟨t2,p2,k2⟩:=hb
 refine⟨_,xZ p p2,fun R Qd Q q h=>k R _ _ q fun c F1 H1 g1 q1=>?_⟩
 cases c with
 | true=>exact k2 (R.grow g1) _ _ q1 fun c F2 H2 g2 q2=>h c F2 H2 (g1.trans g2) q2
 | false=>exact h false F1 H1 g1 q1
theorem kW(ha:PB X rl a f):PB X rl (.UnaryOp .Not a pos) (Cu f):=by
 obtain⟨t,p,k⟩:=ha
 exact⟨_,x6 p,fun R Qd Q q h=>k R _ _ q fun c F1 H1 g1 q1=>h (!c) F1 H1 g1 q1⟩
noncomputable def uh(fa fb:TV):TV:=fun ρ Q=>fa ρ fun w=>∃c,w = .d (.bool c)/\if c=true then fb ρ Q else Q (.d (.bool false))
noncomputable def zW(fa fb:TV):TV:=fun ρ Q=>fa ρ fun w=>∃c,w = .d (.bool c)/\if c=true then Q (.d (.bool true))else fb ρ Q
noncomputable def uf(fa:TV):TV:=fun ρ Q=>fa ρ fun w=>∃c,w = .d (.bool c)/\Q (.d (.bool (!c)))
theorem dS.back{rl:RlT}{w:W}(g:Grow rl F H F' H')(n:dS H' v w):dS H v w:=by
 cases w with
 | ml xs=>exact fun a ea=>g.freeB (n a ea)
 | md xs=>exact fun a ea=>g.freeB (n a ea)
 | mk xs=>exact fun a ea=>g.freeB (n a ea)
 | nt _=>trivial
 | lk=>trivial
 | sc _=>trivial
 | fd _=>trivial
 | fw _=>trivial
 | ft _=>trivial
 | xc _ _=>trivial
 | dp _ _=>trivial
 | d _=>trivial
 | pk _=>trivial
 | reel=>trivial
 | vv _=>trivial
theorem qr{op}(ha:PV X rl a fa):PV X rl (.BoolOp op [a] pos) fa:=let ⟨t,p,k⟩:=ha;⟨t,yg p,k⟩
theorem v_and(ha:PV X rl a fa)(hb:PV X rl (.BoolOp .And (b::rest) pos) fb):PV X rl (.BoolOp .And (a::b::rest) pos) (uh fa fb):=by
 obtain⟨t,p,k⟩:=ha
 obtain⟨t2,p2,k2⟩:=hb
 refine⟨_,yj p p2,fun R Qd Q q h=>k R _ _ q fun v w F1 H1 g1 r1 n1 ⟨c,ew,q1⟩=>?_⟩
 subst ew
 refine⟨c,fM r1,?_⟩
 cases c with
 | true=>exact k2 (R.grow g1) _ _ q1 fun v w F2 H2 g2 r2 n2 q2=>h v w F2 H2 (g1.trans g2) r2 (n2.back g1) q2
 | false=>exact h _ (.d _) F1 H1 g1 (.bl false) trivial q1
theorem v_or(ha:PV X rl a fa)(hb:PV X rl (.BoolOp .Or (b::rest) pos) fb):PV X rl (.BoolOp .Or (a::b::rest) pos) (zW fa fb):=by
 obtain⟨t,p,k⟩:=ha
 obtain⟨t2,p2,k2⟩:=hb
 refine⟨_,AF p p2,fun R Qd Q q h=>k R _ _ q fun v w F1 H1 g1 r1 n1 ⟨c,ew,q1⟩=>?_⟩
 subst ew
 refine⟨c,fM r1,?_⟩
 cases c with
 | false=>exact k2 (R.grow g1) _ _ q1 fun v w F2 H2 g2 r2 n2 q2=>h v w F2 H2 (g1.trans g2) r2 (n2.back g1) q2
 | true=>exact h _ (.d _) F1 H1 g1 (.bl true) trivial q1
theorem v_not(ha:PV X rl a fa):PV X rl (.UnaryOp .Not a pos) (uf fa):=by
 obtain⟨t,p,k⟩:=ha
 refine⟨_,yh p,fun R Qd Q q h=>k R _ _ q fun v w F1 H1 g1 r1 n1 ⟨c,ew,q1⟩=>?_⟩
 subst ew
 exact⟨c,fM r1,h _ (.d _) F1 H1 g1 (.bl _) trivial q1⟩
noncomputable def D8(t:TB)(fa fb:TV):TV:=fun ρ Q=>t ρ fun c=>if c=true then fa ρ Q else fb ρ Q
theorem hC(hc:PB X rl c f)(ha:PV X rl a fa)(hb:PV X rl b fb):PV X rl (.IfExp c a b pos) (D8 f fa fb):=by
 obtain⟨t,p,k⟩:=hc
 obtain⟨t1,p1,k1⟩:=ha
 obtain⟨t2,p2,k2⟩:=hb
 refine⟨_,qR p p1 p2,fun R Qd Q q h=>k R _ _ q fun c F1 H1 g1 q1=>?_⟩
 cases c with
 | true=>exact k1 (R.grow g1) _ _ q1 fun v w F2 H2 g2 r2 n2 q2=>h v w F2 H2 (g1.trans g2) r2 (n2.back g1) q2
 | false=>exact k2 (R.grow g1) _ _ q1 fun v w F2 H2 g2 r2 n2 q2=>h v w F2 H2 (g1.trans g2) r2 (n2.back g1) q2
noncomputable def gi:List W->Option (List Hg)
 | []=>some []
 | .d x::r=>(gi r).map (x :: ·)
 | _::_=>none
theorem cV{K:W.Frag}{F H:Hp}:∀{vs:List V}{ws:List W}{ds:List Hg},gf K rl F H vs ws->gi ws=some ds->Reps K F vs ds
 | _,_,_,.nil,e=>by cases e;exact .nil
 | _,.d x::ws,ds,.cons r rs,e=>by
   have e:(gi ws).map (x :: ·)=some ds:=e
   cases q:gi ws with
   | none=>rw[q]at e;cases e
   | some es=>rw[q]at e;cases e;exact .cons r (cV rs q)
 | _,.ml x::ws,ds,.cons r rs,e=>by cases(show none=some ds from e)
 | _,.pk x::ws,ds,.cons r rs,e=>by cases(show none=some ds from e)
 | _,.reel::ws,ds,.cons r rs,e=>by cases(show none=some ds from e)
 | _,.vv u::ws,ds,.cons r rs,e=>by cases(show none=some ds from e)
 | _,.md u::ws,ds,.cons r rs,e=>by cases(show none=some ds from e)
 | _,.nt u::ws,ds,.cons r rs,e=>by cases(show none=some ds from e)
 | _,.lk::ws,ds,.cons r rs,e=>by cases(show none=some ds from e)
 | _,.sc _::ws,ds,.cons r rs,e=>by cases(show none=some ds from e)
 | _,.fd _::ws,ds,.cons r rs,e=>by cases(show none=some ds from e)
 | _,.xc _ _::ws,ds,.cons r rs,e=>by cases(show none=some ds from e)
 | _,.mk _::ws,ds,.cons r rs,e=>by cases(show none=some ds from e)
 | _,.fw _::ws,ds,.cons r rs,e=>by cases(show none=some ds from e)
 | _,.ft _::ws,ds,.cons r rs,e=>by cases(show none=some ds from e)
 | _,.dp _ _::ws,ds,.cons r rs,e=>by cases(show none=some ds from e)
noncomputable def zT(fs:Ge):TV:=fun ρ Q=>fs ρ fun ws=>∃ds,gi ws=some ds/\ds.length<=sizeLine/\Q (.d (.tuple ds))
noncomputable def zm(fs:Ge):TV:=fun ρ Q=>fs ρ fun ws=>∃ds,gi ws=some ds/\ds.length<=sizeLine/\Q (.ml ds)
theorem cE{x1}(h:Gx X rl es fs):PV X rl (.Tuple es x1 pos) (zT fs):=by
 obtain⟨t,p,k⟩:=h
 refine⟨_,yf p,fun R Qd Q q h=>k R _ _ q fun vs ws F1 H1 g1 r1 ⟨ds,e1,z,q1⟩=>?_⟩
 have rs:=cV r1 e1
 refine⟨by rw[rs.length];exact z,fun p hp=>?_⟩
 have g2:=g1.trans (Grow.data (a:=p) (o:=.tup vs) g1.sub g1.reel hp)
 exact h _ (.d (.tuple ds)) _ _ g2 (.tup (.inl (.inl az)) (rs.mono (Grow.data (o:=.tup vs) g1.sub g1.reel hp).fs)) trivial q1
theorem cA{K:W.Frag}{p:Addr}{ds:List Hg}(s:bH F H)(ra:Gu rl F H)(hp:H p=none)(rs:Reps K F vs ds):gt K rl F (D9 H p (.lst vs)) (.ref p) ds:=by
 refine⟨p,vs,rfl,s.free hp,fun e=>?_,az,rs⟩
 obtain⟨o,q⟩:=ra.live e
 rw[hp]at q
 cases q
theorem cJ(h:Gx X rl es fs):PV X rl (.List es pos) (zm fs):=by
 obtain⟨t,p,k⟩:=h
 refine⟨_,yi p,fun R Qd Q q h=>k R _ _ q fun vs ws F1 H1 g1 r1 ⟨ds,e1,z,q1⟩=>?_⟩
 have rs:=cV r1 e1
 refine⟨by rw[rs.length];exact z,fun p hp=>?_⟩
 exact h _ (.ml ds) _ _ (g1.trans (Grow.laid (a:=p) (o:=.lst vs) g1.sub g1.reel hp)) (cA g1.sub g1.reel hp rs) (fun a ea=>by cases ea;exact g1.freeB hp) q1
noncomputable def itemAt:Hg->Int->Option Hg
 | .list xs,i=>atI xs i
 | .tuple xs,i=>atI xs i
 | _,_=>none
theorem Reps.atI{K:W.Frag}{F:Hp}{vs:List V}{ds:List Hg}{i:Int}{d:Hg}(r:Reps K F vs ds)(e:L2.atI ds i=some d):∃v,L2.atI vs i=some v/\Rep K F v d:=by
 unfold L2.atI at e ⊢
 rw[r.length]
 cases q:ixN ds.length i with
 | none=>rw[q]at e;cases e
 | some j =>
   rw[q]at e
   exact r.get e
noncomputable def FM:W->W->(W->Prop)->Prop:=fun x y Q=>∃dx i z,x.dat=some dx/\y = .d (.int i)/\itemAt dx i=some z/\Q (.d z)
theorem zP:F_ X rl (EM X.K) FM:=fun{F H x y wx wy} Qd Q s ra r1 r2 q k=>by
 obtain⟨dx,i,z,e1,rfl,e3,q⟩:=q
 have ey:=aT r2
 subst ey
 cases dx with
 | list xs =>
   obtain⟨a,vs,rfl,sq,rs⟩:=r1.items s e1
   obtain⟨v,e4,rz⟩:=Reps.atI rs e3
   exact .inl ⟨a,vs,i,v,rfl,rfl,sq,e4,k _ (.d _) _ _ (Grow.refl s ra) rz trivial q⟩
 | tuple xs =>
   obtain⟨a,vs,rfl,sq,rs⟩:=r1.itemsT s e1
   obtain⟨v,e4,rz⟩:=Reps.atI rs e3
   exact .inr (.inl ⟨a,vs,i,v,rfl,rfl,sq,e4,k _ (.d _) _ _ (Grow.refl s ra) rz trivial q⟩)
 | none=>cases e3
 | bool b=>cases e3
 | int b=>cases e3
 | str b=>cases e3
 | dict b=>cases e3
theorem bR(ha:PV X rl a fa)(hb:PV X rl b fb)(hs:iV b:=by exact fun _ _=>rfl):PV X rl (.Subscript a b pos) (D7 FM fa fb):=m7 zP ha hb fun _ _ p1 p2=>u7 pA p1 p2 hs
noncomputable def iU(X:Cx)(rl:RlT)(r:List V->Hp->VK->Prop)(g:List W->(W->Prop)->Prop):Prop:=∀{F H:Hp}{vs:List V}{ws:List W}(Qd:W->Prop)(Q:VK),bH F H->Gu rl F H->gf X.K rl F H vs ws->g ws Qd ->
 (∀v w F' H',Grow rl F H F' H'->dA X.K rl F' H' v w->dS H v w->Qd w->Q v H')->r vs H Q
noncomputable def fH(g:List W->(W->Prop)->Prop)(fs:Ge):TV:=fun ρ Q=>fs ρ fun ws=>g ws Q
theorem kU{r:List V->Hp->VK->Prop}{g:List W->(W->Prop)->Prop}{t:TA->TE}(vc:iU X rl r g)(ha:Gx X rl es fs){e:Expr}(hp:∀ta,PA X es ta->PE X e (Ep r ta)):PV X rl e (fH g fs):=by
 obtain⟨ta,p1,k1⟩:=ha
 refine⟨_,hp ta p1,fun R Qd Q q k=>k1 R _ _ q fun vs ws F1 H1 g1 r1 q1=>?_⟩
 exact vc Qd Q g1.sub g1.reel r1 q1 fun v w F2 H2 g2 r2 n2 q2=>k v w F2 H2 (g1.trans g2) r2 (n2.back g1) q2
theorem hJ{id:String}{r:List V->Hp->VK->Prop}{g:List W->(W->Prop)->Prop}(hc:gh X (.builtin id) r)(vc:iU X rl r g)(hm:X.mg x=none)(hv:KH x=some (.builtin id))(ha:Gx X rl (e::es) fs)(hg:Gl X x:=by rfl)(hn:x ≠ "__name__" := by decide)(hdb:(x==("__debug__" : Str))=false:=by decide)
 (he:Hy (e::es) X.env=(false,eval e X.env)::Hy es X.env:=by rfl)(hpl:(Je pos (Hy es X.env)).any (·.1)=false:=by rfl):PV X rl (.Call (.Name x p) (e::es) [] pos) (fH g fs) :=
 kU (t:=fun _=>tC .non) vc ha fun _ p1=>qT hc hg hm hv p1 hn hdb he hpl
theorem hG{T:String}{r:List V->Hp->VK->Prop}{g:List W->(W->Prop)->Prop}(hc:gh X (.type T) r)(vc:iU X rl r g)(hm:X.mg x=none)(hv:KH x=some (.type T))(ha:Gx X rl (e::es) fs)(hg:Gl X x:=by rfl)(hn:x ≠ "__name__" := by decide)(hdb:(x==("__debug__" : Str))=false:=by decide)
 (he:Hy (e::es) X.env=(false,eval e X.env)::Hy es X.env:=by rfl)(hpl:(Je pos (Hy es X.env)).any (·.1)=false:=by rfl):PV X rl (.Call (.Name x p) (e::es) [] pos) (fH g fs) :=
 kU (t:=fun _=>tC .non) vc ha fun _ p1=>oN hc hg hm hv p1 hn hdb he hpl
theorem qg{K:W.Frag}{w:W}(r:gf K rl F H vs [w]):∃v,vs=[v]/\dA K rl F H v w:=by
 cases r with
 | cons r1 r2=>cases r2;exact⟨_,rfl,r1⟩
theorem CA{K:W.Frag}{w w':W}(r:gf K rl F H vs [w,w']):∃v u,vs=[v,u]/\dA K rl F H v w/\dA K rl F H u w':=by
 cases r with
 | cons r1 r2 =>
   cases r2 with
   | cons r3 r4=>cases r4;exact⟨_,_,rfl,r1,r3⟩
noncomputable def zC:List W->(W->Prop)->Prop:=fun ws Q=>∃i,ws=[.d (.int i)]/\Q (.d (.int (if i<0 then -i else i)))
theorem wP:iU X rl (fun xs H Q=>∃i,xs=[.int i]/\Q (.int (if i<0 then -i else i)) H) zC:=fun{F H vs ws} Qd Q s ra r ⟨i,ew,q⟩ k=>by
 subst ew
 obtain⟨v,rfl,r1⟩:=qg r
 have e:=aT r1
 subst e
 exact⟨i,rfl,k _ (.d _) _ _ (Grow.refl s ra) (.int _) trivial q⟩
noncomputable def qh:Hg->Option Nat
 | .list xs=>some xs.length
 | .tuple xs=>some xs.length
 | _=>none
noncomputable def zw:List W->(W->Prop)->Prop:=fun ws Q=>∃w d n,ws=[w]/\w.dat=some d/\qh d=some n/\Q (.d (.int n))
theorem wO:iU X rl (fun xs H Q=>∃p ys,xs=[.ref p]/\(Go X.K H p ys\/Gm X.K H p ys)/\Q (.int ys.length) H) zw:=fun{F H vs ws} Qd Q s ra r ⟨w,d,n,ew,e1,e2,q⟩ k=>by
 subst ew
 obtain⟨v,rfl,r1⟩:=qg r
 cases d with
 | list xs =>
   obtain⟨a,vs,rfl,sq,rs⟩:=r1.items s e1
   cases e2
   exact⟨a,vs,rfl,.inl sq,k _ (.d _) _ _ (Grow.refl s ra) (by rw[rs.length];exact .int _) trivial q⟩
 | tuple xs =>
   obtain⟨a,vs,rfl,sq,rs⟩:=r1.itemsT s e1
   cases e2
   exact⟨a,vs,rfl,.inr sq,k _ (.d _) _ _ (Grow.refl s ra) (by rw[rs.length];exact .int _) trivial q⟩
 | none=>cases e2
 | bool b=>cases e2
 | int b=>cases e2
 | str b=>cases e2
 | dict b=>cases e2
end
structure VEnds where
 nx:En->Prop
 rt:W->Prop
 bk:En->Prop:=fun _=>False
 ct:En->Prop:=fun _=>False
structure EndsOk (K:W.Frag) (rl:RlT) (F₀ H₀ Fs:Hp) (Dv:VEnds) (D:Ends):Prop where
 nx:∀F H σ ρ,bH Fs F->VR K rl F₀ H₀ F H σ ρ->Dv.nx ρ->D.nx σ H
 rt:∀v w F H,Grow rl F₀ H₀ F H->dA K rl F H v w->dS H₀ v w->Dv.rt w->D.rt v H
 bk:∀F H σ ρ,bH Fs F->VR K rl F₀ H₀ F H σ ρ->Dv.bk ρ->D.bk σ H
 ct:∀F H σ ρ,bH Fs F->VR K rl F₀ H₀ F H σ ρ->Dv.ct ρ->D.ct σ H
theorem EndsOk.on{K:W.Frag}{rl:RlT}{Fs:Hp}{Dv:VEnds}{D:Ends}(ok:EndsOk K rl F₀ H₀ Fs Dv D)(s:bH Fs F):EndsOk K rl F₀ H₀ F Dv D :=
 ⟨fun F1 H σ ρ s1=>ok.nx F1 H σ ρ (s.trans s1),ok.rt,fun F1 H σ ρ s1=>ok.bk F1 H σ ρ (s.trans s1),fun F1 H σ ρ s1=>ok.ct F1 H σ ρ (s.trans s1)⟩
abbrev Gf:=VEnds->En->Prop
noncomputable def GB(X:Cx)(rl:RlT)(st:Stmt)(t:Gf):Prop:=∃T,PS X st T/\∀{F₀ H₀ F H:Hp}{σ:St}{ρ:En},VR X.K rl F₀ H₀ F H σ ρ->∀Dv D,EndsOk X.K rl F₀ H₀ F Dv D->t Dv ρ->T D σ H
noncomputable def lQ(X:Cx)(rl:RlT)(st:List Stmt)(t:Gf):Prop:=∃T,GA X st T/\∀{F₀ H₀ F H:Hp}{σ:St}{ρ:En},VR X.K rl F₀ H₀ F H σ ρ->∀Dv D,EndsOk X.K rl F₀ H₀ F Dv D->t Dv ρ->T D σ H
section
variable{X:Cx}{rl:RlT}{st:Stmt}{rest body:List Stmt}{t u:Gf}{a b c e:Expr}{es:List Expr}{fa fb:TV}{fs:Ge}{f:TB}{pos p:Pos}
noncomputable def wX:Gf:=fun D ρ=>D.nx ρ
noncomputable def Cr(t u:Gf):Gf:=fun D ρ=>t {D with nx:=u D} ρ
theorem br:lQ X rl [] wX:=⟨_,oG,fun R Dv D ok q=>ok.nx _ _ _ _ (.refl _) R q⟩
theorem av(h:GB X rl st t):lQ X rl [st] t:=let ⟨T,p,k⟩:=h;⟨T,oE p,k⟩
theorem ai(h:GB X rl st t)(h2:lQ X rl rest u):lQ X rl (st::rest) (Cr t u):=by
 obtain⟨T,p,k⟩:=h
 obtain⟨T2,p2,k2⟩:=h2
 exact⟨_,fy p p2,fun R Dv D ok q=>k R {Dv with nx:=u Dv} {D with nx:=T2 D} ⟨fun F H σ ρ s' R' q'=>k2 R' Dv D (ok.on s') q',ok.rt,ok.bk,ok.ct⟩ q⟩
noncomputable def Cs(fa:TV):Gf:=fun D ρ=>fa ρ D.rt
theorem aA(h:PV X rl e fa):GB X rl (.Return (some e) pos) (Cs fa):=by
 obtain⟨t,p,k⟩:=h
 exact⟨_,sN p,fun R Dv D ok q=>k R _ _ q fun v w F1 H1 g1 r1 n1 q1=>ok.rt v w F1 H1 (R.g.trans g1) r1 (n1.back R.g) q1⟩
noncomputable def zY(f:TB)(t u:Gf):Gf:=fun D ρ=>f ρ fun b=>if b=true then t D ρ else u D ρ
theorem cg{A B:List Stmt}(hc:PB X rl c f)(ha:lQ X rl A t)(hb:lQ X rl B u):GB X rl (.If c A B pos) (zY f t u):=by
 obtain⟨t0,p0,k0⟩:=hc
 obtain⟨t1,p1,k1⟩:=ha
 obtain⟨t2,p2,k2⟩:=hb
 refine⟨_,AB p0 p1 p2,fun R Dv D ok q=>k0 R _ _ q fun b F1 H1 g1 q1=>?_⟩
 cases b with
 | true=>exact k1 (R.grow g1) Dv D (ok.on g1.fs) q1
 | false=>exact k2 (R.grow g1) Dv D (ok.on g1.fs) q1
theorem gS:GB X rl st (fun _ _=>False):=⟨_,qO,fun _ _ _ _ q=>q.elim⟩
noncomputable def W.isPk:W->Bool
 | .pk _=>true
 | _=>false
noncomputable def zV(i:Nat)(fa:TV):Gf:=fun D ρ=>fa ρ fun w=>w.isPk=false/\D.nx (ρ.set i (some w))
theorem kR(i:Nat)(hN:X.N.Nodup)(he:PV X rl e fa)(hi:X.N[i]?=some x:=by rfl)(hx:Loc X.env.scope x:=by first|exact Jy rfl|exact IK rfl)
 (hs:JE e (some (.Name x pos')) pos.line X.env=pure false:=by rfl)(hf:X.fn x=true\/X.env.scope.names.lookup x=some .local:=by first|exact .inl rfl|exact .inr rfl) :
 GB X rl (.Assign [.Name x pos'] e pos) (zV i fa):=by
 obtain⟨t,p,k⟩:=he
 refine⟨_,fP hN hi hx p hs hf,fun R Dv D ok q=>k R _ _ q fun v w F1 H1 g1 r1 n1 ⟨hp,q1⟩=>?_⟩
 exact ok.nx _ _ _ _ g1.fs (R.set g1 r1 n1 (fun xs z=>by subst z;cases hp) i) q1
noncomputable def jK(ρ:En):Prop:=∀(i:Nat)(w:W),ρ[i]?=some (some w)->w.own=false
theorem jK.set{ρ:En}(h:jK ρ)(i:Nat)(x:Hg):jK (ρ.set i (some (.d x))):=fun j w z=>by
 rw[IV]at z
 split at z
 · split at z
   · cases z;rfl
   · cases z
 · exact h j w z
abbrev Gj:=Hg->En->(En->Prop)->Prop
abbrev ql:=List Hg->En->(En->Prop)->Prop
noncomputable def GI(X:Cx)(rl:RlT)(tg:Expr)(g:Gj):Prop:=∃G,PG X tg G/\∀{F₀ H₀ F H:Hp}{σ:St}{ρ:En},VR X.K rl F₀ H₀ F H σ ρ->∀(v:V)(x:Hg)(Qd:En->Prop)(Q:St->Hp->Prop),Rep X.K F v x->g x ρ Qd ->
 (∀F' H' σ' ρ',Grow rl F H F' H'->(jK ρ->jK ρ')->VR X.K rl F₀ H₀ F' H' σ' ρ'->Qd ρ'->Q σ' H')->G v σ H Q
noncomputable def zE(X:Cx)(rl:RlT)(tgs:List Expr)(g:ql):Prop:=∃G,GH X tgs G/\∀{F₀ H₀ F H:Hp}{σ:St}{ρ:En},VR X.K rl F₀ H₀ F H σ ρ->∀(vs:List V)(xs:List Hg)(Qd:En->Prop)(Q:St->Hp->Prop),Reps X.K F vs xs->g xs ρ Qd ->
 (∀F' H' σ' ρ',Grow rl F H F' H'->(jK ρ->jK ρ')->VR X.K rl F₀ H₀ F' H' σ' ρ'->Qd ρ'->Q σ' H')->G vs σ H Q
noncomputable def rF(i:Nat):Gj:=fun x ρ Q=>Q (ρ.set i (some (.d x)))
theorem ax(i:Nat)(hN:X.N.Nodup)(hi:X.N[i]?=some x:=by rfl)(hx:Loc X.env.scope x:=by first|exact Jy rfl|exact IK rfl)(hf:X.fn x=true\/X.env.scope.names.lookup x=some .local:=by first|exact .inl rfl|exact .inr rfl):GI X rl (.Name x pos) (rF i) :=
 ⟨_,u4 hN hi hx hf,fun R v x Qd Q r q k=>k _ _ _ _ (Grow.refl R.sub R.reel) (fun n=>n.set i x) (R.set (w:=.d x) (Grow.refl R.sub R.reel) r trivial (fun _ z=>by cases z) i) q⟩
noncomputable def A5:ql:=fun xs ρ Q=>xs=[]/\Q ρ
noncomputable def rG(g:Gj)(gs:ql):ql:=fun xs ρ Q=>∃y r,xs=y::r/\g y ρ fun ρ'=>gs r ρ' Q
theorem eG:zE X rl [] A5:=⟨_,u3,fun R vs xs Qd Q r ⟨e,q⟩ k=>by subst e;exact⟨r.nil_iff,k _ _ _ _ (Grow.refl R.sub R.reel) (fun n=>n) R q⟩⟩
theorem aX{g:Gj}{gs:ql}(h1:GI X rl e g)(h2:zE X rl es gs)(hs:(Kj (e::es) X.env).map (·.2)=Kz e X.env::(Kj es X.env).map (·.2):=by rfl):zE X rl (e::es) (rG g gs):=by
 obtain⟨G,p,k⟩:=h1
 obtain⟨G2,p2,k2⟩:=h2
 refine⟨_,qP p p2 hs,fun R vs xs Qd Q r ⟨y,ys,ex,q⟩ h=>?_⟩
 subst ex
 cases r with
 | cons r1 r2 =>
   refine⟨_,_,rfl,k R _ y _ _ r1 q fun F1 H1 σ1 ρ1 s1 n1 R1 q1=>?_⟩
   exact k2 R1 _ ys _ _ (r2.mono s1.fs) q1 fun F2 H2 σ2 ρ2 s2 n2 R2 q2=>h F2 H2 σ2 ρ2 (s1.trans s2) (fun n=>n2 (n1 n)) R2 q2
noncomputable def A4(n:Nat)(gs:ql):Gj:=fun x ρ Q=>∃xs,x = .tuple xs/\xs.length=n/\gs xs ρ Q
theorem gv{kk:Nat}{gs:ql}(hc:X.calm=true)(h:zE X rl es gs)(hn:(Kj es X.env).length=n:=by rfl)(hst:(Kj es X.env).findIdx? (·.1)=none:=by rfl):GI X rl (.Tuple es kk pos) (A4 n gs):=by
 obtain⟨G,p,k⟩:=h
 refine⟨_,ye hc p hn hst,fun R v x Qd Q r ⟨xs,ex,hl,q⟩ h=>?_⟩
 subst ex
 cases r with
 | tup sq rs=>exact⟨_,_,rfl,e9 R.sub sq,by rw[rs.length];exact hl,k R _ xs _ _ rs q h⟩
noncomputable def z_(fa:TV)(g:Gj):Gf:=fun D ρ=>fa ρ fun w=>∃x,w = .d x/\g x ρ D.nx
theorem su{g:Gj}(he:PV X rl e fa)(hg:GI X rl tg g)(hs:L5 [tg] e pos.line X.env=pure false:=by rfl)(hw:L6 [tg] e X.env=pure none:=by rfl)
 (h1:(Kj [tg] X.env).map (·.2)=[Kz tg X.env]:=by rfl):GB X rl (.Assign [tg] e pos) (z_ fa g):=by
 obtain⟨t,p,k⟩:=he
 obtain⟨G,p2,k2⟩:=hg
 refine⟨_,x_ p p2 hs hw h1,fun R Dv D ok q=>k R _ _ q fun v w F1 H1 g1 r1 n1 ⟨x,ew,q1⟩=>?_⟩
 subst ew
 exact k2 (R.grow g1) v x _ _ r1 q1 fun F2 H2 σ2 ρ2 s2 n2 R2 q2=>ok.nx _ _ _ _ (g1.fs.trans s2.fs) R2 q2
noncomputable def Ct(i j:Nat)(fs:Ge):Gf:=fun D ρ=>fs ρ fun ws=>∃x y,gi ws=some [x,y]/\D.nx ((ρ.set i (some (.d x))).set j (some (.d y)))
theorem kS(i j:Nat){y:Str}{py pt:Pos}{kt k2 pt2}(hc:X.calm=true)(hN:X.N.Nodup)(ha:Gx X rl [a,b] fs)
 (hw:L6 [.Tuple [.Name x px,.Name y py] kt pt] (.Tuple [a,b] k2 pt2) X.env=pure (some [x,y]):=by rfl)(hi:X.N[i]?=some x:=by rfl)(hj:X.N[j]?=some y:=by rfl)(hij:i≠j:=by decide)
 (hx:X.env.scope.names.lookup x=some .local:=by rfl)(hy:X.env.scope.names.lookup y=some .local:=by rfl)
 (hs:L5 [.Tuple [.Name x px,.Name y py] kt pt] (.Tuple [a,b] k2 pt2) pos.line X.env=pure false:=by rfl) :
 GB X rl (.Assign [.Tuple [.Name x px,.Name y py] kt pt] (.Tuple [a,b] k2 pt2) pos) (Ct i j fs):=by
 obtain⟨t,p,k⟩:=ha
 refine⟨_,x8 hc hN hi hj hij hx hy p hw hs,fun R Dv D ok q=>k R _ _ q fun vs ws F1 H1 g1 r1 ⟨x,y,e1,q1⟩=>?_⟩
 have rs:=cV r1 e1
 cases rs with
 | cons rx rs =>
   cases rs with
   | cons ry rs =>
     cases rs
     have R1:=(R.grow g1).set (w:=.d x) (Grow.refl g1.sub g1.reel) rx trivial (fun _ z=>by cases z) i
     exact⟨_,_,rfl,ok.nx _ _ _ _ g1.fs (R1.set (w:=.d y) (Grow.refl g1.sub g1.reel) ry trivial (fun _ z=>by cases z) j) q1⟩
structure VIt (K:W.Frag) (rl:RlT) (F:Hp) (J:It) (xs:List Hg):Prop where
 go:∀i H x,xs[i]?=some x->bH F H->J.go i H
 stop:∀i H,xs.length<=i->bH F H->J.stop i H
 yld:∀i H v H' x F2,xs[i]?=some x->bH F F2->bH F2 H->Gu rl F2 H->J.yld i H v H'->∃F3,Grow rl F2 H F3 H'/\Rep K F3 v x
theorem VIt.of{K:W.Frag}{rl:RlT}{J:It}(go:∀i H x,xs[i]?=some x->bH F H->J.go i H)(stop:∀i H,xs.length<=i->bH F H->J.stop i H)
 (yld:∀i H v H' x,xs[i]?=some x->bH F H->J.yld i H v H'->H'=H/\Rep K F v x):VIt K rl F J xs :=
 ⟨go,stop,fun i H v H' x F2 e s s2 ra y=>by
  obtain⟨e1,r⟩:=yld i H v H' x e (s.trans s2) y
  subst e1
  exact⟨F2,Grow.refl s2 ra,r.mono s⟩⟩
noncomputable def GF(X:Cx)(rl:RlT)(tg iter:Expr)(fi:En->(List Hg->Prop)->Prop):Prop:=∃wi,PI X tg iter wi/\∀{F₀ H₀ F H:Hp}{σ:St}{ρ:En},VR X.K rl F₀ H₀ F H σ ρ->∀(Qd:List Hg->Prop)(R:It->Hp->Prop),fi ρ Qd ->
 (∀J xs F' H',Grow rl F H F' H'->VIt X.K rl F' J xs->Qd xs->R J H')->wi σ H R
end
section
variable{X:Cx}{rl:RlT}{st:Stmt}{rest body:List Stmt}{t u:Gf}{a b c e:Expr}{es:List Expr}{fa fb:TV}{fs:Ge}{f:TB}{pos p:Pos}{tg:Expr}
noncomputable def zZ(i:Nat)(t:Gf):Gf:=fun D ρ=>∃xs,ρ[i]?=some (some (.ml xs))/\t D (ρ.set i (some (.d (.list xs))))
theorem rR{K:W.Frag}{ρ:En}(r:VR K rl F₀ H₀ F H σ ρ)(e:ρ[i]?=some (some (.ml xs))):∃F1,bH F F1/\VR K rl F₀ H₀ F1 H σ (ρ.set i (some (.d (.list xs)))):=by
 obtain⟨v,h1,h2,h3⟩:=r.sl i _ e
 obtain⟨a,vs,ev,f,hr,hh,q⟩:=(show gt K rl F H v xs from h2)
 obtain⟨F1,R1⟩:=r.freeze e
 obtain⟨v',k1,k2,k3⟩:=R1.sl i _ (Ib (Ia.mp e).1)
 have neF:∀b u,F b=some u->b≠a:=fun b u q z=>by subst z;rw[f]at q;cases q
 have fsm:bH F (D9 F a (.lst vs)):=fun b u z=>by rw[aq (neF b u z)];exact z
 have hi:i<ρ.length:=(Ia.mp e).1
 refine⟨D9 F a (.lst vs),fsm,r.g.freeze (h3 a ev) hh f hr,fun j w e1=>?_,R1.ap,R1.np,R1.len⟩
 by_cases hj:i=j
 · subst hj
   rw[Ib hi]at e1
   cases e1
   exact⟨v,h1,by rw[ev];exact .lst az (q.mono fsm),trivial⟩
 · rw[HU hj]at e1
   obtain⟨u,g1,g2,g3⟩:=r.sl j w e1
   refine⟨u,g1,?_,g3⟩
   cases w with
   | d x=>exact Rep.mono fsm g2
   | reel=>exact g2
   | vv u=>exact g2
   | ml ys =>
     obtain⟨b,us,eb,f1,f2,f3,f4⟩:=(show gt K rl F H u ys from g2)
     have ne:b≠a:=fun z=>r.ap i j _ _ v hj e e1 rfl rfl h1 (by rw[g1,eb,z,ev])
     exact⟨b,us,eb,by rw[aq ne];exact f1,f2,f3,f4.mono fsm⟩
   | pk ys=>exact absurd e1 (r.np j ys)
   | md ys =>
     obtain⟨b,us,eb,f1,f2,f3,f4⟩:=(show wz K rl F H u ys from g2)
     have ne:b≠a:=fun z=>r.ap i j _ _ v hj e e1 rfl rfl h1 (by rw[g1,eb,z,ev])
     exact⟨b,us,eb,by rw[aq ne];exact f1,f2,f3,I0.mapP f4 fun _ _ z=>⟨z.1,z.2.mono fsm⟩⟩
   | mk ys =>
     obtain⟨b,us,eb,f1,f2,f3,f4⟩:=(show ww K rl F H u ys from g2)
     have ne:b≠a:=fun z=>r.ap i j _ _ v hj e e1 rfl rfl h1 (by rw[g1,eb,z,ev])
     exact⟨b,us,eb,by rw[aq ne];exact f1,f2,f3,I0.mapP f4 fun _ _ z=>⟨z.1,z.2.mono fsm⟩⟩
   | nt ds=>obtain⟨b,us,eb,f1,f2⟩:=g2;exact⟨b,us,eb,fsm _ _ f1,f2.mono fsm⟩
   | lk=>trivial
   | sc ns=>obtain⟨b,eb,f1⟩:=g2;exact⟨b,eb,qG fsm f1⟩
   | fd kvs=>obtain⟨b,us,eb,f1,f2⟩:=g2;exact⟨b,us,eb,fsm _ _ f1,I0.mapP f2 fun _ _ z=>⟨z.1,z.2.mono fsm⟩⟩
   | fw kvs=>obtain⟨b,us,o,eb,f1,f2⟩:=g2;exact⟨b,us,o,eb,fsm _ _ f1,I0.mapP f2 fun _ _ z=>⟨z.1,z.2.mono fsm⟩⟩
   | ft kvs=>obtain⟨b,us,o,eb,f1,f2⟩:=g2;exact⟨b,us,o,eb,fsm _ _ f1,I0.mapP f2 fun _ _ z=>⟨z.1,z.2.mono fsm⟩⟩
   | xc _ _=>obtain⟨b,dx,us,C,eb,n,f1,f3,f2⟩:=g2;exact⟨b,dx,us,C,eb,n,fsm _ _ f1,fsm _ _ f3,I0.mapP f2 fun _ _ z=>⟨z.1,z.2.mono fsm⟩⟩
   | dp _ _=>obtain⟨c,b,us,u,o,eb,f1,f3,f2,z⟩:=g2;exact⟨c,b,us,u,o,eb,fsm _ _ f1,fsm _ _ f3,I0.mapP f2 fun _ _ z=>⟨z.1,z.2.mono fsm⟩,z.mono fsm⟩
theorem wG(i:Nat)(h:GB X rl st t):GB X rl st (zZ i t):=by
 obtain⟨T,p,k⟩:=h
 refine⟨T,p,fun R Dv D ok ⟨xs,e,q⟩=>?_⟩
 obtain⟨F1,s1,R1⟩:=rR R e
 exact k R1 Dv D (ok.on s1) q
noncomputable def iL(fa:TV):En->(List Hg->Prop)->Prop:=fun ρ Q=>fa ρ fun w=>∃xs,w.fz = .d (.list xs)/\Q xs
noncomputable def iT(fa:TV):En->(List Hg->Prop)->Prop:=fun ρ Q=>fa ρ fun w=>∃xs,w.fz = .d (.tuple xs)/\Q xs
theorem bP{l:Expr}(hl:PV X rl l fa):GF X rl tg l (iL fa):=by
 obtain⟨t,p,k⟩:=hl
 refine⟨_,uZ p,fun R Qd Q q h=>k R _ _ q fun v w F1 H1 g1 r1 n1 ⟨xs,ew,q1⟩=>?_⟩
 obtain⟨F2,g2,s2,r2⟩:=dA.fz g1 r1 n1
 rw[ew]at r2
 cases(show Rep X.K F2 v (.list xs)from r2)with
 | @lst a vs _ sq rs =>
   have sqH:∀H,bH F2 H->Go X.K H a vs:=fun H s=>.inl (.inl (s _ _ sq))
   refine⟨a,rfl,⟨vs,sqH H1 g2.sub⟩,h _ xs F2 H1 g2 (.of (fun i H x e s=>?_) (fun i H hl s=>⟨vs,sqH H s,by rw[rs.length];exact hl⟩) (fun i H v H' x e s y=>?_)) q1⟩
   · obtain⟨v,ev,_⟩:=rs.get e
     exact⟨vs,v,sqH H s,ev⟩
   · obtain⟨e',hy⟩:=y
     obtain⟨v',ev,rv⟩:=rs.get e
     have:=hy vs (sqH H s)
     rw[ev]at this
     cases this
     exact⟨e',rv⟩
theorem fE{l:Expr}(hl:PV X rl l fa):GF X rl tg l (iT fa):=by
 obtain⟨t,p,k⟩:=hl
 refine⟨_,yc p,fun R Qd Q q h=>k R _ _ q fun v w F1 H1 g1 r1 n1 ⟨xs,ew,q1⟩=>?_⟩
 obtain⟨F2,g2,s2,r2⟩:=dA.fz g1 r1 n1
 rw[ew]at r2
 cases(show Rep X.K F2 v (.tuple xs)from r2)with
 | @tup a vs _ sq rs =>
   have sqH:∀H,bH F2 H->Gm X.K H a vs:=fun H s=>e9 s sq
   refine⟨a,rfl,⟨vs,sqH H1 g2.sub⟩,h _ xs F2 H1 g2 (.of (fun i H x e s=>?_) (fun i H hl s=>⟨vs,sqH H s,by rw[rs.length];exact hl⟩) (fun i H v H' x e s y=>?_)) q1⟩
   · obtain⟨v,ev,_⟩:=rs.get e
     exact⟨vs,v,sqH H s,ev⟩
   · obtain⟨e',hy⟩:=y
     obtain⟨v',ev,rv⟩:=rs.get e
     have:=hy vs (sqH H s)
     rw[ev]at this
     cases this
     exact⟨e',rv⟩
noncomputable def aM(lo:Int)(n:Nat):List Hg:=(HL n).map fun(i:Nat)=>.int (lo+i)
theorem gC{lo:Int}{x:Hg}(h:(aM lo n)[i]?=some x):i<n/\x = .int (lo+i):=by
 unfold aM at h
 rw[Ii]at h
 by_cases hi:i<n
 · rw[Hu (by simpa using hi)]at h
   simp at h
   exact⟨hi,h.symm⟩
 · rw[Ms (by simpa using hi)]at h
   cases h
theorem bm{lo:Int}:(aM lo n).length=n:=by simp[aM]
theorem m9{K:W.Frag}(lo:Int)(n:Nat):VIt K rl F (GW lo n) (aM lo n) :=
 .of (fun i H x e s=>(gC e).1) (fun i H hl s=>by rw[bm]at hl;exact hl) (fun i H v H' x e s y=>by
  obtain⟨e1,e2⟩:=y
  subst e2
  rw[(gC e).2]
  exact⟨e1,.int _⟩)
noncomputable def FG(fs:Ge):En->(List Hg->Prop)->Prop:=fun ρ Q=>fs ρ fun ws=>∃j:Int,ws=[.d (.int j)]/\(-(2^62)<=j/\j<2^62)/\Q (aM 0 j.toNat)
theorem bT(hm:X.mg "range" = none)(ha:Gx X rl [a] fs)(hg:Gl X "range" := by rfl)(hs:Hy [a] X.env=[(false,eval a X.env)]:=by rfl):GF X rl tg (.Call (.Name "range" p) [a] [] pos) (FG fs):=by
 obtain⟨t,p1,k⟩:=ha
 refine⟨_,oK hg hm p1 hs,fun R Qd Q q h=>k R _ _ q fun vs ws F1 H1 g1 r1 ⟨j,ew,b,q1⟩=>?_⟩
 subst ew
 obtain⟨v,rfl,rv⟩:=qg r1
 have e:=aT rv
 subst e
 exact⟨j,rfl,b.1,b.2,h _ _ F1 H1 g1 (m9 0 _) q1⟩
theorem VR.own{K:W.Frag}{F₀ H₀ F H:Hp}{σ:St}{ρ:En}(r:VR K rl F₀ H₀ F H σ ρ){i:Nat}{xs ys:List Hg}{a:Addr}{us:List V}(e:ρ[i]?=some (some (.ml xs)))(es:σ[i]?=some (some (.ref a)))(rs:Reps K F us ys) :
 VR K rl F₀ H₀ F (D9 H a (.lst us)) σ (ρ.set i (some (.ml ys))):=by
 obtain⟨v,h1,h2,h3⟩:=r.sl i _ e
 rw[es]at h1
 cases h1
 obtain⟨a',vs,ev,f,hr,hh,q⟩:=(show gt K rl F H (.ref a) xs from h2)
 cases ev
 have n0:H₀ a=none:=h3 a rfl
 have hi:i<ρ.length:=(Ia.mp e).1
 have neF:∀b u,F b=some u->b≠a:=fun b u q z=>by subst z;rw[f]at q;cases q
 have g:Grow rl F₀ H₀ F (D9 H a (.lst us)):=by
  refine⟨fun b o q1 n=>by rw[aq (aU q1 n0)];exact r.g.same b o q1 n,r.g.fs,fun b o q1=>by rw[aq (neF b o q1)];exact r.sub b o q1,r.g.old,fun y z=>?_⟩
  obtain⟨z1,⟨u,h1,h2⟩⟩:=r.reel y z
  exact⟨z1,⟨u,by rw[aq (fun q=>hr (by rw[<- q];exact z))];exact h1,h2⟩⟩
 refine⟨g,fun j w e1=>?_,fun j k ys' zs u hjk e1 e2 w1 w2 s1 s2=>?_,fun j ys' z=>?_,by simp[r.len]⟩
 · by_cases hj:i=j
   · subst hj
     rw[Ib hi]at e1
     cases e1
     exact⟨_,es,⟨a,us,rfl,f,hr,az,rs⟩,h3⟩
   · rw[HU hj]at e1
     obtain⟨u,g1,g2,g3⟩:=r.sl j w e1
     refine⟨u,g1,?_,g3⟩
     cases w with
     | d x=>exact g2
     | reel=>exact g2
     | vv u=>exact g2
     | ml zs =>
       obtain⟨b,us',eb,f1,f2,f3,f4⟩:=(show gt K rl F H u zs from g2)
       have ne:b≠a:=fun z=>r.ap i j _ _ (.ref a) hj e e1 rfl rfl es (by rw[g1,eb,z])
       exact⟨b,us',eb,f1,f2,by rw[aq ne];exact f3,f4⟩
     | pk zs=>exact absurd e1 (r.np j zs)
     | md zs =>
       obtain⟨b,us',eb,f1,f2,f3,f4⟩:=(show wz K rl F H u zs from g2)
       have ne:b≠a:=fun z=>r.ap i j _ _ (.ref a) hj e e1 rfl rfl es (by rw[g1,eb,z])
       exact⟨b,us',eb,f1,f2,by rw[aq ne];exact f3,f4⟩
     | mk zs =>
       obtain⟨b,us',eb,f1,f2,f3,f4⟩:=(show ww K rl F H u zs from g2)
       have ne:b≠a:=fun z=>r.ap i j _ _ (.ref a) hj e e1 rfl rfl es (by rw[g1,eb,z])
       exact⟨b,us',eb,f1,f2,by rw[aq ne];exact f3,f4⟩
     | nt ds=>exact g2
     | lk=>trivial
     | sc _=>exact g2
     | fd _=>exact g2
     | fw _=>exact g2
     | ft _=>exact g2
     | xc _ _=>exact g2
     | dp _ _=>exact g2
 · have nd:∀(j:Nat)(z:W),(ρ.set i (some (W.ml ys)))[j]?=some (some z)->z.own=true->∃z',ρ[j]?=some (some z')/\z'.own=true:=fun j zs z o=>by
     by_cases hj:i=j
     · subst hj
       exact⟨_,e,rfl⟩
     · rw[HU hj]at z
       exact⟨zs,z,o⟩
   obtain⟨_,d1,o1⟩:=nd j _ e1 w1
   obtain⟨_,d2,o2⟩:=nd k _ e2 w2
   exact r.ap j k _ _ u hjk d1 d2 o1 o2 s1 s2
 · rw[IV]at z
   split at z
   · first|cases z|(split at z<;>cases z)
   · exact r.np j ys' z
noncomputable def Bo(K:W.Frag)(rl:RlT)(r:V->List V->Hp->VK->Prop)(g:List Hg->List W->(List Hg->Prop)->Prop):Prop :=
 ∀ {F H:Hp}{a:Addr}{vs args:List V}{xs:List Hg}{ws:List W}(Qn:List Hg->Prop)(Q:VK),bH F H->H a=some (.lst vs)->Reps K F vs xs->gf K rl F H args ws->g xs ws Qn ->
   (∀us ys,Reps K F us ys->Qn ys->Q .non (D9 H a (.lst us)))->r (.ref a) args H Q
noncomputable def wZ(i:Nat)(g:List Hg->List W->(List Hg->Prop)->Prop)(fs:Ge):Gf:=fun D ρ=>∃xs,ρ[i]?=some (some (.ml xs))/\fs ρ fun ws=>g xs ws fun ys=>D.nx (ρ.set i (some (.ml ys)))
theorem sr(i:Nat){nm:Str}{id:String}{r:V->List V->Hp->VK->Prop}{g:List Hg->List W->(List Hg->Prop)->Prop}{apos cpos:Pos}(slot:Slot "list" nm id)(hty:typeOf (.builtin id)=pure (.type "method_descriptor"))(hm:GN X id r)(vm:Bo X.K rl r g)(ha:Gx X rl (e::es) fs)
 (hN:X.N[i]?=some x:=by rfl)(hv:F0 X.env.scope x:=by first|exact Jy rfl|exact IK (Jy rfl)|exact IK (IK rfl))
 (hd:(x==("__debug__" : Str))=false:=by decide)(hcd:(x==("__classdict__" : Str))=false:=by decide)
 (hbase:Kv (.Name x px) nm X.env (eval (.Name x px) X.env)=eval (.Name x px) X.env:=by rfl)
 (hfew:((Je cpos (Hy (e::es) X.env)).all (fun x=>!x.1)&&(LR cpos (Kq [] X.env)).all (fun x=>x.1.isSome)
  && decide ((e::es).length+([]:List KF).length+(if([]:List KF).isEmpty then 0 else 1)<30))=true:=by rfl)
 (hline:(apos.endLine==cpos.line)=true:=by rfl)(hs:Hy (e::es) X.env=(false,eval e X.env)::Hy es X.env:=by rfl)(hplain:(Je cpos (Hy es X.env)).any (·.1)=false:=by rfl)
 (hsw:JE (.Call (.Attribute (.Name x px) nm apos) (e::es) [] cpos) none pos.line X.env=pure false:=by rfl) :
 GB X rl (.Expr (.Call (.Attribute (.Name x px) nm apos) (e::es) [] cpos) pos) (wZ i g fs):=by
 obtain⟨t,p1,k⟩:=ha
 refine⟨_,j8 (qU Ke slot hty hm (cx hN hv hd hcd) p1 hbase hfew hline hs hplain) hsw,fun{F₀ H₀ F H σ ρ} R Dv D ok ⟨xs,e1,q⟩=>?_⟩
 obtain⟨v,h1,h2,h3⟩:=R.sl i _ e1
 obtain⟨a,vs,rfl,f,hr,hh,rs⟩:=(show gt X.K rl F H v xs from h2)
 refine⟨.ref a,h1,.inl ⟨rfl,vs,.inl (.inl hh)⟩,k R _ _ q fun args ws F1 H1 g1 r1 q1=>?_⟩
 refine vm _ _ g1.sub (g1.same a _ hh hr) (rs.mono g1.fs) r1 q1 fun us ys r2 q2=>?_
 exact ok.nx _ _ _ _ g1.fs ((R.grow g1).own e1 h1 r2) q2
noncomputable def zB:List Hg->List W->(List Hg->Prop)->Prop:=fun xs ws Q=>∃x,gi ws=some [x]/\xs.length<sizeLine/\Q (xs++[x])
theorem wK{K:W.Frag}:Bo K rl oA zB:=fun{F H a vs args xs ws} Qn Q s ha rs ra ⟨x,e,z,q⟩ k=>by
 have r2:=cV ra e
 cases r2 with
 | cons rx r3 =>
   cases r3
   exact⟨a,vs,_,rfl,rfl,ha,by rw[rs.length];exact z,k _ _ (rs.snoc rx) q⟩
theorem mZ(i:Nat){apos cpos:Pos}(ha:Gx X rl [e] fs)(hN:X.N[i]?=some x:=by rfl)(hv:F0 X.env.scope x:=by first|exact Jy rfl|exact IK (Jy rfl)|exact IK (IK rfl))
 (hd:(x==("__debug__" : Str))=false:=by decide)(hcd:(x==("__classdict__" : Str))=false:=by decide)
 (hbase:Kv (.Name x px) "append" X.env (eval (.Name x px) X.env)=eval (.Name x px) X.env:=by rfl)
 (hfew:((Je cpos (Hy [e] X.env)).all (fun x=>!x.1)&&(LR cpos (Kq [] X.env)).all (fun x=>x.1.isSome)
  && decide (([e]).length+([]:List KF).length+(if([]:List KF).isEmpty then 0 else 1)<30))=true:=by rfl)
 (hline:(apos.endLine==cpos.line)=true:=by rfl)(hs:Hy [e] X.env=(false,eval e X.env)::Hy [] X.env:=by rfl)(hplain:(Je cpos (Hy [] X.env)).any (·.1)=false:=by rfl)
 (hsw:JE (.Call (.Attribute (.Name x px) "append" apos) [e] [] cpos) none pos.line X.env=pure false:=by rfl) :
 GB X rl (.Expr (.Call (.Attribute (.Name x px) "append" apos) [e] [] cpos) pos) (wZ i zB fs) :=
 sr i KL KM dr wK ha hN hv hd hcd hbase hfew hline hs hplain hsw
noncomputable def gc:W->Bool
 | .ml _=>false
 | .md _=>false
 | .mk _=>false
 | .pk _=>false
 | _=>true
noncomputable def D2(K:W.Frag)(rl:RlT)(P:List W->(Hg->Prop)->Prop):Sp:=fun vs H Q _=>∃F ws,bH F H/\Gu rl F H/\gf K rl F H vs ws/\ws.all gc=true/\P ws fun d=>∀v F' H',Grow rl F H F' H'->Rep K F' v d->Q v H'
noncomputable def dH(N:List Str)(ws:List W):En:=ws.map some++H0 (N.length-ws.length) none
theorem je{K:W.Frag}{F H:Hp}:∀{vs:List V}{ws:List W}{i:Nat}{w:W},gf K rl F H vs ws->ws[i]?=some w->∃v,vs[i]?=some v/\dA K rl F H v w
 | _,_,_,_,.nil,e=>by simp at e
 | _,_,0,_,.cons h _,e=>by simp at e;subst e;exact⟨_,rfl,h⟩
 | _,_,i+1,w,.cons _ r,e=>by
   obtain⟨v,h1,h2⟩:=je (i:=i) (w:=w) r (by simpa using e)
   exact⟨v,by simpa using h1,h2⟩
theorem i5{ws:List W}{w:W}(h:(dH N ws)[i]?=some (some w)):ws[i]?=some w:=by
 unfold dH at h
 by_cases hi:i<ws.length
 · rw[JM (by simpa using hi),Ii]at h
   cases q:ws[i]? with
   | none=>rw[q]at h;cases h
   | some x=>rw[q]at h;cases h;rfl
 · rw[J1 (by simpa using hi),KU]at h
   split at h<;>cases h
theorem gT{K:W.Frag}{ws:List W}(s:bH F H)(ra:Gu rl F H)(r:gf K rl F H vs ws)(ok:ws.all gc=true):VR K rl F H F H (start N vs) (dH N ws):=by
 have hl:vs.length=ws.length:=Kd r
 have no:∀(i:Nat) w,(dH N ws)[i]?=some (some w)->gc w=true:=fun i w e=>(JI.mp ok) w (JS (i5 e))
 refine⟨Grow.refl s ra,fun i w e=>?_,fun i j xs ys v _ e1 _ o _ _ _=>(by have:=no i _ e1;cases xs<;>first|exact Bool.noConfusion o|exact Bool.noConfusion this),fun i xs e=>(by have:=no i _ e;cases this),?_⟩
 · obtain⟨v,h1,h2⟩:=je r (i5 e)
   refine⟨v,?_,h2,?_⟩
   · unfold start
     rw[JM (by simpa using(Ia.mp h1).1),Ii,h1]
     rfl
   · have:=no i w e
     cases w with
     | ml xs=>cases this
     | md xs=>cases this
     | mk xs=>cases this
     | nt _=>trivial
     | lk=>trivial
     | sc _=>trivial
     | fd _=>trivial
     | fw _=>trivial
     | ft _=>trivial
     | xc _ _=>trivial
     | dp _ _=>trivial
     | d _=>trivial
     | pk _=>trivial
     | reel=>trivial
     | vv _=>trivial
 · unfold dH start
   simp[hl]
noncomputable def qx(Q:Hg->Prop):VEnds:=⟨fun _=>Q .none,fun w=>∃d,w.fz = .d d/\Q d,fun _=>False,fun _=>False⟩
theorem D3{K:W.Frag}{base:Heap}{st:Stmt}{fa:Addr}{ps:List Str}{k:Nat}{Pd:List W->(Hg->Prop)->Prop}{t:Gf}
 (Fn:Fun K x qual st fa fd)(S:FnScope N ps (defScope st))(len:∀ws Q,Pd ws Q->ws.length=ps.length)
 (hbody:∀(cdv:Hq)(A:ID)(outer:List Env)(s:Hv)(H:Hp)(E:XK),Room k (A.deeper (Mq qual (defScope st) s.heap.objs.size fa cdv)) ->
  lQ (qj G7 P w K mg base N qual (defScope st) fa cdv A outer s H E).nox rl (defBody st) t)
 (hread:∀ws Q,Pd ws Q->t (qx Q) (dH N ws)):FnOk P w K mg base G7 (k+1) fa fd ps (D2 K rl Pd):=by
 refine Fn.ok S (fun vs H Q E ⟨F,ws,_,_,r,_,q⟩=>(Kd r).trans (len ws _ q)) fun cdv A outer s H vs Q E hr h=>?_
 obtain⟨F,ws,sm,ra,r,ok,q⟩:=h
 obtain⟨T,p,kk⟩:=hbody cdv A outer s H E hr
 refine⟨T,p,kk (gT sm ra r ok) (qx _) _ ⟨?_,?_,fun _ _ _ _ _ _ z=>Jw z,fun _ _ _ _ _ _ z=>Jw z⟩ (hread ws _ q)⟩
 · intro F1 H1 σ1 ρ1 _ R1 q1
   exact q1 .non F1 H1 R1.g .non
 · rintro v w1 F1 H1 g1 r1 n1 ⟨d,ed,q1⟩
   obtain⟨F2,g2,s2,r2⟩:=dA.fz g1 r1 n1
   rw[ed]at r2
   exact q1 v F2 H1 g2 r2
structure Dfn (P:HZ) (w:IL) (K:W.Frag) (mg:Str->Option Hq) (base:Heap) (rl:RlT) (x:Str) (ps:List Str) (k:Nat) (Pd:List W->(Hg->Prop)->Prop):Prop where
 mono:∀ws Q Q',(∀d,Q d->Q' d)->Pd ws Q->Pd ws Q'
 ex:∃f fd,mg x=some (.ref f)/\W.keepIn K (.ref f)=true/\Binds K fd ps []/\FnOk P w K mg base G7 k f fd ps (D2 K rl Pd)
noncomputable def zS(Pd:List W->(Hg->Prop)->Prop)(fs:Ge):TV:=fun ρ Q=>fs ρ fun ws=>ws.all gc=true/\Pd ws fun d=>Q (.d d)
theorem am{ps:List Str}{k:Nat}{Pd:List W->(Hg->Prop)->Prop}(D:Dfn X.prog X.w X.K X.mg X.base rl x ps k Pd)(hr:Room k X.A)(ha:Gx X rl (e::es) fs)(hg:Gl X x:=by rfl)
 (hdb:(x==("__debug__" : Str))=false:=by decide)(he:Hy (e::es) X.env=(false,eval e X.env)::Hy es X.env:=by rfl)(hpl:(Je pos (Hy es X.env)).any (·.1)=false:=by rfl) :
 PV X rl (.Call (.Name x p) (e::es) [] pos) (zS Pd fs):=by
 obtain⟨f,fd,hm,hk,hb,F⟩:=D.ex
 obtain⟨t,p1,kk⟩:=ha
 refine⟨_,j_ F hr hg hm hk hb .nil u_ p1 hdb he hpl,fun R Qd Q q h=>kk R _ _ q fun vs ws F1 H1 g1 r1 ⟨ok,q1⟩=>?_⟩
 refine⟨F1,ws,g1.sub,g1.reel,by rw[JF];exact r1,ok,?_⟩
 exact D.mono ws _ _ (fun d qd v F2 H2 g2 r2=>h v (.d d) F2 H2 (g1.trans g2) r2 trivial qd) q1
end
end L2.VL
variable{rl:L2.VL.RlT}{ρ:L2.VL.En}{fi:L2.VL.En->(List Hg->Prop)->Prop}
namespace L2
theorem eN{env:Env}:∀(names:List (Str×KR))(acc:List (Str×Addr)),(∀x∈names,x.2 = .free->∃c,env.cells.lookup x.1=some c)->(∀x c,acc.lookup x=some c->env.cells.lookup x=some c) ->
 ∃ cl,(forIn names acc (fun(x:Str×KR)(cs:List (Str×Addr))=>if(x.2==II)=true then do let c <- cellOf env x.1;pure (LB ((x.1,c)::cs))else pure (LB cs)):Sem (List (Str×Addr)))=pure cl /\
   (∀x c,cl.lookup x=some c->env.cells.lookup x=some c)/\(∀x,(acc.lookup x).isSome=true->(cl.lookup x).isSome=true)/\∀x,(x,II)∈names->(cl.lookup x).isSome=true
 | [],acc,_,h2=>⟨acc,rfl,h2,fun _ z=>z,fun _ z=>nomatch z⟩
 | (n,k)::r,acc,h1,h2=>by
   by_cases hk:k = .free
   · subst hk
     obtain⟨c,hc⟩:=h1 (n,.free) Ht rfl
     have h2':∀x c',((n,c)::acc).lookup x=some c'->env.cells.lookup x=some c':=fun x c' z=>by
      rw[IE]at z
      cases e:x==n with
      | true =>
        rw[e]at z
        have e':x=n:=by simpa using e
        cases z
        rw[e']
        exact hc
      | false =>
        rw[e]at z
        exact h2 x c' z
     obtain⟨cl,e,g1,g2,g3⟩:=eN r ((n,c)::acc) (fun x hx=>h1 x (Hn _ hx)) h2'
     refine⟨cl,?_,g1,fun x z=>g2 x ?_,fun x z=>?_⟩
     · rw[LC]
       simp only[beq_self_eq_true,if_true]
       have e0:cellOf env n=pure c:=by unfold cellOf;rw[hc]
       rw[e0,pure_bind,pure_bind]
       exact e
     · rw[IE]
       split
       · rfl
       · exact z
     · rcases HJ.mp z with z|z
       · cases z
         refine g2 _ ?_
         rw[IE]
         simp
       · exact g3 x z
   · obtain⟨cl,e,g1,g2,g3⟩:=eN r acc (fun x hx=>h1 x (Hn _ hx)) h2
     refine⟨cl,?_,g1,g2,fun x z=>?_⟩
     · rw[LC]
       have hb:(k==II)=false:=by simpa using hk
       simp only[hb,Kn,if_false]
       rw[pure_bind]
       exact e
     · rcases HJ.mp z with z|z
       · cases z;exact absurd rfl hk
       · exact g3 x z
theorem ca{env:Env}(h:∀x∈scope.names,x.2 = .free->∃c,env.cells.lookup x.1=some c) :
 ∃cl,closureFor scope env=pure cl/\(∀x c,cl.lookup x=some c->env.cells.lookup x=some c)/\∀x,(x,II)∈scope.names->(cl.lookup x).isSome=true:=by
 obtain⟨cl,e,g1,_,g3⟩:=eN scope.names [] h (fun _ _ z=>by cases z)
 refine⟨cl,?_,g1,g3⟩
 unfold closureFor
 first
  | exact e
  | (simp only[bind_pure];exact e)
theorem jd{env:Env}(h:(NS scope env).names.lookup x=some .cell\/(NS scope env).names.lookup x=some .free):(x,II)∈scope.names\/(x,JU)∈scope.names:=by
 have key:∀names:List (Str×KR),∀k,(k = .cell\/k = .free) ->
  (names.map fun(n,k)=>if(k==II&&env.scope.kind == .function&&env.kindOf n==some .cell)then(n,JU)else(n,k)).lookup x=some k->(x,II)∈names\/(x,JU)∈names:=by
  intro names
  induction names with
  | nil=>intro k _ z;cases z
  | cons y r ih =>
    intro k hk z
    obtain⟨n,kn⟩:=y
    have step:((x,II)∈r\/(x,JU)∈r)->((x,II)∈(n,kn)::r\/(x,JU)∈(n,kn)::r):=fun z=>z.imp (Hn _) (Hn _)
    rw[Ik]at z
    dsimp only at z
    by_cases hc:(kn==II&&env.scope.kind == .function&&env.kindOf n==some .cell)=true
    · rw[if_pos hc,IE]at z
      have hf:kn = .free:=by
       have:=(Hw.mp (Hw.mp hc).1).1
       simpa using this
      cases e:x==n with
      | true =>
        have e':x=n:=by simpa using e
        rw[e',<- hf]
        exact .inl Ht
      | false =>
        rw[e]at z
        exact step (ih k hk z)
    · rw[if_neg hc,IE]at z
      cases e:x==n with
      | true =>
        rw[e]at z
        have e':x=n:=by simpa using e
        cases z
        rcases hk with hk|hk
        · rw[e',hk];exact .inr Ht
        · rw[e',hk];exact .inl Ht
      | false =>
        rw[e]at z
        exact step (ih k hk z)
 rcases h with h|h
 · exact key scope.names .cell (.inl rfl) h
 · exact key scope.names .free (.inr rfl) h
theorem bq:∀(names:List (Str×KR))(n:Nat)(acc:List (Str×Addr)),JK n names acc=JK n names []++acc
 | [],_,_=>rfl
 | (x,k)::r,n,acc=>by
   unfold JK
   split
   · rw[bq r (n+1) ((x,n)::acc),bq r (n+1) [(x,n)],Kw]
     rfl
   · exact bq r n acc
theorem cX{x:Str}{c:Addr}:∀{names:List (Str×KR)}{n:Nat},(x,c)∈JK n names []->(x,JU)∈names
 | (y,k)::r,n,h=>by
   unfold JK at h
   split at h
   · rename_i hk
     rw[bq]at h
     rcases HW.mp h with h|h
     · exact Hn _ (cX h)
     · simp at h
       have:k = .cell:=by simpa using hk
       rw[h.1,this]
       exact Ht
   · exact Hn _ (cX h)
theorem eL{a b:List (Str×Addr)}:(a++b).lookup x=(a.lookup x).or (b.lookup x):=by
 induction a with
 | nil=>simp
 | cons y a ih =>
   obtain⟨n,c⟩:=y
   rw[Lo,IE,IE]
   cases x==n<;>simp[ih]
theorem kd{M:Model}{globals:Addr}{o:Env}{Q:Env->Hv->Prop}
 (hQ:Q {scope,locals:=s.heap.objs.size,globals,cells:=JK (s.heap.objs.size+1) scope.names cl,qual,func:=none,code:=o.code,frame:=o.frame,builtins:=o.builtins} {s with heap:=NH (s.heap.push {cls:=.type "dict", data:=.dict #[]}) scope.names}) :
 HS M A (Lf scope globals cl [] qual none .none (some o)) Q E s:=by
 simp only[Lf,Option.isSome_some,if_true]
 refine Hi (wpAny_alloc ?_)
 refine Hi (wpAny_layCells _ (fun name kind cells=>by cases hkc:kind==JU<;>simp[hkc]) _ _ _ _ ?_)
 rw[show({s with heap:=s.heap.push {cls:=.type "dict", data:=.dict #[]}}:Hv).heap.objs.size=s.heap.objs.size+1 from Jq ..]
 exact Hi (HH (HH hQ))
noncomputable def ba(X:Cx)(N':List Str)(scope:Scope)(cl:List (Str×Addr))(fp:List Addr)(pn:List (Addr×Obj))(s:Hv)(H:Hp):Cx :=
 {X with N:=N',s₀:=s,H₀:=H,env:={compEnvC scope cl s.heap.objs.size X.env with cells:=JK (s.heap.objs.size+1) scope.names cl},outer:=X.stack,ex:=fp,fn:=fun x=>scope.names.lookup x==some .cell,pn:=pn,xe:=fun _ _=>False}
abbrev dL(ifs:List Expr)(env:Env):Sem Bool:=forIn ifs true fun c r=>if r=true then do let ok <- isTrue c env (eval c env);pure (LB ok)else pure (LB r)
noncomputable def Gz(X:Cx)(ifs:List Expr)(t:TT):Prop :=
 ∀(pins:List (Addr×Obj))(s:Hv)(σ:St)(H:Hp)(Q:Bool->Hp->Prop),Inv X pins σ H s->t σ H Q->HS (Ie X.prog X.w) X.A (dL ifs X.env) (TP X pins σ Q) X.xe s
theorem uQ:Gz X [] (fun _ H Q=>Q true H):=fun _ _ _ H _ I h=>wpAny_tests_nil ⟨H,I,h⟩
theorem uP{t:TT}(h:PT X c t):Gz X [c] t:=fun pins s σ H Q I hw=>wpAny_tests_one (h pins s σ H Q I hw)
theorem pV{prog:HZ}{R:ND->Hv->Prop}{elt target:Expr}{it acc:Hq}{env:Env}(I:Nat->Hv->Prop)
 (turn:∀n s,I n s->HS (Ie prog w) A (LZ it) (fun r s₁=>(r=none/\R (.ok .next) s₁)\/∃v,r=some v /\
  HS (Ie prog w) A (JO target it v) (fun _ s₂=>HS (Ie prog w) A (Kz target env v) (fun _ s₃=>HS (Ie prog w) A (dL ifs env) (fun ok s₄ =>
   if ok=true then HS (Ie prog w) A (eval elt env) (fun x s₅=>HS (Ie prog w) A (call (.builtin "list.append") [acc,x]) (fun _ s₆=>∃m,m<n/\I m s₆) (fun _ _=>False) s₅) (fun _ _=>False) s₄
   else ∃m,m<n/\I m s₄) (fun _ _=>False) s₃) (fun _ _=>False) s₂) (fun _ _=>False) s₁) (fun _ _=>False) s)
 (n:Nat)(h:I n s):JY (Ie prog w) A (.compLoop (.ListComp elt [⟨target,iter,ifs,0⟩] scope pos) 0 it acc env) R s:=by
 refine Mt rfl I (fun n s hI=>?_) n h
 show HS _ A ((Na (.ListComp elt [⟨target,iter,ifs,0⟩] scope pos) 0 it acc env).onRaise (fun x=>do Nb x env;LD x)) _ _ s
 refine MR ?_
 rw[compTurn_list]
 refine Hi (Jt (Hi (Ih (turn n s hI) (fun r s₁ h₁=>?_) fun _ _ h'=>h'.elim)))
 rcases h₁ with⟨rfl,h₁⟩|⟨v,rfl,h₁⟩
 · exact HH h₁
 · refine Hi (Ih h₁ (fun _ s₂ h₂=>Hi (Ih h₂ (fun _ s₃ h₃=>Hi (Ih h₃ (fun ok s₄ h₄=>?_) fun _ _ z=>z.elim)) fun _ _ z=>z.elim)) fun _ _ z=>z.elim)
   cases ok with
   | false=>exact HH ⟨rfl,h₄⟩
   | true=>exact Hi (Hi (Ih h₄ (fun x s₅ h₅=>Hi (Ih h₅ (fun _ s₆ h₆=>HH (HH ⟨rfl,h₆⟩)) fun _ _ z=>z.elim)) fun _ _ z=>z.elim))
noncomputable def mR(fr:List (Option Nat))(σ:St):St:=fr.map fun o=>o.bind fun j=>(σ[j]?).join
noncomputable def lE(fr:List (Option Nat))(N' N:List Str)(sc scX:Scope):Bool :=
 decide (fr.length=N'.length)&&(HL fr.length).all fun i=>match fr[i]? with
  | some (some j)=>match N'[i]? with
    | some x=>decide (N[j]?=some x)&&decide (sc.names.lookup x=some .free)&&(decide (scX.names.lookup x=some .cell)||decide (scX.names.lookup x=some .free))
    | none=>false
  | _=>true
noncomputable def mB(sc scX:Scope):Bool :=
 decide (sc.kind = .function)&&sc.names.all fun y=>(decide (y.2 ≠ .cell)||decide (sc.names.lookup y.1=some .cell))&&(decide (y.2 ≠ .local)||decide (sc.names.lookup y.1=some .local)) &&
  (decide (y.2 ≠ .free)||(decide (scX.names.lookup y.1=some .cell)||decide (scX.names.lookup y.1=some .free)))
theorem lE.get{fr:List (Option Nat)}{N':List Str}{sc scX:Scope}(h:lE fr N' N sc scX=true):fr.length=N'.length/\∀(i j:Nat),fr[i]?=some (some j)->∃x,N'[i]?=some x/\N[j]?=some x/\sc.names.lookup x=some .free/\(scX.names.lookup x=some .cell\/scX.names.lookup x=some .free):=by
 unfold lE at h
 obtain⟨h1,h2⟩:=Hw.mp h
 refine⟨of_decide_eq_true h1,fun i j e=>?_⟩
 have hi:i<fr.length:=(Ia.mp e).1
 have q:=JI.mp h2 i (Im.mpr hi)
 rw[e]at q
 dsimp only at q
 cases en:N'[i]? with
 | none=>rw[en]at q;cases q
 | some x =>
   rw[en]at q
   dsimp only at q
   obtain⟨q1,q2⟩:=Hw.mp q
   obtain⟨q3,q4⟩:=Hw.mp q1
   exact⟨x,rfl,of_decide_eq_true q3,of_decide_eq_true q4,(HP.mp q2).imp of_decide_eq_true of_decide_eq_true⟩
theorem mK{k:KR}:∀{names:List (Str×KR)},names.lookup x=some k->(x,k)∈names:=fun h=>IQ h
structure CompA where
 cl:List (Str×Addr)
 fp:List Addr
 pn:List (Addr×Obj)
 s:Hv
 H:Hp
abbrev FS(X:Cx)(N':List Str)(scope:Scope)(y:CompA):Cx:=ba X N' scope y.cl y.fp y.pn y.s y.H
noncomputable def uq(wi:TI)(fr:List (Option Nat))(g:CompA->TG)(tt:CompA->TT)(te:CompA->TE):TE:=fun σ H Q=>wi σ H fun J H1=>∀D,H1 D=none->∃Wv:Nat->Nat->List V->St->Hp->Prop,(∃m,Wv 0 m [] (mR fr σ) (D9 H1 D (.lst []))) /\
 ∀ (z:CompA) i m acc σc H,Wv i m acc σc H->(J.stop i H/\Q (.ref D) H)\/(J.go i H/\∀x H',J.yld i H x H'->g z x σc H' fun σ2 H2=>tt z σ2 H2 fun b H3 =>
   if b=true then te z σ2 H3 fun y H4=>H4 D=some (.lst acc)/\acc.length<sizeLine/\∃m',m'<m/\Wv (i+1) m' (acc++[y]) σ2 (D9 H4 D (.lst (acc++[y])))else ∃m',m'<m/\Wv (i+1) m' acc σ2 H3)
theorem eR{env:Env}:∀{names:List (Str×KR)}{x:Str},names.lookup x=some .free ->
 (names.map fun(n,k)=>if(k==II&&env.scope.kind == .function&&env.kindOf n==some .cell)then(n,JU)else(n,k)).lookup x=some .cell \/
 (names.map fun(n,k)=>if(k==II&&env.scope.kind == .function&&env.kindOf n==some .cell)then(n,JU)else(n,k)).lookup x=some .free
 | [],_,h=>by simp at h
 | (n,k)::r,x,h=>by
   have ih:=@eR env r x
   rw[Ik]
   dsimp only
   cases hx:x==n with
   | true =>
     simp only[IE,hx]at h
     cases h
     by_cases hc:((II==II)&&env.scope.kind == .function&&env.kindOf n==some .cell)=true
     · rw[if_pos hc];simp[IE,hx]
     · rw[if_neg hc];simp[IE,hx]
   | false =>
     simp only[IE,hx]at h
     by_cases hc:(k==II&&env.scope.kind == .function&&env.kindOf n==some .cell)=true
     · rw[if_pos hc];simp only[IE,hx];exact ih h
     · rw[if_neg hc];simp only[IE,hx];exact ih h
theorem cW{ex:Expr}{H3:Hp}{s3:Hv}{D:Addr}{J:It}{Q:VK}
 (N':List Str)(fr:List (Option Nat))(hc:X.calm=true)(hkind:scope.kind = .function)(hcell:∀y∈scope.names,y.2 = .cell->scope.names.lookup y.1=some .cell)
 (hfree:∀y∈scope.names,y.2 = .free->X.env.kindOf y.1=some .cell\/X.env.kindOf y.1=some .free)(frl:fr.length=N'.length)
 (frg:∀(i j:Nat),fr[i]?=some (some j)->∃x,N'[i]?=some x/\X.N[j]?=some x/\scope.names.lookup x=some .free/\(X.env.scope.names.lookup x=some .cell\/X.env.scope.names.lookup x=some .free))
 (cl1:∀x c,cl.lookup x=some c->X.env.cells.lookup x=some c)(cl2:∀x,(x,II)∈scope.names->(cl.lookup x).isSome=true)
 (I3:Inv X pins σ H3 s3)(T:Turn X.prog X.w X.K tg J fp it tn)(tn3:tn 0 s3.heap)(fpD:∀b∈fp,H3 b=none)(fp3:∀b∈fp,b<s3.heap.objs.size)
 (fpk:∀b∈fp,b≠X.env.locals/\b∉X.fs/\(b∈X.ex\/X.s₀.heap.objs.size<=b)/\(∀x c,X.env.cells.lookup x=some c->c≠b)/\∀p∈X.pn++pins,p.1≠b)
 (loop:∀s',Inv (ba X N' scope cl fp (X.pn++pins) s3 H3) [] (mR fr σ) H3 s'->tn 0 s'.heap->(∀{H':Hp},(∀b∈fp,H' b=none)->∀b∈fp,jJ (ba X N' scope cl fp (X.pn++pins) s3 H3) [] H' b) ->
  JY (Ie X.prog X.w) X.A (.compStart ex 0 (.ref it) (.ref D) (ba X N' scope cl fp (X.pn++pins) s3 H3).env) (fun r s5=>r = .ok .next/\∃σ5 H4,Inv (ba X N' scope cl fp (X.pn++pins) s3 H3) [] σ5 H4 s5/\Q (.ref D) H4) s')
 (fin:∀s5 H4 m,s5.heap.Ns s3.heap.objs.size m->(∀h',J5 s3.heap.objs.size s5.heap h'->Inv X pins σ H4 {s5 with heap:=h' })->jJ X pins H4 s3.heap.objs.size->Q (.ref D) H4->Rp s3.heap.objs.size (.ok .next) s5) :
 HS (Ie X.prog X.w) X.A (Lf scope X.env.globals cl [] X.env.qual none .none (some X.env)) (fun cenv s₄ =>
  JY (Ie X.prog X.w) X.A (.compStart ex 0 (.ref it) (.ref D) {cenv with scope:=NS scope X.env})
   (Rp cenv.locals) s₄) X.xe s3:=by
 refine kd ?_
 have ok:=cellsFrom_ok scope.names (s3.heap.push {cls:=.type "dict", data:=.dict #[]}) (s3.heap.objs.size+1) [] ⟨fun _ _ hm=>(nomatch hm),L0⟩ (by rw[Jq];exact HA _)
 rw[Jq]at ok
 have kp:∀b o,s3.heap.get? b=some o->(NH (s3.heap.push {cls:=.type "dict", data:=.dict #[]}) scope.names).get? b=some o:=fun b o e=>pushCells_keeps _ _ b o (Hl _ e)
 have hns₁:(NH (s3.heap.push {cls:=.type "dict", data:=.dict #[]}) scope.names).Ns s3.heap.objs.size (fun _=>none):=(Heap.Ns.new s3.heap (.type "dict")).keeps (pushCells_keeps _ _)
 generalize NH (s3.heap.push {cls:=.type "dict", data:=.dict #[]}) scope.names=h₁ at ok kp hns₁ ⊢
 have cs:∀x c,(JK (s3.heap.objs.size+1) scope.names cl).lookup x=some c->(JK (s3.heap.objs.size+1) scope.names []).lookup x=some c\/cl.lookup x=some c:=fun x c e=>by
  rw[bq,eL]at e
  cases q:(JK (s3.heap.objs.size+1) scope.names []).lookup x with
  | none=>rw[q]at e;exact .inr (by simpa using e)
  | some c'=>rw[q]at e;exact .inl (by simpa using e)
 have own:∀x c,(JK (s3.heap.objs.size+1) scope.names []).lookup x=some c->h₁.IsCell c none/\s3.heap.objs.size+1<=c:=fun x c e=>ok.empty x c (IQ e)
 have clt:∀x c,cl.lookup x=some c->c<s3.heap.objs.size:=fun x c e=>by
  obtain⟨v,o,ho,_⟩:=I3.cell x c (cl1 x c e)
  exact HE ho
 have frn:∀x,scope.names.lookup x=some .free->(JK (s3.heap.objs.size+1) scope.names []).lookup x=none:=fun x e=>by
  cases q:(JK (s3.heap.objs.size+1) scope.names []).lookup x with
  | none=>rfl
  | some c =>
    have:=hcell (x,.cell) (cX (IQ q)) rfl
    rw[e]at this
    cases this
 have notC:∀b o,s3.heap.get? b=some o->b≠s3.heap.objs.size:=fun b o e=>Is (HE e)
 have fpstk:∀b∈fp,b∉frs X.stack:=fun b hb z=>(HJ.mp (I3.stkSub b z)).elim (fpk b hb).1 (fpk b hb).2.1
 have cellK:∀c v,s3.heap.IsCell c v->h₁.IsCell c v:=fun c v ⟨o,ho,hd⟩=>⟨o,kp c o ho,hd⟩
 have IY:Inv (ba X N' scope cl fp (X.pn++pins) s3 H3) [] (mR fr σ) H3 {s3 with heap:=h₁}:=by
  refine⟨⟨I3.ok.mod,hkind,I3.ok.glob,I3.ok.blt,HA _,fun x y c e1 e2=>?_,fun x hx=>?_,fun x c _ e=>?_,I3.ok.hd,I3.ok.frames,.inl rfl,
   fun b hb=>⟨Is (fp3 b hb),fun x c e=>?_⟩,I3.bs,IH I3.ok.bsz I3.sz,fun b o e hb=>?_,fun b hb=>fpstk b hb,I3.stack,I3.stkFree⟩,
   rfl,I3.bare,Un.kept kp,⟨_,hns₁,fun i x v e1 e2 e3=>?_⟩,fun x c e=>?_,I3.hok.fresh (HA _),fun x c e=>?_,fun p hp=>?_,I3.hok.kept kp,?_⟩
  · rcases cs x c e1 with q1|q1<;>rcases cs y c e2 with q2|q2
    · exact name_of_addr ok.apart (IQ q1) (IQ q2)
    · exact absurd (Hz (clt y c q2) (Ky (own x c q1).2)) (Jb _)
    · exact absurd (Hz (clt x c q1) (Ky (own y c q2).2)) (Jb _)
    · exact I3.ok.inj x y c (cl1 x c q1) (cl1 y c q2)
  · refine Ka.mp ?_
    show((JK (s3.heap.objs.size+1) scope.names cl).lookup x).isSome=true
    rcases jd hx with q|q
    · exact W.cellsFrom_some _ _ _ (.inr (cl2 x q))
    · exact W.cellsFrom_some _ _ _ (.inl (hcell _ q rfl))
  · rename_i hfn
    rcases cs x c e with q|q
    · have:=(own x c q).2
      show s3.heap.objs.size<=c
      omega
    · have hfn:(scope.names.lookup x==some JU)=true:=hfn
      have hl:scope.names.lookup x=some .cell:=by simpa using hfn
      obtain⟨c',ec'⟩:=Ka.mp (W.cellsFrom_some scope.names (s3.heap.objs.size+1) [] (.inl hl))
      have e':(JK (s3.heap.objs.size+1) scope.names cl).lookup x=some c:=e
      rw[bq,eL,ec']at e'
      simp at e'
      subst e'
      exact Ky (own x c' ec').2
  · rcases cs x c e with q|q
    · exact fun z=>absurd (Hz (fp3 b hb) (Ky (by rw[<- z];exact(own x c q).2))) (Jb _)
    · exact(fpk b hb).2.2.2.1 x c (cl1 x c q)
  · rcases(fpk b hb).2.2.1 with z|z
    · exact I3.ok.noex b o e z
    · exact absurd (Hz (HE e) (IH I3.ok.bsz z)) (Jb _)
  · have e2':(fr[i]?).map (fun o=>o.bind fun j=>(σ[j]?).join)=some (some v):=by unfold mR at e2;rw[Ii]at e2;exact e2
    cases ef:fr[i]? with
    | none=>rw[ef]at e2';cases e2'
    | some o =>
      cases o with
      | none=>rw[ef]at e2';cases e2'
      | some j =>
        rw[ef]at e2'
        have e3':(σ[j]?).join=some v:=IG e2'
        have e4:σ[j]?=some (some v):=by
         cases q:σ[j]? with
         | none=>rw[q]at e3';cases e3'
         | some z=>rw[q]at e3';cases e3';rfl
        obtain⟨x',n1,n2,n3,n4⟩:=frg i j ef
        have ex:x'=x:=IG (n1.symm.trans e1)
        subst ex
        obtain⟨m,hn,hl⟩:=I3.loc
        obtain⟨u,ru,lk⟩:=hl j x' v n2 e4 (n4.elim (fun z=>.inr (.inl z)) fun z=>.inr (.inr z))
        refine⟨u,ru,?_⟩
        rcases lk with⟨kl,_⟩|⟨_,c,ec,hcl⟩
        · exact absurd (show X.env.scope.names.lookup x'=some .local from kl) (by rcases n4 with z|z<;>rw[z]<;>decide)
        · obtain⟨c',ec'⟩:=Ka.mp (cl2 x' (mK n3))
          have:=cl1 x' c' ec'
          rw[ec]at this
          cases this
          refine .inr ⟨eR n3,c,?_,cellK _ _ hcl⟩
          show(JK (s3.heap.objs.size+1) scope.names cl).lookup x'=some c
          rw[bq,eL,frn x' n3]
          simpa using ec'
  · rcases cs x c e with q|q
    · exact⟨_,(own x c q).1⟩
    · obtain⟨v,z⟩:=I3.cell x c (cl1 x c q)
      exact⟨v,cellK _ _ z⟩
  · rcases cs x c e with q|q
    · exact I3.hok.fresh (by have:=(own x c q).2;omega)
    · exact I3.freeC x c (cl1 x c q)
  · rw[JF]at hp
    obtain⟨e,n,ne,nf,d⟩:=I3.pin p hp
    exact⟨kp _ _ e,n,notC _ _ e,fun z=>(HJ.mp (I3.stkSub p.1 z)).elim ne nf,d⟩
  · unfold mR
    rw[Hm]
    exact frl
 have stat:∀{H':Hp},(∀b∈fp,H' b=none)->∀b∈fp,jJ (ba X N' scope cl fp (X.pn++pins) s3 H3) [] H' b:=fun hn b hb =>
  ⟨hn b hb,Is (fp3 b hb),fpstk b hb,.inl hb,fun x c e=>(by
   rcases cs x c e with q|q
   · exact fun z=>absurd (Hz (fp3 b hb) (Ky (by rw[<- z];exact(own x c q).2))) (Jb _)
   · exact(fpk b hb).2.2.2.1 x c (cl1 x c q)),fun p hp=>by rw[JF]at hp;exact(fpk b hb).2.2.2.2 p hp⟩
 refine LQ (loop _ IY (T.keep _ _ _ tn3 fun b _ o e=>kp b o e) stat) fun r s5 ⟨hr,σ5,H4,I5,qn⟩=>?_
 subst hr
 obtain⟨m,hn,_⟩:=I5.loc
 refine fin s5 H4 m hn (fun h' hs'=>?_) (I3.fpOk (HA _) I5.free) qn
 have k':∀b o,b≠s3.heap.objs.size->s5.heap.get? b=some o->h'.get? b=some o:=fun b o nb e=>hs'.extBut b o nb e
 have u5:Un (frs X.stack) fp H3 H4 s3.heap s5.heap:=I5.base
 have un:Un (frs X.stack) fp H3 H4 s3.heap h' :=
  ⟨fun b o e n hb hx=>k' b o (notC b o e) (u5.keep b o e n hb hx),fun b o e n hb hx=>by obtain⟨sl,q⟩:=u5.slot b o e n hb hx;exact⟨sl,k' b _ (notC b o e) q⟩,u5.free,
   fun b o e hx=>by obtain⟨o',q⟩:=u5.there b o e hx;exact⟨o',k' b _ (notC b o e) q⟩,u5.tups,u5.frzs,u5.tbls⟩
 have nC:H4 s3.heap.objs.size=none:=I5.free
 have hok':G4 X.prog X.w H4 h':=fun b u e=>(I5.hok b u e).stay (fun c v hcv q=>k' c v (by
  rintro rfl
  rcases hcv with z|z
  · rw[<- z]at e;rw[nC]at e;cases e
  · rw[nC]at z;cases z) q) (fun _ q=>q) fun _ _ q=>q
 obtain⟨hh,g5,d5,t5,os5⟩:=s5
 have os':os5=s3.os:=I5.os
 subst os'
 have I':=Inv.call (s:=s3) (h':=h') (g':=g5) (d':=d5) (t':=t5) (ch:=fp) I3 un hok' I5.bare (fun b hb=>⟨(fpk b hb).2.2.1,(fpk b hb).1,(fpk b hb).2.2.2.1,(fpk b hb).2.2.2.2⟩)
 exact I'
theorem gO{elt:Expr}{g:TG}{tt:TT}{te:TE}{H3:Hp}{s3:Hv}{D:Addr}{J:It}{Q:VK}
 (N':List Str)(fr:List (Option Nat))(hc:X.calm=true)(hkind:scope.kind = .function)(hcell:∀y∈scope.names,y.2 = .cell->scope.names.lookup y.1=some .cell)
 (hfree:∀y∈scope.names,y.2 = .free->X.env.kindOf y.1=some .cell\/X.env.kindOf y.1=some .free)(frl:fr.length=N'.length)
 (frg:∀(i j:Nat),fr[i]?=some (some j)->∃x,N'[i]?=some x/\X.N[j]?=some x/\scope.names.lookup x=some .free/\(X.env.scope.names.lookup x=some .cell\/X.env.scope.names.lookup x=some .free))
 (cl1:∀x c,cl.lookup x=some c->X.env.cells.lookup x=some c)(cl2:∀x,(x,II)∈scope.names->(cl.lookup x).isSome=true)
 (I3:Inv X pins σ H3 s3)(T:Turn X.prog X.w X.K tg J fp it tn)(tn3:tn 0 s3.heap)(fpD:∀b∈fp,H3 b=none)(fp3:∀b∈fp,b<s3.heap.objs.size)
 (fpk:∀b∈fp,b≠X.env.locals/\b∉X.fs/\(b∈X.ex\/X.s₀.heap.objs.size<=b)/\(∀x c,X.env.cells.lookup x=some c->c≠b)/\∀p∈X.pn++pins,p.1≠b)
 (hg:PG (ba X N' scope cl fp (X.pn++pins) s3 H3) tg g)(ht:Gz (ba X N' scope cl fp (X.pn++pins) s3 H3) ifs tt)(he:PE (ba X N' scope cl fp (X.pn++pins) s3 H3) elt te)
 {Wv:Nat->Nat->List V->St->Hp->Prop}{m0:Nat}(w0:Wv 0 m0 [] (mR fr σ) H3)
 (turn:∀i m acc σc H,Wv i m acc σc H->(J.stop i H/\Q (.ref D) H)\/(J.go i H/\∀x H',J.yld i H x H'->g x σc H' fun σ2 H2=>tt σ2 H2 fun b H3 =>
  if b=true then te σ2 H3 fun y H4=>H4 D=some (.lst acc)/\acc.length<sizeLine/\∃m',m'<m/\Wv (i+1) m' (acc++[y]) σ2 (D9 H4 D (.lst (acc++[y])))else ∃m',m'<m/\Wv (i+1) m' acc σ2 H3))
 (fin:∀s5 H4 m,s5.heap.Ns s3.heap.objs.size m->(∀h',J5 s3.heap.objs.size s5.heap h'->Inv X pins σ H4 {s5 with heap:=h' })->jJ X pins H4 s3.heap.objs.size->Q (.ref D) H4->Rp s3.heap.objs.size (.ok .next) s5) :
 HS (Ie X.prog X.w) X.A (Lf scope X.env.globals cl [] X.env.qual none .none (some X.env)) (fun cenv s₄ =>
  JY (Ie X.prog X.w) X.A (.compStart (.ListComp elt [⟨tg,iter,ifs,0⟩] scope pos) 0 (.ref it) (.ref D) {cenv with scope:=NS scope X.env})
   (Rp cenv.locals) s₄) X.xe s3:=by
 refine cW N' fr hc hkind hcell hfree frl frg cl1 cl2 I3 T tn3 fpD fp3 fpk (fun s' IY tY stat=>?_) fin
 have loop:JY (Ie X.prog X.w) X.A (.compLoop (.ListComp elt [⟨tg,iter,ifs,0⟩] scope pos) 0 (.ref it) (.ref D) (ba X N' scope cl fp (X.pn++pins) s3 H3).env)
  (fun r s5=>r = .ok .next/\∃σ5 H4,Inv (ba X N' scope cl fp (X.pn++pins) s3 H3) [] σ5 H4 s5/\Q (.ref D) H4) s':=by
  refine pV (fun n s'=>∃i acc σ' H',Inv (ba X N' scope cl fp (X.pn++pins) s3 H3) [] σ' H' s'/\tn i s'.heap/\(∀b∈fp,H' b=none)/\Wv i n acc σ' H') ?_ m0
   ⟨0,[],_,_,IY,tY,fpD,w0⟩
  rintro n s4 ⟨i,acc,σ4,H4,I4,st4,fr4,w4⟩
  rcases turn i n acc σ4 H4 w4 with⟨stop,qn⟩|⟨go,step⟩
  · exact Eh (T.done (ba X N' scope cl fp (X.pn++pins) s3 H3) rfl rfl rfl hc i [] s4 σ4 H4 (fun _ _=>False) I4 (stat fr4) st4 stop) fun r s5 ⟨hr,I5⟩=>.inl ⟨hr,rfl,σ4,H4,I5,qn⟩
  · refine Eh (T.item (ba X N' scope cl fp (X.pn++pins) s3 H3) rfl rfl rfl hc i [] s4 σ4 H4 (fun _ _=>False) I4 (stat fr4) st4 go) fun r s5 ⟨u,hr,h5⟩=>.inr ⟨u,hr,?_⟩
    refine Eh h5 fun _ s6 ⟨x,H6,I6,r6,y6,st6,fr6⟩=>?_
    have I6':=I6.pinned (stat fr6) (T.obj _ _ st6)
    have again:∀{σ7:St}{H7:Hp}{s7:Hv},Inv (ba X N' scope cl fp (X.pn++pins) s3 H3) ([]++eT fp s6.heap) σ7 H7 s7->∀{acc':List V}{m':Nat},m'<n->Wv (i+1) m' acc' σ7 H7 ->
     ∃m,m<n/\∃i acc σ' H',Inv (ba X N' scope cl fp (X.pn++pins) s3 H3) [] σ' H' s7/\tn i s7.heap/\(∀b∈fp,H' b=none)/\Wv i m acc σ' H':=fun{σ7 H7 s7} I7 {acc' m'} hm w7=>by
     refine⟨m',hm,i+1,acc',σ7,H7,I7.unpinned,T.keep _ _ _ st6 fun b hb o e=>(I7.pin (b,o) (HC _ (HC _ (bA hb e)))).1,fun b hb=>?_,w7⟩
     obtain⟨o,e,d⟩:=T.obj _ _ st6 b hb
     exact(I7.pin (b,o) (HC _ (HC _ (bA hb e)))).2.1
    refine Eh (hg _ s6 σ4 H6 x u _ I6' r6 (step x H6 y6)) fun _ s7 ⟨σ7,H7,I7,q7⟩=>?_
    refine Eh (ht _ s7 σ7 H7 _ I7 q7) fun ok s8 ⟨H8,I8,q8⟩=>?_
    cases ok with
    | false =>
      rw[if_neg Ic]at q8 ⊢
      obtain⟨m',hm,w8⟩:=q8
      exact again I8 hm w8
    | true =>
      rw[if_pos rfl]at q8 ⊢
      refine Eh (he _ s8 σ7 H8 _ I8 q8) fun y s9 ⟨yv,H9,I9,r9,eD,hl,m',hm,w9⟩=>?_
      exact Eh (dr (X:=ba X N' scope cl fp (X.pn++pins) s3 H3) _ s9 σ7 H9 (.ref D) [yv] (.ref D) [y] (fun _ H'=>H'=D9 H9 D (.lst (acc++[yv]))) I9 rfl (.cons r9 .nil) ⟨D,acc,yv,rfl,rfl,eD,hl,rfl⟩)
       fun _ s10 ⟨_,H10,I10,_,e10⟩=>by subst e10;exact again I10 hm w9
 exact Mi loop (T.self X.A 0 _ _ _ tY loop)
section
variable{X:Cx}{elt tg iter:Expr}{ifs:List Expr}{scope:Scope}{pos:Pos}{wi:TI}{g:CompA->TG}{tt:CompA->TT}{te:CompA->TE}
theorem li(N':List Str)(fr:List (Option Nat))(hc:X.calm=true)(hi:PI X tg iter wi)(hfr:lE fr N' X.N scope X.env.scope=true)(hsc:mB scope X.env.scope=true)
 (hg:∀y,PG (FS X N' scope y) tg (g y))(ht:∀y,Gz (FS X N' scope y) ifs (tt y))(he:∀y,PE (FS X N' scope y) elt (te y))
 (hs:∀x,HX iter X.env x=pure x:=by intro _;rfl):PE X (.ListComp elt [⟨tg,iter,ifs,0⟩] scope pos) (uq wi fr g tt te):=by
 intro pins s σ H Q I h
 obtain⟨sk,sn⟩:=Hw.mp hsc
 have hkind:scope.kind = .function:=of_decide_eq_true sk
 have hall:=JI.mp sn
 have hcell:∀y∈scope.names,y.2 = .cell->scope.names.lookup y.1=some .cell:=fun y hy hl=>by
  rcases HP.mp (Hw.mp (Hw.mp (hall y hy)).1).1 with z|z
  · exact absurd hl (of_decide_eq_true z)
  · exact of_decide_eq_true z
 have hnames:∀y∈scope.names,y.2 = .local->scope.names.lookup y.1=some .local:=fun y hy hl=>by
  rcases HP.mp (Hw.mp (Hw.mp (hall y hy)).1).2 with z|z
  · exact absurd hl (of_decide_eq_true z)
  · exact of_decide_eq_true z
 have hfree:∀y∈scope.names,y.2 = .free->X.env.kindOf y.1=some .cell\/X.env.kindOf y.1=some .free:=fun y hy hl=>by
  rcases HP.mp (Hw.mp (hall y hy)).2 with z|z
  · exact absurd hl (of_decide_eq_true z)
  · exact(HP.mp z).imp of_decide_eq_true of_decide_eq_true
 obtain⟨frl,frg⟩:=lE.get hfr
 obtain⟨cl,hclos,cl1,cl2⟩:=ca (env:=X.env) (scope:=scope) fun y hy hl=>I.ok.has y.1 (hfree y hy hl)
 rw[eval_ListComp]
 refine Jz (use:=none) rfl hs hclos hkind hnames (Eh (hi pins s σ H _ I h) fun v s1 h1=>Eh h1 fun itv s2 h2=>?_)
 obtain⟨it,fp,tn,J,H2,e,I2,T,st2,f2,q2⟩:=h2
 subst e
 refine Jx ?_
 have hD:H2 s2.heap.objs.size=none:=I2.hok.fresh (HA _)
 have I3:Inv X pins σ (D9 H2 s2.heap.objs.size (.lst [])) {s2 with heap:=s2.heap.push {cls:=.type "list", data:=.seq ([]:List Hq).toArray}} :=
  I2.laid (t':=s2.toks) (fun b u e=>Hl _ e) (HA _) ⟨by show 0<=sizeLine;exact Ig _,[],0,.nil,HI _ rfl⟩
 obtain⟨Wv,⟨m0,w0⟩,turn⟩:=q2 _ hD
 have tn3:tn 0 (s2.heap.push {cls:=.type "list", data:=.seq ([]:List Hq).toArray}):=T.keep _ _ _ st2 fun b _ o e=>Hl _ e
 have fpD:∀b∈fp,(D9 H2 s2.heap.objs.size (.lst [])) b=none:=fun b hb=>by
  obtain⟨o,e,_⟩:=T.obj _ _ st2 b hb
  rw[aq (Is (HE e))]
  exact(f2 b hb).1
 have fp3:∀b∈fp,b<(s2.heap.push {cls:=.type "list", data:=.seq ([]:List Hq).toArray}).objs.size:=fun b hb=>by
  obtain⟨o,e,_⟩:=T.obj _ _ tn3 b hb
  exact HE e
 exact gO N' fr hc hkind hcell hfree frl frg cl1 cl2 I3 T tn3 fpD fp3 (fun b hb=>(f2 b hb).2) (hg ⟨cl,fp,X.pn++pins,_,_⟩) (ht ⟨cl,fp,X.pn++pins,_,_⟩) (he ⟨cl,fp,X.pn++pins,_,_⟩) w0 (turn ⟨cl,fp,X.pn++pins,_,_⟩)
  (Rp:=Nc (Ie X.prog X.w) X.A X.xe none (EP X pins σ Q) (.ref s2.heap.objs.size)) fun s5 H4 m hn k _ qn=>⟨m,hn,fun h' hs'=>⟨.ref _,H4,k h' hs',rfl,qn⟩⟩
theorem gE{b:Bool}{ix:Nat}(N':List Str)(fr:List (Option Nat))(hc:X.calm=true)(hi:PI X tg iter wi)(hfr:lE fr N' X.N scope X.env.scope=true)(hsc:mB scope X.env.scope=true)
 (hg:∀y,PG (FS X N' scope y) tg (g y))(ht:∀y,Gz (FS X N' scope y) ifs (tt y))(he:∀y,PE (FS X N' scope y) elt (te y))(hN:X.N.Nodup)(hix:X.N[ix]?=some x)(hx:Loc X.env.scope x)
 (hf:X.fn x=true\/X.env.scope.names.lookup x=some .local)(hsw:JE (.ListComp elt [⟨tg,iter,ifs,0⟩] scope pos) (some (.Name x px)) spos.line X.env=pure b)
 (hs:∀x,HX iter X.env x=pure x):PS X (.Assign [.Name x px] (.ListComp elt [⟨tg,iter,ifs,0⟩] scope pos) spos) (xq (uq wi fr g tt te) (iG ix)):=by
 cases b with
 | false=>exact fP hN hix hx (li N' fr hc hi hfr hsc hg ht he hs) hsw hf
 | true =>
 intro pins s σ H DD I h
 obtain⟨sk,sn⟩:=Hw.mp hsc
 have hkind:scope.kind = .function:=of_decide_eq_true sk
 have hall:=JI.mp sn
 have hcell:∀y∈scope.names,y.2 = .cell->scope.names.lookup y.1=some .cell:=fun y hy hl=>by
  rcases HP.mp (Hw.mp (Hw.mp (hall y hy)).1).1 with z|z
  · exact absurd hl (of_decide_eq_true z)
  · exact of_decide_eq_true z
 have hnames:∀y∈scope.names,y.2 = .local->scope.names.lookup y.1=some .local:=fun y hy hl=>by
  rcases HP.mp (Hw.mp (Hw.mp (hall y hy)).1).2 with z|z
  · exact absurd hl (of_decide_eq_true z)
  · exact of_decide_eq_true z
 have hfree:∀y∈scope.names,y.2 = .free->X.env.kindOf y.1=some .cell\/X.env.kindOf y.1=some .free:=fun y hy hl=>by
  rcases HP.mp (Hw.mp (hall y hy)).2 with z|z
  · exact absurd hl (of_decide_eq_true z)
  · exact(HP.mp z).imp of_decide_eq_true of_decide_eq_true
 obtain⟨frl,frg⟩:=lE.get hfr
 obtain⟨cl,hclos,cl1,cl2⟩:=ca (env:=X.env) (scope:=scope) fun y hy hl=>I.ok.has y.1 (hfree y hy hl)
 rw[Li _ _ _ _ hsw]
 refine Hi (Jt (Hi ?_))
 show HS _ X.A (do let _ <- Nd (.ListComp elt [⟨tg,iter,ifs,0⟩] scope pos) scope X.env _ (newList []) false (eval iter X.env) (some (Kz (.Name x px) X.env))) _ _ s
 refine Hi (Ih (Jz (use:=some (Kz (.Name x px) X.env)) (Q:=fun _ s'=>SP X pins DD .next s') rfl hs hclos hkind hnames
  (Eh (hi pins s σ H _ I h) fun v s1 h1=>Eh h1 fun itv s2 h2=>?_)) (fun _ s' hq=>HH (HH hq)) fun _ _ e=>e)
 obtain⟨it,fp,tn,J,H2,e,I2,T,st2,f2,q2⟩:=h2
 subst e
 refine Jx ?_
 have hD:H2 s2.heap.objs.size=none:=I2.hok.fresh (HA _)
 have I3:Inv X pins σ (D9 H2 s2.heap.objs.size (.lst [])) {s2 with heap:=s2.heap.push {cls:=.type "list", data:=.seq ([]:List Hq).toArray}} :=
  I2.laid (t':=s2.toks) (fun b u e=>Hl _ e) (HA _) ⟨by show 0<=sizeLine;exact Ig _,[],0,.nil,HI _ rfl⟩
 obtain⟨Wv,⟨m0,w0⟩,turn⟩:=q2 _ hD
 have tn3:tn 0 (s2.heap.push {cls:=.type "list", data:=.seq ([]:List Hq).toArray}):=T.keep _ _ _ st2 fun b _ o e=>Hl _ e
 have fpD:∀b∈fp,(D9 H2 s2.heap.objs.size (.lst [])) b=none:=fun b hb=>by
  obtain⟨o,e,_⟩:=T.obj _ _ st2 b hb
  rw[aq (Is (HE e))]
  exact(f2 b hb).1
 have fp3:∀b∈fp,b<(s2.heap.push {cls:=.type "list", data:=.seq ([]:List Hq).toArray}).objs.size:=fun b hb=>by
  obtain⟨o,e,_⟩:=T.obj _ _ tn3 b hb
  exact HE e
 refine gO (Q:=fun v H1=>iG ix v σ H1 DD.nx) N' fr hc hkind hcell hfree frl frg cl1 cl2 I3 T tn3 fpD fp3 (fun b hb=>(f2 b hb).2) (hg ⟨cl,fp,X.pn++pins,_,_⟩) (ht ⟨cl,fp,X.pn++pins,_,_⟩) (he ⟨cl,fp,X.pn++pins,_,_⟩) w0 (turn ⟨cl,fp,X.pn++pins,_,_⟩)
  (Rp:=Nc (Ie X.prog X.w) X.A X.xe (some (Kz (.Name x px) X.env)) (fun _ s'=>SP X pins DD .next s') (.ref s2.heap.objs.size)) fun s5 H4 m hn k fpo qn=>?_
 show HS _ X.A (Kz (.Name x px) X.env (.ref s2.heap.objs.size)) _ _ s5
 have I5:Inv X pins σ H4 s5:=k s5.heap (L1 _ _)
 obtain⟨f0,f1,f2',f3,f4,f5⟩:=fpo
 refine K4 (dW I5 hN hix hx (v:=.ref s2.heap.objs.size) rfl (fun s6 I6 sb=>?_) hf)
 obtain⟨a,sb,ha⟩:=sb
 have hne:(s2.heap.push {cls:=.type "list", data:=.seq ([]:List Hq).toArray}).objs.size≠a:=by
  rcases ha with rfl|ha
  · exact f1
  · exact fun z=>f4 x a ha z.symm
 refine⟨m,hn.at' fun o e=>sb.extBut _ o hne e,fun h' hs'=>?_⟩
 exact⟨_,H4,I6.turned (t':=s6.toks) (fun b o hb e=>hs'.extBut b o hb e) f0 f1 f3 f4 f5,qn⟩
end
end L2
namespace L2.VL
noncomputable def W.cap:W->Option W
 | .d x=>some (.d x)
 | .reel=>some .reel
 | .vv u=>some (.vv u)
 | .sc ns=>some (.sc ns)
 | .fd kvs=>some (.fd kvs)
 | .fw kvs=>some (.fw kvs)
 | .ft kvs=>some (.ft kvs)
 | .xc x fs=>some (.xc x fs)
 | .dp kvs x=>some (.dp kvs x)
 | _=>none
noncomputable def dU(fr:List (Option Nat))(ρ:En):En:=fr.map fun o=>o.bind fun j=>((ρ[j]?).join).bind W.cap
noncomputable def lP(X:Cx)(rl:RlT)(ifs:List Expr)(f:TB):Prop:=∃t,Gz X ifs t/\∀{F₀ H₀ F H:Hp}{σ:St}{ρ:En},VR X.K rl F₀ H₀ F H σ ρ->∀(Qd:Bool->Prop)(Q:Bool->Hp->Prop),f ρ Qd ->
 (∀b F' H',Grow rl F H F' H'->Qd b->Q b H')->t σ H Q
theorem bF:lP X rl [] (fun _ Q=>Q true):=⟨_,uQ,fun R Qd Q q k=>k true _ _ (Grow.refl R.sub R.reel) q⟩
theorem gu{f:TB}(h:PB X rl c f):lP X rl [c] f:=let ⟨t,p,k⟩:=h;⟨t,uP p,k⟩
theorem fA{fr:List (Option Nat)}{w:W}(h:(dU fr ρ)[i]?=some (some w)):∃j w',fr[i]?=some (some j)/\ρ[j]?=some (some w')/\w'.cap=some w:=by
 unfold dU at h
 rw[Ii]at h
 cases ef:fr[i]? with
 | none=>rw[ef]at h;cases h
 | some o =>
   cases o with
   | none=>rw[ef]at h;cases h
   | some j =>
     rw[ef]at h
     have h':((ρ[j]?).join).bind W.cap=some w:=IG h
     cases q:ρ[j]? with
     | none=>rw[q]at h';cases h'
     | some o =>
       cases o with
       | none=>rw[q]at h';cases h'
       | some w'=>rw[q]at h';exact⟨j,w',rfl,q,h'⟩
theorem lL{w' w:W}(h:w'.cap=some w):w=w'/\w.own=false/\∀xs,w ≠ .pk xs:=by
 cases w'<;>cases h<;>exact⟨rfl,rfl,(fun _ z=>by cases z)⟩
theorem fq{K:W.Frag}{fr:List (Option Nat)}(R:VR K rl F₀ H₀ F H σ ρ)(g:Grow rl F H F H'):VR K rl F H F H' (mR fr σ) (dU fr ρ):=by
 refine⟨g,fun i w e=>?_,fun i j xs ys v _ e1 _ o1 _ _ _=>?_,fun i xs e=>?_,by simp[mR,dU]⟩
 · obtain⟨j,w',e1,e2,e3⟩:=fA e
   obtain⟨rfl,n1,n2⟩:=lL e3
   obtain⟨v,s1,r1,_⟩:=R.sl j w e2
   refine⟨v,?_,r1.grow g,?_⟩
   · unfold mR
     rw[Ii,e1]
     show some ((σ[j]?).join)=_
     rw[s1]
     rfl
   · cases w with
     | ml xs=>cases n1
     | md xs=>cases n1
     | mk xs=>cases n1
     | nt _=>trivial
     | lk=>trivial
     | sc _=>trivial
     | fd _=>trivial
     | fw _=>trivial
     | ft _=>trivial
     | xc _ _=>trivial
     | dp _ _=>trivial
     | d _=>trivial
     | pk _=>trivial
     | reel=>trivial
     | vv _=>trivial
 · obtain⟨_,_,_,_,e3⟩:=fA e1
   rw[(lL e3).2.1]at o1
   cases o1
 · obtain⟨_,_,_,_,e3⟩:=fA e
   exact absurd rfl ((lL e3).2.2 xs)
theorem dD{fr:List (Option Nat)}:jK (dU fr ρ):=fun i xs e=>by
 obtain⟨_,_,_,_,e3⟩:=fA e
 exact(lL e3).2.1
theorem VR.other{K:W.Frag}(R:VR K rl F₀ H₀ F H σ ρ)(n:jK ρ){D:Addr}{o:HO}(h0:H₀ D=none)(f:F D=none)(hr:rl.a≠some D):VR K rl F₀ H₀ F (D9 H D o) σ ρ:=by
 have neF:∀b u,F b=some u->b≠D:=fun b u q z=>by subst z;rw[f]at q;cases q
 have g:Grow rl F₀ H₀ F (D9 H D o):=by
  refine⟨fun b o q1 n=>by rw[aq (aU q1 h0)];exact R.g.same b o q1 n,R.g.fs,fun b o q1=>by rw[aq (neF b o q1)];exact R.sub b o q1,R.g.old,fun y z=>?_⟩
  obtain⟨z1,⟨u,h1,h2⟩⟩:=R.reel y z
  exact⟨z1,⟨u,by rw[aq (fun q=>hr (by rw[<- q];exact z))];exact h1,h2⟩⟩
 refine⟨g,fun i w e=>?_,R.ap,R.np,R.len⟩
 obtain⟨v,h1,h2,h3⟩:=R.sl i w e
 refine⟨v,h1,?_,h3⟩
 cases w with
 | d x=>exact h2
 | reel=>exact h2
 | vv u=>exact h2
 | ml xs=>cases n i _ e
 | md xs=>cases n i _ e
 | mk xs=>cases n i _ e
 | nt ds=>exact h2
 | lk=>trivial
 | sc _=>exact h2
 | fd _=>exact h2
 | fw _=>exact h2
 | ft _=>exact h2
 | xc _ _=>exact h2
 | dp _ _=>exact h2
 | pk xs=>exact absurd e (R.np i xs)
section
variable{X:Cx}{rl:RlT}{elt tg iter:Expr}{ifs:List Expr}{scope:Scope}{pos:Pos}{fi:En->(List Hg->Prop)->Prop}{g:Gj}{ft:TB}{fe:TV}
end
mutual
def CQ:Hg->Prop
 | .none=>True
 | .bool _=>True
 | .int i=>i.natAbs<2^1900
 | .str x=>Hg.strOk x=true
 | .list xs=>kN xs
 | .tuple xs=>kN xs
 | .dict _=>False
def kN:List Hg->Prop
 | []=>True
 | x::xs=>CQ x/\kN xs
end
noncomputable def Gs(d:Hg):Prop:=CQ d/\d.depth<=60/\d.bulk<=8000
section
variable{X:Cx}{rl:RlT}{a b e:Expr}{es:List Expr}{fa fb fc:TV}{fs:Ge}{pos p:Pos}
theorem cK(hm:X.mg "len" = none)(ha:Gx X rl [a] fs)(hg:Gl X "len" := by rfl)(he:Hy [a] X.env=(false,eval a X.env)::Hy [] X.env:=by rfl)(hpl:(Je pos (Hy [] X.env)).any (·.1)=false:=by rfl) :
 PV X rl (.Call (.Name "len" p) [a] [] pos) (fH zw fs):=hJ jC wO hm boot_len ha hg (by decide) (by decide) he hpl
theorem wV(hm:X.mg "abs" = none)(ha:Gx X rl [a] fs)(hg:Gl X "abs" := by rfl)(he:Hy [a] X.env=(false,eval a X.env)::Hy [] X.env:=by rfl)(hpl:(Je pos (Hy [] X.env)).any (·.1)=false:=by rfl) :
 PV X rl (.Call (.Name "abs" p) [a] [] pos) (fH zC fs):=hJ sd wP hm (by first|rfl|exact boot_abs) ha hg (by decide) (by decide) he hpl
end
structure FnIn (K:W.Frag) (mg:Str->Option Hq) (x:Str) (st:Stmt) (ps:List Str):Prop where
 ex:∃f fd,mg x=some (.ref f)/\Fun K x x st f fd/\Binds K fd ps []
structure Bz (mg:Str->Option Hq):Prop where
 int_:mg "int" = none
 bool_:mg "bool" = none
 str_:mg "str" = none
 list_:mg "list" = none
 tuple_:mg "tuple" = none
 dict_:mg "dict" = none
 isinstance_:mg "isinstance" = none
 len_:mg "len" = none
 abs_:mg "abs" = none
 repr_:mg "repr" = none
 range_:mg "range" = none
 all_:mg "all" = none
 any_:mg "any" = none
 sum_:mg "sum" = none
 min_:mg "min" = none
 max_:mg "max" = none
 sorted_:mg "sorted" = none
 zip_:mg "zip" = none
 enumerate_:mg "enumerate" = none
 reversed_:mg "reversed" = none
 divmod_:mg "divmod" = none
 set_:mg "set" = none
section
variable{P:HZ}{w:IL}{K:W.Frag}{mg:Str->Option Hq}{base:Heap}{rl:RlT}{x:Str}{st:Stmt}{N ps:List Str}{k:Nat}{Pd:List W->(Hg->Prop)->Prop}{t:Gf}
theorem Dfn.of(Fn:FnIn K mg x st ps)(S:FnScope N ps (defScope st))(mono:∀ws Q Q',(∀d,Q d->Q' d)->Pd ws Q->Pd ws Q')(len:∀ws Q,Pd ws Q->ws.length=ps.length)
 (hbody:∀{f:Addr}(cdv:Hq)(A:ID)(outer:List Env)(s:Hv)(H:Hp)(E:XK),Room k (A.deeper (Mq x (defScope st) s.heap.objs.size f cdv)) ->
  lQ (qj G7 P w K mg base N x (defScope st) f cdv A outer s H E).nox rl (defBody st) t)
 (hread:∀ws Q,Pd ws Q->t (qx Q) (dH N ws)):Dfn P w K mg base rl x ps (k+1) Pd:=by
 obtain⟨f,fd,hm,F,hb⟩:=Fn.ex
 exact⟨mono,f,fd,hm,F.kp,hb,D3 F S len hbody hread⟩
end
section
variable{X:Cx}{rl:RlT}{e:Expr}{es:List Expr}{fa fb fc:TV}{fs:Ge}{pos p:Pos}
end
theorem fz_d(x:Hg):(W.d x).fz = .d x:=rfl
theorem fz_ml(x:List Hg):(W.ml x).fz = .d (.list x):=rfl
theorem fz_pk(x:List Hg):(W.pk x).fz = .pk x:=rfl
theorem fz_reel:W.reel.fz = .reel:=rfl
theorem fz_vv(x:V):(W.vv x).fz = .vv x:=rfl
theorem pk_d(x:Hg):L2.VL.W.peek (.d x) = .d x:=rfl
theorem pk_ml(x:List Hg):L2.VL.W.peek (.ml x) = .pk x:=rfl
theorem pk_reel:L2.VL.W.peek .reel = .reel:=rfl
theorem pk_vv(x:V):L2.VL.W.peek (.vv x) = .vv x:=rfl
theorem dat_d(x:Hg):(W.d x).dat=some x:=rfl
theorem dat_ml(x:List Hg):(W.ml x).dat=some (.list x):=rfl
theorem dat_pk(x:List Hg):(W.pk x).dat=some (.list x):=rfl
theorem isPk_d(x:Hg):(W.d x).isPk=false:=rfl
theorem isPk_ml(x:List Hg):(W.ml x).isPk=false:=rfl
theorem isPk_reel:W.reel.isPk=false:=rfl
theorem dats_nil:gi []=some []:=rfl
theorem dats_d(x:Hg)(r:List W):gi (.d x::r)=(gi r).map (x :: ·):=rfl
theorem arg_d(x:Hg):gc (.d x)=true:=rfl
theorem arg_reel:gc .reel=true:=rfl
theorem item_l(xs:List Hg)(i:Int):L2.VL.itemAt (.list xs) i=L2.atI xs i:=rfl
theorem item_t(xs:List Hg)(i:Int):L2.VL.itemAt (.tuple xs) i=L2.atI xs i:=rfl
theorem len_l(xs:List Hg):qh (.list xs)=some xs.length:=rfl
theorem len_t(xs:List Hg):qh (.tuple xs)=some xs.length:=rfl
theorem at0{α:Type}(x:α)(r:List α):L2.atI (x::r) 0=some x:=by simp[L2.atI,L2.ixN]
theorem at1{α:Type}(x y:α)(r:List α):L2.atI (x::y::r) 1=some y:=by
 have:(1:Int)<((x::y::r).length:Int):=by simp;omega
 simp only[L2.atI,L2.ixN]
 rw[if_pos (by decide),if_pos this]
 rfl
theorem fX{x y:Int}(h:y≠0):(x.fmod y).natAbs<y.natAbs:=by
 rcases Int.lt_or_gt_of_ne h with hy|hy
 · have h1:=Mu x y
   have e:x.fmod y = -((-x).fmod (-y)):=by
    have:=Int.neg_fmod_neg x y
    omega
   have p:0 < -y:=by omega
   have b1:=I_ (-x) p
   have b2:=JQ (-x) p
   omega
 · have b1:=I_ x hy
   have b2:=JQ x hy
   omega
theorem iC(x y:Int):Jv y (x.fmod y)=Jv x y:=by
 have e:x.fmod y=x+y*(-(x.fdiv y)):=by
  have:=Mu x y
  rw[Int.mul_neg]
  omega
 rw[e,Int.gcd_add_mul_left_right]
 exact Int.gcd_comm y x
theorem eqv_ii(a b:Int):Iq (.int a) (.int b)=(a==b):=by simp[Iq]
theorem shaped_i(a:Int):Iv (.int a)=true:=rfl
theorem shaped_b(a:Bool):Iv (.bool a)=true:=rfl
theorem eO.of{i j:Int}(h:j≠0)(b:j.natAbs<2^64):eO i j:=⟨h,Hz b (HM (by decide) (by decide))⟩
theorem cY:∀ns:List Int,IW (ns.map H_)=true
 | []=>rfl
 | n::ns=>by simp[IW,Kk,cY ns]
theorem gN:∀ns:List Int,Jp (ns.map H_)=0
 | []=>rfl
 | n::ns=>by simp[Jp,KN,gN ns]
theorem shaped_ints(ns:List Int):Iv (.list (ns.map .int))=true:=by simp[Iv,Kk,KN,cY,gN]
theorem kD(ns:List Hg):Iq (.list ns) (.list [])=ns.isEmpty:=by cases ns<;>simp[Iq,Nf]
theorem vS{a b:Int}(h:b≠0):0<(Jv a b:Int):=by
 have:=Int.gcd_pos_of_ne_zero_right a h
 omega
theorem yR{a b:Int}(h:b≠0):(Jv a b)<=b.natAbs:=Nat.le_of_dvd (by omega) (Int.gcd_dvd_natAbs_right a b)
theorem sg{xs:List α}{k:Int}(h0:0<=k)(h1:k<(xs.length:Int)):∃z,L2.atI xs k=some z/\z∈xs:=by
 obtain⟨n,rfl⟩:=Kf h0
 have hn:n<xs.length:=by omega
 exact⟨xs[n],dw (Hu hn),Iy hn⟩
theorem fL{K:W.Frag}{i:Str}(h:Rep K F v (.str i)):v = .str i:=by cases h;rfl
noncomputable def zy(neg:Bool):W->W->(W->Prop)->Prop:=fun x y Q=>∃a b:Str,x = .d (.str a)/\y = .d (.str b)/\Q (.d (.bool (if neg then !decide (a=b)else decide (a=b))))
theorem dG:F_ X rl EO (zy false):=fun{F H x y wx wy} Qd Q s ra r1 r2 q k=>by
 obtain⟨a,b,rfl,rfl,q⟩:=q
 have e1:=fL r1
 have e2:=fL r2
 subst e1 e2
 have e:decide (V.str a=V.str b)=decide (a=b):=by
  by_cases h:a=b
  · subst h;simp
  · rw[decide_eq_false h,decide_eq_false fun z=>h (by injection z)]
 exact⟨rfl,by rw[e];exact k _ (.d _) _ _ (Grow.refl s ra) (.bl _) trivial q⟩
theorem wI:F_ X rl EL (zy true):=fun{F H x y wx wy} Qd Q s ra r1 r2 q k=>by
 obtain⟨a,b,rfl,rfl,q⟩:=q
 have e1:=fL r1
 have e2:=fL r2
 subst e1 e2
 have e:decide (V.str a=V.str b)=decide (a=b):=by
  by_cases h:a=b
  · subst h;simp
  · rw[decide_eq_false h,decide_eq_false fun z=>h (by injection z)]
 exact⟨rfl,by rw[e];exact k _ (.d _) _ _ (Grow.refl s ra) (.bl _) trivial q⟩
section
variable{P:HZ}{w:IL}{K:W.Frag}{mg:Str->Option Hq}{base:Heap}{rl:RlT}{x:Str}{st:Stmt}{N ps:List Str}{k:Nat}{Pd:List W->(List Hg->Prop)->Prop}{t:Gf}
end
section
variable{X:Cx}{rl:RlT}{e:Expr}{es:List Expr}{fs:Ge}{pos p:Pos}
theorem uS(X:Cx)(rest:List Stmt):GA X rest (fun D σ H=>∀pins s,Inv X pins σ H s->HS (Ie X.prog X.w) X.A (execs rest X.env) (SP X pins D) X.xe s):=fun pins s σ H D I h=>h pins s I
end
section
variable{X:Cx}{rl:RlT}{a b c e:Expr}{es:List Expr}{fa fb fc:TV}{fs:Ge}{pos p:Pos}
noncomputable def eQ:Hg->Option (List Hg)
 | .list xs=>some xs
 | .tuple xs=>some xs
 | _=>none
theorem seq_l(xs:List Hg):eQ (.list xs)=some xs:=rfl
theorem seq_t(xs:List Hg):eQ (.tuple xs)=some xs:=rfl
theorem eQ.of{o:Option Hg}(h:o=some d)(e:eQ d=some xs):o=some (.list xs)\/o=some (.tuple xs):=by
 cases d<;>cases e
 · exact .inl h
 · exact .inr h
noncomputable def rL:List W->(W->Prop)->Prop:=fun ws Q=>∃w d xs,ws=[w]/\w.dat=some d/\eQ d=some xs/\Q (.d (.tuple xs))
theorem wM:iU X rl (fun xs H Q=>∃p ys,xs=[.ref p]/\((Go X.K H p ys/\∀l,H l=none->Q (.ref l) (D9 H l (.tup ys)))\/(Gm X.K H p ys/\Q (.ref p) H))) rL:=fun{F H vs ws} Qd Q s ra r ⟨w,d,xs,ew,ed1,ed2,q⟩ k=>by
 have ed:=eQ.of ed1 ed2
 subst ew
 obtain⟨v,rfl,r1⟩:=qg r
 rcases ed with ed|ed
 · obtain⟨a,us,rfl,sq,rs⟩:=r1.items s ed
   refine⟨a,us,rfl,.inl ⟨sq,fun l hl=>?_⟩⟩
   have g:=Grow.data (a:=l) (o:=.tup us) s ra hl
   exact k _ (.d (.tuple xs)) _ _ g (.tup (.inl (.inl az)) (rs.mono g.fs)) trivial q
 · cases w with
   | d y =>
     cases ed
     cases(show Rep X.K F v (.tuple xs)from r1)with
     | tup sq rs=>exact⟨_,_,rfl,.inr ⟨e9 s sq,k _ (.d (.tuple xs)) _ _ (Grow.refl s ra) (.tup sq rs) trivial q⟩⟩
   | ml ys=>cases ed
   | pk ys=>cases ed
   | reel=>cases ed
   | vv u=>cases ed
   | md u=>cases ed
   | mk u=>cases ed
   | lk=>cases ed
   | sc _=>cases ed
   | fd _=>cases ed
   | fw _=>cases ed
   | ft _=>cases ed
   | xc _ _=>cases ed
   | dp _ _=>cases ed
   | nt ds =>
     cases ed
     obtain⟨b,us,rfl,h,q'⟩:=r1
     exact⟨_,_,rfl,.inr ⟨.inl (.inl (s _ _ h)),k _ (.d (.tuple xs)) _ _ (Grow.refl s ra) (.tup (.inl (.inl h)) q') trivial q⟩⟩
theorem bZ(hm:X.mg "tuple" = none)(ha:Gx X rl [a] fs)(hg:Gl X "tuple" := by rfl)(he:Hy [a] X.env=(false,eval a X.env)::Hy [] X.env:=by rfl)(hpl:(Je pos (Hy [] X.env)).any (·.1)=false:=by rfl) :
 PV X rl (.Call (.Name "tuple" p) [a] [] pos) (fH rL fs):=hG iO wM hm (by rfl) ha hg (by decide) (by decide) he hpl
noncomputable def rN:List W->(W->Prop)->Prop:=fun ws Q=>∃w d xs,ws=[w]/\w.dat=some d/\eQ d=some xs/\Q (.ml xs)
theorem wN:iU X rl (fun xs H Q=>∃p ys,xs=[.ref p]/\(Go X.K H p ys\/Gm X.K H p ys)/\∀l,H l=none->Q (.ref l) (D9 H l (.lst ys))) rN:=fun{F H vs ws} Qd Q s ra r ⟨w,d,xs,ew,ed1,ed2,q⟩ k=>by
 have ed:=eQ.of ed1 ed2
 subst ew
 obtain⟨v,rfl,r1⟩:=qg r
 rcases ed with ed|ed
 · obtain⟨a,us,rfl,sq,rs⟩:=r1.items s ed
   exact⟨a,us,rfl,.inl sq,fun l hl=>k _ (.ml xs) _ _ (Grow.laid s ra hl) (cA s ra hl rs) (fun a ea=>by cases ea;exact hl) q⟩
 · obtain⟨a,us,rfl,sq,rs⟩:=r1.itemsT s ed
   exact⟨a,us,rfl,.inr sq,fun l hl=>k _ (.ml xs) _ _ (Grow.laid s ra hl) (cA s ra hl rs) (fun a ea=>by cases ea;exact hl) q⟩
theorem g_(hm:X.mg "list" = none)(ha:Gx X rl [a] fs)(hg:Gl X "list" := by rfl)(he:Hy [a] X.env=(false,eval a X.env)::Hy [] X.env:=by rfl)(hpl:(Je pos (Hy [] X.env)).any (·.1)=false:=by rfl) :
 PV X rl (.Call (.Name "list" p) [a] [] pos) (fH rN fs):=hG jB wN hm (by rfl) ha hg (by decide) (by decide) he hpl
end
section
variable{X:Cx}{rl:RlT}
end
section
variable{X:Cx}{rl:RlT}{a b c e:Expr}{es:List Expr}{fa fb fc:TV}{fs:Ge}{pos p p2:Pos}
noncomputable def FN(f:Int->Int->Hg):List W->(W->Prop)->Prop:=fun ws Q=>∃i j,ws=[.d (.int i),.d (.int j)]/\Q (.d (f i j))
theorem zR{f:Int->Int->V}{g:Int->Int->Hg}(h:∀K F i j,Rep K F (f i j) (g i j)):iU X rl (fun xs H Q=>∃i j,xs=[.int i,.int j]/\Q (f i j) H) (FN g):=fun{F H vs ws} Qd Q s ra r ⟨i,j,ew,q⟩ k=>by
 subst ew
 obtain⟨v,u,rfl,r1,r2⟩:=CA r
 have e1:=aT r1
 have e2:=aT r2
 subst e1 e2
 exact⟨i,j,rfl,k _ (.d _) _ _ (Grow.refl s ra) (h _ _ i j) trivial q⟩
theorem wT(hm:X.mg "min" = none)(ha:Gx X rl [a,b] fs)(hc:X.calm=true:=by rfl)(hg:Gl X "min" := by rfl)(he:Hy [a,b] X.env=(false,eval a X.env)::Hy [b] X.env:=by rfl)(hpl:(Je pos (Hy [b] X.env)).any (·.1)=false:=by rfl) :
 PV X rl (.Call (.Name "min" p) [a,b] [] pos) (fH (FN fun i j=>.int (min i j)) fs) :=
 hJ (p7 hc) (zR (f:=fun i j=>.int (if j<i then j else i)) fun _ _ i j=>(show(if j<i then j else i)=min i j by split<;>omega) ▸ .int _) hm (by rfl) ha hg (by decide) (by decide) he hpl
noncomputable def rO:List W->(W->Prop)->Prop:=fun ws Q=>(∃i,ws=[.d (.int i)]/\Q (.d (.int i)))\/∃k:Bool,ws=[.d (.bool k)]/\Q (.d (.int (if k then 1 else 0)))
theorem t9:iU X rl (fun xs H Q=>(∃i,xs=[.int i]/\Q (.int i) H)\/∃k,xs=[.bl k]/\Q (.int (if k then 1 else 0)) H) rO:=fun{F H vs ws} Qd Q s ra r h k=>by
 rcases h with⟨i,ew,q⟩|⟨i,ew,q⟩
 · subst ew
   obtain⟨v,rfl,r1⟩:=qg r
   have e1:=aT r1
   subst e1
   exact .inl ⟨i,rfl,k _ (.d _) _ _ (Grow.refl s ra) (.int _) trivial q⟩
 · subst ew
   obtain⟨v,rfl,r1⟩:=qg r
   have e1:=fM r1
   subst e1
   exact .inr ⟨i,rfl,k _ (.d _) _ _ (Grow.refl s ra) (.int _) trivial q⟩
theorem sA(hm:X.mg "int" = none)(ha:Gx X rl [a] fs)(hg:Gl X "int" := by rfl)(he:Hy [a] X.env=(false,eval a X.env)::Hy [] X.env:=by rfl)(hpl:(Je pos (Hy [] X.env)).any (·.1)=false:=by rfl) :
 PV X rl (.Call (.Name "int" p) [a] [] pos) (fH rO fs):=hG p8 t9 hm (by rfl) ha hg (by decide) (by decide) he hpl
noncomputable def FE(C:Int->Int->Prop)(f:Int->Int->Int):Gi:=fun x y H Q=>∃i j,x = .int i/\y = .int j/\C i j/\Q (.int (f i j)) H
theorem vL:GE X .Mult (FE bh fun i j=>i*j):=by
 intro pins s σ H x y v u Q I r1 r2 h
 obtain⟨i,j,e1,e2,hc,q⟩:=h
 subst e1;subst e2
 obtain⟨t,rfl⟩:=r1
 obtain⟨t',rfl⟩:=r2
 exact imul_int ⟨.int _,H,I.tok _,⟨_,rfl⟩,q⟩ hc.ok
noncomputable def z9(i:Nat)(C:Int->Int->Prop)(f:Int->Int->Int)(fa:TV):Gf:=fun D ρ=>∃n,ρ[i]?=some (some (.d (.int n)))/\fa ρ fun w=>∃m,w = .d (.int m)/\C n m/\D.nx (ρ.set i (some (.d (.int (f n m)))))
theorem wH(i:Nat){op:Nz}{C:Int->Int->Prop}{f:Int->Int->Int}(hN:X.N.Nodup)(ho:GE X op (FE C f))(he:PV X rl e fa)(hi:X.N[i]?=some x:=by rfl)(hx:Loc X.env.scope x:=by first|exact Jy rfl|exact IK rfl)
 (hf:X.fn x=true\/X.env.scope.names.lookup x=some .local:=by first|exact .inl rfl|exact .inr rfl):GB X rl (.AugAssign (.Name x pos') op e pos) (z9 i C f fa):=by
 obtain⟨t,p,k⟩:=he
 refine⟨_,x9 hN hi hx p ho hf,fun R Dv D ok ⟨n,e1,q⟩=>?_⟩
 obtain⟨v,s1,r1,_⟩:=R.sl i _ e1
 have ev:=aT r1
 subst ev
 refine⟨_,s1,k R _ _ q fun v w F1 H1 g1 r1 n1 ⟨m,ew,hc,q1⟩=>?_⟩
 subst ew
 have ev:=aT r1
 subst ev
 exact⟨n,m,rfl,rfl,hc,ok.nx _ _ _ _ g1.fs (R.set g1 (v:=.int (f n m)) (w:=.d (.int (f n m))) (.int _) trivial (fun _ z=>by cases z) i) q1⟩
noncomputable def cutD(xs:List Hg)(lo hi:Option Int):List Hg:=(xs.drop (HT.sIx xs.length 0 lo)).take (HT.sIx xs.length xs.length hi-HT.sIx xs.length 0 lo)
theorem Reps.cut{K:W.Frag}{ds:List Hg}(r:Reps K F vs ds)(lo hi:Option Int):Reps K F (wu vs lo hi) (cutD ds lo hi):=by
 unfold wu cutD
 rw[r.length]
 exact(r.drop _).take _
abbrev Gh:=En->(Option Int->Prop)->Prop
noncomputable def Gy(X:Cx)(rl:RlT)(o:Option Expr)(f:Gh):Prop:=∃t,PO X o t/\∀{F₀ H₀ F H:Hp}{σ:St}{ρ:En},VR X.K rl F₀ H₀ F H σ ρ->∀(Qd:Option Int->Prop)(Q:Option Int->Hp->Prop),f ρ Qd ->
 (∀o F' H',Grow rl F H F' H'->Qd o->Q o H')->t σ H Q
noncomputable def EY:Gh:=fun _ Q=>Q none
noncomputable def EZ(fa:TV):Gh:=fun ρ Q=>fa ρ fun w=>∃i,w = .d (.int i)/\Q (some i)
theorem tX:Gy X rl none EY:=⟨_,uV,fun R Qd Q q k=>k _ _ _ (Grow.refl R.sub R.reel) q⟩
theorem tV(h:PV X rl e fa):Gy X rl (some e) (EZ fa):=by
 obtain⟨t,p,k⟩:=h
 refine⟨_,uU p,fun R Qd Q q h=>k R _ _ q fun v w F1 H1 g1 r1 n1 ⟨i,ew,q1⟩=>?_⟩
 subst ew
 exact⟨i,aT r1,h _ F1 H1 g1 q1⟩
noncomputable def Cq(fa:TV)(fl fh:Gh):TV:=fun ρ Q=>fa ρ fun w=>fl ρ fun l=>fh ρ fun h=>∃xs,w.dat=some (.list xs)/\Q (.ml (cutD xs l h))
noncomputable def rP:W->W->(W->Prop)->Prop:=fun x y Q=>∃xs ys,x.dat=some (.list xs)/\y.dat=some (.list ys)/\xs.length+ys.length<=sizeLine/\Q (.ml (xs++ys))
theorem dA.lst{K:W.Frag}{F H:Hp}{v:V}{w:W}{xs:List Hg}(s:bH F H)(r:dA K rl F H v w)(e:w.dat=some (.list xs)):∃a vs,v = .ref a/\H a=some (.lst vs)/\Reps K F vs xs:=by
 have own:gt K rl F H v xs->∃a vs,v = .ref a/\H a=some (.lst vs)/\Reps K F vs xs:=fun⟨a,vs,e1,_,_,e2,e3⟩=>⟨a,vs,e1,e2,e3⟩
 cases w with
 | d y =>
   cases e
   cases(show Rep K F v (.list xs)from r)with
   | lst h q=>exact⟨_,_,rfl,s _ _ h,q⟩
 | ml ys=>cases e;exact own r
 | pk ys=>cases e;exact own r
 | reel=>cases e
 | vv u=>cases e
 | md u=>cases e
 | mk u=>cases e
 | nt u=>cases e
 | lk=>cases e
 | sc _=>cases e
 | fd _=>cases e
 | fw _=>cases e
 | ft _=>cases e
 | xc _ _=>cases e
 | dp _ _=>cases e
theorem t4:F_ X rl CH rP:=fun{F H x y wx wy} Qd Q s ra r1 r2 q k=>by
 obtain⟨xs,ys,e1,e2,z,q⟩:=q
 obtain⟨a,vs,rfl,h1,q1⟩:=r1.lst s e1
 obtain⟨b,us,rfl,h2,q2⟩:=r2.lst s e2
 refine⟨a,b,vs,us,rfl,rfl,h1,h2,by rw[q1.length,q2.length];exact z,fun p hp=>?_⟩
 exact k _ (.ml _) _ _ (Grow.laid s ra hp) (cA s ra hp (q1.append q2)) (fun a ea=>by cases ea;exact hp) q
theorem kY(ha:PV X rl a fa)(hb:PV X rl b fb):PV X rl (.BinOp a .Add b pos) (D7 rP fa fb):=iq yo t4 ha hb
structure GlD (K:W.Frag) (mg:Str->Option Hq) (x:Str) (d:Hg):Prop where
 ex:∃v u,mg x=some u/\RelV v u/\∀F,Rep K F v d
theorem dg(G:GlD X.K X.mg x d)(hg:Gl X x:=by rfl)(hd:(x==("__debug__" : Str))=false:=by decide):PV X rl (.Name x pos) (vC d):=by
 obtain⟨v,u,h1,h2,h3⟩:=G.ex
 exact uO h1 h2 h3 hg hd
structure GlK (K:W.Frag) (x:Str) (d:Hg):Prop where
 ex:∃v u,W.nsIn K IA x=some (some u)/\RelV v u/\∀F,Rep K F v d
theorem GlK.of{K:W.Frag}(k:GlK K x d)(Y:K.In h)(G:h.Ns IA mg):GlD K mg x d:=by
 obtain⟨v,u,h1,h2,h3⟩:=k.ex
 exact⟨v,u,W.mg_of Y G h1,h2,h3⟩
end
end L2.VL
namespace L2
section
variable{X:Cx}{a b:Expr}{ta:TA}{p q pos pos2:Pos}
theorem gH{α β:Type}{R:α->β->Prop}:∀{xs:List α}{ys:List β},xs.length=ys.length->(∀(i:Nat) x y,xs[i]?=some x->ys[i]?=some y->R x y)->I0 R xs ys
 | [],[],_,_=>.nil
 | x::xs,y::ys,hl,h=>.cons (h 0 x y rfl rfl) (gH (by simpa using hl) fun i x y e1 e2=>h (i+1) x y (by simpa using e1) (by simpa using e2))
 | [],_::_,hl,_=>by simp at hl
 | _::_,[],hl,_=>by simp at hl
noncomputable def iz(lo:Int)(n:Nat):List V:=(HL n).map fun(i:Nat)=>V.int (lo+i)
theorem gY{lo:Int}{acc:Array Hq}(h:ItemsOf (fun i v=>∃t,v = .int (lo+i*1) t) acc n):ci (iz lo n) acc.toList:=by
 obtain⟨h1,h2⟩:=h
 refine gH ?_ ?_
 · simp[iz,h1]
 · intro i v u e1 e2
   unfold iz at e1
   rw[Ii]at e1
   obtain⟨t,e4⟩:=h2 i u (by simpa using e2)
   by_cases hi:i<n
   · rw[Hu (by simpa using hi)]at e1
     simp at e1
     subst e1
     exact⟨t,by rw[e4];simp⟩
   · rw[Ms (by simpa using hi)]at e1
     cases e1
theorem mL{Q:VK}{lo hi:Int}{t u v:Tok}{tk:Nat}(hc:X.calm=true)(I:Inv X pins σ H s)(h1 : -(2^62)<=lo)(h2:lo<2^62)(h3 : -(2^62)<=hi)(h4:hi<2^62)(h5:(hi-lo).toNat<=2^24)
 (q:∀l,H l=none->Q (.ref l) (D9 H l (.lst (iz lo (hi-lo).toNat)))):HS (Ie X.prog X.w) X.A (call (.type "list") [.ref s.heap.objs.size]) (EP X pins σ Q) X.xe {s with heap:=s.heap.push {cls:=.type "range", data:=.fields #[.int lo t,.int hi u,.int 1 v]},toks:=tk}:=by
 have I1:Inv X pins σ H {s with heap:=s.heap.push {cls:=.type "range", data:=.fields #[.int lo t,.int hi u,.int 1 v]},toks:=tk}:=I.kept fun b o e=>Hl _ e
 refine call_list_range (n:=(hi-lo).toNat) (I.ok.hd hc) (IsRange.new ..) (small_one h1 h2 h3 h4) (by rw[rangeSize_one];split<;>omega) h5 fun h' tk acc c hk hn hi=>?_
 have hv:=gY hi
 refine⟨.ref _,_,I1.laid (t':=tk) hk (HA _) (show cF X.prog X.w _ h' _ (.lst _)from⟨?_,acc.toList,c,hv,by rw[MG];exact hn⟩),rfl,q _ (I1.hok.fresh (HA _))⟩
 show(iz lo _).length<=sizeLine
 rw[iz,Hm,Ix]
 exact IH h5 (by decide)
noncomputable def C_(ta:TA):TE:=fun σ H Q=>ta σ H fun vs H1=>∃j:Int,vs=[.int j]/\(-(2^62)<=j/\j<2^62)/\j.toNat<=2^24/\∀l,H1 l=none->Q (.ref l) (D9 H1 l (.lst (iz 0 j.toNat)))
theorem mG(hc:X.calm=true)(hl:Gl X "list")(hml:X.mg "list" = none)(hg:Gl X "range")(hm:X.mg "range" = none)(ha:PA X [a] ta)(hs:Hy [a] X.env=[(false,eval a X.env)]:=by rfl)
 (he:Hy [.Call (.Name "range" p) [a] [] pos2] X.env=(false,eval (.Call (.Name "range" p) [a] [] pos2) X.env)::Hy [] X.env:=by rfl)(hpl:(Je pos (Hy [] X.env)).any (·.1)=false:=by rfl) :
 PE X (.Call (.Name "list" q) [.Call (.Name "range" p) [a] [] pos2] [] pos) (C_ ta):=by
 intro pins s σ H Q I h
 refine Kl (eW I hl hml (by rfl) ?_ (by decide) (by decide))
 refine Jf ?_ he hpl
 rw[he]
 show HS _ _ (spliced ((false,eval (.Call (.Name "range" p) [a] [] pos2) X.env)::Je pos (Hy [] X.env))) _ _ s
 refine Calls.spliced_cons ?_
 refine Call_ (eW I hg hm boot_range (Jf (Eh (ha pos2 pins s σ H _ I h) fun us s1 ⟨vs,H1,I1,r1,q1⟩=>?_) hs rfl))
 obtain⟨j,e,⟨h3,h4⟩,h5,q1⟩:=q1
 subst e
 cases r1 with
 | cons r rr =>
   cases rr
   obtain⟨t,rfl⟩:=r
   exact call_range_1 (Calls.spliced_nil (mL hc I1 (by omega) (by omega) h3 h4 (by simpa using h5) (by simpa using q1)))
end
end L2
namespace L2.VL
section
variable{X:Cx}{rl:RlT}{a b c e:Expr}{es:List Expr}{fa fb fc:TV}{fs:Ge}{pos pos2 p q:Pos}
theorem mC{K:W.Frag}(lo:Int)(n:Nat):Reps K F (iz lo n) (aM lo n):=by
 unfold iz aM
 generalize HL n=l
 induction l with
 | nil=>exact .nil
 | cons x l ih=>exact .cons (.int _) ih
noncomputable def Cv(fs:Ge):TV:=fun ρ Q=>fs ρ fun ws=>∃j:Int,ws=[.d (.int j)]/\(-(2^62)<=j/\j<2^62)/\j.toNat<=2^24/\Q (.ml (aM 0 j.toNat))
theorem iX(hml:X.mg "list" = none)(hm:X.mg "range" = none)(ha:Gx X rl [a] fs)(hc:X.calm=true:=by rfl)(hl:Gl X "list" := by rfl)(hg:Gl X "range" := by rfl)(hs:Hy [a] X.env=[(false,eval a X.env)]:=by rfl)
 (he:Hy [.Call (.Name "range" p) [a] [] pos2] X.env=(false,eval (.Call (.Name "range" p) [a] [] pos2) X.env)::Hy [] X.env:=by rfl)(hpl:(Je pos (Hy [] X.env)).any (·.1)=false:=by rfl) :
 PV X rl (.Call (.Name "list" q) [.Call (.Name "range" p) [a] [] pos2] [] pos) (Cv fs):=by
 obtain⟨t,p1,k⟩:=ha
 refine⟨_,mG hc hl hml hg hm p1 hs he hpl,fun R Qd Q q h=>k R _ _ q fun vs ws F1 H1 g1 r1 ⟨j,ew,z,y,q1⟩=>?_⟩
 subst ew
 obtain⟨v,rfl,rv⟩:=qg r1
 have e1:=aT rv
 subst e1
 exact⟨j,rfl,z,y,fun l hl=>h _ (.ml _) _ _ (g1.trans (Grow.laid g1.sub g1.reel hl)) (cA g1.sub g1.reel hl (mC _ _)) (fun a ea=>by cases ea;exact g1.freeB hl) q1⟩
noncomputable def jM(i j:Nat)(fa:TV):Gf:=fun D ρ=>∃xs ys,ρ[i]?=some (some (.ml xs))/\ρ[j]?=some (some (.ml ys))/\fa ρ fun w=>∃k y,w = .d (.int k)/\0<=k/\k<(ys.length:Int)/\ys.length<2^62/\ys[k.toNat]?=some y/\xs.length<sizeLine /\
 D.nx ((ρ.set j (some (.ml (ys.eraseIdx k.toNat)))).set i (some (.ml (xs++[y]))))
theorem Reps.erase{K:W.Frag}{F:Hp}:∀{vs:List V}{ds:List Hg}(n:Nat),Reps K F vs ds->Reps K F (vs.eraseIdx n) (ds.eraseIdx n)
 | _,_,_,.nil=>by simp;exact .nil
 | _,_,0,.cons h r=>r
 | _,_,n+1,.cons h r=>.cons h (Reps.erase n r)
theorem mY(i j:Nat){y:Str}{py ap cp ap2 cp2:Pos}(hij:i≠j)(ha:PV X rl e fa)(hN:X.N[i]?=some x:=by rfl)(hv:F0 X.env.scope x:=by first|exact Jy rfl|exact IK (Jy rfl)|exact IK (IK rfl))(hN2:X.N[j]?=some y:=by rfl)(hv2:F0 X.env.scope y:=by first|exact Jy rfl|exact IK (Jy rfl)|exact IK (IK rfl))
 (hd:(x==("__debug__" : Str))=false:=by decide)(hcd:(x==("__classdict__" : Str))=false:=by decide)(hd2:(y==("__debug__" : Str))=false:=by decide)(hcd2:(y==("__classdict__" : Str))=false:=by decide)
 (hbase:Kv (.Name x px) "append" X.env (eval (.Name x px) X.env)=eval (.Name x px) X.env:=by rfl)(hbase2:Kv (.Name y py) "pop" X.env (eval (.Name y py) X.env)=eval (.Name y py) X.env:=by rfl)
 (hfew2:((Je cp2 (Hy [e] X.env)).all (fun x=>!x.1)&&(LR cp2 (Kq [] X.env)).all (fun x=>x.1.isSome)
  && decide (([e]).length+([]:List KF).length+(if([]:List KF).isEmpty then 0 else 1)<30))=true:=by rfl)
 (hline2:(ap2.endLine==cp2.line)=true:=by rfl)(hs2:Hy [e] X.env=(false,eval e X.env)::Hy [] X.env:=by rfl)(hplain2:(Je cp2 (Hy [] X.env)).any (·.1)=false:=by rfl)
 (hfew:((Je cp (Hy [.Call (.Attribute (.Name y py) "pop" ap2) [e] [] cp2] X.env)).all (fun x=>!x.1)&&(LR cp (Kq [] X.env)).all (fun x=>x.1.isSome)
  && decide (([Expr.Call (.Attribute (.Name y py) "pop" ap2) [e] [] cp2]).length+([]:List KF).length+(if([]:List KF).isEmpty then 0 else 1)<30))=true:=by rfl)
 (hline:(ap.endLine==cp.line)=true:=by rfl)(hs:Hy [.Call (.Attribute (.Name y py) "pop" ap2) [e] [] cp2] X.env=(false,eval (.Call (.Attribute (.Name y py) "pop" ap2) [e] [] cp2) X.env)::Hy [] X.env:=by rfl)(hplain:(Je cp (Hy [] X.env)).any (·.1)=false:=by rfl)
 (hsw:JE (.Call (.Attribute (.Name x px) "append" ap) [.Call (.Attribute (.Name y py) "pop" ap2) [e] [] cp2] [] cp) none pos.line X.env=pure false:=by rfl) :
 GB X rl (.Expr (.Call (.Attribute (.Name x px) "append" ap) [.Call (.Attribute (.Name y py) "pop" ap2) [e] [] cp2] [] cp) pos) (jM i j fa):=by
 obtain⟨t,p1,k⟩:=ha
 refine⟨_,j8 (qU Ke KL KM dr (cx hN hv hd hcd) (dO (qU Ke PySem.F.slot_list_pop PySem.F.type_list_pop re (cx hN2 hv2 hd2 hcd2) (dO p1 jk hs2) hbase2 hfew2 hline2 hs2 hplain2) jk hs) hbase hfew hline hs hplain) hsw,fun{F₀ H₀ F H σ ρ} R Dv D ok ⟨xs,ys,e1,e2,q⟩=>?_⟩
 obtain⟨v,h1,h2,h3⟩:=R.sl i _ e1
 obtain⟨a,vs,rfl,f,hr,hh,rs⟩:=(show gt X.K rl F H v xs from h2)
 obtain⟨v',h1',h2',h3'⟩:=R.sl j _ e2
 obtain⟨a',vs',rfl,f',hr',hh',rs'⟩:=(show gt X.K rl F H v' ys from h2')
 have hne:a≠a':=fun z=>R.ap i j _ _ (.ref a) hij e1 e2 rfl rfl h1 (by rw[h1',z])
 refine⟨.ref a,h1,.inl ⟨rfl,vs,.inl (.inl hh)⟩,.ref a',h1',.inl ⟨rfl,vs',.inl (.inl hh')⟩,k R _ _ q fun v w F1 H1 g1 r1 n1 ⟨kk,y,ew,b1,b2,b3,ey,hz,q1⟩=>?_⟩
 subst ew
 have ev:=aT r1
 subst ev
 have hA:=g1.same a _ hh hr
 have hA':=g1.same a' _ hh' hr'
 have rs1:=rs.mono g1.fs
 have rs1':=rs'.mono g1.fs
 obtain⟨vy,ey',ry⟩:=rs1'.get ey
 refine⟨a',vs',kk,kk.toNat,vy,rfl,rfl,hA',by omega,by omega,?_,ey',?_⟩
 · have:kk<(vs'.length:Int):=by rw[rs'.length];exact b2
   exact NG b1 this
 · have R1:=(R.grow g1).own e2 h1' (rs1'.erase kk.toNat)
   have e1':(ρ.set j (some (.ml (ys.eraseIdx kk.toNat))))[i]?=some (some (.ml xs)):=by rw[HU (Mp hij)];exact e1
   refine⟨a,vs,vy,rfl,rfl,by rw[aq hne];exact hA,by rw[rs.length];exact hz,?_⟩
   exact ok.nx _ _ _ _ g1.fs (R1.own e1' h1 (rs1.snoc ry)) q1
end
end L2.VL
namespace L2
section
variable{X:Cx}{tg e:Expr}{ta te:TE}{p p2 pos:Pos}
end
end L2
namespace L2.VL
section
variable{X:Cx}{rl:RlT}{a b c e tg:Expr}{es:List Expr}{fa fb fc:TV}{fs:Ge}{pos pos2 p p2 q:Pos}
end
end L2.VL
namespace L2
section
variable{X:Cx}
end
end L2
namespace L2.VL
section
variable{X:Cx}{rl:RlT}{a b c e:Expr}{es:List Expr}{fa fb fc:TV}{fs:Ge}{pos p p2:Pos}
end
end L2.VL
namespace L2.TM
section
variable{prog:HZ}{w:IL}{A:ID}{E:Hq->Hv->Prop}{s:Hv}{k:Int}{t:Tok}{l:Addr}{its:Array Hq}
end
end L2.TM
namespace L2
section
variable{X:Cx}
end
end L2
namespace L2.VL
section
variable{X:Cx}{rl:RlT}{a b c e:Expr}{es:List Expr}{fa fb fc:TV}{fs:Ge}{pos p p2:Pos}
noncomputable def A9:W->W->(W->Prop)->Prop:=fun x y Q=>∃xs ys,x = .d (.tuple xs)/\y = .d (.tuple ys)/\xs≠[]/\xs.length+ys.length<=sizeLine/\Q (.d (.tuple (xs++ys)))
theorem tZ:F_ X rl (uL X.K) A9:=fun{F H x y wx wy} Qd Q s ra r1 r2 q k=>by
 obtain⟨xs,ys,rfl,rfl,hne,hz,q⟩:=q
 cases(show Rep X.K F x (.tuple xs)from r1)with
 | @tup a vs _ sq rs =>
   cases(show Rep X.K F y (.tuple ys)from r2)with
   | @tup b us _ Ez rs2 =>
     refine⟨a,b,vs,us,rfl,rfl,e9 s sq,e9 s Ez,fun z=>hne ?_,by rw[rs.length,rs2.length];exact hz,fun e=>?_,fun e p hp=>?_⟩
     · subst z;cases rs;rfl
     · subst e
       cases rs2
       rw[JF]at q
       exact k _ (.d (.tuple xs)) _ _ (Grow.refl s ra) (.tup sq rs) trivial q
     · have g:=Grow.data (a:=p) (o:=.tup (vs++us)) s ra hp
       exact k _ (.d _) _ _ g (.tup (.inl (.inl az)) ((rs.append rs2).mono g.fs)) trivial q
end
end L2.VL
namespace L2
section
variable{X:Cx}
theorem Room.u65{k:Nat}(r:Room k A):A.units+65<Ni:=by have:=r.un;omega
noncomputable def xU(K:W.Frag):R2:=fun x y H Q=>∃a b ys,x = .ref a/\y = .ref b/\Gm K H a []/\Gm K H b ys/\Q (.ref b) H
theorem vg:GK X (Ku .Add) (xU X.K):=by
 intro pins s σ H x y v u Q I rx ry h
 obtain⟨a,b,ys,rfl,rfl,ha,hb,q⟩:=h
 cases rx
 cases ry
 obtain⟨its,r1,p1,_⟩:=I.tuple ha
 obtain⟨its2,r2,p2,_⟩:=I.tuple hb
 cases r1
 obtain⟨⟨c1,d1,e1,sl1⟩,ho,hc,n,hd⟩:=p1
 obtain⟨⟨c2,d2,e2,sl2⟩,ho2,hc2,n2,hd2⟩:=p2
 cases hc;cases hd;cases hc2;cases hd2
 exact Np ⟨_,ho,rfl⟩ ⟨_,ho2,rfl⟩ Ma M9 K2 KW (KI _ _)
  (tuple_addW0 a b _ its2.toArray n n2 d1 d2 sl1 sl2 rfl) ⟨ho,ho2,⟨.ref b,H,I,rfl,q⟩⟩
noncomputable def xT(K:W.Frag):R2:=fun x y H Q=>uL K x y H Q\/xU K x y H Q
theorem vf:GK X (Ku .Add) (xT X.K):=fun pins s σ H x y v u Q I rx ry h=>h.elim (ve pins s σ H x y v u Q I rx ry) (vg pins s σ H x y v u Q I rx ry)
section
variable{prog:HZ}{w:IL}{A:ID}{E:Hq->Hv->Prop}{s:Hv}
end
theorem lU{vs:List Hq}(h:Lz vs ns):ci (ns.map V.int) vs:=by
 induction h with
 | nil=>exact .nil
 | cons n t r ih=>exact .cons ⟨t,rfl⟩ ih
end
end L2
namespace L2.VL
section
variable{X:Cx}{rl:RlT}{a b c e:Expr}{es:List Expr}{fa fb fc:TV}{fs:Ge}{pos p p2:Pos}
noncomputable def rQ:W->W->(W->Prop)->Prop:=fun x y Q=>∃xs ys,x = .d (.tuple xs)/\y = .d (.tuple ys)/\xs.length+ys.length<=sizeLine/\Q (.d (.tuple (xs++ys)))
theorem t6:F_ X rl (xT X.K) rQ:=fun{F H x y wx wy} Qd Q s ra r1 r2 q k=>by
 obtain⟨xs,ys,rfl,rfl,hz,q⟩:=q
 by_cases hx:xs=[]
 · subst hx
   cases(show Rep X.K F x (.tuple [])from r1)with
   | @tup a vs _ sq rs =>
     cases rs
     cases(show Rep X.K F y (.tuple ys)from r2)with
     | @tup b us _ Ez rs2=>exact .inr ⟨a,b,us,rfl,rfl,e9 s sq,e9 s Ez,k _ (.d (.tuple ys)) _ _ (Grow.refl s ra) (.tup Ez rs2) trivial q⟩
 · exact .inl (tZ Qd Q s ra r1 r2 ⟨xs,ys,rfl,rfl,hx,hz,q⟩ k)
theorem nl(ha:PV X rl a fa)(hb:PV X rl b fb):PV X rl (.BinOp a .Add b pos) (D7 rQ fa fb):=iq vf t6 ha hb
theorem fv{K:W.Frag}{F:Hp}:∀{vs:List V}{ns:List Int},Reps K F vs (ns.map .int)->vs=ns.map V.int
 | _,[],h=>h.nil_iff
 | _,n::ns,.cons h r=>by rw[aT h,fv r];rfl
theorem lB{K:W.Frag}{F:Hp}:∀{ns:List Int},Reps K F (ns.map V.int) (ns.map .int)
 | []=>.nil
 | n::ns=>.cons (.int n) lB
end
end L2.VL
namespace L2.TO
section
variable{prog:HZ}{w:IL}{A:ID}{E:Hq->Hv->Prop}{s:Hv}
end
end L2.TO
namespace L2
section
variable{X:Cx}{a b e:Expr}{ta:TA}{te:TE}{p p2 q pos pos2:Pos}
end
end L2
namespace L2.VL
section
variable{X:Cx}{rl:RlT}{a b c e:Expr}{es:List Expr}{fa fb fc:TV}{fs:Ge}{pos pos2 p q p2:Pos}
end
end L2.VL
namespace L2.TW
section
variable{prog:HZ}{w:IL}{A:ID}{E:Hq->Hv->Prop}{s:Hv}
end
end L2.TW
namespace L2
section
variable{X:Cx}
end
end L2
namespace L2.VL
section
variable{X:Cx}{rl:RlT}{a b c e:Expr}{es:List Expr}{fa fb fc:TV}{fs:Ge}{pos p p2:Pos}
end
end L2.VL
namespace L2
abbrev DB(D:List (Str×Int)):List (Hg×Hg):=(D.map fun q=>(q.1,H_ q.2)).map fun q=>(Nm q.1,q.2)
section
variable{X:Cx}{e:Expr}{ty:TE}{px apos cpos:Pos}
end
end L2
namespace L2.VL
section
variable{X:Cx}{rl:RlT}{a b c e:Expr}{es:List Expr}{fa fb fc:TV}{fs:Ge}{pos p p2 px apos cpos:Pos}
end
end L2.VL
set_option exponentiation.threshold 10000
namespace L2.VL
noncomputable def wq(a b:Int):Hg:=.tuple [.int (a.fdiv (Jv a b)),.int (b.fdiv (Jv a b))]
theorem iE{a b:Int}(hb:0<b)(z:b.natAbs<2^8000)(i:Int):eO i (Jv a b:Int):=by
 have h1:=vS (a:=a) (b:=b) (by omega)
 have h2:=yR (a:=a) (b:=b) (by omega)
 exact⟨by omega,Km (by omega) (Hz z (HM (by decide) (by decide)))⟩
noncomputable def zj(bs:List Int):Prop:=bs.length=4/\(∀b∈bs,2<=b/\b<=16)/\bs.Pairwise fun x y=>Jv x y=1
instance (bs:List Int):Decidable (zj bs):=by unfold zj;infer_instance
noncomputable def pr(a b:Int):Hg:=.tuple [.int a,.int b]
theorem GlK.pair{K:W.Frag}{a b:Int}{p:Addr}{sl:Array (Option Hq)}{t u:Tok}(h1:W.nsIn K IA x=some (some (.ref p)))
 (h2:K.lookup p=some ⟨.type "tuple", none,.seq #[.int a t,.int b u] n,sl⟩):GlK K x (pr a b):=by
 refine⟨.ref p,.ref p,h1,rfl,fun F=>.tup (vs:=[.int a,.int b]) (.inr ⟨_,_,n,h2,rfl,rfl,(by show 2<=sizeLine;decide),.cons ⟨t,rfl⟩ (.cons ⟨u,rfl⟩ .nil),rfl⟩) (.cons (.int a) (.cons (.int b) .nil))⟩
end L2.VL
set_option exponentiation.threshold 10000
namespace L2.VL
noncomputable def stepT(b:Int)(p:List Int)(t:Int)(a:Nat):Int:=t*b+p.getD a 0
noncomputable def Eb:Hg->Int
 | .int i=>i
 | _=>0
section
variable{P:HZ}{w:IL}{K:W.Frag}{mg:Str->Option Hq}{base:Heap}{rl:RlT}{x:Str}{st:Stmt}{N ps:List Str}{k:Nat}{Pd:List W->(List Hg->Prop)->Prop}{t:Gf}
end
section
variable{X:Cx}{rl:RlT}{a b c e:Expr}{es:List Expr}{fa fb fc:TV}{fs:Ge}{pos p p2 px apos cpos:Pos}
end
end L2.VL
namespace L2.IX
section
variable{prog:HZ}{w:IL}{A:ID}{E:Hq->Hv->Prop}{s:Hv}
end
end L2.IX
namespace L2
section
variable{X:Cx}
end
end L2
namespace L2.VL
section
variable{X:Cx}{rl:RlT}{a b c e:Expr}{es:List Expr}{fa fb fc:TV}{fs:Ge}{pos p p2 px apos cpos:Pos}
noncomputable def yN:Hg->Bool
 | .none=>true
 | _=>false
noncomputable def rM:W->W->(W->Prop)->Prop:=fun x y Q=>∃xs k,x.dat=some (.list xs)/\y = .d (.int k) /\ -(2^63)<=k/\k<2^63/\xs.length*k.toNat<=sizeLine/\Q (.ml (H0 k.toNat xs).flatten)
theorem xL{K:W.Frag}{F:Hp}{vs:List V}{ds:List Hg}(r:Reps K F vs ds):∀n:Nat,Reps K F (H0 n vs).flatten (H0 n ds).flatten
 | 0=>.nil
 | n+1=>by rw[Jg,Jg,Kb,Kb];exact r.append (xL r n)
theorem tW:F_ X rl CB rM:=fun{F H x y wx wy} Qd Q s ra r1 r2 q k=>by
 obtain⟨xs,n,e1,rfl,h1,h2,hz,q⟩:=q
 have ey:=aT r2
 subst ey
 obtain⟨a,vs,rfl,hh,rs⟩:=r1.lst s e1
 refine⟨a,n,vs,rfl,rfl,hh,h1,h2,by rw[rs.length];exact hz,fun p hp=>?_⟩
 exact k _ (.ml _) _ _ (Grow.laid s ra hp) (cA s ra hp (xL rs n.toNat)) (fun a ea=>by cases ea;exact hp) q
theorem wR(ha:PV X rl a fa)(hb:PV X rl b fb):PV X rl (.BinOp a .Mult b pos) (D7 rM fa fb):=iq ym tW ha hb
end
end L2.VL
namespace L2.ZP
section
variable{prog:HZ}{w:IL}{A:ID}{E:Hq->Hv->Prop}{s:Hv}{it a:Addr}{k:Nat}{xs:Array Hq}{v:Hq}
theorem um(st:s.heap.IsTupleIter it a k)(tu:s.heap.IsTuple a xs)(e:xs[k]?=some v)
 (q:∀g,g.IsTupleIter it a (k+1)->J5 it s.heap g->Q v {s with heap:=g}):HS (Ie prog w) A (Iu (.ref it)) Q E s:=by
 have ty:=st.typeIs
 obtain⟨o,oe,oc,od⟩:=st
 obtain⟨l,le,_,_,ld⟩:=tu
 unfold Iu
 have sl:=F.slot_tuple_iterator_next
 refine Hi (JG (name:=Hj "__next__") ty sl (J4 sl ty F.entry_tuple_iterator_next ?_ (F.args_tuple_iterator_next_1 _)))
 show HS _ _ (do let z <- NJ (.ref it) 0;_) _ _ s
 refine Hi (Jh oe od (x:=.ref a) rfl ?_)
 show HS _ _ (ite ((Kp a==K3)=true) _ _) _ _ s
 rw[if_neg (show ¬(Kp a == .none)=true by intro z;cases z)]
 show HS _ _ (do let z <- NJ (.ref it) 1;_) _ _ s
 refine Hi (Jh oe od (x:=.int k 0) rfl ?_)
 show HS _ _ (do let z <- NK (.ref a);_) _ _ s
 refine Hi (JN le ld ?_)
 simp only[JW,e]
 refine Hi (wpAny_setField oe od (by simp) (HH ⟨v,rfl,HH (q _ ?_ (MS ..))⟩))
 refine⟨_,Mv _ oe (Obj.isFreed_of_fields (Obj.data_mapFields od _)),?_,?_⟩
 · exact(Obj.cls_mapFields ..).trans oc
 · rw[Obj.data_mapFields od];simp[NC]
theorem xl(hd:A.handled=none)(st:s.heap.IsTupleIter it a k)(tu:s.heap.IsTuple a xs)(e:xs[k]?=none)
 (q:∀g x,Heap.ExtBut it s.heap g->(∃o,g.get? x=some o/\o.cls = .type "StopIteration")->E (.ref x) {s with heap:=g}):HS (Ie prog w) A (Iu (.ref it)) Q E s:=by
 have ty:=st.typeIs
 obtain⟨o,oe,oc,od⟩:=st
 obtain⟨l,le,_,_,ld⟩:=tu
 unfold Iu
 have sl:=F.slot_tuple_iterator_next
 refine Hi (JG (name:=Hj "__next__") ty sl (J4 sl ty F.entry_tuple_iterator_next ?_ (F.args_tuple_iterator_next_1 _)))
 show HS _ _ (do let z <- NJ (.ref it) 0;_) _ _ s
 refine Hi (Jh oe od (x:=.ref a) rfl ?_)
 show HS _ _ (ite ((Kp a==K3)=true) _ _) _ _ s
 rw[if_neg (show ¬(Kp a == .none)=true by intro z;cases z)]
 show HS _ _ (do let z <- NJ (.ref it) 1;_) _ _ s
 refine Hi (Jh oe od (x:=.int k 0) rfl ?_)
 show HS _ _ (do let z <- NK (.ref a);_) _ _ s
 refine Hi (JN le ld ?_)
 simp only[JW,e]
 refine Hi (K5 (Hi (wpAny_setField oe od (by simp) ?_)))
 show HS _ _ (do let z <- newExc (.type "StopIteration") [];_) _ _ _
 refine Hi ?_
 simp only[newExc,newTuple]
 refine Hi (Jx ?_ (by size_fits))
 refine Hi (m:=firstArgMember _ _) (NL (a:=.none) (by first|rfl|(simp only[firstArgMember];rfl)) (Jx ?_ (by size_fits)))
 simp only[raiseNew]
 refine Hi (wpAny_handled ?_)
 first
  | rw[show A.in1.handled=none from hd]
  | rw[hd]
 refine Hi (HH (wpAny_throw ?_))
 exact q _ _ (((MS ..).extBut.push _).push _) ⟨_,HI _ rfl,rfl⟩
end
noncomputable def GZ(h:Heap)(it a:Addr)(xs:Array Hq)(k:Nat):Prop:=(h.IsListIter it a k/\h.IsList a xs)\/(h.IsTupleIter it a k/\h.IsTuple a xs)
section
variable{prog:HZ}{w:IL}{A:ID}{E:Hq->Hv->Prop}{s:Hv}{it a:Addr}{k:Nat}{xs:Array Hq}{v:Hq}
theorem GZ.item(st:GZ s.heap it a xs k)(ne:a≠it)(e:xs[k]?=some v)
 (q:∀g,GZ g it a xs (k+1)->J5 it s.heap g->Q v {s with heap:=g}):HS (Ie prog w) A (Iu (.ref it)) Q E s:=by
 rcases st with⟨h1,h2⟩|⟨h1,h2⟩
 · exact wpAny_nextOf_list_item h1 h2 e fun g h3 h4=>q g (.inl ⟨h3,h2.extBut h4.extBut ne⟩) h4
 · exact um h1 h2 e fun g h3 h4=>q g (.inr ⟨h3,h2.extBut h4.extBut ne⟩) h4
theorem GZ.fin(hd:A.handled=none)(st:GZ s.heap it a xs k)(e:xs[k]?=none)
 (q:∀g x,Heap.ExtBut it s.heap g->(∃o,g.get? x=some o/\o.cls = .type "StopIteration")->E (.ref x) {s with heap:=g}):HS (Ie prog w) A (Iu (.ref it)) Q E s:=by
 rcases st with⟨h1,h2⟩|⟨h1,h2⟩
 · exact wpAny_nextOf_list_end hd h1 h2 e q
 · exact xl hd h1 h2 e q
theorem GZ.keep(st:GZ h it a xs k)(e1:∀o,h.get? it=some o->h'.get? it=some o)(e2:∀o,h.get? a=some o->h'.get? a=some o):GZ h' it a xs k:=by
 rcases st with⟨⟨o,h1,r1⟩,⟨p,h2,r2⟩⟩|⟨⟨o,h1,r1⟩,⟨p,h2,r2⟩⟩
 · exact .inl ⟨⟨o,e1 _ h1,r1⟩,⟨p,e2 _ h2,r2⟩⟩
 · exact .inr ⟨⟨o,e1 _ h1,r1⟩,⟨p,e2 _ h2,r2⟩⟩
end
section
variable{prog:HZ}{w:IL}{A:ID}{E:Hq->Hv->Prop}{s:Hv}{z ti to i1 i2 a1 a2:Addr}{k1 k2:Nat}{xs ys:Array Hq}{x y p q:Hq}
theorem SameBut.keep(sb:J5 a h h')(ne:b≠a):∀o,h.get? b=some o->h'.get? b=some o:=fun o e=>sb.extBut _ _ ne e
theorem tO(D:ZipApart z ti to i1 i2 a1 a2)(oz:Nn s.heap z ti to .none)(oi:LF s.heap ti (.ref i1) (.ref i2))(oo:LF s.heap to p q)
 (s1:GZ s.heap i1 a1 xs k1)(s2:GZ s.heap i2 a2 ys k2)(ex:xs[k1]?=some x)(ey:ys[k2]?=some y)
 (done:∀g,Nn g z ti to (NC s.heap.objs.size)->LF g to x y->GZ g i1 a1 xs (k1+1)->GZ g i2 a2 ys (k2+1)->LF g s.heap.objs.size x y->g.objs.size=s.heap.objs.size+1 ->
  (∀b o,b≠z->b≠to->b≠i1->b≠i2->s.heap.get? b=some o->g.get? b=some o)->Q (.ref s.heap.objs.size) {s with heap:=g}) :
 HS (Ie prog w) A (Builtin.«zip.__next__» ⟨[.ref z],[]⟩) (fun r s'=>∃u,r = .done (.ret u)/\Q u s') E s:=by
 show HS _ _ (do let c <- NJ (.ref z) 2;_) _ _ _
 refine Hi (Jh oz rfl (x:=.bool false) rfl ?_)
 show HS _ _ (do let c <- NJ (.ref z) 3;_) _ _ _
 refine Hi (Jh oz rfl (x:=.ref ti) rfl ?_)
 refine Hi (JN oi rfl ?_)
 show HS _ _ (do let c <- IB (.ref z);_) _ _ _
 refine Hi ?_
 unfold IB
 refine Hi (Jh oz rfl (x:=K3) rfl (HH ?_))
 simp only[if_true]
 refine Hi (K5 (Hi (Jh oz rfl (x:=.ref to) rfl (Hi (IP oz (by simp) fun g1 z1 b1=>?_)))))
 have z1:Nn g1 z ti to .ellipsis:=z1
 refine Hi ?_
 simp only[LC,List.forIn_nil,List.zipIdx_cons,List.zipIdx_nil]
 have s1a:GZ g1 i1 a1 xs k1:=s1.keep (SameBut.keep b1 D.i1z) (SameBut.keep b1 D.l1z)
 refine Hi (Hi (L7 ?_))
 show HS _ _ (do let c <- Iu (.ref i1);_) _ _ _
 refine Hi (s1a.item D.l1i1 ex fun g2 s1b b2=>HH ?_)
 have o2:LF g2 to p q:=b2.extBut _ _ D.TOi1 (b1.extBut _ _ D.TOz oo)
 refine Hi (JN o2 rfl (Hi (Lu o2 fun g3 o3 b3=>?_)))
 have o3:LF g3 to x q:=o3
 refine Hi (KG (HH ?_))
 have s2a:GZ g3 i2 a2 ys k2:=((s2.keep (SameBut.keep b1 D.i2z) (SameBut.keep b1 D.l2z)).keep (SameBut.keep b2 D.i12.symm) (SameBut.keep b2 D.l2i1)).keep (SameBut.keep b3 D.TOi2.symm) (SameBut.keep b3 D.l2TO)
 refine Hi (Hi (L7 ?_))
 show HS _ _ (do let c <- Iu (.ref i2);_) _ _ _
 refine Hi (s2a.item D.l2i2 ey fun g4 s2b b4=>HH ?_)
 have o4:LF g4 to x q:=b4.extBut _ _ D.TOi2 o3
 refine Hi (JN o4 rfl (Hi (Lu o4 fun g5 o5 b5=>?_)))
 have o5:LF g5 to x y:=o5
 refine Hi (KG (HH (HH ?_)))
 refine Hi (JN o5 rfl (Hi (wpAny_newTuple ?_)))
 have size:g5.objs.size=s.heap.objs.size:=by rw[b5.1,b4.1,b3.1,b2.1,b1.1]
 have z5:Nn g5 z ti to .ellipsis:=b5.extBut _ _ D.TOz.symm (b4.extBut _ _ D.i2z.symm (b3.extBut _ _ D.TOz.symm (b2.extBut _ _ D.i1z.symm z1)))
 have kp:∀b o,b≠z->b≠to->b≠i1->b≠i2->s.heap.get? b=some o->g5.get? b=some o:=fun b o n1 n2 n3 n4 e=>b5.extBut _ _ n2 (b4.extBut _ _ n4 (b3.extBut _ _ n2 (b2.extBut _ _ n3 (b1.extBut _ _ n1 e))))
 have s1c:GZ g5 i1 a1 xs (k1+1):=((s1b.keep (SameBut.keep b3 D.TOi1.symm) (SameBut.keep b3 D.l1TO)).keep (SameBut.keep b4 D.i12) (SameBut.keep b4 D.l1i2)).keep (SameBut.keep b5 D.TOi1.symm) (SameBut.keep b5 D.l1TO)
 have s2c:GZ g5 i2 a2 ys (k2+1):=s2b.keep (SameBut.keep b5 D.TOi2.symm) (SameBut.keep b5 D.l2TO)
 have zl:z<g5.objs.size:=HE z5
 show HS _ _ (do Jr (.ref z) (.ref g5.objs.size);_) _ _ _
 refine Hi ?_
 unfold Jr
 have z6:Nn (g5.push {cls:=.type "tuple", data:=.seq #[x,y]}) z ti to .ellipsis:=Hl _ z5
 refine Hi (IP z6 (by simp) fun g7 z7 b7=>?_)
 have z7:Nn g7 z ti to (NC g5.objs.size):=z7
 refine IP z7 (by simp) fun g8 z8 b8=>?_
 have z8:Nn g8 z ti to (NC g5.objs.size):=z8
 have up:∀b o,b≠z->g5.get? b=some o->g8.get? b=some o:=fun b o n e=>b8.extBut _ _ n (b7.extBut _ _ n (Hl _ e))
 have t8:LF g8 g5.objs.size x y:=b8.extBut _ _ (JV zl) (b7.extBut _ _ (JV zl) (HI _ rfl))
 have l8:g8.objs.size=g5.objs.size+1:=by rw[b8.1,b7.1,Jq]
 rw[size]at z8 t8 l8
 refine HH ⟨_,rfl,?_⟩
 show Q (.ref g5.objs.size) _
 rw[size]
 exact done g8 z8 (up _ _ D.TOz o5) (s1c.keep (fun o e=>up _ o D.i1z e) fun o e=>up _ o D.l1z e) (s2c.keep (fun o e=>up _ o D.i2z e) fun o e=>up _ o D.l2z e) t8 l8 fun b o n1 n2 n3 n4 e=>up b o n1 (kp b o n1 n2 n3 n4 e)
theorem wB{Q:Fin->Hv->Prop}(hd:A.handled=none)(D:ZipApart z ti to i1 i2 a1 a2)(oz:Nn s.heap z ti to .none)(oi:LF s.heap ti (.ref i1) (.ref i2))(oo:LF s.heap to p q)
 (s1:GZ s.heap i1 a1 xs k1)(s2:GZ s.heap i2 a2 ys k2)(e:xs[k1]?=none\/ys[k2]?=none)
 (q':∀g x,(∀b o,b≠z->b≠to->b≠i1->b≠i2->s.heap.get? b=some o->g.get? b=some o)->(∃o,g.get? x=some o/\o.cls = .type "StopIteration")->E (.ref x) {s with heap:=g}) :
 HS (Ie prog w) A (Builtin.«zip.__next__» ⟨[.ref z],[]⟩) Q E s:=by
 show HS _ _ (do let c <- NJ (.ref z) 2;_) _ _ _
 refine Hi (Jh oz rfl (x:=.bool false) rfl ?_)
 show HS _ _ (do let c <- NJ (.ref z) 3;_) _ _ _
 refine Hi (Jh oz rfl (x:=.ref ti) rfl ?_)
 refine Hi (JN oi rfl ?_)
 show HS _ _ (do let c <- IB (.ref z);_) _ _ _
 refine Hi ?_
 unfold IB
 refine Hi (Jh oz rfl (x:=K3) rfl (HH ?_))
 simp only[if_true]
 refine Hi (K5 (Hi (Jh oz rfl (x:=.ref to) rfl (Hi (IP oz (by simp) fun g1 z1 b1=>?_)))))
 have z1:Nn g1 z ti to .ellipsis:=z1
 refine Hi ?_
 simp only[LC,List.forIn_nil,List.zipIdx_cons,List.zipIdx_nil]
 have s1a:GZ g1 i1 a1 xs k1:=s1.keep (SameBut.keep b1 D.i1z) (SameBut.keep b1 D.l1z)
 refine Hi (Hi (L7 ?_))
 show HS _ _ (do let c <- Iu (.ref i1);_) _ _ _
 have last:∀(g g':Heap)(u:Addr)(o:Obj),g.get? u=some o->o.cls = .type "StopIteration" -> Nn g z ti to .ellipsis->J5 z g g'->∃o,g'.get? u=some o/\o.cls = .type "StopIteration" := fun g g' u o h1 h2 h3 sb=>by
  have ne:u≠z:=fun c=>by rw[c,h3]at h1;cases h1;simp at h2
  exact⟨o,sb.extBut _ _ ne h1,h2⟩
 cases ex:xs[k1]? with
 | none =>
   refine Hi (s1a.fin hd ex fun g2 u b2 ⟨o,ou,oc⟩=>?_)
   have z2:Nn g2 z ti to .ellipsis:=b2 _ _ D.i1z.symm z1
   exact IP z2 (by simp) fun g3 _ b3=>q' g3 u (fun b o n1 _ n3 _ e=>b3.extBut _ _ n1 (b2 _ _ n3 (b1.extBut _ _ n1 e))) (last g2 g3 u o ou oc z2 b3)
 | some x =>
   have ey:ys[k2]?=none:=e.elim (fun h=>by rw[ex]at h;cases h) id
   refine Hi (s1a.item D.l1i1 ex fun g2 s1b b2=>HH ?_)
   have o2:LF g2 to p q:=b2.extBut _ _ D.TOi1 (b1.extBut _ _ D.TOz oo)
   refine Hi (JN o2 rfl (Hi (Lu o2 fun g3 o3 b3=>?_)))
   refine Hi (KG (HH ?_))
   have s2a:GZ g3 i2 a2 ys k2:=((s2.keep (SameBut.keep b1 D.i2z) (SameBut.keep b1 D.l2z)).keep (SameBut.keep b2 D.i12.symm) (SameBut.keep b2 D.l2i1)).keep (SameBut.keep b3 D.TOi2.symm) (SameBut.keep b3 D.l2TO)
   refine Hi (Hi (L7 ?_))
   show HS _ _ (do let c <- Iu (.ref i2);_) _ _ _
   refine Hi (s2a.fin hd ey fun g4 u b4 ⟨o,ou,oc⟩=>?_)
   have z4:Nn g4 z ti to .ellipsis:=b4 _ _ D.i2z.symm (b3.extBut _ _ D.TOz.symm (b2.extBut _ _ D.i1z.symm z1))
   exact IP z4 (by simp) fun g5 _ b5=>q' g5 u (fun b o n1 n2 n3 n4 e=>b5.extBut _ _ n1 (b4 _ _ n4 (b3.extBut _ _ n2 (b2.extBut _ _ n3 (b1.extBut _ _ n1 e))))) (last g4 g5 u o ou oc z4 b5)
end
noncomputable def Gq(b:Bool)(h:Heap)(a:Addr)(xs:Array Hq):Prop:=bif b then h.IsTuple a xs else h.IsList a xs
noncomputable def Fz(b:Bool):String:=bif b then "tuple_iterator" else "list_iterator"
theorem Gq.push{b:Bool}{h:Heap}{a:Addr}{xs:Array Hq}(q:Gq b h a xs)(o:Obj):Gq b (h.push o) a xs:=by
 cases b with
 | true=>exact Heap.IsTuple.push q o
 | false=>exact Heap.IsList.push q o
section
variable{prog:HZ}{w:IL}{A:ID}{E:Hq->Hv->Prop}{s:Hv}{b b1 b2:Bool}{a a1 a2:Addr}{xs ys:Array Hq}
theorem ro(st:Gq b s.heap a xs)(q:Q (.ref s.heap.objs.size) {s with heap:=s.heap.push {cls:=.type (Fz b),data:=.fields #[.ref a,.int 0 0]}}):HS (Ie prog w) A (NB (.ref a)) Q E s:=by
 cases b with
 | true=>exact LP st q
 | false=>exact K6 st q
abbrev y1(h:Heap)(b1:Bool)(a1:Addr):Heap:=h.push {cls:=.type (Fz b1),data:=.fields #[.ref a1,.int 0 0]}
abbrev y2(h:Heap)(b1 b2:Bool)(a1 a2:Addr):Heap:=(y1 h b1 a1).push {cls:=.type (Fz b2),data:=.fields #[.ref a2,.int 0 0]}
abbrev y3(h:Heap)(b1 b2:Bool)(a1 a2:Addr):Heap:=(y2 h b1 b2 a1 a2).push {cls:=.type "tuple", data:=.seq #[.ref h.objs.size,.ref (y1 h b1 a1).objs.size]}
abbrev y4(h:Heap)(b1 b2:Bool)(a1 a2:Addr):Heap:=(y3 h b1 b2 a1 a2).push {cls:=.type "tuple", data:=.seq #[.none,.none]}
abbrev y5(h:Heap)(b1 b2:Bool)(a1 a2:Addr):Heap:=(y4 h b1 b2 a1 a2).push {cls:=.type "zip", data:=.fields #[.none,.bool false,.bool false,.ref (y2 h b1 b2 a1 a2).objs.size,.ref (y3 h b1 b2 a1 a2).objs.size]}
theorem tQ(b1 b2:Bool)(a1 a2:Addr)(xs ys:Array Hq) :
 Meets (Builtin.«zip.__new__» ⟨[.type "zip", .ref a1,.ref a2],[]⟩) (fun _ R s=>Gq b1 s.heap a1 xs/\Gq b2 s.heap a2 ys/\R (.ok (.ret (.ref (y4 s.heap b1 b2 a1 a2).objs.size))) {s with heap:=y5 s.heap b1 b2 a1 a2}) :=
 .of_wp fun prog w A R s h=>by
  obtain⟨hp,g,d,tk,os⟩:=s
  obtain⟨q1,q2,h⟩:=h
  have hsub:=sub_zip
  have k1:Gq b1 (NM ⟨hp,g,d,tk,os⟩) a1 xs:=q1
  have k2:Gq b2 (NM ⟨hp.push {cls:=.type (Fz b1),data:=.fields #[.ref a1,.int 0 0]},g,d,tk,os⟩) a2 ys:=q2.push _
  wp_walk using ro k1,ro k2
  exact⟨_,rfl,h⟩
theorem sa(q1:Gq b1 s.heap a1 xs)(q2:Gq b2 s.heap a2 ys)
 (k:∀g,Nn g (s.heap.objs.size+4) (s.heap.objs.size+2) (s.heap.objs.size+3) .none->LF g (s.heap.objs.size+2) (.ref s.heap.objs.size) (.ref (s.heap.objs.size+1))->LF g (s.heap.objs.size+3) .none .none ->
  GZ g s.heap.objs.size a1 xs 0->GZ g (s.heap.objs.size+1) a2 ys 0->g.objs.size=s.heap.objs.size+5->(∀c o,s.heap.get? c=some o->g.get? c=some o)->Q (.ref (s.heap.objs.size+4)) {s with heap:=g}) :
 HS (Ie prog w) A (call (.type "zip") [.ref a1,.ref a2]) Q E s:=by
 refine callType_new F.called_zip (by decide) (F.typeCall_zip_2 _ _) (F.newCall_zip_2 _ _) (fun u=>F.args_object_init_3 u _ _) F.entry_zip_new (tQ b1 b2 a1 a2 xs ys) ⟨q1,q2,?_⟩
 have n1:(y1 s.heap b1 a1).objs.size=s.heap.objs.size+1:=Jq ..
 have n2:(y2 s.heap b1 b2 a1 a2).objs.size=s.heap.objs.size+2:=by rw[Jq,n1]
 have n3:(y3 s.heap b1 b2 a1 a2).objs.size=s.heap.objs.size+3:=by rw[Jq,n2]
 have n4:(y4 s.heap b1 b2 a1 a2).objs.size=s.heap.objs.size+4:=by rw[Jq,n3]
 have n5:(y5 s.heap b1 b2 a1 a2).objs.size=s.heap.objs.size+5:=by rw[Jq,n4]
 have pu:∀{h:Heap}{o u:Obj}{c:Addr},h.get? c=some u->(h.push o).get? c=some u:=fun e=>Hl _ e
 have kp:∀c o,s.heap.get? c=some o->(y5 s.heap b1 b2 a1 a2).get? c=some o:=fun c o e=>pu (pu (pu (pu (pu e))))
 have f5:(y5 s.heap b1 b2 a1 a2).get? (y4 s.heap b1 b2 a1 a2).objs.size=some _:=HI _ rfl
 have f4:(y5 s.heap b1 b2 a1 a2).get? (y3 s.heap b1 b2 a1 a2).objs.size=some _:=pu (HI _ rfl)
 have f3:(y5 s.heap b1 b2 a1 a2).get? (y2 s.heap b1 b2 a1 a2).objs.size=some _:=pu (pu (HI _ rfl))
 have f2:(y5 s.heap b1 b2 a1 a2).get? (y1 s.heap b1 a1).objs.size=some _:=pu (pu (pu (HI _ rfl)))
 have f1:(y5 s.heap b1 b2 a1 a2).get? s.heap.objs.size=some _:=pu (pu (pu (pu (HI _ rfl))))
 show _/\_
 rw[n2,n3,n4]at f5
 rw[n1,n2]at f3
 rw[n3]at f4
 rw[n1]at f2
 rw[n4]
 have mk:∀{b:Bool}{i a:Addr}{zs:Array Hq},(y5 s.heap b1 b2 a1 a2).get? i=some {cls:=.type (Fz b),data:=.fields #[.ref a,.int 0 0]}->Gq b s.heap a zs->GZ (y5 s.heap b1 b2 a1 a2) i a zs 0:=fun{b i a zs} e q=>by
  cases b with
  | true=>obtain⟨o,h1,h2⟩:=(show s.heap.IsTuple a zs from q);exact .inr ⟨⟨_,e,rfl,rfl⟩,⟨o,kp _ _ h1,h2⟩⟩
  | false=>obtain⟨o,h1,h2⟩:=(show s.heap.IsList a zs from q);exact .inl ⟨⟨_,e,rfl,rfl⟩,⟨o,kp _ _ h1,h2⟩⟩
 exact⟨⟨_,f5,rfl⟩,k _ f5 f3 f4 (mk f1 q1) (mk f2 q2) n5 kp⟩
end
end L2.ZP
namespace L2
open PySem PySem.Spec PyProof.Rows L2.ZP
theorem Inv.turnedL{ch:List Addr}(I:Inv X pins σ H s)(k:∀b o,b∉ch->s.heap.get? b=some o->h'.get? b=some o)(hn:∀b∈ch,jJ X pins H b) :
 Inv X pins σ H {s with heap:=h',toks:=t' }:=by
 have nit:∀b u,H b=some u->b∉ch:=fun b u e z=>by rw[(hn b z).1]at e;cases e
 refine I.step (g':=s.gens) (d':=s.drawn) (ch:=ch) (fun b hb=>?_) (fun b o _ _ hc e _=>k b o hc e) (fun b o _ _ hc e _=>⟨o.slots,k b o hc e⟩) (fun _ _ _ _ n=>n) (fun b o hc e=>⟨o,k b o hc e⟩) (fun _ _ e=>e) (fun _ _ _ e=>e) (fun b ps e=>⟨#[],by rw[e];simp⟩) (fun m hm=>?_) (fun b u e=>?_) I.bare
 · obtain⟨_,h2,_,h4,h5,h6⟩:=hn b hb
   exact⟨h4,h2,h5,h6⟩
 · obtain⟨o,es,ep,ho,r⟩:=hm
   exact⟨o,es,ep,k _ o (fun z=>(hn _ z).2.1 rfl) ho,r⟩
 · refine(I.hok b u e).stay (fun c v hc q=>k c v ?_ q) (fun _ q=>q) fun _ _ q=>q
   rcases hc with z|z
   · rw[z];exact nit b u e
   · exact nit c _ z
noncomputable def Gp(b:Bool)(K:W.Frag)(H:Hp)(a:Addr)(xs:List V):Prop:=bif b then Gm K H a xs else Go K H a xs
theorem Inv.sqB{b:Bool}{xs:List V}(I:Inv X pins σ H s)(h:Gp b X.K H a xs):∃its,ci xs its/\Gq b s.heap a its.toArray:=by
 cases b with
 | true =>
   obtain⟨its,r,t,z⟩:=I.tuple h
   exact⟨its,r,t⟩
 | false =>
   obtain⟨its,r,p,z⟩:=I.list h
   exact⟨its,r,p.isList⟩
theorem Inv.sqB_inj{b:Bool}{xs ys:List V}(I:Inv X pins σ H s)(h:Gp b X.K H a xs)(h':Gp b X.K H a ys):xs=ys:=by
 cases b with
 | true=>exact I.tuple_inj h h'
 | false=>exact I.list_inj h h'
noncomputable def GU(K:W.Frag)(b1 b2:Bool)(a1 a2:Addr):It :=
 ⟨fun i H=>∃xs ys x y,Gp b1 K H a1 xs/\Gp b2 K H a2 ys/\xs[i]?=some x/\ys[i]?=some y,
  fun i H v H'=>∃x y p,(∀xs,Gp b1 K H a1 xs->xs[i]?=some x)/\(∀ys,Gp b2 K H a2 ys->ys[i]?=some y)/\H p=none/\v = .ref p/\H'=D9 H p (.tup [x,y]),
  fun i H=>∃xs ys,Gp b1 K H a1 xs/\Gp b2 K H a2 ys/\(xs.length<=i\/ys.length<=i)⟩
noncomputable def G0(b:Bool)(h:Heap)(it a:Addr)(k:Nat):Prop:=bif b then h.IsTupleIter it a k else h.IsListIter it a k
theorem G0.it1{b:Bool}{k:Nat}{xs:Array Hq}(q:G0 b h it a k)(r:Gq b h a xs):GZ h it a xs k:=by
 cases b with
 | true=>exact .inr ⟨q,r⟩
 | false=>exact .inl ⟨q,r⟩
theorem G0.keep{b:Bool}{k:Nat}(q:G0 b h it a k)(e:∀o,h.get? it=some o->h'.get? it=some o):G0 b h' it a k:=by
 cases b with
 | true=>obtain⟨o,h1,r⟩:=(show h.IsTupleIter it a k from q);exact⟨o,e _ h1,r⟩
 | false=>obtain⟨o,h1,r⟩:=(show h.IsListIter it a k from q);exact⟨o,e _ h1,r⟩
theorem G0.obj{b:Bool}{k:Nat}(q:G0 b h it a k):∃o,h.get? it=some o/\∀v,o.data ≠ .cell v:=by
 cases b with
 | true=>obtain⟨o,h1,_,d⟩:=(show h.IsTupleIter it a k from q);exact⟨o,h1,fun v z=>by rw[d]at z;cases z⟩
 | false=>obtain⟨o,h1,_,d⟩:=(show h.IsListIter it a k from q);exact⟨o,h1,fun v z=>by rw[d]at z;cases z⟩
theorem GZ.ir{b:Bool}{k:Nat}{xs:Array Hq}{h0:Heap}(q:GZ h it a xs k)(r:G0 b h0 it a j)(s:Gq b h a xs):G0 b h it a k:=by
 cases b with
 | true =>
   rcases q with⟨_,⟨o,e,c,_⟩⟩|⟨q,_⟩
   · obtain⟨o',e',c',_⟩:=(show h.IsTuple a xs from s)
     rw[e]at e';cases e';rw[c]at c';injection c' with z;exact absurd z (by decide)
   · exact q
 | false =>
   rcases q with⟨q,_⟩|⟨_,⟨o,e,c,_⟩⟩
   · exact q
   · obtain⟨o',e',c',_⟩:=(show h.IsList a xs from s)
     rw[e]at e';cases e';rw[c]at c';injection c' with z;exact absurd z (by decide)
noncomputable def ZS(b1 b2:Bool)(z ti to i1 i2 a1 a2:Addr)(i:Nat)(h:Heap):Prop:=Nn h z ti to .none/\LF h ti (.ref i1) (.ref i2)/\(∃p q,LF h to p q)/\G0 b1 h i1 a1 i/\G0 b2 h i2 a2 i
theorem Gq.of{b:Bool}{xs:Array Hq}(q:Gq b h a xs)(e:∀o,h.get? a=some o->h'.get? a=some o):Gq b h' a xs:=by
 cases b with
 | true=>obtain⟨o,h1,r⟩:=(show h.IsTuple a xs from q);exact⟨o,e _ h1,r⟩
 | false=>obtain⟨o,h1,r⟩:=(show h.IsList a xs from q);exact⟨o,e _ h1,r⟩
theorem qy{K:W.Frag}{elts:List Expr}{kt:Nat}{pt:Pos}(b1 b2:Bool)(z ti to i1 i2 a1 a2:Addr)(D:ZipApart z ti to i1 i2 a1 a2) :
 Turn P w K (.Tuple elts kt pt) (GU K b1 b2 a1 a2) [z,ti,to,i1,i2] z (ZS b1 b2 z ti to i1 i2 a1 a2) where
 mem:=by simp
 obj:=fun i h ⟨h1,h2,⟨p,q,h3⟩,h4,h5⟩ b hb=>by
  simp at hb
  rcases hb with rfl|rfl|rfl|rfl|rfl
  · exact⟨_,h1,fun v c=>by cases c⟩
  · exact⟨_,h2,fun v c=>by cases c⟩
  · exact⟨_,h3,fun v c=>by cases c⟩
  · exact h4.obj
  · exact h5.obj
 keep:=fun i h h' ⟨h1,h2,⟨p,q,h3⟩,h4,h5⟩ k=>⟨k z (by simp) _ h1,k ti (by simp) _ h2,⟨p,q,k to (by simp) _ h3⟩,h4.keep fun o e=>k i1 (by simp) o e,h5.keep fun o e=>k i2 (by simp) o e⟩
 item:=by
  intro X hP hw hK hc i pins s σ H E I hf st hg
  subst hP hw hK
  obtain⟨h1,h2,⟨p,q,h3⟩,h4,h5⟩:=st
  obtain⟨xs,ys,x,y,q1,q2,ex,ey⟩:=hg
  obtain⟨its,r1,t1⟩:=I.sqB q1
  obtain⟨jts,r2,t2⟩:=I.sqB q2
  obtain⟨u,hu,ru⟩:=r1.get ex
  obtain⟨v,hv,rv⟩:=r2.get ey
  have ty:s.TypeIs (.ref z) "zip" := ⟨_,h1,rfl⟩
  unfold LZ
  refine Hi (L8 (JG (name:=Hj "__next__") ty F.slot_zip_next (J4 F.slot_zip_next ty F.entry_zip_next
   (tO D h1 h2 h3 (h4.it1 t1) (h5.it1 t2) (by simpa using hu) (by simpa using hv) fun g e1 e2 e3 e4 e5 e6 e7=>HH ?_) (F.args_zip_next_1 _))))
  have hz:s.heap.objs.size≠z:=JV (HE h1)
  refine⟨.ref s.heap.objs.size,rfl,wpAny_letOwnedTupleGo_zip e1 fun g' f1 fb=>?_⟩
  have hp:H s.heap.objs.size=none:=I.hok.fresh (HA _)
  have I1:Inv X pins σ (D9 H s.heap.objs.size (.tup [x,y])) {s with heap:=s.heap.push {cls:=.type "tuple", data:=.seq [u,v].toArray}} :=
   I.laid (t':=s.toks) (o:=.tup [x,y]) (fun b ob e=>Hl _ e) (HA _) ⟨(by show 2<=sizeLine;decide),[u,v],.cons ru (.cons rv .nil),qf.new _ _⟩
  have ne:∀b∈[z,ti,to,i1,i2],b≠s.heap.objs.size:=fun b hb e=>by
   simp at hb
   rcases hb with rfl|rfl|rfl|rfl|rfl
   · exact hz e.symm
   · exact absurd (HE h2) (by rw[e];exact Jb _)
   · exact absurd (HE h3) (by rw[e];exact Jb _)
   · obtain⟨o,ho,_⟩:=h4.obj
     exact absurd (HE ho) (by rw[e];exact Jb _)
   · obtain⟨o,ho,_⟩:=h5.obj
     exact absurd (HE ho) (by rw[e];exact Jb _)
  have kg:∀b o,b∉[z,ti,to,i1,i2]->(s.heap.push {cls:=.type "tuple", data:=.seq [u,v].toArray}).get? b=some o->g'.get? b=some o:=fun b o hb e=>by
   simp at hb
   obtain⟨n1,n2,n3,n4,n5⟩:=hb
   refine fb.extBut _ _ n1 ?_
   by_cases hbn:b=s.heap.objs.size
   · subst hbn
     rw[HI _ rfl]at e
     cases e
     exact e5
   · exact e7 b o n1 n3 n4 n5 (by rw[Heap.get?_push_ne _ _ _ hbn]at e;exact e)
  have fp1:∀b∈[z,ti,to,i1,i2],jJ X pins (D9 H s.heap.objs.size (.tup [x,y])) b:=fun b hb=>by
   obtain⟨f0,fr⟩:=hf b hb
   exact⟨by rw[aq (ne b hb)];exact f0,fr⟩
  have I2:Inv X pins σ (D9 H s.heap.objs.size (.tup [x,y])) {s with heap:=g' }:=I1.turnedL (t':=s.toks) kg fp1
  have k8:∀b o,b≠z->g.get? b=some o->g'.get? b=some o:=fun b o n e=>fb.extBut _ _ n e
  have t1':Gq b1 g a1 its.toArray:=Gq.of t1 fun o e=>e7 _ o D.l1z D.l1TO D.l1i1 D.l1i2 e
  have t2':Gq b2 g a2 jts.toArray:=Gq.of t2 fun o e=>e7 _ o D.l2z D.l2TO D.l2i1 D.l2i2 e
  refine⟨.ref s.heap.objs.size,_,I2,rfl,⟨x,y,_,fun xs' q'=>by rw[I.sqB_inj q' q1];exact ex,fun ys' q'=>by rw[I.sqB_inj q' q2];exact ey,hp,rfl,rfl⟩,⟨f1,k8 _ _ D.TIz (e7 _ _ D.TIz D.TITO D.TIi1 D.TIi2 h2),⟨_,_,k8 _ _ D.TOz e2⟩,(GZ.ir e3 h4 t1').keep fun o e=>k8 _ o D.i1z e,(GZ.ir e4 h5 t2').keep fun o e=>k8 _ o D.i2z e⟩,fun b hb=>(fp1 b hb).1⟩
 done:=by
  intro X hP hw hK hc i pins s σ H E I hf st hg
  subst hP hw hK
  obtain⟨h1,h2,⟨p,q,h3⟩,h4,h5⟩:=st
  obtain⟨xs,ys,q1,q2,ex⟩:=hg
  obtain⟨its,r1,t1⟩:=I.sqB q1
  obtain⟨jts,r2,t2⟩:=I.sqB q2
  have l1:=r1.length
  have l2:=r2.length
  have ty:s.TypeIs (.ref z) "zip" := ⟨_,h1,rfl⟩
  unfold LZ
  refine Hi (L8 (JG (name:=Hj "__next__") ty F.slot_zip_next (J4 F.slot_zip_next ty F.entry_zip_next
   (wB (I.ok.hd hc) D h1 h2 h3 (h4.it1 t1) (h5.it1 t2) (by simp;omega) fun g e kg ⟨o,ho,hoc⟩=>?_) (F.args_zip_next_1 _))))
  refine Hi (wpAny_isInstance (T := "StopIteration") (b:=true) ⟨o,ho,hoc⟩ isSubtype_stop (HH ⟨rfl,?_⟩))
  exact I.turnedL (t':=s.toks) (fun b o hb e=>by simp at hb;exact kg b o hb.1 hb.2.2.1 hb.2.2.2.1 hb.2.2.2.2 e) hf
 self:=fun _ _ _ _ _ st h=>wpAny_pyIter_zip st.1 h
open PySem PySem.Spec PyProof.Rows L2.ZP
section
variable{X:Cx}{e1 e2:Expr}{ta:TA}{elts:List Expr}{kt:Nat}{pt p pos:Pos}
noncomputable def Do(K:W.Frag)(b1 b2:Bool)(t:TA):TI:=fun σ H R=>t σ H fun vs H1=>∃a1 a2 xs ys,vs=[.ref a1,.ref a2]/\Gp b1 K H1 a1 xs/\Gp b2 K H1 a2 ys/\R (GU K b1 b2 a1 a2) H1
theorem yb(b1 b2:Bool)(hg:Gl X "zip")(hm:X.mg "zip" = none)(ha:PA X [e1,e2] ta)(hs:Hy [e1,e2] X.env=(false,eval e1 X.env)::Hy [e2] X.env:=by rfl)(hpl:(Je pos (Hy [e2] X.env)).any (·.1)=false:=by rfl) :
 PI X (.Tuple elts kt pt) (.Call (.Name "zip" p) [e1,e2] [] pos) (Do X.K b1 b2 ta):=by
 intro pins s σ H R I h
 refine Call_ (eW I hg hm (by rfl) (Jf (Eh (ha pos pins s σ H _ I h) fun us s1 ⟨vs,H1,I1,r1,q1⟩=>?_) hs hpl) (by decide) (by decide))
 obtain⟨a1,a2,xs,ys,ev,q1,q2,q⟩:=q1
 subst ev
 cases r1 with
 | cons r rr =>
   cases rr with
   | cons r' rr =>
     cases rr
     cases r
     cases r'
     obtain⟨its,v1,t1⟩:=I1.sqB q1
     obtain⟨jts,v2,t2⟩:=I1.sqB q2
     refine sa t1 t2 fun g f1 f2 f3 f4 f5 f6 kp=>wpAny_pyIter_zip f1 ?_
     have lt1:a1<s1.heap.objs.size/\a2<s1.heap.objs.size:=by
      constructor
      · cases b1 with
        | true=>obtain⟨o,ho,_⟩:=(show s1.heap.IsTuple a1 _ from t1);exact HE ho
        | false=>obtain⟨o,ho,_⟩:=(show s1.heap.IsList a1 _ from t1);exact HE ho
      · cases b2 with
        | true=>obtain⟨o,ho,_⟩:=(show s1.heap.IsTuple a2 _ from t2);exact HE ho
        | false=>obtain⟨o,ho,_⟩:=(show s1.heap.IsList a2 _ from t2);exact HE ho
     obtain⟨l1,l2⟩:=lt1
     have ap:∀{n c:Nat},c<n->∀k:Nat,c≠n+k:=fun h k e=>by omega
     have D:ZipApart (s1.heap.objs.size+4) (s1.heap.objs.size+2) (s1.heap.objs.size+3) s1.heap.objs.size (s1.heap.objs.size+1) a1 a2:=by
      generalize hN:s1.heap.objs.size=N at l1 l2
      exact⟨by simp,by simp,by simp,by simp,by simp,by simp,by simp,by simp,by simp,by simp,ap l1 4,ap l1 3,ap l1 0,ap l1 1,ap l2 4,ap l2 3,ap l2 0,ap l2 1⟩
     have kg:∀b o,s1.heap.get? b=some o->g.get? b=some o:=kp
     have I2:Inv X pins σ H1 {s1 with heap:=g}:=I1.kept (t':=s1.toks) kg
     have ir:∀{b:Bool}{it a:Addr}{zs:Array Hq},GZ g it a zs 0->Gq b s1.heap a zs->G0 b g it a 0:=fun{b it a zs} q r=>by
      have r':=Gq.of r fun o e=>kg _ o e
      cases b with
      | true =>
        rcases q with⟨_,⟨o,e,c,_⟩⟩|⟨q,_⟩
        · obtain⟨o',e',c',_⟩:=(show g.IsTuple a zs from r')
          rw[e]at e';cases e';rw[c]at c';injection c' with z;exact absurd z (by decide)
        · exact q
      | false =>
        rcases q with⟨q,_⟩|⟨_,⟨o,e,c,_⟩⟩
        · exact q
        · obtain⟨o',e',c',_⟩:=(show g.IsList a zs from r')
          rw[e]at e';cases e';rw[c]at c';injection c' with z;exact absurd z (by decide)
     refine⟨_,[s1.heap.objs.size+4,s1.heap.objs.size+2,s1.heap.objs.size+3,s1.heap.objs.size,s1.heap.objs.size+1],_,_,H1,rfl,I2,qy b1 b2 _ _ _ _ _ a1 a2 D,⟨f1,f2,⟨_,_,f3⟩,ir f4 t1,ir f5 t2⟩,fun b hb=>?_,q⟩
     have hb':s1.heap.objs.size<=b:=by
      simp at hb
      rcases hb with rfl|rfl|rfl|rfl|rfl
      · exact KC _ 4
      · exact KC _ 2
      · exact KC _ 3
      · exact HA _
      · exact KC _ 1
     exact I1.fpOk hb' (I1.hok.fresh hb')
end
end L2
namespace L2.VL
section
variable{X:Cx}{rl:RlT}{a b:Expr}{elts:List Expr}{kt:Nat}{pt p pos:Pos}{fs:Ge}
noncomputable def mO(xs ys:List Hg):List Hg:=List.zipWith (fun x y=>.tuple [x,y]) xs ys
noncomputable def cT:Hg->Bool
 | .tuple _=>true
 | _=>false
theorem oj{K:W.Frag}(r:Rep K F v d)(e:eQ d=some xs):∃a vs,v = .ref a/\Reps K F vs xs/\∀H,bH F H->Gp (cT d) K H a vs:=by
 cases r with
 | tup sq rs=>cases e;exact⟨_,_,rfl,rs,fun H s=>e9 s sq⟩
 | lst h rs=>cases e;exact⟨_,_,rfl,rs,fun H s=>.inl (.inl (s _ _ h))⟩
 | non=>cases e
 | bl b=>cases e
 | int i=>cases e
 | str x=>cases e
theorem kO{ys:List Hg}(h:(mO xs ys)[i]?=some d):∃x y,xs[i]?=some x/\ys[i]?=some y/\d = .tuple [x,y]:=by
 unfold mO at h
 rw[List.getElem?_zipWith]at h
 cases ex:xs[i]? with
 | none=>rw[ex]at h;cases h
 | some x =>
   cases ey:ys[i]? with
   | none=>rw[ex,ey]at h;cases h
   | some y=>rw[ex,ey]at h;cases h;exact⟨x,y,rfl,rfl,rfl⟩
theorem wL(b1 b2:Bool)(hm:X.mg "zip" = none)(ha:Gx X rl [a,b] fs)(hg:Gl X "zip" := by rfl)(hs:Hy [a,b] X.env=(false,eval a X.env)::Hy [b] X.env:=by rfl)(hpl:(Je pos (Hy [b] X.env)).any (·.1)=false:=by rfl) :
 GF X rl (.Tuple elts kt pt) (.Call (.Name "zip" p) [a,b] [] pos) (fun ρ Q=>fs ρ fun ws=>∃dx dy xs ys,ws=[.d dx,.d dy]/\eQ dx=some xs/\eQ dy=some ys/\cT dx=b1/\cT dy=b2/\Q (mO xs ys)):=by
 obtain⟨t,p1,k⟩:=ha
 refine⟨_,yb b1 b2 hg hm p1 hs hpl,fun R Qd Q q h=>k R _ _ q fun vs ws F1 H1 g1 r1 ⟨dx,dy,xs,ys,ew,e1,e2,kb1,kb2,q1⟩=>?_⟩
 subst ew kb1 kb2
 obtain⟨v,u,rfl,rv,ru⟩:=CA r1
 obtain⟨a1,vs,rfl,rs,sq1⟩:=oj rv e1
 obtain⟨a2,us,rfl,rt,Ez⟩:=oj ru e2
 refine⟨a1,a2,vs,us,rfl,sq1 _ g1.sub,Ez _ g1.sub,h _ (mO xs ys) F1 H1 g1 ⟨fun i H x e s=>?_,fun i H hl s=>?_,fun i H v H' x F2 e s s2 ra y=>?_⟩ q1⟩
 · obtain⟨x1,y1,ex,ey,_⟩:=kO e
   obtain⟨v1,ev1,_⟩:=rs.get ex
   obtain⟨u1,eu1,_⟩:=rt.get ey
   exact⟨vs,us,v1,u1,sq1 _ s,Ez _ s,ev1,eu1⟩
 · refine⟨vs,us,sq1 _ s,Ez _ s,?_⟩
   unfold mO at hl
   rw[List.length_zipWith]at hl
   rw[rs.length,rt.length]
   omega
 · obtain⟨x1,y1,ex,ey,ed⟩:=kO e
   obtain⟨vx,vy,pp,hx,hy,hp,ev,eH⟩:=y
   obtain⟨v1,ev1,rv1⟩:=rs.get ex
   obtain⟨u1,eu1,ru1⟩:=rt.get ey
   have h1:=hx vs (sq1 _ (s.trans s2))
   have h2:=hy us (Ez _ (s.trans s2))
   rw[ev1]at h1
   rw[eu1]at h2
   cases h1
   cases h2
   subst ev eH ed
   have g:=Grow.data (a:=pp) (o:=.tup [vx,vy]) s2 ra hp
   exact⟨_,g,.tup (.inl (.inl az)) (.cons ((rv1.mono s).mono g.fs) (.cons ((ru1.mono s).mono g.fs) .nil))⟩
noncomputable def FF(b1 b2:Bool)(fs:Ge):En->(List Hg->Prop)->Prop:=fun ρ Q=>fs ρ fun ws=>∃dx dy xs ys,ws=[.d dx,.d dy]/\eQ dx=some xs/\eQ dy=some ys/\cT dx=b1/\cT dy=b2/\Q (mO xs ys)
theorem qq(hm:X.mg "zip" = none)(ha:Gx X rl [a,b] fs)(hg:Gl X "zip" := by rfl)(hs:Hy [a,b] X.env=(false,eval a X.env)::Hy [b] X.env:=by rfl)(hpl:(Je pos (Hy [b] X.env)).any (·.1)=false:=by rfl) :
 GF X rl (.Tuple elts kt pt) (.Call (.Name "zip" p) [a,b] [] pos) (FF true true fs):=wL true true hm ha hg hs hpl
end
theorem nr{α:Sort u}{a b:α}(h:a=b):a=b:=h
abbrev Mo(α:Type):=(α->Prop)->Prop
noncomputable def ret{α:Type}(a:α):Mo α:=fun Q=>Q a
noncomputable def FR{α β:Type}(m:Mo α)(f:α->Mo β):Mo β:=fun Q=>m fun a=>f a Q
noncomputable def FI{α:Type}(P:Prop)(m:Mo α):Mo α:=fun Q=>P/\m Q
noncomputable def stk{α:Type}:Mo α:=fun _=>False
noncomputable def anyM{α:Type}(P:α->Prop):Mo α:=fun Q=>∀a,P a->Q a
noncomputable def aS{α β:Type}(o:Option α)(f:α->Mo β):Mo β:=match o with
 | some a=>f a
 | none=>stk
section
variable{α β γ:Type}
theorem bnd_ret(a:α)(f:α->Mo β):FR (ret a) f=f a:=nr rfl
theorem bnd_bnd(m:Mo α)(f:α->Mo β)(g:β->Mo γ):FR (FR m f) g=FR m fun a=>FR (f a) g:=nr rfl
theorem bnd_grd(P:Prop)(m:Mo α)(f:α->Mo β):FR (FI P m) f=FI P (FR m f):=nr rfl
theorem bnd_stk(f:α->Mo β):FR stk f=stk:=nr rfl
theorem bnd_ite(c:Prop)[Decidable c](a b:Mo α)(f:α->Mo β):FR (if c then a else b) f=if c then FR a f else FR b f:=by split<;>rfl
theorem bnd_opt(o:Option α)(k:α->Mo β)(f:β->Mo γ):FR (aS o k) f=aS o fun a=>FR (k a) f:=by cases o<;>rfl
theorem opt_some(a:α)(k:α->Mo β):aS (some a) k=k a:=nr rfl
theorem opt_none(k:α->Mo β):aS none k=stk:=nr rfl
theorem ag{P:Prop}(h:P)(m:Mo α):FI P m=m:=by funext Q;exact propext ⟨fun z=>z.2,fun z=>⟨h,z⟩⟩
theorem grd_T(m:Mo α):FI True m=m:=ag trivial m
theorem gL(c:Prop)[Decidable c](a b:Mo α)(Q:α->Prop):(if c then a else b) Q=if c then a Q else b Q:=by split<;>rfl
theorem ak{m n:Mo α}(h:∀Q,m Q↔n Q):m=n:=funext fun Q=>propext (h Q)
end
noncomputable def asI:W->Option Int
 | .d (.int i)=>some i
 | _=>none
noncomputable def asB:W->Option Bool
 | .d (.bool b)=>some b
 | _=>none
noncomputable def asS:W->Option Str
 | .d (.str b)=>some b
 | _=>none
noncomputable def asD:W->Option Hg
 | .d x=>some x
 | _=>none
noncomputable def lstD:Hg->Option (List Hg)
 | .list xs=>some xs
 | _=>none
noncomputable def tupD:Hg->Option (List Hg)
 | .tuple xs=>some xs
 | _=>none
noncomputable def FY(w:W):Option (List Hg):=w.dat.bind lstD
noncomputable def FV(w:W):Option (List Hg):=(asD w).bind tupD
noncomputable def FX(w:W):Option (List Hg):=w.dat.bind eQ
noncomputable def Eg:W->Option Int
 | .d (.int i)=>some i
 | .d (.bool b)=>some (if b then 1 else 0)
 | _=>none
noncomputable def Dl:W->Option String
 | .vv (.ty T)=>some T
 | _=>none
noncomputable def Bm:List Hg->Option (List Bool)
 | []=>some []
 | .bool b::r=>(Bm r).map (b :: ·)
 | _=>none
noncomputable def jv:List Hg->Option (List Int)
 | []=>some []
 | .int b::r=>(jv r).map (b :: ·)
 | _=>none
theorem blsD_map:∀bs:List Bool,Bm (bs.map .bool)=some bs
 | []=>rfl
 | b::bs=>by show(Bm (bs.map .bool)).map (b :: ·)=_;rw[blsD_map bs];rfl
theorem intsD_map:∀bs:List Int,jv (bs.map .int)=some bs
 | []=>rfl
 | b::bs=>by show(jv (bs.map .int)).map (b :: ·)=_;rw[intsD_map bs];rfl
theorem lA:∀{xs:List Hg}{bs:List Int},jv xs=some bs->xs=bs.map .int
 | [],bs,h=>by cases h;rfl
 | .int b::r,bs,h=>by
   have h:(jv r).map (b :: ·)=some bs:=h
   cases q:jv r with
   | none=>rw[q]at h;cases h
   | some cs=>rw[q]at h;cases h;rw[lA q];rfl
 | .none::_,_,h=>by cases h
 | .bool _::_,_,h=>by cases h
 | .str _::_,_,h=>by cases h
 | .list _::_,_,h=>by cases h
 | .tuple _::_,_,h=>by cases h
 | .dict _::_,_,h=>by cases h
theorem asI_d(i:Int):asI (.d (.int i))=some i:=rfl
theorem asB_d(i:Bool):asB (.d (.bool i))=some i:=rfl
theorem asS_d(i:Str):asS (.d (.str i))=some i:=rfl
theorem asD_d(i:Hg):asD (.d i)=some i:=rfl
theorem asT_d(x:Hg):FV (.d x)=tupD x:=rfl
theorem asL_d(x:Hg):FY (.d x)=lstD x:=rfl
theorem asL_ml(x:List Hg):FY (.ml x)=some x:=rfl
theorem asL_pk(x:List Hg):FY (.pk x)=some x:=rfl
theorem asQ_d(x:Hg):FX (.d x)=eQ x:=rfl
theorem asQ_ml(x:List Hg):FX (.ml x)=some x:=rfl
theorem asQ_pk(x:List Hg):FX (.pk x)=some x:=rfl
theorem lstD_l(x:List Hg):lstD (.list x)=some x:=rfl
theorem tupD_t(x:List Hg):tupD (.tuple x)=some x:=rfl
theorem toI_i(i:Int):Eg (.d (.int i))=some i:=rfl
theorem toI_b(i:Bool):Eg (.d (.bool i))=some (if i then 1 else 0):=rfl
theorem isiT_t(T:String):Dl (.vv (.ty T))=some T:=rfl
theorem c_{w:W}{i:Int}:asI w=some i↔w = .d (.int i):=by
 constructor
 · intro h;unfold asI at h;split at h<;>simp_all
 · rintro rfl;rfl
theorem lN{w:W}{i:Bool}:asB w=some i↔w = .d (.bool i):=by
 constructor
 · intro h;unfold asB at h;split at h<;>simp_all
 · rintro rfl;rfl
theorem tM{w:W}{i:Str}:asS w=some i↔w = .d (.str i):=by
 constructor
 · intro h;unfold asS at h;split at h<;>simp_all
 · rintro rfl;rfl
theorem gQ{w:W}{i:Hg}:asD w=some i↔w = .d i:=by
 constructor
 · intro h;unfold asD at h;split at h<;>simp_all
 · rintro rfl;rfl
theorem AX{w:Hg}{i:List Hg}:lstD w=some i↔w = .list i:=by
 constructor
 · intro h;unfold lstD at h;split at h<;>simp_all
 · rintro rfl;rfl
theorem ul{w:Hg}{i:List Hg}:tupD w=some i↔w = .tuple i:=by
 constructor
 · intro h;unfold tupD at h;split at h<;>simp_all
 · rintro rfl;rfl
theorem zc{w:W}{i:List Hg}:FV w=some i↔w = .d (.tuple i):=by
 constructor
 · intro h
   unfold FV at h
   cases q:asD w with
   | none=>rw[q]at h;cases h
   | some x=>rw[q]at h;rw[gQ.mp q,ul.mp h]
 · rintro rfl;rfl
theorem qa{w:W}{i:List Hg}:FY w=some i↔w.dat=some (.list i):=by
 unfold FY
 constructor
 · intro h
   cases q:w.dat with
   | none=>rw[q]at h;cases h
   | some x=>rw[q]at h;rw[AX.mp h]
 · intro h;rw[h];rfl
theorem aw{o:Option α}{k:α->Mo β}{Q:β->Prop}:aS o k Q↔∃a,o=some a/\k a Q:=by
 cases o with
 | none=>exact⟨fun z=>z.elim,fun⟨_,z,_⟩=>by cases z⟩
 | some a=>exact⟨fun z=>⟨a,rfl,z⟩,fun⟨_,e,z⟩=>by cases e;exact z⟩
section
variable{fa fb fc:TV}{fs:Ge}{f g:TB}{ρ:En}{t u:Gf}
theorem m_vC(x:Hg):vC x ρ=ret (.d x):=nr rfl
theorem m_vVar(i:Nat):ue i ρ=aS ((ρ[i]?).join) fun w=>ret w.peek:=by
 refine ak fun Q=>?_
 rw[aw]
 constructor
 · rintro⟨w,e,q⟩;exact⟨w,by rw[e];rfl,q⟩
 · rintro⟨w,e,q⟩
   refine⟨w,?_,q⟩
   cases h:ρ[i]? with
   | none=>rw[h]at e;cases e
   | some o=>rw[h]at e;cases o with
     | none=>cases e
     | some x=>cases e;rfl
theorem m_vNil:sC ρ=ret []:=nr rfl
theorem m_vCons{f:TV}:iY f fs ρ=FR (f ρ) fun w=>FR (fs ρ) fun ws=>ret (w.fz::ws):=nr rfl
theorem m_vOp(h:W->W->(W->Prop)->Prop):D7 h fa fb ρ=FR (fa ρ) fun x=>FR (fb ρ) fun y=>h x y:=nr rfl
theorem m_gI(C:Int->Int->Prop)(h:Int->Int->Hg)(x y:W):gI C h x y=aS (asI x) fun i=>aS (asI y) fun j=>FI (C i j) (ret (.d (h i j))):=by
 refine ak fun Q=>?_
 simp only[aw,c_,gI,FI,ret]
 exact⟨fun⟨i,j,a,b,c,q⟩=>⟨i,a,j,b,c,q⟩,fun⟨i,a,j,b,c,q⟩=>⟨i,j,a,b,c,q⟩⟩
theorem m_gI0(h:Int->Int->Hg)(x y:W):FO h x y=aS (asI x) fun i=>aS (asI y) fun j=>ret (.d (h i j)):=by
 refine ak fun Q=>?_
 simp only[aw,c_,FO,ret]
 exact⟨fun⟨i,j,a,b,q⟩=>⟨i,a,j,b,q⟩,fun⟨i,a,j,b,q⟩=>⟨i,j,a,b,q⟩⟩
theorem m_vNeg:zX fa ρ=FR (fa ρ) fun x=>aS (asI x) fun i=>ret (.d (.int (-i))):=by
 refine ak fun Q=>?_
 simp only[zX,FR,aw,c_,ret]
theorem m_vTest{f:TV}:qu f ρ=FR (f ρ) fun w=>aS (asB w) ret:=by
 refine ak fun Q=>?_
 simp only[qu,FR,aw,lN,ret]
theorem m_gEqD(neg:Bool)(x y:W):A7 neg x y=aS x.dat fun dx=>aS y.dat fun dy=>FI (Iv dx=true) (FI (Iv dy=true) (ret (.d (.bool (if neg then !Iq dx dy else Iq dx dy))))):=by
 refine ak fun Q=>?_
 simp only[aw,A7,FI,ret]
 exact⟨fun⟨i,j,a,b,c,d,q⟩=>⟨i,a,j,b,c,d,q⟩,fun⟨i,a,j,b,c,d,q⟩=>⟨i,j,a,b,c,d,q⟩⟩
theorem zd{w:W}{i:List Hg}:FX w=some i↔(w.dat=some (.list i)\/w.dat=some (.tuple i)):=by
 unfold FX
 constructor
 · intro h
   cases q:w.dat with
   | none=>rw[q]at h;cases h
   | some x=>rw[q]at h;exact eQ.of (o:=some x) rfl h
 · rintro(h|h)<;>rw[h]<;>rfl
theorem m_gInD(neg:Bool)(x y:W):A6 neg x y=aS x.dat fun dx=>aS (FX y) fun ys=>FI (Iv dx=true) (FI (IW ys=true) (ret (.d (.bool (if neg then !(ys.any fun z=>Iq z dx)else ys.any fun z=>Iq z dx))))):=by
 refine ak fun Q=>?_
 simp only[aw,zd,A6,FI,ret]
 exact⟨fun⟨i,j,a,b,c,d,q⟩=>⟨i,a,j,b,c,d,q⟩,fun⟨i,a,j,b,c,d,q⟩=>⟨i,j,a,b,c,d,q⟩⟩
theorem m_vAnd:Aa f g ρ=FR (f ρ) fun b=>if b=true then g ρ else ret false:=by
 refine ak fun Q=>?_
 simp only[Aa,FR,gL,ret]
theorem m_vNot:Cu f ρ=FR (f ρ) fun b=>ret (!b):=nr rfl
theorem m_vAndV:uh fa fb ρ=FR (fa ρ) fun w=>aS (asB w) fun b=>if b=true then fb ρ else ret (.d (.bool false)):=by
 refine ak fun Q=>?_
 simp only[uh,FR,aw,lN,gL,ret]
theorem m_vOrV:zW fa fb ρ=FR (fa ρ) fun w=>aS (asB w) fun b=>if b=true then ret (.d (.bool true))else fb ρ:=by
 refine ak fun Q=>?_
 simp only[zW,FR,aw,lN,gL,ret]
theorem m_vNotV:uf fa ρ=FR (fa ρ) fun w=>aS (asB w) fun b=>ret (.d (.bool (!b))):=by
 refine ak fun Q=>?_
 simp only[uf,FR,aw,lN,ret]
theorem m_vIf{t:TB}:D8 t fa fb ρ=FR (t ρ) fun c=>if c=true then fa ρ else fb ρ:=by
 refine ak fun Q=>?_
 simp only[D8,FR,gL]
theorem m_vTup:zT fs ρ=FR (fs ρ) fun ws=>aS (gi ws) fun ds=>FI (ds.length<=sizeLine) (ret (.d (.tuple ds))):=by
 refine ak fun Q=>?_
 simp only[zT,FR,aw,FI,ret]
theorem m_vLst:zm fs ρ=FR (fs ρ) fun ws=>aS (gi ws) fun ds=>FI (ds.length<=sizeLine) (ret (.ml ds)):=by
 refine ak fun Q=>?_
 simp only[zm,FR,aw,FI,ret]
theorem m_gIx(x y:W):FM x y=aS x.dat fun dx=>aS (asI y) fun i=>aS (itemAt dx i) fun z=>ret (.d z):=by
 refine ak fun Q=>?_
 simp only[FM,aw,c_,ret]
 exact⟨fun⟨i,j,z,a,b,c,q⟩=>⟨i,a,j,b,z,c,q⟩,fun⟨i,a,j,b,z,c,q⟩=>⟨i,j,z,a,b,c,q⟩⟩
theorem m_vCall(h:List W->(W->Prop)->Prop):fH h fs ρ=FR (fs ρ) h:=nr rfl
theorem m_gAbs(w:W):zC [w]=aS (asI w) fun i=>ret (.d (.int (if i<0 then -i else i))):=by
 refine ak fun Q=>?_
 simp only[zC,aw,c_,ret,Ji,and_true]
theorem m_gLen(w:W):zw [w]=aS w.dat fun d=>aS (qh d) fun n=>ret (.d (.int n)):=by
 refine ak fun Q=>?_
 simp only[zw,aw,ret,Ji,and_true]
 exact⟨fun⟨w',d,n,e,a,b,q⟩=>by subst e;exact⟨d,a,n,b,q⟩,fun⟨d,a,n,b,q⟩=>⟨w,d,n,rfl,a,b,q⟩⟩
theorem m_gTupO(w:W):rL [w]=aS (FX w) fun xs=>ret (.d (.tuple xs)):=by
 refine ak fun Q=>?_
 simp only[rL,aw,ret,Ji,and_true]
 constructor
 · rintro⟨w',d,xs,e,a,b,q⟩;subst e;exact⟨xs,by unfold FX;rw[a];exact b,q⟩
 · rintro⟨xs,e,q⟩
   unfold FX at e
   cases h:w.dat with
   | none=>rw[h]at e;cases e
   | some d=>rw[h]at e;exact⟨w,d,xs,rfl,h,e,q⟩
theorem m_gLstO(w:W):rN [w]=aS (FX w) fun xs=>ret (.ml xs):=by
 refine ak fun Q=>?_
 simp only[rN,aw,ret,Ji,and_true]
 constructor
 · rintro⟨w',d,xs,e,a,b,q⟩;subst e;exact⟨xs,by unfold FX;rw[a];exact b,q⟩
 · rintro⟨xs,e,q⟩
   unfold FX at e
   cases h:w.dat with
   | none=>rw[h]at e;cases e
   | some d=>rw[h]at e;exact⟨w,d,xs,rfl,h,e,q⟩
theorem m_gI2(h:Int->Int->Hg)(x y:W):FN h [x,y]=aS (asI x) fun i=>aS (asI y) fun j=>ret (.d (h i j)):=by
 refine ak fun Q=>?_
 simp only[aw,c_,FN,ret,Ji,and_true]
 exact⟨fun⟨i,j,⟨a,b⟩,q⟩=>⟨i,a,j,b,q⟩,fun⟨i,a,j,b,q⟩=>⟨i,j,⟨a,b⟩,q⟩⟩
theorem xk{w:W}{i:Int}:Eg w=some i↔(w = .d (.int i)\/∃b:Bool,w = .d (.bool b)/\i=if b then 1 else 0):=by
 constructor
 · intro h
   unfold Eg at h
   split at h
   · cases h;exact .inl rfl
   · cases h;exact .inr ⟨_,rfl,rfl⟩
   · cases h
 · rintro(rfl|⟨b,rfl,rfl⟩)<;>rfl
theorem m_gInt1(w:W):rO [w]=aS (Eg w) fun i=>ret (.d (.int i)):=by
 refine ak fun Q=>?_
 simp only[aw,xk,rO,ret,Ji,and_true]
 constructor
 · rintro(⟨i,rfl,q⟩|⟨k,rfl,q⟩)
   · exact⟨i,.inl rfl,q⟩
   · exact⟨_,.inr ⟨k,rfl,rfl⟩,q⟩
 · rintro⟨i,rfl|⟨b,rfl,rfl⟩,q⟩
   · exact .inl ⟨i,rfl,q⟩
   · exact .inr ⟨b,rfl,q⟩
theorem m_oNo:EY ρ=ret none:=nr rfl
theorem m_oIt:EZ fa ρ=FR (fa ρ) fun w=>aS (asI w) fun i=>ret (some i):=by
 refine ak fun Q=>?_
 simp only[EZ,FR,aw,c_,ret]
theorem m_vSlL{fl fh:Gh}:Cq fa fl fh ρ=FR (fa ρ) fun w=>FR (fl ρ) fun l=>FR (fh ρ) fun h=>aS (FY w) fun xs=>ret (.ml (cutD xs l h)):=by
 refine ak fun Q=>?_
 simp only[Cq,FR,aw,qa,ret]
theorem m_gCatD(x y:W):rP x y=aS (FY x) fun xs=>aS (FY y) fun ys=>FI (xs.length+ys.length<=sizeLine) (ret (.ml (xs++ys))):=by
 refine ak fun Q=>?_
 simp only[rP,aw,qa,FI,ret]
 exact⟨fun⟨i,j,a,b,c,q⟩=>⟨i,a,j,b,c,q⟩,fun⟨i,a,j,b,c,q⟩=>⟨i,j,a,b,c,q⟩⟩
theorem m_gCatA(x y:W):rQ x y=aS (FV x) fun xs=>aS (FV y) fun ys=>FI (xs.length+ys.length<=sizeLine) (ret (.d (.tuple (xs++ys)))):=by
 refine ak fun Q=>?_
 simp only[rQ,aw,zc,FI,ret]
 exact⟨fun⟨i,j,a,b,c,q⟩=>⟨i,a,j,b,c,q⟩,fun⟨i,a,j,b,c,q⟩=>⟨i,j,a,b,c,q⟩⟩
theorem m_vLR1:Cv fs ρ=FR (fs ρ) fun ws=>aS (ws.head?.bind asI) fun j=>FI (ws.length=1) (FI (-(2^62)<=j/\j<2^62) (FI (j.toNat<=2^24) (ret (.ml (aM 0 j.toNat))))):=by
 show(FR (fs ρ) fun ws=>fun(Q:W->Prop)=>∃j:Int,ws=[.d (.int j)]/\(-(2^62)<=j/\j<2^62)/\j.toNat<=2^24/\Q (.ml (aM 0 j.toNat)))=_
 congr 1;funext ws
 refine ak fun Q=>?_
 simp only[aw,FI,ret]
 constructor
 · rintro⟨j,rfl,a,b,q⟩;exact⟨j,rfl,rfl,a,b,q⟩
 · rintro⟨j,e,l,a,b,q⟩
   match ws,l with
   | [w],_=>rw[show w = .d (.int j)from c_.mp e];exact⟨j,rfl,a,b,q⟩
noncomputable def Ed(ws:List W):Option (Int×Int):=match ws with
 | [a,b]=>(asI a).bind fun i=>(asI b).map fun j=>(i,j)
 | _=>none
theorem two_d(a b:Int):Ed [.d (.int a),.d (.int b)]=some (a,b):=rfl
theorem m_iL:iL fa ρ=FR (fa ρ) fun w=>aS ((asD w.fz).bind lstD) ret:=by
 show(FR (fa ρ) fun w=>fun(Q:List Hg->Prop)=>∃xs,w.fz = .d (.list xs)/\Q xs)=_
 congr 1;funext w
 refine ak fun Q=>?_
 simp only[aw,ret]
 constructor
 · rintro⟨xs,e,q⟩;exact⟨xs,by rw[e];rfl,q⟩
 · rintro⟨xs,e,q⟩
   cases h:asD w.fz with
   | none=>rw[h]at e;cases e
   | some x=>rw[h]at e;rw[gQ.mp h,AX.mp e];exact⟨xs,rfl,q⟩
theorem m_iT:iT fa ρ=FR (fa ρ) fun w=>aS ((asD w.fz).bind tupD) ret:=by
 show(FR (fa ρ) fun w=>fun(Q:List Hg->Prop)=>∃xs,w.fz = .d (.tuple xs)/\Q xs)=_
 congr 1;funext w
 refine ak fun Q=>?_
 simp only[aw,ret]
 constructor
 · rintro⟨xs,e,q⟩;exact⟨xs,by rw[e];rfl,q⟩
 · rintro⟨xs,e,q⟩
   cases h:asD w.fz with
   | none=>rw[h]at e;cases e
   | some x=>rw[h]at e;rw[gQ.mp h,ul.mp e];exact⟨xs,rfl,q⟩
theorem m_iR1:FG fs ρ=FR (fs ρ) fun ws=>aS (ws.head?.bind asI) fun j=>FI (ws.length=1) (FI (-(2^62)<=j/\j<2^62) (ret (aM 0 j.toNat))):=by
 show(FR (fs ρ) fun ws=>fun(Q:List Hg->Prop)=>∃j:Int,ws=[.d (.int j)]/\(-(2^62)<=j/\j<2^62)/\Q (aM 0 j.toNat))=_
 congr 1;funext ws
 refine ak fun Q=>?_
 simp only[aw,FI,ret]
 constructor
 · rintro⟨j,rfl,a,q⟩;exact⟨j,rfl,rfl,a,q⟩
 · rintro⟨j,e,l,a,q⟩
   match ws,l with
   | [w],_=>rw[show w = .d (.int j)from c_.mp e];exact⟨j,rfl,a,q⟩
noncomputable def zJ(b1 b2:Bool)(ws:List W):Option (List Hg):=match ws with
 | [.d x,.d y]=>if cT x=b1/\cT y=b2 then(eQ x).bind fun xs=>(eQ y).map fun ys=>mO xs ys else none
 | _=>none
theorem m_iZb(b1 b2:Bool):FF b1 b2 fs ρ=FR (fs ρ) fun ws=>aS (zJ b1 b2 ws) ret:=by
 show(FR (fs ρ) fun ws=>fun(Q:List Hg->Prop)=>∃dx dy xs ys,ws=[.d dx,.d dy]/\eQ dx=some xs/\eQ dy=some ys/\cT dx=b1/\cT dy=b2/\Q (mO xs ys))=_
 congr 1;funext ws
 refine ak fun Q=>?_
 simp only[aw,ret]
 constructor
 · rintro⟨dx,dy,xs,ys,rfl,a,b,c,d,q⟩
   exact⟨_,by show(if cT dx=b1/\cT dy=b2 then(eQ dx).bind fun xs=>(eQ dy).map fun ys=>mO xs ys else none)=_;rw[if_pos ⟨c,d⟩,a,b];rfl,q⟩
 · rintro⟨zs,e,q⟩
   unfold zJ at e
   split at e
   · rename_i dx dy
     split at e
     · rename_i c
       cases ha:eQ dx with
       | none=>rw[ha]at e;cases e
       | some xs =>
         cases hb:eQ dy with
         | none=>rw[ha,hb]at e;cases e
         | some ys=>rw[ha,hb]at e;cases e;exact⟨dx,dy,xs,ys,rfl,ha,hb,c.1,c.2,q⟩
     · cases e
   · cases e
theorem m_vUse(Pd:List W->(Hg->Prop)->Prop):zS Pd fs ρ=FR (fs ρ) fun ws=>FI (ws.all gc=true) (FR (Pd ws) fun d=>ret (.d d)):=nr rfl
theorem m_gRepL(x y:W):rM x y=aS (FY x) fun xs=>aS (asI y) fun k=>FI (-(2^63)<=k/\k<2^63/\xs.length*k.toNat<=sizeLine) (ret (.ml (H0 k.toNat xs).flatten)):=by
 refine ak fun Q=>?_
 simp only[rM,aw,qa,c_,FI,ret]
 exact⟨fun⟨i,j,a,b,c,d,e,q⟩=>⟨i,a,j,b,⟨c,d,e⟩,q⟩,fun⟨i,a,j,b,⟨c,d,e⟩,q⟩=>⟨i,j,a,b,c,d,e,q⟩⟩
theorem m_gEqS(neg:Bool)(x y:W):zy neg x y=aS (asS x) fun i=>aS (asS y) fun j=>ret (.d (.bool (if neg then !decide (i=j)else decide (i=j)))):=by
 refine ak fun Q=>?_
 simp only[aw,tM,zy,ret]
 exact⟨fun⟨i,j,a,b,q⟩=>⟨i,a,j,b,q⟩,fun⟨i,a,j,b,q⟩=>⟨i,j,a,b,q⟩⟩
end
inductive Fl where
 | nx (ρ:En)|rt (w:W)|bk (ρ:En)|ct (ρ:En)
noncomputable def mS(t:Gf)(ρ:En):Mo Fl:=fun Q=>t ⟨fun ρ=>Q (.nx ρ),fun w=>Q (.rt w),fun ρ=>Q (.bk ρ),fun ρ=>Q (.ct ρ)⟩ ρ
noncomputable def sq(m:Mo Fl)(k:En->Mo Fl):Mo Fl:=FR m fun fl=>match fl with
 | .nx ρ=>k ρ
 | .rt w=>ret (.rt w)
 | .bk ρ=>ret (.bk ρ)
 | .ct ρ=>ret (.ct ρ)
noncomputable def wt(Q:Hg->Prop):Fl->Prop
 | .nx _=>Q .none
 | .rt w=>∃d,w.fz = .d d/\Q d
 | _=>False
section
variable{fa fb fc:TV}{fs:Ge}{f g:TB}{ρ:En}{t u:Gf}{k:En->Mo Fl}
theorem aE{Q:Hg->Prop}(h:mS t ρ (wt Q)):t (qx Q) ρ:=h
theorem end_d(Q:Hg->Prop)(d:Hg):wt Q (.rt (.d d))=Q d:=propext ⟨fun⟨_,e,q⟩=>by cases e;exact q,fun q=>⟨d,rfl,q⟩⟩
theorem end_ml(Q:Hg->Prop)(d:List Hg):wt Q (.rt (.ml d))=Q (.list d):=propext ⟨fun⟨_,e,q⟩=>by cases e;exact q,fun q=>⟨_,rfl,q⟩⟩
theorem end_nx(Q:Hg->Prop)(ρ:En):wt Q (.nx ρ)=Q .none:=nr rfl
theorem sq_nx:sq (ret (.nx ρ)) k=k ρ:=nr rfl
theorem sq_rt(w:W):sq (ret (.rt w)) k=ret (.rt w):=nr rfl
theorem sq_bk:sq (ret (.bk ρ)) k=ret (.bk ρ):=nr rfl
theorem sq_ct:sq (ret (.ct ρ)) k=ret (.ct ρ):=nr rfl
theorem sq_grd(P:Prop)(m:Mo Fl):sq (FI P m) k=FI P (sq m k):=nr rfl
theorem sq_stk:sq stk k=stk:=nr rfl
theorem sq_ite(c:Prop)[Decidable c](a b:Mo Fl):sq (if c then a else b) k=if c then sq a k else sq b k:=by split<;>rfl
theorem xw(o:Option α)(h:α->Mo Fl):sq (aS o h) k=aS o fun a=>sq (h a) k:=by cases o<;>rfl
theorem s_next:mS wX ρ=ret (.nx ρ):=nr rfl
theorem s_seq:mS (Cr t u) ρ=sq (mS t ρ) (mS u):=by
 refine ak fun Q=>?_
 show t ⟨fun ρ=>u ⟨_,_,_,_⟩ ρ,_,_,_⟩ ρ↔_
 exact K8
theorem s_ret:mS (Cs fa) ρ=FR (fa ρ) fun w=>ret (.rt w):=nr rfl
theorem s_ifS:mS (zY f t u) ρ=FR (f ρ) fun b=>if b=true then mS t ρ else mS u ρ:=by
 refine ak fun Q=>?_
 simp only[mS,zY,FR,gL]
theorem s_set(i:Nat):mS (zV i fa) ρ=FR (fa ρ) fun w=>FI (w.isPk=false) (ret (.nx (ρ.set i (some w)))):=nr rfl
theorem s_never:mS (fun _ _=>False) ρ=stk:=nr rfl
theorem m_hName(i:Nat)(x:Hg):rF i x ρ=ret (ρ.set i (some (.d x))):=nr rfl
theorem yC(xs:List Hg):A5 xs ρ=FI (xs=[]) (ret ρ):=nr rfl
theorem vD{g:Gj}{gs:ql}(xs:List Hg):rG g gs xs ρ=aS (match xs with | []=>none|y::r=>some (y,r)) fun p=>FR (g p.1 ρ) fun ρ'=>gs p.2 ρ':=by
 refine ak fun Q=>?_
 simp only[aw,rG,FR]
 constructor
 · rintro⟨y,r,rfl,q⟩;exact⟨(y,r),rfl,q⟩
 · rintro⟨p,e,q⟩
   cases xs with
   | nil=>cases e
   | cons y r=>cases e;exact⟨y,r,rfl,q⟩
theorem m_hCons_c{g:Gj}{gs:ql}(y:Hg)(r:List Hg):rG g gs (y::r) ρ=FR (g y ρ) fun ρ'=>gs r ρ':=by rw[vD];rfl
theorem m_hNil_n:A5 [] ρ=ret ρ:=by rw[yC,ag rfl]
theorem m_hTup(n:Nat){gs:ql}(x:Hg):A4 n gs x ρ=aS (tupD x) fun xs=>FI (xs.length=n) (gs xs ρ):=by
 refine ak fun Q=>?_
 simp only[aw,ul,A4,FI]
theorem s_asg{g:Gj}:mS (z_ fa g) ρ=FR (fa ρ) fun w=>aS (asD w) fun x=>FR (g x ρ) fun ρ'=>ret (.nx ρ'):=by
 refine ak fun Q=>?_
 simp only[mS,z_,FR,aw,gQ,ret]
theorem s_par(i j:Nat):mS (Ct i j fs) ρ=FR (fs ρ) fun ws=>aS (gi ws) fun ds=>aS (match ds with | [x,y]=>some (x,y)|_=>none) fun p=>ret (.nx ((ρ.set i (some (.d p.1))).set j (some (.d p.2)))):=by
 show(FR (fs ρ) fun ws=>fun(Q:Fl->Prop)=>∃x y,gi ws=some [x,y]/\Q (.nx ((ρ.set i (some (.d x))).set j (some (.d y)))))=_
 congr 1;funext ws
 refine ak fun Q=>?_
 simp only[aw,ret]
 constructor
 · rintro⟨x,y,e,q⟩;exact⟨_,e,(x,y),rfl,q⟩
 · rintro⟨ds,e,p,e2,q⟩
   split at e2
   · cases e2;exact⟨_,_,e,q⟩
   · cases e2
noncomputable def ED(ρ:En)(i:Nat):Option Int:=((ρ[i]?).join).bind asI
noncomputable def asM:W->Option (List Hg)
 | .ml xs=>some xs
 | _=>none
noncomputable def EC(ρ:En)(i:Nat):Option (List Hg):=((ρ[i]?).join).bind asM
theorem asM_ml(xs:List Hg):asM (.ml xs)=some xs:=rfl
theorem CP{w:W}:asM w=some xs↔w = .ml xs:=by
 constructor
 · intro h;unfold asM at h;split at h<;>simp_all
 · rintro rfl;rfl
theorem nQ:EC ρ i=some xs↔ρ[i]?=some (some (.ml xs)):=by
 unfold EC
 constructor
 · intro h
   cases q:ρ[i]? with
   | none=>rw[q]at h;cases h
   | some o=>rw[q]at h;cases o with
     | none=>cases h
     | some w=>rw[CP.mp h]
 · intro h;rw[h];rfl
theorem xD{n:Int}:ED ρ i=some n↔ρ[i]?=some (some (.d (.int n))):=by
 unfold ED
 constructor
 · intro h
   cases q:ρ[i]? with
   | none=>rw[q]at h;cases h
   | some o=>rw[q]at h;cases o with
     | none=>cases h
     | some w=>rw[c_.mp h]
 · intro h;rw[h];rfl
theorem s_aug(i:Nat)(C:Int->Int->Prop)(h:Int->Int->Int):mS (z9 i C h fa) ρ=aS (ED ρ i) fun n=>FR (fa ρ) fun w=>aS (asI w) fun m=>FI (C n m) (ret (.nx (ρ.set i (some (.d (.int (h n m))))))):=by
 refine ak fun Q=>?_
 simp only[mS,z9,FR,aw,xD,c_,FI,ret]
theorem s_frz(i:Nat):mS (zZ i t) ρ=aS (EC ρ i) fun xs=>mS t (ρ.set i (some (.d (.list xs)))):=by
 refine ak fun Q=>?_
 simp only[mS,zZ,aw,nQ]
theorem s_mut(i:Nat)(h:List Hg->List W->(List Hg->Prop)->Prop):mS (wZ i h fs) ρ=aS (EC ρ i) fun xs=>FR (fs ρ) fun ws=>FR (h xs ws) fun ys=>ret (.nx (ρ.set i (some (.ml ys)))):=by
 refine ak fun Q=>?_
 simp only[mS,wZ,FR,aw,nQ,ret]
theorem m_gApp(xs:List Hg)(w:W):zB xs [w]=aS (asD w) fun x=>FI (xs.length<sizeLine) (ret (xs++[x])):=by
 refine ak fun Q=>?_
 simp only[zB,aw,gQ,FI,ret]
 constructor
 · rintro⟨x,e,a,q⟩
   cases w<;>first|(cases e;exact⟨_,rfl,a,q⟩)|cases e
 · rintro⟨x,rfl,a,q⟩;exact⟨x,rfl,a,q⟩
theorem s_appPop(i j:Nat):mS (jM i j fa) ρ=aS (EC ρ i) fun xs=>aS (EC ρ j) fun ys=>FR (fa ρ) fun w=>aS (asI w) fun k=>FI (0<=k/\k<(ys.length:Int)/\ys.length<2^62) (aS (ys[k.toNat]?) fun y=>FI (xs.length<sizeLine) (ret (.nx ((ρ.set j (some (.ml (ys.eraseIdx k.toNat)))).set i (some (.ml (xs++[y]))))))):=by
 refine ak fun Q=>?_
 simp only[mS,jM,aw,nQ]
 have:∀xs ys:List Hg,(fun w:W=>∃k y,w = .d (.int k)/\0<=k/\k<(ys.length:Int)/\ys.length<2^62/\ys[k.toNat]?=some y/\xs.length<sizeLine/\Q (.nx ((ρ.set j (some (.ml (ys.eraseIdx k.toNat)))).set i (some (.ml (xs++[y]))))))=fun w=>(aS (asI w) fun k=>FI (0<=k/\k<(ys.length:Int)/\ys.length<2^62) (aS (ys[k.toNat]?) fun y=>FI (xs.length<sizeLine) (ret (.nx ((ρ.set j (some (.ml (ys.eraseIdx k.toNat)))).set i (some (.ml (xs++[y])))))))) Q:=by
  intro xs ys
  funext w
  refine propext ?_
  simp only[aw,c_,FI,ret]
  exact⟨fun⟨k,y,a,b,c,d,e,f,q⟩=>⟨k,a,⟨b,c,d⟩,y,e,f,q⟩,fun⟨k,a,⟨b,c,d⟩,y,e,f,q⟩=>⟨k,y,a,b,c,d,e,f,q⟩⟩
 constructor
 · rintro⟨xs,ys,e1,e2,q⟩;refine⟨xs,e1,ys,e2,?_⟩;rw[this]at q;exact q
 · rintro⟨xs,e1,ys,e2,q⟩;refine⟨xs,ys,e1,e2,?_⟩;rw[this];exact q
end
noncomputable def Le(a b:En):Prop:=a.length=b.length/\∀(i:Nat) w,a[i]?=some (some w)->b[i]?=some (some w)
theorem Le.refl(a:En):Le a a:=⟨rfl,fun _ _ h=>h⟩
theorem Le.trans{a b c:En}(h:Le a b)(h':Le b c):Le a c:=⟨h.1.trans h'.1,fun i w e=>h'.2 i w (h.2 i w e)⟩
theorem le_nil:Le [] []=True:=propext ⟨fun _=>trivial,fun _=>Le.refl _⟩
theorem le_cn(x:Option W)(a b:En):Le (none::a) (x::b)=Le a b:=by
 refine propext ⟨fun h=>⟨by have:=h.1;simpa using this,fun i w e=>by have:=h.2 (i+1) w (by simpa using e);simpa using this⟩,fun h=>⟨by simp[h.1],fun i w e=>?_⟩⟩
 cases i with
 | zero=>simp at e
 | succ i=>simpa using h.2 i w (by simpa using e)
theorem le_cs(x:Option W)(a b:En):Le (x::a) (x::b)=Le a b:=by
 refine propext ⟨fun h=>⟨by have:=h.1;simpa using this,fun i w e=>by have:=h.2 (i+1) w (by simpa using e);simpa using this⟩,fun h=>⟨by simp[h.1],fun i w e=>?_⟩⟩
 cases i with
 | zero=>simpa using e
 | succ i=>simpa using h.2 i w (by simpa using e)
theorem VR.le{K:W.Frag}{ρ0:En}(R:VR K rl F₀ H₀ F H σ ρ)(h:Le ρ0 ρ):VR K rl F₀ H₀ F H σ ρ0 :=
 ⟨R.g,fun i w e=>R.sl i w (h.2 i w e),fun i j x y v n e1 e2=>R.ap i j x y v n (h.2 i x e1) (h.2 j y e2),fun i xs e=>R.np i xs (h.2 i _ e),h.1.trans R.len⟩
noncomputable def fo:List Nat->En->En
 | [],ρ=>ρ
 | i::l,ρ=>fo l (ρ.set i none)
theorem yH(ρ:En)(i:Nat):Le (ρ.set i none) ρ:=by
 refine⟨by simp,fun j w e=>?_⟩
 rw[IV]at e
 split at e
 · split at e
   · cases e
   · cases e
 · exact e
theorem iy:∀(l:List Nat)(ρ:En),Le (fo l ρ) ρ
 | [],ρ=>Le.refl ρ
 | i::l,ρ=>(iy l (ρ.set i none)).trans (yH ρ i)
theorem fo_nil(ρ:En):fo [] ρ=ρ:=rfl
theorem fo_cons(i:Nat)(l:List Nat)(ρ:En):fo (i::l) ρ=fo l (ρ.set i none):=rfl
noncomputable def di(fl:List Nat)(g:Gj)(t:Gf):List Hg->Gf
 | [],D,ρ=>D.nx ρ
 | x::xs,D,ρ=>g x ρ fun ρ2=>t {D with nx:=fun ρ'=>di fl g t xs D (fo fl ρ'),ct:=fun ρ'=>di fl g t xs D (fo fl ρ'),bk:=fun ρ'=>D.nx (fo fl ρ')} ρ2
noncomputable def w6(fl:List Nat)(fi:En->(List Hg->Prop)->Prop)(g:Gj)(t:Gf):Gf:=fun D ρ=>fi ρ fun xs=>di fl g t xs D (fo fl ρ)
section
variable{X:Cx}{rl:RlT}{st:Stmt}{rest body:List Stmt}{t u:Gf}{a b c e:Expr}{es:List Expr}{fa fb:TV}{fs:Ge}{f:TB}{pos p:Pos}
theorem eF(fl:List Nat){g:Gj}(hp:M7 (Ie X.prog X.w) X.A X.env X.xe)(hc:X.calm=true)(hi:GF X rl tg iter fi)(hg:GI X rl tg g)(hb:lQ X rl body t)
 (hs:∀x,HX iter X.env x=pure x:=by intro _;rfl):GB X rl (.For tg iter body [] pos) (w6 fl fi g t):=by
 obtain⟨wi,p0,k0⟩:=hi
 obtain⟨G,p1,k1⟩:=hg
 obtain⟨T,p2,k2⟩:=hb
 refine⟨_,sO hp hc p0 p1 p2 hs,fun{F₀ H₀ F H σ ρ} R Dv D ok q=>k0 R _ _ q fun J xs F1 H1 g1 vi q1=>?_⟩
 refine⟨fun i m σ H=>m=xs.length-i/\i<=xs.length/\∃F ρ,bH F1 F/\VR X.K rl F₀ H₀ F H σ ρ/\di fl g t (xs.drop i) Dv ρ,⟨xs.length,by simp,Ig _,F1,fo fl ρ,.refl _,(R.grow g1).le (iy fl ρ),by simpa using q1⟩,?_⟩
 rintro i m σ H ⟨rfl,hi,F2,ρ2,s2,R2,j2⟩
 have sH:bH F1 H:=s2.trans R2.sub
 by_cases hlt:i<xs.length
 · have ei:xs[i]?=some xs[i]:=by simp[hlt]
   rw[IZ hlt]at j2
   refine .inr ⟨vi.go i H _ ei sH,fun σ' H'=>∃F ρ,bH F1 F/\VR X.K rl F₀ H₀ F H' σ' ρ/\di fl g t (xs.drop (i+1)) Dv ρ,fun σ' H' z=>⟨xs.length-(i+1),by omega,rfl,hlt,z⟩,fun v H' y=>?_⟩
   obtain⟨Fy,gy,rv⟩:=vi.yld i H v H' _ F2 ei s2 R2.sub R2.reel y
   refine k1 (R2.grow gy) v _ _ _ rv j2 fun F3 H3 σ3 ρ3 s3 n3 R3 q3=>?_
   have s13:bH F1 F3:=s2.trans (gy.fs.trans s3.fs)
   exact k2 R3 {Dv with nx:=fun ρ'=>di fl g t (xs.drop (i+1)) Dv (fo fl ρ'),ct:=fun ρ'=>di fl g t (xs.drop (i+1)) Dv (fo fl ρ'),bk:=fun ρ'=>Dv.nx (fo fl ρ')} _
    ⟨fun F4 H4 σ4 ρ4 s4 R4 q4=>⟨F4,fo fl ρ4,s13.trans s4,R4.le (iy fl ρ4),q4⟩,ok.rt,fun F4 H4 σ4 ρ4 s4 R4 q4=>ok.nx _ _ _ _ (g1.fs.trans (s13.trans s4)) (R4.le (iy fl ρ4)) q4,fun F4 H4 σ4 ρ4 s4 R4 q4=>⟨F4,fo fl ρ4,s13.trans s4,R4.le (iy fl ρ4),q4⟩⟩ q3
 · have e:i=xs.length:=by omega
   subst e
   rw[Ki]at j2
   exact .inl ⟨vi.stop _ H (HA _) sH,ok.nx _ _ _ _ (g1.fs.trans s2) R2 j2⟩
noncomputable def D4(fl:List Nat)(f:TB)(t:Gf)(m:Nat):Gf:=fun D ρ=>f ρ fun b=>if b=true then t {D with nx:=fun ρ'=>∃k,∃h:k<m,D4 fl f t k D (fo fl ρ'),ct:=fun ρ'=>∃k,∃h:k<m,D4 fl f t k D (fo fl ρ'),bk:=fun ρ'=>D.nx (fo fl ρ')} ρ else D.nx ρ
termination_by m
noncomputable def nn(fl:List Nat)(f:TB)(t:Gf):Gf:=fun D ρ=>∃m,D4 fl f t m D (fo fl ρ)
theorem sB(fl:List Nat)(f:TB)(t:Gf)(m:Nat)(D:VEnds)(ρ:En):D4 fl f t m D ρ=f ρ fun b=>if b=true then t {D with nx:=fun ρ'=>∃k,∃h:k<m,D4 fl f t k D (fo fl ρ'),ct:=fun ρ'=>∃k,∃h:k<m,D4 fl f t k D (fo fl ρ'),bk:=fun ρ'=>D.nx (fo fl ρ')} ρ else D.nx ρ:=by
 conv=>lhs;unfold D4
theorem fC(fl:List Nat)(hp:M7 (Ie X.prog X.w) X.A X.env X.xe)(hc:PB X rl c f)(hb:lQ X rl body t):GB X rl (.While c body [] pos) (nn fl f t):=by
 obtain⟨t0,p0,k0⟩:=hc
 obtain⟨t1,p1,k1⟩:=hb
 refine⟨_,qN hp p0 p1,fun{F₀ H₀ F H σ ρ} R Dv D ok q=>?_⟩
 obtain⟨m,j0⟩:=q
 refine⟨fun m σ' H'=>∃F' ρ',bH F F'/\VR X.K rl F₀ H₀ F' H' σ' ρ'/\D4 fl f t m Dv ρ',⟨m,F,fo fl ρ,.refl _,R.le (iy fl ρ),j0⟩,?_⟩
 rintro m σ2 H2 ⟨F2,ρ2,s2,R2,j⟩
 rw[sB]at j
 refine k0 R2 _ _ j fun b F1 H1 g1 q1=>?_
 cases b with
 | false=>exact ok.nx _ _ _ _ (s2.trans g1.fs) (R2.grow g1) q1
 | true =>
   refine⟨fun σ' H'=>∃F' ρ',bH F F'/\VR X.K rl F₀ H₀ F' H' σ' ρ'/\∃m',m'<m/\D4 fl f t m' Dv ρ',fun σ' H' ⟨F',ρ',s',R',m',hm,j⟩=>⟨m',hm,F',ρ',s',R',j⟩,?_⟩
   exact k1 (R2.grow g1) {Dv with nx:=fun ρ'=>∃k,∃h:k<m,D4 fl f t k Dv (fo fl ρ'),ct:=fun ρ'=>∃k,∃h:k<m,D4 fl f t k Dv (fo fl ρ'),bk:=fun ρ'=>Dv.nx (fo fl ρ')} _
    ⟨fun F3 H3 σ3 ρ3 s3 R3 ⟨m',hm,q3⟩=>⟨F3,fo fl ρ3,(s2.trans g1.fs).trans s3,R3.le (iy fl ρ3),m',hm,q3⟩,ok.rt,fun F3 H3 σ3 ρ3 s3 R3 q3=>ok.nx _ _ _ _ ((s2.trans g1.fs).trans s3) (R3.le (iy fl ρ3)) q3,fun F3 H3 σ3 ρ3 s3 R3 ⟨m',hm,q3⟩=>⟨F3,fo fl ρ3,(s2.trans g1.fs).trans s3,R3.le (iy fl ρ3),m',hm,q3⟩⟩ q1
end
noncomputable def Fo(fl:List Nat)(k:En->Mo Fl):Fl->Mo Fl
 | .nx ρ=>k (fo fl ρ)
 | .ct ρ=>k (fo fl ρ)
 | .bk ρ=>ret (.nx (fo fl ρ))
 | .rt w=>ret (.rt w)
noncomputable def fU(fl:List Nat)(b:Hg->En->Mo Fl):List Hg->En->Mo Fl
 | [],ρ=>ret (.nx ρ)
 | x::xs,ρ=>FR (b x ρ) (Fo fl (fU fl b xs))
theorem oY(fl:List Nat)(g:Gj)(t:Gf):∀(xs:List Hg)(ρ:En),mS (di fl g t xs) ρ=fU fl (fun x ρ=>FR (g x ρ) (mS t)) xs ρ
 | [],ρ=>rfl
 | x::xs,ρ=>by
   refine ak fun Q=>?_
   show(g x ρ fun ρ2=>t ⟨fun ρ'=>mS (di fl g t xs) (fo fl ρ') Q,fun w=>Q (.rt w),fun ρ'=>Q (.nx (fo fl ρ')),fun ρ'=>mS (di fl g t xs) (fo fl ρ') Q⟩ ρ2)↔_
   simp only[oY fl g t xs]
   exact K8
noncomputable def FU(g:Gj)(t:Gf):Hg->En->Mo Fl:=fun x ρ=>FR (g x ρ) (mS t)
theorem bdy_ap(g:Gj)(t:Gf)(x:Hg)(ρ:En):FU g t x ρ=FR (g x ρ) (mS t):=nr rfl
theorem s_for(fl:List Nat)(fi:En->(List Hg->Prop)->Prop)(g:Gj)(t:Gf)(ρ:En):mS (w6 fl fi g t) ρ=FR (fi ρ) fun xs=>fU fl (FU g t) xs (fo fl ρ):=by
 refine ak fun Q=>?_
 show(fi ρ fun xs=>mS (di fl g t xs) (fo fl ρ) Q)↔_
 simp only[oY]
 exact K8
noncomputable def Fm(fl:List Nat)(J:En->Prop)(Q:Fl->Prop):Fl->Prop
 | .nx ρ=>J (fo fl ρ)
 | .ct ρ=>J (fo fl ρ)
 | .bk ρ=>Q (.nx (fo fl ρ))
 | .rt w=>Q (.rt w)
section
variable{α σ:Type}{fl:List Nat}{b:Hg->En->Mo Fl}
theorem lv(J:Nat->En->Prop){Q:Fl->Prop}:∀{xs:List Hg}{ρ:En}(n:Nat),J n ρ->(∀i x ρ,xs[i]?=some x->J (n+i) ρ->∀k:Fl->Prop,(∀r,Fm fl (J (n+i+1)) Q r->k r)->b x ρ k)->(∀ρ,J (n+xs.length) ρ->Q (.nx ρ))->fU fl b xs ρ Q
 | [],ρ,n,h0,_,fin=>fin ρ h0
 | x::xs,ρ,n,h0,step,fin=>by
   refine step 0 x ρ rfl h0 (fun r=>Fo fl (fU fl b xs) r Q) fun r hr=>?_
   have rc:∀ρ',J (n+1) ρ'->fU fl b xs ρ' Q:=fun ρ' h'=>lv J (n+1) h' (fun i y ρ e j k hk=>step (i+1) y ρ (by simpa using e) (by rw[show n+(i+1)=n+1+i by omega];exact j) k (by rw[show n+(i+1)+1=n+1+i+1 by omega];exact hk)) (fun ρ j=>fin ρ (by rw[Ip,show n+(xs.length+1)=n+1+xs.length by omega];exact j))
   cases r with
   | nx ρ'=>exact rc _ hr
   | ct ρ'=>exact rc _ hr
   | bk ρ'=>exact hr
   | rt w=>exact hr
theorem oZ{xs:List α}{enc:α->Hg}{Q:Fl->Prop}(J:Nat->En->Prop)(h0:J 0 ρ)
 (step:∀i (h:i<xs.length) ρ,J i ρ->∀k:Fl->Prop,(∀r,Fm fl (J (i+1)) Q r->k r)->b (enc xs[i]) ρ k)(fin:∀ρ,J xs.length ρ->Q (.nx ρ)):fU fl b (xs.map enc) ρ Q:=by
 refine lv J 0 h0 (fun i x ρ e j k hk=>?_) (fun ρ j=>fin ρ (by simpa using j))
 have hi:i<xs.length:=by have:=(Ia.mp e).1;simpa using this
 rw[Ii,Hu hi]at e
 cases e
 rw[Nat.zero_add]at j hk
 exact step i hi ρ j k hk
theorem rj{lo:Int}{Q:Fl->Prop}(J:Nat->En->Prop)(h0:J 0 ρ)
 (step:∀i,i<n->∀ρ,J i ρ->∀k:Fl->Prop,(∀r,Fm fl (J (i+1)) Q r->k r)->b (.int (lo+i)) ρ k)(fin:∀ρ,J n ρ->Q (.nx ρ)):fU fl b (aM lo n) ρ Q:=by
 refine oZ (xs:=HL n) J h0 (fun i h ρ j k hk=>?_) (fun ρ j=>fin ρ (by simpa using j))
 rw[LU]
 exact step i (by simpa using h) ρ j k hk
end
noncomputable def fB(fl:List Nat)(f:TB)(t:Gf)(ρ:En):Mo Fl:=fun Q=>∃m,mS (D4 fl f t m) ρ Q
theorem s_while(fl:List Nat)(f:TB)(t:Gf)(ρ:En):mS (nn fl f t) ρ=fB fl f t (fo fl ρ):=nr rfl
theorem lR(fl:List Nat)(f:TB)(t:Gf)(m:Nat)(ρ:En):mS (D4 fl f t m) ρ=FR (f ρ) fun b=>if b=true then FR (mS t ρ) (Fo fl fun ρ'=>fun Q=>∃k,∃h:k<m,mS (D4 fl f t k) ρ' Q)else ret (.nx ρ):=by
 refine ak fun Q=>?_
 show D4 fl f t m _ ρ↔_
 rw[sB]
 simp only[FR,gL]
 exact K8
theorem tT{fl:List Nat}{f:TB}{t:Gf}(h:f ρ=ret false):fB fl f t ρ=ret (.nx ρ):=by
 refine ak fun Q=>?_
 constructor
 · rintro⟨m,q⟩;rw[lR,h,bnd_ret,if_neg (by decide)]at q;exact q
 · intro q;refine⟨0,?_⟩;rw[lR,h,bnd_ret,if_neg (by decide)];exact q
theorem tS{fl:List Nat}{f:TB}{t:Gf}{ρ':En}(h:f ρ=ret true)(h2:mS t ρ=ret (.nx ρ')):fB fl f t ρ=fB fl f t (fo fl ρ'):=by
 refine ak fun Q=>?_
 constructor
 · rintro⟨m,q⟩;rw[lR,h,bnd_ret,if_pos rfl,h2,bnd_ret]at q;obtain⟨k,_,q⟩:=q;exact⟨k,q⟩
 · rintro⟨m,q⟩;refine⟨m+1,?_⟩;rw[lR,h,bnd_ret,if_pos rfl,h2,bnd_ret];exact⟨m,Mb m,q⟩
theorem mW{σ:Type}{fl:List Nat}{f:TB}{t:Gf}(st:σ->En)(c:σ->Bool)(nxt:σ->σ)(μ:σ->Nat)(I:σ->Prop)
 (hf:∀s,I s->f (st s)=ret (c s))(ht:∀s,I s->c s=true->I (nxt s)/\μ (nxt s)<μ s/\∃ρ',mS t (st s)=ret (.nx ρ')/\fo fl ρ'=st (nxt s))(s:σ)(hs:I s):∃s',I s'/\c s'=false/\fB fl f t (st s)=ret (.nx (st s')):=by
 induction hm:μ s using Nat.strongRecOn generalizing s with
 | ind n ih =>
   subst hm
   cases hc:c s with
   | false=>exact⟨s,hs,hc,tT (by rw[hf s hs,hc])⟩
   | true =>
     obtain⟨i1,m1,ρ',e1,e2⟩:=ht s hs hc
     obtain⟨s',a,b,e⟩:=ih _ m1 (nxt s) i1 rfl
     exact⟨s',a,b,by rw[tS (by rw[hf s hs,hc]) e1,e2,e]⟩
noncomputable def nq(ρ0:En)(g:Gj)(ft:TB)(fe:TV):List Hg->List Hg->(List Hg->Prop)->Prop
 | [],acc,Q=>Q acc
 | x::xs,acc,Q=>g x ρ0 fun ρ2=>Le ρ0 ρ2/\ft ρ2 fun b=>if b=true then fe ρ2 fun w=>∃d,w.fz = .d d/\acc.length<sizeLine/\nq ρ0 g ft fe xs (acc++[d]) Q else nq ρ0 g ft fe xs acc Q
noncomputable def kZ(fi:En->(List Hg->Prop)->Prop)(fr:List (Option Nat))(g:Gj)(ft:TB)(fe:TV):TV:=fun ρ Q=>fi ρ fun xs=>nq (dU fr ρ) g ft fe xs [] fun ds=>Q (.ml ds)
section
variable{X:Cx}{rl:RlT}{elt tg iter:Expr}{ifs:List Expr}{scope:Scope}{pos:Pos}{fi:En->(List Hg->Prop)->Prop}{g:Gj}{ft:TB}{fe:TV}
theorem lx{N':List Str}{wi:TI}(fr:List (Option Nat))(k0:∀{F₀ H₀ F H:Hp}{σ:St}{ρ:En},VR X.K rl F₀ H₀ F H σ ρ->∀(Qd:List Hg->Prop)(R:It->Hp->Prop),fi ρ Qd ->
 (∀J xs F' H',Grow rl F H F' H'->VIt X.K rl F' J xs->Qd xs->R J H')->wi σ H R)
 (hg:∀y,GI (FS X N' scope y) rl tg g)(ht:∀y,lP (FS X N' scope y) rl ifs ft)(he:∀y,PV (FS X N' scope y) rl elt fe)
 (R:VR X.K rl F₀ H₀ F H σ ρ)(Qd:W->Prop)(Q:VK)(q:kZ fi fr g ft fe ρ Qd)
 (k:∀v w F' H',Grow rl F H F' H'->dA X.K rl F' H' v w->dS H v w->Qd w->Q v H'):uq wi fr (fun y=>IM (hg y)) (fun y=>IM (ht y)) (fun y=>IM (he y)) σ H Q:=by
 refine k0 R _ _ q fun J xs F1 H1 g1 vi q1=>?_
 intro D hD
 have rD:rl.a≠some D:=fun e=>by obtain⟨o,z⟩:=g1.reel.live e;rw[hD]at z;cases z
 have FD:F1 D=none:=g1.sub.free hD
 have gD:Grow rl F1 H1 F1 (D9 H1 D (.lst [])):=Grow.laid g1.sub g1.reel hD
 have R1:=R.grow g1
 have n0:jK (dU fr ρ):=dD
 refine⟨fun i m acc σc Hc=>m=xs.length-i/\i<=xs.length/\∃Fc ds,VR X.K rl F1 H1 Fc Hc σc (dU fr ρ)/\Hc D=some (.lst acc)/\Fc D=none/\Reps X.K Fc acc ds/\nq (dU fr ρ) g ft fe (xs.drop i) ds (fun ds=>Qd (.ml ds)),
  ⟨xs.length,by simp,Ig _,F1,[],fq R1 gD,az,FD,.nil,by simpa using q1⟩,?_⟩
 rintro z i m acc σc Hc ⟨rfl,hi,Fc,ds,Rc,hDc,fDc,rs,q2⟩
 have sH:bH F1 Hc:=Rc.g.fs.trans Rc.sub
 by_cases hlt:i<xs.length
 · have ei:xs[i]?=some xs[i]:=by simp[hlt]
   have ed:xs.drop i=xs[i]::xs.drop (i+1):=IZ hlt
   rw[ed]at q2
   refine .inr ⟨vi.go i Hc _ ei sH,fun v H' y=>?_⟩
   obtain⟨Fy,gy,rv⟩:=vi.yld i Hc v H' _ Fc ei Rc.g.fs Rc.sub Rc.reel y
   refine(Hs (hg z)).2 (Rc.grow gy) v _ _ _ rv q2 fun F3 H3 σ3 ρ3 g3 n3 R3 ⟨le3,q3⟩=>?_
   refine(Hs (ht z)).2 R3 _ _ q3 fun b F4 H4 g4 q4=>?_
   have R4:=R3.grow g4
   have g34:=(gy.trans g3).trans g4
   have keepD:∀{Fx Hx:Hp},Grow rl Fc Hc Fx Hx->Hx D=some (.lst acc)/\Fx D=none:=fun gx=>⟨gx.same D _ hDc rD,by rw[gx.old D _ hDc];exact fDc⟩
   cases b with
   | false=>exact⟨xs.length-(i+1),by omega,rfl,hlt,F4,ds,R4.le le3,(keepD g34).1,(keepD g34).2,rs.mono g34.fs,q4⟩
   | true =>
     refine(Hs (he z)).2 R4 _ _ q4 fun v5 w5 F5 H5 g5 r5 n5 ⟨d,ed5,hl,q5⟩=>?_
     obtain⟨F6,g6,s6,r6⟩:=dA.fz g5 r5 n5
     rw[ed5]at r6
     have g36:=g34.trans g6
     refine⟨(keepD g36).1,by rw[rs.length];exact hl,xs.length-(i+1),by omega,rfl,hlt,F6,ds++[d],((R4.grow g6).le le3).other n0 hD (keepD g36).2 rD,az,(keepD g36).2,(rs.mono g36.fs).snoc r6,q5⟩
 · have e:i=xs.length:=by omega
   subst e
   rw[Ki]at q2
   refine .inl ⟨vi.stop _ Hc (HA _) sH,k _ (.ml ds) Fc Hc (g1.trans Rc.g) ⟨D,acc,rfl,fDc,rD,hDc,rs⟩ (fun a ea=>by cases ea;exact g1.freeB hD) q2⟩
theorem aY(N':List Str)(fr:List (Option Nat))(hc:X.calm=true)(hi:GF X rl tg iter fi)
 (hg:∀y,GI (FS X N' scope y) rl tg g)(ht:∀y,lP (FS X N' scope y) rl ifs ft)(he:∀y,PV (FS X N' scope y) rl elt fe)
 (hfr:lE fr N' X.N scope X.env.scope=true:=by rfl)(hsc:mB scope X.env.scope=true:=by rfl)
 (hs:∀x,HX iter X.env x=pure x:=by intro _;rfl):PV X rl (.ListComp elt [⟨tg,iter,ifs,0⟩] scope pos) (kZ fi fr g ft fe):=by
 obtain⟨wi,p0,k0⟩:=hi
 exact⟨_,li N' fr hc p0 hfr hsc (fun y=>(Hs (hg y)).1) (fun y=>(Hs (ht y)).1) (fun y=>(Hs (he y)).1) hs,fun R Qd Q q k=>lx fr k0 hg ht he R Qd Q q k⟩
end
noncomputable def FA(ρ0:En)(g:Gj)(ft:TB)(fe:TV)(x:Hg):Mo (Option Hg):=FR (g x ρ0) fun ρ2=>FI (Le ρ0 ρ2) (FR (ft ρ2) fun b=>if b=true then FR (fe ρ2) fun w=>aS (asD w.fz) fun d=>ret (some d)else ret none)
noncomputable def bQ(b:Hg->Mo (Option Hg)):List Hg->List Hg->Mo (List Hg)
 | [],acc=>ret acc
 | x::xs,acc=>FR (b x) fun o=>match o with
   | some d=>FI (acc.length<sizeLine) (bQ b xs (acc++[d]))
   | none=>bQ b xs acc
theorem kI(ρ0:En)(g:Gj)(ft:TB)(fe:TV):∀(xs acc:List Hg),nq ρ0 g ft fe xs acc=bQ (FA ρ0 g ft fe) xs acc
 | [],acc=>rfl
 | x::xs,acc=>by
   refine ak fun Q=>?_
   show(g x ρ0 fun ρ2=>Le ρ0 ρ2/\ft ρ2 fun b=>if b=true then fe ρ2 fun w=>∃d,w.fz = .d d/\acc.length<sizeLine/\nq ρ0 g ft fe xs (acc++[d]) Q else nq ρ0 g ft fe xs acc Q)↔(FR (FA ρ0 g ft fe x) _) Q
   simp only[kI ρ0 g ft fe xs]
   have:∀(ρ2:En)(b:Bool),(if b=true then fe ρ2 fun w=>∃d,w.fz = .d d/\acc.length<sizeLine/\bQ (FA ρ0 g ft fe) xs (acc++[d]) Q else bQ (FA ρ0 g ft fe) xs acc Q)=(FR (if b=true then FR (fe ρ2) fun w=>aS (asD w.fz) fun d=>ret (some d)else ret none) fun o=>match o with
   | some d=>FI (acc.length<sizeLine) (bQ (FA ρ0 g ft fe) xs (acc++[d]))
   | none=>bQ (FA ρ0 g ft fe) xs acc) Q:=by
     intro ρ2 b
     cases b with
     | false=>rfl
     | true =>
       rw[if_pos rfl,if_pos rfl]
       show _=fe ρ2 fun w=>_
       congr 1
       funext w
       refine propext ?_
       show _↔(FR (aS (asD w.fz) fun d=>ret (some d)) _) Q
       rw[bnd_opt,aw]
       simp only[gQ]
       exact K8
   simp only[this]
   exact K8
theorem m_comp(fi:En->(List Hg->Prop)->Prop)(fr:List (Option Nat))(g:Gj)(ft:TB)(fe:TV)(ρ:En):kZ fi fr g ft fe ρ=FR (fi ρ) fun xs=>FR (bQ (FA (dU fr ρ) g ft fe) xs []) fun ds=>ret (.ml ds):=by
 refine ak fun Q=>?_
 show(fi ρ fun xs=>nq (dU fr ρ) g ft fe xs [] fun ds=>Q (.ml ds))↔_
 simp only[kI]
 exact K8
section
variable{α:Type}{b:Hg->Mo (Option Hg)}
theorem eB{enc:α->Hg}(f:α->Option Hg):∀(xs:List α)(acc:List Hg),(∀x∈xs,b (enc x)=ret (f x))->acc.length+xs.length<=sizeLine->bQ b (xs.map enc) acc=ret (acc++xs.filterMap f)
 | [],acc,_,_=>by simp[bQ]
 | x::xs,acc,h,hl=>by
   show FR (b (enc x)) _=_
   rw[h x Ht,bnd_ret]
   simp at hl
   cases e:f x with
   | none =>
     show bQ b (xs.map enc) acc=_
     rw[eB f xs acc (fun y hy=>h y (Hn _ hy)) (by omega),List.filterMap_cons_none e]
   | some d =>
     show FI (acc.length<sizeLine) (bQ b (xs.map enc) (acc++[d]))=_
     rw[ag (by omega),eB f xs (acc++[d]) (fun y hy=>h y (Hn _ hy)) (by simp;omega),List.filterMap_cons_some e]
     simp
theorem kH{xs:List α}{enc:α->Hg}(f:α->Option Hg)(h:∀x∈xs,b (enc x)=ret (f x))(hl:xs.length<=sizeLine):bQ b (xs.map enc) []=ret (xs.filterMap f):=by
 have:=eB f xs [] h (by simpa using hl)
 simpa using this
theorem comp_map{xs:List α}{enc:α->Hg}(f:α->Hg)(h:∀x∈xs,b (enc x)=ret (some (f x)))(hl:xs.length<=sizeLine):bQ b (xs.map enc) []=ret (xs.map f):=by
 rw[kH (fun x=>some (f x)) h hl,Mj]
theorem pU{lo:Int}(f:Nat->Hg)(h:∀j,j<n->b (.int (lo+j))=ret (some (f j)))(hl:n<=sizeLine):bQ b (aM lo n) []=ret ((HL n).map f) :=
 comp_map (xs:=HL n) f (fun j hj=>h j (Im.mp hj)) (by simpa using hl)
theorem rX{lo:Int}(f:Nat->Option Hg)(h:∀j,j<n->b (.int (lo+j))=ret (f j))(hl:n<=sizeLine):bQ b (aM lo n) []=ret ((HL n).filterMap f) :=
 kH (xs:=HL n) f (fun j hj=>h j (Im.mp hj)) (by simpa using hl)
theorem eX{enc:α->Hg}(R:α->Hg->Prop){Q:List Hg->Prop}:∀(xs:List α)(acc:List Hg),(∀x∈xs,∀k:Option Hg->Prop,(∀d,R x d->k (some d))->b (enc x) k)->acc.length+xs.length<=sizeLine->(∀ds,I0 R xs ds->Q (acc++ds))->bQ b (xs.map enc) acc Q
 | [],acc,_,_,fin=>by have:=fin [] .nil;rw[JF]at this;exact this
 | x::xs,acc,h,hl,fin=>by
   simp at hl
   refine h x Ht _ fun d r=>?_
   refine⟨by omega,eX R xs (acc++[d]) (fun y hy=>h y (Hn _ hy)) (by simp;omega) fun ds ps=>?_⟩
   have:=fin (d::ds) (.cons r ps)
   simpa using this
theorem rY{xs:List α}{enc:α->Hg}(R:α->Hg->Prop){Q:List Hg->Prop}(h:∀x∈xs,∀k:Option Hg->Prop,(∀d,R x d->k (some d))->b (enc x) k)(hl:xs.length<=sizeLine)(fin:∀ds,I0 R xs ds->Q ds):bQ b (xs.map enc) [] Q :=
 eX R xs [] h (by simpa using hl) (by simpa using fin)
theorem pW{lo:Int}(P:Hg->Prop){Q:List Hg->Prop}(h:∀j,j<n->∀k:Option Hg->Prop,(∀d,P d->k (some d))->b (.int (lo+j)) k)(hl:n<=sizeLine)(fin:∀ds:List Hg,ds.length=n->(∀d∈ds,P d)->Q ds):bQ b (aM lo n) [] Q:=by
 refine rY (xs:=HL n) (fun _ d=>P d) (fun j hj=>h j (Im.mp hj)) (by simpa using hl) fun ds ps=>?_
 refine fin ds ?_ ?_
 · have:=Kd ps;simpa using this.symm
 · clear fin h hl
   intro d hd
   generalize HL n=l at ps
   induction ps with
   | nil=>cases hd
   | cons r _ ih=>exact(HJ.mp hd).elim (fun e=>by rw[e];exact r) ih
end
section
variable(c:Prop)[Decidable c]
theorem ite_nx(a b:En):(if c then ret (Fl.nx a)else ret (Fl.nx b))=ret (Fl.nx (if c then a else b)):=by split<;>rfl
theorem ite_rt(a b:W):(if c then ret (Fl.rt a)else ret (Fl.rt b))=ret (Fl.rt (if c then a else b)):=by split<;>rfl
theorem ite_retd(a b:Hg):(if c then ret (W.d a)else ret (W.d b))=ret (W.d (if c then a else b)):=by split<;>rfl
theorem ite_retb(a b:Bool):(if c then ret a else ret b)=ret (if c then a else b):=by split<;>rfl
theorem ite_rets(a b:Hg):(if c then ret (some a)else ret (some b))=ret (some (if c then a else b)):=by split<;>rfl
theorem ite_cons{α:Type}(x y:α)(l m:List α):(if c then x::l else y::m)=(if c then x else y)::(if c then l else m):=by split<;>rfl
theorem ite_some{α:Type}(x y:α):(if c then some x else some y)=some (if c then x else y):=by split<;>rfl
theorem ite_d(a b:Hg):(if c then W.d a else W.d b)=W.d (if c then a else b):=by split<;>rfl
theorem ite_pi(a b:Int):(if c then H_ a else H_ b)=H_ (if c then a else b):=by split<;>rfl
theorem ite_pb(a b:Bool):(if c then JH a else JH b)=JH (if c then a else b):=by split<;>rfl
theorem itb_tt(b y:Bool):(if b=true then true else y)=(b||y):=by cases b<;>rfl
theorem itb_ff(b y:Bool):(if b=true then y else false)=(b&&y):=by cases b<;>rfl
theorem itb_ft(b y:Bool):(if b=true then false else y)=(!b&&y):=by cases b<;>rfl
theorem itb_tf(b y:Bool):(if b=true then y else true)=(!b||y):=by cases b<;>rfl
end
theorem ae(h:n<=1000):(n<=sizeLine)=True:=by have:=HV;exact propext ⟨fun _=>trivial,fun _=>by omega⟩
theorem tup2(x y:Hg):(match [x,y]with | [x,y]=>some (x,y)|_=>none)=some (x,y):=rfl
theorem bnd_tt{α β:Type}(a:α)(f:α->Mo β):FR (fun Q=>Q a) f=f a:=nr rfl
section
variable{α β:Type}
theorem ah{P:α->Prop}{f:α->Mo β}{Q:β->Prop}(h:∀a,P a->f a Q):FR (anyM P) f Q:=h
theorem cB{P:Prop}{m:Mo α}{Q:α->Prop}(h:P)(h':m Q):FI P m Q:=⟨h,h'⟩
theorem cU{c:Prop}[Decidable c]{a b:Mo α}{Q:α->Prop}(h:c->a Q)(h':¬c->b Q):(if c then a else b) Q:=by split<;>simp_all
theorem rq{b:Bool}{x y:Mo α}{Q:α->Prop}(h:b=true->x Q)(h':b=false->y Q):(if b=true then x else y) Q:=by cases b<;>simp_all
end
theorem aF{Q:Hg->Prop}(h:Q d):ret (Fl.rt (.d d)) (wt Q):=⟨d,rfl,h⟩
theorem jW{Q:Hg->Prop}{d:List Hg}(h:Q (.list d)):ret (Fl.rt (.ml d)) (wt Q):=⟨_,rfl,h⟩
section
variable{α:Type}{k:En->Mo Fl}{Q:Fl->Prop}
theorem Ex{m:Mo α}{h:α->Mo Fl}(z:FR m (fun a=>sq (h a) k) Q):sq (FR m h) k Q:=z
theorem Ew{o:Option α}{h:α->Mo Fl}(z:aS o (fun a=>sq (h a) k) Q):sq (aS o h) k Q:=by rw[xw];exact z
noncomputable def kc(k1 k2:En->Mo Fl):En->Mo Fl:=fun ρ=>sq (k1 ρ) k2
theorem kc_ap(k1 k2:En->Mo Fl)(ρ:En):kc k1 k2 ρ=sq (k1 ρ) k2:=nr rfl
theorem sq_sq(m:Mo Fl)(k1 k2:En->Mo Fl):sq (sq m k1) k2=sq m (kc k1 k2):=by
 refine ak fun Q=>?_
 show m _↔m _
 have:∀fl:Fl,(sq (match fl with | .nx ρ=>k1 ρ | .rt w=>ret (.rt w) | .bk ρ=>ret (.bk ρ) | .ct ρ=>ret (.ct ρ)) k2) Q=(match fl with | .nx ρ=>kc k1 k2 ρ | .rt w=>ret (.rt w) | .bk ρ=>ret (.bk ρ) | .ct ρ=>ret (.ct ρ):Mo Fl) Q:=by intro fl;cases fl<;>rfl
 exact Iff.of_eq (congrArg m (funext this))
theorem al{P:α->Prop}{f:α->Mo Fl}(z:∀a,P a->sq (f a) k Q):sq (FR (anyM P) f) k Q:=z
end
theorem pk_sc(x:List Int):L2.VL.W.peek (.sc x) = .sc x:=rfl
theorem fz_sc(x:List Int):(W.sc x).fz = .sc x:=rfl
theorem arg_sc(x:List Int):gc (.sc x)=true:=rfl
theorem isPk_sc(x:List Int):(W.sc x).isPk=false:=rfl
section
variable{X:Cx}{rl:RlT}{a b c e:Expr}{es:List Expr}{fa fb fc:TV}{fs:Ge}{pos p p2:Pos}{ρ:En}
noncomputable def asSc:W->Option (List Int)
 | .sc ns=>some ns
 | _=>none
theorem asSc_s(ns:List Int):asSc (.sc ns)=some ns:=rfl
theorem wg{w:W}{i:List Int}:asSc w=some i↔w = .sc i:=by
 constructor
 · intro h;unfold asSc at h;split at h<;>simp_all
 · rintro rfl;rfl
theorem cw(f:α->β)(xs:List α)(i:Int):atI (xs.map f) i=(atI xs i).map f:=by
 unfold atI
 rw[Hm]
 cases ixN xs.length i<;>simp
theorem oh{K:W.Frag}{F:Hp}:∀ns:List Int,Reps K F (ns.map V.int) (ns.map H_)
 | []=>.nil
 | n::ns=>.cons (.int n) (oh ns)
noncomputable def zU(fa:TV)(fl fh:Gh):TV:=fun ρ Q=>fa ρ fun w=>fl ρ fun l=>fh ρ fun h=>∃ns:List Int,w = .sc ns/\Q (.ml (cutD (ns.map .int) l h))
theorem wQ{lo hi:Option Expr}{fl fh:Gh}(ha:PV X rl a fa)(hl:Gy X rl lo fl)(hh:Gy X rl hi fh):PV X rl (.Subscript a (.Slice lo hi none p2) pos) (zU fa fl fh):=by
 obtain⟨t,p,k⟩:=ha
 obtain⟨tl,pl,kl⟩:=hl
 obtain⟨th,ph,kh⟩:=hh
 refine⟨_,qQ uy p pl ph,fun R Qd Q q h=>k R _ _ q fun v w F1 H1 g1 r1 n1 q1=>?_⟩
 refine kl (R.grow g1) _ _ q1 fun l F2 H2 g2 q2=>kh ((R.grow g1).grow g2) _ _ q2 fun u F3 H3 g3 q3=>?_
 obtain⟨ns,rfl,q3⟩:=q3
 obtain⟨a,rfl,sq⟩:=(r1.grow g2).grow g3
 have g:=(g1.trans g2).trans g3
 exact⟨a,_,rfl,qG g3.sub sq,fun p hp=>h _ (.ml _) _ _ (g.trans (Grow.laid g3.sub g3.reel hp)) (cA g3.sub g3.reel hp ((oh ns).cut l u)) (fun a ea=>by cases ea;exact g.freeB hp) q3⟩
theorem m_vSlS{fl fh:Gh}:zU fa fl fh ρ=FR (fa ρ) fun w=>FR (fl ρ) fun l=>FR (fh ρ) fun h=>aS (asSc w) fun ns=>ret (.ml (cutD (ns.map .int) l h)):=by
 refine ak fun Q=>?_
 simp only[zU,FR,aw,wg,ret]
end
noncomputable def EA(K:W.Frag)(pre:List W->Prop):Sp:=fun vs H Q _=>∃F ws,bH F H/\gf K RlT.no F H vs ws/\ws.all gc=true/\pre ws/\∀r n' F' H',H r=none->Grow RlT.no F H F' H'->Gu (RlT.at' r n') F' H'->Q (.ref r) H'
structure DfnR (P:HZ) (w:IL) (K:W.Frag) (mg:Str->Option Hq) (base:Heap) (x:Str) (ps:List Str) (k:Nat) (pre:List W->Prop):Prop where
 ex:∃f fd,mg x=some (.ref f)/\W.keepIn K (.ref f)=true/\Binds K fd ps []/\FnOk P w K mg base G7 k f fd ps (EA K pre)
noncomputable def E5:Option W->Option W
 | some .reel=>none
 | o=>o
noncomputable def nR(ρ:En):En:=ρ.map E5
noncomputable def W.isR:W->Bool
 | .reel=>true
 | _=>false
noncomputable def wY(i:Nat)(pre:List W->Prop)(fs:Ge)(t:Gf):Gf:=fun D ρ=>fs ρ fun ws=>ws.all gc=true/\pre ws/\t ⟨fun ρ'=>D.nx (nR ρ'),fun w=>w.isR=false/\D.rt w,fun ρ'=>D.bk (nR ρ'),fun ρ'=>D.ct (nR ρ')⟩ (ρ.set i (some .reel))
theorem vQ{r:Addr}(g:Grow RlT.no F₀ H₀ F H)(ra:Gu (RlT.at' r n') F H):Grow (RlT.at' r n') F₀ H₀ F H:=⟨fun b o e _=>g.same b o e (by simp),g.fs,g.sub,g.old,ra⟩
theorem lC{r:Addr}(g:Grow (RlT.at' r n') F₀ H₀ F H)(n:H₀ r=none):Grow RlT.no F₀ H₀ F H:=⟨fun b o e _=>g.same b o e (fun z=>by cases z;rw[n]at e;cases e),g.fs,g.sub,g.old,fun _ z=>by cases z⟩
theorem xM{K:W.Frag}{r:Addr}{w:W}(h:dA K RlT.no F H v w)(ne:∀a,w.own=true\/(∃xs,w = .pk xs)->v = .ref a->a≠r):dA K (RlT.at' r n') F H v w:=by
 cases w with
 | d x=>exact h
 | ml xs=>obtain⟨a,vs,e,f,_,g⟩:=h;exact⟨a,vs,e,f,fun z=>ne a (.inl rfl) e (by cases z;rfl),g⟩
 | pk xs=>obtain⟨a,vs,e,f,_,g⟩:=h;exact⟨a,vs,e,f,fun z=>ne a (.inr ⟨_,rfl⟩) e (by cases z;rfl),g⟩
 | reel=>obtain⟨_,z,_⟩:=h;cases z
 | vv u=>exact h
 | md kvs=>obtain⟨a,vs,e,f,_,g⟩:=h;exact⟨a,vs,e,f,fun z=>ne a (.inl rfl) e (by cases z;rfl),g⟩
 | mk kvs=>obtain⟨a,vs,e,f,_,g⟩:=h;exact⟨a,vs,e,f,fun z=>ne a (.inl rfl) e (by cases z;rfl),g⟩
 | nt ds=>exact h
 | lk=>trivial
 | sc ns=>exact h
 | fd _=>exact h
 | fw _=>exact h
 | ft _=>exact h
 | xc _ _=>exact h
 | dp _ _=>exact h
theorem om{K:W.Frag}{r:Addr}{w:W}(h:dA K (RlT.at' r n') F H v w)(n:w.isR=false):dA K RlT.no F H v w:=by
 cases w with
 | d x=>exact h
 | ml xs=>obtain⟨a,vs,e,f,_,g⟩:=h;exact⟨a,vs,e,f,by simp,g⟩
 | pk xs=>obtain⟨a,vs,e,f,_,g⟩:=h;exact⟨a,vs,e,f,by simp,g⟩
 | reel=>cases n
 | vv u=>exact h
 | md kvs=>obtain⟨a,vs,e,f,_,g⟩:=h;exact⟨a,vs,e,f,by simp,g⟩
 | mk kvs=>obtain⟨a,vs,e,f,_,g⟩:=h;exact⟨a,vs,e,f,by simp,g⟩
 | nt ds=>exact h
 | lk=>trivial
 | sc ns=>exact h
 | fd _=>exact h
 | fw _=>exact h
 | ft _=>exact h
 | xc _ _=>exact h
 | dp _ _=>exact h
theorem lm{w:W}(h:(nR ρ)[i]?=some (some w)):ρ[i]?=some (some w)/\w.isR=false:=by
 unfold nR at h
 rw[Ii]at h
 cases e:ρ[i]? with
 | none=>rw[e]at h;cases h
 | some o =>
   rw[e]at h
   cases o with
   | none=>cases h
   | some u=>cases u<;>first|(cases h;exact⟨rfl,rfl⟩)|cases h
theorem VR.out{K:W.Frag}{r:Addr}(R:VR K (RlT.at' r n') F₀ H₀ F H σ ρ)(n:H₀ r=none):VR K RlT.no F₀ H₀ F H σ (nR ρ):=by
 refine⟨lC R.g n,fun i w e=>?_,fun i j x y v hn e1 e2=>R.ap i j x y v hn (lm e1).1 (lm e2).1,fun i xs e=>R.np i xs (lm e).1,?_⟩
 · obtain⟨e1,e2⟩:=lm e
   obtain⟨v,h1,h2,h3⟩:=R.sl i w e1
   exact⟨v,h1,om h2 e2,h3⟩
 · have:=R.len;simpa[nR]using this
theorem VR.into{K:W.Frag}{r:Addr}(R:VR K RlT.no F₀ H₀ F H σ ρ)(n:H r=none)(g:Grow RlT.no F H F' H')(ra:Gu (RlT.at' r n') F' H')(i:Nat):VR K (RlT.at' r n') F₀ H₀ F' H' (σ.set i (some (.ref r))) (ρ.set i (some .reel)):=by
 have R1:=R.grow g
 refine⟨vQ R1.g ra,fun j w e=>?_,fun j k x y v hn e1 e2 o1 o2 s1 s2=>?_,fun j xs e=>?_,by simp[R.len]⟩
 · by_cases hj:i=j
   · subst hj
     have hi:i<ρ.length:=by
      rw[IV]at e
      by_cases hi:i<ρ.length
      · exact hi
      · simp[hi]at e
     rw[Ib hi]at e
     cases e
     exact⟨.ref r,by rw[Ib (by rw[<- R.len];exact hi)],⟨r,rfl,rfl⟩,trivial⟩
   · rw[HU hj]at e
     obtain⟨v,h1,h2,h3⟩:=R1.sl j w e
     refine⟨v,by rw[HU hj];exact h1,xM h2 fun a ow ea z=>?_,h3⟩
     obtain⟨v0,h10,h20,_⟩:=R.sl j w e
     rw[h1]at h10
     cases h10
     rcases ow with ow|⟨xs,rfl⟩
     · obtain⟨b,o,eb,hb⟩:=h20.live ow
       rw[ea]at eb
       cases eb
       rw[z,n]at hb
       cases hb
     · exact absurd e (R.np j xs)
 · have key:∀(m:Nat)(z:W),(ρ.set i (some W.reel))[m]?=some (some z)->z.own=true->i≠m/\ρ[m]?=some (some z):=fun m z e o=>by
     by_cases hm:i=m
     · subst hm
       rw[IV]at e
       split at e
       · split at e
         · cases e;cases o
         · cases e
       · exact absurd rfl (by assumption)
     · rw[HU hm]at e;exact⟨hm,e⟩
   obtain⟨n1,d1⟩:=key j x e1 o1
   obtain⟨n2,d2⟩:=key k y e2 o2
   rw[HU n1]at s1
   rw[HU n2]at s2
   exact R1.ap j k x y v hn d1 d2 o1 o2 s1 s2
 · rw[IV]at e
   split at e
   · split at e
     · cases e
     · cases e
   · exact R1.np j xs e
section
variable{X:Cx}{st:Stmt}{rest body:List Stmt}{t u:Gf}{a b c e:Expr}{es:List Expr}{fa fb:TV}{fs:Ge}{pos p px cpos:Pos}{ρ:En}
theorem tU(i:Nat){f:Str}{ps:List Str}{k:Nat}{pre:List W->Prop}(D:DfnR X.prog X.w X.K X.mg X.base f ps k pre)(hr:Room k X.A)(hN:X.N.Nodup)(ha:Gx X RlT.no (e::es) fs)(hrest:∀r n',lQ X (RlT.at' r n') rest t)
 (hi:X.N[i]?=some x:=by rfl)(hx:Loc X.env.scope x:=by first|exact Jy rfl|exact IK rfl)(hg:Gl X f:=by rfl)(hdb:(f==("__debug__" : Str))=false:=by decide)
 (he:Hy (e::es) X.env=(false,eval e X.env)::Hy es X.env:=by rfl)(hpl:(Je cpos (Hy es X.env)).any (·.1)=false:=by rfl)
 (hs:JE (.Call (.Name f p) (e::es) [] cpos) (some (.Name x px)) pos.line X.env=pure false:=by rfl)(hf:X.fn x=true\/X.env.scope.names.lookup x=some .local:=by first|exact .inl rfl|exact .inr rfl) :
 lQ X RlT.no (.Assign [.Name x px] (.Call (.Name f p) (e::es) [] cpos) pos::rest) (wY i pre fs t):=by
 obtain⟨fa,fd,hm,hk,hb,F⟩:=D.ex
 obtain⟨ta,p1,k1⟩:=ha
 refine⟨_,fy (fP hN hi hx (j_ F hr hg hm hk hb .nil u_ p1 hdb he hpl) hs hf) (uS X rest),fun{F₀ H₀ F H σ ρ} R Dv D ok q=>k1 R _ _ q fun vs ws F1 H1 g1 r1 ⟨ao,pw,q1⟩=>?_⟩
 have R1:=R.grow g1
 refine⟨F1,ws,g1.sub,by rw[JF];exact r1,ao,pw,fun r n' F2 H2 hr2 g2 ra=>?_⟩
 intro pins s I
 obtain⟨T,pT,kT⟩:=hrest r n'
 have h0:H₀ r=none:=R1.g.freeB hr2
 refine pT pins s _ H2 D I (kT (R1.into hr2 g2 ra i) _ D ⟨fun F3 H3 σ3 ρ3 s3 R3 q3=>?_,fun v w F3 H3 g3 r3 n3 q3=>?_,fun F3 H3 σ3 ρ3 s3 R3 q3=>?_,fun F3 H3 σ3 ρ3 s3 R3 q3=>?_⟩ q1)
 · exact ok.nx F3 H3 σ3 _ (g1.fs.trans (g2.fs.trans s3)) (R3.out h0) q3
 · exact ok.rt v w F3 H3 (lC g3 h0) (om r3 q3.1) n3 q3.2
 · exact ok.bk F3 H3 σ3 _ (g1.fs.trans (g2.fs.trans s3)) (R3.out h0) q3
 · exact ok.ct F3 H3 σ3 _ (g1.fs.trans (g2.fs.trans s3)) (R3.out h0) q3
end
noncomputable def Ea:Fl->Mo Fl
 | .nx ρ=>ret (.nx (nR ρ))
 | .rt w=>FI (w.isR=false) (ret (.rt w))
 | .bk ρ=>ret (.bk (nR ρ))
 | .ct ρ=>ret (.ct (nR ρ))
theorem s_newR(i:Nat)(pre:List W->Prop)(fs:Ge)(t:Gf)(ρ:En):mS (wY i pre fs t) ρ=FR (fs ρ) fun ws=>FI (ws.all gc=true) (FI (pre ws) (FR (mS t (ρ.set i (some .reel))) Ea)):=nr rfl
theorem nR_nil:nR []=[]:=rfl
theorem nR_r(l:En):nR (some .reel::l)=none::nR l:=rfl
theorem nR_n(l:En):nR (none::l)=none::nR l:=rfl
theorem nR_d(x:Hg)(l:En):nR (some (.d x)::l)=some (.d x)::nR l:=rfl
theorem nR_ml(x:List Hg)(l:En):nR (some (.ml x)::l)=some (.ml x)::nR l:=rfl
theorem nR_sc(x:List Int)(l:En):nR (some (.sc x)::l)=some (.sc x)::nR l:=rfl
noncomputable def gA(K:W.Frag):Sp:=fun vs H Q _=>∃(a:Addr)(ns:List Int),vs=[.ref a]/\Go K H a (ns.map V.int)/\ns.length<=63/\∀H',Q (.bl true) H'
noncomputable def Dj:VEnds:=⟨fun _=>False,fun w=>w = .d (.bool true),fun _=>False,fun _=>False⟩
noncomputable def wr:Fl->Prop
 | .rt w=>w = .d (.bool true)
 | _=>False
theorem un_law(m:Mo Fl):FR m Ea wr=m wr:=by
 show m (fun fl=>Ea fl wr)=m wr
 congr 1
 funext fl
 cases fl with
 | rt w=>exact propext ⟨fun⟨_,h⟩=>h,fun h=>⟨by rw[show w = .d (.bool true)from h];rfl,h⟩⟩
 | _=>rfl
theorem vJ:ret (Fl.rt (.d (.bool true))) wr:=rfl
section
variable{P:HZ}{w:IL}{K:W.Frag}{mg:Str->Option Hq}{base:Heap}{st:Stmt}{N:List Str}{k:Nat}{t:Gf}{x:Str}
theorem vj{f:Addr}(F:Fun K "law" "law" st f fd)(S:FnScope N [x] (defScope st))
 (hbody:∀(cdv:Hq)(A:ID)(outer:List Env)(s:Hv)(H:Hp)(E:XK),Room k (A.deeper (Mq "law" (defScope st) s.heap.objs.size f cdv))->lQ (qj G7 P w K mg base N "law" (defScope st) f cdv A outer s H E).nox RlT.no (defBody st) t)
 (hread:∀ns:List Int,ns.length<=63->mS t (dH N [.sc ns]) wr):FnOk P w K mg base G7 (k+1) f fd [x] (gA K):=by
 refine F.ok S (fun vs H Q E h=>?_) (fun cdv A outer s H vs Q E hr h=>?_)
 · obtain⟨a,ns,rfl,_⟩:=h
   rfl
 · obtain⟨a,ns,rfl,hS,hl,kq⟩:=h
   obtain⟨T,p,kk⟩:=hbody cdv A outer s H E hr
   have rw0:gf K RlT.no H H [.ref a] [.sc ns]:=.cons ⟨a,rfl,hS⟩ .nil
   have R:VR K RlT.no H H H H (start N [.ref a]) (dH N [.sc ns]):=gT (.refl H) (fun _ z=>by cases z) rw0 rfl
   refine⟨T,p,kk R Dj _ ⟨fun _ _ _ _ _ _ z=>Jw z,?_,fun _ _ _ _ _ _ z=>Jw z,fun _ _ _ _ _ _ z=>Jw z⟩ (hread ns hl)⟩
   rintro v w1 F1 H1 g1 r1 n1 z
   have z:w1 = .d (.bool true):=z
   subst z
   have e:=fM r1
   subst e
   exact kq H1
end
noncomputable def qv(i:Nat)(fa:TV):Gf:=fun D ρ=>fa ρ fun w=>∃d,w.fz = .d d/\D.nx (ρ.set i (some (.d d)))
section
variable{X:Cx}{rl:RlT}{st:Stmt}{rest body:List Stmt}{t u:Gf}{a b c e:Expr}{es:List Expr}{fa fb:TV}{fs:Ge}{f:TB}{pos p:Pos}{ρ:En}
theorem ay(i:Nat)(hN:X.N.Nodup)(he:PV X rl e fa)(hi:X.N[i]?=some x:=by rfl)(hx:Loc X.env.scope x:=by first|exact Jy rfl|exact IK rfl)
 (hs:JE e (some (.Name x pos')) pos.line X.env=pure false:=by rfl)(hf:X.fn x=true\/X.env.scope.names.lookup x=some .local:=by first|exact .inl rfl|exact .inr rfl) :
 GB X rl (.Assign [.Name x pos'] e pos) (qv i fa):=by
 obtain⟨t,p,k⟩:=he
 refine⟨_,fP hN hi hx p hs hf,fun R Dv D ok q=>k R _ _ q fun v w F1 H1 g1 r1 n1 ⟨d,ed,q1⟩=>?_⟩
 obtain⟨F2,g2,s2,r2⟩:=dA.fz g1 r1 n1
 rw[ed]at r2
 exact ok.nx _ _ _ _ g2.fs (R.set g2 r2 trivial (fun xs z=>by cases z) i) q1
theorem s_setZ(i:Nat):mS (qv i fa) ρ=FR (fa ρ) fun w=>aS (asD w.fz) fun d=>ret (.nx (ρ.set i (some (.d d)))):=by
 show(FR (fa ρ) fun w=>fun(Q:Fl->Prop)=>∃d,w.fz = .d d/\Q (.nx (ρ.set i (some (.d d)))))=_
 congr 1;funext w
 refine ak fun Q=>?_
 simp only[aw,gQ,ret]
end
section
variable{X:Cx}{rl:RlT}{elt tg iter:Expr}{ifs:List Expr}{scope:Scope}{pos:Pos}{fi:En->(List Hg->Prop)->Prop}{g:Gj}{ft:TB}{fe:TV}
theorem cH(i:Nat){b:Bool}(hN:X.N.Nodup)(N':List Str)(fr:List (Option Nat))(hc:X.calm=true)(hi:GF X rl tg iter fi)
 (hg:∀y,GI (FS X N' scope y) rl tg g)(ht:∀y,lP (FS X N' scope y) rl ifs ft)(he:∀y,PV (FS X N' scope y) rl elt fe)
 (hsw:JE (.ListComp elt [⟨tg,iter,ifs,0⟩] scope pos) (some (.Name x px)) spos.line X.env=pure b:=by rfl)
 (hix:X.N[i]?=some x:=by rfl)(hx:Loc X.env.scope x:=by first|exact Jy rfl|exact IK rfl)(hf:X.fn x=true\/X.env.scope.names.lookup x=some .local:=by first|exact .inl rfl|exact .inr rfl)
 (hfr:lE fr N' X.N scope X.env.scope=true:=by rfl)(hsc:mB scope X.env.scope=true:=by rfl)
 (hs:∀x,HX iter X.env x=pure x:=by intro _;rfl):GB X rl (.Assign [.Name x px] (.ListComp elt [⟨tg,iter,ifs,0⟩] scope pos) spos) (qv i (kZ fi fr g ft fe)):=by
 obtain⟨wi,p0,k0⟩:=hi
 refine⟨_,gE N' fr hc p0 hfr hsc (fun y=>(Hs (hg y)).1) (fun y=>(Hs (ht y)).1) (fun y=>(Hs (he y)).1) hN hix hx hf hsw hs,fun R Dv D ok q=>lx fr k0 hg ht he R _ _ q fun v w F1 H1 g1 r1 n1 ⟨d,ed,q1⟩=>?_⟩
 obtain⟨F2,g2,s2,r2⟩:=dA.fz g1 r1 n1
 rw[ed]at r2
 exact ok.nx _ _ _ _ g2.fs (R.set g2 r2 trivial (fun xs z=>by cases z) i) q1
end
noncomputable def xi(xs:List Int):Hg:=.tuple (xs.map .int)
noncomputable def wp(xs:List Int):Hg:=.list (xs.map .int)
theorem dR:∀{xs ys:List Int},xs.map H_=ys.map H_↔xs=ys:=by
 intro xs ys
 constructor
 · intro h
   have:=congrArg jv h
   rw[intsD_map,intsD_map]at this
   exact IG this
 · rintro rfl;rfl
theorem la{xs ys:List Int}:xi xs=xi ys↔xs=ys:=by
 unfold xi
 rw[Jc,dR]
theorem rh{xs ys:List Int}:wp xs=wp ys↔xs=ys:=by
 unfold wp
 rw[K9,dR]
theorem bO{α:Type}{f:α->Hg}(h:∀a b,f a=f b↔a=b):∀{xs ys:List α},xs.map f=ys.map f↔xs=ys
 | [],[]=>by simp
 | [],_::_=>by simp
 | _::_,[]=>by simp
 | x::xs,y::ys=>by simp[h,bO h (xs:=xs) (ys:=ys)]
noncomputable def Ac(xs:List (List Int)):Hg:=.tuple (xs.map xi)
theorem qz{xs ys:List (List Int)}:Ac xs=Ac ys↔xs=ys:=by
 unfold Ac
 rw[Jc,bO fun _ _=>la]
theorem tL{xs:List α}{i:Int}(h0:0<=i)(h1:i<(xs.length:Int)):atI xs i=some (xs[i.toNat]'(by omega)):=by
 obtain⟨n,rfl⟩:=Kf h0
 exact dw (Hu (by omega))
section
variable{α σ:Type}{fl:List Nat}{b:Hg->En->Mo Fl}{k:En->Mo Fl}{Q:Fl->Prop}{ρ:En}
theorem kQ{f:TB}{t:Gf}(st:σ->En)(c:σ->Bool)(nxt:σ->σ)(μ:σ->Nat)(I:σ->Prop)(s:σ)(h0:ρ=st s)(hs:I s)
 (hf:∀s,I s->f (st s)=ret (c s))(ht:∀s,I s->c s=true->I (nxt s)/\μ (nxt s)<μ s/\∃ρ',mS t (st s)=ret (.nx ρ')/\fo fl ρ'=st (nxt s))(fin:∀s,I s->c s=false->k (st s) Q):sq (fB fl f t ρ) k Q:=by
 subst h0
 obtain⟨s',a,b,e⟩:=mW st c nxt μ I hf ht s hs
 rw[e]
 exact fin s' a b
noncomputable def Fj(fl:List Nat)(J:En->Prop)(k:En->Mo Fl)(Q:Fl->Prop):Fl->Prop
 | .nx ρ=>J (fo fl ρ)
 | .ct ρ=>J (fo fl ρ)
 | .bk ρ=>k (fo fl ρ) Q
 | .rt w=>Q (.rt w)
theorem fS{J:En->Prop}{ρ:En}(h:J (fo fl ρ)):Fj fl J k Q (.nx ρ):=h
theorem pD{xs:List α}{enc:α->Hg}(J:Nat->En->Prop)(hx:xs'=xs.map enc)(h0:J 0 ρ)
 (step:∀i (h:i<xs.length) ρ,J i ρ->∀K:Fl->Prop,(∀r,Fj fl (J (i+1)) k Q r->K r)->b (enc xs[i]) ρ K)(fin:∀ρ,J xs.length ρ->k ρ Q):sq (fU fl b xs' ρ) k Q:=by
 subst hx
 refine oZ (Q:=fun r=>(match r with | .nx ρ=>k ρ | .rt w=>ret (.rt w) | .bk ρ=>ret (.bk ρ) | .ct ρ=>ret (.ct ρ):Mo Fl) Q) J h0 (fun i hi ρ j K hK=>step i hi ρ j K fun r hr=>hK r ?_) fin
 cases r<;>exact hr
theorem kz{lo:Int}(J:Nat->En->Prop)(h0:J 0 ρ)
 (step:∀i,i<n->∀ρ,J i ρ->∀K:Fl->Prop,(∀r,Fj fl (J (i+1)) k Q r->K r)->b (.int (lo+i)) ρ K)(fin:∀ρ,J n ρ->k ρ Q):sq (fU fl b (aM lo n) ρ) k Q:=by
 refine rj (Q:=fun r=>(match r with | .nx ρ=>k ρ | .rt w=>ret (.rt w) | .bk ρ=>ret (.bk ρ) | .ct ρ=>ret (.ct ρ):Mo Fl) Q) J h0 (fun i hi ρ j K hK=>step i hi ρ j K fun r hr=>hK r ?_) fin
 cases r<;>exact hr
theorem rV{lo:Int}(step:∀i,i<n->∀K:Fl->Prop,(∀r,Fj fl (fun ρ'=>ρ'=ρ) k Q r->K r)->b (.int (lo+i)) ρ K)(fin:k ρ Q):sq (fU fl b (aM lo n) ρ) k Q :=
 kz (fun _ ρ'=>ρ'=ρ) rfl (fun i h ρ' e K hK=>by subst e;exact step i h K hK) fun ρ' e=>by subst e;exact fin
end
theorem Dx{m:Mo Fl}{Q:Fl->Prop}(h:sq m (fun ρ=>ret (.nx ρ)) Q):m Q:=by
 have e:(fun fl:Fl=>(match fl with | .nx ρ=>ret (.nx ρ) | .rt w=>ret (.rt w) | .bk ρ=>ret (.bk ρ) | .ct ρ=>ret (.ct ρ):Mo Fl) Q)=Q:=by
  funext fl;cases fl<;>rfl
 have h:m (fun fl:Fl=>(match fl with | .nx ρ=>ret (.nx ρ) | .rt w=>ret (.rt w) | .bk ρ=>ret (.bk ρ) | .ct ρ=>ret (.ct ρ):Mo Fl) Q):=h
 rw[e]at h
 exact h
section
variable{α β:Type}{b:Hg->Mo (Option Hg)}{k:List Hg->Mo β}{Q:β->Prop}
theorem tK{xs:List α}{enc:α->Hg}(f:α->Option Hg)(hx:xs'=xs.map enc)(h:∀x∈xs,b (enc x)=ret (f x))(hl:xs.length<=sizeLine)(fin:k (xs.filterMap f) Q):FR (bQ b xs' []) k Q:=by
 subst hx;rw[kH f h hl];exact fin
theorem b_{xs:List α}{enc:α->Hg}(f:α->Hg)(hx:xs'=xs.map enc)(h:∀x∈xs,b (enc x)=ret (some (f x)))(hl:xs.length<=sizeLine)(fin:k (xs.map f) Q):FR (bQ b xs' []) k Q:=by
 subst hx;rw[comp_map f h hl];exact fin
theorem r8{lo:Int}(f:Nat->Hg)(h:∀j,j<n->b (.int (lo+j))=ret (some (f j)))(hl:n<=sizeLine)(fin:k ((HL n).map f) Q):FR (bQ b (aM lo n) []) k Q:=by
 rw[pU f h hl];exact fin
theorem wf{lo:Int}(f:Nat->Option Hg)(h:∀j,j<n->b (.int (lo+j))=ret (f j))(hl:n<=sizeLine)(fin:k ((HL n).filterMap f) Q):FR (bQ b (aM lo n) []) k Q:=by
 rw[rX f h hl];exact fin
theorem r_{lo:Int}(P:Hg->Prop)(h:∀j,j<n->∀K:Option Hg->Prop,(∀d,P d->K (some d))->b (.int (lo+j)) K)(hl:n<=sizeLine)(fin:∀ds:List Hg,ds.length=n->(∀d∈ds,P d)->k ds Q):FR (bQ b (aM lo n) []) k Q :=
 pW P h hl fin
end
section
variable{α β:Type}
theorem oV{i:Int}{k:Hg->Mo β}{Q:β->Prop}(h0:0<=i)(h1:i<(xs.length:Int))(h:∀z∈xs,k z Q):aS (atI xs i) k Q:=by
 obtain⟨z,e,m⟩:=sg h0 h1
 rw[e]
 exact h z m
theorem cj{xs:List α}{enc:α->Hg}{i:Int}{k:Hg->Mo β}{Q:β->Prop}(P:α->Prop)(hx:xs'=xs.map enc)(h0:0<=i)(h1:i<(xs.length:Int))(hP:∀z∈xs,P z)(h:∀z,P z->k (enc z) Q):aS (atI xs' i) k Q:=by
 subst hx
 refine oV h0 (by simpa using h1) fun z mz=>?_
 obtain⟨x,hx,rfl⟩:=HQ.mp mz
 exact h x (hP x hx)
end
section
variable{X:Cx}{rl:RlT}{a b c o e:Expr}{es:List Expr}{fa fb:TV}{fs:Ge}{pos p apos cpos:Pos}{ρ:En}
end
end L2.VL
namespace L2
section
variable{X:Cx}{pos:Pos}
end
end L2
namespace L2.VL
section
variable{X:Cx}{rl:RlT}{es:List Expr}{pos:Pos}{ρ:En}
end
noncomputable def Bx:=Hh @bnd_tt (Hh @bnd_ret (Hh @bnd_bnd (Hh @bnd_grd (Hh @bnd_stk (Hh @bnd_ite (Hh @bnd_opt (Hh @opt_some (Hh @opt_none (Hh @grd_T (Hh @sq_nx (Hh @sq_rt (Hh @sq_bk (Hh @sq_ct (Hh @sq_grd (Hh @sq_stk (Hh @sq_ite (Hh @sq_sq (@kc_ap))))))))))))))))))
noncomputable def BB:=Hh @ite_nx (Hh @ite_rt (Hh @ite_retd (Hh @ite_retb (Hh @ite_rets (Hh @ite_cons (Hh @ite_some (Hh @ite_d (Hh @ite_pi (Hh @ite_pb (Hh @itb_tt (Hh @itb_ff (Hh @itb_ft (Hh @itb_tf (@ite_self.{1}))))))))))))))
noncomputable def BE:=Hh @m_vC (Hh @m_vVar (Hh @m_vNil (Hh @m_vCons (Hh @m_vOp (Hh @m_gI (Hh @m_gI0 (Hh @m_vNeg (Hh @m_vTest (Hh @m_gEqD (Hh @m_gInD (Hh @m_vAnd (Hh @m_vNot (Hh @m_vAndV (Hh @m_vOrV (Hh @m_vNotV (Hh @m_vIf (Hh @m_vTup (Hh @m_vLst (Hh @m_gIx (Hh @m_vCall (Hh @m_gAbs (@m_gLen))))))))))))))))))))))
noncomputable def BD:=Hh @m_gTupO (Hh @m_gLstO (Hh @m_gI2 (Hh @m_gInt1 (Hh @m_oNo (Hh @m_oIt (Hh @m_vSlL (Hh @m_gCatD (Hh @m_gCatA (Hh @m_vLR1 (Hh @m_iL (Hh @m_iT (@m_iR1))))))))))))
noncomputable def BC:=Hh @m_iZb (Hh @m_vUse (Hh @m_gRepL (Hh @m_gEqS (Hh @m_comp (@m_vSlS)))))
noncomputable def Bt:=Hh @s_next (Hh @s_seq (Hh @s_ret (Hh @s_ifS (Hh @s_set (Hh @s_setZ (Hh @s_never (Hh @s_asg (Hh @s_par (Hh @s_aug (Hh @s_frz (Hh @s_mut (Hh @s_appPop (Hh @s_for (Hh @bdy_ap (Hh @s_while (Hh @s_newR (Hh @m_hName (@m_hNil_n))))))))))))))))))
noncomputable def Bs:=Hh @m_hCons_c (Hh @m_hTup (@m_gApp))
noncomputable def Bw:=Hh @pk_sc (Hh @fz_sc (Hh @arg_sc (Hh @isPk_sc (Hh @asI_d (Hh @asB_d (Hh @asS_d (Hh @asD_d (Hh @asT_d (Hh @asL_d (Hh @asL_ml (Hh @asL_pk (Hh @asQ_d (Hh @asQ_ml (Hh @asQ_pk (Hh @lstD_l (Hh @tupD_t (Hh @toI_i (Hh @toI_b (Hh @isiT_t (Hh @asM_ml (Hh @asSc_s (Hh @two_d (@fz_d)))))))))))))))))))))))
noncomputable def Bv:=Hh @fz_ml (Hh @fz_pk (Hh @fz_reel (Hh @fz_vv (Hh @pk_d (Hh @pk_ml (Hh @pk_reel (Hh @pk_vv (Hh @dat_d (Hh @dat_ml (Hh @dat_pk (Hh @isPk_d (Hh @isPk_ml (Hh @isPk_reel (Hh @dats_nil (Hh @dats_d (Hh @arg_d (Hh @arg_reel (Hh @item_l (Hh @item_t (Hh @len_l (Hh @len_t (Hh @seq_l (@seq_t)))))))))))))))))))))))
noncomputable def Bu:=Hh @at0 (Hh @at1 (Hh @blsD_map (Hh @tup2 (Hh @fo_nil (Hh @fo_cons (Hh @nR_nil (Hh @nR_r (Hh @nR_n (Hh @nR_d (Hh @nR_ml (Hh @nR_sc (Hh @le_nil (Hh @le_cn (Hh @le_cs (Hh @end_d (Hh @end_ml (Hh @end_nx (@un_law))))))))))))))))))
noncomputable def BA:=Hh @Ik.{0,0} (Hh @LS.{0,0} (Hh @Ip.{0} (Hh @LA.{0} (Hh @List.getElem?_cons_zero.{0} (Hh @List.getElem?_cons_succ.{0} (Hh @List.set_cons_zero.{0} (Hh @List.set_cons_succ.{0} (Hh @List.set_nil.{0} (Hh @Lo.{0} (Hh @List.nil_append.{0} (Hh @List.all_cons.{0} (Hh @List.all_nil.{0} (Hh @List.head?_cons.{0} (Hh @Bool.and_true (Hh @Option.some.injEq.{0} (Hh @Option.map_some.{0,0} (Hh @Option.bind_some.{0,0} (Hh @Option.bind_none.{0,0} (Hh @Option.join_some.{0} (Hh @Option.join_none.{0} (Hh @Kn (Hh @and_self (@and_true)))))))))))))))))))))))
noncomputable def By:=Hh @true_and (Hh @shaped_i (Hh @eqv_ii (Hh @shaped_b (Hh @Bool.true_and (Hh @Bool.and_self (Hh @Ng (Hh @Lg (Hh @Hm.{0,0} (Hh @JW (Hh @Bool.true_eq_false (Hh @decide_true (Hh @decide_false (Hh @List.isEmpty_cons.{0} (Hh @List.isEmpty_nil.{0} (@List.isEmpty_map.{0,0})))))))))))))))
noncomputable def kC:GQ:=Iw "cells"
noncomputable def kA:GQ:=Iw "at"
noncomputable def kL:GQ:=Iw "left"
noncomputable def kT:GQ:=Iw "turn"
theorem A0:¬kC=kA:=by decide +kernel
theorem AZ:¬kC=kL:=by decide +kernel
theorem AY:¬kC=kT:=by decide +kernel
theorem zt:¬kA=kL:=by decide +kernel
theorem zr:¬kA=kT:=by decide +kernel
theorem zq:¬kL=kT:=by decide +kernel
noncomputable def bv(c:Addr)(a l t:Int):List (GQ×V):=[(kC,.ref c),(kA,.int a),(kL,.int l),(kT,.int t)]
theorem bV{p:GQ×V}{r:List (GQ×V)}{k:GQ}(e:¬p.1=k):eY (p::r) k=eY r k:=by
 unfold eY
 rw[IT]
 simp[e]
theorem xP(c:Addr)(a l t:Int):eY (bv c a l t) kC=some (.ref c):=cI rfl
theorem xQ(c:Addr)(a l t:Int):eY (bv c a l t) kA=some (.int a):=by unfold bv;rw[bV A0];exact cI rfl
theorem xO(c:Addr)(a l t:Int):eY (bv c a l t) kL=some (.int l):=by unfold bv;rw[bV AZ,bV zt];exact cI rfl
theorem xN(c:Addr)(a l t:Int):eY (bv c a l t) kT=some (.int t):=by unfold bv;rw[bV AY,bV zr,bV zq];exact cI rfl
theorem ne'{a b:GQ}(h:¬a=b):¬b=a:=fun e=>h e.symm
theorem AA(c:Addr)(a l t n:Int):dC (bv c a l t) kA (.int n)=bv c n l t:=by
 unfold dC bv
 rw[if_pos (by simp)]
 simp[A0,ne' zt,ne' zr]
theorem Az(c:Addr)(a l t n:Int):dC (bv c a l t) kL (.int n)=bv c a n t:=by
 unfold dC bv
 rw[if_pos (by simp)]
 simp[AZ,zt,ne' zq]
theorem Ay(c:Addr)(a l t n:Int):dC (bv c a l t) kT (.int n)=bv c a l n:=by
 unfold dC bv
 rw[if_pos (by simp)]
 simp[AY,zr,zq]
theorem ReelOk.kv{c:Nat×List Int}{r:Addr}(h:ReelOk c F H r):∃(a l t:Int),H r=some (.dK (bv c.1 a l t))/\F c.1=some (.lst (c.2.map V.int))/\c.2.length<=63/\0<=a/\0<=l/\0<=t:=by
 obtain⟨o,e,a,l,t,rfl,q⟩:=h.ex
 exact⟨a,l,t,e,q⟩
theorem Gu.put{K:W.Frag}{r:Addr}{a l t:Int}(R:VR K rl F₀ H₀ F H σ ρ)(e:rl.a=some r)(h:F rl.b.1=some (.lst (rl.b.2.map V.int))/\rl.b.2.length<=63/\0<=a/\0<=l/\0<=t) :
 VR K rl F₀ H₀ F (D9 H r (.dK (bv rl.b.1 a l t))) σ ρ:=by
 have fr:F r=none:=(R.reel r e).1
 have neF:∀b u,F b=some u->b≠r:=fun b u q z=>by subst z;rw[fr]at q;cases q
 have g:Grow rl F H F (D9 H r (.dK (bv rl.b.1 a l t))):=by
  refine⟨fun b o q n=>by rw[aq (fun z=>n (by rw[z];exact e))];exact q,.refl F,fun b o q=>by rw[aq (neF b o q)];exact R.sub b o q,fun _ _ _=>rfl,fun y z=>?_⟩
  have:y=r:=IG (z.symm.trans e)
  subst this
  exact⟨fr,⟨_,az,a,l,t,rfl,h⟩⟩
 exact R.grow g
section
variable{X:Cx}{rl:RlT}{e:Expr}{fa:TV}{pos p p1 p2:Pos}
noncomputable def D5(i:Nat):TV:=fun ρ Q=>ρ[i]?=some (some .reel)/\∀n:Int,0<=n->Q (.d (.int n))
noncomputable def D6(cs:List Int)(i:Nat):TV:=fun ρ Q=>ρ[i]?=some (some .reel)/\(cs.length<=63->Q (.d (.list (cs.map .int))))
theorem fK{K:W.Frag}{F:Hp}:∀ns:List Int,Reps K F (ns.map V.int) (ns.map H_)
 | []=>.nil
 | n::ns=>.cons (.int n) (fK ns)
theorem fF{k:Str}{j}(hr:Room 0 X.A)(hk:(Iw k:GQ)=kA\/(Iw k:GQ)=kL\/(Iw k:GQ)=kT)(hN:X.N[i]?=some x:=by rfl)(hv:F0 X.env.scope x:=by first|exact Jy rfl|exact IK (Jy rfl)|exact IK (IK rfl))
 (hd:(x==("__debug__" : Str))=false:=by decide)(hcd:(x==("__classdict__" : Str))=false:=by decide)(hs:wA (.Constant (.str k) j p2):=by exact fun _ _=>rfl):PV X rl (.Subscript (.Name x p1) (.Constant (.str k) j p2) pos) (D5 i):=by
 refine⟨_,iu (rA hr) (cx hN hv hd hcd) dj hs,fun{F₀ H₀ F H σ ρ} R Qd Q ⟨e1,q⟩ h=>?_⟩
 obtain⟨v,s1,⟨r,er,ev⟩,_⟩:=R.sl i _ e1
 subst ev
 obtain⟨_,ok⟩:=R.reel r er
 obtain⟨a,l,t,hH,_,_,b1,b2,b3⟩:=ok.kv
 have go:∀n:Int,0<=n->eY (bv rl.b.1 a l t) (Iw k)=some (.int n)->xo (Af i) (tC (.str k)) σ H Q:=fun n hn e=>by
  refine⟨.ref r,s1,r,.int n,rfl,?_,h _ (.d _) F H (Grow.refl R.sub R.reel) (.int n) trivial (q n hn)⟩
  have g:=zF.k (k:=(Iw k:GQ)) hH
  rw[e]at g
  exact g
 rcases hk with hk|hk|hk
 · exact go a b1 (by rw[hk];exact xQ rl.b.1 a l t)
 · exact go l b2 (by rw[hk];exact xO rl.b.1 a l t)
 · exact go t b3 (by rw[hk];exact xN rl.b.1 a l t)
theorem fu{j}(hr:Room 0 X.A)(hN:X.N[i]?=some x:=by rfl)(hv:F0 X.env.scope x:=by first|exact Jy rfl|exact IK (Jy rfl)|exact IK (IK rfl))
 (hd:(x==("__debug__" : Str))=false:=by decide)(hcd:(x==("__classdict__" : Str))=false:=by decide)(hs:wA (.Constant (.str "cells") j p2):=by exact fun _ _=>rfl):PV X rl (.Subscript (.Name x p1) (.Constant (.str "cells") j p2) pos) (D6 rl.b.2 i):=by
 refine⟨_,iu (rA hr) (cx hN hv hd hcd) dj hs,fun{F₀ H₀ F H σ ρ} R Qd Q ⟨e1,q⟩ h=>?_⟩
 obtain⟨v,s1,⟨r,er,ev⟩,_⟩:=R.sl i _ e1
 subst ev
 obtain⟨_,ok⟩:=R.reel r er
 obtain⟨a,l,t,hH,hc,hl,_⟩:=ok.kv
 refine⟨.ref r,s1,r,.ref rl.b.1,rfl,?_,h _ (.d _) F H (Grow.refl R.sub R.reel) (Rep.lst hc (fK _)) trivial (q hl)⟩
 have g:=zF.k (k:=kC) hH
 rw[xP]at g
 exact g
noncomputable def wW(i:Nat)(fa:TV):Gf:=fun D ρ=>fa ρ fun w=>∃n,w = .d (.int n)/\0<=n/\ρ[i]?=some (some .reel)/\D.nx ρ
theorem gR{k:Str}{j}(hr:Room 0 X.A)(hk:(Iw k:GQ)=kA\/(Iw k:GQ)=kL\/(Iw k:GQ)=kT)(ha:PV X rl e fa)(hN:X.N[i]?=some x:=by rfl)(hv:F0 X.env.scope x:=by first|exact Jy rfl|exact IK (Jy rfl)|exact IK (IK rfl))
 (hd:(x==("__debug__" : Str))=false:=by decide)(hcd:(x==("__classdict__" : Str))=false:=by decide)(hsw:JE e (some (.Subscript (.Name x p1) (.Constant (.str k) j p2) pos')) pos.line X.env=pure false:=by rfl) :
 GB X rl (.Assign [.Subscript (.Name x p1) (.Constant (.str k) j p2) pos'] e pos) (wW i fa):=by
 obtain⟨t,p3,kk⟩:=ha
 refine⟨_,uT (rA hr) (cx hN hv hd hcd) dj p3 hsw,fun{F₀ H₀ F H σ ρ} R Dv D ok q=>kk R _ _ q fun v w F1 H1 g1 r1 n1 ⟨n,ew,hn,e1,q1⟩=>?_⟩
 subst ew
 have ev:=aT r1
 subst ev
 have R1:=R.grow g1
 obtain⟨v,s1,⟨r,er,ev⟩,_⟩:=R1.sl i _ e1
 subst ev
 obtain⟨_,okr⟩:=R1.reel r er
 obtain⟨a,l,t,hH,hc,hl,b1,b2,b3⟩:=okr.kv
 refine⟨.ref r,s1,r,_,rfl,Br.k (k:=(Iw k:GQ)) hH (nO (by show 4<=1000;decide)),?_⟩
 have go:∀a' l' t':Int,0<=a'->0<=l'->0<=t'->dC (bv rl.b.1 a l t) (Iw k) (.int n)=bv rl.b.1 a' l' t'->D.nx σ (D9 H1 r (.dK (dC (bv rl.b.1 a l t) (Iw k) (.int n)))):=fun a' l' t' x1 x2 x3 e=>by
  rw[e]
  exact ok.nx _ _ _ _ g1.fs (Gu.put R1 er ⟨hc,hl,x1,x2,x3⟩) q1
 rcases hk with hk|hk|hk
 · exact go n l t hn b2 b3 (by rw[hk];exact AA rl.b.1 a l t n)
 · exact go a n t b1 hn b3 (by rw[hk];exact Az rl.b.1 a l t n)
 · exact go a l n b1 b2 hn (by rw[hk];exact Ay rl.b.1 a l t n)
end
theorem mJ(c:Addr):d8 [] [(kC,V.ref c),(kA,.int 0),(kL,.int 0),(kT,.int 0)]=bv c 0 0 0:=by
 unfold d8 bv
 simp only[Jo,List.foldl_nil]
 have p0:dC ([]:List (GQ×V)) kC (V.ref c)=[(kC,V.ref c)]:=rfl
 rw[p0]
 unfold dC
 simp[A0,AZ,AY,zt,zr,zq]
section
variable{X:Cx}{rl:RlT}{e:Expr}{fa:TV}{pos p p1 p2:Pos}{ρ:En}
noncomputable def FW:W->Option Unit
 | .reel=>some ()
 | _=>none
theorem aD:FW .reel=some ():=rfl
theorem Cy:(((ρ[i]?).join).bind FW=some ())↔ρ[i]?=some (some .reel):=by
 constructor
 · intro h
   cases q:ρ[i]? with
   | none=>rw[q]at h;cases h
   | some o=>rw[q]at h;cases o with
     | none=>cases h
     | some w=>cases w<;>first|rfl|cases h
 · intro h;rw[h];rfl
theorem xC{k:Unit->Mo β}{Q:β->Prop}:aS (((ρ[i]?).join).bind FW) k Q↔ρ[i]?=some (some .reel)/\k () Q:=by
 rw[aw]
 exact⟨fun⟨u,a,q⟩=>⟨Cy.mp a,q⟩,fun⟨a,q⟩=>⟨(),Cy.mpr a,q⟩⟩
theorem aB(i:Nat):D5 i ρ=aS (((ρ[i]?).join).bind FW) fun _=>FR (anyM fun n:Int=>0<=n) fun n=>ret (.d (.int n)):=ak fun Q=>(Iff.intro (fun⟨a,q⟩=>xC.mpr ⟨a,fun n h=>q n h⟩) fun h=>⟨(xC.mp h).1,fun n hn=>(xC.mp h).2 n hn⟩)
theorem aC(cs:List Int)(i:Nat):D6 cs i ρ=aS (((ρ[i]?).join).bind FW) fun _=>FR (anyM fun _:Unit=>cs.length<=63) fun _=>ret (.d (wp cs)):=ak fun Q=>(Iff.intro (fun⟨a,q⟩=>xC.mpr ⟨a,fun _ h=>q h⟩) fun h=>⟨(xC.mp h).1,fun hn=>(xC.mp h).2 () hn⟩)
theorem ar(i:Nat):mS (wW i fa) ρ=FR (fa ρ) fun w=>aS (asI w) fun n=>FI (0<=n) (aS (((ρ[i]?).join).bind FW) fun _=>ret (.nx ρ)):=by
 show(FR (fa ρ) fun w=>fun(Q:Fl->Prop)=>∃n,w = .d (.int n)/\0<=n/\ρ[i]?=some (some .reel)/\Q (.nx ρ))=_
 congr 1;funext w
 refine ak fun Q=>?_
 simp only[aw (o:=asI w),c_,FI,xC,ret]
end
theorem au(xs:List Int):qh (wp xs)=some xs.length:=by show some (xs.map H_).length=_;rw[Hm]
theorem aj(xs:List Int)(i:Int):itemAt (wp xs) i=(atI xs i).map .int:=cw _ _ _
section
variable{X:Cx}{rl:RlT}{e:Expr}{fa:TV}{pos dpos q1 q2 q3 q4:Pos}{ρ:En}{j1 j2 j3 j4:Nat}{a b x y:Str}
end
end L2.VL
namespace L2
theorem mN{prog:HZ}{R:ND->Hv->Prop}{kx vx target:Expr}{it:Hq}{D:Addr}{env:Env}(I:Nat->Hv->Prop)
 (turn:∀n s,I n s->HS (Ie prog w) A (LZ it) (fun r s₁=>(r=none/\R (.ok .next) s₁)\/∃v,r=some v /\
  HS (Ie prog w) A (JO target it v) (fun _ s₂=>HS (Ie prog w) A (Kz target env v) (fun _ s₃=>HS (Ie prog w) A (dL ifs env) (fun ok s₄ =>
   if ok=true then HS (Ie prog w) A (eval kx env) (fun x s₅=>HS (Ie prog w) A (eval vx env) (fun y s₆=>HS (Ie prog w) A (dictSet D x y) (fun _ s₇=>∃m,m<n/\I m s₇) (fun _ _=>False) s₆) (fun _ _=>False) s₅) (fun _ _=>False) s₄
   else ∃m,m<n/\I m s₄) (fun _ _=>False) s₃) (fun _ _=>False) s₂) (fun _ _=>False) s₁) (fun _ _=>False) s)
 (n:Nat)(h:I n s):JY (Ie prog w) A (.compLoop (.DictComp kx vx [⟨target,iter,ifs,0⟩] scope pos) 0 it (.ref D) env) R s:=by
 refine Mt rfl I (fun n s hI=>?_) n h
 show HS _ A ((Na (.DictComp kx vx [⟨target,iter,ifs,0⟩] scope pos) 0 it (.ref D) env).onRaise (fun x=>do Nb x env;LD x)) _ _ s
 refine MR ?_
 rw[compTurn_dict]
 refine Hi (Jt (Hi (Ih (turn n s hI) (fun r s₁ h₁=>?_) fun _ _ h'=>h'.elim)))
 rcases h₁ with⟨rfl,h₁⟩|⟨v,rfl,h₁⟩
 · exact HH h₁
 · refine Hi (Ih h₁ (fun _ s₂ h₂=>Hi (Ih h₂ (fun _ s₃ h₃=>Hi (Ih h₃ (fun ok s₄ h₄=>?_) fun _ _ z=>z.elim)) fun _ _ z=>z.elim)) fun _ _ z=>z.elim)
   cases ok with
   | false=>exact HH ⟨rfl,h₄⟩
   | true=>exact Hi (Hi (Ih h₄ (fun x s₅ h₅=>Hi (KY (Ih h₅ (fun y s₆ h₆=>Hi (Jt (KY (Ih h₆ (fun _ s₇ h₇=>HH ⟨rfl,h₇⟩) fun _ _ z=>z.elim)))) fun _ _ z=>z.elim))) fun _ _ z=>z.elim))
noncomputable def nD(wi:TI)(fr:List (Option Nat))(g:CompA->TG)(tt:CompA->TT)(tk te:CompA->TE):TE:=fun σ H Q=>wi σ H fun J H1=>∀D,H1 D=none->∃Wv:Nat->Nat->List (GQ×V)->St->Hp->Prop,(∃m,Wv 0 m [] (mR fr σ) (D9 H1 D (.dK []))) /\
 ∀ (z:CompA) i m acc σc H,Wv i m acc σc H->(J.stop i H/\Q (.ref D) H)\/(J.go i H/\∀x H',J.yld i H x H'->g z x σc H' fun σ2 H2=>tt z σ2 H2 fun b H3 =>
   if b=true then tk z σ2 H3 fun ky H4=>te z σ2 H4 fun y H5=>∃k:GQ,ky=kV k/\H5 D=some (.dK acc)/\acc.length<sizeLine/\∃m',m'<m/\Wv (i+1) m' (dC acc k y) σ2 (D9 H5 D (.dK (dC acc k y)))else ∃m',m'<m/\Wv (i+1) m' acc σ2 H3)
theorem f_{kx vx:Expr}{g:TG}{tt:TT}{tk te:TE}{H3:Hp}{s3:Hv}{D:Addr}{J:It}{Q:VK}
 (N':List Str)(fr:List (Option Nat))(hc:X.calm=true)(hkind:scope.kind = .function)(hcell:∀y∈scope.names,y.2 = .cell->scope.names.lookup y.1=some .cell)
 (hfree:∀y∈scope.names,y.2 = .free->X.env.kindOf y.1=some .cell\/X.env.kindOf y.1=some .free)(frl:fr.length=N'.length)
 (frg:∀(i j:Nat),fr[i]?=some (some j)->∃x,N'[i]?=some x/\X.N[j]?=some x/\scope.names.lookup x=some .free/\(X.env.scope.names.lookup x=some .cell\/X.env.scope.names.lookup x=some .free))
 (cl1:∀x c,cl.lookup x=some c->X.env.cells.lookup x=some c)(cl2:∀x,(x,II)∈scope.names->(cl.lookup x).isSome=true)
 (I3:Inv X pins σ H3 s3)(T:Turn X.prog X.w X.K tg J fp it tn)(tn3:tn 0 s3.heap)(fpD:∀b∈fp,H3 b=none)(fp3:∀b∈fp,b<s3.heap.objs.size)
 (fpk:∀b∈fp,b≠X.env.locals/\b∉X.fs/\(b∈X.ex\/X.s₀.heap.objs.size<=b)/\(∀x c,X.env.cells.lookup x=some c->c≠b)/\∀p∈X.pn++pins,p.1≠b)
 (hg:PG (ba X N' scope cl fp (X.pn++pins) s3 H3) tg g)(ht:Gz (ba X N' scope cl fp (X.pn++pins) s3 H3) ifs tt)(hk:PE (ba X N' scope cl fp (X.pn++pins) s3 H3) kx tk)(he:PE (ba X N' scope cl fp (X.pn++pins) s3 H3) vx te)
 {Wv:Nat->Nat->List (GQ×V)->St->Hp->Prop}{m0:Nat}(w0:Wv 0 m0 [] (mR fr σ) H3)
 (turn:∀i m acc σc H,Wv i m acc σc H->(J.stop i H/\Q (.ref D) H)\/(J.go i H/\∀x H',J.yld i H x H'->g x σc H' fun σ2 H2=>tt σ2 H2 fun b H3 =>
  if b=true then tk σ2 H3 fun ky H4=>te σ2 H4 fun y H5=>∃k:GQ,ky=kV k/\H5 D=some (.dK acc)/\acc.length<sizeLine/\∃m',m'<m/\Wv (i+1) m' (dC acc k y) σ2 (D9 H5 D (.dK (dC acc k y)))else ∃m',m'<m/\Wv (i+1) m' acc σ2 H3))
 (fin:∀s5 H4 m,s5.heap.Ns s3.heap.objs.size m->(∀h',J5 s3.heap.objs.size s5.heap h'->Inv X pins σ H4 {s5 with heap:=h' })->jJ X pins H4 s3.heap.objs.size->Q (.ref D) H4->Rp s3.heap.objs.size (.ok .next) s5) :
 HS (Ie X.prog X.w) X.A (Lf scope X.env.globals cl [] X.env.qual none .none (some X.env)) (fun cenv s₄ =>
  JY (Ie X.prog X.w) X.A (.compStart (.DictComp kx vx [⟨tg,iter,ifs,0⟩] scope pos) 0 (.ref it) (.ref D) {cenv with scope:=NS scope X.env})
   (Rp cenv.locals) s₄) X.xe s3:=by
 refine cW N' fr hc hkind hcell hfree frl frg cl1 cl2 I3 T tn3 fpD fp3 fpk (fun s' IY tY stat=>?_) fin
 have loop:JY (Ie X.prog X.w) X.A (.compLoop (.DictComp kx vx [⟨tg,iter,ifs,0⟩] scope pos) 0 (.ref it) (.ref D) (ba X N' scope cl fp (X.pn++pins) s3 H3).env)
  (fun r s5=>r = .ok .next/\∃σ5 H4,Inv (ba X N' scope cl fp (X.pn++pins) s3 H3) [] σ5 H4 s5/\Q (.ref D) H4) s':=by
  refine mN (fun n s'=>∃i acc σ' H',Inv (ba X N' scope cl fp (X.pn++pins) s3 H3) [] σ' H' s'/\tn i s'.heap/\(∀b∈fp,H' b=none)/\Wv i n acc σ' H') ?_ m0
   ⟨0,[],_,_,IY,tY,fpD,w0⟩
  rintro n s4 ⟨i,acc,σ4,H4,I4,st4,fr4,w4⟩
  rcases turn i n acc σ4 H4 w4 with⟨stop,qn⟩|⟨go,step⟩
  · exact Eh (T.done (ba X N' scope cl fp (X.pn++pins) s3 H3) rfl rfl rfl hc i [] s4 σ4 H4 (fun _ _=>False) I4 (stat fr4) st4 stop) fun r s5 ⟨hr,I5⟩=>.inl ⟨hr,rfl,σ4,H4,I5,qn⟩
  · refine Eh (T.item (ba X N' scope cl fp (X.pn++pins) s3 H3) rfl rfl rfl hc i [] s4 σ4 H4 (fun _ _=>False) I4 (stat fr4) st4 go) fun r s5 ⟨u,hr,h5⟩=>.inr ⟨u,hr,?_⟩
    refine Eh h5 fun _ s6 ⟨x,H6,I6,r6,y6,st6,fr6⟩=>?_
    have I6':=I6.pinned (stat fr6) (T.obj _ _ st6)
    have again:∀{σ7:St}{H7:Hp}{s7:Hv},Inv (ba X N' scope cl fp (X.pn++pins) s3 H3) ([]++eT fp s6.heap) σ7 H7 s7->∀{acc':List (GQ×V)}{m':Nat},m'<n->Wv (i+1) m' acc' σ7 H7 ->
     ∃m,m<n/\∃i acc σ' H',Inv (ba X N' scope cl fp (X.pn++pins) s3 H3) [] σ' H' s7/\tn i s7.heap/\(∀b∈fp,H' b=none)/\Wv i m acc σ' H':=fun{σ7 H7 s7} I7 {acc' m'} hm w7=>by
     refine⟨m',hm,i+1,acc',σ7,H7,I7.unpinned,T.keep _ _ _ st6 fun b hb o e=>(I7.pin (b,o) (HC _ (HC _ (bA hb e)))).1,fun b hb=>?_,w7⟩
     obtain⟨o,e,d⟩:=T.obj _ _ st6 b hb
     exact(I7.pin (b,o) (HC _ (HC _ (bA hb e)))).2.1
    refine Eh (hg _ s6 σ4 H6 x u _ I6' r6 (step x H6 y6)) fun _ s7 ⟨σ7,H7,I7,q7⟩=>?_
    refine Eh (ht _ s7 σ7 H7 _ I7 q7) fun ok s8 ⟨H8,I8,q8⟩=>?_
    cases ok with
    | false =>
      rw[if_neg Ic]at q8 ⊢
      obtain⟨m',hm,w8⟩:=q8
      exact again I8 hm w8
    | true =>
      rw[if_pos rfl]at q8 ⊢
      refine Eh (hk _ s8 σ7 H8 _ I8 q8) fun ku s9 ⟨ky,H9,I9,rk,q9⟩=>?_
      refine Eh (he _ s9 σ7 H9 _ I9 q9) fun y s10 ⟨yv,H10,I10,r10,k,ek,eD,hl,m',hm,w10⟩=>?_
      subst ek
      obtain⟨z,hd,vs,rel,dd⟩:=v6 I10.hok eD
      have hz:vs.length<=sizeLine:=by rw[<- rel.length];exact z
      have hl2:(dC acc k yv).length<=sizeLine:=by have:=cS acc k yv;omega
      refine wpAny_dictSet_pairs (hsz:=hz) (pz rk) dd fun h' dd' hs=>?_
      have hex:∃q,h'.get? D=some q:=let ⟨q,_,_,hq,_⟩:=dd';⟨q,hq⟩
      exact again (iK I10 (by rw[eD];exact Lx) hs hex (dk_new hl2 hd (rel.put k r10) dd')) hm w10
 exact codeAny_compStart_dict loop (T.self X.A 0 _ _ _ tY loop)
section
variable{X:Cx}{kx vx tg iter:Expr}{ifs:List Expr}{scope:Scope}{pos:Pos}{wi:TI}{g:CompA->TG}{tt:CompA->TT}{tk te:CompA->TE}
theorem qS(N':List Str)(fr:List (Option Nat))(hc:X.calm=true)(hi:PI X tg iter wi)(hfr:lE fr N' X.N scope X.env.scope=true)(hsc:mB scope X.env.scope=true)
 (hg:∀y,PG (FS X N' scope y) tg (g y))(ht:∀y,Gz (FS X N' scope y) ifs (tt y))(hk:∀y,PE (FS X N' scope y) kx (tk y))(he:∀y,PE (FS X N' scope y) vx (te y))
 (hs:∀x,HX iter X.env x=pure x:=by intro _;rfl):PE X (.DictComp kx vx [⟨tg,iter,ifs,0⟩] scope pos) (nD wi fr g tt tk te):=by
 intro pins s σ H Q I h
 obtain⟨sk,sn⟩:=Hw.mp hsc
 have hkind:scope.kind = .function:=of_decide_eq_true sk
 have hall:=JI.mp sn
 have hcell:∀y∈scope.names,y.2 = .cell->scope.names.lookup y.1=some .cell:=fun y hy hl=>by
  rcases HP.mp (Hw.mp (Hw.mp (hall y hy)).1).1 with z|z
  · exact absurd hl (of_decide_eq_true z)
  · exact of_decide_eq_true z
 have hnames:∀y∈scope.names,y.2 = .local->scope.names.lookup y.1=some .local:=fun y hy hl=>by
  rcases HP.mp (Hw.mp (Hw.mp (hall y hy)).1).2 with z|z
  · exact absurd hl (of_decide_eq_true z)
  · exact of_decide_eq_true z
 have hfree:∀y∈scope.names,y.2 = .free->X.env.kindOf y.1=some .cell\/X.env.kindOf y.1=some .free:=fun y hy hl=>by
  rcases HP.mp (Hw.mp (hall y hy)).2 with z|z
  · exact absurd hl (of_decide_eq_true z)
  · exact(HP.mp z).imp of_decide_eq_true of_decide_eq_true
 obtain⟨frl,frg⟩:=lE.get hfr
 obtain⟨cl,hclos,cl1,cl2⟩:=ca (env:=X.env) (scope:=scope) fun y hy hl=>I.ok.has y.1 (hfree y hy hl)
 rw[arm_eval_DictComp]
 refine Jz (use:=none) rfl hs hclos hkind hnames (Eh (hi pins s σ H _ I h) fun v s1 h1=>Eh h1 fun itv s2 h2=>?_)
 obtain⟨it,fp,tn,J,H2,e,I2,T,st2,f2,q2⟩:=h2
 subst e
 refine Jx ?_
 have hD:H2 s2.heap.objs.size=none:=I2.hok.fresh (HA _)
 have I3:Inv X pins σ (D9 H2 s2.heap.objs.size (.dK [])) {s2 with heap:=s2.heap.push {cls:=.type "dict", data:=.dict #[]}} :=
  I2.laid (t':=s2.toks) (fun b u e=>Hl _ e) (HA _) (iJ s2.heap I2.big)
 obtain⟨Wv,⟨m0,w0⟩,turn⟩:=q2 _ hD
 have tn3:tn 0 (s2.heap.push {cls:=.type "dict", data:=.dict #[]}):=T.keep _ _ _ st2 fun b _ o e=>Hl _ e
 have fpD:∀b∈fp,(D9 H2 s2.heap.objs.size (.dK [])) b=none:=fun b hb=>by
  obtain⟨o,e,_⟩:=T.obj _ _ st2 b hb
  rw[aq (Is (HE e))]
  exact(f2 b hb).1
 have fp3:∀b∈fp,b<(s2.heap.push {cls:=.type "dict", data:=.dict #[]}).objs.size:=fun b hb=>by
  obtain⟨o,e,_⟩:=T.obj _ _ tn3 b hb
  exact HE e
 exact f_ N' fr hc hkind hcell hfree frl frg cl1 cl2 I3 T tn3 fpD fp3 (fun b hb=>(f2 b hb).2) (hg ⟨cl,fp,X.pn++pins,_,_⟩) (ht ⟨cl,fp,X.pn++pins,_,_⟩) (hk ⟨cl,fp,X.pn++pins,_,_⟩) (he ⟨cl,fp,X.pn++pins,_,_⟩) w0 (turn ⟨cl,fp,X.pn++pins,_,_⟩)
  (Rp:=Nc (Ie X.prog X.w) X.A X.xe none (EP X pins σ Q) (.ref s2.heap.objs.size)) fun s5 H4 m hn k _ qn=>⟨m,hn,fun h' hs'=>⟨.ref _,H4,k h' hs',rfl,qn⟩⟩
theorem jY{b:Bool}{ix:Nat}(N':List Str)(fr:List (Option Nat))(hc:X.calm=true)(hi:PI X tg iter wi)(hfr:lE fr N' X.N scope X.env.scope=true)(hsc:mB scope X.env.scope=true)
 (hg:∀y,PG (FS X N' scope y) tg (g y))(ht:∀y,Gz (FS X N' scope y) ifs (tt y))(hk:∀y,PE (FS X N' scope y) kx (tk y))(he:∀y,PE (FS X N' scope y) vx (te y))(hN:X.N.Nodup)(hix:X.N[ix]?=some x)(hx:Loc X.env.scope x)
 (hf:X.fn x=true\/X.env.scope.names.lookup x=some .local)(hsw:JE (.DictComp kx vx [⟨tg,iter,ifs,0⟩] scope pos) (some (.Name x px)) spos.line X.env=pure b)
 (hs:∀x,HX iter X.env x=pure x):PS X (.Assign [.Name x px] (.DictComp kx vx [⟨tg,iter,ifs,0⟩] scope pos) spos) (xq (nD wi fr g tt tk te) (iG ix)):=by
 cases b with
 | false=>exact fP hN hix hx (qS N' fr hc hi hfr hsc hg ht hk he hs) hsw hf
 | true =>
 intro pins s σ H DD I h
 obtain⟨sk,sn⟩:=Hw.mp hsc
 have hkind:scope.kind = .function:=of_decide_eq_true sk
 have hall:=JI.mp sn
 have hcell:∀y∈scope.names,y.2 = .cell->scope.names.lookup y.1=some .cell:=fun y hy hl=>by
  rcases HP.mp (Hw.mp (Hw.mp (hall y hy)).1).1 with z|z
  · exact absurd hl (of_decide_eq_true z)
  · exact of_decide_eq_true z
 have hnames:∀y∈scope.names,y.2 = .local->scope.names.lookup y.1=some .local:=fun y hy hl=>by
  rcases HP.mp (Hw.mp (Hw.mp (hall y hy)).1).2 with z|z
  · exact absurd hl (of_decide_eq_true z)
  · exact of_decide_eq_true z
 have hfree:∀y∈scope.names,y.2 = .free->X.env.kindOf y.1=some .cell\/X.env.kindOf y.1=some .free:=fun y hy hl=>by
  rcases HP.mp (Hw.mp (hall y hy)).2 with z|z
  · exact absurd hl (of_decide_eq_true z)
  · exact(HP.mp z).imp of_decide_eq_true of_decide_eq_true
 obtain⟨frl,frg⟩:=lE.get hfr
 obtain⟨cl,hclos,cl1,cl2⟩:=ca (env:=X.env) (scope:=scope) fun y hy hl=>I.ok.has y.1 (hfree y hy hl)
 rw[Li _ _ _ _ hsw]
 refine Hi (Jt (Hi ?_))
 show HS _ X.A (do let _ <- Nd (.DictComp kx vx [⟨tg,iter,ifs,0⟩] scope pos) scope X.env _ newDict false (eval iter X.env) (some (Kz (.Name x px) X.env))) _ _ s
 refine Hi (Ih (Jz (use:=some (Kz (.Name x px) X.env)) (Q:=fun _ s'=>SP X pins DD .next s') rfl hs hclos hkind hnames
  (Eh (hi pins s σ H _ I h) fun v s1 h1=>Eh h1 fun itv s2 h2=>?_)) (fun _ s' hq=>HH (HH hq)) fun _ _ e=>e)
 obtain⟨it,fp,tn,J,H2,e,I2,T,st2,f2,q2⟩:=h2
 subst e
 refine Jx ?_
 have hD:H2 s2.heap.objs.size=none:=I2.hok.fresh (HA _)
 have I3:Inv X pins σ (D9 H2 s2.heap.objs.size (.dK [])) {s2 with heap:=s2.heap.push {cls:=.type "dict", data:=.dict #[]}} :=
  I2.laid (t':=s2.toks) (fun b u e=>Hl _ e) (HA _) (iJ s2.heap I2.big)
 obtain⟨Wv,⟨m0,w0⟩,turn⟩:=q2 _ hD
 have tn3:tn 0 (s2.heap.push {cls:=.type "dict", data:=.dict #[]}):=T.keep _ _ _ st2 fun b _ o e=>Hl _ e
 have fpD:∀b∈fp,(D9 H2 s2.heap.objs.size (.dK [])) b=none:=fun b hb=>by
  obtain⟨o,e,_⟩:=T.obj _ _ st2 b hb
  rw[aq (Is (HE e))]
  exact(f2 b hb).1
 have fp3:∀b∈fp,b<(s2.heap.push {cls:=.type "dict", data:=.dict #[]}).objs.size:=fun b hb=>by
  obtain⟨o,e,_⟩:=T.obj _ _ tn3 b hb
  exact HE e
 refine f_ (Q:=fun v H1=>iG ix v σ H1 DD.nx) N' fr hc hkind hcell hfree frl frg cl1 cl2 I3 T tn3 fpD fp3 (fun b hb=>(f2 b hb).2) (hg ⟨cl,fp,X.pn++pins,_,_⟩) (ht ⟨cl,fp,X.pn++pins,_,_⟩) (hk ⟨cl,fp,X.pn++pins,_,_⟩) (he ⟨cl,fp,X.pn++pins,_,_⟩) w0 (turn ⟨cl,fp,X.pn++pins,_,_⟩)
  (Rp:=Nc (Ie X.prog X.w) X.A X.xe (some (Kz (.Name x px) X.env)) (fun _ s'=>SP X pins DD .next s') (.ref s2.heap.objs.size)) fun s5 H4 m hn k fpo qn=>?_
 show HS _ X.A (Kz (.Name x px) X.env (.ref s2.heap.objs.size)) _ _ s5
 have I5:Inv X pins σ H4 s5:=k s5.heap (L1 _ _)
 obtain⟨f0,f1,f2',f3,f4,f5⟩:=fpo
 refine K4 (dW I5 hN hix hx (v:=.ref s2.heap.objs.size) rfl (fun s6 I6 sb=>?_) hf)
 obtain⟨a,sb,ha⟩:=sb
 have hne:(s2.heap.push {cls:=.type "dict", data:=.dict #[]}).objs.size≠a:=by
  rcases ha with rfl|ha
  · exact f1
  · exact fun z=>f4 x a ha z.symm
 refine⟨m,hn.at' fun o e=>sb.extBut _ o hne e,fun h' hs'=>?_⟩
 exact⟨_,H4,I6.turned (t':=s6.toks) (fun b o hb e=>hs'.extBut b o hb e) f0 f1 f3 f4 f5,qn⟩
end
noncomputable def cn:Option Int->List Int->Option Int
 | o,[]=>o
 | none,n::r=>cn (some n) r
 | some m,n::r=>cn (some (if n>m then n else m)) r
theorem qb(a d:Hq):argsOk "max" ⟨[a],[(Hj "default", d)]⟩:=by unfold argsOk;kernel_rfl
section
variable{prog:HZ}{w:IL}{A:ID}{E:Hq->Hv->Prop}
noncomputable def zk(o:Option Int)(arr:Array Hq):Prop:=match o with
 | none=>arr = #[]
 | some m=>∃t,arr = #[.int m t,.int m t]
theorem oW{R:ND->Hv->Prop}{I l S:Addr}{vs:List Hq}{d:Hq}(hh:A.handled=none)(hI:Lz vs ns)(hl:l≠I)(hSI:S≠I)(hSl:S≠l) :
 ∀ (k j:Nat)(s:Hv)(o:Option Int)(arr:Array Hq)(c:Nat),vs.length-j=k->j<=vs.length->zk o arr->s.heap.IsListIter I l j->s.heap.IsList l vs.toArray ->
   s.heap.get? S=some {cls:=.type "list", dict:=none,data:=.seq arr c,slots:=#[]} ->
   (∀v h' tk,(cn o (ns.drop j)=none/\v=d\/∃m t,cn o (ns.drop j)=some m/\v = .int m t)->(∀b q,b≠I->b≠S->s.heap.get? b=some q->h'.get? b=some q)->R (.ok (.ret v)) {s with heap:=h',toks:=tk}) ->
   JY (Ie prog w) A (.builtin "max.loop" ⟨[.ref I,.none,.ref S],[(Hj "default", d)]⟩) R s:=by
 have hn:(toString "max" ++ toString ".loop" : String) = "max.loop" := by decide
 have W:=Walks.list (prog:=prog) (w:=w) (A:=A.in1) hh I l hl vs.toArray
 have hz:vs.toArray.size=vs.length:=HN ..
 have len:vs.length=ns.length:=hI.length
 intro k
 induction k with
 | zero =>
   intro j s o arr c hk hj hb h1 h2 hS hR
   have ej:j=vs.length:=by omega
   subst ej
   have ed:ns.drop vs.length=[]:=by rw[len];exact Ki
   rw[ed]at hR
   refine codeAny_builtin (Mk) ?_;rw[MH JL _]
   show HS _ A.in1 (NK (.ref S) >>= _) _ _ s;refine Hi (JN hS rfl ?_)
   show HS _ A.in1 (tryCatch (LZ (.ref I)) _ >>= _) _ _ s;refine Hi (ML (W.done s _ _ (by rw[hz];exact⟨h1,h2⟩) fun h' tk kp=>?_))
   have kp':∀b q,b≠I->s.heap.get? b=some q->h'.get? b=some q:=fun b q n e=>kp b q (by simpa using n) e
   cases o with
   | none =>
     cases(show arr = #[]from hb)
     exact Hi (K5 (HH (hR d h' tk (.inl ⟨rfl,rfl⟩) fun b q n _ e=>kp' b q n e)))
   | some m =>
     obtain⟨t,rfl⟩:=(show ∃t,arr = #[.int m t,.int m t]from hb)
     show HS _ A.in1 (updateSeq S (fun _=>#[]) >>= _) _ _ _;refine Hi (Mw (kp' S _ hSI hS) rfl (Hi (KG (HH ?_))))
     exact hR _ _ tk (.inr ⟨m,t,rfl,rfl⟩) fun b q n n2 e=>(Jm _ _ n2.symm).trans (kp' b q n e)
 | succ k ih =>
   intro j s o arr c hk hj hb h1 h2 hS hR
   have hlt:j<vs.length:=by omega
   refine codeAny_builtin (Mk) ?_;rw[MH JL _]
   show HS _ A.in1 (NK (.ref S) >>= _) _ _ s;refine Hi (JN hS rfl ?_)
   show HS _ A.in1 (tryCatch (LZ (.ref I)) _ >>= _) _ _ s;refine Hi (ML (W.item j s _ _ (by rw[hz];exact hlt) ⟨h1,h2⟩ fun v h' tk hP st kp=>?_))
   have kp':∀b q,b≠I->s.heap.get? b=some q->h'.get? b=some q:=fun b q n e=>kp b q (by simpa using n) e
   have hS':=kp' S _ hSI hS
   have hv:vs[j]?=some v:=by simpa using hP
   obtain⟨n,t,en,rfl⟩:∃n t,ns[j]?=some n/\v = .int n t:=by
    have hv':=hv
    clear hR ih hk hj hlt h1 h2 hP st W hz len
    induction hI generalizing j with
    | nil=>simp at hv'
    | cons n t r ih2 =>
      cases j with
      | zero=>simp at hv';subst hv';exact⟨n,t,rfl,rfl⟩
      | succ j=>simp at hv';simpa using ih2 j (by simpa using hv) hv'
   have ed:ns.drop j=n::ns.drop (j+1):=by
    have hj2:j<ns.length:=by omega
    rw[IZ hj2]
    rw[Hu hj2]at en
    cases en
    rfl
   rw[ed]at hR
   have put:∀(o2:Option Int)(t2:Tok),o2=some n->t2=t->cn o (n::ns.drop (j+1))=cn (some n) (ns.drop (j+1)) ->
    JY (Ie prog w) A (.builtin "max.loop" ⟨[.ref I,.none,.ref S],[(Hj "default", d)]⟩) R {s with heap:=h'.update S (Nj fun _=>#[.int n t,.int n t]),toks:=tk}:=fun o2 t2 _ _ er=>by
    refine ih (j+1) _ (some n) #[.int n t,.int n t] _ (by omega) (by omega) ⟨t,rfl⟩ (st.1.at fun q e=>(Jm _ _ hSI).trans e) (st.2.at fun q e=>(Jm _ _ hSl).trans e) (Mv _ hS' rfl) fun v2 h2 tk2 hv2 kp2=>?_
    rw[<- er]at hv2
    exact hR v2 h2 tk2 hv2 fun b q n1 n2 e=>kp2 b q n1 n2 ((Jm _ _ n2.symm).trans (kp' b q n1 e))
   cases o with
   | none =>
     cases(show arr = #[]from hb)
     show HS _ A.in1 (updateSeq S (fun _=>#[.int n t,.int n t]) >>= _) _ _ _;refine Hi (Mw hS' rfl ?_)
     rw[hn]
     exact HH ⟨L9 JL _,put _ _ rfl rfl rfl⟩
   | some m =>
     obtain⟨t0,rfl⟩:=(show ∃t,arr = #[.int m t,.int m t]from hb)
     show HS _ A.in1 (tryCatch (holding [.int n t,.int n t] (richCompare .Gt (.int n t) (.int m t0) >>= _)) _ >>= _) _ _ _
     have cm:CmpOf prog w A.in1 .Gt (fun i v=>∃x t,v=M3 x t/\x=(if i=0 then m else n)) (fun i j=>decide ((if i=0 then m else n)>(if j=0 then m else n))):=PySem.CmpOf.ints_gt (fun i=>if i=0 then m else n) fun i v ⟨x,t,e,e2⟩=>⟨t,by rw[e,e2]⟩
     refine Hi (ML (KY (Hi (cm 1 0 _ _ _ _ _ ⟨n,t,rfl,rfl⟩ ⟨m,t0,rfl,rfl⟩ ?_))))
     refine Hi (KY (J9 (Hi (KG (HH ?_)))))
     by_cases hg:n>m
     · simp only[if_neg (show ¬((1:Nat)=0) by decide),if_pos (show(0:Nat)=0 from rfl),decide_eq_true hg,if_true]
       refine Hi (Mw hS' rfl (Hi (KG ?_)))
       rw[hn]
       exact HH ⟨L9 JL _,put _ _ rfl rfl (by simp only[cn,if_pos hg])⟩
     · simp only[if_neg (show ¬((1:Nat)=0) by decide),if_pos (show(0:Nat)=0 from rfl),if_true,decide_eq_false hg,Kn,if_false]
       refine Hi (KG ?_)
       rw[hn]
       refine HH ⟨L9 JL _,ih (j+1) _ (some m) _ c (by omega) (by omega) ⟨t0,rfl⟩ st.1 st.2 hS' fun v2 h2 tk2 hv2 kp2=>?_⟩
       refine hR v2 h2 tk2 ?_ fun b q n1 n2 e=>kp2 b q n1 n2 (kp' b q n1 e)
       simp only[cn,if_neg hg]
       exact hv2
theorem ko{l:Addr}{vs:List Hq}{d:Hq}(hh:A.handled=none)(hI:Lz vs ns)(hls:s.heap.IsList l vs.toArray)
 (hQ:∀v h' tk,(cn none ns=none/\v=d\/∃m t,cn none ns=some m/\v = .int m t)->(∀b q,s.heap.get? b=some q->h'.get? b=some q)->Q v {s with heap:=h',toks:=tk}) :
 HS (Ie prog w) A (call (.builtin "max") [.ref l] [(Hj "default", d)]) Q E s:=by
 have hn:(toString "max" ++ toString ".loop" : String) = "max.loop" := by decide
 obtain⟨ol,hol,_⟩:=id hls
 have hll:l<s.heap.objs.size:=HE hol
 refine PyProof.Rows.kmk_tree (PySem.F.kind_max) PySem.F.plain_max PySem.F.entry_max (qb _ _) ?_
 show HS _ A.in1 (LG "max" ["key", "default"] 0 ⟨[],[(Hj "default", d)]⟩ >>= _) _ _ s
 refine Hi (NL (show LG "max" ["key", "default"] 0 ⟨[],[(Hj "default", d)]⟩=pure [none,some d]from rfl) ?_)
 refine Hi (HH (Hi (K6 hls (Hi (wpAny_newList ?_ (Ig _))))))
 rw[hn]
 have zI:(s.heap.push {cls:=.type "list_iterator", data:=.fields #[.ref l,.int 0 0]}).objs.size=s.heap.objs.size+1:=size_push' ..
 refine HH ⟨L9 JL _,?_⟩
 refine oW (I:=s.heap.objs.size) (l:=l) hh hI (Is hll) (by rw[zI];exact JV (Mb _)) (by rw[zI];exact JV (L3 hll)) vs.length 0 _ none #[] 0 (by omega) (Ig _) rfl
  ⟨_,Hl _ (HI _ rfl),rfl,rfl⟩ (hls.at fun q e=>Hl _ (Hl _ e)) (HI _ rfl) fun v h' tk hv kp=>?_
 refine hQ v h' tk (by simpa using hv) fun b q e=>?_
 have hb:=HE e
 exact kp b q (Is hb) (by rw[zI];exact Is (L3 hb)) (Hl _ (Hl _ e))
end
section
variable{X:Cx}
theorem eA{P:HZ}{w:IL}:∀{vs:List (GQ×Hq)}{ns:List Int}{l:List Hq},vs.map (·.1)=ns.map JT->l.length=vs.length ->
 (∀(i:Nat) v,l[i]?=some v->∃k x,vs[i]?=some (k,x)/\(bD P w).is k v=true)->Lz l ns
 | [],[],[],_,_,_=>.nil
 | [],[],_::_,_,h,_=>by simp at h
 | [],_::_,_,h,_,_=>by simp at h
 | _::_,[],_,h,_,_=>by simp at h
 | _::_,_::_,[],_,h,_=>by simp at h
 | (k,x)::vs,n::ns,v::l,h1,h2,h3=>by
   simp only[Ik,Ji]at h1
   obtain⟨k',x',e,hv⟩:=h3 0 v rfl
   simp at e
   obtain⟨rfl,rfl⟩:=e
   rw[h1.1]at hv
   have hv:kw (JT n) v=true:=hv
   rcases bc hv with⟨i,t,e1,e2⟩|⟨y,t,e1,e2⟩
   · cases e1
     subst e2
     exact .cons n t (eA (P:=P) (w:=w) h1.2 (by simpa using h2) fun i v hv=>by simpa using h3 (i+1) v (by simpa using hv))
   · cases e1
theorem jO{prog:HZ}{vs:List (GQ×Hq)}(hh:A.handled=none)(hd:(a==Kt)=false)
 (dd:s.heap.DictOf (bD prog w) a vs)(hk:vs.map (·.1)=ns.map JT)(h64:ns.length<64)
 (h:∀(h0 h':Heap)(tk:Nat)(out:Array Hq)(ns':List Int)(c:Nat),(∀b o,s.heap.get? b=some o->h0.get? b=some o)->(∀b o,h0.get? b=some o->h'.get? b=some o)->h'.get? h0.objs.size=some (NN "list" out c) ->
  Lz out.toList ns'->ns'.Perm ns->ns'.Pairwise (· <= ·)->Q (.ref h0.objs.size) {s with heap:=h',toks:=tk}) :
 HS (Ie prog w) A (call (.builtin "sorted") [.ref a]) Q E s:=by
 obtain⟨ep,da⟩:=dd.dictAt
 have sz:=HV
 have hl:vs.length=ns.length:=by have:=congrArg List.length hk;simpa using this
 refine Calls.call_function_entry kind_sorted plain_sorted entry_sorted (args_sorted1 (.ref a)) ?_;unfold Builtin.«sorted»
 refine Hi (m:=checkCount "sorted" 1 1 _) (HH (Hi (W.kdu_collect (A:=A.in1) (W.kdl_dict (knd:=bD prog w) (kvs:=vs) (ep:=ep) hd) hh da (by omega) fun h0 tk acc k0 hacc=>Hi (wpAny_newList ?_ ?_))))
 · have iA:Lz acc.toList ns:=eA (P:=prog) (w:=w) hk (by rw[KE];exact hacc.1) fun i v e=>hacc.2 i v (by rw[<- Mr];exact e)
   have l64:acc.toList.length<64:=by rw[iA.length];exact h64
   have hoL:(h0.push (NN "list" acc.toList.toArray 0)).get? h0.objs.size=some (NN "list" acc.toList.toArray 0):=HI _ rfl
   show HS _ _ _ _ _ {s with heap:=h0.push (NN "list" acc.toList.toArray 0),toks:=tk}
   refine Hi (KY (J4 slot_list_sort ⟨_,hoL,rfl⟩ entry_list_sort (list_sort_tree (s:={s with heap:=h0.push (NN "list" acc.toList.toArray 0),toks:=tk}) hoL iA l64 fun out ns' q1 q2 q3=>⟨_,rfl,?_⟩) (args_list_sort _)))
   have e1:=get?_update_seq hoL (fun _=>#[])
   have e2:((((h0.push (NN "list" acc.toList.toArray 0)).update h0.objs.size (Nj fun _=>#[])).push (NN "tuple" acc.toList.toArray 0)).push (NN "list" #[] 0)).get? h0.objs.size=_ :=
    Hl _ (Hl _ e1)
   have e3:=get?_update_seq e2 (fun _=>out)
   refine HH ⟨_,rfl,h h0 _ _ out ns' _ k0 (fun b ob eb=>?_) e3 q1 q2 q3⟩
   have ne:h0.objs.size≠b:=JV (HE eb)
   exact(Jm _ _ ne).trans (Hl _ (Hl _ ((Jm _ _ ne).trans (Hl _ eb))))
 · rw[KE,hacc.1];omega
theorem jA(hc:X.calm=true):gh X (.builtin "sorted") (fun xs H Q=>∃(a:Addr)(us:List (GQ×V))(ns:List Int),xs=[.ref a]/\Rd H a (.dK us)/\us.map (·.1)=ns.map JT/\ns.length<64 /\
 ∀ns':List Int,ns'.Perm ns->ns'.Pairwise (· <= ·)->∀l,H l=none->Q (.ref l) (D9 H l (.lst (ns'.map V.int)))):=by
 intro pins s σ H xs us Q I r ⟨a,vs,ns,ex,hq,hk,h64,q⟩
 subst ex
 obtain⟨u,rfl,ru⟩:=vals1 r
 cases ru
 obtain⟨z,hd,ws,rel,dd⟩:=rW I.hok hq
 have sz:=HV
 refine jO (I.ok.hd hc) hd dd (by rw[<- rel.keys];exact hk) h64 fun h0 h' tk out ns' c k0 k1 e a1 a2 a3=>?_
 have I1:Inv X pins σ H {s with heap:=h0}:=I.kept (t':=s.toks) k0
 refine⟨.ref h0.objs.size,_,I1.laid (t':=tk) (o:=.lst (ns'.map V.int)) k1 (HA _) ⟨?_,out.toList,c,lU a1,by rw[MG];exact e⟩,rfl,q ns' a2 a3 _ (I1.hok.fresh (HA _))⟩
 rw[Hm,a2.length_eq]
 omega
noncomputable def E6(d:V)(ns:List Int):V:=match cn none ns with
 | none=>d
 | some m=>.int m
noncomputable def Ak(K:W.Frag)(t tk:TA):TE:=fun σ H Q=>t σ H fun vs H1=>tk σ H1 fun zs H2=>∃l ns d,vs=[.ref l]/\zs=[d]/\Go K H2 l (ns.map V.int)/\Q (E6 d ns) H2
theorem u6{t tk:TA}{p kpos:Pos}(hc:X.calm=true)(hm:X.mg "max" = none)(ha:PA X [e] t)(hk:PK X [⟨some "default", c,kpos⟩] tk)(hg:Gl X "max")
 (he:Je pos (Hy [e] X.env)=(false,eval e X.env)::Je pos (Hy [] X.env):=by rfl)(hpl:(Je pos (Hy [e] X.env)).any (·.1)=false:=by rfl) :
 PE X (.Call (.Name "max" p) [e] [⟨some "default", c,kpos⟩] pos) (Ak X.K t tk):=by
 intro pins s σ H Q I h
 refine Kl (eW I hg hm (by rfl) ?_ (by decide) (by decide))
 refine PyProof.Rows.callWith_kw (Eh (ha pos pins s σ H _ I h) fun us s1 ⟨vs,H1,I1,r1,q1⟩=>?_) he hpl
 refine Eh (hk pos pins s1 σ H1 _ I1 q1) fun ws s2 ⟨zs,H2,I2,r2,l,ns,d,e1,e2,sq,q2⟩=>?_
 subst e1 e2
 obtain⟨u,rfl,ru⟩:=vals1 r1
 obtain⟨w',rfl,rw'⟩:=vals1 r2
 cases ru
 obtain⟨its,rv,pl,hz⟩:=I2.list sq
 show HS _ _ (call (.builtin "max") [.ref l] [(Hj "default", w')]) _ _ _
 refine ko (I.ok.hd hc) (intsAre_of rv) pl.isList fun v h' tk hv kp=>⟨E6 d ns,H2,I2.kept kp,?_,q2⟩
 rcases hv with⟨e,rfl⟩|⟨m,t,e,rfl⟩
 · unfold E6;rw[e];exact rw'
 · unfold E6;rw[e];exact⟨t,rfl⟩
end
end L2
theorem L2.Room.un1{k:Nat}{A:PySem.Around}(r:L2.Room k A):A.units+1<PySem.cLine:=by have:=r.un;omega
namespace L2.VL
noncomputable def gw(kvs:List (GQ×Hg))(k:GQ):Option Hg:=(kvs.find? fun kv=>decide (kv.1=k)).map (·.2)
noncomputable def putF(kvs:List (GQ×Hg))(k:GQ)(x:Hg):List (GQ×Hg) :=
 if(kvs.any fun kv=>decide (kv.1=k))=true then kvs.map (fun kv=>if kv.1=k then(kv.1,x)else kv)else kvs++[(k,x)]
section
variable{K:W.Frag}{F:Hp}{us:List (GQ×V)}{kvs:List (GQ×Hg)}
theorem GS.val(r:GS K F us kvs)(k:GQ):(eY us k=none/\gw kvs k=none)\/∃v d,eY us k=some v/\gw kvs k=some d/\Rep K F v d:=by
 induction r with
 | nil=>exact .inl ⟨rfl,rfl⟩
 | @cons p q ps qs h t ih =>
   unfold eY gw at *
   rw[IT,IT,h.1]
   by_cases e:q.1=k
   · simp only[e,decide_true]
     exact .inr ⟨p.2,q.2,rfl,rfl,h.2⟩
   · simp only[e,decide_false]
     exact ih
theorem GS.any(r:GS K F us kvs)(k:GQ):(us.any fun kv=>decide (kv.1=k))=kvs.any fun kv=>decide (kv.1=k):=by
 induction r with
 | nil=>rfl
 | cons h t ih=>rw[Kx,Kx,ih,h.1]
theorem GS.keys(r:GS K F us kvs):us.map (·.1)=kvs.map (·.1):=by
 induction r with
 | nil=>rfl
 | cons h t ih=>rw[Ik,Ik,ih,h.1]
theorem GS.repl(r:GS K F us kvs)(k:GQ)(rv:Rep K F v d):GS K F (us.map fun kv=>if kv.1=k then(kv.1,v)else kv) (kvs.map fun kv=>if kv.1=k then(kv.1,d)else kv):=by
 induction r with
 | nil=>exact .nil
 | @cons p q ps qs h t ih =>
   refine .cons ?_ ih
   show(if p.1=k then(p.1,v)else p).1=(if q.1=k then(q.1,d)else q).1/\Rep K F (if p.1=k then(p.1,v)else p).2 (if q.1=k then(q.1,d)else q).2
   by_cases e:q.1=k
   · have e':p.1=k:=h.1.trans e
     rw[if_pos e,if_pos e']
     exact⟨h.1,rv⟩
   · have e':¬p.1=k:=fun z=>e (h.1.symm.trans z)
     rw[if_neg e,if_neg e']
     exact h
theorem GS.snoc(r:GS K F us kvs)(k:GQ)(rv:Rep K F v d):GS K F (us++[(k,v)]) (kvs++[(k,d)]):=by
 induction r with
 | nil=>exact .cons ⟨rfl,rv⟩ .nil
 | cons h t ih=>exact .cons h ih
theorem GS.put(r:GS K F us kvs)(k:GQ)(rv:Rep K F v d):GS K F (dC us k v) (putF kvs k d):=by
 unfold dC putF
 rw[r.any k]
 split
 · exact r.repl k rv
 · exact r.snoc k rv
theorem GS.mono{F':Hp}(s:bH F F')(r:GS K F us kvs):GS K F' us kvs:=I0.mapP r fun _ _ z=>⟨z.1,z.2.mono s⟩
end
noncomputable def mP:W->Option GQ
 | .d (.int i)=>some (.inl i)
 | .d (.str x)=>some (.inr x)
 | _=>none
noncomputable def asFd:W->Option (List (GQ×Hg))
 | .fd kvs=>some kvs
 | _=>none
theorem keyW_i(i:Int):mP (.d (.int i))=some (.inl i):=rfl
theorem keyW_s(x:Str):mP (.d (.str x))=some (.inr x):=rfl
theorem asFd_f(kvs:List (GQ×Hg)):asFd (.fd kvs)=some kvs:=rfl
theorem wl{w:W}{kvs:List (GQ×Hg)}:asFd w=some kvs↔w = .fd kvs:=by
 constructor
 · intro h;unfold asFd at h;split at h<;>simp_all
 · rintro rfl;rfl
theorem lz{K:W.Frag}{w:W}{k:GQ}(e:mP w=some k)(r:dA K rl F H v w):v=kV k:=by
 unfold mP at e
 split at e
 · cases e;exact aT r
 · cases e;exact fL r
 · cases e
theorem isPk_fd(kvs:List (GQ×Hg)):(W.fd kvs).isPk=false:=rfl
theorem fz_fd(kvs:List (GQ×Hg)):(W.fd kvs).fz = .fd kvs:=rfl
theorem pk_fd(kvs:List (GQ×Hg)):(W.fd kvs).peek = .fd kvs:=rfl
noncomputable def sD(ρ0:En)(g:Gj)(ft:TB)(fk fe:TV):List Hg->List (GQ×Hg)->(List (GQ×Hg)->Prop)->Prop
 | [],acc,Q=>Q acc
 | x::xs,acc,Q=>g x ρ0 fun ρ2=>Le ρ0 ρ2/\ft ρ2 fun b=>if b=true then fk ρ2 fun wk=>∃k,mP wk=some k/\fe ρ2 fun w=>∃d,w.fz = .d d/\acc.length<sizeLine/\sD ρ0 g ft fk fe xs (putF acc k d) Q else sD ρ0 g ft fk fe xs acc Q
noncomputable def nw(fi:En->(List Hg->Prop)->Prop)(fr:List (Option Nat))(g:Gj)(ft:TB)(fk fe:TV):TV:=fun ρ Q=>fi ρ fun xs=>sD (dU fr ρ) g ft fk fe xs [] fun kvs=>Q (.fd kvs)
section
variable{X:Cx}{rl:RlT}{kx vx tg iter:Expr}{ifs:List Expr}{scope:Scope}{pos:Pos}{fi:En->(List Hg->Prop)->Prop}{g:Gj}{ft:TB}{fk fe:TV}
theorem v8{N':List Str}{wi:TI}(fr:List (Option Nat))(k0:∀{F₀ H₀ F H:Hp}{σ:St}{ρ:En},VR X.K rl F₀ H₀ F H σ ρ->∀(Qd:List Hg->Prop)(R:It->Hp->Prop),fi ρ Qd ->
 (∀J xs F' H',Grow rl F H F' H'->VIt X.K rl F' J xs->Qd xs->R J H')->wi σ H R)
 (hg:∀y,GI (FS X N' scope y) rl tg g)(ht:∀y,lP (FS X N' scope y) rl ifs ft)(hk:∀y,PV (FS X N' scope y) rl kx fk)(he:∀y,PV (FS X N' scope y) rl vx fe)
 (R:VR X.K rl F₀ H₀ F H σ ρ)(Qd:W->Prop)(Q:VK)(q:nw fi fr g ft fk fe ρ Qd)
 (k:∀v w F' H',Grow rl F H F' H'->dA X.K rl F' H' v w->dS H v w->Qd w->Q v H'):nD wi fr (fun y=>IM (hg y)) (fun y=>IM (ht y)) (fun y=>IM (hk y)) (fun y=>IM (he y)) σ H Q:=by
 refine k0 R _ _ q fun J xs F1 H1 g1 vi q1=>?_
 intro D hD
 have rD:rl.a≠some D:=fun e=>by obtain⟨o,z⟩:=g1.reel.live e;rw[hD]at z;cases z
 have FD:F1 D=none:=g1.sub.free hD
 have gD:Grow rl F1 H1 F1 (D9 H1 D (.dK [])):=Grow.laid g1.sub g1.reel hD
 have R1:=R.grow g1
 have n0:jK (dU fr ρ):=dD
 refine⟨fun i m acc σc Hc=>m=xs.length-i/\i<=xs.length/\∃Fc ds,VR X.K rl F1 H1 Fc Hc σc (dU fr ρ)/\Hc D=some (.dK acc)/\Fc D=none/\GS X.K Fc acc ds/\sD (dU fr ρ) g ft fk fe (xs.drop i) ds (fun ds=>Qd (.fd ds)),
  ⟨xs.length,by simp,Ig _,F1,[],fq R1 gD,az,FD,.nil,by simpa using q1⟩,?_⟩
 rintro z i m acc σc Hc ⟨rfl,hi,Fc,ds,Rc,hDc,fDc,rs,q2⟩
 have sH:bH F1 Hc:=Rc.g.fs.trans Rc.sub
 by_cases hlt:i<xs.length
 · have ei:xs[i]?=some xs[i]:=by simp[hlt]
   have ed:xs.drop i=xs[i]::xs.drop (i+1):=IZ hlt
   rw[ed]at q2
   refine .inr ⟨vi.go i Hc _ ei sH,fun v H' y=>?_⟩
   obtain⟨Fy,gy,rv⟩:=vi.yld i Hc v H' _ Fc ei Rc.g.fs Rc.sub Rc.reel y
   refine(Hs (hg z)).2 (Rc.grow gy) v _ _ _ rv q2 fun F3 H3 σ3 ρ3 g3 n3 R3 ⟨le3,q3⟩=>?_
   refine(Hs (ht z)).2 R3 _ _ q3 fun b F4 H4 g4 q4=>?_
   have R4:=R3.grow g4
   have g34:=(gy.trans g3).trans g4
   have keepD:∀{Fx Hx:Hp},Grow rl Fc Hc Fx Hx->Hx D=some (.dK acc)/\Fx D=none:=fun gx=>⟨gx.same D _ hDc rD,by rw[gx.old D _ hDc];exact fDc⟩
   cases b with
   | false=>exact⟨xs.length-(i+1),by omega,rfl,hlt,F4,ds,R4.le le3,(keepD g34).1,(keepD g34).2,rs.mono g34.fs,q4⟩
   | true =>
     refine(Hs (hk z)).2 R4 _ _ q4 fun vk wk Fk Hk gk rk nk ⟨kk,ekk,qk⟩=>?_
     have evk:=lz ekk rk
     have R5:=R4.grow gk
     refine(Hs (he z)).2 R5 _ _ qk fun v5 w5 F5 H5 g5 r5 n5 ⟨d,ed5,hl,q5⟩=>?_
     obtain⟨F6,g6,s6,r6⟩:=dA.fz g5 r5 n5
     rw[ed5]at r6
     have g36:=(g34.trans gk).trans g6
     have lds:acc.length=ds.length:=Kd rs
     refine⟨kk,evk,(keepD g36).1,by rw[lds];exact hl,xs.length-(i+1),by omega,rfl,hlt,F6,putF ds kk d,((R5.grow g6).le le3).other n0 hD (keepD g36).2 rD,az,(keepD g36).2,(rs.mono g36.fs).put kk r6,q5⟩
 · have e:i=xs.length:=by omega
   subst e
   rw[Ki]at q2
   have neF:∀b u,Fc b=some u->b≠D:=fun b u q z=>by subst z;rw[fDc]at q;cases q
   have fsm:bH Fc (D9 Fc D (.dK acc)):=fun b u z=>by rw[aq (neF b u z)];exact z
   refine .inl ⟨vi.stop _ Hc (HA _) sH,k _ (.fd ds) (D9 Fc D (.dK acc)) Hc ((g1.trans Rc.g).freeze (g1.freeB hD) hDc fDc rD) ⟨D,acc,rfl,az,rs.mono fsm⟩ trivial q2⟩
theorem jL(i:Nat){b:Bool}(hN:X.N.Nodup)(N':List Str)(fr:List (Option Nat))(hc:X.calm=true)(hi:GF X rl tg iter fi)
 (hg:∀y,GI (FS X N' scope y) rl tg g)(ht:∀y,lP (FS X N' scope y) rl ifs ft)(hk:∀y,PV (FS X N' scope y) rl kx fk)(he:∀y,PV (FS X N' scope y) rl vx fe)
 (hsw:JE (.DictComp kx vx [⟨tg,iter,ifs,0⟩] scope pos) (some (.Name x px)) spos.line X.env=pure b:=by rfl)
 (hix:X.N[i]?=some x:=by rfl)(hx:Loc X.env.scope x:=by first|exact Jy rfl|exact IK rfl)(hf:X.fn x=true\/X.env.scope.names.lookup x=some .local:=by first|exact .inl rfl|exact .inr rfl)
 (hfr:lE fr N' X.N scope X.env.scope=true:=by rfl)(hsc:mB scope X.env.scope=true:=by rfl)
 (hs:∀x,HX iter X.env x=pure x:=by intro _;rfl):GB X rl (.Assign [.Name x px] (.DictComp kx vx [⟨tg,iter,ifs,0⟩] scope pos) spos) (zV i (nw fi fr g ft fk fe)):=by
 obtain⟨wi,p0,k0⟩:=hi
 refine⟨_,jY N' fr hc p0 hfr hsc (fun y=>(Hs (hg y)).1) (fun y=>(Hs (ht y)).1) (fun y=>(Hs (hk y)).1) (fun y=>(Hs (he y)).1) hN hix hx hf hsw hs,fun R Dv D ok q=>v8 fr k0 hg ht hk he R _ _ q fun v w F1 H1 g1 r1 n1 ⟨hp,q1⟩=>?_⟩
 exact ok.nx _ _ _ _ g1.fs (R.set g1 r1 n1 (fun xs z=>by subst z;cases hp) i) q1
end
noncomputable def FB(ρ0:En)(g:Gj)(ft:TB)(fk fe:TV)(x:Hg):Mo (Option (GQ×Hg)):=FR (g x ρ0) fun ρ2=>FI (Le ρ0 ρ2) (FR (ft ρ2) fun b=>if b=true then FR (fk ρ2) fun wk=>aS (mP wk) fun k=>FR (fe ρ2) fun w=>aS (asD w.fz) fun d=>ret (some (k,d))else ret none)
noncomputable def eE(b:Hg->Mo (Option (GQ×Hg))):List Hg->List (GQ×Hg)->Mo (List (GQ×Hg))
 | [],acc=>ret acc
 | x::xs,acc=>FR (b x) fun o=>match o with
   | some d=>FI (acc.length<sizeLine) (eE b xs (putF acc d.1 d.2))
   | none=>eE b xs acc
theorem lG(ρ0:En)(g:Gj)(ft:TB)(fk fe:TV):∀(xs:List Hg)(acc:List (GQ×Hg)),sD ρ0 g ft fk fe xs acc=eE (FB ρ0 g ft fk fe) xs acc
 | [],acc=>rfl
 | x::xs,acc=>by
   refine ak fun Q=>?_
   show(g x ρ0 fun ρ2=>Le ρ0 ρ2/\ft ρ2 fun b=>if b=true then fk ρ2 fun wk=>∃k,mP wk=some k/\fe ρ2 fun w=>∃d,w.fz = .d d/\acc.length<sizeLine/\sD ρ0 g ft fk fe xs (putF acc k d) Q else sD ρ0 g ft fk fe xs acc Q)↔(FR (FB ρ0 g ft fk fe x) _) Q
   simp only[lG ρ0 g ft fk fe xs]
   have:∀(ρ2:En)(b:Bool),(if b=true then fk ρ2 fun wk=>∃k,mP wk=some k/\fe ρ2 fun w=>∃d,w.fz = .d d/\acc.length<sizeLine/\eE (FB ρ0 g ft fk fe) xs (putF acc k d) Q else eE (FB ρ0 g ft fk fe) xs acc Q)=(FR (if b=true then FR (fk ρ2) fun wk=>aS (mP wk) fun k=>FR (fe ρ2) fun w=>aS (asD w.fz) fun d=>ret (some (k,d))else ret none) fun o=>match o with
   | some d=>FI (acc.length<sizeLine) (eE (FB ρ0 g ft fk fe) xs (putF acc d.1 d.2))
   | none=>eE (FB ρ0 g ft fk fe) xs acc) Q:=by
     intro ρ2 b
     cases b with
     | false=>rfl
     | true =>
       rw[if_pos rfl,if_pos rfl]
       show _=fk ρ2 fun wk=>_
       congr 1
       funext wk
       refine propext ?_
       show _↔(FR (aS (mP wk) fun k=>FR (fe ρ2) fun w=>aS (asD w.fz) fun d=>ret (some (k,d))) _) Q
       rw[bnd_opt,aw]
       have e2:∀(k:GQ),(fe ρ2 fun w=>∃d,w.fz = .d d/\acc.length<sizeLine/\eE (FB ρ0 g ft fk fe) xs (putF acc k d) Q)=(FR (FR (fe ρ2) fun w=>aS (asD w.fz) fun d=>ret (some (k,d))) fun o=>match o with
        | some d=>FI (acc.length<sizeLine) (eE (FB ρ0 g ft fk fe) xs (putF acc d.1 d.2))
        | none=>eE (FB ρ0 g ft fk fe) xs acc) Q:=fun k=>by
        show _=fe ρ2 fun w=>_
        congr 1
        funext w
        refine propext ?_
        show _↔(FR (aS (asD w.fz) fun d=>ret (some (k,d))) _) Q
        rw[bnd_opt,aw]
        simp only[gQ]
        exact K8
       simp only[e2]
   simp only[this]
   exact K8
theorem m_compD(fi:En->(List Hg->Prop)->Prop)(fr:List (Option Nat))(g:Gj)(ft:TB)(fk fe:TV)(ρ:En):nw fi fr g ft fk fe ρ=FR (fi ρ) fun xs=>FR (eE (FB (dU fr ρ) g ft fk fe) xs []) fun kvs=>ret (.fd kvs):=by
 refine ak fun Q=>?_
 show(fi ρ fun xs=>sD (dU fr ρ) g ft fk fe xs [] fun ds=>Q (.fd ds))↔_
 simp only[lG]
 exact K8
theorem qM(kvs:List (GQ×Hg))(k:GQ)(x:Hg):(putF kvs k x).length<=kvs.length+1:=by
 unfold putF;split<;>simp
section
variable{α:Type}{b:Hg->Mo (Option (GQ×Hg))}
theorem jz{enc:α->Hg}(f:α->GQ×Hg):∀(xs:List α)(acc:List (GQ×Hg)),(∀x∈xs,b (enc x)=ret (some (f x)))->acc.length+xs.length<=sizeLine->eE b (xs.map enc) acc=ret ((xs.map f).foldl (fun a p=>putF a p.1 p.2) acc)
 | [],acc,_,_=>rfl
 | x::xs,acc,h,hl=>by
   show FR (b (enc x)) _=_
   rw[h x Ht,bnd_ret]
   show FI (acc.length<sizeLine) (eE b (xs.map enc) (putF acc (f x).1 (f x).2))=_
   simp only[Ip]at hl
   have:=qM acc (f x).1 (f x).2
   rw[ag (by omega),jz f xs _ (fun y hy=>h y (Hn _ hy)) (by omega)]
   rfl
theorem v4{Q:β->Prop}{k:List (GQ×Hg)->Mo β}{xs:List α}{enc:α->Hg}(f:α->GQ×Hg)(hx:xs'=xs.map enc)(h:∀x∈xs,b (enc x)=ret (some (f x)))(hl:xs.length<=sizeLine)
 (fin:k ((xs.map f).foldl (fun a p=>putF a p.1 p.2) []) Q):FR (eE b xs' []) k Q:=by
 subst hx
 rw[jz f xs [] h (by simpa using hl)]
 exact fin
end
section
variable{X:Cx}{rl:RlT}{a c e o i:Expr}{es:List Expr}{fa fb:TV}{fs:Ge}{pos p kpos:Pos}{ρ:En}
noncomputable def nv(fa fb:TV):TV:=fun ρ Q=>fa ρ fun x=>fb ρ fun y=>∃kvs k d,x = .fd kvs/\mP y=some k/\gw kvs k=some d/\Q (.d d)
theorem uc(hu:X.A.units+1<Ni)(ho:PV X rl o fa)(hi:PV X rl i fb)(hs:wA i:=by intro _ _;rfl):PV X rl (.Subscript o i pos) (nv fa fb):=by
 obtain⟨t1,p1,k1⟩:=ho
 obtain⟨t2,p2,k2⟩:=hi
 refine⟨_,iu hu p1 p2 hs,fun R Qd Q q h=>k1 R _ _ q fun v w F1 H1 g1 r1 n1 q1=>k2 (R.grow g1) _ _ q1 fun v2 w2 F2 H2 g2 r2 n2 ⟨kvs,k,d,ex,ek,ed,q2⟩=>?_⟩
 subst ex
 obtain⟨x,us,rfl,hx,rk⟩:=r1.grow g2
 have ev:=lz ek r2
 subst ev
 rcases rk.val k with⟨_,z⟩|⟨v3,d3,e1,e2,r3⟩
 · rw[ed]at z;cases z
 · rw[ed]at e2
   cases e2
   refine⟨x,v3,rfl,?_,h v3 (.d d) F2 H2 (g1.trans g2) r3 trivial q2⟩
   rw[<- e1]
   exact zF.k (g2.sub _ _ hx)
theorem m_vDGetF:nv fa fb ρ=FR (fa ρ) fun x=>FR (fb ρ) fun y=>aS (asFd x) fun kvs=>aS (mP y) fun k=>aS (gw kvs k) fun d=>ret (.d d):=by
 refine ak fun Q=>?_
 simp only[nv,FR,aw,wl,ret]
 constructor
 · intro h;refine cast ?_ h;congr 1;funext x;congr 1;funext y;exact propext ⟨fun⟨a,b,c,d,e,f,g⟩=>⟨a,d,b,e,c,f,g⟩,fun⟨a,d,b,e,c,f,g⟩=>⟨a,b,c,d,e,f,g⟩⟩
 · intro h;refine cast ?_ h;congr 1;funext x;congr 1;funext y;exact propext ⟨fun⟨a,d,b,e,c,f,g⟩=>⟨a,b,c,d,e,f,g⟩,fun⟨a,b,c,d,e,f,g⟩=>⟨a,d,b,e,c,f,g⟩⟩
noncomputable def yT:List W->(W->Prop)->Prop:=fun ws Q=>∃(kvs:List (GQ×Hg))(ns:List Int),ws=[.fd kvs]/\kvs.map (·.1)=ns.map JT/\ns.length<64/\∀ns':List Int,ns'.Perm ns->ns'.Pairwise (· <= ·)->Q (.ml (ns'.map .int))
theorem nj(hc:X.calm=true)(hm:X.mg "sorted" = none)(ha:Gx X rl [a] fs)(hg:Gl X "sorted" := by rfl)(he:Hy [a] X.env=(false,eval a X.env)::Hy [] X.env:=by rfl)(hpl:(Je pos (Hy [] X.env)).any (·.1)=false:=by rfl) :
 PV X rl (.Call (.Name "sorted" p) [a] [] pos) (fH yT fs):=by
 refine hJ (jA hc) (fun{F H vs ws} Qd Q s ra r ⟨kvs,ns,ew,ek,hl,q⟩ k=>?_) hm (by rfl) ha hg (by decide) (by decide) he hpl
 subst ew
 obtain⟨v,rfl,b,us,rfl,hb,rk⟩:=qg r
 exact⟨b,us,ns,rfl,.inl (s _ _ hb),by rw[rk.keys];exact ek,hl,fun ns' h1 h2 l hl=>k _ (.ml _) _ _ (Grow.laid s ra hl) (cA s ra hl lB) (fun a ea=>by cases ea;exact hl) (q ns' h1 h2)⟩
theorem uw{Q:α->Prop}{K:W->Mo α}{kvs:List (GQ×Hg)}(ns:List Int)(e:kvs.map (·.1)=ns.map JT)(hl:ns.length<64)(h:∀ns':List Int,ns'.Perm ns->ns'.Pairwise (· <= ·)->K (.ml (ns'.map .int)) Q):FR (yT [.fd kvs]) K Q :=
 ⟨kvs,ns,rfl,e,hl,fun ns' h1 h2=>h ns' h1 h2⟩
noncomputable def E7(d:Int)(ns:List Int):Int:=(cn none ns).getD d
noncomputable def ug(fs:Ge)(fc:TV):TV:=fun ρ Q=>fs ρ fun ws=>fc ρ fun y=>∃ns d,gi ws=some [.list (ns.map .int)]/\y = .d (.int d)/\Q (.d (.int (E7 d ns)))
theorem wU(hc:X.calm=true)(hm:X.mg "max" = none)(ha:Gx X rl [e] fs)(hk:PV X rl c fb)(hg:Gl X "max" := by rfl)
 (he:Je pos (Hy [e] X.env)=(false,eval e X.env)::Je pos (Hy [] X.env):=by rfl)(hpl:(Je pos (Hy [e] X.env)).any (·.1)=false:=by rfl) :
 PV X rl (.Call (.Name "max" p) [e] [⟨some "default", c,kpos⟩] pos) (ug fs fb):=by
 obtain⟨t1,p1,k1⟩:=ha
 obtain⟨t2,p2,k2⟩:=hk
 refine⟨_,u6 hc hm p1 (uX p2 ya) hg he hpl,fun R Qd Q q h=>k1 R _ _ q fun vs ws F1 H1 g1 r1 q1=>k2 (R.grow g1) _ _ q1 fun v2 w2 F2 H2 g2 r2 n2 ⟨ns,d,ed,ew,q2⟩=>?_⟩
 subst ew
 have e2:=aT r2
 subst e2
 have rs:=cV r1 ed
 cases rs with
 | cons rx rs =>
   cases rs
   cases rx with
   | @lst l us _ hb ry =>
     have eu:=fv ry
     subst eu
     refine⟨l,ns,.int d,rfl,rfl,.inl (.inl (g2.sub _ _ (g2.fs _ _ hb))),h _ (.d (.int (E7 d ns))) F2 H2 (g1.trans g2) ?_ trivial q2⟩
     have:E6 (.int d) ns = .int (E7 d ns):=by unfold E6 E7;cases cn none ns<;>rfl
     rw[this]
     exact .int _
noncomputable def oO(ws:List W):Option (List Int):=match gi ws with
 | some [.list xs]=>jv xs
 | _=>none
theorem m_vMaxD{fc:TV}:ug fs fc ρ=FR (fs ρ) fun ws=>FR (fc ρ) fun y=>aS (oO ws) fun ns=>aS (asI y) fun d=>ret (.d (.int (E7 d ns))):=by
 have key:∀(ws:List W)(ns:List Int),oO ws=some ns↔gi ws=some [.list (ns.map .int)]:=by
  intro ws ns
  unfold oO
  constructor
  · intro h
    split at h
    · rename_i xs e;rw[e,lA h]
    · cases h
  · intro h;rw[h];exact intsD_map ns
 refine ak fun Q=>?_
 simp only[ug,FR,aw,c_,ret,key]
 constructor
 · intro h;refine cast ?_ h;congr 1;funext x;congr 1;funext y;exact propext ⟨fun⟨a,b,c,d,e⟩=>⟨a,c,b,d,e⟩,fun⟨a,c,b,d,e⟩=>⟨a,b,c,d,e⟩⟩
 · intro h;refine cast ?_ h;congr 1;funext x;congr 1;funext y;exact propext ⟨fun⟨a,c,b,d,e⟩=>⟨a,b,c,d,e⟩,fun⟨a,b,c,d,e⟩=>⟨a,c,b,d,e⟩⟩
theorem oneIs_l(ns:List Int):oO [.d (.list (ns.map .int))]=some ns:=by
 unfold oO gi
 exact intsD_map ns
end
noncomputable def Hd:=Hh @m_compD (Hh @m_vDGetF (Hh @m_vMaxD (Hh @keyW_i (Hh @keyW_s (Hh @asFd_f (Hh @isPk_fd (Hh @fz_fd (Hh @pk_fd (@oneIs_l)))))))))
end L2.VL
namespace L2
noncomputable def Dr(K:W.Frag)(tl:TE):TI:=fun σ H R=>tl σ H fun x H1=>∃a,x = .ref a/\(((∃xs,Go K H1 a xs)/\R (GX K a) H1)\/((∃xs,Gm K H1 a xs)/\R (GV K a) H1))
theorem yd{l:Expr}{tl:TE}(hl:PE X l tl):PI X tg l (Dr X.K tl):=by
 intro pins s σ H R I h
 refine Eh (hl pins s σ H _ I h) fun v s1 ⟨x,H1,I1,r1,q1⟩=>?_
 obtain⟨a,e,q1⟩:=q1
 subst e
 cases r1
 have fin:∀b∈[s1.heap.objs.size],jJ X pins H1 b:=fun b hb=>by
  have e:b=s1.heap.objs.size:=by simpa using hb
  subst e
  exact I1.fpOk (HA _) (I1.hok.fresh (HA _))
 rcases q1 with⟨⟨xs,hq⟩,q⟩|⟨⟨xs,hq⟩,q⟩
 · obtain⟨its,rv,p,hz⟩:=I1.list hq
   exact K6 p.isList ⟨s1.heap.objs.size,[s1.heap.objs.size],_,_,H1,rfl,I1.kept (t':=s1.toks) fun b o e=>Hl _ e,iZ a _,⟨_,HI _ rfl,rfl,rfl⟩,fin,q⟩
 · obtain⟨its,rv,p,hz⟩:=I1.tuple hq
   exact LP (show s1.heap.IsTuple a its.toArray from p) ⟨s1.heap.objs.size,[s1.heap.objs.size],_,_,H1,rfl,I1.kept (t':=s1.toks) fun b o e=>Hl _ e,gz a _,⟨_,HI _ rfl,rfl,rfl⟩,fin,q⟩
end L2
namespace L2.VL
section
variable{X:Cx}{rl:RlT}{tg:Expr}{fa:TV}{ρ:En}
noncomputable def iS(fa:TV):En->(List Hg->Prop)->Prop:=fun ρ Q=>fa ρ fun w=>∃xs,(w.fz = .d (.list xs)\/w.fz = .d (.tuple xs))/\Q xs
theorem sw{l:Expr}(hl:PV X rl l fa):GF X rl tg l (iS fa):=by
 obtain⟨t,p,k⟩:=hl
 refine⟨_,yd p,fun R Qd Q q h=>k R _ _ q fun v w F1 H1 g1 r1 n1 ⟨xs,ew,q1⟩=>?_⟩
 obtain⟨F2,g2,s2,r2⟩:=dA.fz g1 r1 n1
 rcases ew with ew|ew
 · rw[ew]at r2
   cases(show Rep X.K F2 v (.list xs)from r2)with
   | @lst a vs _ sq rs =>
     have sqH:∀H,bH F2 H->Go X.K H a vs:=fun H s=>.inl (.inl (s _ _ sq))
     refine⟨a,rfl,.inl ⟨⟨vs,sqH H1 g2.sub⟩,h _ xs F2 H1 g2 (.of (fun i H x e s=>?_) (fun i H hl s=>⟨vs,sqH H s,by rw[rs.length];exact hl⟩) (fun i H v H' x e s y=>?_)) q1⟩⟩
     · obtain⟨v,ev,_⟩:=rs.get e
       exact⟨vs,v,sqH H s,ev⟩
     · obtain⟨e',hy⟩:=y
       obtain⟨v',ev,rv⟩:=rs.get e
       have:=hy vs (sqH H s)
       rw[ev]at this
       cases this
       exact⟨e',rv⟩
 · rw[ew]at r2
   cases(show Rep X.K F2 v (.tuple xs)from r2)with
   | @tup a vs _ sq rs =>
     have sqH:∀H,bH F2 H->Gm X.K H a vs:=fun H s=>e9 s sq
     refine⟨a,rfl,.inr ⟨⟨vs,sqH H1 g2.sub⟩,h _ xs F2 H1 g2 (.of (fun i H x e s=>?_) (fun i H hl s=>⟨vs,sqH H s,by rw[rs.length];exact hl⟩) (fun i H v H' x e s y=>?_)) q1⟩⟩
     · obtain⟨v,ev,_⟩:=rs.get e
       exact⟨vs,v,sqH H s,ev⟩
     · obtain⟨e',hy⟩:=y
       obtain⟨v',ev,rv⟩:=rs.get e
       have:=hy vs (sqH H s)
       rw[ev]at this
       cases this
       exact⟨e',rv⟩
noncomputable def seqW:W->Option (List Hg)
 | .d (.list xs)=>some xs
 | .d (.tuple xs)=>some xs
 | _=>none
theorem seqW_l(xs:List Hg):seqW (.d (.list xs))=some xs:=rfl
theorem seqW_t(xs:List Hg):seqW (.d (.tuple xs))=some xs:=rfl
theorem uF{w:W}:seqW w=some xs↔(w = .d (.list xs)\/w = .d (.tuple xs)):=by
 constructor
 · intro h;unfold seqW at h;split at h<;>simp_all
 · rintro(rfl|rfl)<;>rfl
theorem m_iS:iS fa ρ=FR (fa ρ) fun w=>aS (seqW w.fz) ret:=by
 refine ak fun Q=>?_
 simp only[iS,FR,aw,uF,ret]
noncomputable def G_:=Hh @m_iS (Hh @seqW_l (@seqW_t))
end
end L2.VL
namespace L2
noncomputable def insAt{α:Type}(xs:List α)(k:Nat)(y:α):List α:=xs.take k++y::xs.drop k
theorem ci.insAt{xs:List V}{its:List Hq}{y:V}{u:Hq}(r:ci xs its)(ry:RelV y u)(k:Nat):ci (L2.insAt xs k y) (L2.insAt its k u):=by
 unfold L2.insAt
 induction r generalizing k with
 | nil=>simp;exact .cons ry .nil
 | cons h t ih =>
   cases k with
   | zero=>exact .cons ry (.cons h t)
   | succ k=>exact .cons h (ih k)
variable{X:Cx}
noncomputable def oy:V->List V->Hp->VK->Prop:=fun x vs H Q=>∃l xs i y,x = .ref l/\vs=[.int i,y]/\H l=some (.lst xs)/\0<=i/\i<=xs.length/\xs.length<sizeLine/\Q .non (D9 H l (.lst (insAt xs i.toNat y)))
theorem oQ:GN X "list.insert" oy:=by
 intro pins s σ H x vs v us Q I rx rv h
 obtain⟨l,xs,i,y,rfl,rfl,hH,h0,h1,hz,q⟩:=h
 cases rx
 obtain⟨u,u2,rfl,⟨t,rfl⟩,ru⟩:=vals2 rv
 obtain⟨z,its,n,r,hl,e⟩:=I.lstM hH
 have len:xs.length=its.length:=r.length
 have sz:=HV
 have fit:KA i=true:=by simp[KA];omega
 refine ME F.slot_list_insert ⟨_,e,rfl⟩ F.entry_list_insert (F.args_list_insert_3 _ _ _) (PySem.AutoSeq1.list_insert_list_int_val_1 l its.toArray n i t u2 (by simp[fit]) (by rw[HN];omega)) ⟨e,?_⟩
 refine⟨.non,_,I.lset (its':=insAt its i.toNat u2) hH e ?_ (r.insAt ru _) ?_,rfl,q⟩
 · have hn:¬i<0:=by omega
   have hm:min i.toNat its.length=i.toNat:=by omega
   simp only[hn,if_false,HN,hm]
   unfold insAt
   simp[List.extract_eq_drop_take]
   rw[Ja (by rw[Ln];omega)]
 · unfold insAt
   rw[HD,Ip,JR,Ln]
   omega
end L2
namespace L2.VL
section
variable{X:Cx}{rl:RlT}{a e:Expr}{es:List Expr}{fs:Ge}{pos:Pos}
theorem Reps.insAt{K:W.Frag}{F:Hp}{vs:List V}{ds:List Hg}{v:V}{d:Hg}(r:Reps K F vs ds)(h:Rep K F v d)(k:Nat):Reps K F (L2.insAt vs k v) (L2.insAt ds k d):=by
 unfold L2.insAt
 exact(r.take k).append (.cons h (r.drop k))
noncomputable def zx:List Hg->List W->(List Hg->Prop)->Prop:=fun xs ws Q=>∃i x,gi ws=some [.int i,x]/\0<=i/\i<=xs.length/\xs.length<sizeLine/\Q (insAt xs i.toNat x)
theorem wJ{K:W.Frag}:Bo K rl oy zx:=fun{F H a vs args xs ws} Qn Q s ha rs ra ⟨i,x,e,h0,h1,z,q⟩ k=>by
 have r2:=cV ra e
 cases r2 with
 | cons ri r3 =>
   cases r3 with
   | cons rx r4 =>
     cases r4
     have ei:=aT ri
     subst ei
     exact⟨a,vs,i,_,rfl,rfl,ha,h0,by rw[rs.length];exact h1,by rw[rs.length];exact z,k _ _ (rs.insAt rx _) q⟩
theorem wF(i:Nat){apos cpos:Pos}(ha:Gx X rl [a,e] fs)(hN:X.N[i]?=some x:=by rfl)(hv:F0 X.env.scope x:=by first|exact Jy rfl|exact IK (Jy rfl)|exact IK (IK rfl))
 (hd:(x==("__debug__" : Str))=false:=by decide)(hcd:(x==("__classdict__" : Str))=false:=by decide)
 (hbase:Kv (.Name x px) "insert" X.env (eval (.Name x px) X.env)=eval (.Name x px) X.env:=by rfl)
 (hfew:((Je cpos (Hy [a,e] X.env)).all (fun x=>!x.1)&&(LR cpos (Kq [] X.env)).all (fun x=>x.1.isSome)
  && decide (([a,e]).length+([]:List KF).length+(if([]:List KF).isEmpty then 0 else 1)<30))=true:=by rfl)
 (hline:(apos.endLine==cpos.line)=true:=by rfl)(hs:Hy [a,e] X.env=(false,eval a X.env)::Hy [e] X.env:=by rfl)(hplain:(Je cpos (Hy [e] X.env)).any (·.1)=false:=by rfl)
 (hsw:JE (.Call (.Attribute (.Name x px) "insert" apos) [a,e] [] cpos) none pos.line X.env=pure false:=by rfl) :
 GB X rl (.Expr (.Call (.Attribute (.Name x px) "insert" apos) [a,e] [] cpos) pos) (wZ i zx fs) :=
 sr i PySem.F.slot_list_insert PySem.F.type_list_insert oQ wJ ha hN hv hd hcd hbase hfew hline hs hplain hsw
noncomputable def insW(ws:List W):Option (Int×Hg):=match gi ws with
 | some [.int i,x]=>some (i,x)
 | _=>none
theorem insW_d(i:Int)(x:Hg):insW [.d (.int i),.d x]=some (i,x):=rfl
theorem vN{ws:List W}{p:Int×Hg}:insW ws=some p↔gi ws=some [.int p.1,p.2]:=by
 constructor
 · intro h
   unfold insW at h
   split at h
   · rename_i i x e;cases h;exact e
   · cases h
 · intro h;unfold insW;rw[h]
theorem m_gIns(xs:List Hg)(ws:List W):zx xs ws=aS (insW ws) fun p=>FI (0<=p.1) (FI (p.1<=xs.length) (FI (xs.length<sizeLine) (ret (insAt xs p.1.toNat p.2)))):=by
 refine ak fun Q=>?_
 simp only[zx,aw,vN,FI,ret]
 exact⟨fun⟨i,x,e,a,b,c,q⟩=>⟨(i,x),e,a,b,c,q⟩,fun⟨p,e,a,b,c,q⟩=>⟨p.1,p.2,e,a,b,c,q⟩⟩
noncomputable def Ha:=Hh @m_gIns (@insW_d)
end
noncomputable def G1(K:W.Frag)(rl:RlT)(H₀ F₁ H₁ F:Hp)(b:Addr)(xs:List Hg):Prop:=∃vs,H₁ b=some (.lst vs)/\F₁ b=none/\rl.a≠some b/\H₀ b=none/\Reps K F vs xs
structure Cl (K:W.Frag) (rl:RlT) (F₀ H₀ F₁ H₁ F:Hp) (a:Addr) (as:List Addr) (xss:List (List Hg)):Prop where
 g:Grow rl F₀ H₀ F₁ H₁
 ha:H₁ a=some (.lst (as.map V.ref))
 ra:rl.a≠some a
 nd:as.Nodup
 nm:a∉as
 inn:I0 (G1 K rl H₀ F₁ H₁ F) as xss
theorem Cl.mono{K:W.Frag}{rl:RlT}{F₀ H₀ F₁ H₁ F F':Hp}{a:Addr}{as:List Addr}{xss:List (List Hg)}(c:Cl K rl F₀ H₀ F₁ H₁ F a as xss)(s:bH F F'):Cl K rl F₀ H₀ F₁ H₁ F' a as xss :=
 ⟨c.g,c.ha,c.ra,c.nd,c.nm,I0.mapP c.inn fun _ _ ⟨vs,h1,h2,h3,h4,h5⟩=>⟨vs,h1,h2,h3,h4,h5.mono s⟩⟩
theorem fQ{α β:Type}{R:α->β->Prop}:∀{xs:List α}{ys:List β},I0 R xs ys->∀{n:Nat}{y:β},ys[n]?=some y->∃x,xs[n]?=some x/\R x y
 | _,_,.nil,n,y,e=>by simp at e
 | _,_,.cons r rs,0,y,e=>by simp at e;subst e;exact⟨_,rfl,r⟩
 | _,_,.cons r rs,n+1,y,e=>by simpa using fQ rs (n:=n) (by simpa using e)
theorem jj{α β:Type}{R R':α->β->Prop}{x:α}(k:∀a b,a≠x->R a b->R' a b):∀{xs:List α}{ys:List β},I0 R xs ys->x∉xs->I0 R' xs ys
 | _,_,.nil,_=>.nil
 | _,_,.cons r rs,n=>.cons (k _ _ (fun z=>n (z▸Ht)) r) (jj k rs fun z=>n (Hn _ z))
theorem gF{α β:Type}{R R':α->β->Prop}{x:α}{y:β}(h:R' x y)(k:∀a b,a≠x->R a b->R' a b):∀{xs:List α}{ys:List β},I0 R xs ys->xs.Nodup->∀{n:Nat},xs[n]?=some x->I0 R' xs (ys.set n y)
 | _,_,.nil,_,n,e=>by simp at e
 | x0::xs,y0::ys,.cons r rs,nd,0,e=>by
   simp at e
   subst e
   rw[List.set_cons_zero]
   exact .cons h (jj k rs (JZ.mp nd).1)
 | x0::xs,y0::ys,.cons r rs,nd,n+1,e=>by
   rw[List.set_cons_succ]
   have e':xs[n]?=some x:=by simpa using e
   exact .cons (k _ _ (fun z=>(JZ.mp nd).1 (z▸JS e')) r) (gF h k rs (JZ.mp nd).2 e')
theorem dA.apart{K:W.Frag}{o:HO}{w:W}(r:dA K rl F H v w)(ne:w.own=true->v ≠ .ref b)(np:∀xs,w ≠ .pk xs):dA K rl F (D9 H b o) v w:=by
 cases w with
 | ml xs=>obtain⟨a,vs,e,h1,h2,h3,h4⟩:=r;exact⟨a,vs,e,h1,h2,by rw[aq (fun z=>ne rfl (by rw[e,z]))];exact h3,h4⟩
 | pk xs=>exact absurd rfl (np xs)
 | md kvs=>obtain⟨a,vs,e,h1,h2,h3,h4⟩:=r;exact⟨a,vs,e,h1,h2,by rw[aq (fun z=>ne rfl (by rw[e,z]))];exact h3,h4⟩
 | mk kvs=>obtain⟨a,vs,e,h1,h2,h3,h4⟩:=r;exact⟨a,vs,e,h1,h2,by rw[aq (fun z=>ne rfl (by rw[e,z]))];exact h3,h4⟩
 | _=>exact r
theorem VR.moved{K:W.Frag}{F₁ H₁:Hp}{o o':HO}(R:VR K rl F₁ H₁ F H σ ρ)(hb:H₁ b=some o)(fb:F₁ b=none)(rb:rl.a≠some b):VR K rl F₁ (D9 H₁ b o') F (D9 H b o') σ ρ:=by
 have f:F b=none:=by rw[R.g.old b _ hb];exact fb
 have neF:∀c u,F c=some u->c≠b:=fun c u q z=>by subst z;rw[f]at q;cases q
 have own:∀{v w},dS H₁ v w->w.own=true->v ≠ .ref b:=fun n ow z=>by have:=n.none ow z;rw[hb]at this;cases this
 refine⟨⟨fun c u q n=>?_,R.g.fs,fun c u q=>by rw[aq (neF c u q)];exact R.sub c u q,fun c u q=>?_,fun r er=>?_⟩,fun i w e=>?_,R.ap,R.np,R.len⟩
 · by_cases z:c=b
   · subst z;rw[az]at q ⊢;exact q
   · rw[aq z]at q ⊢;exact R.g.same c u q n
 · by_cases z:c=b
   · subst z;rw[f,fb]
   · rw[aq z]at q;exact R.g.old c u q
 · obtain⟨h1,⟨o2,h2,h3⟩⟩:=R.g.reel r er
   exact⟨h1,⟨o2,by rw[aq (fun z=>rb (by rw[<- z];exact er))];exact h2,h3⟩⟩
 · obtain⟨v,h1,h2,h3⟩:=R.sl i w e
   refine⟨v,h1,h2.apart (own h3) (fun xs z=>R.np i xs (z▸e)),?_⟩
   cases w with
   | ml xs=>exact fun a ea=>by rw[aq (fun z=>own h3 rfl (by rw[ea,z]))];exact h3 a ea
   | md xs=>exact fun a ea=>by rw[aq (fun z=>own h3 rfl (by rw[ea,z]))];exact h3 a ea
   | mk xs=>exact fun a ea=>by rw[aq (fun z=>own h3 rfl (by rw[ea,z]))];exact h3 a ea
   | _=>trivial
theorem Cl.moved{K:W.Frag}{F₁ H₁:Hp}{as:List Addr}(c:Cl K rl F₀ H₀ F₁ H₁ F a as xss)(e:as[n]?=some b)(fb:F₁ b=none)(rb:rl.a≠some b)(h0:H₀ b=none)(rs:Reps K F vs xs) :
 Cl K rl F₀ H₀ F₁ (D9 H₁ b (.lst vs)) F a as (xss.set n xs):=by
 have nb:∀d u,F₁ d=some u->d≠b:=fun d u q z=>by subst z;rw[fb]at q;cases q
 refine⟨⟨fun d u q m=>by rw[aq (aU q h0)];exact c.g.same d u q m,c.g.fs,fun d u q=>by rw[aq (nb d u q)];exact c.g.sub d u q,c.g.old,fun r er=>?_⟩,?_,c.ra,c.nd,c.nm,gF (R':=G1 K rl H₀ F₁ (D9 H₁ b (.lst vs)) F) (x:=b) ⟨vs,az,fb,rb,h0,rs⟩ (fun d ys nd ⟨us,h1,h2⟩=>⟨us,by rw[aq nd];exact h1,h2⟩) c.inn c.nd e⟩
 · obtain⟨h1,⟨o2,h2,h3⟩⟩:=c.g.reel r er
   exact⟨h1,⟨o2,by rw[aq (fun z=>rb (by rw[<- z];exact er))];exact h2,h3⟩⟩
 · rw[aq (show a≠b from fun z=>by subst z;exact c.nm (JS e))]
   exact c.ha
structure MEnds where
 nx:List (List Hg)->En->Prop
 rt:W->Prop
structure EndsM (K:W.Frag) (rl:RlT) (F₀ H₀:Hp) (a:Addr) (as:List Addr) (Fs:Hp) (Dm:MEnds) (D:Ends):Prop where
 nx:∀F₁ H₁ F H σ ρ xss,bH Fs F->Cl K rl F₀ H₀ F₁ H₁ F a as xss->VR K rl F₁ H₁ F H σ ρ->Dm.nx xss ρ->D.nx σ H
 rt:∀v w F H,Grow rl F₀ H₀ F H->dA K rl F H v w->dS H₀ v w->Dm.rt w->D.rt v H
theorem EndsM.on{K:W.Frag}{as:List Addr}{Fs:Hp}{Dm:MEnds}{D:Ends}(ok:EndsM K rl F₀ H₀ a as Fs Dm D)(s:bH Fs F):EndsM K rl F₀ H₀ a as F Dm D :=
 ⟨fun F₁ H₁ F' H σ ρ xss s'=>ok.nx F₁ H₁ F' H σ ρ xss (s.trans s'),ok.rt⟩
abbrev Gg:=Addr->MEnds->List (List Hg)->En->Prop
noncomputable def GC(X:Cx)(rl:RlT)(st:Stmt)(t:Gg):Prop:=∃T,PS X st T/\∀{F₀ H₀ F₁ H₁ F H:Hp}{σ:St}{ρ:En}{a:Addr}{as:List Addr}{xss:List (List Hg)},Cl X.K rl F₀ H₀ F₁ H₁ F a as xss->VR X.K rl F₁ H₁ F H σ ρ->∀Dm D,EndsM X.K rl F₀ H₀ a as F Dm D->t a Dm xss ρ->T D σ H
noncomputable def zh(X:Cx)(rl:RlT)(st:List Stmt)(t:Gg):Prop:=∃T,GA X st T/\∀{F₀ H₀ F₁ H₁ F H:Hp}{σ:St}{ρ:En}{a:Addr}{as:List Addr}{xss:List (List Hg)},Cl X.K rl F₀ H₀ F₁ H₁ F a as xss->VR X.K rl F₁ H₁ F H σ ρ->∀Dm D,EndsM X.K rl F₀ H₀ a as F Dm D->t a Dm xss ρ->T D σ H
noncomputable def yE:Gg:=fun _ Dm xss ρ=>Dm.nx xss ρ
noncomputable def CK(t u:Gg):Gg:=fun a Dm xss ρ=>t a {Dm with nx:=u a Dm} xss ρ
noncomputable def Ff(t:Gf):Gg:=fun _ Dm xss ρ=>t ⟨fun ρ'=>Dm.nx xss ρ',Dm.rt,fun _=>False,fun _=>False⟩ ρ
section
variable{X:Cx}{rl:RlT}{st:Stmt}{rest body:List Stmt}{t:Gf}{u v:Gg}{e:Expr}{fa:TV}{pos p:Pos}
theorem vB:zh X rl [] yE:=⟨_,oG,fun C R Dm D ok q=>ok.nx _ _ _ _ _ _ _ (.refl _) C R q⟩
theorem dI(h:GC X rl st u)(h2:zh X rl rest v):zh X rl (st::rest) (CK u v):=by
 obtain⟨T,p,k⟩:=h
 obtain⟨T2,p2,k2⟩:=h2
 exact⟨_,fy p p2,fun C R Dm D ok q=>k C R {Dm with nx:=v _ Dm} {D with nx:=T2 D} ⟨fun F₁ H₁ F' H' σ' ρ' xss' s' C' R' q'=>k2 C' R' Dm D (ok.on s') q',ok.rt⟩ q⟩
theorem wn(h:GB X rl st t):GC X rl st (Ff t):=by
 obtain⟨T,p,k⟩:=h
 exact⟨T,p,fun C R Dm D ok q=>k R _ D ⟨fun F' H' σ' ρ' s R' q'=>ok.nx _ _ _ _ _ _ _ s (C.mono s) R' q',fun v w F' H' g r n q'=>ok.rt v w F' H' (C.g.trans g) r (dS.back C.g n) q',fun _ _ _ _ _ _ z=>Jw z,fun _ _ _ _ _ _ z=>Jw z⟩ q⟩
noncomputable def CL(fi:En->(List Hg->Prop)->Prop)(g:Gj)(t:Gg):Gg:=fun a Dm xss ρ=>fi ρ fun ys=>∃J:Nat->List (List Hg)->En->Prop,J 0 xss ρ /\
 (∀i y xss ρ,ys[i]?=some y->J i xss ρ->g y ρ fun ρ2=>t a {Dm with nx:=J (i+1)} xss ρ2)/\∀xss ρ,J ys.length xss ρ->Dm.nx xss ρ
theorem yD{g:Gj}(hp:M7 (Ie X.prog X.w) X.A X.env X.xe)(hc:X.calm=true)(hi:GF X rl tg iter fi)(hg:GI X rl tg g)(hb:zh X rl body u)
 (hs:∀x,HX iter X.env x=pure x:=by intro _;rfl):GC X rl (.For tg iter body [] pos) (CL fi g u):=by
 obtain⟨wi,p0,k0⟩:=hi
 obtain⟨G,p1,k1⟩:=hg
 obtain⟨T,p2,k2⟩:=hb
 refine⟨_,sO hp hc p0 p1 p2 hs,fun{F₀ H₀ F₁ H₁ F H σ ρ a as xss} C R Dm D ok q=>k0 R _ _ q fun I xs F1 H1 g1 vi ⟨J,j0,turn,fin⟩=>?_⟩
 refine⟨fun i m σ H=>m=xs.length-i/\i<=xs.length/\∃F₁ H₁ F ρ xss,bH F1 F/\Cl X.K rl F₀ H₀ F₁ H₁ F a as xss/\VR X.K rl F₁ H₁ F H σ ρ/\J i xss ρ,⟨xs.length,by simp,Ig _,F₁,H₁,F1,ρ,xss,.refl _,C.mono g1.fs,R.grow g1,j0⟩,?_⟩
 rintro i m σ H ⟨rfl,hi,E₁,G₁,F2,ρ2,xs2,s2,C2,R2,j2⟩
 have sH:bH F1 H:=s2.trans R2.sub
 by_cases hlt:i<xs.length
 · have ei:xs[i]?=some xs[i]:=by simp[hlt]
   refine .inr ⟨vi.go i H _ ei sH,fun σ' H'=>∃F₁ H₁ F ρ xss,bH F1 F/\Cl X.K rl F₀ H₀ F₁ H₁ F a as xss/\VR X.K rl F₁ H₁ F H' σ' ρ/\J (i+1) xss ρ,fun σ' H' z=>⟨xs.length-(i+1),by omega,rfl,hlt,z⟩,fun v H' y=>?_⟩
   obtain⟨Fy,gy,rv⟩:=vi.yld i H v H' _ F2 ei s2 R2.sub R2.reel y
   refine k1 (R2.grow gy) v _ _ _ rv (turn i _ xs2 ρ2 ei j2) fun F3 H3 σ3 ρ3 s3 n3 R3 q3=>?_
   have s13:bH F1 F3:=s2.trans (gy.fs.trans s3.fs)
   exact k2 (C2.mono (gy.fs.trans s3.fs)) R3 {Dm with nx:=J (i+1)} _ ⟨fun E' G' F4 H4 σ4 ρ4 xs4 s4 C4 R4 q4=>⟨E',G',F4,ρ4,xs4,s13.trans s4,C4,R4,q4⟩,ok.rt⟩ q3
 · have e:i=xs.length:=by omega
   subst e
   exact .inl ⟨vi.stop _ H (HA _) sH,ok.nx _ _ _ _ _ _ _ (g1.fs.trans s2) C2 R2 (fin _ _ j2)⟩
noncomputable def Dh(ic ik ix:Nat):Gg:=fun a Dm xss ρ=>ρ[ic]?=some (some (.vv (.ref a)))/\∃(n:Nat)(xs:List Hg)(d:Hg),ρ[ik]?=some (some (.d (.int n)))/\xss[n]?=some xs/\ρ[ix]?=some (some (.d d))/\xs.length<sizeLine/\Dm.nx (xss.set n (xs++[d])) ρ
theorem p_{as:List Addr}(e:as[n]?=some b):atI (as.map V.ref) (n:Int)=some (V.ref b):=by
 have hl:n<as.length:=(Ia.mp e).1
 rw[cw]
 unfold atI
 rw[show ixN as.length (n:Int)=some n by unfold ixN;simp;omega,Option.bind_some,e]
 rfl
theorem AW(ic ik ix:Nat){c k:Str}{pc pk p1 apos cpos:Pos} 
 (hc:X.N[ic]?=some c:=by rfl)(vc:F0 X.env.scope c:=by first|exact Jy rfl|exact IK (Jy rfl)|exact IK (IK rfl))(dc:(c==("__debug__" : Str))=false:=by decide)(ec:(c==("__classdict__" : Str))=false:=by decide)
 (hk:X.N[ik]?=some k:=by rfl)(vk:F0 X.env.scope k:=by first|exact Jy rfl|exact IK (Jy rfl)|exact IK (IK rfl))(dk:(k==("__debug__" : Str))=false:=by decide)(ek:(k==("__classdict__" : Str))=false:=by decide)
 (hx:X.N[ix]?=some x:=by rfl)(vx:F0 X.env.scope x:=by first|exact Jy rfl|exact IK (Jy rfl)|exact IK (IK rfl))(dx:(x==("__debug__" : Str))=false:=by decide)(ex:(x==("__classdict__" : Str))=false:=by decide)
 (hs:iV (.Name k pk):=by exact fun _ _=>rfl)
 (hbase:Kv (.Subscript (.Name c pc) (.Name k pk) p1) "append" X.env (eval (.Subscript (.Name c pc) (.Name k pk) p1) X.env)=eval (.Subscript (.Name c pc) (.Name k pk) p1) X.env:=by rfl)
 (hfew:((Je cpos (Hy [.Name x px] X.env)).all (fun x=>!x.1)&&(LR cpos (Kq [] X.env)).all (fun x=>x.1.isSome)
  && decide (([.Name x px]:List Expr).length+([]:List KF).length+(if([]:List KF).isEmpty then 0 else 1)<30))=true:=by rfl)
 (hline:(apos.endLine==cpos.line)=true:=by rfl)(hst:Hy [.Name x px] X.env=(false,eval (.Name x px) X.env)::Hy [] X.env:=by rfl)(hplain:(Je cpos (Hy [] X.env)).any (·.1)=false:=by rfl)
 (hsw:JE (.Call (.Attribute (.Subscript (.Name c pc) (.Name k pk) p1) "append" apos) [.Name x px] [] cpos) none pos.line X.env=pure false:=by rfl) :
 GC X rl (.Expr (.Call (.Attribute (.Subscript (.Name c pc) (.Name k pk) p1) "append" apos) [.Name x px] [] cpos) pos) (Dh ic ik ix):=by
 refine⟨_,j8 (qU Ke KL KM dr (u7 pA (cx hc vc dc ec) (cx hk vk dk ek) hs) (dO (cx hx vx dx ex) jk hst) hbase hfew hline hst hplain) hsw,fun{F₀ H₀ F₁ H₁ F H σ ρ a as xss} C R Dm D ok ⟨e1,n,xs,d,e2,e3,e4,hl,q⟩=>?_⟩
 obtain⟨v1,s1,rfl,_⟩:=R.sl ic _ e1
 obtain⟨v2,s2,r2,_⟩:=R.sl ik _ e2
 have ev2:=aT r2
 subst ev2
 obtain⟨v3,s3,r3,_⟩:=R.sl ix _ e4
 obtain⟨b,eb,vs,h1,h2,h3,h4,h5⟩:=fQ C.inn e3
 have ha:H a=some (.lst (as.map V.ref)):=R.g.same a _ C.ha C.ra
 have hb:H b=some (.lst vs):=R.g.same b _ h1 h3
 refine⟨_,s1,_,s2,.inl ⟨a,_,_,_,rfl,rfl,.inl (.inl ha),p_ eb,.inl ⟨rfl,vs,.inl (.inl hb)⟩,_,s3,b,vs,_,rfl,rfl,hb,by rw[h5.length];exact hl,?_⟩⟩
 exact ok.nx F₁ _ F _ σ ρ _ (.refl _) (C.moved eb h2 h3 h4 (h5.snoc r3)) (R.moved h1 h2 h3) q
noncomputable def Dg(i jf ic ik:Nat)(Pd:List W->(Hg->Prop)->Prop)(f3:TV):Gg:=fun a Dm xss ρ=>ρ[jf]?=some (some .reel)/\ρ[ic]?=some (some (.vv (.ref a)))/\∃(n:Nat)(xs:List Hg),ρ[ik]?=some (some (.d (.int n)))/\xss[n]?=some xs /\
 f3 ρ fun w=>∃b:Bool,w = .d (.bool b)/\Pd [.reel,.d (.list xs),.d (.bool b)] fun d=>(∃p q:Int,d = .tuple [.int p,.int q])/\Dm.nx xss (ρ.set i (some (.d d)))
theorem AV(i jf ic ik:Nat){f h c k:Str}{pf ph pc pk p1 cpos:Pos}{e3:Expr}{f3:TV}{ps:List Str}{kk:Nat}{Pd:List W->(Hg->Prop)->Prop}(hN:X.N.Nodup)(Dd:Dfn X.prog X.w X.K X.mg X.base rl f ps kk Pd)(hr:Room kk X.A)(h3:PV X rl e3 f3)
 (hi:X.N[i]?=some x:=by rfl)(hx:Loc X.env.scope x:=by first|exact Jy rfl|exact IK rfl)(hf:X.fn x=true\/X.env.scope.names.lookup x=some .local:=by first|exact .inl rfl|exact .inr rfl)
 (hh:X.N[jf]?=some h:=by rfl)(vh:F0 X.env.scope h:=by first|exact Jy rfl|exact IK (Jy rfl)|exact IK (IK rfl))(dh:(h==("__debug__" : Str))=false:=by decide)(eh:(h==("__classdict__" : Str))=false:=by decide)
 (hc:X.N[ic]?=some c:=by rfl)(vc:F0 X.env.scope c:=by first|exact Jy rfl|exact IK (Jy rfl)|exact IK (IK rfl))(dc:(c==("__debug__" : Str))=false:=by decide)(ec:(c==("__classdict__" : Str))=false:=by decide)
 (hk:X.N[ik]?=some k:=by rfl)(vk:F0 X.env.scope k:=by first|exact Jy rfl|exact IK (Jy rfl)|exact IK (IK rfl))(dk:(k==("__debug__" : Str))=false:=by decide)(ek:(k==("__classdict__" : Str))=false:=by decide)
 (hs:iV (.Name k pk):=by exact fun _ _=>rfl)(hg:Gl X f:=by rfl)(hdb:(f==("__debug__" : Str))=false:=by decide)
 (st1:Hy [.Name h ph,.Subscript (.Name c pc) (.Name k pk) p1,e3] X.env=(false,eval (.Name h ph) X.env)::Hy [.Subscript (.Name c pc) (.Name k pk) p1,e3] X.env:=by rfl)
 (st2:Hy [.Subscript (.Name c pc) (.Name k pk) p1,e3] X.env=(false,eval (.Subscript (.Name c pc) (.Name k pk) p1) X.env)::Hy [e3] X.env:=by rfl)(st3:Hy [e3] X.env=(false,eval e3 X.env)::Hy [] X.env:=by rfl)
 (hpl:(Je cpos (Hy [.Subscript (.Name c pc) (.Name k pk) p1,e3] X.env)).any (·.1)=false:=by rfl)
 (hsw:JE (.Call (.Name f pf) [.Name h ph,.Subscript (.Name c pc) (.Name k pk) p1,e3] [] cpos) (some (.Name x px)) pos.line X.env=pure false:=by rfl) :
 GC X rl (.Assign [.Name x px] (.Call (.Name f pf) [.Name h ph,.Subscript (.Name c pc) (.Name k pk) p1,e3] [] cpos) pos) (Dg i jf ic ik Pd f3):=by
 obtain⟨fa,fd,hm,hkp,hb,Fk⟩:=Dd.ex
 obtain⟨t3,p3,k3⟩:=h3
 refine⟨_,fP hN hi hx (j_ Fk hr hg hm hkp hb .nil u_ (dO (cx hh vh dh eh) (dO (u7 pA (cx hc vc dc ec) (cx hk vk dk ek) hs) (dO p3 jk st3) st2) st1) hdb st1 hpl) hsw hf,fun{F₀ H₀ F₁ H₁ F H σ ρ a as xss} C R Dm D ok ⟨e0,e1,n,xs,e2,e3,q⟩=>?_⟩
 obtain⟨v0,s0,⟨r,er,rfl⟩,_⟩:=R.sl jf _ e0
 obtain⟨v1,s1,rfl,_⟩:=R.sl ic _ e1
 obtain⟨v2,s2,r2,_⟩:=R.sl ik _ e2
 have ev2:=aT r2
 subst ev2
 obtain⟨b,eb,vs,h1,h2,h3,h4,h5⟩:=fQ C.inn e3
 have ha:H a=some (.lst (as.map V.ref)):=R.g.same a _ C.ha C.ra
 have hb:H b=some (.lst vs):=R.g.same b _ h1 h3
 refine⟨_,s0,_,s1,_,s2,.inl ⟨a,_,_,_,rfl,rfl,.inl (.inl ha),p_ eb,k3 R _ _ q fun v3 w3 F3 H3 g3 r3 n3 ⟨bb,ew,q3⟩=>?_⟩⟩
 subst ew
 have hb3:H3 b=some (.lst vs):=g3.same b _ hb h3
 have fb3:F3 b=none:=by rw[g3.old b _ hb,R.g.old b _ h1];exact h2
 have nb3:∀d u,F3 d=some u->d≠b:=fun d u z y=>by subst y;rw[fb3]at z;cases z
 have fsm:bH F3 (D9 F3 b (.lst vs)):=fun d u z=>by rw[aq (nb3 d u z)];exact z
 have sub:bH (D9 F3 b (.lst vs)) H3:=fun d u z=>by
  by_cases y:d=b
  · subst y;rw[az]at z;cases z;exact hb3
  · rw[aq y]at z;exact g3.sub d u z
 have ra:Gu rl (D9 F3 b (.lst vs)) H3:=fun r er=>by
  obtain⟨z1,⟨o,z2,z3⟩⟩:=g3.reel r er
  exact⟨by rw[aq (fun y=>h3 (by rw[<- y];exact er))];exact z1,⟨o,z2,z3.mono fsm⟩⟩
 have rb:rl.b.1≠b:=by
  obtain⟨_,⟨o,_,_,_,_,_,z,_⟩⟩:=g3.reel r er
  exact nb3 _ _ z
 refine⟨D9 F3 b (.lst vs),[.reel,.d (.list xs),.d (.bool bb)],sub,ra,.cons ⟨r,er,rfl⟩ (.cons (Rep.lst az (h5.mono (g3.fs.trans fsm))) (.cons (Rep.mono fsm r3) .nil)),rfl,Dd.mono _ _ _ (fun d ⟨⟨p,q,ed⟩,qn⟩ v F4 H4 g4 r4=>?_) q3⟩
 subst ed
 have f4b:F4 b=some (.lst vs):=g4.fs b _ az
 let F5:Hp:=fun d=>if d=b then none else F4 d
 have e5:∀d,d≠b->F5 d=F4 d:=fun d y=>if_neg y
 have e5b:F5 b=none:=if_pos rfl
 have g5:Grow rl F3 H3 F5 H4:=by
  refine⟨g4.same,fun d u z=>?_,fun d u z=>?_,fun d u z=>?_,fun r er=>?_⟩
  · rw[e5 d (nb3 d u z)];exact g4.fs d u (fsm d u z)
  · by_cases y:d=b
    · subst y;rw[e5b]at z;cases z
    · rw[e5 d y]at z;exact g4.sub d u z
  · by_cases y:d=b
    · subst y;rw[e5b,fb3]
    · rw[e5 d y,g4.old d u z,aq y]
  · obtain⟨z1,⟨o,z2,x1,x2,x3,z3,z4,z5⟩⟩:=g4.reel r er
    exact ⟨by by_cases y:r=b
              · subst y;exact e5b
              · rw[e5 r y];exact z1,⟨o,z2,x1,x2,x3,z3,by rw[e5 _ rb];exact z4,z5⟩⟩
 have r5:Rep X.K F5 v (.tuple [.int p,.int q]):=by
  cases r4 with
  | @tup a' us _ sq rs =>
    have ev:=fv (ns:=[p,q]) rs
    subst ev
    refine .tup ?_ (fK [p,q])
    rcases sq with(z|⟨o,z⟩)|z
    · exact .inl (.inl (by rw[e5 _ (fun y=>by subst y;rw[f4b]at z;cases z)];exact z))
    · exact .inl (.inr ⟨o,by rw[e5 _ (fun y=>by subst y;rw[f4b]at z;cases z)];exact z⟩)
    · exact .inr z
 exact ok.nx F₁ H₁ F5 H4 _ _ xss (g3.fs.trans g5.fs) (C.mono (g3.fs.trans g5.fs)) (R.set (g3.trans g5) (w:=.d _) r5 trivial (fun _ z=>by cases z) i) qn
end
theorem VR.here{K:W.Frag}(R:VR K rl F₀ H₀ F H σ ρ)(n:jK ρ):VR K rl F H F H σ ρ:=by
 refine⟨Grow.refl R.sub R.reel,fun i w e=>?_,R.ap,R.np,R.len⟩
 obtain⟨v,h1,h2,_⟩:=R.sl i w e
 have ow:=n i w e
 refine⟨v,h1,h2,?_⟩
 cases w with
 | ml _=>cases ow
 | md _=>cases ow
 | mk _=>cases ow
 | _=>trivial
theorem gG{α β:Type}{R:α->β->Prop}{y:β}:∀{xs:List α},(∀x∈xs,R x y)->I0 R xs (H0 xs.length y)
 | [],_=>.nil
 | x::xs,h=>by rw[Ip,Jg];exact .cons (h x Ht) (gG fun z mz=>h z (Hn _ mz))
section
variable{X:Cx}{rl:RlT}{rest:List Stmt}{u:Gg}{tg iter:Expr}{scope:Scope}{fi:En->(List Hg->Prop)->Prop}
noncomputable def Fg(ic:Nat)(fi:En->(List Hg->Prop)->Prop)(fr:List (Option Nat))(u:Gg):Gf:=fun Dv ρ=>fi ρ fun xs=>jK ρ/\(∀x,Le (dU fr ρ) ((dU fr ρ).set 0 (some (.d x))))/\xs.length<=sizeLine/\∀a,u a ⟨fun _ _=>False,Dv.rt⟩ (H0 xs.length []) (ρ.set ic (some (.vv (.ref a))))
theorem AN(ic:Nat){b:Bool}{lp:Pos}(hN:X.N.Nodup)(N':List Str)(fr:List (Option Nat))(hc:X.calm=true)(hi:GF X rl tg iter fi)
 (hg:∀y,GI (FS X N' scope y) rl tg (rF 0))(hrest:zh X rl rest u)
 (hsw:JE (.ListComp (.List [] lp) [⟨tg,iter,[],0⟩] scope pos) (some (.Name x px)) spos.line X.env=pure b:=by rfl)
 (hix:X.N[ic]?=some x:=by rfl)(hx:Loc X.env.scope x:=by first|exact Jy rfl|exact IK rfl)(hf:X.fn x=true\/X.env.scope.names.lookup x=some .local:=by first|exact .inl rfl|exact .inr rfl)
 (hfr:lE fr N' X.N scope X.env.scope=true:=by rfl)(hsc:mB scope X.env.scope=true:=by rfl)
 (hs:∀x,HX iter X.env x=pure x:=by intro _;rfl):lQ X rl (.Assign [.Name x px] (.ListComp (.List [] lp) [⟨tg,iter,[],0⟩] scope pos) spos::rest) (Fg ic fi fr u):=by
 have ht:∀y,lP (FS X N' scope y) rl [] (fun _ Q=>Q true):=fun _=>bF
 have he:∀y,PV (FS X N' scope y) rl (.List [] lp) (zm sC):=fun _=>cJ ac
 obtain⟨wi,p0,k0⟩:=hi
 obtain⟨T2,p2,k2⟩:=hrest
 refine⟨_,fy (gE N' fr hc p0 hfr hsc (fun y=>(Hs (hg y)).1) (fun y=>(Hs (ht y)).1) (fun y=>(Hs (he y)).1) hN hix hx hf hsw hs) p2,fun{F₀ H₀ F H σ ρ} R Dv D ok q=>k0 R _ _ q fun J xs F1 H1 g1 vi ⟨nm,le,hz,q1⟩=>?_⟩
 intro a hD
 have rne:∀c,H1 c=none->rl.a≠some c:=fun c z e=>by obtain⟨o,y⟩:=g1.reel.live e;rw[z]at y;cases y
 have rD:=rne a hD
 have FD:F1 a=none:=g1.sub.free hD
 have gD:Grow rl F1 H1 F1 (D9 H1 a (.lst [])):=Grow.laid g1.sub g1.reel hD
 have R1:=R.grow g1
 have n0:jK (dU fr ρ):=dD
 refine⟨fun i m acc σc Hc=>m=xs.length-i/\i<=xs.length/\∃Fc as,acc=as.map V.ref/\as.length=i/\as.Nodup/\a∉as/\(∀b∈as,H1 b=none/\Hc b=some (.lst [])/\Fc b=none)/\VR X.K rl F1 H1 Fc Hc σc (dU fr ρ)/\Hc a=some (.lst acc)/\Fc a=none,
  ⟨xs.length,by simp,Ig _,F1,[],rfl,rfl,List.nodup_nil,by simp,by simp,fq R1 gD,az,FD⟩,?_⟩
 rintro z i m acc σc Hc ⟨rfl,hi,Fc,as,rfl,hl,nd,na,hin,Rc,hac,fac⟩
 have sH:bH F1 Hc:=Rc.g.fs.trans Rc.sub
 by_cases hlt:i<xs.length
 · have ei:xs[i]?=some xs[i]:=by simp[hlt]
   refine .inr ⟨vi.go i Hc _ ei sH,fun v H' y=>?_⟩
   obtain⟨Fy,gy,rv⟩:=vi.yld i Hc v H' _ Fc ei Rc.g.fs Rc.sub Rc.reel y
   refine(Hs (hg z)).2 (Rc.grow gy) v _ (fun ρ3=>Le (dU fr ρ) ρ3) _ rv (le _) fun F3 H3 σ3 ρ3 g3 n3 R3 le3=>?_
   refine(Hs (ht z)).2 R3 (fun b=>b=true) _ rfl fun b F4 H4 g4 eb=>?_
   subst eb
   rw[if_pos rfl]
   have R4:=R3.grow g4
   have g34:=(gy.trans g3).trans g4
   refine(Hs (he z)).2 R4 (fun w=>w = .ml []) _ ⟨[],rfl,Ig _,rfl⟩ fun v5 w5 F5 H5 g5 r5 n5 ew=>?_
   subst ew
   obtain⟨b,us,rfl,f5,rb,hb5,rs⟩:=(show gt X.K rl F5 H5 v5 []from r5)
   cases rs
   have hb4:H4 b=none:=n5 b rfl
   have g35:=g34.trans g5
   have hb1:H1 b=none:=(Rc.g.trans g34).freeB hb4
   have ne4:∀c o,Hc c=some o->rl.a≠some c->c≠b:=fun c o e n y=>by have:=g34.same c o e n;rw[y,hb4]at this;cases this
   have nba:a≠b:=ne4 a _ hac rD
   have nb:b∉as:=fun mb=>ne4 b _ (hin b mb).2.1 (rne b hb1) rfl
   refine⟨g35.same a _ hac rD,by rw[Hm];omega,xs.length-(i+1),by omega,rfl,hlt,F5,as++[b],by rw[IJ];rfl,by rw[HD,hl];rfl,?_,?_,fun c mc=>?_,((R4.grow g5).le le3).other n0 hD (by rw[g35.old a _ hac];exact fac) rD,az,by rw[g35.old a _ hac];exact fac⟩
   · refine List.nodup_append.mpr ⟨nd,by simp,fun c mc d md y=>?_⟩
     cases HK.mp md
     exact nb (y▸mc)
   · simp only[HW,HK,not_or]
     exact⟨na,nba⟩
   · rcases HW.mp mc with mc|mc
     · obtain⟨x1,x2,x3⟩:=hin c mc
       have nc:c≠a:=fun y=>na (y▸mc)
       exact⟨x1,by rw[aq nc];exact g35.same c _ x2 (rne c x1),by rw[g35.old c _ x2];exact x3⟩
     · cases HK.mp mc
       exact⟨hb1,by rw[aq nba.symm];exact hb5,f5⟩
 · have e:i=xs.length:=by omega
   subst e
   refine .inl ⟨vi.stop _ Hc (HA _) sH,?_⟩
   have gg:Grow rl F₀ H₀ Fc Hc:=(R.g.trans g1).trans Rc.g
   have Rn:=(R.grow (g1.trans Rc.g)).here nm
   have inn:I0 (G1 X.K rl H₀ Fc Hc Fc) as (H0 xs.length []):=by
    rw[<- hl]
    exact gG fun b mb=>by
     obtain⟨x1,x2,x3⟩:=hin b mb
     exact⟨[],x2,x3,rne b x1,(R.g.trans g1).freeB x1,.nil⟩
   exact k2 ⟨gg,hac,rD,nd,na,inn⟩ (Rn.set (Grow.refl Rn.sub Rn.reel) (w:=.vv (.ref a)) rfl trivial (fun _ y=>by cases y) ic) _ D ⟨fun _ _ _ _ _ _ _ _ _ _ y=>Jw y,ok.rt⟩ (q1 a)
end
theorem vt(h:ρ.all (fun o=>match o with|some w=>!w.own|none=>true)=true):jK ρ:=fun i w e=>by
 have:=JI.mp h _ (JS e)
 simpa using this
noncomputable def mQ(Dm:MEnds)(xss:List (List Hg)):Fl->Prop
 | .nx ρ=>Dm.nx xss ρ
 | .rt w=>Dm.rt w
 | _=>False
theorem oT{Dm:MEnds}(h:Dm.nx xss ρ):ret (Fl.nx ρ) (mQ Dm xss):=h
theorem AR{Dm:MEnds}{w:W}(h:Dm.rt w):ret (Fl.rt w) (mQ Dm xss):=h
theorem cR{t u:Gg}{Dm:MEnds}(h:t a {Dm with nx:=u a Dm} xss ρ):CK t u a Dm xss ρ:=h
theorem yQ{x:Hg}{Q:En->Prop}(h:Q (ρ.set i (some (.d x)))):rF i x ρ Q:=h
theorem oU{g:Gj}{t:Gg}{Dm:MEnds}(h:fi ρ fun ys=>∃J:Nat->List (List Hg)->En->Prop,J 0 xss ρ /\
 (∀i y xss ρ,ys[i]?=some y->J i xss ρ->g y ρ fun ρ2=>t a {Dm with nx:=J (i+1)} xss ρ2)/\∀xss ρ,J ys.length xss ρ->Dm.nx xss ρ):CL fi g t a Dm xss ρ:=h
theorem ln{Dm:MEnds}(h:Dm.nx xss ρ):yE a Dm xss ρ:=h
theorem gK{t:Gf}{Dm:MEnds}(h:mS t ρ (mQ Dm xss)):Ff t a Dm xss ρ:=by
 have e:Ff t a Dm xss ρ=mS t ρ (mQ Dm xss):=rfl
 rw[e];exact h
section
variable{X:Cx}{e1:Expr}{f1:TV}{pos dpos q1 q2 q3 q4 q5 q6 q7:Pos}{j1 j2 j3 j4 j5 j6 j7:Nat}
theorem pJ{j1 j2 j3 j4 j5 j6 j7}(h1:PV X RlT.no e1 f1) :
 ∃ T,GA X [.Return (some (.Dict [some (.Constant (.str "cells") j1 q1),some (.Constant (.str "at") j2 q2),some (.Constant (.str "left") j3 q3),some (.Constant (.str "turn") j6 q6)] [e1,.Constant (.int 0) j4 q4,.Constant (.int 0) j5 q5,.Constant (.int 0) j7 q7] dpos)) pos] T /\
   ∀ {F H:Hp}{σ:St}{ρ:En},VR X.K RlT.no F H F H σ ρ->∀D:Ends,(f1 ρ fun w=>∃ns:List Int,w = .ml (ns.map .int)/\ns.length<=63) ->
     (∀r n' F' H',H r=none->Grow RlT.no F H F' H'->Gu (RlT.at' r n') F' H'->D.rt (.ref r) H')->T D σ H:=by
 obtain⟨g1,pe1,ke1⟩:=h1
 refine⟨_,oE (sN (oM (cL dj pe1 (cL dj lj (cL dj lj (cL dj lj oI)))) rfl rfl (by intro z;cases z) (by show 4<=15;decide))),fun{F H σ ρ} R D q fin=>?_⟩
 intro p hp
 have gp:Grow RlT.no F H F (D9 H p (.dK [])):=Grow.laid R.sub R.reel hp
 refine ke1 (R.grow gp) _ _ q fun v1 w1 F3 H3 g3 r1 n1 qc=>?_
 obtain⟨ns,rfl,hl⟩:=qc
 obtain⟨F4,g4,s4,r4⟩:=dA.fz (w:=.ml (ns.map .int)) g3 r1 n1
 have r4:Rep X.K F4 v1 (.list (ns.map .int)):=r4
 cases r4 with
 | @lst a vs _ hc rs =>
   have ev:=fv rs
   subst ev
   have hp5:H3 p=some (.dK []):=g3.same p _ az (by simp)
   refine⟨hp5,[(kC,.ref a),(kA,.int 0),(kL,.int 0),(kT,.int 0)],rfl,(by show 4<=15;decide),?_⟩
   rw[mJ]
   have f5:F4 p=none:=by rw[g4.old p _ az];exact R.sub.free hp
   have g0:Grow RlT.no F H F4 H3:=gp.trans g4
   refine fin p (a,ns) F4 _ hp ⟨fun b o eb _=>by rw[aq (aU eb hp)];exact g0.same b o eb (by simp),g0.fs,fun b o eb=>?_,g0.old,fun _ z=>by cases z⟩ (fun r er=>?_)
   · have:b≠p:=fun z=>by subst z;rw[f5]at eb;cases eb
     rw[aq this]
     exact g0.sub b o eb
   · cases er
     exact⟨f5,⟨_,az,0,0,0,rfl,hc,hl,by omega,by omega,by omega⟩⟩
end
end L2.VL
namespace L2
abbrev Fv(elt t1 i1:Expr)(f1:List Expr)(t2 i2:Expr)(f2:List Expr)(scope:Scope)(pos:Pos):Expr:=.ListComp elt [⟨t1,i1,f1,0⟩,⟨t2,i2,f2,0⟩] scope pos
theorem uk(elt t1 i1:Expr)(f1:List Expr)(t2 i2:Expr)(f2:List Expr)(scope:Scope)(pos:Pos)(it acc:Hq)(env:Env) :
 Na (Fv elt t1 i1 f1 t2 i2 f2 scope pos) 0 it acc env=(MP i1.pos >>= fun _=>LZ it >>= fun r=>match r with
  | none=>pure (.done .next)
  | some v=>JO t1 it v >>= fun _=>Kz t1 env v >>= fun _=>dL f1 env >>= fun ok=>(if ok=true then
      (eval i2 env >>= fun x=>MP i2.pos >>= fun _=>HX i2 env x >>= fun x=>holding [x] (NB x) >>= fun y=>runOwn (.compStart (Fv elt t1 i1 f1 t2 i2 f2 scope pos) 1 y acc env) env >>= fun _=>again (.compLoop (Fv elt t1 i1 f1 t2 i2 f2 scope pos) 0 it acc env))
      else again (.compLoop (Fv elt t1 i1 f1 t2 i2 f2 scope pos) 0 it acc env))):=by rfl
theorem uj(elt t1 i1:Expr)(f1:List Expr)(t2 i2:Expr)(f2:List Expr)(scope:Scope)(pos:Pos)(it acc:Hq)(env:Env) :
 Na (Fv elt t1 i1 f1 t2 i2 f2 scope pos) 1 it acc env=(MP i2.pos >>= fun _=>LZ it >>= fun r=>match r with
  | none=>pure (.done .next)
  | some v=>JO t2 it v >>= fun _=>Kz t2 env v >>= fun _=>dL f2 env >>= fun ok=>(if ok=true then
      ((eval elt env >>= fun x=>call (.builtin "list.append") [acc,x] >>= fun _=>pure ()) >>= fun _=>again (.compLoop (Fv elt t1 i1 f1 t2 i2 f2 scope pos) 1 it acc env))
      else again (.compLoop (Fv elt t1 i1 f1 t2 i2 f2 scope pos) 1 it acc env))):=by rfl
section
variable{prog:HZ}{w:IL}{A:ID}{R:ND->Hv->Prop}{s:Hv}{elt t1 i1 t2 i2:Expr}{f1 f2:List Expr}{scope:Scope}{pos:Pos}{it acc:Hq}{env:Env}
theorem vF(I:Nat->Hv->Prop)(hs:∀x,HX i2 env x=pure x)
 (turn:∀n s,I n s->HS (Ie prog w) A (LZ it) (fun r s₁=>(r=none/\R (.ok .next) s₁)\/∃v,r=some v /\
  HS (Ie prog w) A (JO t1 it v) (fun _ s₂=>HS (Ie prog w) A (Kz t1 env v) (fun _ s₃=>HS (Ie prog w) A (dL f1 env) (fun ok s₄ =>
   if ok=true then HS (Ie prog w) A (eval i2 env) (fun x s₅=>HS (Ie prog w) A (NB x) (fun y s₆=>JY (Ie prog w) A (.compStart (Fv elt t1 i1 f1 t2 i2 f2 scope pos) 1 y acc env) (fun r s₇=>r = .ok .next/\∃m,m<n/\I m s₇) s₆) (fun _ _=>False) s₅) (fun _ _=>False) s₄
   else ∃m,m<n/\I m s₄) (fun _ _=>False) s₃) (fun _ _=>False) s₂) (fun _ _=>False) s₁) (fun _ _=>False) s)
 (n:Nat)(h:I n s):JY (Ie prog w) A (.compLoop (Fv elt t1 i1 f1 t2 i2 f2 scope pos) 0 it acc env) R s:=by
 refine Mt rfl I (fun n s hI=>?_) n h
 show HS _ A ((Na (Fv elt t1 i1 f1 t2 i2 f2 scope pos) 0 it acc env).onRaise (fun x=>do Nb x env;LD x)) _ _ s
 refine MR ?_
 rw[uk]
 refine Hi (Jt (Hi (Ih (turn n s hI) (fun r s₁ h₁=>?_) fun _ _ h'=>h'.elim)))
 rcases h₁ with⟨rfl,h₁⟩|⟨v,rfl,h₁⟩
 · exact HH h₁
 · refine Hi (Ih h₁ (fun _ s₂ h₂=>Hi (Ih h₂ (fun _ s₃ h₃=>Hi (Ih h₃ (fun ok s₄ h₄=>?_) fun _ _ z=>z.elim)) fun _ _ z=>z.elim)) fun _ _ z=>z.elim)
   cases ok with
   | false=>exact HH ⟨rfl,h₄⟩
   | true =>
     refine Hi (Ih h₄ (fun x s₅ h₅=>Hi (Jt (Hi (NL (hs x) (Hi (KY (Ih h₅ (fun y s₆ h₆=>?_) fun _ _ z=>z.elim))))))) fun _ _ z=>z.elim)
     refine Hi (wpAny_runOwn (LQ h₆ fun r s₇ ⟨hr,h₇⟩=>?_))
     subst hr
     exact HH ⟨rfl,h₇⟩
theorem vE(I:Nat->Hv->Prop)
 (turn:∀n s,I n s->HS (Ie prog w) A (LZ it) (fun r s₁=>(r=none/\R (.ok .next) s₁)\/∃v,r=some v /\
  HS (Ie prog w) A (JO t2 it v) (fun _ s₂=>HS (Ie prog w) A (Kz t2 env v) (fun _ s₃=>HS (Ie prog w) A (dL f2 env) (fun ok s₄ =>
   if ok=true then HS (Ie prog w) A (eval elt env) (fun x s₅=>HS (Ie prog w) A (call (.builtin "list.append") [acc,x]) (fun _ s₆=>∃m,m<n/\I m s₆) (fun _ _=>False) s₅) (fun _ _=>False) s₄
   else ∃m,m<n/\I m s₄) (fun _ _=>False) s₃) (fun _ _=>False) s₂) (fun _ _=>False) s₁) (fun _ _=>False) s)
 (n:Nat)(h:I n s):JY (Ie prog w) A (.compLoop (Fv elt t1 i1 f1 t2 i2 f2 scope pos) 1 it acc env) R s:=by
 refine Mt rfl I (fun n s hI=>?_) n h
 show HS _ A ((Na (Fv elt t1 i1 f1 t2 i2 f2 scope pos) 1 it acc env).onRaise (fun x=>do Nb x env;LD x)) _ _ s
 refine MR ?_
 rw[uj]
 refine Hi (Jt (Hi (Ih (turn n s hI) (fun r s₁ h₁=>?_) fun _ _ h'=>h'.elim)))
 rcases h₁ with⟨rfl,h₁⟩|⟨v,rfl,h₁⟩
 · exact HH h₁
 · refine Hi (Ih h₁ (fun _ s₂ h₂=>Hi (Ih h₂ (fun _ s₃ h₃=>Hi (Ih h₃ (fun ok s₄ h₄=>?_) fun _ _ z=>z.elim)) fun _ _ z=>z.elim)) fun _ _ z=>z.elim)
   cases ok with
   | false=>exact HH ⟨rfl,h₄⟩
   | true=>exact Hi (Hi (Ih h₄ (fun x s₅ h₅=>Hi (Ih h₅ (fun _ s₆ h₆=>HH (HH ⟨rfl,h₆⟩)) fun _ _ z=>z.elim)) fun _ _ z=>z.elim))
theorem qC
 (h0:JY (Ie prog w) A (.compLoop (Fv elt t1 i1 f1 t2 i2 f2 scope pos) 1 it acc env) R s)
 (h:HS (Ie prog w) A (NB it) (fun it' s'=>JY (Ie prog w) A (.compLoop (Fv elt t1 i1 f1 t2 i2 f2 scope pos) 1 it' acc env) R s') (notedBy (Ie prog w) A env fun x s'=>R (.error x) s') s) :
 JY (Ie prog w) A (.compStart (Fv elt t1 i1 f1 t2 i2 f2 scope pos) 1 it acc env) R s:=by
 refine codeAny_of_tree ?_
 show HS _ _ ((compStart (Fv elt t1 i1 f1 t2 i2 f2 scope pos) 1 it acc env).onRaise (fun x=>do Nb x env;MP theWindowsPlace)) _ _ s
 refine wpAny_notedAt ?_
 unfold compStart
 show HS _ _ (ask >>= _) _ _ s
 refine Hi (wpAny_askSetting (wpAny_ite ?_))
 split
 · first
     | exact Hi (HH (HH (Hh rfl h0)))
     | exact HH (Hh rfl h0)
 · first
     | exact Hi (K5 (Hi (Jt (Hi (Ih h (fun it' s' h'=>HH (Hh rfl h')) fun _ _ x=>x)))))
     | (refine Hi (K5 ?_);show HS _ _ (MP i2.pos >>= _) _ _ s;exact Hi (Jt (Hi (Ih h (fun it' s' h'=>HH (Hh rfl h')) fun _ _ x=>x))))
end
noncomputable def Em(wi:TI)(g:TG)(tt:TT)(te:TE)(D:Addr)(acc:List V)(σ:St)(H:Hp)(R:List V->St->Hp->Prop):Prop:=wi σ H fun J H1=>∃Wv:Nat->Nat->List V->St->Hp->Prop,(∃m,Wv 0 m acc σ H1) /\
 ∀ i m acc σc H,Wv i m acc σc H->(J.stop i H/\R acc σc H)\/(J.go i H/\∀x H',J.yld i H x H'->g x σc H' fun σ2 H2=>tt σ2 H2 fun b H3 =>
   if b=true then te σ2 H3 fun y H4=>H4 D=some (.lst acc)/\acc.length<sizeLine/\∃m',m'<m/\Wv (i+1) m' (acc++[y]) σ2 (D9 H4 D (.lst (acc++[y])))else ∃m',m'<m/\Wv (i+1) m' acc σ2 H3)
section
variable{Y:Cx}{elt t1 i1 t2 i2:Expr}{f1 f2:List Expr}{scope:Scope}{pos:Pos}{wi:TI}{g:TG}{tt:TT}{te:TE}{D:Addr}
theorem yP(hc:Y.calm=true)(hx:Y.xe=fun _ _=>False)(hi:PI Y t2 i2 wi)(hg:PG Y t2 g)(ht:Gz Y f2 tt)(he:PE Y elt te){acc:List V}{R:List V->St->Hp->Prop}{Rp:Hv->Prop}
 (I:Inv Y pins σ H s)(q:Em wi g tt te D acc σ H R)(fin:∀acc σ5 H5 s5,Inv Y pins σ5 H5 s5->R acc σ5 H5->Rp s5) :
 HS (Ie Y.prog Y.w) Y.A (eval i2 Y.env) (fun x s₅=>HS (Ie Y.prog Y.w) Y.A (NB x) (fun y s₆=>JY (Ie Y.prog Y.w) Y.A (.compStart (Fv elt t1 i1 f1 t2 i2 f2 scope pos) 1 y (.ref D) Y.env) (fun r s₇=>r = .ok .next/\Rp s₇) s₆) (fun _ _=>False) s₅) (fun _ _=>False) s:=by
 have hi':=hi pins s σ H _ I q
 rw[hx]at hi'
 refine Eh hi' fun v s1 h1=>Eh h1 fun itv s2 h2=>?_
 obtain⟨it,fp,tn,J,H2,e,I2,T,st2,f2',Wv,⟨m0,w0⟩,turn⟩:=h2
 subst e
 have stat:∀{H':Hp},(∀b∈fp,H' b=none)->∀b∈fp,jJ Y pins H' b:=fun hn b hb=>⟨hn b hb,(f2' b hb).2⟩
 have loop:JY (Ie Y.prog Y.w) Y.A (.compLoop (Fv elt t1 i1 f1 t2 i2 f2 scope pos) 1 (.ref it) (.ref D) Y.env) (fun r s₇=>r = .ok .next/\Rp s₇) s2:=by
  refine vE (fun n s'=>∃i acc σ' H',Inv Y pins σ' H' s'/\tn i s'.heap/\(∀b∈fp,H' b=none)/\Wv i n acc σ' H') ?_ m0 ⟨0,acc,σ,H2,I2,st2,fun b hb=>(f2' b hb).1,w0⟩
  rintro n s4 ⟨i,acc,σ4,H4,I4,st4,fr4,w4⟩
  rcases turn i n acc σ4 H4 w4 with⟨stop,qn⟩|⟨go,step⟩
  · exact Eh (T.done Y rfl rfl rfl hc i pins s4 σ4 H4 (fun _ _=>False) I4 (stat fr4) st4 stop) fun r s5 ⟨hr,I5⟩=>.inl ⟨hr,rfl,fin acc σ4 H4 s5 I5 qn⟩
  · refine Eh (T.item Y rfl rfl rfl hc i pins s4 σ4 H4 (fun _ _=>False) I4 (stat fr4) st4 go) fun r s5 ⟨u,hr,h5⟩=>.inr ⟨u,hr,?_⟩
    refine Eh h5 fun _ s6 ⟨x,H6,I6,r6,y6,st6,fr6⟩=>?_
    have I6':=I6.pinned (stat fr6) (T.obj _ _ st6)
    have again:∀{σ7:St}{H7:Hp}{s7:Hv},Inv Y (pins++eT fp s6.heap) σ7 H7 s7->∀{acc':List V}{m':Nat},m'<n->Wv (i+1) m' acc' σ7 H7 ->
     ∃m,m<n/\∃i acc σ' H',Inv Y pins σ' H' s7/\tn i s7.heap/\(∀b∈fp,H' b=none)/\Wv i m acc σ' H':=fun{σ7 H7 s7} I7 {acc' m'} hm w7=>by
     refine⟨m',hm,i+1,acc',σ7,H7,I7.unpinned,T.keep _ _ _ st6 fun b hb o e=>(I7.pin (b,o) (HC _ (HC _ (bA hb e)))).1,fun b hb=>?_,w7⟩
     obtain⟨o,e,d⟩:=T.obj _ _ st6 b hb
     exact(I7.pin (b,o) (HC _ (HC _ (bA hb e)))).2.1
    have h7:=hg _ s6 σ4 H6 x u _ I6' r6 (step x H6 y6)
    rw[hx]at h7
    refine Eh h7 fun _ s7 ⟨σ7,H7,I7,q7⟩=>?_
    have h8:=ht _ s7 σ7 H7 _ I7 q7
    rw[hx]at h8
    refine Eh h8 fun ok s8 ⟨H8,I8,q8⟩=>?_
    cases ok with
    | false =>
      rw[if_neg Ic]at q8 ⊢
      obtain⟨m',hm,w8⟩:=q8
      exact again I8 hm w8
    | true =>
      rw[if_pos rfl]at q8 ⊢
      have h9:=he _ s8 σ7 H8 _ I8 q8
      rw[hx]at h9
      refine Eh h9 fun y s9 ⟨yv,H9,I9,r9,eD,hl,m',hm,w9⟩=>?_
      have h10:=dr (X:=Y) _ s9 σ7 H9 (.ref D) [yv] (.ref D) [y] (fun _ H'=>H'=D9 H9 D (.lst (acc++[yv]))) I9 rfl (.cons r9 .nil) ⟨D,acc,yv,rfl,rfl,eD,hl,rfl⟩
      rw[hx]at h10
      exact Eh h10 fun _ s10 ⟨_,H10,I10,_,e10⟩=>by subst e10;exact again I10 hm w9
 exact qC loop (T.self Y.A 0 _ _ _ st2 loop)
end
noncomputable def nE(wi:TI)(fr:List (Option Nat))(g:CompA->TG)(tt:CompA->TT)(wj:CompA->TI)(g2:CompA->TG)(tt2:CompA->TT)(te:CompA->TE):TE:=fun σ H Q=>wi σ H fun J H1=>∀D,H1 D=none->∃Wv:Nat->Nat->List V->St->Hp->Prop,(∃m,Wv 0 m [] (mR fr σ) (D9 H1 D (.lst []))) /\
 ∀ (z:CompA) i m acc σc H,Wv i m acc σc H->(J.stop i H/\Q (.ref D) H)\/(J.go i H/\∀x H',J.yld i H x H'->g z x σc H' fun σ2 H2=>tt z σ2 H2 fun b H3 =>
   if b=true then Em (wj z) (g2 z) (tt2 z) (te z) D acc σ2 H3 fun acc' σ5 H5=>∃m',m'<m/\Wv (i+1) m' acc' σ5 H5 else ∃m',m'<m/\Wv (i+1) m' acc σ2 H3)
section
variable{Y:Cx}{elt t1 i1 t2 i2:Expr}{f1 f2:List Expr}{scope:Scope}{pos:Pos}{wj:TI}{g g2:TG}{tt tt2:TT}{te:TE}{D:Addr}
theorem sT(hc:Y.calm=true)(hx:Y.xe=fun _ _=>False)(hg:PG Y t1 g)(ht:Gz Y f1 tt)(hj:PI Y t2 i2 wj)(hg2:PG Y t2 g2)(ht2:Gz Y f2 tt2)(he:PE Y elt te)(hs:∀x,HX i2 Y.env x=pure x)
 {J:It}{Q:VK}(T:Turn Y.prog Y.w Y.K t1 J fp it tn)(I:Inv Y [] σ H s)(st0:tn 0 s.heap)(fp0:∀b∈fp,H b=none)(stat:∀{H':Hp},(∀b∈fp,H' b=none)->∀b∈fp,jJ Y [] H' b)
 {Wv:Nat->Nat->List V->St->Hp->Prop}{m0:Nat}(w0:Wv 0 m0 [] σ H)
 (turn:∀i m acc σc H,Wv i m acc σc H->(J.stop i H/\Q (.ref D) H)\/(J.go i H/\∀x H',J.yld i H x H'->g x σc H' fun σ2 H2=>tt σ2 H2 fun b H3 =>
  if b=true then Em wj g2 tt2 te D acc σ2 H3 fun acc' σ5 H5=>∃m',m'<m/\Wv (i+1) m' acc' σ5 H5 else ∃m',m'<m/\Wv (i+1) m' acc σ2 H3)) :
 JY (Ie Y.prog Y.w) Y.A (.compStart (Fv elt t1 i1 f1 t2 i2 f2 scope pos) 0 (.ref it) (.ref D) Y.env) (fun r s5=>r = .ok .next/\∃σ5 H4,Inv Y [] σ5 H4 s5/\Q (.ref D) H4) s:=by
 have loop:JY (Ie Y.prog Y.w) Y.A (.compLoop (Fv elt t1 i1 f1 t2 i2 f2 scope pos) 0 (.ref it) (.ref D) Y.env) (fun r s5=>r = .ok .next/\∃σ5 H4,Inv Y [] σ5 H4 s5/\Q (.ref D) H4) s:=by
  refine vF (fun n s'=>∃i acc σ' H',Inv Y [] σ' H' s'/\tn i s'.heap/\(∀b∈fp,H' b=none)/\Wv i n acc σ' H') hs ?_ m0 ⟨0,[],_,_,I,st0,fp0,w0⟩
  rintro n s4 ⟨i,acc,σ4,H4,I4,st4,fr4,w4⟩
  rcases turn i n acc σ4 H4 w4 with⟨stop,qn⟩|⟨go,step⟩
  · exact Eh (T.done Y rfl rfl rfl hc i [] s4 σ4 H4 (fun _ _=>False) I4 (stat fr4) st4 stop) fun r s5 ⟨hr,I5⟩=>.inl ⟨hr,rfl,σ4,H4,I5,qn⟩
  · refine Eh (T.item Y rfl rfl rfl hc i [] s4 σ4 H4 (fun _ _=>False) I4 (stat fr4) st4 go) fun r s5 ⟨u,hr,h5⟩=>.inr ⟨u,hr,?_⟩
    refine Eh h5 fun _ s6 ⟨x,H6,I6,r6,y6,st6,fr6⟩=>?_
    have I6':=I6.pinned (stat fr6) (T.obj _ _ st6)
    have again:∀{σ7:St}{H7:Hp}{s7:Hv},Inv Y ([]++eT fp s6.heap) σ7 H7 s7->∀{acc':List V}{m':Nat},m'<n->Wv (i+1) m' acc' σ7 H7 ->
     ∃m,m<n/\∃i acc σ' H',Inv Y [] σ' H' s7/\tn i s7.heap/\(∀b∈fp,H' b=none)/\Wv i m acc σ' H':=fun{σ7 H7 s7} I7 {acc' m'} hm w7=>by
     refine⟨m',hm,i+1,acc',σ7,H7,I7.unpinned,T.keep _ _ _ st6 fun b hb o e=>(I7.pin (b,o) (HC _ (HC _ (bA hb e)))).1,fun b hb=>?_,w7⟩
     obtain⟨o,e,d⟩:=T.obj _ _ st6 b hb
     exact(I7.pin (b,o) (HC _ (HC _ (bA hb e)))).2.1
    have h7:=hg _ s6 σ4 H6 x u _ I6' r6 (step x H6 y6)
    rw[hx]at h7
    refine Eh h7 fun _ s7 ⟨σ7,H7,I7,q7⟩=>?_
    have h8:=ht _ s7 σ7 H7 _ I7 q7
    rw[hx]at h8
    refine Eh h8 fun ok s8 ⟨H8,I8,q8⟩=>?_
    cases ok with
    | false =>
      rw[if_neg Ic]at q8 ⊢
      obtain⟨m',hm,w8⟩:=q8
      exact again I8 hm w8
    | true =>
      rw[if_pos rfl]at q8 ⊢
      exact yP hc hx hj hg2 ht2 he I8 q8 fun acc' σ9 H9 s9 I9 ⟨m',hm,w9⟩=>again I9 hm w9
 exact Mi loop (T.self Y.A 0 _ _ _ st0 loop)
end
section
variable{X:Cx}{elt t1 i1 t2 i2:Expr}{f1 f2:List Expr}{scope:Scope}{pos:Pos}{wi:TI}{wj:CompA->TI}{g g2:CompA->TG}{tt tt2:CompA->TT}{te:CompA->TE}
theorem mB.get{scope scX:Scope}(hsc:mB scope scX=true):scope.kind = .function/\(∀y∈scope.names,y.2 = .cell->scope.names.lookup y.1=some .cell)/\(∀y∈scope.names,y.2 = .local->scope.names.lookup y.1=some .local) /\
 ∀y∈scope.names,y.2 = .free->scX.names.lookup y.1=some .cell\/scX.names.lookup y.1=some .free:=by
 obtain⟨sk,sn⟩:=Hw.mp hsc
 have hall:=JI.mp sn
 refine⟨of_decide_eq_true sk,fun y hy hl=>?_,fun y hy hl=>?_,fun y hy hl=>?_⟩
 · rcases HP.mp (Hw.mp (Hw.mp (hall y hy)).1).1 with z|z
   · exact absurd hl (of_decide_eq_true z)
   · exact of_decide_eq_true z
 · rcases HP.mp (Hw.mp (Hw.mp (hall y hy)).1).2 with z|z
   · exact absurd hl (of_decide_eq_true z)
   · exact of_decide_eq_true z
 · rcases HP.mp (Hw.mp (hall y hy)).2 with z|z
   · exact absurd hl (of_decide_eq_true z)
   · exact(HP.mp z).imp of_decide_eq_true of_decide_eq_true
theorem ji(N':List Str)(fr:List (Option Nat))(hc:X.calm=true)(hi:PI X t1 i1 wi)(hfr:lE fr N' X.N scope X.env.scope=true)(hsc:mB scope X.env.scope=true)
 (hg:∀y,PG (FS X N' scope y) t1 (g y))(ht:∀y,Gz (FS X N' scope y) f1 (tt y))(hj:∀y,PI (FS X N' scope y) t2 i2 (wj y))(hg2:∀y,PG (FS X N' scope y) t2 (g2 y))(ht2:∀y,Gz (FS X N' scope y) f2 (tt2 y))(he:∀y,PE (FS X N' scope y) elt (te y))
 (hs:∀x,HX i1 X.env x=pure x:=by intro _;rfl)(hs2:∀y x,HX i2 (FS X N' scope y).env x=pure x:=by intro _ _;rfl):PE X (Fv elt t1 i1 f1 t2 i2 f2 scope pos) (nE wi fr g tt wj g2 tt2 te):=by
 intro pins s σ H Q I h
 obtain⟨hkind,hcell,hnames,hfree⟩:=mB.get hsc
 obtain⟨frl,frg⟩:=lE.get hfr
 obtain⟨cl,hclos,cl1,cl2⟩:=ca (env:=X.env) (scope:=scope) fun y hy hl=>I.ok.has y.1 (hfree y hy hl)
 rw[eval_ListComp]
 refine Jz (use:=none) rfl hs hclos hkind hnames (Eh (hi pins s σ H _ I h) fun v s1 h1=>Eh h1 fun itv s2 h2=>?_)
 obtain⟨it,fp,tn,J,H2,e,I2,T,st2,f2,q2⟩:=h2
 subst e
 refine Jx ?_
 have hD:H2 s2.heap.objs.size=none:=I2.hok.fresh (HA _)
 have I3:Inv X pins σ (D9 H2 s2.heap.objs.size (.lst [])) {s2 with heap:=s2.heap.push {cls:=.type "list", data:=.seq ([]:List Hq).toArray}} :=
  I2.laid (t':=s2.toks) (fun b u e=>Hl _ e) (HA _) ⟨by show 0<=sizeLine;exact Ig _,[],0,.nil,HI _ rfl⟩
 obtain⟨Wv,⟨m0,w0⟩,turn⟩:=q2 _ hD
 have tn3:tn 0 (s2.heap.push {cls:=.type "list", data:=.seq ([]:List Hq).toArray}):=T.keep _ _ _ st2 fun b _ o e=>Hl _ e
 have fpD:∀b∈fp,(D9 H2 s2.heap.objs.size (.lst [])) b=none:=fun b hb=>by
  obtain⟨o,e,_⟩:=T.obj _ _ st2 b hb
  rw[aq (Is (HE e))]
  exact(f2 b hb).1
 have fp3:∀b∈fp,b<(s2.heap.push {cls:=.type "list", data:=.seq ([]:List Hq).toArray}).objs.size:=fun b hb=>by
  obtain⟨o,e,_⟩:=T.obj _ _ tn3 b hb
  exact HE e
 exact cW N' fr hc hkind hcell hfree frl frg cl1 cl2 I3 T tn3 fpD fp3 (fun b hb=>(f2 b hb).2)
  (fun s' IY tY stat=>sT (Y:=FS X N' scope ⟨cl,fp,X.pn++pins,_,_⟩) hc rfl (hg ⟨cl,fp,X.pn++pins,_,_⟩) (ht ⟨cl,fp,X.pn++pins,_,_⟩) (hj ⟨cl,fp,X.pn++pins,_,_⟩) (hg2 ⟨cl,fp,X.pn++pins,_,_⟩) (ht2 ⟨cl,fp,X.pn++pins,_,_⟩) (he ⟨cl,fp,X.pn++pins,_,_⟩) (hs2 ⟨cl,fp,X.pn++pins,_,_⟩) T IY tY fpD stat w0 (turn ⟨cl,fp,X.pn++pins,_,_⟩))
  (Rp:=Nc (Ie X.prog X.w) X.A X.xe none (EP X pins σ Q) (.ref s2.heap.objs.size)) fun s5 H4 m hn k _ qn=>⟨m,hn,fun h' hs'=>⟨.ref _,H4,k h' hs',rfl,qn⟩⟩
theorem jZ{b:Bool}{ix:Nat}(N':List Str)(fr:List (Option Nat))(hc:X.calm=true)(hi:PI X t1 i1 wi)(hfr:lE fr N' X.N scope X.env.scope=true)(hsc:mB scope X.env.scope=true)
 (hg:∀y,PG (FS X N' scope y) t1 (g y))(ht:∀y,Gz (FS X N' scope y) f1 (tt y))(hj:∀y,PI (FS X N' scope y) t2 i2 (wj y))(hg2:∀y,PG (FS X N' scope y) t2 (g2 y))(ht2:∀y,Gz (FS X N' scope y) f2 (tt2 y))(he:∀y,PE (FS X N' scope y) elt (te y))
 (hN:X.N.Nodup)(hix:X.N[ix]?=some x)(hx:Loc X.env.scope x)(hf:X.fn x=true\/X.env.scope.names.lookup x=some .local)(hsw:JE (Fv elt t1 i1 f1 t2 i2 f2 scope pos) (some (.Name x px)) spos.line X.env=pure b)
 (hs:∀x,HX i1 X.env x=pure x)(hs2:∀y x,HX i2 (FS X N' scope y).env x=pure x):PS X (.Assign [.Name x px] (Fv elt t1 i1 f1 t2 i2 f2 scope pos) spos) (xq (nE wi fr g tt wj g2 tt2 te) (iG ix)):=by
 cases b with
 | false=>exact fP hN hix hx (ji N' fr hc hi hfr hsc hg ht hj hg2 ht2 he hs hs2) hsw hf
 | true =>
 intro pins s σ H DD I h
 obtain⟨hkind,hcell,hnames,hfree⟩:=mB.get hsc
 obtain⟨frl,frg⟩:=lE.get hfr
 obtain⟨cl,hclos,cl1,cl2⟩:=ca (env:=X.env) (scope:=scope) fun y hy hl=>I.ok.has y.1 (hfree y hy hl)
 rw[Li _ _ _ _ hsw]
 refine Hi (Jt (Hi ?_))
 show HS _ X.A (do let _ <- Nd (Fv elt t1 i1 f1 t2 i2 f2 scope pos) scope X.env _ (newList []) false (eval i1 X.env) (some (Kz (.Name x px) X.env))) _ _ s
 refine Hi (Ih (Jz (use:=some (Kz (.Name x px) X.env)) (Q:=fun _ s'=>SP X pins DD .next s') rfl hs hclos hkind hnames
  (Eh (hi pins s σ H _ I h) fun v s1 h1=>Eh h1 fun itv s2 h2=>?_)) (fun _ s' hq=>HH (HH hq)) fun _ _ e=>e)
 obtain⟨it,fp,tn,J,H2,e,I2,T,st2,f2,q2⟩:=h2
 subst e
 refine Jx ?_
 have hD:H2 s2.heap.objs.size=none:=I2.hok.fresh (HA _)
 have I3:Inv X pins σ (D9 H2 s2.heap.objs.size (.lst [])) {s2 with heap:=s2.heap.push {cls:=.type "list", data:=.seq ([]:List Hq).toArray}} :=
  I2.laid (t':=s2.toks) (fun b u e=>Hl _ e) (HA _) ⟨by show 0<=sizeLine;exact Ig _,[],0,.nil,HI _ rfl⟩
 obtain⟨Wv,⟨m0,w0⟩,turn⟩:=q2 _ hD
 have tn3:tn 0 (s2.heap.push {cls:=.type "list", data:=.seq ([]:List Hq).toArray}):=T.keep _ _ _ st2 fun b _ o e=>Hl _ e
 have fpD:∀b∈fp,(D9 H2 s2.heap.objs.size (.lst [])) b=none:=fun b hb=>by
  obtain⟨o,e,_⟩:=T.obj _ _ st2 b hb
  rw[aq (Is (HE e))]
  exact(f2 b hb).1
 have fp3:∀b∈fp,b<(s2.heap.push {cls:=.type "list", data:=.seq ([]:List Hq).toArray}).objs.size:=fun b hb=>by
  obtain⟨o,e,_⟩:=T.obj _ _ tn3 b hb
  exact HE e
 refine cW (Q:=fun v H1=>iG ix v σ H1 DD.nx) N' fr hc hkind hcell hfree frl frg cl1 cl2 I3 T tn3 fpD fp3 (fun b hb=>(f2 b hb).2)
  (fun s' IY tY stat=>sT (Y:=FS X N' scope ⟨cl,fp,X.pn++pins,_,_⟩) (Q:=fun v H1=>iG ix v σ H1 DD.nx) hc rfl (hg ⟨cl,fp,X.pn++pins,_,_⟩) (ht ⟨cl,fp,X.pn++pins,_,_⟩) (hj ⟨cl,fp,X.pn++pins,_,_⟩) (hg2 ⟨cl,fp,X.pn++pins,_,_⟩) (ht2 ⟨cl,fp,X.pn++pins,_,_⟩) (he ⟨cl,fp,X.pn++pins,_,_⟩) (hs2 ⟨cl,fp,X.pn++pins,_,_⟩) T IY tY fpD stat w0 (turn ⟨cl,fp,X.pn++pins,_,_⟩))
  (Rp:=Nc (Ie X.prog X.w) X.A X.xe (some (Kz (.Name x px) X.env)) (fun _ s'=>SP X pins DD .next s') (.ref s2.heap.objs.size)) fun s5 H4 m hn k fpo qn=>?_
 show HS _ X.A (Kz (.Name x px) X.env (.ref s2.heap.objs.size)) _ _ s5
 have I5:Inv X pins σ H4 s5:=k s5.heap (L1 _ _)
 obtain⟨f0,f1,f2',f3,f4,f5⟩:=fpo
 refine K4 (dW I5 hN hix hx (v:=.ref s2.heap.objs.size) rfl (fun s6 I6 sb=>?_) hf)
 obtain⟨a,sb,ha⟩:=sb
 have hne:(s2.heap.push {cls:=.type "list", data:=.seq ([]:List Hq).toArray}).objs.size≠a:=by
  rcases ha with rfl|ha
  · exact f1
  · exact fun z=>f4 x a ha z.symm
 refine⟨m,hn.at' fun o e=>sb.extBut _ o hne e,fun h' hs'=>?_⟩
 exact⟨_,H4,I6.turned (t':=s6.toks) (fun b o hb e=>hs'.extBut b o hb e) f0 f1 f3 f4 f5,qn⟩
end
end L2
namespace L2.VL
noncomputable def qw(ρ0:En)(g:Gj)(ft:TB)(fj:En->(List Hg->Prop)->Prop)(g2:Gj)(ft2:TB)(fe:TV):List Hg->List Hg->(List Hg->Prop)->Prop
 | [],acc,Q=>Q acc
 | x::xs,acc,Q=>g x ρ0 fun ρ2=>Le ρ0 ρ2/\ft ρ2 fun b=>if b=true then fj ρ2 fun ys=>nq ρ2 g2 ft2 fe ys acc fun acc'=>qw ρ0 g ft fj g2 ft2 fe xs acc' Q else qw ρ0 g ft fj g2 ft2 fe xs acc Q
noncomputable def k_(fi:En->(List Hg->Prop)->Prop)(fr:List (Option Nat))(g:Gj)(ft:TB)(fj:En->(List Hg->Prop)->Prop)(g2:Gj)(ft2:TB)(fe:TV):TV:=fun ρ Q=>fi ρ fun xs=>qw (dU fr ρ) g ft fj g2 ft2 fe xs [] fun ds=>Q (.ml ds)
section
variable{X:Cx}{rl:RlT}{elt t1 i1 t2 i2:Expr}{f1 f2:List Expr}{scope:Scope}{pos:Pos}{fi fj:En->(List Hg->Prop)->Prop}{g g2:Gj}{ft ft2:TB}{fe:TV}
theorem ly{N':List Str}{wi:TI}(fr:List (Option Nat))(k0:∀{F₀ H₀ F H:Hp}{σ:St}{ρ:En},VR X.K rl F₀ H₀ F H σ ρ->∀(Qd:List Hg->Prop)(R:It->Hp->Prop),fi ρ Qd ->
 (∀J xs F' H',Grow rl F H F' H'->VIt X.K rl F' J xs->Qd xs->R J H')->wi σ H R)
 (hg:∀y,GI (FS X N' scope y) rl t1 g)(ht:∀y,lP (FS X N' scope y) rl f1 ft)(hj:∀y,GF (FS X N' scope y) rl t2 i2 fj)(hg2:∀y,GI (FS X N' scope y) rl t2 g2)(ht2:∀y,lP (FS X N' scope y) rl f2 ft2)(he:∀y,PV (FS X N' scope y) rl elt fe)
 (R:VR X.K rl F₀ H₀ F H σ ρ)(Qd:W->Prop)(Q:VK)(q:k_ fi fr g ft fj g2 ft2 fe ρ Qd)
 (k:∀v w F' H',Grow rl F H F' H'->dA X.K rl F' H' v w->dS H v w->Qd w->Q v H') :
 nE wi fr (fun y=>IM (hg y)) (fun y=>IM (ht y)) (fun y=>IM (hj y)) (fun y=>IM (hg2 y)) (fun y=>IM (ht2 y)) (fun y=>IM (he y)) σ H Q:=by
 refine k0 R _ _ q fun J xs F1 H1 g1 vi q1=>?_
 intro D hD
 have rD:rl.a≠some D:=fun e=>by obtain⟨o,z⟩:=g1.reel.live e;rw[hD]at z;cases z
 have FD:F1 D=none:=g1.sub.free hD
 have gD:Grow rl F1 H1 F1 (D9 H1 D (.lst [])):=Grow.laid g1.sub g1.reel hD
 have R1:=R.grow g1
 have n0:jK (dU fr ρ):=dD
 have keepD:∀{acc:List V}{Fc Hc Fx Hx:Hp},Hc D=some (.lst acc)->Fc D=none->Grow rl Fc Hc Fx Hx->Hx D=some (.lst acc)/\Fx D=none:=fun hDc fDc gx=>⟨gx.same D _ hDc rD,by rw[gx.old D _ hDc];exact fDc⟩
 refine⟨fun i m acc σc Hc=>m=xs.length-i/\i<=xs.length/\∃Fc ds,VR X.K rl F1 H1 Fc Hc σc (dU fr ρ)/\Hc D=some (.lst acc)/\Fc D=none/\Reps X.K Fc acc ds/\qw (dU fr ρ) g ft fj g2 ft2 fe (xs.drop i) ds (fun ds=>Qd (.ml ds)),
  ⟨xs.length,by simp,Ig _,F1,[],fq R1 gD,az,FD,.nil,by simpa using q1⟩,?_⟩
 rintro z i m acc σc Hc ⟨rfl,hi,Fc,ds,Rc,hDc,fDc,rs,q2⟩
 have sH:bH F1 Hc:=Rc.g.fs.trans Rc.sub
 by_cases hlt:i<xs.length
 · have ei:xs[i]?=some xs[i]:=by simp[hlt]
   have ed:xs.drop i=xs[i]::xs.drop (i+1):=IZ hlt
   rw[ed]at q2
   refine .inr ⟨vi.go i Hc _ ei sH,fun v H' y=>?_⟩
   obtain⟨Fy,gy,rv⟩:=vi.yld i Hc v H' _ Fc ei Rc.g.fs Rc.sub Rc.reel y
   refine(Hs (hg z)).2 (Rc.grow gy) v _ _ _ rv q2 fun F3 H3 σ3 ρ3 g3 n3 R3 ⟨le3,q3⟩=>?_
   refine(Hs (ht z)).2 R3 _ _ q3 fun b F4 H4 g4 q4=>?_
   have R4:=R3.grow g4
   have g34:=(gy.trans g3).trans g4
   have nm3:jK ρ3:=n3 n0
   cases b with
   | false=>exact⟨xs.length-(i+1),by omega,rfl,hlt,F4,ds,R4.le le3,(keepD hDc fDc g34).1,(keepD hDc fDc g34).2,rs.mono g34.fs,q4⟩
   | true =>
     refine(Hs (hj z)).2 R4 _ _ q4 fun J2 ys F5 H5 g5 vi2 q5=>?_
     have g35:=g34.trans g5
     refine⟨fun j m acc σe He=>m=ys.length-j/\j<=ys.length/\∃Fe es,VR X.K rl F1 H1 Fe He σe ρ3/\bH F5 Fe/\He D=some (.lst acc)/\Fe D=none/\Reps X.K Fe acc es /\
      nq ρ3 g2 ft2 fe (ys.drop j) es (fun es=>qw (dU fr ρ) g ft fj g2 ft2 fe (xs.drop (i+1)) es (fun ds=>Qd (.ml ds))),
      ⟨ys.length,by simp,Ig _,F5,ds,R4.grow g5,.refl _,(keepD hDc fDc g35).1,(keepD hDc fDc g35).2,rs.mono g35.fs,by simpa using q5⟩,?_⟩
     rintro j m acc2 σe He ⟨rfl,hj',Fe,es,Re,s5,hDe,fDe,res,q6⟩
     have sHe:bH F5 He:=s5.trans Re.sub
     by_cases hlt2:j<ys.length
     · have ej:ys[j]?=some ys[j]:=by simp[hlt2]
       have edj:ys.drop j=ys[j]::ys.drop (j+1):=IZ hlt2
       rw[edj]at q6
       refine .inr ⟨vi2.go j He _ ej sHe,fun v2 H2' y2=>?_⟩
       obtain⟨Fy2,gy2,rv2⟩:=vi2.yld j He v2 H2' _ Fe ej s5 Re.sub Re.reel y2
       refine(Hs (hg2 z)).2 (Re.grow gy2) v2 _ _ _ rv2 q6 fun F7 H7 σ7 ρ7 g7 n7 R7 ⟨le7,q7⟩=>?_
       refine(Hs (ht2 z)).2 R7 _ _ q7 fun b2 F8 H8 g8 q8=>?_
       have R8:=R7.grow g8
       have g78:=(gy2.trans g7).trans g8
       cases b2 with
       | false=>exact⟨ys.length-(j+1),by omega,rfl,hlt2,F8,es,R8.le le7,s5.trans g78.fs,(keepD hDe fDe g78).1,(keepD hDe fDe g78).2,res.mono g78.fs,q8⟩
       | true =>
         refine(Hs (he z)).2 R8 _ _ q8 fun v9 w9 F9 H9 g9 r9 n9 ⟨d,ed9,hl,q9⟩=>?_
         obtain⟨F10,g10,s10,r10⟩:=dA.fz g9 r9 n9
         rw[ed9]at r10
         have g710:=g78.trans g10
         refine⟨(keepD hDe fDe g710).1,by rw[res.length];exact hl,ys.length-(j+1),by omega,rfl,hlt2,F10,es++[d],((R8.grow g10).le le7).other nm3 hD (keepD hDe fDe g710).2 rD,s5.trans g710.fs,az,(keepD hDe fDe g710).2,(res.mono g710.fs).snoc r10,q9⟩
     · have e:j=ys.length:=by omega
       subst e
       rw[Ki]at q6
       exact .inl ⟨vi2.stop _ He (HA _) sHe,xs.length-(i+1),by omega,rfl,hlt,Fe,es,Re.le le3,hDe,fDe,res,q6⟩
 · have e:i=xs.length:=by omega
   subst e
   rw[Ki]at q2
   refine .inl ⟨vi.stop _ Hc (HA _) sH,k _ (.ml ds) Fc Hc (g1.trans Rc.g) ⟨D,acc,rfl,fDc,rD,hDc,rs⟩ (fun a ea=>by cases ea;exact g1.freeB hD) q2⟩
theorem qt(N':List Str)(fr:List (Option Nat))(hc:X.calm=true)(hi:GF X rl t1 i1 fi)
 (hg:∀y,GI (FS X N' scope y) rl t1 g)(ht:∀y,lP (FS X N' scope y) rl f1 ft)(hj:∀y,GF (FS X N' scope y) rl t2 i2 fj)(hg2:∀y,GI (FS X N' scope y) rl t2 g2)(ht2:∀y,lP (FS X N' scope y) rl f2 ft2)(he:∀y,PV (FS X N' scope y) rl elt fe)
 (hfr:lE fr N' X.N scope X.env.scope=true:=by rfl)(hsc:mB scope X.env.scope=true:=by rfl)
 (hs:∀x,HX i1 X.env x=pure x:=by intro _;rfl)(hs2:∀y x,HX i2 (FS X N' scope y).env x=pure x:=by intro _ _;rfl):PV X rl (.ListComp elt [⟨t1,i1,f1,0⟩,⟨t2,i2,f2,0⟩] scope pos) (k_ fi fr g ft fj g2 ft2 fe):=by
 obtain⟨wi,p0,k0⟩:=hi
 exact⟨_,ji N' fr hc p0 hfr hsc (fun y=>(Hs (hg y)).1) (fun y=>(Hs (ht y)).1) (fun y=>(Hs (hj y)).1) (fun y=>(Hs (hg2 y)).1) (fun y=>(Hs (ht2 y)).1) (fun y=>(Hs (he y)).1) hs hs2,
  fun R Qd Q q k=>ly fr k0 hg ht hj hg2 ht2 he R Qd Q q k⟩
theorem fD(i:Nat){b:Bool}(hN:X.N.Nodup)(N':List Str)(fr:List (Option Nat))(hc:X.calm=true)(hi:GF X rl t1 i1 fi)
 (hg:∀y,GI (FS X N' scope y) rl t1 g)(ht:∀y,lP (FS X N' scope y) rl f1 ft)(hj:∀y,GF (FS X N' scope y) rl t2 i2 fj)(hg2:∀y,GI (FS X N' scope y) rl t2 g2)(ht2:∀y,lP (FS X N' scope y) rl f2 ft2)(he:∀y,PV (FS X N' scope y) rl elt fe)
 (hsw:JE (.ListComp elt [⟨t1,i1,f1,0⟩,⟨t2,i2,f2,0⟩] scope pos) (some (.Name x px)) spos.line X.env=pure b:=by rfl)
 (hix:X.N[i]?=some x:=by rfl)(hx:Loc X.env.scope x:=by first|exact Jy rfl|exact IK rfl)(hf:X.fn x=true\/X.env.scope.names.lookup x=some .local:=by first|exact .inl rfl|exact .inr rfl)
 (hfr:lE fr N' X.N scope X.env.scope=true:=by rfl)(hsc:mB scope X.env.scope=true:=by rfl)
 (hs:∀x,HX i1 X.env x=pure x:=by intro _;rfl)(hs2:∀y x,HX i2 (FS X N' scope y).env x=pure x:=by intro _ _;rfl) :
 GB X rl (.Assign [.Name x px] (.ListComp elt [⟨t1,i1,f1,0⟩,⟨t2,i2,f2,0⟩] scope pos) spos) (qv i (k_ fi fr g ft fj g2 ft2 fe)):=by
 obtain⟨wi,p0,k0⟩:=hi
 refine⟨_,jZ N' fr hc p0 hfr hsc (fun y=>(Hs (hg y)).1) (fun y=>(Hs (ht y)).1) (fun y=>(Hs (hj y)).1) (fun y=>(Hs (hg2 y)).1) (fun y=>(Hs (ht2 y)).1) (fun y=>(Hs (he y)).1) hN hix hx hf hsw hs hs2,
  fun R Dv D ok q=>ly fr k0 hg ht hj hg2 ht2 he R _ _ q fun v w F1 H1 g1 r1 n1 ⟨d,ed,q1⟩=>?_⟩
 obtain⟨F2,g2,s2,r2⟩:=dA.fz g1 r1 n1
 rw[ed]at r2
 exact ok.nx _ _ _ _ g2.fs (R.set g2 r2 trivial (fun xs z=>by cases z) i) q1
end
noncomputable def pB(ρ0:En)(g:Gj)(ft:TB)(fj:En->(List Hg->Prop)->Prop)(g2:Gj)(ft2:TB)(fe:TV)(x:Hg)(acc:List Hg):Mo (List Hg) :=
 FR (g x ρ0) fun ρ2=>FI (Le ρ0 ρ2) (FR (ft ρ2) fun b=>if b=true then FR (fj ρ2) fun ys=>bQ (FA ρ2 g2 ft2 fe) ys acc else ret acc)
noncomputable def eC(b:Hg->List Hg->Mo (List Hg)):List Hg->List Hg->Mo (List Hg)
 | [],acc=>ret acc
 | x::xs,acc=>FR (b x acc) (eC b xs)
theorem lH(ρ0:En)(g:Gj)(ft:TB)(fj:En->(List Hg->Prop)->Prop)(g2:Gj)(ft2:TB)(fe:TV):∀(xs acc:List Hg),qw ρ0 g ft fj g2 ft2 fe xs acc=eC (pB ρ0 g ft fj g2 ft2 fe) xs acc
 | [],acc=>rfl
 | x::xs,acc=>by
   refine ak fun Q=>?_
   show(g x ρ0 fun ρ2=>Le ρ0 ρ2/\ft ρ2 fun b=>if b=true then fj ρ2 fun ys=>nq ρ2 g2 ft2 fe ys acc fun acc'=>qw ρ0 g ft fj g2 ft2 fe xs acc' Q else qw ρ0 g ft fj g2 ft2 fe xs acc Q)↔(FR (pB ρ0 g ft fj g2 ft2 fe x acc) (eC (pB ρ0 g ft fj g2 ft2 fe) xs)) Q
   simp only[lH ρ0 g ft fj g2 ft2 fe xs,kI]
   have:∀(ρ2:En)(b:Bool),(if b=true then fj ρ2 fun ys=>bQ (FA ρ2 g2 ft2 fe) ys acc fun acc'=>eC (pB ρ0 g ft fj g2 ft2 fe) xs acc' Q else eC (pB ρ0 g ft fj g2 ft2 fe) xs acc Q)
    = (FR (if b=true then FR (fj ρ2) fun ys=>bQ (FA ρ2 g2 ft2 fe) ys acc else ret acc) (eC (pB ρ0 g ft fj g2 ft2 fe) xs)) Q:=by
    intro ρ2 b
    cases b<;>rfl
   simp only[this]
   exact K8
theorem m_comp2(fi:En->(List Hg->Prop)->Prop)(fr:List (Option Nat))(g:Gj)(ft:TB)(fj:En->(List Hg->Prop)->Prop)(g2:Gj)(ft2:TB)(fe:TV)(ρ:En) :
 k_ fi fr g ft fj g2 ft2 fe ρ=FR (fi ρ) fun xs=>FR (eC (pB (dU fr ρ) g ft fj g2 ft2 fe) xs []) fun ds=>ret (.ml ds):=by
 refine ak fun Q=>?_
 show(fi ρ fun xs=>qw (dU fr ρ) g ft fj g2 ft2 fe xs [] fun ds=>Q (.ml ds))↔_
 simp only[lH]
 exact K8
section
variable{α β:Type}{b:Hg->Mo (Option Hg)}
theorem kJ{c:Hg->List Hg->Mo (List Hg)}{xs:List α}{enc:α->Hg}(F:α->List Hg)(h:∀x∈xs,∀acc:List Hg,acc.length+(F x).length<=sizeLine->c (enc x) acc=ret (acc++F x)) :
 ∀acc:List Hg,acc.length+(xs.flatMap F).length<=sizeLine->eC c (xs.map enc) acc=ret (acc++xs.flatMap F):=by
 induction xs with
 | nil=>intro acc _;show ret acc=_;simp
 | cons x xs ih =>
   intro acc hl
   rw[JA,HD]at hl
   show FR (c (enc x) acc) _=_
   rw[h x Ht acc (by omega),bnd_ret,ih (fun y my=>h y (Hn _ my)) (acc++F x) (by rw[HD];omega),JA,Kw]
theorem se{γ:Type}{c:Hg->List Hg->Mo (List Hg)}{k:List Hg->Mo γ}{Q:γ->Prop}{xs:List α}{enc:α->Hg}(F:α->List Hg)(hx:xs'=xs.map enc)
 (h:∀x∈xs,∀acc:List Hg,acc.length+(F x).length<=sizeLine->c (enc x) acc=ret (acc++F x))(hl:(xs.flatMap F).length<=sizeLine)(fin:k (xs.flatMap F) Q):FR (eC c xs' []) k Q:=by
 subst hx
 rw[kJ F h [] (by simpa using hl),bnd_ret]
 simpa using fin
end
noncomputable def Hf:=Hh @m_comp2 (@bnd_ret)
noncomputable def fr(q:Rat):Hg:=.tuple [.int q.num,.int q.den]
theorem gM(h:fr q=fr r):q=r:=by
 simp only[fr,Jc,Ji,Mc,and_true]at h
 exact Rat.ext h.1 (by omega)
theorem d_(n:Int)(d:Nat)(h:d≠0):wq n d=fr (L_ n d h):=by
 unfold wq fr
 rw[Rat.normalize_eq]
 have g:(Jv n d:Int)=((n.natAbs.gcd d:Nat):Int):=by simp[Jv]
 have gp:0<n.natAbs.gcd d:=Nat.gcd_pos_of_pos_right _ (by omega)
 have e1:n.fdiv (Jv n d)=n / ((n.natAbs.gcd d:Nat):Int):=by rw[g,J3 _ (by omega)]
 have e2:(d:Int).fdiv (Jv n d)=((d / n.natAbs.gcd d:Nat):Int):=by rw[g,J3 _ (by omega),Int.natCast_ediv]
 rw[e1,e2]
theorem fT{a b:Int}(hb:0<b):wq a b=fr ((a:Rat) / (b:Rat)):=by
 obtain⟨d,rfl⟩:=Kf (show 0<=b by omega)
 rw[d_ a d (by omega)]
 congr 1
 have:(L_ a d (by omega))=mkRat a d:=by rw[Rat.normalize_eq_mkRat]
 rw[this,Rat.mkRat_eq_div]
 rfl
theorem yY(q r:Rat):wq (q.num*r.den+r.num*q.den) (q.den*r.den)=fr (q+r):=by
 have:=d_ (q.num*r.den+r.num*q.den) (q.den*r.den) (Mx q.den_nz r.den_nz)
 rw[My]at this
 rw[this,Rat.add_def]
theorem yV(q r:Rat):wq (q.num*r.den-r.num*q.den) (q.den*r.den)=fr (q-r):=by
 have:=d_ (q.num*r.den-r.num*q.den) (q.den*r.den) (Mx q.den_nz r.den_nz)
 rw[My]at this
 rw[this,Rat.sub_def]
theorem yW(q r:Rat):wq (q.num*r.num) (q.den*r.den)=fr (q*r):=by
 have:=d_ (q.num*r.num) (q.den*r.den) (Mx q.den_nz r.den_nz)
 rw[My]at this
 rw[this,Rat.mul_def]
theorem Bc(q r:Rat):decide (q.num*r.den<r.num*q.den)=decide (q<r):=by
 rw[decide_eq_decide]
 exact(Rat.lt_iff q r).symm
noncomputable def EQ(n:Nat)(q:Rat):Prop:=q.num.natAbs<2^n/\q.den<2^n
theorem EQ.mono(h:EQ n q)(hm:n<=m):EQ m q:=⟨Hz h.1 (HM (by decide) hm),Hz h.2 (HM (by decide) hm)⟩
theorem iP{i:Int}(h:i.natAbs<2^2000):G9 i:=Hz h (HM (by decide) (by decide))
theorem EQ.bn(h:EQ 2000 q):G9 q.num:=iP h.1
theorem EQ.bd(h:EQ 2000 q):G9 (q.den:Int):=iP (by rw[Iz];exact h.2)
theorem den_pos(q r:Rat):(0:Int)<(q.den:Int)*(r.den:Int):=MT (by have:=q.den_nz;omega) (by have:=r.den_nz;omega)
theorem fZ(h:EQ 2000 q)(h':EQ 2000 r):((q.den:Int)*(r.den:Int)).natAbs<2^8000:=by
 rw[JD,Iz,Iz]
 have:q.den*r.den<2^2000*2^2000:=Md h.2 h'.2
 rw[<- NO]at this
 exact Hz this (HM (by decide) (by decide))
inductive Sd where
 | to (t:Rat)|from(a b:Rat)|round (a b:Rat)
noncomputable def Sd.last:Sd->Rat
 | .to t=>t | .from _ b=>b | .round _ b=>b
noncomputable def Sd.first:Sd->Rat
 | .to t=>t | .from a _=>a | .round a _=>a
noncomputable def EJ:Sd->Hg
 | .to t=>.tuple [.str "to", fr t]
 | .from a b=>.tuple [.str "from", fr a,fr b]
 | .round a b=>.tuple [.str "round", fr a,fr b]
noncomputable def mx(q r:Rat):Rat:=if q<r then r else q
noncomputable def mn(q r:Rat):Rat:=if q<r then q else r
noncomputable def szQ:Sd->Rat
 | .to t=>mx t 0
 | .from a b=>mx (mx b 0-mx a 0) 0
 | .round a b=>mn (1+(mx b 0-mx a 0)) 1
noncomputable def Sd.Sm(s:Sd):Prop:=EQ 60 s.first/\EQ 60 s.last
theorem fr0:pr 0 1=fr 0:=rfl
theorem fr1:pr 1 1=fr 1:=rfl
theorem qK:EQ 60 0:=⟨by decide,by decide⟩
theorem Ax:EQ 60 1:=⟨by decide,by decide⟩
theorem gq(h:EQ n q)(h':EQ n r):EQ n (mx q r):=by unfold mx;split<;>assumption
theorem AS(h:EQ n q)(h':EQ n r):EQ n (mn q r):=by unfold mn;split<;>assumption
theorem ka{n:Int}{d k:Nat}(hd:d≠0)(h1:n.natAbs<2^k)(h2:d<2^k):EQ k (L_ n d hd):=by
 rw[Rat.normalize_eq]
 refine⟨?_,Km (Nat.div_le_self _ _) h2⟩
 show(n / ((n.natAbs.gcd d:Nat):Int)).natAbs<2^k
 have hdv:((n.natAbs.gcd d:Nat):Int)∣n:=Int.ofNat_dvd_left.mpr (Nat.gcd_dvd_left _ _)
 rw[Int.natAbs_ediv_of_dvd hdv,Iz]
 exact Km (Nat.div_le_self _ _) h1
theorem bf{a b:Nat}(h1:a<2^m)(h2:b<2^n):a*b<2^(m+n):=by
 rw[NO]
 exact Md h1 h2
theorem yy(h:EQ m q)(h':EQ n r):EQ (m+n) (q*r):=by
 rw[Rat.mul_def]
 refine ka _ ?_ (bf h.2 h'.2)
 rw[JD]
 exact bf h.1 h'.1
theorem lO(h:EQ m q)(h':EQ n r):EQ (m+n+1) (q+r):=by
 rw[Rat.add_def]
 have a1:=bf h.1 h'.2
 have a2:=bf h'.1 h.2
 rw[Nat.add_comm n m]at a2
 have a3:=bf h.2 h'.2
 refine ka _ ?_ (Hz a3 (HM (by decide) (by omega)))
 have t:=Int.natAbs_add_le (q.num*r.den) (r.num*q.den)
 rw[JD,JD,Iz,Iz]at t
 rw[Nat.pow_succ]
 omega
theorem eP(h:EQ m q)(h':EQ n r):EQ (m+n+1) (q-r):=by
 rw[Rat.sub_eq_add_neg]
 exact lO h ⟨by rw[Rat.neg_num,Int.natAbs_neg];exact h'.1,h'.2⟩
theorem EQ.up(h:EQ 60 q):EQ 2000 q:=h.mono (by decide)
noncomputable def FK(x y:Rat)(b:Bool):Bool:=if b then !decide (y<x)else decide (x<y)
noncomputable def FC(w:Str):Prop:=w = "half" \/ w = "shut" \/ w = "open"
noncomputable def Fi(s:Sd)(w:Str)(x:Rat):Bool :=
 let ahead:=FK x s.last (decide (w = "shut"))
 let behind:=FK s.first x (!decide (w = "open"))
 match s with
 | .to _=>ahead
 | .from _ _=>behind&&ahead
 | .round _ _=>behind||ahead
noncomputable def dF(qs:List Rat):Rat:=qs.foldl (· * ·) 1
noncomputable def mT(ss:List Sd):Hg:=.tuple (ss.map EJ)
noncomputable def bY(ss:List Sd):Rat:=dF (ss.map szQ)
noncomputable def ET(qs:List Rat):Hg:=.tuple (qs.map fr)
noncomputable def Fu(qs:List Rat)(ss:List Sd)(w:Str):Bool:=(qs.zip ss).all fun p=>Fi p.2 w p.1
noncomputable def ptsQ(ps:List (List Rat)):Hg:=.tuple (ps.map ET)
noncomputable def cntN(ps:List (List Rat))(ss:List Sd)(w:Str):Nat:=(ps.filter fun p=>Fu p ss w).length
theorem at_last2{α:Type}(x y:α):L2.atI [x,y] (-1)=some y:=rfl
theorem at_last3{α:Type}(x y z:α):L2.atI [x,y,z] (-1)=some z:=rfl
theorem kr:∀qs:List Rat,IW (qs.map fr)=true
 | []=>rfl
 | q::qs=>by simp[IW,Kk,fr,kr qs]
theorem kF:∀qs:List Rat,Jp (qs.map fr)<=3
 | []=>by simp[Jp]
 | q::qs=>by
   have:=kF qs
   simp[Jp,KN,fr]at this ⊢
   omega
theorem l_(qs:List Rat):Iv (.list (qs.map fr))=true:=by
 have:=kF qs
 simp[Iv,Kk,KN,kr]
 omega
theorem at_last1{α:Type}(x:α):L2.atI [x] (-1)=some x:=rfl
theorem cC:fr q=fr r↔q=r:=⟨gM,fun h=>by rw[h]⟩
theorem bu{s t:Sd}:EJ s=EJ t↔s=t:=by
 constructor
 · intro h
   have n1:¬(Hj "from" = Hj "round"):=by decide +kernel
   cases s<;>cases t<;>simp[EJ,cC,n1,Mp n1]at h ⊢ <;> first|exact h|exact(n1 h.1.symm).elim|exact(n1 h.1).elim
 · rintro rfl;rfl
theorem bC{a b:List Rat}:ET a=ET b↔a=b:=by
 unfold ET
 rw[Jc,bO fun _ _=>cC]
theorem aL{a b:List Sd}:mT a=mT b↔a=b:=by
 unfold mT
 rw[Jc,bO fun _ _=>bu]
theorem aQ{a b:List (List Rat)}:ptsQ a=ptsQ b↔a=b:=by
 unfold ptsQ
 rw[Jc,bO fun _ _=>bC]
theorem bE{a b:List Rat}:a.map fr=b.map fr↔a=b:=bO fun _ _=>cC
theorem item_fr0(q:Rat):itemAt (fr q) 0=some (.int q.num):=rfl
theorem item_fr1(q:Rat):itemAt (fr q) 1=some (.int q.den):=rfl
theorem tupD_pt(a:List Rat):tupD (ET a)=some (a.map fr):=rfl
theorem seqD_pt(a:List Rat):eQ (ET a)=some (a.map fr):=rfl
theorem lenD_pt(a:List Rat):qh (ET a)=some a.length:=by show some (a.map fr).length=_;rw[Hm]
theorem item_pt(a:List Rat)(i:Int):itemAt (ET a) i=(atI a i).map fr:=cw _ _ _
theorem tupD_bx(a:List Sd):tupD (mT a)=some (a.map EJ):=rfl
theorem seqD_bx(a:List Sd):eQ (mT a)=some (a.map EJ):=rfl
theorem lenD_bx(a:List Sd):qh (mT a)=some a.length:=by show some (a.map EJ).length=_;rw[Hm]
theorem item_bx(a:List Sd)(i:Int):itemAt (mT a) i=(atI a i).map EJ:=cw _ _ _
theorem tupD_ps(a:List (List Rat)):tupD (ptsQ a)=some (a.map ET):=rfl
theorem seqD_ps(a:List (List Rat)):eQ (ptsQ a)=some (a.map ET):=rfl
theorem lenD_ps(a:List (List Rat)):qh (ptsQ a)=some a.length:=by show some (a.map ET).length=_;rw[Hm]
theorem item_ps(a:List (List Rat))(i:Int):itemAt (ptsQ a) i=(atI a i).map ET:=cw _ _ _
theorem kind_pt(a:List Rat):cT (ET a)=cT (.tuple []):=rfl
theorem kind_bx(a:List Sd):cT (mT a)=cT (.tuple []):=rfl
noncomputable def qd(a b:Int):Rat:=(a:Rat) / (b:Rat)
theorem oX{a b:Int}(hb:0<b):Jl [.int (a.fdiv (Jv a b)),.int (b.fdiv (Jv a b))]=fr (qd a b):=fT hb
theorem fN(q:Rat):qd q.num q.den=q:=by
 unfold qd
 have:=Rat.mkRat_self q
 rw[Rat.mkRat_eq_div]at this
 exact this
theorem xY(q r:Rat):qd (q.num*r.den+r.num*q.den) (q.den*r.den)=q+r:=gM (by rw[<- yY];exact(fT (den_pos q r)).symm)
theorem xV(q r:Rat):qd (q.num*r.den-r.num*q.den) (q.den*r.den)=q-r:=gM (by rw[<- yV];exact(fT (den_pos q r)).symm)
theorem xW(q r:Rat):qd (q.num*r.num) (q.den*r.den)=q*r:=gM (by rw[<- yW];exact(fT (den_pos q r)).symm)
theorem jy(q:Rat):(0:Int)<(q.den:Int):=by have:=q.den_nz;omega
theorem oB{a b:Int}{k:Nat}(hb:0<b)(h1:a.natAbs<2^k)(h2:b.natAbs<2^k):EQ k (qd a b):=by
 obtain⟨d,rfl⟩:=Kf (show 0<=b by omega)
 have hd:d≠0:=by omega
 have e:qd a d=L_ a d hd:=gM (by rw[<- d_,fT (by omega)];rfl)
 rw[e]
 exact ka _ h1 (by simpa using h2)
theorem nF{s:Sd}(h:s.Sm):EQ 190 (szQ s):=by
 cases s with
 | to t=>exact(gq h.2 qK).mono (by decide)
 | «from» a b=>exact(gq (eP (gq h.2 qK) (gq h.1 qK)) (qK.mono (by decide))).mono (by decide)
 | round a b=>exact(AS (lO Ax (eP (gq h.2 qK) (gq h.1 qK))) (Ax.mono (by decide))).mono (by decide)
theorem pd:∀ps:List (List Rat),IW (ps.map ET)=true
 | []=>rfl
 | p::ps=>by simp[IW,Kk,ET,kr,pd ps]
theorem pM:∀ps:List (List Rat),Jp (ps.map ET)<=5
 | []=>by simp[Jp]
 | p::ps=>by
   have:=pM ps
   have:=kF p
   simp[Jp,KN,ET]at *
   omega
theorem lZ(ps:List (List Rat)):Iv (.list (ps.map ET))=true:=by
 have:=pM ps
 simp[Iv,Kk,KN,pd]
 omega
theorem at2(x y z:α)(r:List α):L2.atI (x::y::z::r) 2=some z:=by
 rw[show(2:Int)=((2:Nat):Int)from rfl]
 exact dw rfl
noncomputable def Sd.In1(s:Sd):Prop:=(-1<=s.first/\s.first<=1)/\(-1<=s.last/\s.last<=1)
theorem uM{a b:Int}(hb:0<b)(h:0<=a):0<=qd a b:=by
 unfold qd
 have h1:(0:Rat)<=(a:Rat):=by exact_mod_cast h
 have h2:(0:Rat)<(b:Rat):=by exact_mod_cast hb
 rw[MU]
 exact MM h1 (HY (Rat.inv_pos.mpr h2))
theorem oD{a b:Int}(hb:0<b)(h:a<b):qd a b<1:=by
 unfold qd
 have h1:(a:Rat)<(b:Rat):=by exact_mod_cast h
 have h2:(0:Rat)<(b:Rat):=by exact_mod_cast hb
 exact(Rat.div_lt_iff h2).mpr (by rw[K_];exact h1)
noncomputable def Hb:=Hh @item_fr0 (Hh @item_fr1 (Hh @tupD_pt (Hh @seqD_pt (Hh @lenD_pt (Hh @item_pt (Hh @tupD_bx (Hh @seqD_bx (Hh @lenD_bx (Hh @item_bx (Hh @tupD_ps (Hh @seqD_ps (Hh @lenD_ps (Hh @item_ps (Hh @at_last1 (Hh @at_last2 (Hh @at_last3 (Hh @kind_pt (Hh @kind_bx (Hh @fr0 (@fr1))))))))))))))))))))
theorem tp(a b:Rat):Iq (fr a) (fr b)=decide (a=b):=by
 unfold fr
 simp only[Iq,Nf]
 by_cases h:a=b
 · subst h;simp[Iq]
 · have:¬(a.num=b.num/\a.den=b.den):=fun z=>h (Rat.ext z.1 z.2)
   simp only[h,decide_false,Bool.and_true,Iq]
   rw[Bool.and_eq_false_iff]
   by_cases h1:a.num=b.num
   · right
     have:a.den≠b.den:=fun z=>this ⟨h1,z⟩
     simp;omega
   · left;simpa using h1
theorem i8(q:Rat):Iv (fr q)=true:=by
 simp[Iv,fr,Kk,IW,KN,Jp]
theorem yS(q:Rat):Jv q.num q.den=1:=by
 have:=q.reduced
 simpa[Jv,Nat.Coprime]using this
noncomputable def q9:Rat:=⟨999999999998,999999999999,by decide,by decide⟩
noncomputable def Ey(b:Bool)(qs:List Rat):Hg:=if b then .tuple (qs.map fr)else .list (qs.map fr)
theorem Ap{b c:Bool}{qs:List Rat}:Ey b qs=Ey c rs↔b=c/\qs=rs:=by
 cases b<;>cases c<;>simp[Ey,bE]
theorem dM(b:Bool)(qs:List Rat):seqW (.d (Ey b qs))=some (qs.map fr):=by cases b<;>rfl
noncomputable def qi(kvs:List (GQ×Hg))(k:GQ):Bool:=kvs.any fun kv=>decide (kv.1=k)
theorem rE{kvs:List (GQ×Hg)}{k:GQ}:qi kvs k=true↔k∈kvs.map (·.1):=by
 unfold qi
 simp only[List.any_eq_true,decide_eq_true_iff,HQ]
theorem jh(kvs:List (GQ×Hg))(k:GQ)(x:Hg):(putF kvs k x).map (·.1)=if qi kvs k=true then kvs.map (·.1)else kvs.map (·.1)++[k]:=by
 unfold putF
 show LV _ (if qi kvs k=true then _ else _)=_
 split
 · rw[Ij]
   congr 1;funext kv;simp only[Function.comp];split<;>rfl
 · rw[IJ];rfl
theorem qL(kvs:List (GQ×Hg))(k j:GQ)(x:Hg):gw (putF kvs k x) j=if j=k then some x else gw kvs j:=by
 have one:∀l:List (GQ×Hg),gw (l.map fun kv=>if kv.1=k then(kv.1,x)else kv) j=if j=k then(if qi l k=true then some x else none)else gw l j:=by
  intro l
  induction l with
  | nil=>by_cases h:j=k<;>simp[gw,qi,h]
  | cons p r ih =>
    unfold gw qi at *
    rw[Ik,IT,IT,Kx]
    by_cases h1:p.1=k
    · by_cases h:j=k
      · subst h;simp[h1]
      · have h2:¬k=j:=fun z=>h z.symm
        rw[if_pos h1,if_neg h]
        rw[if_neg h]at ih
        simp only[h1,h2,decide_false]
        exact ih
    · rw[if_neg h1]
      by_cases h:j=k
      · subst h
        rw[if_pos rfl]
        rw[if_pos rfl]at ih
        simp only[h1,decide_false,Bool.false_or]
        exact ih
      · rw[if_neg h]
        rw[if_neg h]at ih
        cases decide (p.1=j)with
        | true=>rfl
        | false=>exact ih
 unfold putF
 show gw (if qi kvs k=true then _ else _) j=_
 by_cases hm:qi kvs k=true
 · rw[if_pos hm,one]
   by_cases h:j=k<;>simp[h,hm]
 · rw[if_neg hm]
   unfold gw
   rw[List.find?_append]
   by_cases h:j=k
   · subst h
     have:kvs.find? (fun kv=>decide (kv.1=j))=none:=by
      rw[List.find?_eq_none];intro p hp z
      exact hm (rE.mpr (HQ.mpr ⟨p,hp,by simpa using z⟩))
     simp[this]
   · have h2:¬k=j:=fun z=>h z.symm
     simp[h,h2]
noncomputable def vW(f:Rat->Int)(qs:List Rat):List (GQ×Hg):=(qs.map fun q=>((JT (f q):GQ),fr q)).foldl (fun a p=>putF a p.1 p.2) []
theorem iI(f:Rat->Int):∀(qs:List Rat)(acc:List (GQ×Hg))(ns:List Int),acc.map (·.1)=ns.map JT->ns.Nodup->(∀q r,q∈qs->r∈qs->f q=f r->q=r) ->
 ∃ ms:List Int,((qs.map fun q=>((JT (f q):GQ),fr q)).foldl (fun a p=>putF a p.1 p.2) acc).map (·.1)=ms.map JT/\ms.Nodup/\(∀n,n∈ms↔n∈ns\/∃q∈qs,f q=n) /\
   ∀n,gw ((qs.map fun q=>((JT (f q):GQ),fr q)).foldl (fun a p=>putF a p.1 p.2) acc) (.inl n)=(match qs.find? (fun q=>decide (f q=n))with|some q=>some (fr q)|none=>gw acc (.inl n))/\ms.length<=ns.length+qs.length
 | [],acc,ns,h,nd,_=>⟨ns,h,nd,fun n=>by simp,fun n=>⟨rfl,by simp⟩⟩
 | q::qs,acc,ns,h,nd,inj=>by
   have hmem:qi acc (JT (f q))=true↔f q∈ns:=by
    rw[rE,h,HQ];constructor
    · rintro⟨x,hx,e⟩;cases e;exact hx
    · intro hx;exact⟨_,hx,rfl⟩
   have inj':∀a b,a∈qs->b∈qs->f a=f b->a=b:=fun a b ha hb=>inj a b (Hn _ ha) (Hn _ hb)
   have val:∀n:Int,∀r,gw (putF acc (.inl (f q)) (fr q)) (.inl n)=r->(match qs.find? (fun q=>decide (f q=n))with|some q=>some (fr q)|none=>gw (putF acc (.inl (f q)) (fr q)) (.inl n))=(match(q::qs).find? (fun q=>decide (f q=n))with|some q=>some (fr q)|none=>gw acc (.inl n)):=by
    intro n r _
    rw[qL,IT]
    by_cases e:f q=n
    · subst e
      simp only[decide_true]
      cases e2:qs.find? (fun q'=>decide (f q'=f q))with
      | none=>simp
      | some q' =>
        have m:=LX e2
        have p:f q'=f q:=by simpa using List.find?_some e2
        have:=inj q' q (Hn _ m) Ht p
        rw[this]
    · have e':¬n=f q:=fun z=>e z.symm
      simp only[e,decide_false,JT.injEq,e',if_false]
   by_cases hq:f q∈ns
   · obtain⟨ms,a1,a2,a3,a4⟩:=iI f qs (putF acc (.inl (f q)) (fr q)) ns (by rw[jh,if_pos (hmem.mpr hq)];exact h) nd inj'
     refine⟨ms,a1,a2,fun n=>?_,fun n=>⟨?_,?_⟩⟩
     · rw[a3 n]
       simp only[HJ]
       constructor
       · rintro(z|⟨r,hr,e⟩)
         · exact .inl z
         · exact .inr ⟨r,.inr hr,e⟩
       · rintro(z|⟨r,rfl|hr,e⟩)
         · exact .inl z
         · exact .inl (e▸hq)
         · exact .inr ⟨r,hr,e⟩
     · rw[<- val n _ rfl];exact(a4 n).1
     · have:=(a4 n).2;simp only[Ip];omega
   · obtain⟨ms,a1,a2,a3,a4⟩:=iI f qs (putF acc (.inl (f q)) (fr q)) (ns++[f q]) (by rw[jh,if_neg (fun z=>hq (hmem.mp z)),h,IJ];rfl)
       (List.nodup_append.mpr ⟨nd,by simp,fun a ha b hb=>by simp at hb;subst hb;rintro rfl;exact hq ha⟩) inj'
     refine⟨ms,a1,a2,fun n=>?_,fun n=>⟨?_,?_⟩⟩
     · rw[a3 n]
       simp only[HJ,HW,Me,or_false]
       constructor
       · rintro((z|z)|⟨r,hr,e⟩)
         · exact .inl z
         · exact .inr ⟨q,.inl rfl,z.symm⟩
         · exact .inr ⟨r,.inr hr,e⟩
       · rintro(z|⟨r,rfl|hr,e⟩)
         · exact .inl (.inl z)
         · exact .inl (.inr e.symm)
         · exact .inr ⟨r,hr,e⟩
     · rw[<- val n _ rfl];exact(a4 n).1
     · have:=(a4 n).2;simp only[HD,Ip,LA]at this ⊢;omega
theorem vV(f:Rat->Int)(qs:List Rat)(inj:∀q r,q∈qs->r∈qs->f q=f r->q=r) :
 ∃ms:List Int,(vW f qs).map (·.1)=ms.map JT/\ms.Nodup/\(∀n,n∈ms↔∃q∈qs,f q=n)/\(∀q∈qs,gw (vW f qs) (.inl (f q))=some (fr q))/\ms.length<=qs.length:=by
 obtain⟨ms,a1,a2,a3,a4⟩:=iI f qs [] [] rfl List.nodup_nil inj
 refine⟨ms,a1,a2,fun n=>by rw[a3 n];simp,fun q hq=>?_,by have:=(a4 0).2;simpa using this⟩
 have:=(a4 (f q)).1
 show gw ((qs.map fun q=>((JT (f q):GQ),fr q)).foldl (fun a p=>putF a p.1 p.2) []) _=_
 rw[this]
 cases e:qs.find? (fun q'=>decide (f q'=f q))with
 | none =>
   rw[List.find?_eq_none]at e
   exact absurd (e q hq) (by simp)
 | some q' =>
   have m:=LX e
   have p:f q'=f q:=by simpa using List.find?_some e
   rw[inj q' q m hq p]
noncomputable def Es(S:Int)(q:Rat):Int:=(q.num*S).fdiv q.den
theorem sG(S:Int)(q:Rat):Es S q*q.den<=q.num*S/\q.num*S<(Es S q+1)*q.den:=by
 have h0:(0:Int)<q.den:=jy q
 unfold Es
 rw[J3 _ (by omega)]
 have h1:=Int.emod_nonneg (q.num*S) (show(q.den:Int)≠0 by omega)
 have h2:=Int.emod_lt_of_pos (q.num*S) h0
 have h3:=Int.mul_ediv_add_emod (q.num*S) q.den
 have e1:q.num*S / (q.den:Int)*(q.den:Int)=(q.den:Int)*(q.num*S / (q.den:Int)):=Int.mul_comm _ _
 have e2:(q.num*S / (q.den:Int)+1)*(q.den:Int)=(q.den:Int)*(q.num*S / (q.den:Int))+(q.den:Int):=by rw[Int.add_mul,Int.one_mul,e1]
 rw[e1,e2]
 constructor<;>omega
theorem mD(q r:Rat):q<r↔q.num*r.den<r.num*q.den:=Rat.lt_iff q r
theorem nI{B:Int}(hq:(q.den:Int)<=B)(hr:(r.den:Int)<=B)(h:q<r):Es (B*B) q<Es (B*B) r:=by
 have h0:(0:Int)<q.den:=jy q
 have h1:(0:Int)<r.den:=jy r
 rw[mD]at h
 obtain⟨a1,a2⟩:=sG (B*B) q
 obtain⟨b1,b2⟩:=sG (B*B) r
 generalize Es (B*B) q=a at *
 generalize Es (B*B) r=b at *
 generalize (q.den:Int)=x at *
 generalize (r.den:Int)=y at *
 by_cases hab:a<b
 · exact hab
 · exfalso
   have hba:b+1<=a+1:=by omega
   have e1:a*x*y<=q.num*(B*B)*y:=JP a1 (by omega)
   have e2:r.num*(B*B)*x<(b+1)*y*x:=LH b2 h0
   have e3:(b+1)*y*x<=(a+1)*y*x:=JP (JP hba (by omega)) (by omega)
   have hs:x*y<=B*B:=Int.mul_le_mul hq hr (by omega) (by omega)
   have h2:q.num*y+1<=r.num*x:=h
   have e4:(q.num*y+1)*(B*B)<=r.num*x*(B*B):=JP h2 (Int.mul_nonneg (by omega) (by omega))
   have e5:(q.num*y+1)*(B*B)=q.num*(B*B)*y+B*B:=by grind
   have e6:r.num*x*(B*B)=r.num*(B*B)*x:=by grind
   have e7:(a+1)*y*x=a*x*y+x*y:=by grind
   omega
theorem oq(q r:Rat):q<r\/q=r\/r<q:=by
 by_cases h:q<r
 · exact .inl h
 · by_cases h2:r<q
   · exact .inr (.inr h2)
   · exact .inr (.inl (LI (JB.mp h2) (JB.mp h)))
theorem nJ{B:Int}(hq:(q.den:Int)<=B)(hr:(r.den:Int)<=B)(h:Es (B*B) q=Es (B*B) r):q=r:=by
 rcases oq q r with z|z|z
 · have:=nI hq hr z;omega
 · exact z
 · have:=nI hr hq z;omega
theorem uu{B:Int}(hq:(q.den:Int)<=B)(hr:(r.den:Int)<=B)(h:Es (B*B) q<Es (B*B) r):q<r:=by
 rcases oq q r with z|z|z
 · exact z
 · subst z;omega
 · have:=nI hr hq z;omega
theorem fJ:∀(ns:List Int)(m:Int),∃k,cn (some m) ns=some k/\m<=k/\(∀n∈ns,n<=k)/\(k=m\/k∈ns)
 | [],m=>⟨m,rfl,Int.le_refl _,by simp,.inl rfl⟩
 | n::ns,m=>by
   obtain⟨k,e,h1,h2,h3⟩:=fJ ns (if n>m then n else m)
   refine⟨k,e,by split at h1<;>omega,fun x hx=>?_,?_⟩
   · rcases HJ.mp hx with rfl|hx
     · split at h1<;>omega
     · exact h2 x hx
   · rcases h3 with h3|h3
     · split at h3
       · exact .inr (by rw[h3];exact Ht)
       · exact .inl h3
     · exact .inr (Hn _ h3)
theorem yw(ns:List Int):(∀n∈ns,n<=E7 1 ns)/\(E7 1 ns=1\/E7 1 ns∈ns):=by
 unfold E7
 cases ns with
 | nil=>exact⟨by simp,.inl rfl⟩
 | cons n ns =>
   obtain⟨k,e,h1,h2,h3⟩:=fJ ns n
   have e':cn none (n::ns)=some k:=e
   rw[e']
   refine⟨fun x hx=>?_,.inr ?_⟩
   · rcases HJ.mp hx with rfl|hx
     · exact h1
     · exact h2 x hx
   · rcases h3 with rfl|h3
     · exact Ht
     · exact Hn _ h3
theorem lM(f:Rat->Int){qs:List Rat}:∀(ns:List Int),(∀n∈ns,∃q∈qs,f q=n)->∃rs:List Rat,ns=rs.map f/\∀r∈rs,r∈qs
 | [],_=>⟨[],rfl,by simp⟩
 | n::ns,h=>by
   obtain⟨rs,e,hr⟩:=lM f ns fun m hm=>h m (Hn _ hm)
   obtain⟨q,hq,eq⟩:=h n Ht
   exact⟨q::rs,by rw[Ik,eq,<- e],fun r hr'=>(HJ.mp hr').elim (fun z=>z▸hq) (hr r)⟩
noncomputable def ge(qs rs:List Rat):Prop:=rs.Pairwise (· < ·)/\∀q,q∈rs↔q∈qs
theorem nN{B:Int}{qs:List Rat}{ms:List Int}(hB:∀q∈qs,(q.den:Int)<=B)(nd:ms.Nodup)(hm:∀n,n∈ms↔∃q∈qs,Es (B*B) q=n)(pm:ns.Perm ms)(pw:ns.Pairwise (· <= ·)) :
 ∃rs:List Rat,ns=rs.map (Es (B*B))/\(∀r∈rs,r∈qs)/\ge qs rs:=by
 obtain⟨rs,e,hr⟩:=lM (Es (B*B)) ns fun n hn=>(hm n).mp (pm.mem_iff.mp hn)
 refine⟨rs,e,hr,?_,fun q=>⟨hr q,fun hq=>?_⟩⟩
 · have nd':ns.Nodup:=pm.nodup_iff.mpr nd
   subst e
   have lt:(rs.map (Es (B*B))).Pairwise (· < ·):=by
    have:=pw.and nd'
    exact this.imp fun z=>by have:=z.1;have:=z.2;omega
   rw[List.pairwise_map]at lt
   exact lt.imp_of_mem fun ha hb z=>uu (hB _ (hr _ ha)) (hB _ (hr _ hb)) z
 · have:Es (B*B) q∈ns:=pm.mem_iff.mpr ((hm _).mpr ⟨q,hq,rfl⟩)
   rw[e,HQ]at this
   obtain⟨r,hr',e2⟩:=this
   rw[<- nJ (hB r (hr r hr')) (hB q hq) e2]
   exact hr'
theorem jp:∀{rs qs:List Rat},rs.Nodup->(∀x∈rs,x∈qs)->rs.length<=qs.length
 | [],_,_,_=>Ig _
 | r::rs,qs,nd,h=>by
   rw[JZ]at nd
   have hm:=h r Ht
   have:=jp (rs:=rs) (qs:=qs.erase r) nd.2 fun x hx=>(List.mem_erase_of_ne (fun(z:x=r)=>nd.1 (by rw[<- z];exact hx))).mpr (h x (Hn _ hx))
   rw[List.length_erase_of_mem hm]at this
   have:=Ml hm
   simp only[Ip]
   omega
theorem lY{qs:List Rat}(h:ge qs rs):rs.length<=qs.length:=by
 have nd:rs.Nodup:=h.1.imp fun z e=>by subst e;exact absurd z (Lw)
 exact jp nd fun x hx=>(h.2 x).mp hx
theorem gB:∀{rs ss:List Rat},rs.Pairwise (· < ·)->ss.Pairwise (· < ·)->(∀q,q∈rs↔q∈ss)->rs=ss
 | [],[],_,_,_=>rfl
 | [],s::_,_,_,h=>by have:=(h s).mpr Ht;simp at this
 | r::_,[],_,_,h=>by have:=(h r).mp Ht;simp at this
 | r::rs,s::ss,h1,h2,h=>by
   rw[Ko]at h1 h2
   have e:r=s:=by
    rcases HJ.mp ((h r).mp Ht)with z|z
    · exact z
    · rcases HJ.mp ((h s).mpr Ht)with y|y
      · exact y.symm
      · have a:=h2.1 r z;have b:=h1.1 s y;exact absurd (show r<r by grind) Lw
   subst e
   congr 1
   refine gB h1.2 h2.2 fun q=>?_
   constructor
   · intro hq
     rcases HJ.mp ((h q).mp (Hn _ hq))with z|z
     · subst z;exact absurd (h1.1 q hq) Lw
     · exact z
   · intro hq
     rcases HJ.mp ((h q).mpr (Hn _ hq))with z|z
     · subst z;exact absurd (h2.1 q hq) Lw
     · exact z
noncomputable def tv(b:Int)(ds:List Int):Int:=ds.foldl (fun t d=>t*b+d) 0
theorem eS{b:Int}(h:0<b):(b:Rat)≠0:=by
 intro z
 have:b=0:=by exact_mod_cast z
 omega
noncomputable def Pw(b B:Int):Prop:=∃m:Nat,B∣b^m
noncomputable def ix(p:List Int)(f:Int):Int:=(p.idxOf f:Int)
noncomputable def Fx(b:Int)(N:Nat)(q:Rat):Prop:=∃(T:Int)(k:Nat),q=qd T (b^k)/\0<=T/\T<b^k/\b^k<2^N
end L2.VL
variable{ss:List L2.VL.Sd}
namespace L2
section
variable{X:Cx}
end
end L2
namespace L2.VL
section
variable{X:Cx}{rl:RlT}{a:Expr}{fs:Ge}{pos p:Pos}
end
open PySem PySem.Spec
noncomputable def lim(c:List Rat):List Rat:=0::(c++[1])
theorem getD_mem{xs:List α}{k:Nat}{d:α}(h:k<xs.length):xs.getD k d∈xs:=by
 rw[Hr,Hu h];exact Iy h
theorem xh(xs:List Int):Jl (xs.map H_)=xi xs:=rfl
theorem iB{xs:List α}{k:Nat}{d:α}(h:k<xs.length):xs.getD k d=xs[k]:=by rw[Hr,Hu h];rfl
theorem iQ{xs:List α}{i:Int}(d:α)(h0:0<=i)(h1:i<(xs.length:Int)):atI xs i=some (xs.getD i.toNat d):=by rw[tL h0 h1,iB (by omega)]
open PySem PySem.Spec
theorem jP{α:Type}:∀{l:List α}{n:Nat},l.length=n+1->∃b t,l=b++[t]
 | [],_,h=>by simp at h
 | [x],_,_=>⟨[],x,rfl⟩
 | x::y::l,n,h=>by
   obtain⟨b,t,e⟩:=jP (l:=y::l) (n:=l.length) (by simp)
   exact⟨x::b,t,by rw[e];rfl⟩
theorem rJ(l r:List α)(i:Nat)(d:α)(h:i<l.length):(l++r).getD i d=l.getD i d:=by
 rw[Hr,Hr,JM h]
theorem rH(l r:List α)(i:Nat)(d:α)(h:l.length<=i):(l++r).getD i d=r.getD (i-l.length) d:=by
 rw[Hr,Hr,J1 h]
noncomputable def chP{α:Type}(rows:List (List α)):List (List α):=rows.foldl (fun ch r=>ch.flatMap fun b=>r.map fun t=>b++[t]) [[]]
theorem iN(rows:List (List α))(r:List α):chP (rows++[r])=(chP rows).flatMap fun b=>r.map fun t=>b++[t]:=by
 unfold chP;rw[La];rfl
theorem km{α:Type}(d:α):∀(n:Nat)(rows:List (List α)),rows.length=n->∀es,es∈chP rows↔es.length=n/\∀i,i<n->es.getD i d∈rows.getD i []
 | 0,rows,h,es=>by
   cases Kg.mp h
   show es∈[[]]↔_
   rw[HK]
   constructor
   · rintro rfl;exact⟨rfl,fun i hi=>by omega⟩
   · rintro⟨e,_⟩;exact Kg.mp e
 | n+1,rows,h,es=>by
   obtain⟨rs,r,rfl⟩:∃rs r,rows=rs++[r]:=jP h
   have hl:rs.length=n:=by simp at h;exact h
   rw[iN,IF]
   constructor
   · rintro⟨b,mb,mes⟩
     obtain⟨t,mt,rfl⟩:=HQ.mp mes
     obtain⟨bl,hb⟩:=(km d n rs hl b).mp mb
     refine⟨by simp[bl],fun i hi=>?_⟩
     by_cases z:i<n
     · rw[rJ _ _ _ _ (by omega),rJ _ _ _ _ (by omega)];exact hb i z
     · have:i=n:=by omega
       subst this
       rw[rH _ _ _ _ (by omega),rH _ _ _ _ (by omega),bl,hl,Nr]
       exact mt
   · rintro⟨el,he⟩
     obtain⟨b,t,rfl⟩:∃b t,es=b++[t]:=jP el
     have bl:b.length=n:=by simp at el;exact el
     refine⟨b,(km d n rs hl b).mpr ⟨bl,fun i hi=>?_⟩,HQ.mpr ⟨t,?_,rfl⟩⟩
     · have:=he i (by omega)
       rw[rJ _ _ _ _ (by omega),rJ _ _ _ _ (by omega)]at this;exact this
     · have:=he n (by omega)
       rw[rH _ _ _ _ (by omega),rH _ _ _ _ (by omega),bl,hl,Nr]at this
       exact this
noncomputable def EI(p es:List Rat):Bool:=(p.zip es).all fun z=>!decide (z.2<z.1)
noncomputable def Et(es:List Rat):Rat:=dF (es.map fun e=>mx e 0)
noncomputable def EH(ps:List (List Rat))(es:List Rat):Nat:=(ps.filter fun p=>EI p es).length
noncomputable def ov(ps:List (List Rat))(es:List Rat):Rat:=qd (EH ps es) ps.length-Et es
theorem qo{p:List α}{es:List β}{e:β}(d:α)(hl:es.length=i)(hi:i<p.length):p.zip (es++[e])=p.zip es++[(p.getD i d,e)]:=by
 have hp:p=p.take i++(p.getD i d)::p.drop (i+1):=by
  rw[iB hi,<- IZ hi,Lj]
 have e1:p.zip es=(p.take i).zip es:=by
  conv=>lhs;rw[hp]
  rw[show es=es++[]from(JF _).symm,List.zip_append (by rw[JR];omega)]
  simp
 rw[e1]
 conv=>lhs;rw[hp]
 rw[List.zip_append (by rw[JR];omega)]
 simp
noncomputable def plc(f:List Rat->Bool)(ps:List (List Rat)):List Nat:=(HL ps.length).filter fun k=>f (ps.getD k [])
theorem j9(f:List Rat->Bool)(ps:List (List Rat)):(plc f ps).length=(ps.filter f).length:=by
 unfold plc
 have:ps.filter f=((HL ps.length).filter fun k=>f (ps.getD k [])).map fun k=>ps.getD k []:=by
  have e:(HL ps.length).map (fun k=>ps.getD k [])=ps:=by
   refine JJ (by simp) fun i h1 h2=>?_
   simp[Hr,Hu h2]
  conv=>lhs;rw[<- e,LJ]
  rfl
 rw[this,Hm]
theorem sQ{f:List Rat->Bool}:∀k∈plc f ps,k<ps.length:=fun k mk=>Im.mp (JX.mp mk).1
theorem uW{f g h:List Rat->Bool}(e:∀p∈ps,h p=(f p&&g p)):(plc f ps).filter (fun k=>g (ps.getD k []))=plc h ps:=by
 unfold plc
 rw[List.filter_filter]
 refine Lb fun k mk=>?_
 rw[e _ (getD_mem (Im.mp mk)),Bool.and_comm]
noncomputable def rZ{ps:List (List Rat)}(h1:1<=ps.length)(h:ps.length<=60)(f:List Rat->Bool):EQ 60 (qd (ps.filter f).length ps.length) :=
 oB (by omega) (by have:=Lk f ps;omega) (by omega)
end L2.VL
namespace L2.ZP
section
variable{prog:HZ}{w:IL}{A:ID}{E:Hq->Hv->Prop}{s:Hv}{z it a:Addr}{k:Nat}{xs:Array Hq}{x p:Hq}{b:Bool}
abbrev e2(h:Heap)(b:Bool)(a:Addr):Heap:=(y1 h b a).push {cls:=.type "enumerate", data:=.fields #[.none,.bool false,.ref h.objs.size,NC 0,.none,.none]}
theorem rT(b:Bool)(a:Addr)(o:Obj)(xs:Array Hq)(hr:∀h:Heap,h.get? a=some o->Gq b h a xs) :
 Meets (Builtin.«enumerate.__new__» ⟨[.type "enumerate", .ref a],[]⟩) (fun _ R s=>s.heap.get? a=some o/\R (.ok (.ret (.ref (y1 s.heap b a).objs.size))) {s with heap:=e2 s.heap b a}) :=
 .of_wp fun prog w A R s h=>by
  obtain⟨hp,g,d,tk,os⟩:=s
  obtain⟨l0,h⟩:=h
  have hsub:=sub_enumerate
  have k1:Gq b (NM ⟨hp,g,d,tk,os⟩) a xs:=hr _ l0
  wp_walk using KO l0
  refine wpAny_stack_any fun st=>HH ?_
  split
  · rename_i c _ _ _ _ _
    cases(c==Hq.type "enumerate")<;>(wp_walk using KO l0,ro k1;exact⟨_,rfl,h⟩)
  · wp_walk using KO l0,ro k1
    exact⟨_,rfl,h⟩
theorem Gq.obj(q:Gq b h a xs):∃o,h.get? a=some o/\∀h':Heap,h'.get? a=some o->Gq b h' a xs:=by
 cases b with
 | true=>obtain⟨o,h1,r⟩:=(show h.IsTuple a xs from q);exact⟨o,h1,fun h' e=>⟨o,e,r⟩⟩
 | false=>obtain⟨o,h1,r⟩:=(show h.IsList a xs from q);exact⟨o,h1,fun h' e=>⟨o,e,r⟩⟩
theorem p9(q1:Gq b s.heap a xs)
 (done:∀g,NP g (s.heap.objs.size+1) s.heap.objs.size 0 .none->GZ g s.heap.objs.size a xs 0->g.objs.size=s.heap.objs.size+2->(∀c o,s.heap.get? c=some o->g.get? c=some o)->Q (.ref (s.heap.objs.size+1)) {s with heap:=g}) :
 HS (Ie prog w) A (call (.type "enumerate") [.ref a]) Q E s:=by
 obtain⟨o,h1,hr⟩:=q1.obj
 refine callType_new F.called_enumerate (by decide) (F.typeCall_enumerate_1 _) (F.newCall_enumerate_1 _) (fun u=>F.args_object_init_2 u _) F.entry_enumerate_new (rT b a o xs hr) ⟨h1,?_⟩
 have n1:(y1 s.heap b a).objs.size=s.heap.objs.size+1:=Jq ..
 have n2:(e2 s.heap b a).objs.size=s.heap.objs.size+2:=by rw[Jq,n1]
 have pu:∀{h:Heap}{o u:Obj}{c:Addr},h.get? c=some u->(h.push o).get? c=some u:=fun e=>Hl _ e
 have kp:∀c o,s.heap.get? c=some o->(e2 s.heap b a).get? c=some o:=fun c o e=>pu (pu e)
 have f2:(e2 s.heap b a).get? (y1 s.heap b a).objs.size=some _:=HI _ rfl
 have f1:(e2 s.heap b a).get? s.heap.objs.size=some _:=pu (HI _ rfl)
 show _/\_
 rw[n1]at f2
 rw[n1]
 have mk:GZ (e2 s.heap b a) s.heap.objs.size a xs 0:=by
  have e:=hr _ (kp _ _ h1)
  cases b with
  | true=>exact .inr ⟨⟨_,f1,rfl,rfl⟩,e⟩
  | false=>exact .inl ⟨⟨_,f1,rfl,rfl⟩,e⟩
 exact⟨⟨_,f2,rfl⟩,done _ f2 mk n2 kp⟩
theorem vY(oz:NP s.heap z it k p)(s1:GZ s.heap it a xs k)(ex:xs[k]?=some x)(ne:z≠it)(nz:a≠z)(ni:a≠it)
 (done:∀g,IsEnumOut g z it ((k:Int)+1) x s.heap.objs.size->GZ g it a xs (k+1)->g.get? s.heap.objs.size=some {cls:=.type "tuple", data:=.seq #[.int k s.toks,x]}->g.objs.size=s.heap.objs.size+1 ->
  (∀b o,b≠z->b≠it->s.heap.get? b=some o->g.get? b=some o)->Q (.ref s.heap.objs.size) {s with heap:=g,toks:=s.toks+1}) :
 HS (Ie prog w) A (Builtin.«enumerate.__next__» ⟨[.ref z],[]⟩) (fun r s'=>∃u,r = .done (.ret u)/\Q u s') E s:=by
 show HS _ _ (do let c <- NJ (.ref z) 2;_) _ _ _
 refine Hi (Jh oz rfl (x:=.ref it) rfl ?_)
 refine Hi (s1.item ni ex fun g1 s1a b1=>?_)
 have z1:NP g1 z it k p:=b1.extBut _ _ ne oz
 show HS _ _ (do let c <- NJ (.ref z) 3;_) _ _ _
 refine Hi (Jh z1 rfl (x:=NC k) rfl ?_)
 show HS _ _ (do let c <- NJ (.ref z) 4;_) _ _ _
 refine Hi (Jh z1 rfl (x:=.none) rfl ?_)
 show HS _ _ (do let c <- mkInt k;_) _ _ _
 refine Hi (wpAny_mkInt ?_)
 show HS _ _ (do setField (.ref z) 3 (NC ((k:Int)+1));_) _ _ _
 refine Hi (IP z1 (by simp) fun g2 z2 b2=>?_)
 have z2:NP g2 z it ((k:Int)+1) p:=z2
 show HS _ _ (do setField (.ref z) 4 .none;_) _ _ _
 refine Hi (IP z2 (by simp) fun g3 z3 b3=>?_)
 have z3:NP g3 z it ((k:Int)+1) p:=z3
 have size:g3.objs.size=s.heap.objs.size:=by rw[b3.1,b2.1,b1.1]
 have s3:GZ g3 it a xs (k+1):=(s1a.keep (SameBut.keep b2 ne.symm) (SameBut.keep b2 nz)).keep (SameBut.keep b3 ne.symm) (SameBut.keep b3 nz)
 have k3:∀b o,b≠z->b≠it->s.heap.get? b=some o->g3.get? b=some o:=fun b o n1 n2 e=>b3.extBut _ _ n1 (b2.extBut _ _ n1 (b1.extBut _ _ n2 e))
 have zl:z<g3.objs.size:=HE z3
 show HS _ _ (do let c <- newTuple [.int k s.toks,x];_) _ _ _
 refine Hi (wpAny_newTuple ?_)
 have z4:NP (g3.push {cls:=.type "tuple", data:=.seq #[.int k s.toks,x]}) z it ((k:Int)+1) p:=Hl _ z3
 show HS _ _ (do let c <- IB (.ref z);_) _ _ _
 refine Hi ?_
 unfold IB
 refine Hi (Jh z4 rfl (x:=K3) rfl (HH ?_))
 simp only[if_true]
 refine Hi (K5 (Hi (Jh z4 rfl (x:=p) rfl (Hi (IP z4 (by simp) fun g5 z5 b5=>?_)))))
 have z5:NP g5 z it ((k:Int)+1) x:=z5
 show HS _ _ (do Jr (.ref z) (.ref g3.objs.size);_) _ _ _
 refine Hi ?_
 unfold Jr
 refine Hi (IP z5 (by simp) fun g6 z6 b6=>?_)
 have z6:IsEnumOut g6 z it ((k:Int)+1) x g3.objs.size:=z6
 refine IP z6 (by simp) fun g7 z7 b7=>?_
 have z7:IsEnumOut g7 z it ((k:Int)+1) x g3.objs.size:=z7
 have up:∀b o,b≠z->g3.get? b=some o->g7.get? b=some o:=fun b o n e=>b7.extBut _ _ n (b6.extBut _ _ n (b5.extBut _ _ n (Hl _ e)))
 have t7:g7.get? g3.objs.size=some {cls:=.type "tuple", data:=.seq #[.int k s.toks,x]} :=
  b7.extBut _ _ (JV zl) (b6.extBut _ _ (JV zl) (b5.extBut _ _ (JV zl) (HI _ rfl)))
 have l7:g7.objs.size=g3.objs.size+1:=by rw[b7.1,b6.1,b5.1,Jq]
 rw[size]at z7 t7 l7
 refine Hi (KG (HH ⟨_,rfl,?_⟩))
 show Q (.ref g3.objs.size) _
 rw[size]
 exact done g7 z7 (s3.keep (fun o e=>up _ o ne.symm e) fun o e=>up _ o nz e) t7 l7 fun b o n1 n2 e=>up b o n1 (k3 b o n1 n2 e)
end
end L2.ZP
namespace L2
open PySem PySem.Spec PyProof.Rows L2.ZP
noncomputable def GY(K:W.Frag)(b:Bool)(a:Addr):It :=
 ⟨fun i H=>∃xs x,Gp b K H a xs/\xs[i]?=some x,
  fun i H v H'=>∃x p,(∀xs,Gp b K H a xs->xs[i]?=some x)/\H p=none/\v = .ref p/\H'=D9 H p (.tup [.int i,x]),
  fun i H=>∃xs,Gp b K H a xs/\xs.length<=i⟩
noncomputable def ES(b:Bool)(z it a:Addr)(i:Nat)(h:Heap):Prop:=(∃p,NP h z it i p)/\G0 b h it a i
theorem nA{K:W.Frag}{elts:List Expr}{kt:Nat}{pt:Pos}(b:Bool)(z it a:Addr)(ne:z≠it)(nz:a≠z)(ni:a≠it) :
 Turn P w K (.Tuple elts kt pt) (GY K b a) [z,it] z (ES b z it a) where
 mem:=by simp
 obj:=fun i h ⟨⟨p,h1⟩,h4⟩ c hb=>by
  simp at hb
  rcases hb with rfl|rfl
  · exact⟨_,h1,fun v c=>by cases c⟩
  · exact h4.obj
 keep:=fun i h h' ⟨⟨p,h1⟩,h4⟩ k=>⟨⟨p,k z (by simp) _ h1⟩,h4.keep fun o e=>k it (by simp) o e⟩
 item:=by
  intro X hP hw hK hc i pins s σ H E I hf st hg
  subst hP hw hK
  obtain⟨⟨p,h1⟩,h4⟩:=st
  obtain⟨xs,x,q1,ex⟩:=hg
  obtain⟨its,r1,t1⟩:=I.sqB q1
  obtain⟨u,hu,ru⟩:=r1.get ex
  have ty:s.TypeIs (.ref z) "enumerate" := ⟨_,h1,rfl⟩
  unfold LZ
  refine Hi (L8 (JG (name:=Hj "__next__") ty F.slot_enumerate_next (J4 F.slot_enumerate_next ty F.entry_enumerate_next
   (vY h1 (h4.it1 t1) (by simpa using hu) ne nz ni fun g e1 e3 e5 e6 e7=>HH ?_) (F.args_enumerate_next_1 _))))
  have hz:s.heap.objs.size≠z:=JV (HE h1)
  refine⟨.ref s.heap.objs.size,rfl,wpAny_letOwnedTupleGo_enum e1 fun g' f1 fb=>?_⟩
  have hp:H s.heap.objs.size=none:=I.hok.fresh (HA _)
  have I1:Inv X pins σ (D9 H s.heap.objs.size (.tup [.int i,x])) {s with heap:=s.heap.push {cls:=.type "tuple", data:=.seq [.int i s.toks,u].toArray},toks:=s.toks+1} :=
   I.laid (t':=s.toks+1) (o:=.tup [.int i,x]) (fun b ob e=>Hl _ e) (HA _) ⟨(by show 2<=sizeLine;decide),[.int i s.toks,u],.cons ⟨_,rfl⟩ (.cons ru .nil),qf.new _ _⟩
  have ne':∀b∈[z,it],b≠s.heap.objs.size:=fun b hb e=>by
   simp at hb
   rcases hb with rfl|rfl
   · exact hz e.symm
   · obtain⟨o,ho,_⟩:=h4.obj
     exact absurd (HE ho) (by rw[e];exact Jb _)
  have kg:∀b o,b∉[z,it]->(s.heap.push {cls:=.type "tuple", data:=.seq [.int i s.toks,u].toArray}).get? b=some o->g'.get? b=some o:=fun b o hb e=>by
   simp at hb
   obtain⟨n1,n2⟩:=hb
   refine fb.extBut _ _ n1 ?_
   by_cases hbn:b=s.heap.objs.size
   · subst hbn
     rw[HI _ rfl]at e
     cases e
     exact e5
   · exact e7 b o n1 n2 (by rw[Heap.get?_push_ne _ _ _ hbn]at e;exact e)
  have fp1:∀b∈[z,it],jJ X pins (D9 H s.heap.objs.size (.tup [.int i,x])) b:=fun b hb=>by
   obtain⟨f0,fr⟩:=hf b hb
   exact⟨by rw[aq (ne' b hb)];exact f0,fr⟩
  have I2:Inv X pins σ (D9 H s.heap.objs.size (.tup [.int i,x])) {s with heap:=g',toks:=s.toks+1}:=I1.turnedL (t':=s.toks+1) kg fp1
  have k8:∀b o,b≠z->g.get? b=some o->g'.get? b=some o:=fun b o n e=>fb.extBut _ _ n e
  have t1':Gq b g a its.toArray:=Gq.of t1 fun o e=>e7 _ o nz ni e
  refine⟨.ref s.heap.objs.size,_,I2,rfl,⟨x,_,fun xs' q'=>by rw[I.sqB_inj q' q1];exact ex,hp,rfl,rfl⟩,⟨⟨_,by simpa using f1⟩,(GZ.ir e3 h4 t1').keep fun o e=>k8 _ o ne.symm e⟩,fun b hb=>(fp1 b hb).1⟩
 done:=by
  intro X hP hw hK hc i pins s σ H E I hf st hg
  subst hP hw hK
  obtain⟨⟨p,h1⟩,h4⟩:=st
  obtain⟨xs,q1,ex⟩:=hg
  obtain⟨its,r1,t1⟩:=I.sqB q1
  have l1:=r1.length
  have ty:s.TypeIs (.ref z) "enumerate" := ⟨_,h1,rfl⟩
  unfold LZ
  refine Hi (L8 (JG (name:=Hj "__next__") ty F.slot_enumerate_next (J4 F.slot_enumerate_next ty F.entry_enumerate_next ?_ (F.args_enumerate_next_1 _))))
  show HS _ _ (do let c <- NJ (.ref z) 2;_) _ _ _
  refine Hi (Jh h1 rfl (x:=.ref it) rfl ?_)
  refine Hi ((h4.it1 t1).fin (I.ok.hd hc) (by simp;omega) fun g e kg ⟨o,ho,hoc⟩=>?_)
  refine Hi (wpAny_isInstance (T := "StopIteration") (b:=true) ⟨o,ho,hoc⟩ isSubtype_stop (HH ⟨rfl,?_⟩))
  exact I.turnedL (t':=s.toks) (fun b o hb e=>by simp at hb;exact kg b o hb.2 e) hf
 self:=fun _ _ _ _ _ st h=>by
  obtain⟨⟨p,h1⟩,_⟩:=st
  exact wpAny_pyIter_enum h1 h
section
variable{X:Cx}{e1:Expr}{ta:TA}{elts:List Expr}{kt:Nat}{pt p pos:Pos}
noncomputable def Ds(K:W.Frag)(b:Bool)(t:TA):TI:=fun σ H R=>t σ H fun vs H1=>∃a xs,vs=[.ref a]/\Gp b K H1 a xs/\R (GY K b a) H1
theorem u0(b:Bool)(hg:Gl X "enumerate")(hm:X.mg "enumerate" = none)(ha:PA X [e1] ta)(hs:Hy [e1] X.env=(false,eval e1 X.env)::Hy [] X.env:=by rfl)(hpl:(Je pos (Hy [] X.env)).any (·.1)=false:=by rfl) :
 PI X (.Tuple elts kt pt) (.Call (.Name "enumerate" p) [e1] [] pos) (Ds X.K b ta):=by
 intro pins s σ H R I h
 refine Call_ (eW I hg hm (by rfl) (Jf (Eh (ha pos pins s σ H _ I h) fun us s1 ⟨vs,H1,I1,r1,q1⟩=>?_) hs hpl) (by decide) (by decide))
 obtain⟨a,xs,ev,q1,q⟩:=q1
 subst ev
 cases r1 with
 | cons r rr =>
   cases rr
   cases r
   obtain⟨its,v1,t1⟩:=I1.sqB q1
   refine p9 t1 fun g f1 f4 f6 kp=>wpAny_pyIter_enum f1 ?_
   have l1:a<s1.heap.objs.size:=by
    obtain⟨o,ho,_⟩:=t1.obj
    exact HE ho
   have I2:Inv X pins σ H1 {s1 with heap:=g}:=I1.kept (t':=s1.toks) kp
   have ir:G0 b g s1.heap.objs.size a 0:=by
    have r':=Gq.of t1 fun o e=>kp _ o e
    cases b with
    | true =>
      rcases f4 with⟨_,⟨o,e,c,_⟩⟩|⟨q,_⟩
      · obtain⟨o',e',c',_⟩:=(show g.IsTuple a _ from r')
        rw[e]at e';cases e';rw[c]at c';injection c' with z;exact absurd z (by decide)
      · exact q
    | false =>
      rcases f4 with⟨q,_⟩|⟨_,⟨o,e,c,_⟩⟩
      · exact q
      · obtain⟨o',e',c',_⟩:=(show g.IsList a _ from r')
        rw[e]at e';cases e';rw[c]at c';injection c' with z;exact absurd z (by decide)
   refine⟨_,[s1.heap.objs.size+1,s1.heap.objs.size],_,_,H1,rfl,I2,nA b _ _ a (by simp) (Is (L3 l1)) (Is l1),⟨⟨_,f1⟩,ir⟩,fun b hb=>?_,q⟩
   have hb':s1.heap.objs.size<=b:=by
    simp at hb
    rcases hb with rfl|rfl
    · exact KC _ 1
    · exact HA _
   exact I1.fpOk hb' (I1.hok.fresh hb')
end
end L2
namespace L2.VL
section
variable{X:Cx}{rl:RlT}{a:Expr}{elts:List Expr}{kt:Nat}{pt p pos:Pos}{fs:Ge}
noncomputable def eM(xs:List Hg):List Hg:=xs.zipIdx.map fun z=>.tuple [.int (z.2:Nat),z.1]
theorem jx(h:(eM xs)[i]?=some d):∃x,xs[i]?=some x/\d = .tuple [.int (i:Nat),x]:=by
 unfold eM at h
 rw[Ii,List.getElem?_zipIdx]at h
 cases ex:xs[i]? with
 | none=>rw[ex]at h;cases h
 | some x=>rw[ex]at h;simp at h;exact⟨x,rfl,h.symm⟩
noncomputable def FH(b:Bool)(fs:Ge):En->(List Hg->Prop)->Prop:=fun ρ Q=>fs ρ fun ws=>∃dx xs,ws=[.d dx]/\eQ dx=some xs/\cT dx=b/\Q (eM xs)
theorem m_(b:Bool)(hm:X.mg "enumerate" = none)(ha:Gx X rl [a] fs)(hg:Gl X "enumerate" := by rfl)(hs:Hy [a] X.env=(false,eval a X.env)::Hy [] X.env:=by rfl)(hpl:(Je pos (Hy [] X.env)).any (·.1)=false:=by rfl) :
 GF X rl (.Tuple elts kt pt) (.Call (.Name "enumerate" p) [a] [] pos) (FH b fs):=by
 obtain⟨t,p1,k⟩:=ha
 refine⟨_,u0 b hg hm p1 hs hpl,fun R Qd Q q h=>k R _ _ q fun vs ws F1 H1 g1 r1 ⟨dx,xs,ew,e1,kb1,q1⟩=>?_⟩
 subst ew kb1
 obtain⟨v,rfl,rv⟩:=qg r1
 obtain⟨a1,vs,rfl,rs,sq1⟩:=oj rv e1
 refine⟨a1,vs,rfl,sq1 _ g1.sub,h _ (eM xs) F1 H1 g1 ⟨fun i H x e s=>?_,fun i H hl s=>?_,fun i H v H' x F2 e s s2 ra y=>?_⟩ q1⟩
 · obtain⟨x1,ex,_⟩:=jx e
   obtain⟨v1,ev1,_⟩:=rs.get ex
   exact⟨vs,v1,sq1 _ s,ev1⟩
 · refine⟨vs,sq1 _ s,?_⟩
   unfold eM at hl
   rw[Hm,J6]at hl
   rw[rs.length]
   omega
 · obtain⟨x1,ex,ed⟩:=jx e
   obtain⟨vx,pp,hx,hp,ev,eH⟩:=y
   obtain⟨v1,ev1,rv1⟩:=rs.get ex
   have h1:=hx vs (sq1 _ (s.trans s2))
   rw[ev1]at h1
   cases h1
   subst ev eH ed
   have g:=Grow.data (a:=pp) (o:=.tup [.int (i:Nat),vx]) s2 ra hp
   exact⟨_,g,.tup (.inl (.inl az)) (.cons (.int _) (.cons ((rv1.mono s).mono g.fs) .nil))⟩
theorem gW(hm:X.mg "enumerate" = none)(ha:Gx X rl [a] fs)(hg:Gl X "enumerate" := by rfl)(hs:Hy [a] X.env=(false,eval a X.env)::Hy [] X.env:=by rfl)(hpl:(Je pos (Hy [] X.env)).any (·.1)=false:=by rfl) :
 GF X rl (.Tuple elts kt pt) (.Call (.Name "enumerate" p) [a] [] pos) (FH true fs):=m_ true hm ha hg hs hpl
theorem gX(hm:X.mg "enumerate" = none)(ha:Gx X rl [a] fs)(hg:Gl X "enumerate" := by rfl)(hs:Hy [a] X.env=(false,eval a X.env)::Hy [] X.env:=by rfl)(hpl:(Je pos (Hy [] X.env)).any (·.1)=false:=by rfl) :
 GF X rl (.Tuple elts kt pt) (.Call (.Name "enumerate" p) [a] [] pos) (FH false fs):=m_ false hm ha hg hs hpl
end
noncomputable def Bg(ws:List W):Option (List Hg):=match ws with
 | [.d (.tuple xs)]=>some (eM xs)
 | _=>none
theorem yA{fs:Ge}:FH true fs ρ=FR (fs ρ) fun ws=>aS (Bg ws) ret:=by
 show(FR (fs ρ) fun ws=>fun(Q:List Hg->Prop)=>∃dx xs,ws=[.d dx]/\eQ dx=some xs/\cT dx=true/\Q (eM xs))=_
 congr 1;funext ws
 refine ak fun Q=>?_
 simp only[aw,ret]
 constructor
 · rintro⟨dx,xs,rfl,a,b,q⟩
   cases dx with
   | tuple ys=>cases a;exact⟨_,rfl,q⟩
   | _=>cases b
 · rintro⟨zs,e,q⟩
   unfold Bg at e
   split at e
   · cases e;exact⟨_,_,rfl,rfl,rfl,q⟩
   · cases e
theorem jw(xs:List α)(enc:α->Hg):eM (xs.map enc)=xs.zipIdx.map fun z=>Jl [.int (z.2:Nat),enc z.1]:=by
 unfold eM
 rw[List.zipIdx_map,Ij]
 rfl
section
variable{α β:Type}{b:Hg->Mo (Option Hg)}
end
open PySem PySem.Spec
noncomputable def FT(bs:List Bool):Hg:=.list (bs.map .bool)
theorem jD{a b:List Bool}:FT a=FT b↔a=b:=by
 unfold FT;rw[K9]
 exact bO fun x y=>by rw[JH.injEq]
noncomputable def E4(ns:List Nat):Hg:=.list (ns.map fun k:Nat=>.int (k:Int))
theorem jo{a b:List Nat}:E4 a=E4 b↔a=b:=by
 unfold E4;rw[K9]
 exact bO fun x y=>by rw[Mc];omega
noncomputable def colQ(ps:List (List Rat))(i:Nat):List Rat:=ps.map fun p=>p.getD i 0
theorem pX{k:Nat}(f:Rat->Bool)(hk:k<ps.length):((colQ ps i).map f).getD k false=f ((ps.getD k []).getD i 0):=by
 rw[iB (show k<((colQ ps i).map f).length by unfold colQ;rw[Hm,Hm];exact hk),iB hk]
 unfold colQ
 rw[Lp,Lp]
noncomputable def Bh(ws:List W):Option (List Hg):=match ws with
 | [.d (.list xs)]=>some (eM xs)
 | _=>none
theorem y8(xs:List Hg):Bh [.d (.list xs)]=some (eM xs):=rfl
theorem yB{fs:Ge}:FH false fs ρ=FR (fs ρ) fun ws=>aS (Bh ws) ret:=by
 show(FR (fs ρ) fun ws=>fun(Q:List Hg->Prop)=>∃dx xs,ws=[.d dx]/\eQ dx=some xs/\cT dx=false/\Q (eM xs))=_
 congr 1;funext ws
 refine ak fun Q=>?_
 simp only[aw,ret]
 constructor
 · rintro⟨dx,xs,rfl,a,b,q⟩
   cases dx with
   | list ys=>cases a;exact⟨_,rfl,q⟩
   | tuple ys=>cases b
   | _=>cases a
 · rintro⟨zs,e,q⟩
   unfold Bh at e
   split at e
   · cases e;exact⟨_,_,rfl,rfl,rfl,q⟩
   · cases e
noncomputable def nu(k1 k2 k3:Str)(f1 f2 f3 fa:TV):TV:=fun ρ Q=>f1 ρ fun w1=>∃d1,w1.fz = .d d1/\f2 ρ fun w2=>∃d2,w2.fz = .d d2/\f3 ρ fun w3=>∃d3,w3.fz = .d d3/\fa ρ fun w=>∃k,w = .d (.str k)/\∃d,[(k1,d1),(k2,d2),(k3,d3)].lookup k=some d/\Q (.d d)
theorem nh(ps:List (Str×V))(k:Str):eY (ps.map fun p=>((Iw p.1:GQ),p.2)) (Iw k)=ps.lookup k:=by
 induction ps with
 | nil=>rfl
 | cons p ps ih =>
   unfold eY at ih ⊢
   rw[Ik,IT,IE]
   by_cases h:p.1=k
   · simp[h]
   · have h1:(k==p.1)=false:=by simpa using fun z=>h z.symm
     have h2:decide ((Iw p.1:GQ)=Iw k)=false:=by simpa using h
     rw[h1]
     simp only[h2,Kn,if_false]
     exact ih
theorem vG{K:W.Frag}{k1 k2 k3 k:Str}{v1 v2 v3:V}{d1 d2 d3:Hg}(r1:Rep K F v1 d1)(r2:Rep K F v2 d2)(r3:Rep K F v3 d3)(h:[(k1,d1),(k2,d2),(k3,d3)].lookup k=some d):∃v,[(k1,v1),(k2,v2),(k3,v3)].lookup k=some v/\Rep K F v d:=by
 simp only[Lc]at h ⊢
 split at h
 · cases h;exact⟨v1,rfl,r1⟩
 · split at h
   · cases h;exact⟨v2,rfl,r2⟩
   · split at h
     · cases h;exact⟨v3,rfl,r3⟩
     · cases h
section
variable{X:Cx}{rl:RlT}{e e1 e2 e3:Expr}{fa f1 f2 f3:TV}{pos dpos q1 q2 q3:Pos}{ρ:En}{j1 j2 j3}
theorem ua{k1 k2 k3:Str}(hr:Room 0 X.A)(hd:k1≠k2/\k1≠k3/\k2≠k3)(h1:PV X rl e1 f1)(h2:PV X rl e2 f2)(h3:PV X rl e3 f3)(h:PV X rl e fa)(hs:wA e:=by exact fun _ _=>rfl) :
 PV X rl (.Subscript (.Dict [some (.Constant (.str k1) j1 q1),some (.Constant (.str k2) j2 q2),some (.Constant (.str k3) j3 q3)] [e1,e2,e3] dpos) e pos) (nu k1 k2 k3 f1 f2 f3 fa):=by
 obtain⟨t,p,k⟩:=h
 obtain⟨t1,p1,c1⟩:=h1
 obtain⟨t2,p2,c2⟩:=h2
 obtain⟨t3,p3,c3⟩:=h3
 obtain⟨d12,d13,d23⟩:=hd
 refine⟨_,iu (rA hr) (oM (cL dj p1 (cL dj p2 (cL dj p3 oI))) rfl rfl (by intro z;cases z) (by show 3<=15;decide)) p hs,fun{F₀ H₀ F H σ ρ} R Qd Q q h=>?_⟩
 intro d hd
 have rd:rl.a≠some d:=fun z=>by obtain⟨o,zz⟩:=R.reel.live z;rw[hd]at zz;cases zz
 have g0:Grow rl F H F (D9 H d (.dK [])):=Grow.laid R.sub R.reel hd
 refine c1 (R.grow g0) _ _ q fun v1 w1 F1 H1 g1 r1 n1 ⟨d1,e1,q1⟩=>?_
 obtain⟨E1,g1',s1,r1'⟩:=dA.fz g1 r1 n1
 rw[e1]at r1'
 refine c2 ((R.grow g0).grow g1') _ _ q1 fun v2 w2 F2 H2 g2 r2 n2 ⟨d2,e2,q2⟩=>?_
 obtain⟨E2,g2',s2,r2'⟩:=dA.fz g2 r2 n2
 rw[e2]at r2'
 refine c3 (((R.grow g0).grow g1').grow g2') _ _ q2 fun v3 w3 F3 H3 g3 r3 n3 ⟨d3,e3,q3⟩=>?_
 obtain⟨E3,g3',s3,r3'⟩:=dA.fz g3 r3 n3
 rw[e3]at r3'
 have ga:Grow rl F (D9 H d (.dK [])) E3 H3:=(g1'.trans g2').trans g3'
 have hD3:H3 d=some (.dK []):=ga.same d _ az rd
 have fd:E3 d=none:=by rw[ga.old d _ az];exact R.sub.free hd
 refine⟨hD3,[(Iw k1,v1),(Iw k2,v2),(Iw k3,v3)],rfl,(by show 3<=15;decide),?_⟩
 have em:d8 [] [((Iw k1:GQ),v1),(Iw k2,v2),(Iw k3,v3)]=[(Iw k1,v1),(Iw k2,v2),(Iw k3,v3)]:=by
  unfold d8
  simp only[Jo,List.foldl_nil]
  have p0:dC ([]:List (GQ×V)) (Iw k1) v1=[(Iw k1,v1)]:=rfl
  rw[p0]
  unfold dC
  simp[d12,d13,d23]
 rw[em]
 have gb:Grow rl F H E3 (D9 H3 d (.dK [(Iw k1,v1),(Iw k2,v2),(Iw k3,v3)])):=by
  have g:=g0.trans ga
  refine⟨fun b o eb n=>by rw[aq (aU eb hd)];exact g.same b o eb n,g.fs,fun b o eb=>?_,g.old,fun r er=>?_⟩
  · rw[aq (fun z=>by rw[z,fd]at eb;cases eb)];exact g.sub b o eb
  · obtain⟨z1,⟨o,z2,z3⟩⟩:=g.reel r er
    exact⟨z1,⟨o,by rw[aq (fun z=>rd (by rw[<- z];exact er))];exact z2,z3⟩⟩
 refine k (R.grow gb) _ _ q3 fun v w F4 H4 g4 r4 n4 ⟨kk,ew,dd,lk,q4⟩=>?_
 subst ew
 have ev:v = .str kk:=by cases(show Rep X.K F4 v (.str kk)from r4);rfl
 subst ev
 have hD:H4 d=some (.dK [(Iw k1,v1),(Iw k2,v2),(Iw k3,v3)]):=g4.same d _ az rd
 obtain⟨u,lu,ru⟩:=vG (Rep.mono (g3'.fs.trans g4.fs) (Rep.mono g2'.fs r1')) (Rep.mono (g3'.fs.trans g4.fs) r2') (Rep.mono g4.fs r3') lk
 have gd:=zF.k (k:=(Iw kk:GQ)) hD
 have:eY [((Iw k1:GQ),v1),(Iw k2,v2),(Iw k3,v3)] (Iw kk)=some u:=(nh [(k1,v1),(k2,v2),(k3,v3)] kk).trans lu
 rw[this]at gd
 exact⟨d,u,rfl,gd,h _ (.d dd) _ _ (gb.trans g4) ru trivial q4⟩
theorem rg(k1 k2 k3:Str):nu k1 k2 k3 f1 f2 f3 fa ρ=FR (f1 ρ) fun w1=>aS (asD w1.fz) fun d1=>FR (f2 ρ) fun w2=>aS (asD w2.fz) fun d2=>FR (f3 ρ) fun w3=>aS (asD w3.fz) fun d3=>FR (fa ρ) fun w=>aS (asS w) fun k=>aS ([(k1,d1),(k2,d2),(k3,d3)].lookup k) fun d=>ret (.d d):=by
 refine ak fun Q=>?_
 simp only[nu,FR,aw,gQ,tM,ret]
end
section
variable{X:Cx}{rl:RlT}{elt t1 i1 t2 i2:Expr}{f1 f2:List Expr}{scope:Scope}{pos:Pos}{fi fj:En->(List Hg->Prop)->Prop}{g g2:Gj}{ft ft2:TB}{fe:TV}
end
section
variable{X:Cx}{rl:RlT}{a b e:Expr}{es:List Expr}{fa fb fc:TV}{fs:Ge}{pos p:Pos}
end
section
variable{X:Cx}{rl:RlT}{elt tg iter:Expr}{ifs:List Expr}{scope:Scope}{pos px:Pos}{fi:En->(List Hg->Prop)->Prop}{g:Gj}{ft:TB}{fe:TV}{ρ:En}
end
section
variable{X:Cx}{rl:RlT}{a b c o e:Expr}{es:List Expr}{fa fb:TV}{fs:Ge}{pos p apos cpos:Pos}{ρ:En}
end
end L2.VL
namespace L2
section
variable{prog:HZ}{w:IL}{A:ID}{E:Hq->Hv->Prop}{s:Hv}
end
section
variable{X:Cx}
end
end L2
namespace L2.VL
section
variable{X:Cx}{rl:RlT}{e:Expr}{fa:TV}{pos:Pos}{ρ:En}
end
theorem kM(x:Int):∀ns:List Int,((ns.map H_).any fun z=>Iq z (.int x))=decide (x∈ns)
 | []=>by simp
 | n::ns=>by
   simp only[Ik,Kx,eqv_ii,kM x ns]
   by_cases h:x=n
   · subst h;simp
   · have h':¬n=x:=fun z=>h z.symm
     by_cases h2:x∈ns<;>simp[h,h',h2]
theorem GlK.int{K:W.Frag}{x:Str}{a:Int}{t:Tok}(h1:W.nsIn K IA x=some (some (.int a t))):GlK K x (.int a):=⟨.int a,.int a t,h1,⟨t,rfl⟩,fun F=>.int a⟩
section
variable{X:Cx}{rl:RlT}{a b e:Expr}{fa fb:TV}{pos:Pos}{ρ:En}
end
end L2.VL
namespace L2
open L2.ZP
section
variable{X:Cx}{e1 e2:Expr}{elts:List Expr}{kt:Nat}{pt p pos:Pos}{ta:TA}
end
end L2
namespace L2.VL
section
variable{X:Cx}{rl:RlT}{a b:Expr}{elts:List Expr}{kt:Nat}{pt p pos:Pos}{fs:Ge}
end
end L2.VL
namespace L2
section
variable{X:Cx}
end
end L2
namespace L2.VL
section
variable{X:Cx}{rl:RlT}{a e:Expr}{fs:Ge}{pos p:Pos}
end
end L2.VL
namespace L2
section
variable{X:Cx}
end
end L2
namespace L2.VL
section
variable{X:Cx}{rl:RlT}{a e:Expr}{fs:Ge}{pos p:Pos}
end
end L2.VL
namespace L2
section
variable{X:Cx}
end
end L2
namespace L2.VL
section
variable{X:Cx}{rl:RlT}{a e:Expr}{fs:Ge}{pos p:Pos}
end
section
variable{X:Cx}{rl:RlT}{e:Expr}{fa:TV}{pos:Pos}{ρ:En}
end
section
variable{X:Cx}{rl:RlT}{a b:Expr}{fa fb:TV}{pos:Pos}
end
open PySem PySem.Spec
noncomputable def Fh(w:Str)(xs:List Rat)(s:Sd):List Bool:=xs.map fun x=>Fi s w x
noncomputable def Fd(s:Sd)(a b:List Bool):Hg:=.tuple [EJ s,FT a,FT b,fr (szQ s)]
theorem ke{e e':Sd}{s f s' f':List Bool}:Fd e s f=Fd e' s' f'↔e=e'/\s=s'/\f=f':=by
 unfold Fd
 simp only[Jc,Ji,and_true,bu,jD,cC]
 constructor
 · rintro⟨h1,h2,h3,_⟩;exact⟨h1,h2,h3⟩
 · rintro⟨rfl,rfl,rfl⟩;exact⟨rfl,rfl,rfl,rfl⟩
structure Rv where
 es:List Sd
 sh:List Nat
 op:List Nat
 sz:Rat
noncomputable def EK(r:Rv):Hg:=.tuple [mT r.es,E4 r.sh,E4 r.op,fr r.sz]
theorem jV{a b:Rv}:EK a=EK b↔a=b:=by
 unfold EK
 simp only[Jc,Ji,and_true,aL,jo,cC]
 constructor
 · rintro⟨h1,h2,h3,h4⟩;cases a;cases b;simp_all
 · rintro rfl;exact⟨rfl,rfl,rfl,rfl⟩
noncomputable def rvO(ps:List (List Rat))(ss:List Sd):Rv:=⟨ss,plc (fun p=>Fu p ss "shut") ps,plc (fun p=>Fu p ss "open") ps,bY ss⟩
noncomputable def Rv.wid(r:Rv)(s:Sd)(a b:List Bool):Rv:=⟨r.es++[s],r.sh.filter fun k=>a.getD k false,r.op.filter fun k=>b.getD k false,r.sz*szQ s⟩
theorem vH{s:Sd}{w:Str}(hl:ss.length=i)(hi:i<p.length):Fu p (ss++[s]) w=(Fu p ss w&&Fi s w (p.getD i 0)):=by
 unfold Fu;rw[qo 0 hl hi,List.all_append];simp
theorem nT(ss:List Sd)(s:Sd):bY (ss++[s])=bY ss*szQ s:=by
 unfold bY dF;rw[IJ,La];rfl
theorem tR(hp:∀p∈ps,p.length=n)(hl:ss.length=i)(hi:i<n)(s:Sd):(rvO ps ss).wid s (Fh "shut" (ps.map fun p=>p.getD i 0) s) (Fh "open" (ps.map fun p=>p.getD i 0) s)=rvO ps (ss++[s]):=by
 unfold Rv.wid rvO Fh
 have h:∀w:Str,(plc (fun p=>Fu p ss w) ps).filter (fun k=>((ps.map fun p=>p.getD i 0).map fun x=>Fi s w x).getD k false)=plc (fun p=>Fu p (ss++[s]) w) ps:=fun w=>by
  rw[<- uW (f:=fun p=>Fu p ss w) (g:=fun p=>Fi s w (p.getD i 0)) fun p mp=>vH hl (by rw[hp p mp];exact hi)]
  exact Lb fun k mk=>pX (ps:=ps) (i:=i) (fun x=>Fi s w x) (sQ k mk)
 rw[h,h,nT]
noncomputable def teD(t:Rat×Str×List Sd):Hg:=.tuple [fr t.1,.str t.2.1,mT t.2.2]
theorem i3{a b:Rat×Str×List Sd}:teD a=teD b↔a=b:=by
 unfold teD
 simp only[Jc,Ji,and_true,aL,cC,Nm.injEq]
 constructor
 · rintro⟨h1,h2,h3⟩;exact Prod.ext h1 (Prod.ext h2 h3)
 · rintro rfl;exact⟨rfl,rfl,rfl⟩
theorem jN{a b:List (Rat×Str×List Sd)}:a.map teD=b.map teD↔a=b:=bO fun _ _=>i3
noncomputable def EW(ps:List (List Rat))(ss:List Sd):Rat:=qd (cntN ps ss "shut") ps.length-bY ss
noncomputable def Fw(ps:List (List Rat))(ss:List Sd):Rat:=bY ss-qd (cntN ps ss "open") ps.length
noncomputable def msS(ps:List (List Rat))(ss:List Sd):List (Rat×Str×List Sd):=[(EW ps ss, "over", ss),(Fw ps ss, "lack", ss)]
noncomputable def FP{α:Type}(ts:List (Rat×α))(t0:Rat×α):Rat×α:=ts.foldl (fun b r=>if b.1<r.1 then r else b) t0
theorem wc(g:α->β)(rows:List (List α)):chP (rows.map (LV g))=(chP rows).map (LV g):=by
 have key:∀(rows:List (List α))(ch:List (List α)),(rows.map (LV g)).foldl (fun ch r=>ch.flatMap fun b=>r.map fun t=>b++[t]) (ch.map (LV g))=(rows.foldl (fun ch r=>ch.flatMap fun b=>r.map fun t=>b++[t]) ch).map (LV g):=by
  intro rows
  induction rows with
  | nil=>intro ch;rfl
  | cons r rows ih =>
    intro ch
    rw[Ik,Jo,Jo,<- ih]
    congr 1
    rw[Lq,List.flatMap_map]
    congr 1
    funext b
    rw[Ij,Ij]
    refine IR fun t _=>?_
    simp
 exact key rows [[]]
theorem nG{s:Sd}(h:s.Sm):EQ 190 (szQ s):=nF h
theorem sP:∀(qs:List Rat)(k:Nat)(a:Rat),EQ k a->(∀q∈qs,EQ 190 q)->EQ (k+190*qs.length) (qs.foldl (· * ·) a)
 | [],k,a,h,_=>h
 | q::qs,k,a,h,hq=>by
   have:=sP qs (k+190) (a*q) (yy h (hq q Ht)) fun r hr=>hq r (Hn _ hr)
   rw[Jo]
   refine this.mono ?_
   rw[Ip];omega
theorem uC(h4:ss.length<=4)(h:∀s∈ss,s.Sm):EQ 761 (bY ss):=by
 refine(sP _ 1 1 ⟨by decide,by decide⟩ fun q mq=>?_).mono (by rw[Hm];omega)
 obtain⟨s,ms,rfl⟩:=HQ.mp mq
 exact nF (h s ms)
theorem yk(h1:1<=ps.length)(h:ps.length<=60)(h4:ss.length<=4)(hs:∀s∈ss,s.Sm):EQ 900 (EW ps ss)/\EQ 900 (Fw ps ss):=by
 have s:=uC h4 hs
 exact⟨(eP (rZ h1 h fun p=>Fu p ss "shut") s).mono (by decide),(eP s (rZ h1 h fun p=>Fu p ss "open")).mono (by decide)⟩
end L2.VL
namespace L2
section
variable{M:Model}{A:ID}{E:Hq->Hv->Prop}{s:Hv}{base:Heap}{env:Env}{outer:List Env}{L a T:Addr}{C:Hq}{d:Option Addr}{Q:Unit->Hv->Prop}
end
section
variable{prog:HZ}{w:IL}{A:ID}{E:Hq->Hv->Prop}{s:Hv}{K:W.Frag}{C f:Addr}{us:List Hq}
end
open Builtin Builtin.ObjectAttr
section
variable{prog:HZ}{w:IL}{A:ID}{E:Hq->Hv->Prop}{s:Hv}{K:W.Frag}{C a t:Addr}{d:Option Addr}{name:Str}{v:Hq}{mA:Str->Option Hq}{ns:List Str}
end
open Builtin Builtin.ObjectAttr
section
variable{prog:HZ}{w:IL}{A:ID}{E:Hq->Hv->Prop}{s:Hv}{K:W.Frag}{C a dx:Addr}{name:Str}{v:Hq}{mA:Str->Option Hq}{oe:Obj}{vs:Array Hq}
end
open Builtin Builtin.ObjectAttr
section
variable{prog:HZ}{w:IL}{A:ID}{E:Hq->Hv->Prop}{s:Hv}{K:W.Frag}{C a dx:Addr}{ox od:Obj}
end
section
variable{X:Cx}{pins:List (Addr×Obj)}{σ:St}{H:Hp}{s:Hv}{a C dx:Addr}{f:Str}{v:V}{A:ID}{E:Hq->Hv->Prop}
end
section
variable{M:Model}{A:ID}{E:Hq->Hv->Prop}{s:Hv}{env:Env}{K:W.Frag}
end
section
variable{X:Cx}{o value:Expr}{n:Str}{pos pos':Pos}{ta tv:TE}
end
section
variable{X:Cx}{k:Nat}{f C:Addr}{fd:J8}{ps:List Str}{x n:Str}{p pos rpos:Pos}{e:Expr}{t:TA}
end
section
variable{P:HZ}{w:IL}{K:W.Frag}{mg:Str->Option Hq}{base:Heap}{N:List Str}{qual:Str}{scope:Scope}{f:Addr}{cd:Hq}{A:ID}{outer:List Env}{s s1:Hv}{H H1:Hp}{E:XK}{pins:List (Addr×Obj)}{σ:St}{a C dx:Addr}
end
namespace VL
abbrev XQ:=Str->List (Str×Hg)->Prop
section
variable{X:Cx}{rl:RlT}{E:XK}{st:Stmt}{rest body:List Stmt}{t:Gf}{u:VEnds->XQ->En->Prop}{c e:Expr}{f:TB}{fs:Ge}{pos:Pos}
end
section
variable{P:HZ}{w:IL}{K:W.Frag}{mg:Str->Option Hq}{base:Heap}{rl:RlT}{x:Str}{st:Stmt}{N ps:List Str}{k:Nat}{Pd:List W->(Hg->Prop)->XQ->Prop}{t:VEnds->XQ->En->Prop}
end
end VL
section
variable{X:Cx}{pins:List (Addr×Obj)}{σ:St}{H:Hp}{s:Hv}
end
section
variable{M:Model}{A:ID}{E:Hq->Hv->Prop}{s:Hv}{K:W.Frag}{C B a:Addr}{oe:Obj}
end
end L2
namespace L2.VL
section
variable{X:Cx}{rl:RlT}{E:XK}{e:Expr}{es:List Expr}{fs:Ge}{pos p:Pos}
end
section
variable{X:Cx}{rl:RlT}{tb:VEnds->XQ->En->Prop}{ts:Gf}{st b₀:Stmt}{suite:List Stmt}{cb n:Str}{cs:List Str}{B:Addr}{np hpos pos:Pos}
end
section
variable{X:Cx}{rl:RlT}{pos p p1:Pos}{c n x:Str}
end
end L2.VL
namespace K25
open PySem PySem.Spec PyProof.Rows L2 L2.VL
local macro_rules | `(tactic| simp_arith only [$xs,*])=>`(tactic| simp (maxSteps:=2000000) (disch:=(first | assumption | omega | decide)) only [Bx,BB,BE,BD,BC,Bt,Bs,Bw,Bv,Bu,BA,By,zJ,ED,EC,cT,dH,dU,W.cap,Fm,List.replicate,id,↓reduceIte,if_true,Nat.reduceAdd,Nat.reduceSub,Nat.reduceLeDiff,Int.cast_ofNat_Int,Int.reduceBEq,Int.reduceSub,Int.reduceAdd,Int.reduceLT,Int.reduceLE,Int.reduceMul,Int.reduceNeg,reduceCtorEq,yN,$xs,*])
local macro_rules | `(tactic| simp_arith only [$xs,*] at $h:ident)=>`(tactic| simp only [List.cons.injEq,W.d.injEq,PyData.int.injEq,PyData.bool.injEq,PyData.str.injEq,PyData.list.injEq,PyData.tuple.injEq,la,rh,qz,dR,and_true,true_and,reduceCtorEq,$xs,*] at $h:ident)
section
variable{P:HZ}{w:IL}{K:Kc}{mg:Str->Option Hq}{base:Heap}{rl:RlT}
noncomputable def zo(ws:List W):Prop:=∃ns:List Int,ws=[.sc ns]/\ns.length<=63
theorem zo.eq(h:ns.length<=63):zo [.sc ns]=True:=propext ⟨fun _=>trivial,fun _=>⟨ns,rfl,h⟩⟩
theorem xx{m:Mo Fl}{k:En->Mo Fl}{Q:Fl->Prop}(P:α->Prop)(g:α->Fl)(h:∀Q':Fl->Prop,(∀a,P a->Q' (g a))->m Q')(fin:∀a,P a->sq (VL.ret (g a)) k Q):sq m k Q:=h _ fun a ha=>fin a ha
theorem Dy(xs:List α)(f:α->Hg)(k:Nat):VL.cutD (xs.map f) none (some (k:Int))=(xs.take k).map f:=by
 unfold VL.cutD
 rw[HT.sIx_none,HT.sIx_nat,List.drop_zero,Hm,Nat.sub_zero,<- Nh]
 congr 1
 by_cases z:k<=xs.length
 · rw[Nat.min_eq_left z]
 · rw[Nat.min_eq_right (by omega),Ja (by omega),Ja (by omega)]
theorem jb:FnScope ["_law_script"] ["_law_script"] (defScope (Ef 48)):=⟨rfl,rfl,rfl,by decide +kernel,rfl,by decide +kernel,by decide +kernel⟩
theorem d__law_feed(Fn:FnIn K mg "_law_feed" (Ef 48) ["_law_script"])(Z:Bz mg):DfnR P w K mg base "_law_feed" ["_law_script"] 2 zo:=by
 have sc:=jb
 obtain⟨f,fd,hm,F,hb⟩:=Fn.ex
 refine⟨f,fd,hm,F.kp,hb,?_⟩
 refine F.ok (k:=1) sc (fun vs H Q E h=>?_) (fun cdv A outer s H vs Q E hr h=>?_)
 · obtain⟨F,ws,_,r,_,⟨ns,rfl,_⟩,_⟩:=h
   have:=Kd r
   simpa using this
 · obtain⟨F,ws,sm,r,ao,⟨ns,rfl,hn⟩,fin⟩:=h
   obtain⟨T,p,kk⟩:=pJ (X:=(qj G7 P w K mg base ["_law_script"] "_law_feed" (defScope (Ef 48)) f cdv A outer s H E).nox) (g_ Z.list_ (aa (wQ (vn 0) tX (tV af)) ac))
   refine⟨T,p,kk (gT sm (fun _ z=>by cases z) r ao) _ ?_ fin⟩
   simp_arith only[ae]
   exact⟨ns.take 63,by rw[show(63:Int)=((63:Nat):Int)from rfl,Dy],by rw[JR];omega⟩
noncomputable def aP:List W->(Hg->Prop)->Prop:=fun ws Q=>∃(m:Int),ws=[.reel,.d (.int m)]/\((0<m)/\(m<2^60))/\∀k:Int,(0<=k/\k<m)->Q (.int k)
theorem aP.mono:∀ws (Q Q':Hg->Prop),(∀d,Q d->Q' d)->aP ws Q->aP ws Q':=fun _ _ _ h_=>HB fun _=>Ho (Ho fun q_ o_ ho_=>h_ _ (q_ o_ ho_))
theorem aP.len:∀ws (Q:Hg->Prop),aP ws Q->ws.length=2:=fun _ _ h_=>by obtain⟨_,e_,_⟩:=h_;subst e_;rfl
theorem aP.eq(m:Int)(hm:0<m)(hb:m<2^60):aP [.reel,.d (.int m)]=FR (anyM fun k:Int=>0<=k/\k<m) fun k=>VL.ret (.int k:Hg):=by
 refine ak fun Q=>⟨?_,fun q_=>⟨m,rfl,⟨hm,hb⟩,q_⟩⟩
 rintro⟨m',e_,_,q_⟩
 simp_arith only[and_true]at e_
 obtain rfl:=e_
 exact q_
theorem jc:FnScope ["_law_feed_here", "_law_many", "_law_found", "_law_spot", "_law_cell", "_law_mixed"] ["_law_feed_here", "_law_many"] (defScope (Ef 49)):=⟨rfl,rfl,rfl,by decide +kernel,rfl,by decide +kernel,by decide +kernel⟩
theorem d__law_draw(Fn:FnIn K mg "_law_draw" (Ef 49) ["_law_feed_here", "_law_many"])(Z:Bz mg)    : Dfn P w K mg base rl "_law_draw" ["_law_feed_here", "_law_many"] 1 aP:=by
 have sc:=jc
 refine Dfn.of Fn sc (aP.mono) (aP.len) (fun cdv A outer s H E hr=>(ai (gR (i:=0) (hr.mono (Ig _)) (.inr (.inr rfl)) (v_add (fF (i:=0) (hr.mono (Ig _)) (.inr (.inr rfl))) af))
  (ai (cg (a_ mI lT (aK _) (fF (i:=0) (hr.mono (Ig _)) (.inr (.inl rfl))) af) (ai (ay 2 sc.nd (v_mod (fF (i:=0) (hr.mono (Ig _)) (.inr (.inl rfl))) (vn 1)))
  (ai (gR (i:=0) (hr.mono (Ig _)) (.inr (.inl rfl)) (v_div (fF (i:=0) (hr.mono (Ig _)) (.inr (.inl rfl))) (vn 1)))
  (av (aA (vn 2))))) br)
  (ai (ay 3 sc.nd (fF (i:=0) (hr.mono (Ig _)) (.inl rfl)))
  (ai (gR (i:=0) (hr.mono (Ig _)) (.inl rfl) (v_add (vn 3) af))
  (ai (ay 4 sc.nd af)
  (ai (cg (a_ (jm hr.units) cD (aK _) (fu (i:=0) (hr.mono (Ig _))) (cJ ac)) (av (ay 4 sc.nd (bR (fu (i:=0) (hr.mono (Ig _))) (v_mod (vn 3) (cK Z.len_ (aa (fu (i:=0) (hr.mono (Ig _))) ac)))))) br)
  (ai (cg (GJ.pb (sy (a_ AK zQ (aK _) (vn 4) (v_pow af af)) (ng (a_ mH lS (aK _) (vn 3) (cK Z.len_ (aa (fu (i:=0) (hr.mono (Ig _))) ac)))))) (ai (gR (i:=0) (hr.mono (Ig _)) (.inr (.inl rfl)) (v_div (vn 4) (vn 1)))
  (av (aA (v_mod (vn 4) (vn 1))))) br)
  (ai (ay 5 sc.nd (v_mod (v_mul (v_add (v_add (v_mod (vn 4) af) (v_mul af (fF (i:=0) (hr.mono (Ig _)) (.inr (.inr rfl))))) af) af) af))
  (ai (ay 5 sc.nd (v_mod (v_mul (v_add (v_div (vn 5) af) (v_mul af (fF (i:=0) (hr.mono (Ig _)) (.inr (.inr rfl))))) af) af))
  (av (aA (v_mod (v_div (vn 5) af) (vn 1)))))))))))))) ?_
 rintro ws Q ⟨m,rfl,⟨hm,hb⟩,hQ⟩
 have hm0:m≠0:=by omega
 have hmd:∀i:Int,eO i m:=fun i=>eO.of hm0 (by omega)
 have hnn:∀i:Int,0<=i->0<=i.fdiv m:=fun i hi=>Int.fdiv_nonneg hi (by omega)
 have fm:∀i:Int,0<=i.fmod m/\i.fmod m<m:=fun i=>⟨I_ _ hm,JQ _ hm⟩
 refine aE ?_
 have c1:∀z:Int,bh 1013 z:=fun z=>.lt (by decide)
 have c2:∀z:Int,bh 37 z:=fun z=>.lt (by decide)
 have c3:∀z:Int,bh z 48271:=fun z=>.rt (by decide)
 have c4:∀z:Int,bh z 69621:=fun z=>.rt (by decide)
 have d6:∀z:Int,eO z 64:=fun z=>eO.of (by decide) (by decide)
 simp_arith only[ag,ae,aB,aC,ar,aD,au,aj]
 (with_reducible (first|refine ah fun n hn=>?_|refine al fun n hn=>?_))
 try simp_arith only[ag,ae,aB,aC,ar,aD,au,aj]
 (with_reducible (first|refine ah fun l hl=>?_|refine al fun l hl=>?_))
 try rw[sq_ite]
 refine cU (fun _=>?_) fun _=>?_
 · simp_arith only[ag,ae,aB,aC,ar,aD,au,aj]
   (with_reducible (first|refine ah fun l2 hl2=>?_|refine al fun l2 hl2=>?_))
   try simp_arith only[ag,ae,aB,aC,ar,aD,au,aj]
   (with_reducible (first|refine ah fun l3 hl3=>?_|refine al fun l3 hl3=>?_))
   have h0:=hnn l3 hl3
   try simp_arith only[ag,ae,aB,aC,ar,aD,au,aj]
   exact cB (hmd _) (aF (hQ _ (fm _)))
 · simp_arith only[ag,ae,aB,aC,ar,aD,au,aj]
   (with_reducible (first|refine ah fun a ha=>?_|refine al fun a ha=>?_))
   try simp_arith only[ag,ae,aB,aC,ar,aD,au,aj]
   generalize rl.b.snd=cs
   refine xx (fun _:Int=>True) (fun z=>.nx [some .reel,some (.d (.int m)),none,some (.d (.int a)),some (.d (.int z)),none]) ?_ ?_
   · intro Q' hQ' _ _
     refine cB (shaped_ints cs) (rq (fun he=>?_) fun _=>hQ' 0 trivial)
     intro _ _ _ _
     have he:cs≠[]:=by rintro rfl;exact absurd he (by decide)
     have hz:(0:Int)<(cs.length:Int):=by have:=MV.mpr he;omega
     refine cB (by omega) ?_
     obtain⟨z,ez,_⟩:=sg (xs:=cs) (I_ a hz) (JQ a hz)
     rw[ez]
     exact hQ' z trivial
   · intro z _
     have t0:(10:Int)^J0 18<=z->0<=z:=fun h=>Nt (by decide) h
     repeat' (first|exact aF (hQ _ (fm _))|((with_reducible refine cB ?_ ?_);(first|exact hmd _|exact hnn _ (by assumption)|exact hnn _ (t0 (by simp_all))|exact c1 _|exact c2 _|exact c3 _|exact c4 _|exact d6 _|exact eO.of (by decide) (by decide)|exact⟨by decide,by decide,by decide⟩|omega|assumption|decide))|(with_reducible refine ah fun _ _=>?_)|(with_reducible refine al fun _ _=>?_)|(with_reducible refine cU (fun _=>?_) fun _=>?_)|(simp_arith only[ae,aB,aC,ar,aD,au,aj]))
noncomputable def bN:List W->(Hg->Prop)->Prop:=fun ws Q=>∃(a b:Int),ws=[.d (.int a),.d (.int b)]/\((0<b)/\(b.natAbs<2^8000))/\Q (fr (qd a b))
theorem bN.mono:∀ws (Q Q':Hg->Prop),(∀d,Q d->Q' d)->bN ws Q->bN ws Q':=fun _ _ _ h_=>HB fun _=>HB fun _=>Ho (Ho (h_ _))
theorem bN.len:∀ws (Q:Hg->Prop),bN ws Q->ws.length=2:=fun _ _ h_=>by obtain⟨_,_,e_,_⟩:=h_;subst e_;rfl
theorem bN.eq(a b:Int)(hb:0<b)(hz:b.natAbs<2^8000):bN [.d (.int a),.d (.int b)]=VL.ret (fr (qd a b):Hg):=by
 refine ak fun Q=>⟨?_,fun q_=>⟨a,b,rfl,⟨hb,hz⟩,q_⟩⟩
 rintro⟨a',b',e_,_,q_⟩
 simp_arith only[cC,bu,bC,aL,aQ,bE]at e_
 obtain⟨rfl,rfl⟩:=e_
 exact q_
theorem ja:FnScope ["_law_top", "_law_bottom", "_law_one", "_law_other"] ["_law_top", "_law_bottom"] (defScope (Ef 50)):=⟨rfl,rfl,rfl,by decide +kernel,rfl,by decide +kernel,by decide +kernel⟩
theorem d__law_frac(Fn:FnIn K mg "_law_frac" (Ef 50) ["_law_top", "_law_bottom"])(Z:Bz mg)    : Dfn P w K mg base rl "_law_frac" ["_law_top", "_law_bottom"] 1 bN:=by
 have sc:=ja
 refine Dfn.of Fn sc (bN.mono) (bN.len) (fun cdv A outer s H E hr=>(ai (kS 2 3 rfl sc.nd (aa (wV Z.abs_ (aa (vn 0) ac)) (aa (vn 1) ac)))
  (ai (fC [] Js (a_ mI lT (aK _) (vn 3) af) (av (kS 2 3 rfl sc.nd (aa (vn 3) (aa (v_mod (vn 2) (vn 3)) ac)))))
  (av (aA (cE (aa (v_div (vn 0) (vn 2)) (aa (v_div (vn 1) (vn 2)) ac)))))))) ?_
 rintro ws Q ⟨a,b,rfl,⟨hb,hz⟩,hQ⟩
 refine aE ?_
 have e:Jv (if a<0 then -a else a) b=Jv a b:=by split<;>simp[Jv]
 simp_arith only[ae]
 refine kQ (σ:=Int×Int) (fun s=>[some (.d (.int a)),some (.d (.int b)),some (.d (.int s.1)),some (.d (.int s.2))]) (fun s=>decide (0<s.2)) (fun s=>(s.2,s.1.fmod s.2)) (fun s=>s.2.natAbs) (fun s=>0<=s.1/\0<=s.2/\Jv s.1 s.2=Jv a b) (if a<0 then -a else a,b) rfl ⟨by dsimp only;split<;>omega,by dsimp only;omega,e⟩ ?_ ?_ ?_
 · intro s _
   simp_arith only[ae]
 · rintro s ⟨h1,h2,e⟩ c
   have hc:0<s.2:=by simpa using c
   have hc':s.2≠0:=by omega
   refine⟨⟨h2,I_ _ hc,by rw[iC];exact e⟩,fX hc',_,?_,rfl⟩
   simp_arith only[ag,ae]
 · rintro s ⟨h1,h2,e⟩ c
   have hc:¬0<s.2:=by simpa using c
   have hc:s.2=0:=by omega
   rw[hc,Int.gcd_zero_right]at e
   have ex:s.1=(Jv a b:Int):=by omega
   have c1:eO a (Jv a b:Int):=iE hb hz _
   have c2:eO b (Jv a b:Int):=iE hb hz _
   simp_arith only[ag,ae,ex]
   rw[oX hb]
   exact aF hQ
noncomputable def G5(q:Rat):Prop:=EQ 45 q/\0<=q/\q<1
noncomputable def FQ(x y:Int):Int:=(if decide (y<x)=true then(1:Int)else 0)-(if decide (x<y)=true then(1:Int)else 0)
noncomputable def EU(x:Int×Int):Hg:=.tuple [.int x.1,.int x.2]
theorem AC{x y:Int×Int}:EU x=EU y↔x=y:=⟨fun h=>by obtain⟨a,b⟩:=x;obtain⟨c,d⟩:=y;unfold EU at h;cases h;rfl,fun h=>by rw[h]⟩
noncomputable def bx:List W->(Hg->Prop)->Prop:=fun ws Q=>∃(x y:Int×Int),ws=[.d (EU x),.d (EU y)]/\((G9 x.1)/\(G9 x.2)/\(G9 y.1)/\(G9 y.2))/\Q (.int (FQ (x.1*y.2) (y.1*x.2)))
theorem bx.mono:∀ws (Q Q':Hg->Prop),(∀d,Q d->Q' d)->bx ws Q->bx ws Q':=fun _ _ _ h_=>HB fun _=>HB fun _=>Ho (Ho (h_ _))
theorem bx.len:∀ws (Q:Hg->Prop),bx ws Q->ws.length=2:=fun _ _ h_=>by obtain⟨_,_,e_,_⟩:=h_;subst e_;rfl
theorem bx.eq(x y:Int×Int)(h1:G9 x.1)(h2:G9 x.2)(h3:G9 y.1)(h4:G9 y.2):bx [.d (EU x),.d (EU y)]=VL.ret (.int (FQ (x.1*y.2) (y.1*x.2)):Hg):=by
 refine ak fun Q=>⟨?_,fun q_=>⟨x,y,rfl,⟨h1,h2,h3,h4⟩,q_⟩⟩
 rintro⟨x',y',e_,_,q_⟩
 simp_arith only[cC,bu,bC,aL,aQ,bE,AC]at e_
 obtain⟨rfl,rfl⟩:=e_
 exact q_
theorem jU:FnScope ["_law_one", "_law_other", "_law_left", "_law_right"] ["_law_one", "_law_other"] (defScope (Ef 51)):=⟨rfl,rfl,rfl,by decide +kernel,rfl,by decide +kernel,by decide +kernel⟩
theorem d__law_cmp(Fn:FnIn K mg "_law_cmp" (Ef 51) ["_law_one", "_law_other"])(Z:Bz mg)    : Dfn P w K mg base rl "_law_cmp" ["_law_one", "_law_other"] 1 bx:=by
 have sc:=jU
 refine Dfn.of Fn sc (bx.mono) (bx.len) (fun cdv A outer s H E hr=>(ai (ay 2 sc.nd (v_mul (bR (vn 0) af) (bR (vn 1) af)))
  (ai (ay 3 sc.nd (v_mul (bR (vn 1) af) (bR (vn 0) af)))
  (av (aA (v_sub (sA Z.int_ (aa (fG mI lT (aK _) (vn 2) (vn 3)) ac)) (sA Z.int_ (aa (fG mH lS (aK _) (vn 2) (vn 3)) ac)))))))) ?_
 rintro ws Q ⟨x,y,rfl,⟨h1,h2,h3,h4⟩,hQ⟩
 refine aE ?_
 have m1:bh x.1 y.2:=.bb h1 h4
 have m2:bh y.1 x.2:=.bb h3 h2
 simp_arith only[ag,ae,Hb,EU]
 exact aF hQ
theorem yU{a b:List Rat}:a.map fr=b.map fr↔a=b:=List.map_inj_right fun x y h=>gM h
noncomputable def bp:List W->(Hg->Prop)->Prop:=fun ws Q=>∃(qs:List Rat)(b:Bool),ws=[.reel,.d (.list (qs.map fr)),.d (.bool b)]/\((∀q∈qs,G5 q)/\(qs.length<1000))/\∀q:Rat,(G5 q)->Q (fr q)
theorem bp.mono:∀ws (Q Q':Hg->Prop),(∀d,Q d->Q' d)->bp ws Q->bp ws Q':=fun _ _ _ h_=>HB fun _=>HB fun _=>Ho (Ho fun q_ o_ ho_=>h_ _ (q_ o_ ho_))
theorem bp.len:∀ws (Q:Hg->Prop),bp ws Q->ws.length=3:=fun _ _ h_=>by obtain⟨_,_,e_,_⟩:=h_;subst e_;rfl
theorem bp.eq(qs:List Rat)(b:Bool)(hq:∀q∈qs,G5 q)(hl:qs.length<1000):bp [.reel,.d (.list (qs.map fr)),.d (.bool b)]=FR (anyM fun q:Rat=>G5 q) fun q=>VL.ret (fr q:Hg):=by
 refine ak fun Q=>⟨?_,fun q_=>⟨qs,b,rfl,⟨hq,hl⟩,q_⟩⟩
 rintro⟨qs',b',e_,_,q_⟩
 simp_arith only[cC,bu,bC,aL,aQ,bE,yU]at e_
 obtain⟨rfl,rfl⟩:=e_
 exact q_
theorem gl:FnScope ["_law_feed_here", "_law_seen", "_law_is_first", "_law_way", "_law_some", "_law_bottom", "_law_top"] ["_law_feed_here", "_law_seen", "_law_is_first"] (defScope (Ef 52)):=⟨rfl,rfl,rfl,by decide +kernel,rfl,by decide +kernel,by decide +kernel⟩
theorem d__law_number(Fn:FnIn K mg "_law_number" (Ef 52) ["_law_feed_here", "_law_seen", "_law_is_first"])(Z:Bz mg)(d__law_draw:∀rl,Dfn P w K mg base rl "_law_draw" ["_law_feed_here", "_law_many"] 1 aP)(d__law_frac:∀rl,Dfn P w K mg base rl "_law_frac" ["_law_top", "_law_bottom"] 1 bN)   : Dfn P w K mg base rl "_law_number" ["_law_feed_here", "_law_seen", "_law_is_first"] 2 bp:=by
 have sc:=gl
 refine Dfn.of Fn sc (bp.mono) (bp.len) (fun cdv A outer s H E hr=>(ai (ay 3 sc.nd (am (d__law_draw _) (hr.mono (by decide)) (aa (vn 0) (aa af ac))))
  (ai (cg (a_ (eV hr.units) cD (aK _) (vn 3) af) (av (aA (cE (aa af (aa af ac))))) br)
  (ai (cg (GJ.pb (sy (a_ mH lS (aK _) (vn 3) af) (ng (a_ (jm hr.units) cD (aK _) (vn 1) (cJ ac))))) (av (aA (bR (vn 1) (am (d__law_draw _) (hr.mono (by decide)) (aa (vn 0) (aa (cK Z.len_ (aa (vn 1) ac)) ac)))))) br)
  (ai (ay 4 sc.nd (cJ (aa af (aa af (aa af (aa af (aa af (aa af (aa af (aa af (aa af (aa af ac))))))))))))
  (ai (cg (de (vn 2)) (av (ay 4 sc.nd (kY (cJ (aa af (aa af (aa af (aa af (aa af (aa af (aa af ac)))))))) (wR (cJ (aa (v_sub (v_pow af af) af) ac)) af)))) br)
  (ai (ay 5 sc.nd (bR (vn 4) (am (d__law_draw _) (hr.mono (by decide)) (aa (vn 0) (aa af ac)))))
  (ai (ay 6 sc.nd (v_mod (v_add (v_mul (am (d__law_draw _) (hr.mono (by decide)) (aa (vn 0) (aa (v_pow af af) ac))) (v_pow af af)) (am (d__law_draw _) (hr.mono (by decide)) (aa (vn 0) (aa (v_pow af af) ac)))) (vn 5)))
  (av (aA (am (d__law_frac _) (hr.mono (by decide)) (aa (bR (cJ (aa (vn 6) (aa (vn 6) (aa (v_sub (vn 5) af) (aa af ac))))) (am (d__law_draw _) (hr.mono (by decide)) (aa (vn 0) (aa af ac)))) (aa (vn 5) ac))))))))))))) ?_
 rintro ws Q ⟨qs,b,rfl,⟨hq,hl⟩,hQ⟩
 refine aE ?_
 have sz:=HV
 simp_arith only[ag,ae,aB,aC,ar,aD,au,aj,Hb,aP.eq]
 (with_reducible (first|refine ah fun w hw=>?_|refine al fun w hw=>?_))
 have s0:Iv (.list [])=true:=rfl
 have sf:=l_ qs
 have ev:Iq (.list (qs.map fr)) (.list [])=qs.isEmpty:=by rw[kD];cases qs<;>rfl
 have eqi:∀i j:Int,Iq (.int i) (.int j)=(i==j):=fun i j=>by simp[Iq]
 have g0:G5 0:=⟨⟨by decide,by decide⟩,IS,by decide⟩
 simp_arith only[ag,ae,aB,aC,ar,aD,au,aj,Hb,aP.eq,s0,sf,ev,eqi]
 refine cU (fun _=>aF (hQ 0 g0)) fun _=>?_
 refine cU (fun hc=>?_) fun _=>?_
 · have hn:qs≠[]:=by rintro rfl;simp at hc
   have hz:(0:Int)<(qs.length:Int):=by have:=MV.mpr hn;omega
   have hb:(qs.length:Int)<2^60:=by omega
   simp_arith only[ag,ae,aB,aC,ar,aD,au,aj,Hb,aP.eq]
   (with_reducible (first|refine ah fun j hj=>?_|refine al fun j hj=>?_))
   obtain⟨r,er,mr⟩:=sg (xs:=qs) hj.1 hj.2
   rw[cw,er]
   exact aF (hQ r (hq r mr))
 · have c12:zG 10 12:=⟨by decide,by decide,by decide⟩
   have c6:zG 10 6:=⟨by decide,by decide,by decide⟩
   refine cU (fun _=>?_) fun _=>?_
   · refine cB c12 ?_
     (with_reducible (first|refine ah fun t ht=>?_|refine al fun t ht=>?_))
     refine Ew (cj (xs:=[2,3,5,12,97,1000,1000,10^J0 12-11,10^J0 12-11,10^J0 12-11]) (enc:=H_) (fun y:Int=>2<=y/\y<2^41) rfl ht.1 (by simpa using ht.2) (by decide) fun y hy=>?_)
     have y0:y≠0:=by omega
     have h6a:(0:Int)<10^J0 6:=by decide
     have h6b:(10:Int)^J0 6<2^60:=by decide
     have cm:∀z:Int,bh z (10^J0 6):=fun z=>.rt (by decide)
     simp_arith only[ag,ae,aB,aC,ar,aD,au,aj,Hb,aP.eq,c6,cm]
     (with_reducible (first|refine ah fun u hu=>?_|refine al fun u hu=>?_))
     try simp_arith only[ag,ae,aB,aC,ar,aD,au,aj,Hb,aP.eq]
     (with_reducible (first|refine ah fun v hv=>?_|refine al fun v hv=>?_))
     have hx0:=I_ (u*10^J0 6+v) (show 0<y by omega)
     have hx1:=JQ (u*10^J0 6+v) (show 0<y by omega)
     generalize (u*10^J0 6+v).fmod y=x at hx0 hx1 ⊢
     try simp_arith only[ag,ae,aB,aC,ar,aD,au,aj,Hb,aP.eq]
     (with_reducible (first|refine ah fun e he=>?_|refine al fun e he=>?_))
     have hb:0<y:=by omega
     have hz:y.natAbs<2^8000:=Hz (show y.natAbs<2^41 by omega) (HM (by decide) (by decide))
     refine cj (xs:=[x,x,y-1,1]) (enc:=H_) (fun z:Int=>0<=z/\z<y) rfl he.1 (by simpa using he.2) (by intro z hz;simp at hz;omega) fun z hz1=>?_
     simp_arith only[ag,ae,bN.eq]
     exact aF (hQ _ ⟨oB hb (by omega) (by omega),uM hb hz1.1,oD hb hz1.2⟩)
   · (with_reducible (first|refine ah fun t ht=>?_|refine al fun t ht=>?_))
     refine Ew (cj (xs:=[2,3,4,5,6,8,12,97,7,11]) (enc:=H_) (fun y:Int=>2<=y/\y<2^41) rfl ht.1 (by simpa using ht.2) (by decide) fun y hy=>?_)
     have y0:y≠0:=by omega
     have h6a:(0:Int)<10^J0 6:=by decide
     have h6b:(10:Int)^J0 6<2^60:=by decide
     have cm:∀z:Int,bh z (10^J0 6):=fun z=>.rt (by decide)
     simp_arith only[ag,ae,aB,aC,ar,aD,au,aj,Hb,aP.eq,c6,cm]
     (with_reducible (first|refine ah fun u hu=>?_|refine al fun u hu=>?_))
     try simp_arith only[ag,ae,aB,aC,ar,aD,au,aj,Hb,aP.eq]
     (with_reducible (first|refine ah fun v hv=>?_|refine al fun v hv=>?_))
     have hx0:=I_ (u*10^J0 6+v) (show 0<y by omega)
     have hx1:=JQ (u*10^J0 6+v) (show 0<y by omega)
     generalize (u*10^J0 6+v).fmod y=x at hx0 hx1 ⊢
     try simp_arith only[ag,ae,aB,aC,ar,aD,au,aj,Hb,aP.eq]
     (with_reducible (first|refine ah fun e he=>?_|refine al fun e he=>?_))
     have hb:0<y:=by omega
     have hz:y.natAbs<2^8000:=Hz (show y.natAbs<2^41 by omega) (HM (by decide) (by decide))
     refine cj (xs:=[x,x,y-1,1]) (enc:=H_) (fun z:Int=>0<=z/\z<y) rfl he.1 (by simpa using he.2) (by intro z hz;simp at hz;omega) fun z hz1=>?_
     simp_arith only[ag,ae,bN.eq]
     exact aF (hQ _ ⟨oB hb (by omega) (by omega),uM hb hz1.1,oD hb hz1.2⟩)
noncomputable def Gw(s:Nat)(ps:List (List Rat)):Prop:=∀p∈ps,p.length=s/\∀q∈p,G5 q
noncomputable def fg(s m:Nat)(ps:List (List Rat)):Prop:=1<=ps.length/\ps.length<=m+2/\Gw s ps/\∃bs:List (List Rat),bs.length<=m/\∀p∈ps,p∈bs
noncomputable def tF(cols:List (List Rat)):List (List Hg):=cols.map fun c=>c.map fr
theorem tE{cols:List (List Rat)}(h:n<cols.length):(tF cols)[n]?=some (cols[n].map fr):=by unfold tF;rw[Ii,Hu h];rfl
theorem wa{cols:List (List Rat)}(h:n<cols.length):(tF cols).set n (cols[n].map fr++[fr q])=tF (cols.set n (cols[n]++[q])):=by unfold tF;rw[List.map_set,IJ];rfl
noncomputable def CS(s i n:Nat)(cols:List (List Rat)):Prop:=cols.length=s/\(∀j (h:j<cols.length),cols[j].length<=i+(if j<n then 1 else 0))/\∀c∈cols,∀q∈c,G5 q
theorem yz{m:(W->Prop)->Prop}{Q:W->Prop}(h:∀Q':W->Prop,(∀b,Q' (.d (.bool b)))->m Q')(fin:∀b,Q (.d (.bool b))):m Q:=h Q fin
theorem jg{y:Hg}(h:(aM 0 n)[i]?=some y):i<n/\y = .int (i:Int):=by
 have e:aM 0 n=(HL n).map fun j:Nat=>H_ (0+(j:Int)):=rfl
 rw[e,Ii]at h
 cases q:(HL n)[i]? with
 | none=>rw[q]at h;cases h
 | some z =>
   rw[q]at h
   obtain⟨hl,hz⟩:=Ia.mp q
   rw[Ix]at hl
   rw[LU]at hz
   subst hz
   cases h
   exact⟨hl,by show H_ (0+(i:Int))=_;rw[Nu]⟩
noncomputable def bo:List W->(Hg->Prop)->Prop:=fun ws Q=>∃(s m:Int),ws=[.reel,.d (.int s),.d (.int m)]/\((1<=s)/\(s<=4)/\(1<=m)/\(m<=6))/\∀ps:List (List Rat),(fg s.toNat m.toNat ps)->Q (ptsQ ps)
theorem bo.mono:∀ws (Q Q':Hg->Prop),(∀d,Q d->Q' d)->bo ws Q->bo ws Q':=fun _ _ _ h_=>HB fun _=>HB fun _=>Ho (Ho fun q_ o_ ho_=>h_ _ (q_ o_ ho_))
theorem bo.len:∀ws (Q:Hg->Prop),bo ws Q->ws.length=3:=fun _ _ h_=>by obtain⟨_,_,e_,_⟩:=h_;subst e_;rfl
theorem bo.eq(s m:Int)(s1:1<=s)(s4:s<=4)(m1:1<=m)(m6:m<=6):bo [.reel,.d (.int s),.d (.int m)]=FR (anyM fun ps:List (List Rat)=>fg s.toNat m.toNat ps) fun ps=>VL.ret (ptsQ ps:Hg):=by
 refine ak fun Q=>⟨?_,fun q_=>⟨s,m,rfl,⟨s1,s4,m1,m6⟩,q_⟩⟩
 rintro⟨s',m',e_,_,q_⟩
 simp_arith only[and_true]at e_
 obtain⟨rfl,rfl⟩:=e_
 exact q_
theorem gj:FnScope ["_law_feed_here", "_law_s", "_law_most", "_law_columns", "_law_found", "_law_j", "_law_point", "_law_k", "_law_x", "_law_again"] ["_law_feed_here", "_law_s", "_law_most"] (defScope (Ef 53)):=⟨rfl,rfl,rfl,by decide +kernel,rfl,by decide +kernel,by decide +kernel⟩
theorem d__law_points(Fn:FnIn K mg "_law_points" (Ef 53) ["_law_feed_here", "_law_s", "_law_most"])(Z:Bz mg)(d__law_draw:∀rl,Dfn P w K mg base rl "_law_draw" ["_law_feed_here", "_law_many"] 1 aP)(d__law_number:∀rl,Dfn P w K mg base rl "_law_number" ["_law_feed_here", "_law_seen", "_law_is_first"] 2 bp)   : Dfn P w K mg base rl "_law_points" ["_law_feed_here", "_law_s", "_law_most"] 3 bo:=by
 have sc:=gj
 refine Dfn.of Fn sc (bo.mono) (bo.len) (fun cdv A outer s H E hr=>(AN 3 sc.nd ["_law_k"] [none] rfl (bT Z.range_ (aa (vn 1) ac)) (fun _=>ax 0 (show Ir (["_law_k"]:List Str) by decide +kernel)) (dI (wn (kR 4 sc.nd (cJ ac))) (dI (yD Js rfl (bT Z.range_ (aa (v_add af (am (d__law_draw _) (hr.mono (by decide)) (aa (vn 0) (aa (vn 2) ac)))) ac)) (ax 5 sc.nd) (dI (wn (ay 6 sc.nd (cE ac))) (dI (yD Js rfl (bT Z.range_ (aa (vn 1) ac)) (ax 7 sc.nd) (dI (AV 8 0 3 7 sc.nd (d__law_number _) (hr.mono (by decide)) (v_and (fG (eV hr.units) cD (aK _) (vn 4) (cJ ac)) (qr (fG (eV hr.units) cD (aK _) (vn 7) af)))) (dI (AW 3 7 8) (dI (wn (ay 6 sc.nd (nl (vn 6) (cE (aa (vn 8) ac))))) vB)))) (dI (wn (mZ 4 (aa (vn 6) ac))) vB)))) (dI (wn (eF [5,9] Js rfl (bT Z.range_ (aa (am (d__law_draw _) (hr.mono (by decide)) (aa (vn 0) (aa af ac))) ac)) (ax 5 sc.nd) (ai (ay 9 sc.nd (bR (vn 4) (am (d__law_draw _) (hr.mono (by decide)) (aa (vn 0) (aa (cK Z.len_ (aa (vn 4) ac)) ac)))))
  (av (wF 4 (aa (am (d__law_draw _) (hr.mono (by decide)) (aa (vn 0) (aa (v_add (cK Z.len_ (aa (vn 4) ac)) af) ac))) (aa (vn 9) ac))))))) (dI (wn (aA (bZ Z.tuple_ (aa (vn 4) ac)))) vB)))))) ?_
 rintro ws Q ⟨s,m,rfl,⟨s1,s4,m1,m6⟩,hQ⟩
 have sz:=HV
 have gs : -(2^62)<=s/\s<2^62:=by omega
 unfold Fg
 have e0:FG (iY (ue 1) sC) [some .reel,some (.d (.int s)),some (.d (.int m)),none,none,none,none,none,none,none]=VL.ret (aM 0 s.toNat):=by
  simp_arith only[ag,ae]
 refine(show FG (iY (ue 1) sC) [some .reel,some (.d (.int s)),some (.d (.int m)),none,none,none,none,none,none,none] _ from ?_)
 rw[e0]
 refine⟨vt rfl,fun x=>by show Le [none] [some (.d x)];rw[le_cn,le_nil];trivial,by rw[bm];omega,fun a=>gK ?_⟩
 rw[bm]
 simp_arith only[ag,ae]
 refine oT ?_
 dsimp only
 refine cR ?_
 have e1:FG (iY (D7 (FO fun i j=>H_ (i+j)) (vC (H_ 1)) (zS aP (iY (ue 0) (iY (ue 2) sC)))) sC) [some .reel,some (.d (.int s)),some (.d (.int m)),some (.vv (.ref a)),some (.ml []),none,none,none,none,none]=FR (anyM fun k:Int=>0<=k/\k<m) fun k=>FI (-(2^62)<=1+k/\1+k<2^62) (VL.ret (aM 0 (1+k).toNat)):=by
  have g1:0<m:=by omega
  have g2:m<2^60:=by omega
  simp_arith only[ag,ae,aP.eq]
 refine oU ?_
 rw[e1]
 intro k hk
 refine⟨by omega,fun i xss ρ=>∃(cols bs:List (List Rat))(o5 o6 o7 o8:Option W),xss=tF cols/\CS s.toNat i 0 cols/\bs.length=i/\Gw s.toNat bs/\ρ=[some .reel,some (.d (.int s)),some (.d (.int m)),some (.vv (.ref a)),some (.ml (bs.map ET)),o5,o6,o7,o8,none],?_,?_,?_⟩
 · exact⟨H0 s.toNat [],[],none,none,none,none,by simp[tF],⟨by simp,by simp,by simp⟩,rfl,by simp[Gw],rfl⟩
 · rintro i y xss ρ ey ⟨cols,bs,o5,o6,o7,o8,rfl,hc,hb,hp,rfl⟩
   obtain⟨hi,rfl⟩:=jg ey
   refine yQ ?_
   dsimp only
   refine cR (gK ?_)
   simp_arith only[ag,ae]
   refine oT ?_
   dsimp only
   refine cR ?_
   refine oU ?_
   have e2:FG (iY (ue 1) sC) [some .reel,some (.d (.int s)),some (.d (.int m)),some (.vv (.ref a)),some (.ml (bs.map ET)),some (.d (.int (i:Int))),some (.d (.tuple [])),o7,o8,none]=VL.ret (aM 0 s.toNat):=by
    simp_arith only[ag,ae]
   rw[e2]
   refine⟨fun n xss ρ=>∃(cols:List (List Rat))(pt:List Rat)(o7 o8:Option W),xss=tF cols/\CS s.toNat i n cols/\pt.length=n/\(∀q∈pt,G5 q)/\ρ=[some .reel,some (.d (.int s)),some (.d (.int m)),some (.vv (.ref a)),some (.ml (bs.map ET)),some (.d (.int (i:Int))),some (.d (ET pt)),o7,o8,none],⟨cols,[],o7,o8,rfl,hc,rfl,by simp,rfl⟩,?_,?_⟩
   · rintro n y xss ρ ey ⟨cols,pt,o7,o8,rfl,⟨cl,c1,c2⟩,pl,hpt,rfl⟩
     obtain⟨hn,rfl⟩:=jg ey
     have hnl:n<cols.length:=by omega
     refine yQ ?_
     dsimp only
     refine cR ⟨rfl,rfl,n,_,rfl,tE hnl,?_⟩
     refine yz (fun Q' hQ'=>?_) fun bb=>⟨bb,rfl,?_⟩
     · have s0:Iv (.list [])=true:=rfl
       have sp:=lZ bs
       have eqi:∀i j:Int,Iq (.int i) (.int j)=(i==j):=fun i j=>by simp[Iq]
       simp_arith only[ag,ae,s0,sp,eqi]
       first|exact hQ' _|(split<;>exact hQ' _)|(refine cU (fun _=>?_) (fun _=>?_)<;>exact hQ' _)
     · have hq:∀q∈cols[n],G5 q:=c2 _ (Iy hnl)
       have hl:cols[n].length<1000:=by have:=c1 n hnl;rw[if_neg (by omega)]at this;omega
       rw[bp.eq _ _ hq hl]
       intro q hqq
       refine⟨⟨q.num,q.den,rfl⟩,?_⟩
       dsimp only
       refine cR ⟨rfl,n,_,_,rfl,tE hnl,rfl,by rw[Hm];omega,?_⟩
       rw[wa hnl]
       dsimp only
       refine cR (gK ?_)
       have pl4:pt.length+1<=sizeLine:=by omega
       simp_arith only[ag,ae,Hb]
       refine oT ?_
       dsimp only
       refine ln ?_
       dsimp only
       refine⟨cols.set n (cols[n]++[q]),pt++[q],some (.d (.int (n:Int))),some (.d (fr q)),rfl,⟨by simp[cl],fun j hj=>?_,fun c mc r mr=>?_⟩,by simp[pl],fun r mr=>?_,by simp[ET,IJ]⟩
       · by_cases e:n=j
         · subst e
           rw[List.getElem_set_self,HD,if_pos (by omega)]
           have:=c1 n hnl
           rw[if_neg (by omega)]at this
           simp;omega
         · rw[List.getElem_set_ne e]
           have:=c1 j (by simpa using hj)
           by_cases l:j<n
           · rw[if_pos l]at this;rw[if_pos (by omega)];exact this
           · rw[if_neg l]at this;rw[if_neg (by omega)];exact this
       · rcases List.mem_or_eq_of_mem_set mc with h|h
         · exact c2 c h r mr
         · subst h
           rcases HW.mp mr with h|h
           · exact hq r h
           · cases HK.mp h;exact hqq
       · rcases HW.mp mr with h|h
         · exact hpt r h
         · cases HK.mp h;exact hqq
   · rintro xss ρ ⟨cols,pt,o7,o8,rfl,hc,pl,hpt,rfl⟩
     rw[bm]at pl hc
     dsimp only
     refine cR (gK ?_)
     have bl:bs.length<sizeLine:=by omega
     simp_arith only[ag,ae,Hb]
     refine oT ?_
     dsimp only
     refine ln ?_
     dsimp only
     refine⟨cols,bs++[pt],some (.d (.int (i:Int))),some (.d (ET pt)),o7,o8,rfl,⟨hc.1,fun j hj=>?_,hc.2.2⟩,by simp[hb],fun p mp=>?_,by simp[IJ]⟩
     · have:=hc.2.1 j hj
       split at this<;>simp<;>omega
     · rcases HW.mp mp with h|h
       · exact hp p h
       · cases HK.mp h;exact⟨pl,hpt⟩
 · rintro xss ρ ⟨cols,bs,o5,o6,o7,o8,rfl,hc,hb,hp,rfl⟩
   rw[bm]at hb
   dsimp only
   refine cR (gK ?_)
   simp_arith only[ag,ae,aP.eq]
   intro c hc3
   refine⟨by omega,Dx ?_⟩
   refine kz (fun i ρ=>∃ps:List (List Rat),1<=ps.length/\ps.length<=bs.length+i/\(∀p∈ps,p∈bs)/\ρ=[some .reel,some (.d (.int s)),some (.d (.int m)),some (.vv (.ref a)),some (.ml (ps.map ET)),none,o6,o7,o8,none]) ⟨bs,by omega,by omega,fun p h=>h,rfl⟩ ?_ ?_
   · rintro i hi ρ ⟨ps,p1,p2,pm,rfl⟩ K hK
     have g1:0<(ps.length:Int):=by omega
     have g2:(ps.length:Int)<2^60:=by omega
     have g3:0<(ps.length:Int)+1:=by omega
     have g4:(ps.length:Int)+1<2^60:=by omega
     simp_arith only[ag,ae,Hb,aP.eq]
     (with_reducible (first|refine ah fun e he=>?_|refine al fun e he=>?_))
     obtain⟨r,er,mr⟩:=sg (xs:=ps) he.1 he.2
     have er2:atI (ps.map ET) e=some (ET r):=by rw[cw,er];rfl
     simp_arith only[ag,ae,Hb,aP.eq,er2]
     intro u hu
     have ls:ps.length<sizeLine:=by omega
     simp_arith only[ag,ae,Ha]
     have ei:insAt (ps.map ET) u.toNat (ET r)=(insAt ps u.toNat r).map ET:=by unfold insAt;simp[IJ,Nh,List.map_drop]
     rw[ei]
     have ml:(insAt ps u.toNat r).length=ps.length+1:=by unfold insAt;simp;omega
     have mm:∀p∈insAt ps u.toNat r,p∈bs:=fun p mp=>by
      have:p=r\/p∈ps:=by
       unfold insAt at mp
       simp only[HW,HJ,Me,or_false]at mp
       rcases mp with h|h
       · first|exact .inr (Lv h)|(rcases h with h|h;exact .inr (Lv h);exact .inl h)
       · first|exact .inr (MI h)|(rcases h with h|h;exact .inl h;exact .inr (MI h))
      rcases this with rfl|h
      · exact pm _ mr
      · exact pm p h
     exact hK _ (fS ⟨insAt ps u.toNat r,by omega,by omega,mm,rfl⟩)
   · rintro ρ ⟨ps,p1,p2,pm,rfl⟩
     refine oT ?_
     dsimp only
     refine cR (gK ?_)
     have ls:ps.length<=sizeLine:=by omega
     simp_arith only[ag,ae,Hb,xh]
     exact AR ⟨_,rfl,hQ ps ⟨p1,by omega,fun p mp=>hp p (pm p mp),bs,by omega,pm⟩⟩
noncomputable def y7(f:Nat):Str:=if f=0 then "corner" else if f=1 then "inner" else "round"
noncomputable def Gd(q:Rat):Prop:=EQ 58 q/\0<=q/\q<1
noncomputable def Pg(s:Nat)(ps:List (List Rat)):Prop:=∀p∈ps,p.length=s/\∀q∈p,Gd q
theorem G5.up(h:G5 q):Gd q:=⟨h.1.mono (by decide),h.2⟩
noncomputable def aR:List W->(Hg->Prop)->Prop:=fun ws Q=>∃(i j:Int),ws=[.d (.int i),.d (.int j)]/\(True)/\Q (.int (Jv i j:Nat))
theorem aR.mono:∀ws (Q Q':Hg->Prop),(∀d,Q d->Q' d)->aR ws Q->aR ws Q':=fun _ _ _ h_=>HB fun _=>HB fun _=>Ho (Ho (h_ _))
theorem aR.len:∀ws (Q:Hg->Prop),aR ws Q->ws.length=2:=fun _ _ h_=>by obtain⟨_,_,e_,_⟩:=h_;subst e_;rfl
theorem aR.eq(i j:Int)  : aR [.d (.int i),.d (.int j)]=VL.ret (.int (Jv i j:Nat):Hg):=by
 refine ak fun Q=>⟨?_,fun q_=>⟨i,j,rfl,trivial,q_⟩⟩
 rintro⟨i',j',e_,_,q_⟩
 simp_arith only[and_true]at e_
 obtain⟨rfl,rfl⟩:=e_
 exact q_
theorem eJ:FnScope ["one", "other"] ["one", "other"] (defScope (Ef 7)):=⟨rfl,rfl,rfl,by decide +kernel,rfl,by decide +kernel,by decide +kernel⟩
theorem d_common_divisor(Fn:FnIn K mg "common_divisor" (Ef 7) ["one", "other"])(Z:Bz mg)    : Dfn P w K mg base rl "common_divisor" ["one", "other"] 1 aR:=by
 have sc:=eJ
 refine Dfn.of Fn sc (aR.mono) (aR.len) (fun cdv A outer s H E hr=>(ai (fC [] Js (a_ (jm hr.units) cD (aK _) (vn 1) af) (av (kS 0 1 rfl sc.nd (aa (vn 1) (aa (v_mod (vn 0) (vn 1)) ac)))))
  (av (aA (wV Z.abs_ (aa (vn 0) ac)))))) ?_
 rintro ws Q ⟨i,j,rfl,_,hQ⟩
 refine aE ?_
 simp_arith only[ae]
 refine kQ (σ:=Int×Int) (fun s=>[some (.d (.int s.1)),some (.d (.int s.2))]) (fun s=>!(s.2==0)) (fun s=>(s.2,s.1.fmod s.2)) (fun s=>s.2.natAbs) (fun s=>Jv s.1 s.2=Jv i j) (i,j) rfl rfl ?_ ?_ ?_
 · intro s _
   simp_arith only[ae]
 · intro s e c
   have hc:s.2≠0:=by simpa using c
   refine⟨by rw[iC];exact e,fX hc,_,?_,rfl⟩
   simp_arith only[ag,ae]
 · intro s e c
   have hc:s.2=0:=by simpa using c
   simp_arith only[ae]
   rw[hc,Int.gcd_zero_right]at e
   refine aF ?_
   have:(if s.1<0 then -s.1 else s.1)=((Jv i j:Nat):Int):=by rw[<- e];split<;>omega
   rw[this]
   exact hQ
noncomputable def bw:List W->(Hg->Prop)->Prop:=fun ws Q=>∃(a b:Int),ws=[.d (.int a),.d (.int b)]/\((0<b)/\(b.natAbs<2^8000))/\Q (fr (qd a b))
theorem bw.mono:∀ws (Q Q':Hg->Prop),(∀d,Q d->Q' d)->bw ws Q->bw ws Q':=fun _ _ _ h_=>HB fun _=>HB fun _=>Ho (Ho (h_ _))
theorem bw.len:∀ws (Q:Hg->Prop),bw ws Q->ws.length=2:=fun _ _ h_=>by obtain⟨_,_,e_,_⟩:=h_;subst e_;rfl
theorem bw.eq(a b:Int)(hb:0<b)(hz:b.natAbs<2^8000):bw [.d (.int a),.d (.int b)]=VL.ret (fr (qd a b):Hg):=by
 refine ak fun Q=>⟨?_,fun q_=>⟨a,b,rfl,⟨hb,hz⟩,q_⟩⟩
 rintro⟨a',b',e_,_,q_⟩
 simp_arith only[and_true]at e_
 obtain⟨rfl,rfl⟩:=e_
 exact q_
theorem jT:FnScope ["top", "bottom", "divisor"] ["top", "bottom"] (defScope (Ef 8)):=⟨rfl,rfl,rfl,by decide +kernel,rfl,by decide +kernel,by decide +kernel⟩
theorem d_fraction(Fn:FnIn K mg "fraction" (Ef 8) ["top", "bottom"])(Z:Bz mg)(d_common_divisor:∀rl,Dfn P w K mg base rl "common_divisor" ["one", "other"] 1 aR)   : Dfn P w K mg base rl "fraction" ["top", "bottom"] 2 bw:=by
 have sc:=jT
 refine Dfn.of Fn sc (bw.mono) (bw.len) (fun cdv A outer s H E hr=>(ai (cg (a_ (eV hr.units) cD (aK _) (vn 1) af) (av gS) br)
  (ai (ay 2 sc.nd (am (d_common_divisor _) (hr.mono (by decide)) (aa (vn 0) (aa (vn 1) ac))))
  (ai (cg (a_ mH lS (aK _) (vn 1) af) (av (ay 2 sc.nd (t_ (vn 2)))) br)
  (av (aA (cE (aa (v_div (vn 0) (vn 2)) (aa (v_div (vn 1) (vn 2)) ac))))))))) ?_
 rintro ws Q ⟨a,b,rfl,⟨hb,hz⟩,hQ⟩
 refine aE ?_
 have c1:eO a (Jv a b:Int):=iE hb hz _
 have c2:eO b (Jv a b:Int):=iE hb hz _
 have h0:(b==0)=false:=by simp;omega
 have h1:decide (b<0)=false:=by simp;omega
 simp_arith only[ag,ae,aR.eq,h0,h1]
 rw[oX hb]
 exact aF hQ
noncomputable def eU:List W->(Hg->Prop)->Prop:=fun ws Q=>∃(q r:Rat),ws=[.d (fr q),.d (fr r)]/\((EQ 2000 q)/\(EQ 2000 r))/\Q (fr (q+r))
theorem eU.mono:∀ws (Q Q':Hg->Prop),(∀d,Q d->Q' d)->eU ws Q->eU ws Q':=fun _ _ _ h_=>HB fun _=>HB fun _=>Ho (Ho (h_ _))
theorem eU.len:∀ws (Q:Hg->Prop),eU ws Q->ws.length=2:=fun _ _ h_=>by obtain⟨_,_,e_,_⟩:=h_;subst e_;rfl
theorem eU.eq(q r:Rat)(h1:EQ 2000 q)(h2:EQ 2000 r):eU [.d (fr q),.d (fr r)]=VL.ret (fr (q+r):Hg):=by
 refine ak fun Q=>⟨?_,fun q_=>⟨q,r,rfl,⟨h1,h2⟩,q_⟩⟩
 rintro⟨q',r',e_,_,q_⟩
 simp_arith only[cC,bu,bC,aL,aQ,bE]at e_
 obtain⟨rfl,rfl⟩:=e_
 exact q_
theorem uG:FnScope ["one", "other"] ["one", "other"] (defScope (Ef 9)):=⟨rfl,rfl,rfl,by decide +kernel,rfl,by decide +kernel,by decide +kernel⟩
theorem d_plus(Fn:FnIn K mg "plus" (Ef 9) ["one", "other"])(Z:Bz mg)(d_fraction:∀rl,Dfn P w K mg base rl "fraction" ["top", "bottom"] 2 bw)   : Dfn P w K mg base rl "plus" ["one", "other"] 3 eU:=by
 have sc:=uG
 refine Dfn.of Fn sc (eU.mono) (eU.len) (fun cdv A outer s H E hr=>(av (aA (am (d_fraction _) (hr.mono (by decide)) (aa (v_add (v_mul (bR (vn 0) af) (bR (vn 1) af)) (v_mul (bR (vn 1) af) (bR (vn 0) af))) (aa (v_mul (bR (vn 0) af) (bR (vn 1) af)) ac)))))) ?_
 rintro ws Q ⟨q,r,rfl,⟨h1,h2⟩,hQ⟩
 refine aE ?_
 have m1:bh q.num r.den:=.bb h1.bn h2.bd
 have m2:bh r.num q.den:=.bb h2.bn h1.bd
 have m3:bh q.den r.den:=.bb h1.bd h2.bd
 have m4:bh q.num r.num:=.bb h1.bn h2.bn
 have d1:=den_pos q r
 have d2:=fZ h1 h2
 simp_arith only[ag,ae,bw.eq,Hb,xY]
 exact aF hQ
noncomputable def d7:List W->(Hg->Prop)->Prop:=fun ws Q=>∃(q r:Rat),ws=[.d (fr q),.d (fr r)]/\((EQ 2000 q)/\(EQ 2000 r))/\Q (fr (q-r))
theorem d7.mono:∀ws (Q Q':Hg->Prop),(∀d,Q d->Q' d)->d7 ws Q->d7 ws Q':=fun _ _ _ h_=>HB fun _=>HB fun _=>Ho (Ho (h_ _))
theorem d7.len:∀ws (Q:Hg->Prop),d7 ws Q->ws.length=2:=fun _ _ h_=>by obtain⟨_,_,e_,_⟩:=h_;subst e_;rfl
theorem d7.eq(q r:Rat)(h1:EQ 2000 q)(h2:EQ 2000 r):d7 [.d (fr q),.d (fr r)]=VL.ret (fr (q-r):Hg):=by
 refine ak fun Q=>⟨?_,fun q_=>⟨q,r,rfl,⟨h1,h2⟩,q_⟩⟩
 rintro⟨q',r',e_,_,q_⟩
 simp_arith only[cC,bu,bC,aL,aQ,bE]at e_
 obtain⟨rfl,rfl⟩:=e_
 exact q_
theorem uI:FnScope ["one", "other"] ["one", "other"] (defScope (Ef 10)):=⟨rfl,rfl,rfl,by decide +kernel,rfl,by decide +kernel,by decide +kernel⟩
theorem d_less(Fn:FnIn K mg "less" (Ef 10) ["one", "other"])(Z:Bz mg)(d_fraction:∀rl,Dfn P w K mg base rl "fraction" ["top", "bottom"] 2 bw)   : Dfn P w K mg base rl "less" ["one", "other"] 3 d7:=by
 have sc:=uI
 refine Dfn.of Fn sc (d7.mono) (d7.len) (fun cdv A outer s H E hr=>(av (aA (am (d_fraction _) (hr.mono (by decide)) (aa (v_sub (v_mul (bR (vn 0) af) (bR (vn 1) af)) (v_mul (bR (vn 1) af) (bR (vn 0) af))) (aa (v_mul (bR (vn 0) af) (bR (vn 1) af)) ac)))))) ?_
 rintro ws Q ⟨q,r,rfl,⟨h1,h2⟩,hQ⟩
 refine aE ?_
 have m1:bh q.num r.den:=.bb h1.bn h2.bd
 have m2:bh r.num q.den:=.bb h2.bn h1.bd
 have m3:bh q.den r.den:=.bb h1.bd h2.bd
 have m4:bh q.num r.num:=.bb h1.bn h2.bn
 have d1:=den_pos q r
 have d2:=fZ h1 h2
 simp_arith only[ag,ae,bw.eq,Hb,xV]
 exact aF hQ
noncomputable def dQ:List W->(Hg->Prop)->Prop:=fun ws Q=>∃(q r:Rat),ws=[.d (fr q),.d (fr r)]/\((EQ 2000 q)/\(EQ 2000 r))/\Q (fr (q*r))
theorem dQ.mono:∀ws (Q Q':Hg->Prop),(∀d,Q d->Q' d)->dQ ws Q->dQ ws Q':=fun _ _ _ h_=>HB fun _=>HB fun _=>Ho (Ho (h_ _))
theorem dQ.len:∀ws (Q:Hg->Prop),dQ ws Q->ws.length=2:=fun _ _ h_=>by obtain⟨_,_,e_,_⟩:=h_;subst e_;rfl
theorem dQ.eq(q r:Rat)(h1:EQ 2000 q)(h2:EQ 2000 r):dQ [.d (fr q),.d (fr r)]=VL.ret (fr (q*r):Hg):=by
 refine ak fun Q=>⟨?_,fun q_=>⟨q,r,rfl,⟨h1,h2⟩,q_⟩⟩
 rintro⟨q',r',e_,_,q_⟩
 simp_arith only[cC,bu,bC,aL,aQ,bE]at e_
 obtain⟨rfl,rfl⟩:=e_
 exact q_
theorem qF:FnScope ["one", "other"] ["one", "other"] (defScope (Ef 11)):=⟨rfl,rfl,rfl,by decide +kernel,rfl,by decide +kernel,by decide +kernel⟩
theorem d_times(Fn:FnIn K mg "times" (Ef 11) ["one", "other"])(Z:Bz mg)(d_fraction:∀rl,Dfn P w K mg base rl "fraction" ["top", "bottom"] 2 bw)   : Dfn P w K mg base rl "times" ["one", "other"] 3 dQ:=by
 have sc:=qF
 refine Dfn.of Fn sc (dQ.mono) (dQ.len) (fun cdv A outer s H E hr=>(av (aA (am (d_fraction _) (hr.mono (by decide)) (aa (v_mul (bR (vn 0) af) (bR (vn 1) af)) (aa (v_mul (bR (vn 0) af) (bR (vn 1) af)) ac)))))) ?_
 rintro ws Q ⟨q,r,rfl,⟨h1,h2⟩,hQ⟩
 refine aE ?_
 have m1:bh q.num r.den:=.bb h1.bn h2.bd
 have m2:bh r.num q.den:=.bb h2.bn h1.bd
 have m3:bh q.den r.den:=.bb h1.bd h2.bd
 have m4:bh q.num r.num:=.bb h1.bn h2.bn
 have d1:=den_pos q r
 have d2:=fZ h1 h2
 simp_arith only[ag,ae,bw.eq,Hb,xW]
 exact aF hQ
noncomputable def be:List W->(Hg->Prop)->Prop:=fun ws Q=>∃(q r:Rat),ws=[.d (fr q),.d (fr r)]/\((EQ 2000 q)/\(EQ 2000 r))/\Q (.bool (decide (q<r)))
theorem be.mono:∀ws (Q Q':Hg->Prop),(∀d,Q d->Q' d)->be ws Q->be ws Q':=fun _ _ _ h_=>HB fun _=>HB fun _=>Ho (Ho (h_ _))
theorem be.len:∀ws (Q:Hg->Prop),be ws Q->ws.length=2:=fun _ _ h_=>by obtain⟨_,_,e_,_⟩:=h_;subst e_;rfl
theorem be.eq(q r:Rat)(h1:EQ 2000 q)(h2:EQ 2000 r):be [.d (fr q),.d (fr r)]=VL.ret (.bool (decide (q<r)):Hg):=by
 refine ak fun Q=>⟨?_,fun q_=>⟨q,r,rfl,⟨h1,h2⟩,q_⟩⟩
 rintro⟨q',r',e_,_,q_⟩
 simp_arith only[cC,bu,bC,aL,aQ,bE]at e_
 obtain⟨rfl,rfl⟩:=e_
 exact q_
theorem jS:FnScope ["one", "other"] ["one", "other"] (defScope (Ef 12)):=⟨rfl,rfl,rfl,by decide +kernel,rfl,by decide +kernel,by decide +kernel⟩
theorem d_is_below(Fn:FnIn K mg "is_below" (Ef 12) ["one", "other"])(Z:Bz mg)    : Dfn P w K mg base rl "is_below" ["one", "other"] 1 be:=by
 have sc:=jS
 refine Dfn.of Fn sc (be.mono) (be.len) (fun cdv A outer s H E hr=>(av (aA (fG mH lS (aK _) (v_mul (bR (vn 0) af) (bR (vn 1) af)) (v_mul (bR (vn 1) af) (bR (vn 0) af)))))) ?_
 rintro ws Q ⟨q,r,rfl,⟨h1,h2⟩,hQ⟩
 refine aE ?_
 have m1:bh q.num r.den:=.bb h1.bn h2.bd
 have m2:bh r.num q.den:=.bb h2.bn h1.bd
 simp_arith only[ag,ae,Hb,Bc]
 exact aF hQ
noncomputable def cO:List W->(Hg->Prop)->Prop:=fun ws Q=>∃(q r:Rat),ws=[.d (fr q),.d (fr r)]/\((EQ 2000 q)/\(EQ 2000 r))/\Q (fr (mn q r))
theorem cO.mono:∀ws (Q Q':Hg->Prop),(∀d,Q d->Q' d)->cO ws Q->cO ws Q':=fun _ _ _ h_=>HB fun _=>HB fun _=>Ho (Ho (h_ _))
theorem cO.len:∀ws (Q:Hg->Prop),cO ws Q->ws.length=2:=fun _ _ h_=>by obtain⟨_,_,e_,_⟩:=h_;subst e_;rfl
theorem cO.eq(q r:Rat)(h1:EQ 2000 q)(h2:EQ 2000 r):cO [.d (fr q),.d (fr r)]=VL.ret (fr (mn q r):Hg):=by
 refine ak fun Q=>⟨?_,fun q_=>⟨q,r,rfl,⟨h1,h2⟩,q_⟩⟩
 rintro⟨q',r',e_,_,q_⟩
 simp_arith only[cC,bu,bC,aL,aQ,bE]at e_
 obtain⟨rfl,rfl⟩:=e_
 exact q_
theorem n_:FnScope ["one", "other"] ["one", "other"] (defScope (Ef 13)):=⟨rfl,rfl,rfl,by decide +kernel,rfl,by decide +kernel,by decide +kernel⟩
theorem d_lesser(Fn:FnIn K mg "lesser" (Ef 13) ["one", "other"])(Z:Bz mg)(d_is_below:∀rl,Dfn P w K mg base rl "is_below" ["one", "other"] 1 be)   : Dfn P w K mg base rl "lesser" ["one", "other"] 2 cO:=by
 have sc:=n_
 refine Dfn.of Fn sc (cO.mono) (cO.len) (fun cdv A outer s H E hr=>(av (aA (hC (de (am (d_is_below _) (hr.mono (by decide)) (aa (vn 0) (aa (vn 1) ac)))) (vn 0) (vn 1))))) ?_
 rintro ws Q ⟨q,r,rfl,⟨h1,h2⟩,hQ⟩
 refine aE ?_
 simp_arith only[ag,ae,be.eq,Hb]
 unfold mn at hQ
 refine aF ?_
 by_cases h:q<r<;>simp[h]at hQ ⊢ <;> exact hQ
noncomputable def cu:List W->(Hg->Prop)->Prop:=fun ws Q=>∃(q r:Rat),ws=[.d (fr q),.d (fr r)]/\((EQ 2000 q)/\(EQ 2000 r))/\Q (fr (mx q r))
theorem cu.mono:∀ws (Q Q':Hg->Prop),(∀d,Q d->Q' d)->cu ws Q->cu ws Q':=fun _ _ _ h_=>HB fun _=>HB fun _=>Ho (Ho (h_ _))
theorem cu.len:∀ws (Q:Hg->Prop),cu ws Q->ws.length=2:=fun _ _ h_=>by obtain⟨_,_,e_,_⟩:=h_;subst e_;rfl
theorem cu.eq(q r:Rat)(h1:EQ 2000 q)(h2:EQ 2000 r):cu [.d (fr q),.d (fr r)]=VL.ret (fr (mx q r):Hg):=by
 refine ak fun Q=>⟨?_,fun q_=>⟨q,r,rfl,⟨h1,h2⟩,q_⟩⟩
 rintro⟨q',r',e_,_,q_⟩
 simp_arith only[cC,bu,bC,aL,aQ,bE]at e_
 obtain⟨rfl,rfl⟩:=e_
 exact q_
theorem mw:FnScope ["one", "other"] ["one", "other"] (defScope (Ef 14)):=⟨rfl,rfl,rfl,by decide +kernel,rfl,by decide +kernel,by decide +kernel⟩
theorem d_greater(Fn:FnIn K mg "greater" (Ef 14) ["one", "other"])(Z:Bz mg)(d_is_below:∀rl,Dfn P w K mg base rl "is_below" ["one", "other"] 1 be)   : Dfn P w K mg base rl "greater" ["one", "other"] 2 cu:=by
 have sc:=mw
 refine Dfn.of Fn sc (cu.mono) (cu.len) (fun cdv A outer s H E hr=>(av (aA (hC (de (am (d_is_below _) (hr.mono (by decide)) (aa (vn 0) (aa (vn 1) ac)))) (vn 1) (vn 0))))) ?_
 rintro ws Q ⟨q,r,rfl,⟨h1,h2⟩,hQ⟩
 refine aE ?_
 simp_arith only[ag,ae,be.eq,Hb]
 unfold mx at hQ
 refine aF ?_
 by_cases h:q<r<;>simp[h]at hQ ⊢ <;> exact hQ
theorem zn(h:EQ 2000 q):(q.den:Int).natAbs<2^2000:=by rw[Iz];exact h.2
noncomputable def cf:List W->(Hg->Prop)->Prop:=fun ws Q=>∃(b:Bool)(qs:List Rat),ws=[.d (Ey b qs)]/\((qs.length<60)/\(∀q∈qs,EQ 2000 q))/\∀rs:List Rat,(ge qs rs)->Q (.tuple (rs.map fr))
theorem cf.mono:∀ws (Q Q':Hg->Prop),(∀d,Q d->Q' d)->cf ws Q->cf ws Q':=fun _ _ _ h_=>HB fun _=>HB fun _=>Ho (Ho fun q_ o_ ho_=>h_ _ (q_ o_ ho_))
theorem cf.len:∀ws (Q:Hg->Prop),cf ws Q->ws.length=1:=fun _ _ h_=>by obtain⟨_,_,e_,_⟩:=h_;subst e_;rfl
theorem cf.eq(b:Bool)(qs:List Rat)(hl:qs.length<60)(hq:∀q∈qs,EQ 2000 q):cf [.d (Ey b qs)]=FR (anyM fun rs:List Rat=>ge qs rs) fun rs=>VL.ret (.tuple (rs.map fr):Hg):=by
 refine ak fun Q=>⟨?_,fun q_=>⟨b,qs,rfl,⟨hl,hq⟩,q_⟩⟩
 rintro⟨b',qs',e_,_,q_⟩
 simp_arith only[cC,bu,bC,aL,aQ,bE,Ap]at e_
 obtain⟨rfl,rfl⟩:=e_
 exact q_
theorem mv:FnScope ["some", "bottom", "scale", "by_size"] ["some"] (defScope (Ef 16)):=⟨rfl,rfl,rfl,by decide +kernel,rfl,by decide +kernel,by decide +kernel⟩
theorem d_in_size(Fn:FnIn K mg "in_size" (Ef 16) ["some"])(Z:Bz mg)    : Dfn P w K mg base rl "in_size" ["some"] 1 cf:=by
 have sc:=mv
 refine Dfn.of Fn sc (cf.mono) (cf.len) (fun cdv A outer s H E hr=>(ai (ay 1 sc.nd (wU rfl Z.max_ (aa (aY ["one"] [none] rfl (sw (vn 0)) (fun _=>(ax 0 (show Ir (["one"]:List Str) by decide +kernel))) (fun _=>bF) (fun _=>(bR (vn 0) af))) ac) af))
  (ai (ay 2 sc.nd (v_mul (vn 1) (vn 1)))
  (ai (jL 3 sc.nd ["one", "scale"] [none,some 2] rfl (sw (vn 0)) (fun _=>(ax 0 (show Ir (["one", "scale"]:List Str) by decide +kernel))) (fun _=>bF) (fun _=>(v_div (v_mul (bR (vn 0) af) (vn 1)) (bR (vn 0) af))) (fun _=>(vn 0)))
  (av (aA (bZ Z.tuple_ (aa (aY ["size", "by_size"] [none,some 3] rfl (bP (nj rfl Z.sorted_ (aa (vn 3) ac))) (fun _=>(ax 0 (show Ir (["size", "by_size"]:List Str) by decide +kernel))) (fun _=>bF) (fun _=>(uc hr.un1 (vn 1) (vn 0)))) ac)))))))) ?_
 rintro ws Q ⟨b,qs,rfl,⟨hl,hq⟩,hQ⟩
 refine aE ?_
 have sz:=HV
 simp_arith only[ag,ae,Hd,G_,Ha,dM,Hb]
 refine Ex (b_ (xs:=qs) (enc:=fr) (fun q=>.int q.den) rfl ?_ (by omega) ?_)
 · intro q mq
   simp_arith only[ag,ae,FA,Hb]
 have e1:qs.map (fun q=>H_ q.den)=(qs.map fun q=>(q.den:Int)).map .int:=by rw[Ij];rfl
 rw[e1]
 obtain⟨mx1,mx2⟩:=yw (qs.map fun q=>(q.den:Int))
 have hB:∀q∈qs,(q.den:Int)<=E7 1 (qs.map fun q=>(q.den:Int)):=fun q mq=>mx1 _ (HQ.mpr ⟨q,mq,rfl⟩)
 have bB:G9 (E7 1 (qs.map fun q=>(q.den:Int))):=by
  rcases mx2 with z|z
  · rw[z];exact iP (by decide)
  · obtain⟨q,mq,e⟩:=HQ.mp z
    rw[<- e];exact iP (zn (hq q mq))
 have b2:(E7 1 (qs.map fun q=>(q.den:Int))).natAbs<2^2000:=by
  rcases mx2 with z|z
  · rw[z];decide
  · obtain⟨q,mq,e⟩:=HQ.mp z
    rw[<- e];exact zn (hq q mq)
 simp_arith only[ag,ae,Hd,G_,Ha,dM,Hb]
 generalize E7 1 (qs.map fun q=>(q.den:Int))=B at *
 have cm:bh B B:=.bb bB bB
 have bS:G9 (B*B):=by
  unfold G9
  rw[JD]
  exact Hz (Md b2 b2) (by rw[<- NO];exact HM (by decide) (by decide))
 simp_arith only[ag,ae,Hd,G_,Ha,dM,Hb]
 refine Ex (v4 (xs:=qs) (enc:=fr) (fun q=>((JT (Es (B*B) q):GQ),fr q)) rfl ?_ (by omega) ?_)
 · intro q mq
   have c1:bh q.num (B*B):=.bb (hq q mq).bn bS
   have c2:eO (q.num*(B*B)) q.den:=⟨by have:=jy q;omega,Hz (zn (hq q mq)) (HM (by decide) (by decide))⟩
   simp_arith only[ag,ae,FB,Hd,G_,Ha,dM,Hb]
   rfl
 obtain⟨ms,f1,f2,f3,f4,f5⟩:=vV (Es (B*B)) qs fun q r mq mr e=>nJ (hB q mq) (hB r mr) e
 have ef:((qs.map fun q=>((JT (Es (B*B) q):GQ),fr q)).foldl (fun a p=>VL.putF a p.1 p.2) [])=vW (Es (B*B)) qs:=rfl
 rw[ef]
 simp_arith only[ag,ae,Hd,G_,Ha,dM,Hb]
 refine uw ms f1 (by omega) ?_
 intro ns pm pw
 obtain⟨rs,er,hr,so⟩:=nN hB f2 f3 pm pw
 subst er
 have lr:=lY so
 simp_arith only[ag,ae,Hd,G_,Ha,dM,Hb]
 refine b_ (xs:=rs) (enc:=fun r=>H_ (Es (B*B) r)) fr (by rw[Ij];rfl) ?_ (by omega) ?_
 · intro r mr
   have v:=f4 r (hr r mr)
   simp_arith only[ag,ae,FA,Hd,G_,Ha,dM,Hb,v]
 exact aF (hQ rs so)
theorem cf.eqL(qs:List Rat)(hl:qs.length<60)(hq:∀q∈qs,EQ 2000 q):cf [.d (.list (qs.map fr))]=FR (anyM fun rs:List Rat=>ge qs rs) fun rs=>VL.ret (.tuple (rs.map fr):Hg):=cf.eq false qs hl hq
noncomputable def colQ(ps:List (List Rat))(j:Nat):List Rat:=ps.map fun p=>p.getD j 0
theorem lI{k s:Nat}(hp:∀p∈ps,p.length=s/\∀q∈p,EQ k q)(hj:j<s):∀p∈ps,atI p (j:Int)=some (p.getD j 0):=fun p mp=>dw (by
 have:=(hp p mp).1
 rw[Hr,Hu (by omega)];rfl)
theorem tD{k s:Nat}(hp:∀p∈ps,p.length=s/\∀q∈p,EQ k q)(hj:j<s):∀q∈colQ ps j,EQ k q:=fun q mq=>by
 obtain⟨p,mp,rfl⟩:=HQ.mp mq
 have:=(hp p mp).1
 have e:p.getD j 0=p[j]'(by omega):=by rw[Hr,Hu (by omega)];rfl
 show EQ k (p.getD j 0)
 rw[e]
 exact(hp p mp).2 _ (Iy _)
noncomputable def Eu(xs:List Rat)(x:Rat):List Rat:=if xs[(xs.filter (· < x)).length]?=some x then xs else insAt xs (xs.filter (· < x)).length x
noncomputable def Ev(qs:List Rat):List Rat:=qs.foldl Eu []
theorem tw{x:Rat}:∀{xs:List Rat},xs.Pairwise (· < ·)->xs.take (xs.filter (· < x)).length=xs.filter (· < x)/\∀y∈xs.drop (xs.filter (· < x)).length,x<=y
 | [],_=>by simp
 | y::ys,h=>by
   obtain⟨h1,h2⟩:=Ko.mp h
   by_cases c:y<x
   · obtain⟨a,b⟩:=tw (x:=x) h2
     rw[List.filter_cons_of_pos (by simpa using c),Ip,List.take_succ_cons,List.drop_succ_cons,a]
     exact⟨rfl,b⟩
   · have e:(y::ys).filter (· < x)=[]:=by
       rw[Mm]
       intro z mz
       rcases HJ.mp mz with rfl|mz
       · simpa using c
       · have:=h1 z mz
         simp
         exact JB.mpr (Il (JB.mp c) (HY this))
     rw[e]
     refine⟨rfl,fun z mz=>?_⟩
     rcases HJ.mp mz with rfl|mz
     · exact JB.mp c
     · exact Il (JB.mp c) (HY (h1 z mz))
theorem xu{xs:List Rat}{x:Rat}(h:xs.Pairwise (· < ·)):(Eu xs x).Pairwise (· < ·)/\∀q,q∈Eu xs x↔q∈xs\/q=x:=by
 unfold Eu
 obtain⟨a,b⟩:=tw (x:=x) h
 split
 · rename_i e
   exact⟨h,fun q=>⟨.inl,fun z=>z.elim id fun z=>z▸JS e⟩⟩
 · rename_i e
   unfold insAt
   have hp:=MJ.mp (show(xs.take (xs.filter (· < x)).length++xs.drop (xs.filter (· < x)).length).Pairwise (· < ·) by rw[Lj];exact h)
   have hd:∀y∈xs.drop (xs.filter (· < x)).length,x<y:=fun y my=>by
    refine LW (b y my) fun z=>e ?_
    subst z
    obtain⟨i,hi,ei⟩:=List.getElem_of_mem my
    rw[List.getElem_drop]at ei
    rw[Ln]at hi
    cases i with
    | zero=>rw[Hu (by omega)];simpa using ei
    | succ i =>
      exfalso
      have hl:(xs.filter (· < x)).length<xs.length:=by omega
      have m0:xs[(xs.filter (· < x)).length]∈xs.drop (xs.filter (· < x)).length:=List.mem_drop_iff_getElem.mpr ⟨0,by omega,by simp⟩
      have l0:=b _ m0
      have:=List.pairwise_iff_getElem.mp h (xs.filter (· < x)).length ((xs.filter (· < x)).length+(i+1)) hl (by omega) (by omega)
      rw[ei]at this
      exact absurd this (JB.mpr l0)
   refine⟨MJ.mpr ⟨hp.1,Ko.mpr ⟨hd,hp.2.1⟩,fun y my z mz=>?_⟩,fun q=>?_⟩
   · rw[a]at my
     have yx:y<x:=by simpa using(JX.mp my).2
     rcases HJ.mp mz with rfl|mz
     · exact yx
     · have xz:=hd z mz
       exact LW (Il (HY yx) (HY xz)) fun e=>by subst e;exact JB.mpr (HY xz) yx
   · have:q∈xs↔q∈xs.take (xs.filter (· < x)).length\/q∈xs.drop (xs.filter (· < x)).length:=by rw[<- HW,Lj]
     rw[HW,HJ,this]
     constructor
     · rintro(z|z|z)
       · exact .inl (.inl z)
       · exact .inr z
       · exact .inl (.inr z)
     · rintro((z|z)|z)
       · exact .inl z
       · exact .inr (.inr z)
       · exact .inr (.inl z)
theorem sJ:∀(qs xs:List Rat),xs.Pairwise (· < ·)->(qs.foldl Eu xs).Pairwise (· < ·)/\∀q,q∈qs.foldl Eu xs↔q∈xs\/q∈qs
 | [],xs,h=>⟨h,by simp⟩
 | x::qs,xs,h=>by
   obtain⟨a,b⟩:=xu (x:=x) h
   obtain⟨c,d⟩:=sJ qs (Eu xs x) a
   refine⟨c,fun q=>?_⟩
   rw[Jo,d,b,HJ]
   constructor
   · rintro((z|z)|z)
     · exact .inl z
     · exact .inr (.inl z)
     · exact .inr (.inr z)
   · rintro(z|z|z)
     · exact .inl (.inl z)
     · exact .inl (.inr z)
     · exact .inr z
theorem rS{α β:Type}(p:α->Prop)[DecidablePred p](g:α->β):∀xs:List α,(xs.filterMap fun y=>if p y then some (g y)else none)=(xs.filter fun y=>decide (p y)).map g
 | []=>rfl
 | x::xs=>by
   have ih:=rS p g xs
   by_cases c:p x
   · simp[c,ih]
   · simp[c,ih]
theorem i6(qs:List Rat):ge qs (Ev qs):=by
 obtain⟨a,b⟩:=sJ qs [] L0
 exact⟨a,fun q=>by rw[Ev,b];simp⟩
theorem xv{qs:List Rat}(h:ge qs rs):rs=Ev qs:=gB h.1 (i6 qs).1 fun q=>by rw[h.2,(i6 qs).2]
theorem rK{s:Nat}(h:Pg s ps):∀p∈ps,p.length=s/\∀q∈p,EQ 58 q:=fun p mp=>⟨(h p mp).1,fun q mq=>((h p mp).2 q mq).1⟩
noncomputable def dimP(ps:List (List Rat)):Nat:=(ps.headD []).length
theorem za{s:Nat}(h:Pg s ps)(h1:1<=ps.length):dimP ps=s:=by
 cases ps with
 | nil=>simp at h1
 | cons p ps=>exact(h p Ht).1
noncomputable def nuQ(ps:List (List Rat))(j:Nat):List Rat:=Ev (colQ ps j)
noncomputable def Pw(ps:List (List Rat)):Prop:=1<=ps.length/\ps.length<=40/\Pg (dimP ps) ps/\1<=dimP ps/\dimP ps<=4
noncomputable def bW:List W->(Hg->Prop)->Prop:=fun ws Q=>∃(ps:List (List Rat)),ws=[.d (ptsQ ps)]/\((1<=ps.length))/\Q (.int ((dimP ps:Nat):Int))
theorem bW.mono:∀ws (Q Q':Hg->Prop),(∀d,Q d->Q' d)->bW ws Q->bW ws Q':=fun _ _ _ h_=>HB fun _=>Ho (Ho (h_ _))
theorem bW.len:∀ws (Q:Hg->Prop),bW ws Q->ws.length=1:=fun _ _ h_=>by obtain⟨_,e_,_⟩:=h_;subst e_;rfl
theorem bW.eq(ps:List (List Rat))(h:1<=ps.length):bW [.d (ptsQ ps)]=VL.ret (.int ((dimP ps:Nat):Int):Hg):=by
 refine ak fun Q=>⟨?_,fun q_=>⟨ps,rfl,h,q_⟩⟩
 rintro⟨ps',e_,_,q_⟩
 simp_arith only[cC,bu,bC,aL,aQ,bE]at e_
 obtain rfl:=e_
 exact q_
theorem jQ:FnScope ["points"] ["points"] (defScope (Ef 23)):=⟨rfl,rfl,rfl,by decide +kernel,rfl,by decide +kernel,by decide +kernel⟩
theorem d_sides_of(Fn:FnIn K mg "sides_of" (Ef 23) ["points"])(Z:Bz mg)    : Dfn P w K mg base rl "sides_of" ["points"] 1 bW:=by
 have sc:=jQ
 refine Dfn.of Fn sc (bW.mono) (bW.len) (fun cdv A outer s H E hr=>(av (aA (cK Z.len_ (aa (bR (vn 0) af) ac))))) ?_
 rintro ws Q ⟨ps,rfl,h,hQ⟩
 refine aE ?_
 cases ps with
 | nil=>simp at h
 | cons p ps =>
   have e:atI (p::ps) 0=some p:=dw rfl
   simp_arith only[ag,ae,Hb,e]
   exact aF hQ
noncomputable def bj:List W->(Hg->Prop)->Prop:=fun ws Q=>∃(ps:List (List Rat))(j:Int),ws=[.d (ptsQ ps),.d (.int j)]/\((Pw ps)/\(0<=j)/\(j<dimP ps))/\Q (ET (nuQ ps j.toNat))
theorem bj.mono:∀ws (Q Q':Hg->Prop),(∀d,Q d->Q' d)->bj ws Q->bj ws Q':=fun _ _ _ h_=>HB fun _=>HB fun _=>Ho (Ho (h_ _))
theorem bj.len:∀ws (Q:Hg->Prop),bj ws Q->ws.length=2:=fun _ _ h_=>by obtain⟨_,_,e_,_⟩:=h_;subst e_;rfl
theorem bj.eq(ps:List (List Rat))(j:Int)(h:Pw ps)(j0:0<=j)(jl:j<dimP ps):bj [.d (ptsQ ps),.d (.int j)]=VL.ret (ET (nuQ ps j.toNat):Hg):=by
 refine ak fun Q=>⟨?_,fun q_=>⟨ps,j,rfl,⟨h,j0,jl⟩,q_⟩⟩
 rintro⟨ps',j',e_,_,q_⟩
 simp_arith only[cC,bu,bC,aL,aQ,bE]at e_
 obtain⟨rfl,rfl⟩:=e_
 exact q_
theorem ig:FnScope ["points", "side"] ["points", "side"] (defScope (Ef 24)):=⟨rfl,rfl,rfl,by decide +kernel,rfl,by decide +kernel,by decide +kernel⟩
theorem d_numbers_at(Fn:FnIn K mg "numbers_at" (Ef 24) ["points", "side"])(Z:Bz mg)(d_in_size:∀rl,Dfn P w K mg base rl "in_size" ["some"] 1 cf)   : Dfn P w K mg base rl "numbers_at" ["points", "side"] 2 bj:=by
 have sc:=ig
 refine Dfn.of Fn sc (bj.mono) (bj.len) (fun cdv A outer s H E hr=>(av (aA (am (d_in_size _) (hr.mono (by decide)) (aa (aY ["point", "side"] [none,some 1] rfl (fE (vn 0)) (fun _=>(ax 0 (show Ir (["point", "side"]:List Str) by decide +kernel))) (fun _=>bF) (fun _=>(bR (vn 0) (vn 1)))) ac))))) ?_
 rintro ws Q ⟨ps,j,rfl,⟨h,j0,jl⟩,hQ⟩
 refine aE ?_
 have sz:=HV
 obtain⟨h1,h40,hp,d1,d4⟩:=h
 have ej:((j.toNat:Nat):Int)=j:=by omega
 have hj:j.toNat<dimP ps:=by omega
 have hc:(colQ ps j.toNat).length<60:=by unfold colQ;rw[Hm];omega
 have hq:∀q∈colQ ps j.toNat,EQ 2000 q:=fun q mq=>(tD (rK hp) hj q mq).mono (by decide)
 simp_arith only[ag,ae,Hb]
 refine b_ (xs:=ps) (enc:=ET) (fun p=>fr (p.getD j.toNat 0)) rfl ?_ (by omega) ?_
 · intro p mp
   have e:=lI (rK hp) hj p mp
   rw[ej]at e
   simp_arith only[ag,ae,FA,Hb,e]
 have e1:ps.map (fun p=>fr (p.getD j.toNat 0))=(colQ ps j.toNat).map fr:=by unfold colQ;rw[Ij];rfl
 rw[e1]
 simp_arith only[ag,ae,cf.eqL]
 (with_reducible (first|refine ah fun rs hrs=>?_|refine al fun rs hrs=>?_))
 rw[xv hrs]
 exact aF hQ
noncomputable def Fp(t:Rat):Hg:=.tuple [.str "to", fr t]
noncomputable def Ft(a b:Rat):Hg:=.tuple [.str "from", fr a,fr b]
noncomputable def Fq(a b:Rat):Hg:=.tuple [.str "round", fr a,fr b]
noncomputable def EE(rs:List Rat):List Hg:=((-1)::rs).flatMap fun a=>(rs++[1]).filterMap fun b=>if a<=b then some (Ft a b)else none
noncomputable def EB(rs:List Rat):List Hg:=(rs++[1]).flatMap fun a=>((-1)::rs).filterMap fun b=>if b<=a then some (Fq a b)else none
noncomputable def sl(f:Nat)(rs:List Rat):List Hg:=if f=0 then(rs++[1]).map Fp else if f=1 then EE rs else EE rs++EB rs
noncomputable def Rs(rs:List Rat):Prop:=rs.length<=8/\∀q∈rs,Gd q
theorem dt{α:Type}{b:Hg->Mo (Option Hg)}{enc:α->Hg}(f:α->Option Hg):∀(xs:List α)(acc:List Hg),(∀x∈xs,b (enc x)=VL.ret (f x))->acc.length+(xs.filterMap f).length<=sizeLine->bQ b (xs.map enc) acc=VL.ret (acc++xs.filterMap f)
 | [],acc,_,_=>by simp[bQ]
 | x::xs,acc,h,hl=>by
   show FR (b (enc x)) _=_
   rw[h x Ht,bnd_ret]
   cases e:f x with
   | none =>
     have e2:(x::xs).filterMap f=xs.filterMap f:=by rw[Ju,e]
     rw[e2]at hl ⊢
     exact dt f xs acc (fun y my=>h y (Hn _ my)) hl
   | some d =>
     have e2:(x::xs).filterMap f=d::xs.filterMap f:=by rw[Ju,e]
     rw[e2,Ip]at hl
     show FI (acc.length<sizeLine) (bQ b (xs.map enc) (acc++[d]))=_
     rw[dt f xs (acc++[d]) (fun y my=>h y (Hn _ my)) (by rw[HD,Lh];omega),e2,Kw]
     exact ag (by omega) _
theorem y9(rs:List Rat):rs.map fr++[fr 1]=(rs++[1]).map fr:=by rw[IJ];rfl
theorem fY(h:Rs rs):∀q∈rs++[1],EQ 60 q:=fun q mq=>by
 rcases HW.mp mq with h'|h'
 · exact(h.2 q h').1.mono (by decide)
 · cases HK.mp h';exact⟨by decide,by decide⟩
theorem jI(h:Rs rs):∀q∈(-1)::rs,EQ 60 q:=fun q mq=>by
 rcases HJ.mp mq with rfl|h'
 · exact⟨by decide,by decide⟩
 · exact(h.2 q h').1.mono (by decide)
theorem o0{α β:Type}{n:Nat}{f:α->List β}:∀{l:List α},(∀x∈l,(f x).length<=n)->(l.flatMap f).length<=l.length*n
 | [],_=>by simp
 | x::l,h=>by
   have h1:=h x Ht
   have h2:=o0 (l:=l) fun y my=>h y (Hn _ my)
   rw[JA,HD,Ip,Nat.succ_mul];omega
theorem lf(h:rs.length<=8):(EE rs).length<=81:=IH (o0 (n:=9) fun a _=>IH (L4 ..) (by simp;omega)) (by simp;omega)
theorem nP(h:rs.length<=8):(EB rs).length<=81:=IH (o0 (n:=9) fun a _=>IH (L4 ..) (by simp;omega)) (by simp;omega)
noncomputable def cG(f:Fin 3):Str:=y7 f.val
theorem ff{a b:Fin 3}:cG a=cG b↔a=b:=by revert a b;decide +kernel
theorem zD:∀f:Fin 3,f=0\/f=1\/f=2:=by decide
noncomputable def bI:List W->(Hg->Prop)->Prop:=fun ws Q=>∃(rs:List Rat)(f:Fin 3),ws=[.d (ET rs),.d (.str (cG f))]/\((Rs rs))/\Q (.list (sl f.val rs))
theorem bI.mono:∀ws (Q Q':Hg->Prop),(∀d,Q d->Q' d)->bI ws Q->bI ws Q':=fun _ _ _ h_=>HB fun _=>HB fun _=>Ho (Ho (h_ _))
theorem bI.len:∀ws (Q:Hg->Prop),bI ws Q->ws.length=2:=fun _ _ h_=>by obtain⟨_,_,e_,_⟩:=h_;subst e_;rfl
theorem bI.eq(rs:List Rat)(f:Fin 3)(hr:Rs rs):bI [.d (ET rs),.d (.str (cG f))]=VL.ret (.list (sl f.val rs):Hg):=by
 refine ak fun Q=>⟨?_,fun q_=>⟨rs,f,rfl,hr,q_⟩⟩
 rintro⟨rs',f',e_,_,q_⟩
 simp_arith only[cC,bu,bC,aL,aQ,bE,ff]at e_
 obtain⟨rfl,rfl⟩:=e_
 exact q_
theorem ie:FnScope ["numbers", "family", "ends", "begins", "inner"] ["numbers", "family"] (defScope (Ef 28)):=⟨rfl,rfl,rfl,by decide +kernel,rfl,by decide +kernel,by decide +kernel⟩
theorem d_side_looks(Fn:FnIn K mg "side_looks" (Ef 28) ["numbers", "family"])(Z:Bz mg)(d_is_below:∀rl,Dfn P w K mg base rl "is_below" ["one", "other"] 1 be)(gl_ONE:GlD K mg "ONE" (pr 1 1))(gl_BELOW_ALL:GlD K mg "BELOW_ALL" (.tuple [.int (-1),.int 1]))  : Dfn P w K mg base rl "side_looks" ["numbers", "family"] 2 bI:=by
 have sc:=ie
 refine Dfn.of Fn sc (bI.mono) (bI.len) (fun cdv A outer s H E hr=>(ai (ay 2 sc.nd (kY (g_ Z.list_ (aa (vn 0) ac)) (cJ (aa (dg gl_ONE) ac))))
  (ai (cg (a_ gm dG (aK _) (vn 1) bG) (av (aA (aY ["end"] [none] rfl (bP (vn 2)) (fun _=>(ax 0 (show Ir (["end"]:List Str) by decide +kernel))) (fun _=>bF) (fun _=>(cE (aa bG (aa (vn 0) ac))))))) br)
  (ai (ay 3 sc.nd (kY (cJ (aa (dg gl_BELOW_ALL) ac)) (g_ Z.list_ (aa (vn 0) ac))))
  (ai (fD 4 sc.nd ["a", "b", "ends"] [none,none,some 2] rfl (bP (vn 3)) (fun _=>(ax 0 (show Ir (["a", "b", "ends"]:List Str) by decide +kernel))) (fun _=>bF) (fun _=>(bP (vn 2))) (fun _=>(ax 1 (show Ir (["a", "b", "ends"]:List Str) by decide +kernel))) (fun _=>gu (kW (de (am (d_is_below _) (hr.mono (by decide)) (aa (vn 1) (aa (vn 0) ac)))))) (fun _=>(cE (aa bG (aa (vn 0) (aa (vn 1) ac))))))
  (ai (cg (a_ gm dG (aK _) (vn 1) bG) (av (aA (vn 4))) br)
  (av (aA (kY (vn 4) (qt ["a", "b", "begins"] [none,none,some 3] rfl (bP (vn 2)) (fun _=>(ax 0 (show Ir (["a", "b", "begins"]:List Str) by decide +kernel))) (fun _=>bF) (fun _=>(bP (vn 2))) (fun _=>(ax 1 (show Ir (["a", "b", "begins"]:List Str) by decide +kernel))) (fun _=>gu (kW (de (am (d_is_below _) (hr.mono (by decide)) (aa (vn 0) (aa (vn 1) ac)))))) (fun _=>(cE (aa bG (aa (vn 0) (aa (vn 1) ac))))))))))))))) ?_
 rintro ws Q ⟨rs,f,rfl,hr,hQ⟩
 refine aE ?_
 have sz:=HV
 have q1:decide (Hj "inner" = Hj "corner")=false:=by decide +kernel
 have q2:decide (Hj "round" = Hj "corner")=false:=by decide +kernel
 have q3:decide (Hj "round" = Hj "inner")=false:=by decide +kernel
 have q4:decide (Hj "corner" = Hj "corner")=true:=by decide +kernel
 have q5:decide (Hj "inner" = Hj "inner")=true:=by decide +kernel
 have q6:decide (Hj "corner" = Hj "round")=false:=by decide +kernel
 have q7:decide (Hj "inner" = Hj "round")=false:=by decide +kernel
 have q8:decide (Hj "round" = Hj "round")=true:=by decide +kernel
 have f0:cG 0=Hj "corner" := rfl
 have f1:cG 1=Hj "inner" := rfl
 have f2:cG 2=Hj "round" := rfl
 have l8:=hr.1
 have g1:rs.length+1<=sizeLine:=by omega
 have em:rs.map fr++[fr 1]=(rs++[1]).map fr:=y9 rs
 have eb:Jl [H_ (-1),H_ 1]::rs.map fr=((-1)::rs).map fr:=rfl
 have nlt:∀a b:Rat,(!decide (b<a))=decide (a<=b):=fun a b=>by
  by_cases c:a<=b
  · have:=JB.mpr c;simp[c,this]
  · have:=JC.mp c;simp[c,this]
 obtain rfl|rfl|rfl:=zD f
 · simp_arith only[ag,ae,Hb,q1,q2,q3,q4,q5,q6,q7,q8,f0,f1,f2]
   refine Ex (b_ (xs:=rs++[1]) (enc:=fr) Fp em ?_ (by simp;omega) ?_)
   · intro e me
     simp_arith only[ag,ae,FA]
     rfl
   · simp_arith only[ag,ae]
     exact jW hQ
 · simp_arith only[ag,ae,Hb,q1,q2,q3,q4,q5,q6,q7,q8,f0,f1,f2,m_comp2]
   refine Ex ?_
   rw[eb]
   refine se (xs:=(-1)::rs) (enc:=fr) (fun a=>(rs++[1]).filterMap fun b=>if a<=b then some (Ft a b)else none) rfl ?_ ?_ ?_
   · intro a ma acc hl
     simp_arith only[ag,ae,pB]
     rw[em]
     refine(dt (enc:=fr) (fun b=>if a<=b then some (Ft a b)else none) (rs++[1]) acc ?_ hl).trans rfl
     intro b mb
     have h1:EQ 2000 a:=(jI hr a ma).mono (by decide)
     have h2:EQ 2000 b:=(fY hr b mb).mono (by decide)
     simp_arith only[ag,ae,FA,be.eq,nlt]
     by_cases c:a<=b<;>simp[c,Ft]
   · exact IH (lf l8) (by omega)
   · simp_arith only[ag,ae,Hb,q1,q2,q3,q4,q5,q6,q7,q8,f0,f1,f2]
     exact aF hQ
 · simp_arith only[ag,ae,Hb,q1,q2,q3,q4,q5,q6,q7,q8,f0,f1,f2,m_comp2]
   refine Ex ?_
   rw[eb]
   refine se (xs:=(-1)::rs) (enc:=fr) (fun a=>(rs++[1]).filterMap fun b=>if a<=b then some (Ft a b)else none) rfl ?_ ?_ ?_
   · intro a ma acc hl
     simp_arith only[ag,ae,pB]
     rw[em]
     refine(dt (enc:=fr) (fun b=>if a<=b then some (Ft a b)else none) (rs++[1]) acc ?_ hl).trans rfl
     intro b mb
     have h1:EQ 2000 a:=(jI hr a ma).mono (by decide)
     have h2:EQ 2000 b:=(fY hr b mb).mono (by decide)
     simp_arith only[ag,ae,FA,be.eq,nlt]
     by_cases c:a<=b<;>simp[c,Ft]
   · exact IH (lf l8) (by omega)
   · simp_arith only[ag,ae,Hb,q1,q2,q3,q4,q5,q6,q7,q8,f0,f1,f2,m_comp2]
     rw[em]
     refine se (xs:=rs++[1]) (enc:=fr) (fun a=>((-1)::rs).filterMap fun b=>if b<=a then some (Fq a b)else none) rfl ?_ ?_ ?_
     · intro a ma acc hl
       simp_arith only[ag,ae,pB]
       try rw[eb]
       refine(dt (enc:=fr) (fun b=>if b<=a then some (Fq a b)else none) ((-1)::rs) acc ?_ hl).trans rfl
       intro b mb
       have h1:EQ 2000 a:=(fY hr a ma).mono (by decide)
       have h2:EQ 2000 b:=(jI hr b mb).mono (by decide)
       simp_arith only[ag,ae,FA,be.eq,nlt]
       by_cases c:b<=a<;>simp[c,Fq]
     · exact IH (nP l8) (by omega)
     · have hF:=lf l8
       have hR:=nP l8
       unfold EE at hF
       unfold EB at hR
       exact cB (by omega) (jW hQ)
noncomputable def inr(n:Int):Int:=((n+1)*(n+2)).fdiv 2+n
noncomputable def E9(f:Nat)(n:Int):Int:=if f=0 then n+1 else if f=1 then inr n else 2*inr n
noncomputable def Fb(f:Nat)(ps:List (List Rat))(d:Nat):Int:=(HL d).foldl (fun m j=>m*E9 f ((nuQ ps j).length:Nat)) 1
theorem iw(f:Nat)(ps:List (List Rat))(d:Nat):Fb f ps (d+1)=Fb f ps d*E9 f ((nuQ ps d).length:Nat):=by unfold Fb;rw[List.range_succ,La];rfl
theorem yO{n:Int}(h0:0<=n)(h8:n<=8):0<=inr n/\inr n<=100:=by
 unfold inr
 have:n=0\/n=1\/n=2\/n=3\/n=4\/n=5\/n=6\/n=7\/n=8:=by omega
 rcases this with rfl|rfl|rfl|rfl|rfl|rfl|rfl|rfl|rfl<;>decide
theorem sW{f:Nat}{n:Int}(h0:0<=n)(h8:n<=8):0<=E9 f n/\E9 f n<=200:=by
 have:=yO h0 h8
 unfold E9
 split
 · omega
 · split<;>omega
noncomputable def Gv(ps:List (List Rat)):Prop:=Pw ps/\∀j,j<dimP ps->Rs (nuQ ps j)
noncomputable def aO:List W->(Hg->Prop)->Prop:=fun ws Q=>∃(n:Int)(f:Fin 3),ws=[.d (.int n),.d (.str (cG f))]/\((0<=n)/\(n<=8))/\Q (.int (E9 f.val n))
theorem aO.mono:∀ws (Q Q':Hg->Prop),(∀d,Q d->Q' d)->aO ws Q->aO ws Q':=fun _ _ _ h_=>HB fun _=>HB fun _=>Ho (Ho (h_ _))
theorem aO.len:∀ws (Q:Hg->Prop),aO ws Q->ws.length=2:=fun _ _ h_=>by obtain⟨_,_,e_,_⟩:=h_;subst e_;rfl
theorem aO.eq(n:Int)(f:Fin 3)(n0:0<=n)(n8:n<=8):aO [.d (.int n),.d (.str (cG f))]=VL.ret (.int (E9 f.val n):Hg):=by
 refine ak fun Q=>⟨?_,fun q_=>⟨n,f,rfl,⟨n0,n8⟩,q_⟩⟩
 rintro⟨n',f',e_,_,q_⟩
 simp_arith only[cC,bu,bC,aL,aQ,bE,ff]at e_
 obtain⟨rfl,rfl⟩:=e_
 exact q_
theorem dZ:FnScope ["many", "family", "inner"] ["many", "family"] (defScope (Ef 29)):=⟨rfl,rfl,rfl,by decide +kernel,rfl,by decide +kernel,by decide +kernel⟩
theorem d_many_side_looks(Fn:FnIn K mg "many_side_looks" (Ef 29) ["many", "family"])(Z:Bz mg)    : Dfn P w K mg base rl "many_side_looks" ["many", "family"] 1 aO:=by
 have sc:=dZ
 refine Dfn.of Fn sc (aO.mono) (aO.len) (fun cdv A outer s H E hr=>(ai (cg (a_ gm dG (aK _) (vn 1) bG) (av (aA (v_add (vn 0) af))) br)
  (ai (ay 2 sc.nd (v_add (v_div (v_mul (v_add (vn 0) af) (v_add (vn 0) af)) af) (vn 0)))
  (av (aA (hC (a_ gm dG (aK _) (vn 1) bG) (vn 2) (v_mul af (vn 2)))))))) ?_
 rintro ws Q ⟨n,f,rfl,⟨n0,n8⟩,hQ⟩
 refine aE ?_
 have q1:decide (Hj "inner" = Hj "corner")=false:=by decide +kernel
 have q2:decide (Hj "round" = Hj "corner")=false:=by decide +kernel
 have q3:decide (Hj "round" = Hj "inner")=false:=by decide +kernel
 have q4:decide (Hj "corner" = Hj "corner")=true:=by decide +kernel
 have q5:decide (Hj "inner" = Hj "inner")=true:=by decide +kernel
 have q6:decide (Hj "corner" = Hj "round")=false:=by decide +kernel
 have q7:decide (Hj "inner" = Hj "round")=false:=by decide +kernel
 have q8:decide (Hj "round" = Hj "round")=true:=by decide +kernel
 have f0:cG 0=Hj "corner" := rfl
 have f1:cG 1=Hj "inner" := rfl
 have f2:cG 2=Hj "round" := rfl
 have c1:bh (n+1) (n+2):=.lt (by omega)
 have c2:bh 2 (inr n):=.lt (by decide)
 have d2:eO ((n+1)*(n+2)) 2:=eO.of (by decide) (by decide)
 have ei:((n+1)*(n+2)).fdiv 2+n=inr n:=rfl
 obtain rfl|rfl|rfl:=zD f
 · simp_arith only[ag,ae,q1,q2,q3,q4,q5,q6,q7,q8,f0,f1,f2]
   exact aF hQ
 · simp_arith only[ag,ae,q1,q2,q3,q4,q5,q6,q7,q8,f0,f1,f2,ei]
   exact aF hQ
 · simp_arith only[ag,ae,q1,q2,q3,q4,q5,q6,q7,q8,f0,f1,f2,ei]
   exact aF hQ
noncomputable def bJ:List W->(Hg->Prop)->Prop:=fun ws Q=>∃(ps:List (List Rat))(f:Fin 3),ws=[.d (ptsQ ps),.d (.str (cG f))]/\((Gv ps))/\Q (.int (Fb f.val ps (dimP ps)))
theorem bJ.mono:∀ws (Q Q':Hg->Prop),(∀d,Q d->Q' d)->bJ ws Q->bJ ws Q':=fun _ _ _ h_=>HB fun _=>HB fun _=>Ho (Ho (h_ _))
theorem bJ.len:∀ws (Q:Hg->Prop),bJ ws Q->ws.length=2:=fun _ _ h_=>by obtain⟨_,_,e_,_⟩:=h_;subst e_;rfl
theorem bJ.eq(ps:List (List Rat))(f:Fin 3)(hw:Gv ps):bJ [.d (ptsQ ps),.d (.str (cG f))]=VL.ret (.int (Fb f.val ps (dimP ps)):Hg):=by
 refine ak fun Q=>⟨?_,fun q_=>⟨ps,f,rfl,hw,q_⟩⟩
 rintro⟨ps',f',e_,_,q_⟩
 simp_arith only[cC,bu,bC,aL,aQ,bE,ff]at e_
 obtain⟨rfl,rfl⟩:=e_
 exact q_
theorem ii:FnScope ["points", "family", "many", "side"] ["points", "family"] (defScope (Ef 30)):=⟨rfl,rfl,rfl,by decide +kernel,rfl,by decide +kernel,by decide +kernel⟩
theorem d_many_looks(Fn:FnIn K mg "many_looks" (Ef 30) ["points", "family"])(Z:Bz mg)(d_sides_of:∀rl,Dfn P w K mg base rl "sides_of" ["points"] 1 bW)(d_many_side_looks:∀rl,Dfn P w K mg base rl "many_side_looks" ["many", "family"] 1 aO)(d_numbers_at:∀rl,Dfn P w K mg base rl "numbers_at" ["points", "side"] 2 bj)   : Dfn P w K mg base rl "many_looks" ["points", "family"] 3 bJ:=by
 have sc:=ii
 refine Dfn.of Fn sc (bJ.mono) (bJ.len) (fun cdv A outer s H E hr=>(ai (ay 2 sc.nd af)
  (ai (eF [3] Js rfl (bT Z.range_ (aa (am (d_sides_of _) (hr.mono (by decide)) (aa (vn 0) ac)) ac)) (ax 3 sc.nd) (av (wH 2 sc.nd vL (am (d_many_side_looks _) (hr.mono (by decide)) (aa (cK Z.len_ (aa (am (d_numbers_at _) (hr.mono (by decide)) (aa (vn 0) (aa (vn 3) ac))) ac)) (aa (vn 1) ac))))))
  (av (aA (vn 2)))))) ?_
 rintro ws Q ⟨ps,f,rfl,hw,hQ⟩
 refine aE ?_
 have sz:=HV
 obtain⟨h,hN⟩:=hw
 have h1:=h.1
 have d4:=h.2.2.2.2
 have gn : -(2^62)<=((dimP ps:Nat):Int)/\((dimP ps:Nat):Int)<2^62:=by omega
 simp_arith only[ag,ae,bW.eq]
 refine kz (fun i ρ=>ρ=[some (.d (ptsQ ps)),some (.d (.str (cG f))),some (.d (.int (Fb f.val ps i))),none]) rfl ?_ ?_
 · rintro i hi ρ rfl K hK
   have j0:0<=0+(i:Int):=by omega
   have jl:0+(i:Int)<dimP ps:=by omega
   have hr:=hN i hi
   have et:(0+(i:Int)).toNat=i:=by omega
   have n0:(0:Int)<=((nuQ ps i).length:Nat):=by omega
   have n8:((nuQ ps i).length:Int)<=8:=by have:=hr.1;omega
   have cm:∀x:Int,bh x (E9 f.val ((nuQ ps i).length:Nat)):=fun x=>.rt (by have:=sW (f:=f.val) n0 n8;omega)
   simp_arith only[ag,ae,Hb,bj.eq,aO.eq,et,cm]
   exact hK _ (fS (by rw[iw];rfl))
 · rintro ρ rfl
   simp_arith only[ag,ae]
   exact aF hQ
noncomputable def aV:List W->(Hg->Prop)->Prop:=fun ws Q=>∃(ps:List (List Rat))(f:Fin 3),ws=[.d (ptsQ ps),.d (.str (cG f))]/\((Gv ps)/\(Fb f.val ps (dimP ps)<=3000))/\Q (.list ((HL (dimP ps)).map fun j=>Ks (sl f.val (nuQ ps j))))
theorem aV.mono:∀ws (Q Q':Hg->Prop),(∀d,Q d->Q' d)->aV ws Q->aV ws Q':=fun _ _ _ h_=>HB fun _=>HB fun _=>Ho (Ho (h_ _))
theorem aV.len:∀ws (Q:Hg->Prop),aV ws Q->ws.length=2:=fun _ _ h_=>by obtain⟨_,_,e_,_⟩:=h_;subst e_;rfl
theorem aV.eq(ps:List (List Rat))(f:Fin 3)(hw:Gv ps)(hm:Fb f.val ps (dimP ps)<=3000):aV [.d (ptsQ ps),.d (.str (cG f))]=VL.ret (.list ((HL (dimP ps)).map fun j=>Ks (sl f.val (nuQ ps j))):Hg):=by
 refine ak fun Q=>⟨?_,fun q_=>⟨ps,f,rfl,⟨hw,hm⟩,q_⟩⟩
 rintro⟨ps',f',e_,_,q_⟩
 simp_arith only[cC,bu,bC,aL,aQ,bE,ff]at e_
 obtain⟨rfl,rfl⟩:=e_
 exact q_
theorem eZ:FnScope ["points", "family"] ["points", "family"] (defScope (Ef 31)):=⟨rfl,rfl,rfl,by decide +kernel,rfl,by decide +kernel,by decide +kernel⟩
theorem d_looks_by_side(Fn:FnIn K mg "looks_by_side" (Ef 31) ["points", "family"])(Z:Bz mg)(d_many_looks:∀rl,Dfn P w K mg base rl "many_looks" ["points", "family"] 3 bJ)(d_side_looks:∀rl,Dfn P w K mg base rl "side_looks" ["numbers", "family"] 2 bI)(d_numbers_at:∀rl,Dfn P w K mg base rl "numbers_at" ["points", "side"] 2 bj)(d_sides_of:∀rl,Dfn P w K mg base rl "sides_of" ["points"] 1 bW)(gl_MOST_LOOKS:GlD K mg "MOST_LOOKS" (.int 3000))  : Dfn P w K mg base rl "looks_by_side" ["points", "family"] 4 aV:=by
 have sc:=eZ
 refine Dfn.of Fn sc (aV.mono) (aV.len) (fun cdv A outer s H E hr=>(ai (cg (a_ mI lT (aK _) (am (d_many_looks _) (hr.mono (by decide)) (aa (vn 0) (aa (vn 1) ac))) (dg gl_MOST_LOOKS)) (av gS) br)
  (av (aA (aY ["side", "points", "family"] [none,some 0,some 1] rfl (bT Z.range_ (aa (am (d_sides_of _) (hr.mono (by decide)) (aa (vn 0) ac)) ac)) (fun _=>(ax 0 (show Ir (["side", "points", "family"]:List Str) by decide +kernel))) (fun _=>bF) (fun _=>(am (d_side_looks _) (hr.mono (by decide)) (aa (am (d_numbers_at _) (hr.mono (by decide)) (aa (vn 1) (aa (vn 0) ac))) (aa (vn 2) ac))))))))) ?_
 rintro ws Q ⟨ps,f,rfl,⟨hw,hm⟩,hQ⟩
 refine aE ?_
 have sz:=HV
 obtain⟨h,hN⟩:=id hw
 have h1:=h.1
 have d4:=h.2.2.2.2
 have gn : -(2^62)<=((dimP ps:Nat):Int)/\((dimP ps:Nat):Int)<2^62:=by omega
 have dm:decide (3000<Fb f.val ps (dimP ps))=false:=by simp;omega
 simp_arith only[ag,ae,bJ.eq,bW.eq,dm]
 refine r8 (fun j=>Ks (sl f.val (nuQ ps j))) ?_ (by omega) ?_
 · intro j hj
   have j0:0<=0+(j:Int):=by omega
   have jl:0+(j:Int)<dimP ps:=by omega
   have et:(0+(j:Int)).toNat=j:=by omega
   have hr:=hN j hj
   simp_arith only[ag,ae,FA,bj.eq,bI.eq,et]
 · exact jW hQ
theorem tG{rows:List (List α)}(h:i<rows.length):chP (rows.take (i+1))=(chP (rows.take i)).flatMap fun b=>rows[i].map fun t=>b++[t]:=by rw[J7 h,iN]
noncomputable def jX(f:Nat)(ps:List (List Rat)):List (List Hg):=(HL (dimP ps)).map fun j=>sl f (nuQ ps j)
theorem Ez(n:Nat):(n+1)*(n+2)=n*(n+1)+2*(n+1):=by rw[Nq,MW]
theorem p5{x:Rat}{g:Rat->Hg}:∀{xs:List Rat},(∀b∈xs,x<=b)->(xs.filterMap fun b=>if x<=b then some (g b)else none).length=xs.length
 | [],_=>rfl
 | y::ys,h=>by rw[Ju,if_pos (h y Ht)];simp[p5 (g:=g) fun b mb=>h b (Hn _ mb)]
theorem xI(E:List Rat)(g:Rat->Rat->Hg):∀{rs:List Rat},rs.Pairwise (· < ·)->(∀a∈rs,∀b∈E,a<=b)->2*(rs.flatMap fun a=>(rs++E).filterMap fun b=>if a<=b then some (g a b)else none).length=rs.length*(rs.length+1)+2*rs.length*E.length
 | [],_,_=>by simp
 | x::xs,h,hE=>by
   obtain⟨h1,h2⟩:=Ko.mp h
   have ih:=xI E g h2 fun a ma=>hE a (Hn _ ma)
   have e1:((x::xs++E).filterMap fun b=>if x<=b then some (g x b)else none).length=xs.length+1+E.length:=by
    rw[p5]
    · simp;omega
    · intro b mb
      rcases HW.mp mb with mb|mb
      · rcases HJ.mp mb with rfl|mb
        · exact IS
        · exact HY (h1 b mb)
      · exact hE x Ht b mb
   have e2:(xs.flatMap fun a=>(x::xs++E).filterMap fun b=>if a<=b then some (g a b)else none)=xs.flatMap fun a=>(xs++E).filterMap fun b=>if a<=b then some (g a b)else none:=by
    rw[List.flatMap_def,List.flatMap_def]
    congr 1
    refine IR fun a ma=>?_
    rw[Lo,Ju,if_neg (JC.mpr (h1 a ma))]
   rw[JA,HD,e1,e2,Ld,ih,Ip]
   have:(xs.length+1)*(xs.length+1+1)=xs.length*(xs.length+1)+2*(xs.length+1):=Ez _
   have:2*(xs.length+1)*E.length=2*xs.length*E.length+2*E.length:=by rw[Ld,MW]
   omega
theorem uA(h:rs.Pairwise (· < ·))(hg:∀q∈rs,Gd q):2*(EE rs).length=(rs.length+1)*(rs.length+2)+2*rs.length:=by
 unfold EE
 have e1:((rs++[1]).filterMap fun b=>if(-1:Rat)<=b then some (Ft (-1) b)else none).length=rs.length+1:=by
  rw[p5]
  · simp
  · intro b mb
    rcases HW.mp mb with mb|mb
    · exact Il (by decide) (hg b mb).2.1
    · cases HK.mp mb;decide
 have e2:=xI [1] Ft h fun a ma b mb=>by cases HK.mp mb;exact HY (hg a ma).2.2
 rw[JA,HD,e1,Ld,e2]
 have:(rs.length+1)*(rs.length+2)=rs.length*(rs.length+1)+2*(rs.length+1):=Ez _
 simp
 omega
theorem pY{x:Rat}{g:Rat->Hg}:∀{xs:List Rat},(∀b∈xs,b<=x)->(xs.filterMap fun b=>if b<=x then some (g b)else none).length=xs.length
 | [],_=>rfl
 | y::ys,h=>by rw[Ju,if_pos (h y Ht)];simp[pY (g:=g) fun b mb=>h b (Hn _ mb)]
theorem xH(E:List Rat)(g:Rat->Rat->Hg):∀{rs:List Rat},rs.Pairwise (· < ·)->(∀a∈rs,∀b∈E,b<=a)->2*(rs.flatMap fun a=>(E++rs).filterMap fun b=>if b<=a then some (g a b)else none).length=rs.length*(rs.length+1)+2*rs.length*E.length
 | [],_,_=>by simp
 | x::xs,h,hE=>by
   obtain⟨h1,h2⟩:=Ko.mp h
   have ih:=xH (E++[x]) g h2 fun a ma b mb=>by
    rcases HW.mp mb with mb|mb
    · exact hE a (Hn _ ma) b mb
    · cases HK.mp mb;exact HY (h1 a ma)
   have e1:((E++x::xs).filterMap fun b=>if b<=x then some (g x b)else none).length=E.length+1:=by
    rw[show E++x::xs=(E++[x])++xs by simp,List.filterMap_append,HD,pY]
    · have:(xs.filterMap fun b=>if b<=x then some (g x b)else none)=[]:=by
        rw[List.filterMap_eq_nil_iff]
        intro b mb
        rw[if_neg (JC.mpr (h1 b mb))]
      rw[this];simp
    · intro b mb
      rcases HW.mp mb with mb|mb
      · exact hE x Ht b mb
      · cases HK.mp mb;exact IS
   have e2:(fun a=>(E++x::xs).filterMap fun b=>if b<=a then some (g a b)else none)=fun a=>((E++[x])++xs).filterMap fun b=>if b<=a then some (g a b)else none:=by
    funext a;rw[show E++x::xs=(E++[x])++xs by simp]
   rw[JA,HD,e1,e2,Ld,ih,Ip,HD,Lh]
   have:(xs.length+1)*(xs.length+1+1)=xs.length*(xs.length+1)+2*(xs.length+1):=Ez _
   have:2*(xs.length+1)*E.length=2*xs.length*E.length+2*E.length:=by rw[Ld,MW]
   have:2*xs.length*(E.length+1)=2*xs.length*E.length+2*xs.length:=by rw[Ld];omega
   omega
theorem uz(h:rs.Pairwise (· < ·))(hg:∀q∈rs,Gd q):2*(EB rs).length=(rs.length+1)*(rs.length+2)+2*rs.length:=by
 unfold EB
 have e1:(((-1)::rs).filterMap fun b=>if b<=(1:Rat)then some (Fq 1 b)else none).length=rs.length+1:=by
  rw[pY]
  · simp
  · intro b mb
    rcases HJ.mp mb with rfl|mb
    · decide
    · exact HY (hg b mb).2.2
 have e2:=xH [-1] Fq h fun a ma b mb=>by cases HK.mp mb;exact Il (by decide) (hg a ma).2.1
 rw[MX,HD,List.flatMap_singleton,e1,Ld]
 have e3:(rs.flatMap fun a=>((-1)::rs).filterMap fun b=>if b<=a then some (Fq a b)else none)=rs.flatMap fun a=>([-1]++rs).filterMap fun b=>if b<=a then some (Fq a b)else none:=rfl
 rw[e3,e2]
 have:(rs.length+1)*(rs.length+2)=rs.length*(rs.length+1)+2*(rs.length+1):=Ez _
 simp
 omega
theorem s_{l:Nat}(h:2*l=(n+1)*(n+2)+2*n):inr (n:Int)=(l:Int):=by
 unfold inr
 have e:((n:Int)+1)*((n:Int)+2)=((2*(l-n):Nat):Int):=by
  have:2*(l-n)=(n+1)*(n+2):=by omega
  rw[this];push_cast;rfl
 rw[e,J3 _ (by decide)]
 have:n<=l:=by have:0<=(n+1)*(n+2):=Ig _;omega
 omega
theorem xy{f:Nat}(h:rs.Pairwise (· < ·))(hg:∀q∈rs,Gd q):((sl f rs).length:Int)=E9 f (rs.length:Nat):=by
 have h1:=s_ (uA h hg)
 have h2:=s_ (uz h hg)
 unfold sl E9
 split
 · simp
 · split
   · exact h1.symm
   · rw[HD];push_cast;omega
theorem tI(f:Nat)(ps:List (List Rat))(hs:∀j,j<dimP ps->(nuQ ps j).Pairwise (· < ·)/\∀q∈nuQ ps j,Gd q):∀i,i<=dimP ps->((chP ((jX f ps).take i)).length:Int)=Fb f ps i
 | 0,_=>by simp[chP,Fb]
 | i+1,h=>by
   have hl:i<(jX f ps).length:=by unfold jX;rw[Hm,Ix];omega
   have e:(jX f ps)[i]=sl f (nuQ ps i):=by simp[jX]
   have ih:=tI f ps hs i (by omega)
   rw[tG hl,iw,<- ih,<- xy (hs i (by omega)).1 (hs i (by omega)).2,e]
   have:∀(l:List (List Hg))(r:List Hg),(l.flatMap fun b=>r.map fun t=>b++[t]).length=l.length*r.length:=fun l r=>by
    induction l with
    | nil=>simp
    | cons x l ih=>rw[JA,HD,Hm,ih,Ip,MW];omega
   rw[this];push_cast;rfl
theorem tJ{α:Type}:∀(n:Nat)(rows:List (List α)),rows.length=n->∀b∈chP rows,b.length=n/\∀t∈b,∃r∈rows,t∈r
 | 0,rows,h,b,mb=>by
   cases Lr h
   simp[chP]at mb
   subst mb
   exact⟨rfl,by simp⟩
 | n+1,rows,h,b,mb=>by
   rcases List.eq_nil_or_concat rows with rfl|⟨init,l,rfl⟩
   · simp at h
   · rw[List.concat_eq_append]at mb h ⊢
     have hl:init.length=n:=by simpa using h
     rw[iN]at mb
     obtain⟨b',mb',z⟩:=IF.mp mb
     obtain⟨t,mt,rfl⟩:=HQ.mp z
     obtain⟨h1,h2⟩:=tJ n init hl b' mb'
     refine⟨by simp[h1],fun u mu=>?_⟩
     rcases HW.mp mu with m|m
     · obtain⟨r,mr,ur⟩:=h2 u m
       exact⟨r,Io _ mr,ur⟩
     · cases HK.mp m
       exact⟨l,HC _ (HK.mpr rfl),mt⟩
theorem rf{f:Nat}{n m:Int}(h0:0<=n)(h:n<=m)(h8:m<=8):E9 f n<=E9 f m:=by
 have hi:inr n<=inr m:=by
  have hn:n=0\/n=1\/n=2\/n=3\/n=4\/n=5\/n=6\/n=7\/n=8:=by omega
  have hm:m=0\/m=1\/m=2\/m=3\/m=4\/m=5\/m=6\/m=7\/m=8:=by omega
  have:∀a:Fin 9,∀b:Fin 9,a.val<=b.val->inr (a.val:Int)<=inr (b.val:Int):=by decide +kernel
  have z:=this ⟨n.toNat,by omega⟩ ⟨m.toNat,by omega⟩ (by show n.toNat<=m.toNat;omega)
  have e1:((n.toNat:Nat):Int)=n:=by omega
  have e2:((m.toNat:Nat):Int)=m:=by omega
  simp only[e1,e2]at z
  exact z
 unfold E9
 split
 · omega
 · split<;>omega
theorem sY{f:Nat}{ps:List (List Rat)}{M:Int}(M8:M<=8)(h:∀j,j<dimP ps->((nuQ ps j).length:Int)<=M):∀i,i<=dimP ps->0<=Fb f ps i/\Fb f ps i<=(E9 f M)^i
 | 0,_=>by simp[Fb]
 | i+1,hi=>by
   obtain⟨a,b⟩:=sY (f:=f) M8 h i (by omega)
   have hj:=h i (by omega)
   have m1:=rf (f:=f) (n:=((nuQ ps i).length:Nat)) (by omega) hj M8
   have m0:=(sW (f:=f) (n:=((nuQ ps i).length:Nat)) (by omega) (by omega)).1
   rw[iw,Int.pow_succ]
   exact⟨Int.mul_nonneg a m0,Int.mul_le_mul b m1 m0 (Nt a b)⟩
theorem qX(h:rs.Pairwise (· < ·)):rs.Nodup:=h.imp fun{a b} l e=>by subst e;exact Lw l
theorem AL{s m:Nat}{bs:List (List Rat)}(hb:∀p∈ps,p∈bs)(j:Nat):(nuQ ps j).length<=bs.length:=by
 have hs:=i6 (colQ ps j)
 have h1:nuQ ps j ⊆ bs.map fun p=>p.getD j 0:=fun q mq=>by
  obtain⟨p,mp,rfl⟩:=HQ.mp ((hs.2 q).mp mq)
  exact HQ.mpr ⟨p,hb p mp,rfl⟩
 have:=(qX hs.1).length_le_of_subset h1
 rwa [Hm]at this
noncomputable def bU:List W->(Hg->Prop)->Prop:=fun ws Q=>∃(s:Sd),ws=[.d (EJ s)]/\((s.Sm))/\Q (fr (szQ s))
theorem bU.mono:∀ws (Q Q':Hg->Prop),(∀d,Q d->Q' d)->bU ws Q->bU ws Q':=fun _ _ _ h_=>HB fun _=>Ho (Ho (h_ _))
theorem bU.len:∀ws (Q:Hg->Prop),bU ws Q->ws.length=1:=fun _ _ h_=>by obtain⟨_,e_,_⟩:=h_;subst e_;rfl
theorem bU.eq(s:Sd)(sm:s.Sm):bU [.d (EJ s)]=VL.ret (fr (szQ s):Hg):=by
 refine ak fun Q=>⟨?_,fun q_=>⟨s,rfl,sm,q_⟩⟩
 rintro⟨s',e_,_,q_⟩
 simp_arith only[cC,bu,bC,aL,aQ,bE]at e_
 obtain rfl:=e_
 exact q_
theorem i9:FnScope ["side", "end", "width"] ["side"] (defScope (Ef 18)):=⟨rfl,rfl,rfl,by decide +kernel,rfl,by decide +kernel,by decide +kernel⟩
theorem d_side_size(Fn:FnIn K mg "side_size" (Ef 18) ["side"])(Z:Bz mg)(d_greater:∀rl,Dfn P w K mg base rl "greater" ["one", "other"] 2 cu)(d_less:∀rl,Dfn P w K mg base rl "less" ["one", "other"] 3 d7)(d_lesser:∀rl,Dfn P w K mg base rl "lesser" ["one", "other"] 2 cO)(d_plus:∀rl,Dfn P w K mg base rl "plus" ["one", "other"] 3 eU)(gl_ZERO:GlD K mg "ZERO" (pr 0 1))(gl_ONE:GlD K mg "ONE" (pr 1 1))  : Dfn P w K mg base rl "side_size" ["side"] 4 bU:=by
 have sc:=i9
 refine Dfn.of Fn sc (bU.mono) (bU.len) (fun cdv A outer s H E hr=>(ai (ay 1 sc.nd (am (d_greater _) (hr.mono (by decide)) (aa (bR (vn 0) (t_ af)) (aa (dg gl_ZERO) ac))))
  (ai (cg (a_ gm dG (aK _) (bR (vn 0) af) bG) (av (aA (vn 1))) br)
  (ai (ay 2 sc.nd (am (d_less _) (hr.mono (by decide)) (aa (vn 1) (aa (am (d_greater _) (hr.mono (by decide)) (aa (bR (vn 0) af) (aa (dg gl_ZERO) ac))) ac))))
  (ai (cg (a_ gm dG (aK _) (bR (vn 0) af) bG) (av (aA (am (d_greater _) (hr.mono (by decide)) (aa (vn 2) (aa (dg gl_ZERO) ac))))) br)
  (av (aA (am (d_lesser _) (hr.mono (by decide)) (aa (am (d_plus _) (hr.mono (by decide)) (aa (dg gl_ONE) (aa (vn 2) ac))) (aa (dg gl_ONE) ac)))))))))) ?_
 rintro ws Q ⟨s,rfl,sm,hQ⟩
 have w1:decide (Hj "from" = Hj "to")=false:=by decide +kernel
 have w2:decide (Hj "round" = Hj "to")=false:=by decide +kernel
 have w3:decide (Hj "round" = Hj "from")=false:=by decide +kernel
 have w4:decide (Hj "to" = Hj "to")=true:=by decide +kernel
 have w5:decide (Hj "from" = Hj "from")=true:=by decide +kernel
 refine aE ?_
 have z0:EQ 2000 0:=qK.up
 have z1:EQ 2000 1:=Ax.up
 cases s with
 | to t =>
   have a1:EQ 2000 t:=sm.2.up
   simp_arith only[ag,ae,cu.eq,d7.eq,cO.eq,eU.eq,Hb,w1,w2,w3,w4,w5,EJ]
   exact aF hQ
 | «from» a b =>
   have a1:EQ 2000 b:=sm.2.up
   have a2:EQ 2000 a:=sm.1.up
   have m1:EQ 60 (mx b 0):=gq sm.2 qK
   have m2:EQ 60 (mx a 0):=gq sm.1 qK
   have m3:=m1.up
   have m4:=m2.up
   have m5:EQ 2000 (mx b 0-mx a 0):=(eP m1 m2).mono (by decide)
   simp_arith only[ag,ae,cu.eq,d7.eq,cO.eq,eU.eq,Hb,w1,w2,w3,w4,w5,EJ]
   exact aF hQ
 | round a b =>
   have a1:EQ 2000 b:=sm.2.up
   have a2:EQ 2000 a:=sm.1.up
   have m1:EQ 60 (mx b 0):=gq sm.2 qK
   have m2:EQ 60 (mx a 0):=gq sm.1 qK
   have m3:=m1.up
   have m4:=m2.up
   have m5:EQ 2000 (mx b 0-mx a 0):=(eP m1 m2).mono (by decide)
   have m6:EQ 2000 (1+(mx b 0-mx a 0)):=(lO Ax (eP m1 m2)).mono (by decide)
   simp_arith only[ag,ae,cu.eq,d7.eq,cO.eq,eU.eq,Hb,w1,w2,w3,w4,w5,EJ]
   exact aF hQ
noncomputable def bK:List W->(Hg->Prop)->Prop:=fun ws Q=>∃(x y:Rat)(b:Bool),ws=[.d (fr x),.d (fr y),.d (.bool b)]/\((EQ 2000 x)/\(EQ 2000 y))/\Q (.bool (FK x y b))
theorem bK.mono:∀ws (Q Q':Hg->Prop),(∀d,Q d->Q' d)->bK ws Q->bK ws Q':=fun _ _ _ h_=>HB fun _=>HB fun _=>HB fun _=>Ho (Ho (h_ _))
theorem bK.len:∀ws (Q:Hg->Prop),bK ws Q->ws.length=3:=fun _ _ h_=>by obtain⟨_,_,_,e_,_⟩:=h_;subst e_;rfl
theorem bK.eq(x y:Rat)(b:Bool)(h1:EQ 2000 x)(h2:EQ 2000 y):bK [.d (fr x),.d (fr y),.d (.bool b)]=VL.ret (.bool (FK x y b):Hg):=by
 refine ak fun Q=>⟨?_,fun q_=>⟨x,y,b,rfl,⟨h1,h2⟩,q_⟩⟩
 rintro⟨x',y',b',e_,_,q_⟩
 simp_arith only[cC,bu,bC,aL,aQ,bE]at e_
 obtain⟨rfl,rfl,rfl⟩:=e_
 exact q_
theorem ij:FnScope ["one", "other", "may_meet"] ["one", "other", "may_meet"] (defScope (Ef 19)):=⟨rfl,rfl,rfl,by decide +kernel,rfl,by decide +kernel,by decide +kernel⟩
theorem d_goes_ahead(Fn:FnIn K mg "goes_ahead" (Ef 19) ["one", "other", "may_meet"])(Z:Bz mg)(d_is_below:∀rl,Dfn P w K mg base rl "is_below" ["one", "other"] 1 be)   : Dfn P w K mg base rl "goes_ahead" ["one", "other", "may_meet"] 2 bK:=by
 have sc:=ij
 refine Dfn.of Fn sc (bK.mono) (bK.len) (fun cdv A outer s H E hr=>(ai (cg (de (vn 2)) (av (aA (v_not (am (d_is_below _) (hr.mono (by decide)) (aa (vn 1) (aa (vn 0) ac)))))) br)
  (av (aA (am (d_is_below _) (hr.mono (by decide)) (aa (vn 0) (aa (vn 1) ac))))))) ?_
 rintro ws Q ⟨x,y,b,rfl,⟨h1,h2⟩,hQ⟩
 refine aE ?_
 simp_arith only[ag,ae,be.eq,Hb]
 cases b<;>simp only[FK,Kn,↓reduceIte]at hQ ⊢ <;> exact aF hQ
noncomputable def fR:List W->(Hg->Prop)->Prop:=fun ws Q=>∃(x:Rat)(s:Sd)(w:Str),ws=[.d (fr x),.d (EJ s),.d (.str w)]/\((EQ 60 x)/\(s.Sm)/\(FC w))/\Q (.bool (Fi s w x))
theorem fR.mono:∀ws (Q Q':Hg->Prop),(∀d,Q d->Q' d)->fR ws Q->fR ws Q':=fun _ _ _ h_=>HB fun _=>HB fun _=>HB fun _=>Ho (Ho (h_ _))
theorem fR.len:∀ws (Q:Hg->Prop),fR ws Q->ws.length=3:=fun _ _ h_=>by obtain⟨_,_,_,e_,_⟩:=h_;subst e_;rfl
theorem fR.eq(x:Rat)(s:Sd)(w:Str)(sx:EQ 60 x)(sm:s.Sm)(hw:FC w):fR [.d (fr x),.d (EJ s),.d (.str w)]=VL.ret (.bool (Fi s w x):Hg):=by
 refine ak fun Q=>⟨?_,fun q_=>⟨x,s,w,rfl,⟨sx,sm,hw⟩,q_⟩⟩
 rintro⟨x',s',w',e_,_,q_⟩
 simp_arith only[cC,bu,bC,aL,aQ,bE]at e_
 obtain⟨rfl,rfl,rfl⟩:=e_
 exact q_
theorem uH:FnScope ["x", "side", "way", "ahead", "behind"] ["x", "side", "way"] (defScope (Ef 20)):=⟨rfl,rfl,rfl,by decide +kernel,rfl,by decide +kernel,by decide +kernel⟩
theorem d_lies(Fn:FnIn K mg "lies" (Ef 20) ["x", "side", "way"])(Z:Bz mg)(d_goes_ahead:∀rl,Dfn P w K mg base rl "goes_ahead" ["one", "other", "may_meet"] 2 bK)   : Dfn P w K mg base rl "lies" ["x", "side", "way"] 3 fR:=by
 have sc:=uH
 refine Dfn.of Fn sc (fR.mono) (fR.len) (fun cdv A outer s H E hr=>(ai (ay 3 sc.nd (am (d_goes_ahead _) (hr.mono (by decide)) (aa (vn 0) (aa (bR (vn 1) (t_ af)) (aa (fG gm dG (aK _) (vn 2) bG) ac)))))
  (ai (cg (a_ gm dG (aK _) (bR (vn 1) af) bG) (av (aA (vn 3))) br)
  (ai (ay 4 sc.nd (am (d_goes_ahead _) (hr.mono (by decide)) (aa (bR (vn 1) af) (aa (vn 0) (aa (fG AI wI (aK _) (vn 2) bG) ac)))))
  (ai (cg (a_ gm dG (aK _) (bR (vn 1) af) bG) (av (aA (v_and (vn 4) (qr (vn 3))))) br)
  (av (aA (v_or (vn 4) (qr (vn 3)))))))))) ?_
 rintro ws Q ⟨x,s,w,rfl,⟨sx,sm,hw⟩,hQ⟩
 have w1:decide (Hj "from" = Hj "to")=false:=by decide +kernel
 have w2:decide (Hj "round" = Hj "to")=false:=by decide +kernel
 have w3:decide (Hj "round" = Hj "from")=false:=by decide +kernel
 have w4:decide (Hj "to" = Hj "to")=true:=by decide +kernel
 have w5:decide (Hj "from" = Hj "from")=true:=by decide +kernel
 refine aE ?_
 have sx':=sx.up
 have a1:EQ 2000 s.last:=sm.2.up
 have a2:EQ 2000 s.first:=sm.1.up
 cases s with
 | to t =>
   have a1:EQ 2000 t:=a1
   simp_arith only[ag,ae,bK.eq,Hb,w1,w2,w3,w4,w5,EJ]
   exact aF hQ
 | «from» a b =>
   have a1:EQ 2000 b:=a1
   have a2:EQ 2000 a:=a2
   simp_arith only[ag,ae,bK.eq,Hb,w1,w2,w3,w4,w5,EJ]
   exact aF hQ
 | round a b =>
   have a1:EQ 2000 b:=a1
   have a2:EQ 2000 a:=a2
   simp_arith only[ag,ae,bK.eq,Hb,w1,w2,w3,w4,w5,EJ]
   exact aF hQ
noncomputable def slFS(rs:List Rat):List Sd:=((-1)::rs).flatMap fun a=>(rs++[1]).filterMap fun b=>if a<=b then some (.from a b)else none
noncomputable def slRS(rs:List Rat):List Sd:=(rs++[1]).flatMap fun a=>((-1)::rs).filterMap fun b=>if b<=a then some (.round a b)else none
noncomputable def slS(f:Nat)(rs:List Rat):List Sd:=if f=0 then(rs++[1]).map Sd.to else if f=1 then slFS rs else slFS rs++slRS rs
theorem pI{γ:Type}(p:α->Prop)[DecidablePred p](g:α->β)(h:β->γ)(xs:List α):(xs.filterMap fun b=>if p b then some (h (g b))else none)=(xs.filterMap fun b=>if p b then some (g b)else none).map h:=by
 rw[List.map_filterMap]
 congr 1
 funext b
 by_cases c:p b<;>simp[c]
theorem nS(rs:List Rat):EE rs=(slFS rs).map EJ:=by
 unfold EE slFS
 rw[Lq]
 congr 1
 funext a
 exact pI (fun b=>a<=b) (fun b=>Sd.from a b) EJ _
theorem sM(rs:List Rat):EB rs=(slRS rs).map EJ:=by
 unfold EB slRS
 rw[Lq]
 congr 1
 funext a
 exact pI (fun b=>b<=a) (fun b=>Sd.round a b) EJ _
theorem xA(f:Nat)(rs:List Rat):sl f rs=(slS f rs).map EJ:=by
 unfold sl slS
 split
 · rw[Ij];rfl
 · split
   · exact nS rs
   · rw[IJ,nS,sM]
theorem sK{f:Nat}(h:Rs rs):∀s∈slS f rs,s.Sm:=by
 have hF:∀s∈slFS rs,s.Sm:=fun s ms=>by
  obtain⟨a,ma,h1⟩:=IF.mp ms
  obtain⟨b,mb,h2⟩:=IN.mp h1
  split at h2
  · cases h2;exact⟨jI h a ma,fY h b mb⟩
  · cases h2
 have hR:∀s∈slRS rs,s.Sm:=fun s ms=>by
  obtain⟨a,ma,h1⟩:=IF.mp ms
  obtain⟨b,mb,h2⟩:=IN.mp h1
  split at h2
  · cases h2;exact⟨fY h a ma,jI h b mb⟩
  · cases h2
 intro s ms
 unfold slS at ms
 split at ms
 · obtain⟨t,mt,rfl⟩:=HQ.mp ms
   exact⟨fY h t mt,fY h t mt⟩
 · split at ms
   · exact hF s ms
   · rcases HW.mp ms with m|m
     · exact hF s m
     · exact hR s m
noncomputable def rowsS(f:Nat)(ps:List (List Rat)):List (List Sd):=(HL (dimP ps)).map fun j=>slS f (nuQ ps j)
theorem uJ(f:Nat)(ps:List (List Rat)):jX f ps=(rowsS f ps).map (LV EJ):=by
 unfold jX rowsS
 rw[Ij]
 exact IR fun j _=>xA f (nuQ ps j)
theorem uK(f:Nat)(ps:List (List Rat)):((HL (dimP ps)).map fun j=>Ks (sl f (nuQ ps j)))=(rowsS f ps).map fun r=>Ks (r.map EJ):=by
 unfold rowsS
 rw[Ij]
 exact IR fun j _=>by rw[xA];rfl
theorem eK(f:Nat)(ps:List (List Rat)):(rowsS f ps).length=dimP ps:=by unfold rowsS;rw[Hm,Ix]
theorem io{f:Nat}(h:i<(rowsS f ps).length):(rowsS f ps)[i]=slS f (nuQ ps i):=by simp[rowsS]
noncomputable def FZ(f:Nat)(ps:List (List Rat)):Prop:=Gv ps/\ps.length<=16/\(∀j,j<dimP ps->(nuQ ps j).Pairwise (· < ·))/\∀i,i<=dimP ps->Fb f ps i<=3000
theorem FZ.gd{f:Nat}(h:FZ f ps):∀j,j<dimP ps->(nuQ ps j).Pairwise (· < ·)/\∀q∈nuQ ps j,Gd q:=fun j hj=>⟨h.2.2.1 j hj,(h.1.2 j hj).2⟩
theorem FZ.len{f:Nat}(h:FZ f ps)(hi:i<=dimP ps):(chP ((rowsS f ps).take i)).length<=3000:=by
 have e:=tI f ps h.gd i hi
 have m:=h.2.2.2 i hi
 rw[uJ,<- Nh,wc,Hm]at e
 omega
theorem FZ.sm{f:Nat}(h:FZ f ps)(hi:i<=dimP ps):∀ss∈chP ((rowsS f ps).take i),ss.length=i/\∀s∈ss,s.Sm:=fun ss ms=>by
 obtain⟨h1,h2⟩:=tJ i _ (by rw[JR,eK];omega) ss ms
 refine⟨h1,fun s mt=>?_⟩
 obtain⟨r,mr,hr⟩:=h2 s mt
 obtain⟨j,hj,rfl⟩:=HQ.mp (Lv mr)
 exact sK (h.1.2 j (Im.mp hj)) s hr
theorem Au(ps:List (List Rat)):Jl [Jl [],Ks (aM 0 ps.length),Ks (aM 0 ps.length),fr 1]=EK (rvO ps []):=by
 have h:∀f:List Rat->Bool,(∀p,f p=true)->E4 (plc f ps)=Ks (aM 0 ps.length):=fun f hf=>by
  unfold plc E4
  rw[MY.mpr fun k _=>hf _]
  congr 1
  exact IR fun k _=>by show H_ _=H_ (0+(k:Int));rw[Nu]
 unfold EK rvO
 dsimp only
 rw[h _ fun p=>by simp[Fu],h _ fun p=>by simp[Fu]];rfl
noncomputable def cN:List W->(Hg->Prop)->Prop:=fun ws Q=>∃(xs:List Rat)(s:Sd),ws=[.d (.list (xs.map fr)),.d (EJ s)]/\((xs.length<=60)/\(∀x∈xs,EQ 60 x)/\(s.Sm))/\Q (Fd s (Fh "shut" xs s) (Fh "open" xs s))
theorem cN.mono:∀ws (Q Q':Hg->Prop),(∀d,Q d->Q' d)->cN ws Q->cN ws Q':=fun _ _ _ h_=>HB fun _=>HB fun _=>Ho (Ho (h_ _))
theorem cN.len:∀ws (Q:Hg->Prop),cN ws Q->ws.length=2:=fun _ _ h_=>by obtain⟨_,_,e_,_⟩:=h_;subst e_;rfl
theorem cN.eq(xs:List Rat)(s:Sd)(hl:xs.length<=60)(hx:∀x∈xs,EQ 60 x)(hs:s.Sm):cN [.d (.list (xs.map fr)),.d (EJ s)]=VL.ret (Fd s (Fh "shut" xs s) (Fh "open" xs s):Hg):=by
 refine ak fun Q=>⟨?_,fun q_=>⟨xs,s,rfl,⟨hl,hx,hs⟩,q_⟩⟩
 rintro⟨xs',s',e_,_,q_⟩
 simp_arith only[cC,bu,bC,aL,aQ,bE,ff,jD,ke,jo,jV,i3,jN,and_assoc]at e_
 obtain⟨rfl,rfl⟩:=e_
 exact q_
theorem n6:FnScope ["numbers", "look", "shut", "free"] ["numbers", "look"] (defScope (Ef 32)):=⟨rfl,rfl,rfl,by decide +kernel,rfl,by decide +kernel,by decide +kernel⟩
theorem d_marked(Fn:FnIn K mg "marked" (Ef 32) ["numbers", "look"])(Z:Bz mg)(d_lies:∀rl,Dfn P w K mg base rl "lies" ["x", "side", "way"] 3 fR)(d_side_size:∀rl,Dfn P w K mg base rl "side_size" ["side"] 4 bU)   : Dfn P w K mg base rl "marked" ["numbers", "look"] 5 cN:=by
 have sc:=n6
 refine Dfn.of Fn sc (cN.mono) (cN.len) (fun cdv A outer s H E hr=>(ai (cH 2 sc.nd ["x", "look"] [none,some 1] rfl (bP (vn 0)) (fun _=>(ax 0 (show Ir (["x", "look"]:List Str) by decide +kernel))) (fun _=>bF) (fun _=>(am (d_lies _) (hr.mono (by decide)) (aa (vn 0) (aa (vn 1) (aa bG ac))))))
  (ai (cH 3 sc.nd ["x", "look"] [none,some 1] rfl (bP (vn 0)) (fun _=>(ax 0 (show Ir (["x", "look"]:List Str) by decide +kernel))) (fun _=>bF) (fun _=>(am (d_lies _) (hr.mono (by decide)) (aa (vn 0) (aa (vn 1) (aa bG ac))))))
  (av (aA (cE (aa (vn 1) (aa (vn 2) (aa (vn 3) (aa (am (d_side_size _) (hr.mono (by decide)) (aa (vn 1) ac)) ac)))))))))) ?_
 rintro ws Q ⟨xs,s,rfl,⟨hl,hx,hs⟩,hQ⟩
 refine aE ?_
 have sz:=HV
 have ws:FC "shut" := .inr (.inl rfl)
 have wo:FC "open" := .inr (.inr rfl)
 simp_arith only[ag,ae]
 refine Ex (b_ (xs:=xs) (enc:=fr) (fun x=>.bool (Fi s "shut" x)) rfl ?_ (by omega) ?_)
 · intro x mx
   have h:=hx x mx
   simp_arith only[ag,ae,FA,fR.eq]
 simp_arith only[ag,ae]
 refine Ex (b_ (xs:=xs) (enc:=fr) (fun x=>.bool (Fi s "open" x)) rfl ?_ (by omega) ?_)
 · intro x mx
   have h:=hx x mx
   simp_arith only[ag,ae,FA,fR.eq]
 simp_arith only[ag,ae,bU.eq]
 refine aF ?_
 unfold Fd FT Fh at hQ
 rw[Ij,Ij]at hQ
 exact hQ
noncomputable def cq:List W->(Hg->Prop)->Prop:=fun ws Q=>∃(r:Rv)(e:Sd)(s f:List Bool),ws=[.d (EK r),.d (Fd e s f)]/\((∀k∈r.sh,k<s.length)/\(∀k∈r.op,k<f.length)/\(r.es.length<=60)/\(r.sh.length<=60)/\(r.op.length<=60)/\(EQ 2000 r.sz)/\(EQ 2000 (szQ e)))/\Q (EK (r.wid e s f))
theorem cq.mono:∀ws (Q Q':Hg->Prop),(∀d,Q d->Q' d)->cq ws Q->cq ws Q':=fun _ _ _ h_=>HB fun _=>HB fun _=>HB fun _=>HB fun _=>Ho (Ho (h_ _))
theorem cq.len:∀ws (Q:Hg->Prop),cq ws Q->ws.length=2:=fun _ _ h_=>by obtain⟨_,_,_,_,e_,_⟩:=h_;subst e_;rfl
theorem cq.eq(r:Rv)(e:Sd)(s f:List Bool)(hs:∀k∈r.sh,k<s.length)(ho:∀k∈r.op,k<f.length)(hl:r.es.length<=60)(sl:r.sh.length<=60)(ol:r.op.length<=60)(q1:EQ 2000 r.sz)(q2:EQ 2000 (szQ e)):cq [.d (EK r),.d (Fd e s f)]=VL.ret (EK (r.wid e s f):Hg):=by
 refine ak fun Q=>⟨?_,fun q_=>⟨r,e,s,f,rfl,⟨hs,ho,hl,sl,ol,q1,q2⟩,q_⟩⟩
 rintro⟨r',e',s',f',e_,_,q_⟩
 simp_arith only[cC,bu,bC,aL,aQ,bE,ff,jD,ke,jo,jV,i3,jN,and_assoc]at e_
 obtain⟨rfl,rfl,rfl,rfl⟩:=e_
 exact q_
theorem mh:FnScope ["row", "mark", "box", "shut", "free", "size", "look", "shut_there", "free_there", "size_there"] ["row", "mark"] (defScope (Ef 33)):=⟨rfl,rfl,rfl,by decide +kernel,rfl,by decide +kernel,by decide +kernel⟩
theorem d_widened(Fn:FnIn K mg "widened" (Ef 33) ["row", "mark"])(Z:Bz mg)(d_times:∀rl,Dfn P w K mg base rl "times" ["one", "other"] 3 dQ)   : Dfn P w K mg base rl "widened" ["row", "mark"] 4 cq:=by
 have sc:=mh
 refine Dfn.of Fn sc (cq.mono) (cq.len) (fun cdv A outer s H E hr=>(ai (su (vn 0) (gv (n:=4) rfl (aX (ax 2 sc.nd) (aX (ax 3 sc.nd) (aX (ax 4 sc.nd) (aX (ax 5 sc.nd) eG))))))
  (ai (su (vn 1) (gv (n:=4) rfl (aX (ax 6 sc.nd) (aX (ax 7 sc.nd) (aX (ax 8 sc.nd) (aX (ax 9 sc.nd) eG))))))
  (av (aA (cE (aa (nl (vn 2) (cE (aa (vn 6) ac))) (aa (aY ["place", "shut_there"] [none,some 7] rfl (bP (vn 3)) (fun _=>(ax 0 (show Ir (["place", "shut_there"]:List Str) by decide +kernel))) (fun _=>gu (de (bR (vn 1) (vn 0)))) (fun _=>(vn 0))) (aa (aY ["place", "free_there"] [none,some 8] rfl (bP (vn 4)) (fun _=>(ax 0 (show Ir (["place", "free_there"]:List Str) by decide +kernel))) (fun _=>gu (de (bR (vn 1) (vn 0)))) (fun _=>(vn 0))) (aa (am (d_times _) (hr.mono (by decide)) (aa (vn 5) (aa (vn 9) ac))) ac)))))))))) ?_
 rintro ws Q ⟨r,e,s,f,rfl,⟨hs,ho,hl,sl,ol,q1,q2⟩,hQ⟩
 refine aE ?_
 have sz:=HV
 have g1:(r.es.map EJ).length+1<=sizeLine:=by rw[Hm];omega
 have tb:tupD (mT r.es)=some (r.es.map EJ):=rfl
 simp_arith only[ag,ae,EK,Fd,E4,FT,tb]
 refine tK (xs:=r.sh) (enc:=fun k:Nat=>H_ (k:Int)) (fun k=>if s.getD k false=true then some (H_ (k:Int))else none) rfl ?_ (by omega) ?_
 · intro k mk
   have e1:=iQ (xs:=s) false (show(0:Int)<=(k:Int) by omega) (by have:=hs k mk;omega)
   rw[JW]at e1
   have e2:atI (s.map JH) (k:Int)=some (.bool (s.getD k false)):=by rw[cw,e1];rfl
   simp_arith only[ag,ae,FA,e2]
   try rfl
   try (split<;>rfl)
 refine tK (xs:=r.op) (enc:=fun k:Nat=>H_ (k:Int)) (fun k=>if f.getD k false=true then some (H_ (k:Int))else none) rfl ?_ (by omega) ?_
 · intro k mk
   have e1:=iQ (xs:=f) false (show(0:Int)<=(k:Int) by omega) (by have:=ho k mk;omega)
   rw[JW]at e1
   have e2:atI (f.map JH) (k:Int)=some (.bool (f.getD k false)):=by rw[cw,e1];rfl
   simp_arith only[ag,ae,FA,e2]
   try rfl
   try (split<;>rfl)
 rw[rS (fun k=>s.getD k false=true) (fun k:Nat=>H_ (k:Int)),rS (fun k=>f.getD k false=true) (fun k:Nat=>H_ (k:Int))]
 simp_arith only[ag,ae,dQ.eq]
 refine aF ?_
 have eq:EK (r.wid e s f) = .tuple [.tuple (r.es.map EJ++[EJ e]),.list ((r.sh.filter fun k=>decide (s.getD k false=true)).map fun k:Nat=>.int (k:Int)),.list ((r.op.filter fun k=>decide (f.getD k false=true)).map fun k:Nat=>.int (k:Int)),fr (r.sz*szQ e)]:=by
  unfold EK Rv.wid mT E4
  rw[IJ]
  simp
 rw[eq]at hQ
 exact hQ
noncomputable def aW:List W->(Hg->Prop)->Prop:=fun ws Q=>∃(ps:List (List Rat))(f:Fin 3),ws=[.d (ptsQ ps),.d (.str (cG f))]/\((FZ f.val ps))/\Q (.list ((chP (rowsS f.val ps)).map fun ss=>EK (rvO ps ss)))
theorem aW.mono:∀ws (Q Q':Hg->Prop),(∀d,Q d->Q' d)->aW ws Q->aW ws Q':=fun _ _ _ h_=>HB fun _=>HB fun _=>Ho (Ho (h_ _))
theorem aW.len:∀ws (Q:Hg->Prop),aW ws Q->ws.length=2:=fun _ _ h_=>by obtain⟨_,_,e_,_⟩:=h_;subst e_;rfl
theorem aW.eq(ps:List (List Rat))(f:Fin 3)(hw:FZ f.val ps):aW [.d (ptsQ ps),.d (.str (cG f))]=VL.ret (.list ((chP (rowsS f.val ps)).map fun ss=>EK (rvO ps ss)):Hg):=by
 refine ak fun Q=>⟨?_,fun q_=>⟨ps,f,rfl,hw,q_⟩⟩
 rintro⟨ps',f',e_,_,q_⟩
 simp_arith only[cC,bu,bC,aL,aQ,bE,ff,jD,ke,jo,jV,i3,jN,and_assoc]at e_
 obtain⟨rfl,rfl⟩:=e_
 exact q_
theorem e8:FnScope ["points", "family", "places", "rows", "side", "side_rows", "numbers", "marks"] ["points", "family"] (defScope (Ef 34)):=⟨rfl,rfl,rfl,by decide +kernel,rfl,by decide +kernel,by decide +kernel⟩
theorem d_counted_looks(Fn:FnIn K mg "counted_looks" (Ef 34) ["points", "family"])(Z:Bz mg)(d_looks_by_side:∀rl,Dfn P w K mg base rl "looks_by_side" ["points", "family"] 4 aV)(d_marked:∀rl,Dfn P w K mg base rl "marked" ["numbers", "look"] 5 cN)(d_widened:∀rl,Dfn P w K mg base rl "widened" ["row", "mark"] 4 cq)(gl_ONE:GlD K mg "ONE" (pr 1 1))  : Dfn P w K mg base rl "counted_looks" ["points", "family"] 6 aW:=by
 have sc:=e8
 refine Dfn.of Fn sc (aW.mono) (aW.len) (fun cdv A outer s H E hr=>(ai (ay 2 sc.nd (iX Z.list_ Z.range_ (aa (cK Z.len_ (aa (vn 0) ac)) ac)))
  (ai (ay 3 sc.nd (cJ (aa (cE (aa (cE ac) (aa (vn 2) (aa (vn 2) (aa (dg gl_ONE) ac))))) ac)))
  (ai (eF [4,5,6,7] Js rfl (gX Z.enumerate_ (aa (am (d_looks_by_side _) (hr.mono (by decide)) (aa (vn 0) (aa (vn 1) ac))) ac)) (gv (n:=2) rfl (aX (ax 4 sc.nd) (aX (ax 5 sc.nd) eG))) (ai (cH 6 sc.nd ["point", "side"] [none,some 4] rfl (fE (vn 0)) (fun _=>(ax 0 (show Ir (["point", "side"]:List Str) by decide +kernel))) (fun _=>bF) (fun _=>(bR (vn 0) (vn 1))))
  (ai (cH 7 sc.nd ["look", "numbers"] [none,some 6] rfl (bP (vn 5)) (fun _=>(ax 0 (show Ir (["look", "numbers"]:List Str) by decide +kernel))) (fun _=>bF) (fun _=>(am (d_marked _) (hr.mono (by decide)) (aa (vn 1) (aa (vn 0) ac)))))
  (av (fD 3 sc.nd ["row", "mark", "marks"] [none,none,some 7] rfl (bP (vn 3)) (fun _=>(ax 0 (show Ir (["row", "mark", "marks"]:List Str) by decide +kernel))) (fun _=>bF) (fun _=>(bP (vn 2))) (fun _=>(ax 1 (show Ir (["row", "mark", "marks"]:List Str) by decide +kernel))) (fun _=>bF) (fun _=>(am (d_widened _) (hr.mono (by decide)) (aa (vn 0) (aa (vn 1) ac)))))))))
  (av (aA (vn 3))))))) ?_
 rintro ws Q ⟨ps,f,rfl,hw,hQ⟩
 refine aE ?_
 have sz:=HV
 have hN:=hw.1
 have hP:=hN.1
 have h8:=hw.2.1
 have hpl:∀p∈ps,p.length=dimP ps:=fun p mp=>(hP.2.2.1 p mp).1
 have hm:=hw.2.2.2 (dimP ps) (HA _)
 have gn : -(2^62)<=((ps.length:Nat):Int)/\((ps.length:Nat):Int)<2^62:=by omega
 have er:=uK f.val ps
 have rl:=eK f.val ps
 have d4:=hP.2.2.2.2
 have r0:=Au ps
 simp_arith only[ag,ae,Hb,aV.eq,yB,er,y8,jw,r0]
 refine pD (xs:=(rowsS f.val ps).zipIdx) (enc:=fun z=>Jl [H_ ((z.2:Nat):Int),Ks (z.1.map EJ)]) (fun i ρ=>ρ=[some (.d (ptsQ ps)),some (.d (.str (cG f))),some (.d (.list (aM 0 ps.length))),some (.d (.list ((chP ((rowsS f.val ps).take i)).map fun ss=>EK (rvO ps ss)))),none,none,none,none]) rfl rfl ?_ ?_
 · rintro i hi ρ rfl K hK
   have hi1:i<(rowsS f.val ps).length:=by rw[J6]at hi;exact hi
   have hin:i<dimP ps:=by rw[<- rl];exact hi1
   have ez:(rowsS f.val ps).zipIdx[i]=((rowsS f.val ps)[i],i):=by rw[List.getElem_zipIdx];simp
   rw[ez]
   have tk:=tG hi1
   have rl1:=hw.len (show i<=dimP ps by omega)
   have rl2:=hw.len (show i+1<=dimP ps by omega)
   have hsm:=hw.sm (show i<=dimP ps by omega)
   have hEs:∀s∈(rowsS f.val ps)[i],s.Sm:=by rw[io hi1];exact sK (hN.2 i hin)
   have El:(rowsS f.val ps)[i].length<=200:=by
    have h1:=lf (hN.2 i hin).1
    have h2:=nP (hN.2 i hin).1
    have h3:=(hN.2 i hin).1
    rw[nS,Hm]at h1
    rw[sM,Hm]at h2
    rw[io hi1]
    unfold slS
    split
    · simp;omega
    · split
      · omega
      · rw[HD];omega
   generalize (rowsS f.val ps)[i]=E at tk hEs El ⊢
   generalize chP ((rowsS f.val ps).take i)=C at tk rl1 hsm ⊢
   simp_arith only[ag,ae,Hb]
   refine Ex (b_ (xs:=ps) (enc:=ET) (fun p=>fr (p.getD i 0)) rfl ?_ (by omega) ?_)
   · intro p mp
     have e:=lI (rK hP.2.2.1) hin p mp
     simp_arith only[ag,ae,FA,Hb,e]
   have em:ps.map (fun p=>fr (p.getD i 0))=(ps.map fun p=>p.getD i 0).map fr:=by rw[Ij];rfl
   rw[em]
   have cl:(ps.map fun p=>p.getD i 0).length<=60:=by rw[Hm];omega
   have c60:∀x∈ps.map (fun p=>p.getD i 0),EQ 60 x:=fun x mx=>(tD (rK hP.2.2.1) hin x mx).mono (by decide)
   have we:∀ss∈C,∀s:Sd,(rvO ps ss).wid s (Fh "shut" (ps.map fun p=>p.getD i 0) s) (Fh "open" (ps.map fun p=>p.getD i 0) s)=rvO ps (ss++[s]):=fun ss ms s=>tR hpl (hsm ss ms).1 hin s
   have cll:(ps.map fun p=>p.getD i 0).length=ps.length:=Hm ..
   generalize (ps.map fun p=>p.getD i 0)=col at cl c60 we cll ⊢
   simp_arith only[ag,ae]
   refine Ex (b_ (xs:=E) (enc:=EJ) (fun s=>Fd s (Fh "shut" col s) (Fh "open" col s)) rfl ?_ (by omega) ?_)
   · intro s ms
     have h60:=hEs s ms
     simp_arith only[ag,ae,FA,cN.eq]
   simp_arith only[ag,ae,Hf]
   have lens:(C.flatMap fun ss=>E.map fun s=>EK (rvO ps (ss++[s]))).length<=3000:=by
    rw[tk]at rl2
    refine IH (Nat.le_of_eq ?_) rl2
    rw[MZ,MZ]
    simp
   refine se (xs:=C) (enc:=fun ss=>EK (rvO ps ss)) (fun ss=>E.map fun s=>EK (rvO ps (ss++[s]))) rfl ?_ (by omega) ?_
   · intro ss ms acc ha
     obtain⟨el,hes⟩:=hsm ss ms
     rw[Hm]at ha
     simp_arith only[ag,ae,pB]
     rw[eB (enc:=fun s=>Fd s (Fh "shut" col s) (Fh "open" col s)) (fun s=>some (EK (rvO ps (ss++[s])))) E acc ?_ ha,Mj]
     intro s mE
     have pl:∀w:Str,∀k∈plc (fun p=>Fu p ss w) ps,k<(Fh w col s).length:=fun w k mk=>by
      have:=sQ (f:=fun p=>Fu p ss w) (ps:=ps) k mk
      unfold Fh;rw[Hm,cll];exact this
     have k1:∀k∈(rvO ps ss).sh,k<(Fh "shut" col s).length:=pl "shut"
     have k2:∀k∈(rvO ps ss).op,k<(Fh "open" col s).length:=pl "open"
     have k3:(rvO ps ss).es.length<=60:=by show ss.length<=60;omega
     have kl:∀w:Str,(plc (fun p=>Fu p ss w) ps).length<=60:=fun w=>by rw[j9];have:=Lk (fun p=>Fu p ss w) ps;omega
     have k4:(rvO ps ss).sh.length<=60:=kl "shut"
     have k5:(rvO ps ss).op.length<=60:=kl "open"
     have k6:EQ 2000 (rvO ps ss).sz:=(uC (by omega) hes).mono (by decide)
     have k7:EQ 2000 (szQ s):=(nF (hEs s mE)).mono (by decide)
     have we:=we ss ms s
     simp_arith only[ag,ae,FA,cq.eq,we]
   · try simp_arith only[ag,ae]
     refine hK _ (fS ?_)
     rw[tk]
     simp[fo,Lq]
     rfl
 · rintro ρ rfl
   have le:(rowsS f.val ps).zipIdx.length=(rowsS f.val ps).length:=J6 ..
   rw[le,Ja (HA _)]
   simp_arith only[ag,ae]
   exact aF hQ
noncomputable def cM:List W->(Hg->Prop)->Prop:=fun ws Q=>∃(ps:List (List Rat))(f:Fin 3),ws=[.d (ptsQ ps),.d (.str (cG f))]/\((FZ f.val ps))/\Q (.list (((chP (rowsS f.val ps)).flatMap (msS ps)).map teD))
theorem cM.mono:∀ws (Q Q':Hg->Prop),(∀d,Q d->Q' d)->cM ws Q->cM ws Q':=fun _ _ _ h_=>HB fun _=>HB fun _=>Ho (Ho (h_ _))
theorem cM.len:∀ws (Q:Hg->Prop),cM ws Q->ws.length=2:=fun _ _ h_=>by obtain⟨_,_,e_,_⟩:=h_;subst e_;rfl
theorem cM.eq(ps:List (List Rat))(f:Fin 3)(hw:FZ f.val ps):cM [.d (ptsQ ps),.d (.str (cG f))]=VL.ret (.list (((chP (rowsS f.val ps)).flatMap (msS ps)).map teD):Hg):=by
 refine ak fun Q=>⟨?_,fun q_=>⟨ps,f,rfl,hw,q_⟩⟩
 rintro⟨ps',f',e_,_,q_⟩
 simp_arith only[cC,bu,bC,aL,aQ,bE,ff,jD,ke,jo,jV,i3,jN,and_assoc]at e_
 obtain⟨rfl,rfl⟩:=e_
 exact q_
theorem nZ:FnScope ["points", "family", "many", "told", "box", "shut", "free", "size"] ["points", "family"] (defScope (Ef 35)):=⟨rfl,rfl,rfl,by decide +kernel,rfl,by decide +kernel,by decide +kernel⟩
theorem d_misses(Fn:FnIn K mg "misses" (Ef 35) ["points", "family"])(Z:Bz mg)(d_counted_looks:∀rl,Dfn P w K mg base rl "counted_looks" ["points", "family"] 6 aW)(d_less:∀rl,Dfn P w K mg base rl "less" ["one", "other"] 3 d7)(d_fraction:∀rl,Dfn P w K mg base rl "fraction" ["top", "bottom"] 2 bw)   : Dfn P w K mg base rl "misses" ["points", "family"] 7 cM:=by
 have sc:=nZ
 refine Dfn.of Fn sc (cM.mono) (cM.len) (fun cdv A outer s H E hr=>(ai (ay 2 sc.nd (cK Z.len_ (aa (vn 0) ac)))
  (ai (kR 3 sc.nd (cJ ac))
  (ai (eF [4,5,6,7] Js rfl (bP (am (d_counted_looks _) (hr.mono (by decide)) (aa (vn 0) (aa (vn 1) ac)))) (gv (n:=4) rfl (aX (ax 4 sc.nd) (aX (ax 5 sc.nd) (aX (ax 6 sc.nd) (aX (ax 7 sc.nd) eG))))) (ai (mZ 3 (aa (cE (aa (am (d_less _) (hr.mono (by decide)) (aa (am (d_fraction _) (hr.mono (by decide)) (aa (cK Z.len_ (aa (vn 5) ac)) (aa (vn 2) ac))) (aa (vn 7) ac))) (aa bG (aa (vn 4) ac)))) ac))
  (av (mZ 3 (aa (cE (aa (am (d_less _) (hr.mono (by decide)) (aa (vn 7) (aa (am (d_fraction _) (hr.mono (by decide)) (aa (cK Z.len_ (aa (vn 6) ac)) (aa (vn 2) ac))) ac))) (aa bG (aa (vn 4) ac)))) ac)))))
  (av (wG 3 (aA (vn 3)))))))) ?_
 rintro ws Q ⟨ps,f,rfl,hw,hQ⟩
 refine aE ?_
 have sz:=HV
 have hN:=hw.1
 have hP:=hN.1
 have h1:=hP.1
 have h8:=hw.2.1
 have d4:=hP.2.2.2.2
 have b0:(ps.length:Int)≠0:=by omega
 have bz:(ps.length:Int).natAbs<2^8000:=Hz (show(ps.length:Int).natAbs<2^60 by omega) (HM (by decide) (by decide))
 have rl:=hw.len (HA _)
 have hsm:=hw.sm (HA _)
 have el:=eK f.val ps
 rw[Ja (by omega)]at rl hsm
 simp_arith only[ag,ae,Hb,aW.eq]
 generalize chP (rowsS f.val ps)=C at rl hsm hQ ⊢
 refine pD (xs:=C) (enc:=fun ss=>EK (rvO ps ss)) (fun i ρ=>ρ=[some (.d (ptsQ ps)),some (.d (.str (cG f))),some (.d (.int ps.length)),some (.ml (((C.take i).flatMap (msS ps)).map teD)),none,none,none,none]) rfl rfl ?_ ?_
 · rintro i hi ρ rfl K hK
   obtain⟨sl,ss⟩:=hsm _ (Iy hi)
   have tl:∀l:List (List Sd),(l.flatMap (msS ps)).length=2*l.length:=fun l=>by
    induction l with
    | nil=>rfl
    | cons x l ih=>rw[JA,HD,ih,Ip];show 2+_=_;omega
   have tz:((C.take i).flatMap (msS ps)).length+1<sizeLine:=by rw[tl,JR];omega
   have tz0:((C.take i).flatMap (msS ps)).length<sizeLine:=by omega
   have tz1:((C.take i).flatMap (msS ps)).length+1<=sizeLine:=by omega
   have tk:(C.take (i+1)).flatMap (msS ps)=(C.take i).flatMap (msS ps)++msS ps C[i]:=by rw[J7 hi,MX];simp
   generalize C[i]=es at sl ss tk ⊢
   generalize (C.take i).flatMap (msS ps)=T at tz tz0 tz1 tk ⊢
   have s1:EQ 2000 (bY es):=(uC (by omega) ss).mono (by decide)
   have s2:EQ 2000 (qd (cntN ps es "shut") ps.length):=(rZ h1 (by omega) fun p=>Fu p es "shut").mono (by decide)
   have s3:EQ 2000 (qd (cntN ps es "open") ps.length):=(rZ h1 (by omega) fun p=>Fu p es "open").mono (by decide)
   have c1:(plc (fun p=>Fu p es "shut") ps).length=cntN ps es "shut" := j9 _ _
   have c2:(plc (fun p=>Fu p es "open") ps).length=cntN ps es "open" := j9 _ _
   simp_arith only[ag,ae,EK,rvO,E4,c1,c2,bw.eq,d7.eq]
   refine cB (by rw[HD,Hm];exact tz) (hK _ (fS ?_))
   rw[tk]
   simp[fo,IJ,msS,teD,EW,Fw]
 · rintro ρ rfl
   rw[Ja (HA _)]
   simp_arith only[ag,ae]
   exact aF hQ
abbrev Gc:=Rat×Str×List Sd
theorem lF{α:Type}:∀(ts:List (Rat×α))(t0:Rat×α),FP ts t0=t0\/FP ts t0∈ts
 | [],t0=>.inl rfl
 | t::ts,t0=>by
   have e:FP (t::ts) t0=FP ts (if t0.1<t.1 then t else t0):=rfl
   rw[e]
   by_cases c:t0.1<t.1
   · rw[if_pos c]
     rcases lF ts t with h|h
     · exact .inr (HJ.mpr (.inl h))
     · exact .inr (Hn _ h)
   · rw[if_neg c]
     rcases lF ts t0 with h|h
     · exact .inl h
     · exact .inr (Hn _ h)
noncomputable def aJ:List W->(Hg->Prop)->Prop:=fun ws Q=>∃(t0:Gc)(ts:List Gc),ws=[.d (.list ((t0::ts).map teD))]/\((∀t∈t0::ts,EQ 2000 t.1))/\Q (teD (FP (t0::ts) t0))
theorem aJ.mono:∀ws (Q Q':Hg->Prop),(∀d,Q d->Q' d)->aJ ws Q->aJ ws Q':=fun _ _ _ h_=>HB fun _=>HB fun _=>Ho (Ho (h_ _))
theorem aJ.len:∀ws (Q:Hg->Prop),aJ ws Q->ws.length=1:=fun _ _ h_=>by obtain⟨_,_,e_,_⟩:=h_;subst e_;rfl
theorem aJ.eq(t0:Gc)(ts:List Gc)(hq:∀t∈t0::ts,EQ 2000 t.1):aJ [.d (.list ((t0::ts).map teD))]=VL.ret (teD (FP (t0::ts) t0):Hg):=by
 refine ak fun Q=>⟨?_,fun q_=>⟨t0,ts,rfl,hq,q_⟩⟩
 rintro⟨t0',ts',e_,_,q_⟩
 simp_arith only[cC,bu,bC,aL,aQ,bE,ff,jD,ke,jo,jV,i3,jN,and_assoc]at e_
 obtain⟨rfl,rfl⟩:=e_
 exact q_
theorem eI:FnScope ["rows", "best", "row"] ["rows"] (defScope (Ef 36)):=⟨rfl,rfl,rfl,by decide +kernel,rfl,by decide +kernel,by decide +kernel⟩
theorem d_first_greatest(Fn:FnIn K mg "first_greatest" (Ef 36) ["rows"])(Z:Bz mg)(d_is_below:∀rl,Dfn P w K mg base rl "is_below" ["one", "other"] 1 be)   : Dfn P w K mg base rl "first_greatest" ["rows"] 2 aJ:=by
 have sc:=eI
 refine Dfn.of Fn sc (aJ.mono) (aJ.len) (fun cdv A outer s H E hr=>(ai (ay 1 sc.nd (bR (vn 0) af))
  (ai (eF [2] Js rfl (bP (vn 0)) (ax 2 sc.nd) (av (cg (de (am (d_is_below _) (hr.mono (by decide)) (aa (bR (vn 1) af) (aa (bR (vn 2) af) ac)))) (av (ay 1 sc.nd (vn 2))) br)))
  (av (aA (vn 1)))))) ?_
 rintro ws Q ⟨t0,ts,rfl,hq,hQ⟩
 refine aE ?_
 have e0:atI ((t0::ts).map teD) 0=some (teD t0):=by rw[cw,show(0:Int)=((0:Nat):Int)from rfl,dw (by rfl)];rfl
 simp_arith only[ag,ae,e0]
 refine pD (xs:=t0::ts) (enc:=teD) (fun i ρ=>FP ((t0::ts).take i) t0∈t0::ts/\ρ=[some (.d (.list ((t0::ts).map teD))),some (.d (teD (FP ((t0::ts).take i) t0))),none]) rfl ⟨Ht,rfl⟩ ?_ ?_
 · rintro i hi ρ ⟨mt,rfl⟩ K hK
   have mi:=Iy hi
   have tk:FP ((t0::ts).take (i+1)) t0=if(FP ((t0::ts).take i) t0).1<((t0::ts)[i]).1 then(t0::ts)[i]else FP ((t0::ts).take i) t0:=by
    unfold FP;rw[J7 hi,La];rfl
   generalize (t0::ts)[i]=r at mi tk ⊢
   generalize FP ((t0::ts).take i) t0=t at mt tk ⊢
   have q1:=hq t mt
   have q2:=hq r mi
   have i1:∀t:Gc,itemAt (teD t) 0=some (fr t.1):=fun t=>rfl
   by_cases hlt:t.1<r.1
   · have d:decide (t.1<r.1)=true:=decide_eq_true hlt
     rw[if_pos hlt]at tk
     simp_arith only[ag,ae,i1,be.eq,d]
     exact hK _ (fS ⟨by rw[tk];exact mi,by rw[tk];rfl⟩)
   · have d:decide (t.1<r.1)=false:=decide_eq_false hlt
     rw[if_neg hlt]at tk
     simp_arith only[ag,ae,i1,be.eq,d]
     exact hK _ (fS ⟨by rw[tk];exact mt,by rw[tk];rfl⟩)
 · rintro ρ ⟨mt,rfl⟩
   rw[Ja (HA _)]
   simp_arith only[ag,ae]
   exact aF hQ
theorem tH{α:Type}:∀(rows:List (List α))(ch:List (List α)),ch≠[]->(∀r∈rows,r≠[])->rows.foldl (fun ch r=>ch.flatMap fun b=>r.map fun t=>b++[t]) ch≠[]
 | [],ch,h,_=>h
 | r::rows,ch,h,hr=>by
   refine tH rows _ ?_ fun x mx=>hr x (Hn _ mx)
   obtain⟨b,bs,rfl⟩:=KB h
   obtain⟨t,ts,e⟩:=KB (hr r Ht)
   rw[e]
   simp
theorem xB(f:Nat)(rs:List Rat):slS f rs≠[]:=by
 have h:Sd.from (-1) 1∈slFS rs:=IF.mpr ⟨-1,Ht,IN.mpr ⟨1,HC _ Ht,by rw[if_pos (by decide)]⟩⟩
 unfold slS
 split
 · simp
 · split
   · exact List.ne_nil_of_mem h
   · exact List.ne_nil_of_mem (Io _ h)
noncomputable def msL(f:Nat)(ps:List (List Rat)):List Gc:=(chP (rowsS f ps)).flatMap (msS ps)
theorem oS(f:Nat)(ps:List (List Rat)):∃t ts,msL f ps=t::ts:=by
 have h:chP (rowsS f ps)≠[]:=tH (rowsS f ps) [[]] (by simp) fun r mr=>by
  obtain⟨j,_,rfl⟩:=HQ.mp mr
  exact xB f _
 obtain⟨b,bs,e⟩:=KB h
 refine⟨(EW ps b, "over", b),(Fw ps b, "lack", b)::bs.flatMap (msS ps),?_⟩
 unfold msL
 rw[e,JA]
 rfl
noncomputable def DZ(f:Nat)(ps:List (List Rat)):Gc:=FP (msL f ps) ((msL f ps).headD (0, "", []))
theorem sX{f:Nat}(hw:FZ f ps):∀t∈msL f ps,EQ 900 t.1:=fun t mt=>by
 have hsm:=hw.sm (HA _)
 have el:=eK f ps
 rw[Ja (by omega)]at hsm
 obtain⟨ss,ms,h⟩:=IF.mp mt
 obtain⟨sl,sm⟩:=hsm ss ms
 have o:=yk hw.1.1.1 (by have:=hw.2.1;omega) (show ss.length<=4 by have:=hw.1.1.2.2.2.2;omega) sm
 rcases HJ.mp h with rfl|h
 · exact o.1
 · rw[HK.mp h];exact o.2
theorem kP{f:Nat}(hw:FZ f ps):EQ 900 (DZ f ps).1:=by
 obtain⟨t,ts,e⟩:=oS f ps
 have h:=sX hw
 unfold DZ
 rw[e]at h ⊢
 rcases lF (t::ts) ((t::ts).headD (0, "", []))with z|z
 · rw[z];exact h t Ht
 · exact h _ z
noncomputable def dP:List W->(Hg->Prop)->Prop:=fun ws Q=>∃(ps:List (List Rat))(f:Fin 3),ws=[.d (ptsQ ps),.d (.str (cG f))]/\((FZ f.val ps))/\Q (teD (DZ f.val ps))
theorem dP.mono:∀ws (Q Q':Hg->Prop),(∀d,Q d->Q' d)->dP ws Q->dP ws Q':=fun _ _ _ h_=>HB fun _=>HB fun _=>Ho (Ho (h_ _))
theorem dP.len:∀ws (Q:Hg->Prop),dP ws Q->ws.length=2:=fun _ _ h_=>by obtain⟨_,_,e_,_⟩:=h_;subst e_;rfl
theorem dP.eq(ps:List (List Rat))(f:Fin 3)(hw:FZ f.val ps):dP [.d (ptsQ ps),.d (.str (cG f))]=VL.ret (teD (DZ f.val ps):Hg):=by
 refine ak fun Q=>⟨?_,fun q_=>⟨ps,f,rfl,hw,q_⟩⟩
 rintro⟨ps',f',e_,_,q_⟩
 simp_arith only[cC,bu,bC,aL,aQ,bE,ff,jD,ke,jo,jV,i3,jN,and_assoc]at e_
 obtain⟨rfl,rfl⟩:=e_
 exact q_
theorem qE:FnScope ["points", "family"] ["points", "family"] (defScope (Ef 37)):=⟨rfl,rfl,rfl,by decide +kernel,rfl,by decide +kernel,by decide +kernel⟩
theorem d_worst(Fn:FnIn K mg "worst" (Ef 37) ["points", "family"])(Z:Bz mg)(d_first_greatest:∀rl,Dfn P w K mg base rl "first_greatest" ["rows"] 2 aJ)(d_misses:∀rl,Dfn P w K mg base rl "misses" ["points", "family"] 7 cM)   : Dfn P w K mg base rl "worst" ["points", "family"] 8 dP:=by
 have sc:=qE
 refine Dfn.of Fn sc (dP.mono) (dP.len) (fun cdv A outer s H E hr=>(av (aA (am (d_first_greatest _) (hr.mono (by decide)) (aa (am (d_misses _) (hr.mono (by decide)) (aa (vn 0) (aa (vn 1) ac))) ac))))) ?_
 rintro ws Q ⟨ps,f,rfl,hw,hQ⟩
 refine aE ?_
 have em:((chP (rowsS f.val ps)).flatMap (msS ps)).map teD=(msL f.val ps).map teD:=rfl
 have hq:=fun t mt=>(sX hw t mt).mono (show 900<=2000 by decide)
 have ew:DZ f.val ps=FP (msL f.val ps) ((msL f.val ps).headD (0, "", [])):=rfl
 simp_arith only[ag,ae,cM.eq,em]
 obtain⟨t,ts,e⟩:=oS f.val ps
 rw[e]at hq ew ⊢
 rw[ew]at hQ
 have pf:aJ [.d (.list (teD t::ts.map teD))]=VL.ret (teD (FP (t::ts) t):Hg):=aJ.eq t ts hq
 simp_arith only[ag,ae,pf]
 exact aF hQ
noncomputable def bi:List W->(Hg->Prop)->Prop:=fun ws Q=>∃(ps:List (List Rat))(f:Fin 3),ws=[.d (ptsQ ps),.d (.str (cG f))]/\((FZ f.val ps))/\Q (fr (DZ f.val ps).1)
theorem bi.mono:∀ws (Q Q':Hg->Prop),(∀d,Q d->Q' d)->bi ws Q->bi ws Q':=fun _ _ _ h_=>HB fun _=>HB fun _=>Ho (Ho (h_ _))
theorem bi.len:∀ws (Q:Hg->Prop),bi ws Q->ws.length=2:=fun _ _ h_=>by obtain⟨_,_,e_,_⟩:=h_;subst e_;rfl
theorem bi.eq(ps:List (List Rat))(f:Fin 3)(hw:FZ f.val ps):bi [.d (ptsQ ps),.d (.str (cG f))]=VL.ret (fr (DZ f.val ps).1:Hg):=by
 refine ak fun Q=>⟨?_,fun q_=>⟨ps,f,rfl,hw,q_⟩⟩
 rintro⟨ps',f',e_,_,q_⟩
 simp_arith only[cC,bu,bC,aL,aQ,bE,ff,jD,ke,jo,jV,i3,jN,and_assoc]at e_
 obtain⟨rfl,rfl⟩:=e_
 exact q_
theorem ib:FnScope ["points", "family"] ["points", "family"] (defScope (Ef 38)):=⟨rfl,rfl,rfl,by decide +kernel,rfl,by decide +kernel,by decide +kernel⟩
theorem d_unevenness(Fn:FnIn K mg "unevenness" (Ef 38) ["points", "family"])(Z:Bz mg)(d_worst:∀rl,Dfn P w K mg base rl "worst" ["points", "family"] 8 dP)   : Dfn P w K mg base rl "unevenness" ["points", "family"] 9 bi:=by
 have sc:=ib
 refine Dfn.of Fn sc (bi.mono) (bi.len) (fun cdv A outer s H E hr=>(av (aA (bR (am (d_worst _) (hr.mono (by decide)) (aa (vn 0) (aa (vn 1) ac))) af)))) ?_
 rintro ws Q ⟨ps,f,rfl,hw,hQ⟩
 refine aE ?_
 have i1:∀t:Gc,itemAt (teD t) 0=some (fr t.1):=fun t=>rfl
 simp_arith only[ag,ae,dP.eq,i1]
 exact aF hQ
noncomputable def D1(q:Rat):Rat:=qd (q.num.fmod q.den) q.den
theorem A_(q:Rat):Jl [.int (q.num.fmod q.den),.int q.den]=fr (D1 q):=by
 have hd:=jy q
 have g:Jv (q.num.fmod q.den) q.den=1:=by
  rw[Int.gcd_comm,iC];exact yS q
 unfold D1
 rw[<- oX hd,g]
 simp
noncomputable def ce:List W->(Hg->Prop)->Prop:=fun ws Q=>∃(q:Rat),ws=[.d (fr q)]/\((EQ 2000 q))/\Q (fr (D1 q))
theorem ce.mono:∀ws (Q Q':Hg->Prop),(∀d,Q d->Q' d)->ce ws Q->ce ws Q':=fun _ _ _ h_=>HB fun _=>Ho (Ho (h_ _))
theorem ce.len:∀ws (Q:Hg->Prop),ce ws Q->ws.length=1:=fun _ _ h_=>by obtain⟨_,e_,_⟩:=h_;subst e_;rfl
theorem ce.eq(q:Rat)(h:EQ 2000 q):ce [.d (fr q)]=VL.ret (fr (D1 q):Hg):=by
 refine ak fun Q=>⟨?_,fun q_=>⟨q,rfl,h,q_⟩⟩
 rintro⟨q',e_,_,q_⟩
 simp_arith only[cC,bu,bC,aL,aQ,bE]at e_
 obtain rfl:=e_
 exact q_
theorem mf:FnScope ["one"] ["one"] (defScope (Ef 15)):=⟨rfl,rfl,rfl,by decide +kernel,rfl,by decide +kernel,by decide +kernel⟩
theorem d_wrapped(Fn:FnIn K mg "wrapped" (Ef 15) ["one"])(Z:Bz mg)    : Dfn P w K mg base rl "wrapped" ["one"] 1 ce:=by
 have sc:=mf
 refine Dfn.of Fn sc (ce.mono) (ce.len) (fun cdv A outer s H E hr=>(av (aA (cE (aa (v_mod (bR (vn 0) af) (bR (vn 0) af)) (aa (bR (vn 0) af) ac)))))) ?_
 rintro ws Q ⟨q,rfl,h,hQ⟩
 refine aE ?_
 have cd:eO q.num q.den:=⟨by have:=jy q;omega,Hz (zn h) (HM (by decide) (by decide))⟩
 have dz:(q.den:Int)≠0:=by have:=jy q;omega
 simp_arith only[ag,ae,Hb,A_]
 exact aF hQ
theorem getD_at{xs:List α}{k:Nat}{d:α}(h:k<xs.length):xs.getD k d=xs[k]:=by rw[Hr,Hu h];rfl
noncomputable def EF(p bs:List Rat):List Rat:=(p.zip bs).map fun z=>D1 (z.1+z.2)
noncomputable def E_(is:List Int)(p:List Rat):List Rat:=p.zipIdx.map fun z=>if(z.2:Int)∈is then D1 (1-z.1)else z.1
noncomputable def EV(is:List Int)(p:List Rat):List Rat:=is.map fun i=>p.getD i.toNat 0
theorem wC(p b:List Rat):mO (p.map fr) (b.map fr)=(p.zip b).map fun z=>Jl [fr z.1,fr z.2]:=by
 induction p generalizing b with
 | nil=>rfl
 | cons x p ih=>cases b with
   | nil=>rfl
   | cons y b=>rw[Ik,Ik,List.zip_cons_cons,Ik];show _::mO _ _=_;rw[ih]
theorem vX(p:List Rat):Bg [.d (ET p)]=some (p.zipIdx.map fun z=>Jl [.int (z.2:Nat),fr z.1]):=by
 show some (eM (p.map fr))=_
 rw[jw]
theorem zb(a b:List (List Rat)):Jl (a.map ET++b.map ET)=ptsQ (a++b):=by unfold ptsQ;rw[IJ]
noncomputable def cr:List W->(Hg->Prop)->Prop:=fun ws Q=>∃(ps:List (List Rat))(bs:List Rat),ws=[.d (ptsQ ps),.d (ET bs)]/\((ps.length<=40)/\(∀p∈ps,p.length<=4/\∀q∈p,EQ 60 q)/\(∀q∈bs,EQ 62 q))/\Q (ptsQ (ps.map fun p=>EF p bs))
theorem cr.mono:∀ws (Q Q':Hg->Prop),(∀d,Q d->Q' d)->cr ws Q->cr ws Q':=fun _ _ _ h_=>HB fun _=>HB fun _=>Ho (Ho (h_ _))
theorem cr.len:∀ws (Q:Hg->Prop),cr ws Q->ws.length=2:=fun _ _ h_=>by obtain⟨_,_,e_,_⟩:=h_;subst e_;rfl
theorem cr.eq(ps:List (List Rat))(bs:List Rat)(h40:ps.length<=40)(hp:∀p∈ps,p.length<=4/\∀q∈p,EQ 60 q)(hb:∀q∈bs,EQ 62 q):cr [.d (ptsQ ps),.d (ET bs)]=VL.ret (ptsQ (ps.map fun p=>EF p bs):Hg):=by
 refine ak fun Q=>⟨?_,fun q_=>⟨ps,bs,rfl,⟨h40,hp,hb⟩,q_⟩⟩
 rintro⟨ps',bs',e_,_,q_⟩
 simp_arith only[cC,bu,bC,aL,aQ,bE]at e_
 obtain⟨rfl,rfl⟩:=e_
 exact q_
theorem mo:FnScope ["points", "by"] ["points", "by"] (defScope (Ef 40)):=⟨rfl,rfl,rfl,by decide +kernel,rfl,by decide +kernel,by decide +kernel⟩
theorem d_shifted(Fn:FnIn K mg "shifted" (Ef 40) ["points", "by"])(Z:Bz mg)(d_wrapped:∀rl,Dfn P w K mg base rl "wrapped" ["one"] 1 ce)(d_plus:∀rl,Dfn P w K mg base rl "plus" ["one", "other"] 3 eU)   : Dfn P w K mg base rl "shifted" ["points", "by"] 4 cr:=by
 have sc:=mo
 refine Dfn.of Fn sc (cr.mono) (cr.len) (fun cdv A outer s H E hr=>(av (aA (bZ Z.tuple_ (aa (aY ["point", "by"] [none,some 1] rfl (fE (vn 0)) (fun _=>(ax 0 (show Ir (["point", "by"]:List Str) by decide +kernel))) (fun _=>bF) (fun _=>(bZ Z.tuple_ (aa (aY ["x", "step"] [none,none] rfl (qq Z.zip_ (aa (vn 0) (aa (vn 1) ac))) (fun _=>(gv (n:=2) rfl (aX (ax 0 (show Ir (["x", "step"]:List Str) by decide +kernel)) (aX (ax 1 (show Ir (["x", "step"]:List Str) by decide +kernel)) eG)))) (fun _=>bF) (fun _=>(am (d_wrapped _) (hr.mono (by decide)) (aa (am (d_plus _) (hr.mono (by decide)) (aa (vn 0) (aa (vn 1) ac))) ac)))) ac)))) ac))))) ?_
 rintro ws Q ⟨ps,bs,rfl,⟨h40,hp,hb⟩,hQ⟩
 refine aE ?_
 have sz:=HV
 simp_arith only[ag,ae,Hb]
 refine b_ (xs:=ps) (enc:=ET) (fun p=>ET (EF p bs)) rfl ?_ (by omega) ?_
 · intro p mp
   obtain⟨p4,pq⟩:=hp p mp
   simp_arith only[ag,ae,FA,Hb]
   show aS (if(true:Bool)=true then some (mO (LV fr p) (LV fr bs))else none) _=_
   rw[if_pos rfl,opt_some,wC,comp_map (xs:=p.zip bs) (enc:=fun z=>Jl [fr z.1,fr z.2]) (fun z=>fr (D1 (z.1+z.2))) ?_ ?_,bnd_ret]
   · unfold ET EF;rw[Ij];rfl
   · intro z mz
     have m1:=KS mz
     have a1:EQ 2000 z.1:=(pq _ m1.1).mono (by decide)
     have a2:EQ 2000 z.2:=(hb _ m1.2).mono (by decide)
     have a3:EQ 2000 (z.1+z.2):=(lO (pq _ m1.1) (hb _ m1.2)).mono (by decide)
     simp_arith only[ag,ae,FA,ce.eq,eU.eq,Hb]
   · rw[Mz];omega
 have e:ps.map (fun p=>ET (EF p bs))=(ps.map fun p=>EF p bs).map ET:=by rw[Ij];rfl
 rw[e]
 exact aF hQ
noncomputable def aN:List W->(Hg->Prop)->Prop:=fun ws Q=>∃(q:Rat),ws=[.d (fr q)]/\((EQ 60 q))/\Q (fr (D1 (1-q)))
theorem aN.mono:∀ws (Q Q':Hg->Prop),(∀d,Q d->Q' d)->aN ws Q->aN ws Q':=fun _ _ _ h_=>HB fun _=>Ho (Ho (h_ _))
theorem aN.len:∀ws (Q:Hg->Prop),aN ws Q->ws.length=1:=fun _ _ h_=>by obtain⟨_,e_,_⟩:=h_;subst e_;rfl
theorem aN.eq(q:Rat)(h:EQ 60 q):aN [.d (fr q)]=VL.ret (fr (D1 (1-q)):Hg):=by
 refine ak fun Q=>⟨?_,fun q_=>⟨q,rfl,h,q_⟩⟩
 rintro⟨q',e_,_,q_⟩
 simp_arith only[cC,bu,bC,aL,aQ,bE]at e_
 obtain rfl:=e_
 exact q_
theorem dY:FnScope ["x"] ["x"] (defScope (Ef 41)):=⟨rfl,rfl,rfl,by decide +kernel,rfl,by decide +kernel,by decide +kernel⟩
theorem d_mirrored_number(Fn:FnIn K mg "mirrored_number" (Ef 41) ["x"])(Z:Bz mg)(d_wrapped:∀rl,Dfn P w K mg base rl "wrapped" ["one"] 1 ce)(d_less:∀rl,Dfn P w K mg base rl "less" ["one", "other"] 3 d7)(gl_ONE:GlD K mg "ONE" (pr 1 1))  : Dfn P w K mg base rl "mirrored_number" ["x"] 4 aN:=by
 have sc:=dY
 refine Dfn.of Fn sc (aN.mono) (aN.len) (fun cdv A outer s H E hr=>(av (aA (am (d_wrapped _) (hr.mono (by decide)) (aa (am (d_less _) (hr.mono (by decide)) (aa (dg gl_ONE) (aa (vn 0) ac))) ac))))) ?_
 rintro ws Q ⟨q,rfl,h,hQ⟩
 refine aE ?_
 have e1:pr 1 1=fr 1:=rfl
 have a1:EQ 2000 q:=h.mono (by decide)
 have a2:EQ 2000 (1:Rat):=Ax.mono (by decide)
 have a3:EQ 2000 (1-q):=(eP Ax h).mono (by decide)
 simp_arith only[ag,ae,e1,ce.eq,d7.eq,Hb]
 exact aF hQ
noncomputable def b9:List W->(Hg->Prop)->Prop:=fun ws Q=>∃(ps:List (List Rat))(is:List Int),ws=[.d (ptsQ ps),.d (.tuple (is.map .int))]/\((ps.length<=40)/\(∀p∈ps,p.length<=4/\∀q∈p,EQ 60 q))/\Q (ptsQ (ps.map (E_ is)))
theorem b9.mono:∀ws (Q Q':Hg->Prop),(∀d,Q d->Q' d)->b9 ws Q->b9 ws Q':=fun _ _ _ h_=>HB fun _=>HB fun _=>Ho (Ho (h_ _))
theorem b9.len:∀ws (Q:Hg->Prop),b9 ws Q->ws.length=2:=fun _ _ h_=>by obtain⟨_,_,e_,_⟩:=h_;subst e_;rfl
theorem b9.eq(ps:List (List Rat))(is:List Int)(h40:ps.length<=40)(hp:∀p∈ps,p.length<=4/\∀q∈p,EQ 60 q):b9 [.d (ptsQ ps),.d (.tuple (is.map .int))]=VL.ret (ptsQ (ps.map (E_ is)):Hg):=by
 refine ak fun Q=>⟨?_,fun q_=>⟨ps,is,rfl,⟨h40,hp⟩,q_⟩⟩
 rintro⟨ps',is',e_,_,q_⟩
 simp_arith only[cC,bu,bC,aL,aQ,bE]at e_
 obtain⟨rfl,rfl⟩:=e_
 exact q_
theorem jR:FnScope ["points", "sides"] ["points", "sides"] (defScope (Ef 42)):=⟨rfl,rfl,rfl,by decide +kernel,rfl,by decide +kernel,by decide +kernel⟩
theorem d_mirrored(Fn:FnIn K mg "mirrored" (Ef 42) ["points", "sides"])(Z:Bz mg)(d_mirrored_number:∀rl,Dfn P w K mg base rl "mirrored_number" ["x"] 4 aN)   : Dfn P w K mg base rl "mirrored" ["points", "sides"] 5 b9:=by
 have sc:=jR
 refine Dfn.of Fn sc (b9.mono) (b9.len) (fun cdv A outer s H E hr=>(av (aA (bZ Z.tuple_ (aa (aY ["point", "sides"] [none,some 1] rfl (fE (vn 0)) (fun _=>(ax 0 (show Ir (["point", "sides"]:List Str) by decide +kernel))) (fun _=>bF) (fun _=>(bZ Z.tuple_ (aa (aY ["side", "x", "sides"] [none,none,some 1] rfl (gW Z.enumerate_ (aa (vn 0) ac)) (fun _=>(gv (n:=2) rfl (aX (ax 0 (show Ir (["side", "x", "sides"]:List Str) by decide +kernel)) (aX (ax 1 (show Ir (["side", "x", "sides"]:List Str) by decide +kernel)) eG)))) (fun _=>bF) (fun _=>(hC (a_ (sU hr.u65) sv (by with_unfolding_all rfl) (vn 0) (vn 2)) (am (d_mirrored_number _) (hr.mono (by decide)) (aa (vn 1) ac)) (vn 1)))) ac)))) ac))))) ?_
 rintro ws Q ⟨ps,is,rfl,⟨h40,hp⟩,hQ⟩
 refine aE ?_
 have sz:=HV
 simp_arith only[ag,ae,Hb]
 refine b_ (xs:=ps) (enc:=ET) (fun p=>ET (E_ is p)) rfl ?_ (by omega) ?_
 · intro p mp
   obtain⟨p4,pq⟩:=hp p mp
   simp_arith only[ag,ae,FA,yA,vX,Hb]
   rw[comp_map (xs:=p.zipIdx) (enc:=fun z=>Jl [.int (z.2:Nat),fr z.1]) (fun z=>fr (if(z.2:Int)∈is then D1 (1-z.1)else z.1)) ?_ ?_,bnd_ret]
   · unfold ET E_;rw[Ij];rfl
   · intro z mz
     have m1:z.1∈p:=LN mz
     have a1:EQ 60 z.1:=pq _ m1
     by_cases hz:(z.2:Int)∈is
     · have h0:decide ((z.2:Int)∈is)=true:=by simpa using hz
       simp_arith only[ag,ae,FA,aN.eq,Hb,cY,kM,h0,hz]
     · have h0:decide ((z.2:Int)∈is)=false:=by simpa using hz
       simp_arith only[ag,ae,FA,aN.eq,Hb,cY,kM,h0,hz,if_false]
   · rw[J6];omega
 have e:ps.map (fun p=>ET (E_ is p))=(ps.map (E_ is)).map ET:=by rw[Ij];rfl
 rw[e]
 exact aF hQ
noncomputable def cz:List W->(Hg->Prop)->Prop:=fun ws Q=>∃(ps:List (List Rat))(is:List Int),ws=[.d (ptsQ ps),.d (.tuple (is.map .int))]/\((ps.length<=40)/\(is.length<=4)/\(∀p∈ps,∀i∈is,0<=i/\i<(p.length:Int)))/\Q (ptsQ (ps.map (EV is)))
theorem cz.mono:∀ws (Q Q':Hg->Prop),(∀d,Q d->Q' d)->cz ws Q->cz ws Q':=fun _ _ _ h_=>HB fun _=>HB fun _=>Ho (Ho (h_ _))
theorem cz.len:∀ws (Q:Hg->Prop),cz ws Q->ws.length=2:=fun _ _ h_=>by obtain⟨_,_,e_,_⟩:=h_;subst e_;rfl
theorem cz.eq(ps:List (List Rat))(is:List Int)(h40:ps.length<=40)(hi:is.length<=4)(hp:∀p∈ps,∀i∈is,0<=i/\i<(p.length:Int)):cz [.d (ptsQ ps),.d (.tuple (is.map .int))]=VL.ret (ptsQ (ps.map (EV is)):Hg):=by
 refine ak fun Q=>⟨?_,fun q_=>⟨ps,is,rfl,⟨h40,hi,hp⟩,q_⟩⟩
 rintro⟨ps',is',e_,_,q_⟩
 simp_arith only[cC,bu,bC,aL,aQ,bE]at e_
 obtain⟨rfl,rfl⟩:=e_
 exact q_
theorem nY:FnScope ["points", "sides"] ["points", "sides"] (defScope (Ef 43)):=⟨rfl,rfl,rfl,by decide +kernel,rfl,by decide +kernel,by decide +kernel⟩
theorem d_picked(Fn:FnIn K mg "picked" (Ef 43) ["points", "sides"])(Z:Bz mg)    : Dfn P w K mg base rl "picked" ["points", "sides"] 1 cz:=by
 have sc:=nY
 refine Dfn.of Fn sc (cz.mono) (cz.len) (fun cdv A outer s H E hr=>(av (aA (bZ Z.tuple_ (aa (aY ["point", "sides"] [none,some 1] rfl (fE (vn 0)) (fun _=>(ax 0 (show Ir (["point", "sides"]:List Str) by decide +kernel))) (fun _=>bF) (fun _=>(bZ Z.tuple_ (aa (aY ["side", "point"] [none,some 0] rfl (fE (vn 1)) (fun _=>(ax 0 (show Ir (["side", "point"]:List Str) by decide +kernel))) (fun _=>bF) (fun _=>(bR (vn 1) (vn 0)))) ac)))) ac))))) ?_
 rintro ws Q ⟨ps,is,rfl,⟨h40,hi,hp⟩,hQ⟩
 refine aE ?_
 have sz:=HV
 simp_arith only[ag,ae,Hb]
 refine b_ (xs:=ps) (enc:=ET) (fun p=>ET (EV is p)) rfl ?_ (by omega) ?_
 · intro p mp
   simp_arith only[ag,ae,FA,Hb]
   rw[comp_map (xs:=is) (enc:=H_) (fun i=>fr (p.getD i.toNat 0)) ?_ (by omega),bnd_ret]
   · unfold ET EV;rw[Ij];rfl
   · intro i mi
     obtain⟨i0,i1⟩:=hp p mp i mi
     have e:VL.itemAt (ET p) i=some (fr (p.getD i.toNat 0)):=by rw[item_pt,tL i0 i1,getD_at (by omega)];rfl
     simp_arith only[ag,ae,FA,Hb,e]
 have e:ps.map (fun p=>ET (EV is p))=(ps.map (EV is)).map ET:=by rw[Ij];rfl
 rw[e]
 exact aF hQ
noncomputable def bL:List W->(Hg->Prop)->Prop:=fun ws Q=>∃(ps:List (List Rat))(is:List Int),ws=[.d (ptsQ ps),.d (.tuple (is.map .int))]/\((ps.length<=40)/\(is.length<=4)/\(∀p∈ps,∀i∈is,0<=i/\i<(p.length:Int)))/\Q (ptsQ (ps.map (EV is)))
theorem bL.mono:∀ws (Q Q':Hg->Prop),(∀d,Q d->Q' d)->bL ws Q->bL ws Q':=fun _ _ _ h_=>HB fun _=>HB fun _=>Ho (Ho (h_ _))
theorem bL.len:∀ws (Q:Hg->Prop),bL ws Q->ws.length=2:=fun _ _ h_=>by obtain⟨_,_,e_,_⟩:=h_;subst e_;rfl
theorem bL.eq(ps:List (List Rat))(is:List Int)(h40:ps.length<=40)(hi:is.length<=4)(hp:∀p∈ps,∀i∈is,0<=i/\i<(p.length:Int)):bL [.d (ptsQ ps),.d (.tuple (is.map .int))]=VL.ret (ptsQ (ps.map (EV is)):Hg):=by
 refine ak fun Q=>⟨?_,fun q_=>⟨ps,is,rfl,⟨h40,hi,hp⟩,q_⟩⟩
 rintro⟨ps',is',e_,_,q_⟩
 simp_arith only[cC,bu,bC,aL,aQ,bE]at e_
 obtain⟨rfl,rfl⟩:=e_
 exact q_
theorem i_:FnScope ["points", "order"] ["points", "order"] (defScope (Ef 44)):=⟨rfl,rfl,rfl,by decide +kernel,rfl,by decide +kernel,by decide +kernel⟩
theorem d_exchanged(Fn:FnIn K mg "exchanged" (Ef 44) ["points", "order"])(Z:Bz mg)(d_picked:∀rl,Dfn P w K mg base rl "picked" ["points", "sides"] 1 cz)   : Dfn P w K mg base rl "exchanged" ["points", "order"] 2 bL:=by
 have sc:=i_
 refine Dfn.of Fn sc (bL.mono) (bL.len) (fun cdv A outer s H E hr=>(av (aA (am (d_picked _) (hr.mono (by decide)) (aa (vn 0) (aa (vn 1) ac)))))) ?_
 rintro ws Q ⟨ps,is,rfl,⟨h40,hi,hp⟩,hQ⟩
 refine aE ?_
 simp_arith only[ag,ae,cz.eq]
 exact aF hQ
noncomputable def cy:List W->(Hg->Prop)->Prop:=fun ws Q=>∃(ps:List (List Rat))(is:List Int),ws=[.d (ptsQ ps),.d (.tuple (is.map .int))]/\((ps.length<=40)/\(is.length<=4)/\(∀p∈ps,∀i∈is,0<=i/\i<(p.length:Int)))/\Q (ptsQ (ps.map (EV is)))
theorem cy.mono:∀ws (Q Q':Hg->Prop),(∀d,Q d->Q' d)->cy ws Q->cy ws Q':=fun _ _ _ h_=>HB fun _=>HB fun _=>Ho (Ho (h_ _))
theorem cy.len:∀ws (Q:Hg->Prop),cy ws Q->ws.length=2:=fun _ _ h_=>by obtain⟨_,_,e_,_⟩:=h_;subst e_;rfl
theorem cy.eq(ps:List (List Rat))(is:List Int)(h40:ps.length<=40)(hi:is.length<=4)(hp:∀p∈ps,∀i∈is,0<=i/\i<(p.length:Int)):cy [.d (ptsQ ps),.d (.tuple (is.map .int))]=VL.ret (ptsQ (ps.map (EV is)):Hg):=by
 refine ak fun Q=>⟨?_,fun q_=>⟨ps,is,rfl,⟨h40,hi,hp⟩,q_⟩⟩
 rintro⟨ps',is',e_,_,q_⟩
 simp_arith only[cC,bu,bC,aL,aQ,bE]at e_
 obtain⟨rfl,rfl⟩:=e_
 exact q_
theorem nX:FnScope ["points", "sides"] ["points", "sides"] (defScope (Ef 45)):=⟨rfl,rfl,rfl,by decide +kernel,rfl,by decide +kernel,by decide +kernel⟩
theorem d_shadow(Fn:FnIn K mg "shadow" (Ef 45) ["points", "sides"])(Z:Bz mg)(d_picked:∀rl,Dfn P w K mg base rl "picked" ["points", "sides"] 1 cz)   : Dfn P w K mg base rl "shadow" ["points", "sides"] 2 cy:=by
 have sc:=nX
 refine Dfn.of Fn sc (cy.mono) (cy.len) (fun cdv A outer s H E hr=>(av (aA (am (d_picked _) (hr.mono (by decide)) (aa (vn 0) (aa (vn 1) ac)))))) ?_
 rintro ws Q ⟨ps,is,rfl,⟨h40,hi,hp⟩,hQ⟩
 refine aE ?_
 simp_arith only[ag,ae,cz.eq]
 exact aF hQ
noncomputable def cP:List W->(Hg->Prop)->Prop:=fun ws Q=>∃(a b:List (List Rat)),ws=[.d (ptsQ a),.d (ptsQ b)]/\((a.length+b.length<=40))/\Q (ptsQ (a++b))
theorem cP.mono:∀ws (Q Q':Hg->Prop),(∀d,Q d->Q' d)->cP ws Q->cP ws Q':=fun _ _ _ h_=>HB fun _=>HB fun _=>Ho (Ho (h_ _))
theorem cP.len:∀ws (Q:Hg->Prop),cP ws Q->ws.length=2:=fun _ _ h_=>by obtain⟨_,_,e_,_⟩:=h_;subst e_;rfl
theorem cP.eq(a b:List (List Rat))(ha:a.length+b.length<=40):cP [.d (ptsQ a),.d (ptsQ b)]=VL.ret (ptsQ (a++b):Hg):=by
 refine ak fun Q=>⟨?_,fun q_=>⟨a,b,rfl,ha,q_⟩⟩
 rintro⟨a',b',e_,_,q_⟩
 simp_arith only[cC,bu,bC,aL,aQ,bE]at e_
 obtain⟨rfl,rfl⟩:=e_
 exact q_
theorem oa:FnScope ["one", "other"] ["one", "other"] (defScope (Ef 46)):=⟨rfl,rfl,rfl,by decide +kernel,rfl,by decide +kernel,by decide +kernel⟩
theorem d_beside(Fn:FnIn K mg "beside" (Ef 46) ["one", "other"])(Z:Bz mg)(gl_MOST_POINTS:GlD K mg "MOST_POINTS" (.int 40))  : Dfn P w K mg base rl "beside" ["one", "other"] 1 cP:=by
 have sc:=oa
 refine Dfn.of Fn sc (cP.mono) (cP.len) (fun cdv A outer s H E hr=>(ai (cg (a_ mI lT (aK _) (v_add (cK Z.len_ (aa (vn 0) ac)) (cK Z.len_ (aa (vn 1) ac))) (dg gl_MOST_POINTS)) (av gS) br)
  (av (aA (nl (vn 0) (vn 1)))))) ?_
 rintro ws Q ⟨a,b,rfl,ha,hQ⟩
 refine aE ?_
 have sz:=HV
 have n0:decide ((40:Int)<(a.length:Int)+b.length)=false:=by simp;omega
 simp_arith only[ag,ae,Hb,n0,zb]
 exact aF hQ
theorem fO{a b c d:Int}(hb:0<b)(hd:0<d):a*d<c*b↔qd a b<qd c d:=by
 have e1:(a:Rat)=qd a b*(b:Rat):=by have:=eS hb;unfold qd;grind
 have e2:(c:Rat)=qd c d*(d:Rat):=by have:=eS hd;unfold qd;grind
 have z1:(0:Rat)<(b:Rat):=by exact_mod_cast hb
 have z2:(0:Rat)<(d:Rat):=by exact_mod_cast hd
 have z3:(0:Rat)<(b:Rat)*(d:Rat):=Rat.mul_pos z1 z2
 rw[<- Rat.intCast_lt_intCast,IU,IU,e1,e2]
 generalize qd a b=x
 generalize qd c d=y
 generalize (b:Rat)=u at *
 generalize (d:Rat)=v at *
 constructor
 · intro h
   by_cases c:x<y
   · exact c
   · have:=MM (show 0<=x-y by grind) (HY z3)
     grind
 · intro h
   have:=Rat.mul_pos (show 0<y-x by grind) z3
   grind
theorem tP(hl:p.length=ss.length)(w:Str):((HL ss.length).map fun k=>Fi (ss.getD k (.to 0)) w (p.getD k 0)).all id=Fu p ss w:=by
 have e:(HL ss.length).map (fun k=>(p.getD k 0,ss.getD k (.to 0)))=p.zip ss:=by
  refine JJ (by simp[hl]) fun i h1 h2=>?_
  have hi:i<ss.length:=by simpa using h1
  simp[Hr,Hu hi,Hu (show i<p.length by omega)]
 unfold Fu
 rw[<- e,List.all_map,List.all_map]
 rfl
noncomputable def GL(f:Fin 3)(s:Sd):Prop:=(f=0/\∃t,s = .to t)\/(f=1/\∃a b,s = .from a b)\/(f=2/\((∃a b,s = .from a b)\/∃a b,s = .round a b))
theorem vT(x y:Rat):FK x y true=true↔x<=y:=by
 unfold FK
 simp[JB]
theorem tj(x y:Rat):FK x y false=true↔x<y:=by
 unfold FK
 simp
theorem zL:decide (("shut" : Str) = "shut")=true:=by decide +kernel
theorem zM:decide (("open" : Str) = "shut")=false:=by decide +kernel
theorem Cn:decide (("shut" : Str) = "open")=false:=by decide +kernel
theorem Co:decide (("open" : Str) = "open")=true:=by decide +kernel
theorem zN:decide (("half" : Str) = "shut")=false:=by decide +kernel
theorem Cp:decide (("half" : Str) = "open")=false:=by decide +kernel
theorem js(t x:Rat):(Fi (.to t) "shut" x=true↔x<=t)/\(Fi (.to t) "open" x=true↔x<t)/\(Fi (.to t) "half" x=true↔x<t):=by
 refine⟨?_,?_,?_⟩
 · show FK x t (decide (("shut" : Str) = "shut"))=true↔_
   rw[zL,vT]
 · show FK x t (decide (("open" : Str) = "shut"))=true↔_
   rw[zM,tj]
 · show FK x t (decide (("half" : Str) = "shut"))=true↔_
   rw[zN,tj]
theorem db(a b x:Rat):(Fi (.from a b) "shut" x=true↔a<=x/\x<=b)/\(Fi (.from a b) "open" x=true↔a<x/\x<b)/\(Fi (.from a b) "half" x=true↔a<=x/\x<b):=by
 refine⟨?_,?_,?_⟩
 · show(FK a x (!decide (("shut" : Str) = "open"))&&FK x b (decide (("shut" : Str) = "shut")))=true↔_
   rw[zL,Cn,Mf,vT,Lg,vT]
 · show(FK a x (!decide (("open" : Str) = "open"))&&FK x b (decide (("open" : Str) = "shut")))=true↔_
   rw[zM,Co,Mf,tj,Ng,tj]
 · show(FK a x (!decide (("half" : Str) = "open"))&&FK x b (decide (("half" : Str) = "shut")))=true↔_
   rw[zN,Cp,Mf,tj,Lg,vT]
theorem d9(a b x:Rat):(Fi (.round a b) "shut" x=true↔a<=x\/x<=b)/\(Fi (.round a b) "open" x=true↔a<x\/x<b)/\(Fi (.round a b) "half" x=true↔a<=x\/x<b):=by
 refine⟨?_,?_,?_⟩
 · show(FK a x (!decide (("shut" : Str) = "open"))||FK x b (decide (("shut" : Str) = "shut")))=true↔_
   rw[zL,Cn,MA,vT,Lg,vT]
 · show(FK a x (!decide (("open" : Str) = "open"))||FK x b (decide (("open" : Str) = "shut")))=true↔_
   rw[zM,Co,MA,tj,Ng,tj]
 · show(FK a x (!decide (("half" : Str) = "open"))||FK x b (decide (("half" : Str) = "shut")))=true↔_
   rw[zN,Cp,MA,tj,Lg,vT]
theorem cQ{a b:Rat}(h:a<=b):mx a 0<=mx b 0:=by unfold mx;split<;>split<;>grind
theorem qY(a:Rat):0<=mx a 0:=by unfold mx;split<;>grind
theorem vw:mx (-1) 0=0:=by decide
theorem sV:mx 1 0=1:=by decide
theorem hW{a b a' b':Rat}(h1:mx a 0<=mx a' 0)(h2:mx b' 0<=mx b 0):szQ (.from a' b')<=szQ (.from a b):=by
 show mx (mx b' 0-mx a' 0) 0<=mx (mx b 0-mx a 0) 0
 exact cQ (by grind)
theorem AT{a b:Rat}(h:a<=b):mn a 1<=mn b 1:=by unfold mn;split<;>split<;>grind
theorem lb{a b a' b':Rat}(h1:mx a 0<=mx a' 0)(h2:mx b' 0<=mx b 0):szQ (.round a' b')<=szQ (.round a b):=by
 show mn (1+(mx b' 0-mx a' 0)) 1<=mn (1+(mx b 0-mx a 0)) 1
 exact AT (by grind)
theorem nG(s:Sd)(h:s.In1):0<=szQ s/\szQ s<=1:=by
 obtain⟨⟨h1,h2⟩,h3,h4⟩:=h
 cases s with
 | to t =>
   refine⟨qY t,?_⟩
   show mx t 0<=1
   have:t<=1:=h4
   have:=cQ this
   rwa [sV]at this
 | «from» a b =>
   refine⟨qY _,?_⟩
   show mx (mx b 0-mx a 0) 0<=1
   have:b<=1:=h4
   have:=cQ this
   have:=qY a
   rw[sV]at *
   have:mx (mx b 0-mx a 0) 0<=mx 1 0:=cQ (by grind)
   rwa [sV]at this
 | round a b =>
   have ha:a<=1:=h2
   have:=cQ ha
   have:=qY b
   rw[sV]at *
   show 0<=mn (1+(mx b 0-mx a 0)) 1/\mn (1+(mx b 0-mx a 0)) 1<=1
   unfold mn
   split<;>constructor<;>grind
theorem mM{t:Rat}:∀{rs:List Rat},(∃x∈rs,t<=x)->∃m∈rs,t<=m/\∀x∈rs,t<=x->m<=x
 | [],h=>by obtain⟨_,h,_⟩:=h;cases h
 | r::rs,h=>by
   by_cases c:∃x∈rs,t<=x
   · obtain⟨m,m1,m2,m3⟩:=mM c
     by_cases d:t<=r/\r<=m
     · refine⟨r,Ht,d.1,fun x mx hx=>?_⟩
       rcases HJ.mp mx with rfl|mx
       · exact IS
       · exact Il d.2 (m3 x mx hx)
     · refine⟨m,Hn _ m1,m2,fun x mx hx=>?_⟩
       rcases HJ.mp mx with rfl|mx
       · rcases Rat.le_total (a:=m) (b:=x)with z|z
         · exact z
         · exact absurd ⟨hx,z⟩ d
       · exact m3 x mx hx
   · obtain⟨y,my,hy⟩:=h
     rcases HJ.mp my with rfl|my
     · refine⟨y,Ht,hy,fun x mx hx=>?_⟩
       rcases HJ.mp mx with rfl|mx
       · exact IS
       · exact absurd ⟨x,mx,hx⟩ c
     · exact absurd ⟨y,my,hy⟩ c
theorem pK{t:Rat}(h:∃x∈rs,x<=t):∃m∈rs,m<=t/\∀x∈rs,x<=t->x<=m:=by
 obtain⟨x,mx,hx⟩:=h
 obtain⟨m,m1,m2,m3⟩:=mM (t:=-t) (rs:=rs.map (- ·)) ⟨-x,Jj mx,by grind⟩
 obtain⟨r,mr,rfl⟩:=HQ.mp m1
 exact⟨r,mr,by grind,fun y my hy=>by have:=m3 (-y) (Jj my) (by grind);grind⟩
theorem zu{a b:Rat}(ha:a∈(-1)::rs)(hb:b∈rs++[1])(h:a<=b):Sd.from a b∈slFS rs :=
 IF.mpr ⟨a,ha,IN.mpr ⟨b,hb,by rw[if_pos h]⟩⟩
theorem CN{a b:Rat}(ha:a∈rs++[1])(hb:b∈(-1)::rs)(h:b<=a):Sd.round a b∈slRS rs :=
 IF.mpr ⟨a,ha,IN.mpr ⟨b,hb,by rw[if_pos h]⟩⟩
theorem vP(rs:List Rat)(h:f≠0):Sd.from (-1) 1∈slS f.val rs:=by
 have:Sd.from (-1) 1∈slFS rs:=zu Ht (HC _ (HK.mpr rfl)) (by decide)
 unfold slS
 rw[if_neg (by intro z;exact h (Fin.ext z))]
 split
 · exact this
 · exact Io _ this
theorem vO(h:f≠0){s:Sd}(m:s∈slFS rs):s∈slS f.val rs:=by
 unfold slS
 rw[if_neg (by intro z;exact h (Fin.ext z))]
 split
 · exact m
 · exact Io _ m
theorem nH:szQ (.from (-1) 1)=1:=by
 show mx (mx 1 0-mx (-1) 0) 0=1
 rw[sV,vw,show(1:Rat)-0=1 by grind]
 exact sV
theorem ut{a b:Rat}(h:a<=b):szQ (.round a b)=1:=by
 show mn (1+(mx b 0-mx a 0)) 1=1
 have:=cQ h
 unfold mn
 split<;>grind
theorem ux(hr:∀q∈rs,0<=q/\q<1){s:Sd}(hf:GL f s)(h1:s.In1)(hx:∃x∈rs,Fi s "shut" x=true):∃s'∈slS f.val rs,(∀x∈rs,Fi s "shut" x=true->Fi s' "shut" x=true)/\szQ s'<=szQ s:=by
 have hF:∀{a b:Rat},f≠0->(∃x∈rs,Fi (.from a b) "shut" x=true)->∃s'∈slS f.val rs,(∀x∈rs,Fi (.from a b) "shut" x=true->Fi s' "shut" x=true)/\szQ s'<=szQ (.from a b):=by
  intro a b hf hx
  obtain⟨x,mx',hx⟩:=hx
  obtain⟨x1,x2⟩:=(db a b x).1.mp hx
  obtain⟨a',ma,a1,a2⟩:=mM (t:=a) ⟨x,mx',x1⟩
  obtain⟨b',mb,b1,b2⟩:=pK (t:=b) ⟨x,mx',x2⟩
  refine⟨.from a' b',vO hf (zu (Hn _ ma) (Io _ mb) (Il (a2 x mx' x1) (b2 x mx' x2))),fun y my hy=>?_,hW (cQ a1) (cQ b1)⟩
  obtain⟨y1,y2⟩:=(db a b y).1.mp hy
  exact(db a' b' y).1.mpr ⟨a2 y my y1,b2 y my y2⟩
 obtain⟨rfl,t,rfl⟩|⟨rfl,a,b,rfl⟩|⟨rfl,⟨a,b,rfl⟩|⟨a,b,rfl⟩⟩:=hf
 · obtain⟨x,mx',hx⟩:=hx
   obtain⟨m,mm,m1,m2⟩:=pK (t:=t) ⟨x,mx',(js t x).1.mp hx⟩
   exact⟨.to m,Jj (Io _ mm),fun y my hy=>(js m y).1.mpr (m2 y my ((js t y).1.mp hy)),cQ m1⟩
 · exact hF (by decide) hx
 · exact hF (by decide) hx
 · have ha1:a<=1:=h1.1.2
   have hb1 : -1<=b:=h1.2.1
   obtain⟨a',ma,a1,a2,a3⟩:∃a'∈rs++[1],a<=a'/\(∀x∈rs,a<=x->a'<=x)/\a'<=1:=by
    by_cases c:∃x∈rs,a<=x
    · obtain⟨m,m1,m2,m3⟩:=mM c
      exact⟨m,Io _ m1,m2,m3,HY (hr m m1).2⟩
    · exact⟨1,HC _ (HK.mpr rfl),ha1,fun x mx' hx'=>absurd ⟨x,mx',hx'⟩ c,IS⟩
   obtain⟨b',mb,b1,b2⟩:∃b'∈(-1)::rs,b'<=b/\∀x∈rs,x<=b->x<=b':=by
    by_cases c:∃x∈rs,x<=b
    · obtain⟨m,m1,m2,m3⟩:=pK c
      exact⟨m,Hn _ m1,m2,m3⟩
    · exact⟨-1,Ht,hb1,fun x mx' hx'=>absurd ⟨x,mx',hx'⟩ c⟩
   by_cases c:b'<=a'
   · refine⟨.round a' b',HC _ (CN ma mb c),fun y my hy=>?_,lb (cQ a1) (cQ b1)⟩
     rcases(d9 a b y).1.mp hy with z|z
     · exact(d9 a' b' y).1.mpr (.inl (a2 y my z))
     · exact(d9 a' b' y).1.mpr (.inr (b2 y my z))
   · refine⟨.from (-1) 1,vP rs (by decide),fun y my _=>(db (-1) 1 y).1.mpr ⟨Il (by decide) (hr y my).1,HY (hr y my).2⟩,?_⟩
     rw[nH,ut (Il a1 (Il (HY (JC.mp c)) b1))]
     exact IS
theorem qD(hr:∀q∈rs,0<=q/\q<1){s:Sd}(hf:GL f s)(h1:s.In1):∃s'∈slS f.val rs,(∀x∈rs,Fi s' "open" x=true->Fi s "open" x=true)/\szQ s<=szQ s':=by
 have up:∀{t:Rat},t<=1->∃t'∈rs++[1],t<=t'/\∀x∈rs,x<t'->x<t:=by
  intro t ht
  by_cases c:∃x∈rs,t<=x
  · obtain⟨m,m1,m2,m3⟩:=mM c
    exact⟨m,Io _ m1,m2,fun x mx' hx=>JC.mp fun z=>JC.mpr hx (m3 x mx' z)⟩
  · exact⟨1,HC _ (HK.mpr rfl),ht,fun x mx' _=>JC.mp fun z=>c ⟨x,mx',z⟩⟩
 have dn:∀{t:Rat},-1<=t->∃t'∈(-1)::rs,t'<=t/\∀x∈rs,t'<x->t<x:=by
  intro t ht
  by_cases c:∃x∈rs,x<=t
  · obtain⟨m,m1,m2,m3⟩:=pK c
    exact⟨m,Hn _ m1,m2,fun x mx' hx=>JC.mp fun z=>JC.mpr hx (m3 x mx' z)⟩
  · exact⟨-1,Ht,ht,fun x mx' _=>JC.mp fun z=>c ⟨x,mx',z⟩⟩
 have hF:∀{a b:Rat},f≠0->(Sd.from a b).In1->∃s'∈slS f.val rs,(∀x∈rs,Fi s' "open" x=true->Fi (.from a b) "open" x=true)/\szQ (.from a b)<=szQ s':=by
  intro a b hf h1
  obtain⟨a',ma,a1,a2⟩:=dn (t:=a) h1.1.1
  obtain⟨b',mb,b1,b2⟩:=up (t:=b) h1.2.2
  by_cases c:a'<=b'
  · refine⟨.from a' b',vO hf (zu ma mb c),fun y my hy=>?_,hW (cQ a1) (cQ b1)⟩
    obtain⟨y1,y2⟩:=(db a' b' y).2.1.mp hy
    exact(db a b y).2.1.mpr ⟨a2 y my y1,b2 y my y2⟩
  · have c:=JC.mp c
    have ma':a'∈rs:=by
     rcases HJ.mp ma with rfl|m
     · rcases HW.mp mb with m|m
       · exact absurd (Il (show(-1:Rat)<=0 by decide) (hr b' m).1) (JC.mpr c)
       · cases HK.mp m
         exact absurd c (by decide)
     · exact m
    refine⟨.from a' a',vO hf (zu ma (Io _ ma') IS),fun y my hy=>?_,?_⟩
    · obtain⟨y1,y2⟩:=(db a' a' y).2.1.mp hy
      grind
    · have:szQ (.from a b)<=szQ (.from a a):=hW IS (cQ (by grind))
      refine Il this ?_
      show mx (mx a 0-mx a 0) 0<=mx (mx a' 0-mx a' 0) 0
      rw[show mx a 0-mx a 0=0 by grind,show mx a' 0-mx a' 0=0 by grind]
      exact IS
 obtain⟨rfl,t,rfl⟩|⟨rfl,a,b,rfl⟩|⟨rfl,⟨a,b,rfl⟩|⟨a,b,rfl⟩⟩:=hf
 · obtain⟨t',m,t1,t2⟩:=up (t:=t) h1.1.2
   exact⟨.to t',Jj m,fun y my hy=>(js t y).2.1.mpr (t2 y my ((js t' y).2.1.mp hy)),cQ t1⟩
 · exact hF (by decide) h1
 · exact hF (by decide) h1
 · by_cases c:∀x∈rs,Fi (.round a b) "open" x=true
   · refine⟨.from (-1) 1,vP rs (by decide),fun y my _=>c y my,?_⟩
     rw[nH]
     exact(nG _ h1).2
   · obtain⟨x,mx',hx⟩:∃x∈rs,¬Fi (.round a b) "open" x=true:=by
       refine LY fun z=>c fun x mx'=>?_
       exact LY fun y=>z ⟨x,mx',y⟩
     have xa:x<=a:=JB.mp fun z=>hx ((d9 a b x).2.1.mpr (.inl z))
     have xb:b<=x:=JB.mp fun z=>hx ((d9 a b x).2.1.mpr (.inr z))
     obtain⟨a',ma,a1,a2⟩:=pK (t:=a) ⟨x,mx',xa⟩
     obtain⟨b',mb,b1,b2⟩:=mM (t:=b) ⟨x,mx',xb⟩
     refine⟨.round a' b',HC _ (CN (Io _ ma) (Hn _ mb) (Il (b2 x mx' xb) (a2 x mx' xa))),fun y my hy=>?_,lb (cQ a1) (cQ b1)⟩
     rcases(d9 a' b' y).2.1.mp hy with z|z
     · exact(d9 a b y).2.1.mpr (.inl (JC.mp fun q=>JC.mpr z (a2 y my q)))
     · exact(d9 a b y).2.1.mpr (.inr (JC.mp fun q=>JC.mpr z (b2 y my q)))
theorem cZ(hl:p.length=ss.length)(w:Str):Fu p ss w=true↔∀k,k<ss.length->Fi (ss.getD k (.to 0)) w (p.getD k 0)=true:=by
 rw[<- tP hl w]
 simp[JI]
theorem d0:∀(qs:List Rat)(a:Rat),qs.foldl (· * ·) a=a*dF qs
 | [],a=>by simp[dF,Rat.mul_one]
 | q::qs,a=>by
   unfold dF
   rw[Jo,Jo,d0 qs,d0 qs (1*q),K_,Rat.mul_assoc]
theorem fI(s:Sd)(ss:List Sd):bY (s::ss)=szQ s*bY ss:=by
 show((szQ s::ss.map szQ).foldl (· * ·) 1)=_
 rw[Jo,d0,K_]
 rfl
theorem vz{a b c d:Rat}(a0:0<=a)(ab:a<=b)(c0:0<=c)(cd:c<=d):0<=a*c/\a*c<=b*d:=by
 refine⟨MM a0 c0,Il (IC ab c0) (Rat.mul_le_mul_of_nonneg_left cd (Il a0 ab))⟩
theorem ia:∀{ss' ss:List Sd},ss'.length=ss.length->(∀k,k<ss.length->0<=szQ (ss'.getD k (.to 0))/\szQ (ss'.getD k (.to 0))<=szQ (ss.getD k (.to 0)))->0<=bY ss'/\bY ss'<=bY ss
 | [],[],_,_=>⟨by decide,IS⟩
 | s'::ss',s::ss,hl,h=>by
   have h0:=h 0 (by simp)
   have ih:=ia (ss':=ss') (ss:=ss) (by simpa using hl) fun k hk=>by
    have:=h (k+1) (by simp;omega)
    simpa using this
   rw[fI,fI]
   exact vz (by simpa using h0.1) (by simpa using h0.2) ih.1 ih.2
 | [],_::_,hl,_=>by simp at hl
 | _::_,[],hl,_=>by simp at hl
theorem fV{β:Type}(d:β){R:Nat->β->Prop}:∀{n:Nat},(∀k,k<n->∃y,R k y)->∃ys:List β,ys.length=n/\∀k,k<n->R k (ys.getD k d)
 | 0,_=>⟨[],rfl,fun _ h=>absurd h (by omega)⟩
 | n+1,h=>by
   obtain⟨ys,h1,h2⟩:=fV d (n:=n) fun k hk=>h k (by omega)
   obtain⟨y,hy⟩:=h n (by omega)
   refine⟨ys++[y],by rw[HD,h1];rfl,fun k hk=>?_⟩
   rw[Hr]
   by_cases c:k<n
   · rw[JM (by omega),<- Hr]
     exact h2 k c
   · have:k=n:=by omega
     subst this
     rw[J1 (by omega),h1,Nr]
     exact hy
theorem pZ{ss':List Sd}{w w':Str}(h:∀p∈ps,Fu p ss w=true->Fu p ss' w'=true):cntN ps ss w<=cntN ps ss' w':=by
 unfold cntN
 rw[<- Jd,<- Jd]
 exact Ll h
theorem qJ{a b:Nat}(hn:1<=n)(h:a<=b):qd (a:Nat) (n:Nat)<=qd (b:Nat) (n:Nat):=by
 rcases Nat.lt_or_ge a b with z|z
 · refine HY ((fO (by omega) (by omega)).mp ?_)
   exact LH (by omega) (by omega)
 · have:a=b:=by omega
   rw[this];exact IS
structure Pn (n:Nat) (N:Nat->List Rat) (ps:List (List Rat)):Prop where
 n1:1<=ps.length
 unit:∀k,k<n->∀q∈N k,0<=q/\q<1
 len:∀p∈ps,p.length=n
 at_:∀p∈ps,∀k,k<n->p.getD k 0∈N k
noncomputable def zi(f:Fin 3)(n:Nat)(N:Nat->List Rat)(ss:List Sd):Prop:=ss.length=n/\∀k,k<n->ss.getD k (.to 0)∈slS f.val (N k)
noncomputable def qm(f:Fin 3)(n:Nat)(ss:List Sd):Prop:=ss.length=n/\∀k,k<n->GL f (ss.getD k (.to 0))/\(ss.getD k (.to 0)).In1
theorem sL(hr:∀q∈rs,0<=q/\q<1):∀s∈slS f.val rs,GL f s/\s.In1:=by
 have hE:∀q∈rs++[1],-1<=q/\q<=1:=fun q mq=>by
  rcases HW.mp mq with m|m
  · obtain⟨a,b⟩:=hr q m
    exact⟨Il (by decide) a,HY b⟩
  · cases HK.mp m;exact⟨by decide,by decide⟩
 have hB:∀q∈(-1)::rs,-1<=q/\q<=1:=fun q mq=>by
  rcases HJ.mp mq with rfl|m
  · exact⟨by decide,by decide⟩
  · exact hE q (Io _ m)
 have hF:∀s∈slFS rs,(∃a b,s = .from a b)/\s.In1:=fun s ms=>by
  obtain⟨a,ma,h1⟩:=IF.mp ms
  obtain⟨b,mb,h2⟩:=IN.mp h1
  split at h2
  · cases h2;exact⟨⟨a,b,rfl⟩,hB a ma,hE b mb⟩
  · cases h2
 have hR:∀s∈slRS rs,(∃a b,s = .round a b)/\s.In1:=fun s ms=>by
  obtain⟨a,ma,h1⟩:=IF.mp ms
  obtain⟨b,mb,h2⟩:=IN.mp h1
  split at h2
  · cases h2;exact⟨⟨a,b,rfl⟩,hE a ma,hB b mb⟩
  · cases h2
 intro s ms
 obtain rfl|rfl|rfl:=zD f
 · have ms:s∈(rs++[1]).map Sd.to:=ms
   obtain⟨t,mt,rfl⟩:=HQ.mp ms
   exact⟨.inl ⟨rfl,t,rfl⟩,hE t mt,hE t mt⟩
 · have ms:s∈slFS rs:=ms
   obtain⟨h1,h2⟩:=hF s ms
   exact⟨.inr (.inl ⟨rfl,h1⟩),h2⟩
 · have ms:s∈slFS rs++slRS rs:=ms
   rcases HW.mp ms with m|m
   · obtain⟨h1,h2⟩:=hF s m
     exact⟨.inr (.inr ⟨rfl,.inl h1⟩),h2⟩
   · obtain⟨h1,h2⟩:=hR s m
     exact⟨.inr (.inr ⟨rfl,.inr h1⟩),h2⟩
theorem uB(h:qm f n ss):0<=bY ss:=(ia (ss':=ss) (ss:=ss) rfl fun k hk=>⟨(nG _ (h.2 k (by rw[<- h.1];exact hk)).2).1,IS⟩).1
theorem vq{N:Nat->List Rat}(hp:Pn n N ps)(U0:0<=U)(hU:∀ss,zi f n N ss->EW ps ss<=U/\Fw ps ss<=U)(hs:qm f n ss):EW ps ss<=U/\Fw ps ss<=U:=by
 have hN:(1:Nat)<=ps.length:=hp.n1
 have s0:=uB hs
 constructor
 · by_cases hx:∃p∈ps,Fu p ss "shut" = true
   · obtain⟨p,mp,hx⟩:=hx
     have lp:p.length=ss.length:=by rw[hp.len p mp,hs.1]
     have hx:=(cZ lp "shut").mp hx
     obtain⟨ss',l',h'⟩:=fV (Sd.to 0) (n:=n) (R:=fun k y=>y∈slS f.val (N k)/\(∀x∈N k,Fi (ss.getD k (.to 0)) "shut" x=true->Fi y "shut" x=true)/\szQ y<=szQ (ss.getD k (.to 0))) fun k hk=>by
      obtain⟨o,i⟩:=hs.2 k hk
      obtain⟨y,y1,y2,y3⟩:=ux (hp.unit k hk) o i ⟨_,hp.at_ p mp k hk,hx k (by rw[hs.1];exact hk)⟩
      exact⟨y,y1,y2,y3⟩
     refine Il ?_ (hU ss' ⟨l',fun k hk=>(h' k hk).1⟩).1
     unfold EW
     have c:cntN ps ss "shut" <= cntN ps ss' "shut" := pZ fun q mq hq=>by
      have lq:q.length=ss.length:=by rw[hp.len q mq,hs.1]
      rw[cZ (by rw[hp.len q mq,l'])]
      intro k hk
      rw[l']at hk
      exact(h' k hk).2.1 _ (hp.at_ q mq k hk) ((cZ lq "shut").mp hq k (by rw[hs.1];exact hk))
     have z:bY ss'<=bY ss:=(ia (by rw[l',hs.1]) fun k hk=>by
      rw[hs.1]at hk
      exact⟨(nG _ (sL (hp.unit k hk) _ (h' k hk).1).2).1,(h' k hk).2.2⟩).2
     have:=qJ hN c
     grind
   · have c:cntN ps ss "shut" = 0:=by
       unfold cntN
       rw[Kg,Mm]
       intro p mp hq
       exact hx ⟨p,mp,hq⟩
     unfold EW
     rw[c]
     have:qd ((0:Nat):Int) (ps.length:Nat)=0:=by unfold qd;simp[MU,Rat.zero_mul]
     rw[this]
     grind
 · obtain⟨ss',l',h'⟩:=fV (Sd.to 0) (n:=n) (R:=fun k y=>y∈slS f.val (N k)/\(∀x∈N k,Fi y "open" x=true->Fi (ss.getD k (.to 0)) "open" x=true)/\szQ (ss.getD k (.to 0))<=szQ y) fun k hk=>by
     obtain⟨o,i⟩:=hs.2 k hk
     obtain⟨y,y1,y2,y3⟩:=qD (hp.unit k hk) o i
     exact⟨y,y1,y2,y3⟩
   refine Il ?_ (hU ss' ⟨l',fun k hk=>(h' k hk).1⟩).2
   unfold Fw
   have c:cntN ps ss' "open" <= cntN ps ss "open" := pZ fun q mq hq=>by
    have lq:q.length=ss'.length:=by rw[hp.len q mq,l']
    rw[cZ (by rw[hp.len q mq,hs.1])]
    intro k hk
    rw[hs.1]at hk
    exact(h' k hk).2.1 _ (hp.at_ q mq k hk) ((cZ lq "open").mp hq k (by rw[l'];exact hk))
   have z:bY ss<=bY ss':=(ia (by rw[l',hs.1]) fun k hk=>by
    rw[l']at hk
    exact⟨(nG _ (hs.2 k hk).2).1,(h' k hk).2.2⟩).2
   have:=qJ hN c
   grind
theorem lD{k:Nat}(x d:α)(h:k<n):(H0 n x).getD k d=x:=by
 rw[Hr,KU,if_pos h];rfl
theorem zf{N:Nat->List Rat}(hp:Pn n N ps)(hU:∀ss,zi f n N ss->EW ps ss<=U/\Fw ps ss<=U):0<=U:=by
 have key:∃s:Sd,(∀rs,s∈slS f.val rs)/\(∀x:Rat,0<=x->x<1->Fi s "shut" x=true)/\szQ s=1:=by
  by_cases c:f=0
  · subst c
    exact⟨.to 1,fun rs=>Jj (HC _ (HK.mpr rfl)),fun x _ h=>(js 1 x).1.mpr (HY h),sV⟩
  · exact⟨.from (-1) 1,fun rs=>vP rs c,fun x h0 h1=>(db (-1) 1 x).1.mpr ⟨Il (by decide) h0,HY h1⟩,nH⟩
 obtain⟨s,s1,s2,s3⟩:=key
 have h:=(hU (H0 n s) ⟨Kr,fun k hk=>by rw[lD _ _ hk];exact s1 _⟩).1
 have c:cntN ps (H0 n s) "shut" = ps.length:=by
  unfold cntN
  rw[MY.mpr]
  intro p mp
  rw[cZ (by rw[hp.len p mp,Kr])]
  intro k hk
  rw[Kr]at hk
  rw[lD _ _ hk]
  have:=hp.unit k hk _ (hp.at_ p mp k hk)
  exact s2 _ this.1 this.2
 have z:∀m,bY (H0 m s)=1:=fun m=>by
  induction m with
  | zero=>rfl
  | succ m ih=>rw[Jg,fI,ih,s3,K_]
 unfold EW at h
 rw[c,z]at h
 have:qd (ps.length:Nat) (ps.length:Nat)=1:=by
  unfold qd
  rw[MU,Rat.mul_inv_cancel _ (eS (by have:=hp.n1;omega))]
 rw[this]at h
 have e:(1:Rat)-1=0:=by grind
 rwa [e]at h
abbrev Gn:=(Rat->Rat)×Rat
noncomputable def ev:List Gn->List Rat->Rat
 | [],_=>1
 | _::_,[]=>0
 | g::gs,x::p=>g.1 x*ev gs p
noncomputable def G3(x:Rat):Prop:=0<=x/\x<1
noncomputable def wS(b:Bool):Str:=if b then "shut" else "open"
theorem xt{a b:Rat}(h:a<=b):szQ (.from a b)=mx b 0-mx a 0:=by
 show mx (mx b 0-mx a 0) 0=_
 have:=cQ h
 generalize mx b 0=y at *
 generalize mx a 0=x at *
 unfold mx
 split<;>grind
theorem xr{a b:Rat}(h:b<=a):szQ (.round a b)=1-(mx a 0-mx b 0):=by
 show mn (1+(mx b 0-mx a 0)) 1=_
 have:=cQ h
 generalize mx b 0=y at *
 generalize mx a 0=x at *
 unfold mn
 split<;>grind
structure Sup (f:Fin 3) (n:Nat) (ps:List (List Rat)) (U:Rat):Prop where
 le:∀ss,qm f n ss->EW ps ss<=U/\Fw ps ss<=U
 at_:∃ss,qm f n ss/\(U=EW ps ss\/U=Fw ps ss)
theorem nM{n':Nat}{ps':List (List Rat)}{U':Rat}(h:Sup f n ps U)(h':Sup f n' ps' U')(tr:∀ss,qm f n ss->(∃ss',qm f n' ss'/\EW ps ss<=EW ps' ss')/\∃ss',qm f n' ss'/\Fw ps ss<=Fw ps' ss'):U<=U':=by
 obtain⟨ss,hs,e⟩:=h.at_
 obtain⟨⟨s1,h1,k1⟩,s2,h2,k2⟩:=tr ss hs
 rcases e with e|e
 · rw[e];exact Il k1 (h'.le s1 h1).1
 · rw[e];exact Il k2 (h'.le s2 h2).2
theorem sI{ps':List (List Rat)}{U':Rat}(h:Sup f n ps U)(h':Sup f n ps' U')(e:∀ss,qm f n ss->EW ps ss=EW ps' ss/\Fw ps ss=Fw ps' ss):U=U' :=
 LI (nM h h' fun ss hs=>⟨⟨ss,hs,by rw[(e ss hs).1];exact IS⟩,ss,hs,by rw[(e ss hs).2];exact IS⟩)
  (nM h' h fun ss hs=>⟨⟨ss,hs,by rw[(e ss hs).1];exact IS⟩,ss,hs,by rw[(e ss hs).2];exact IS⟩)
theorem lJ(h:ps.Perm qs)(ss:List Sd)(w:Str):cntN ps ss w=cntN qs ss w:=(h.filter _).length_eq
theorem p6(ps qs:List (List Rat))(ss:List Sd)(w:Str):cntN (ps++qs) ss w=cntN ps ss w+cntN qs ss w:=by
 unfold cntN
 rw[List.filter_append,HD]
theorem qA{U':Rat}(h:Sup f n ps U)(h':Sup f n qs U')(p:ps.Perm qs):U=U':=sI h h' fun ss _=>by
 unfold EW Fw
 rw[lJ p,lJ p,p.length_eq]
 exact⟨rfl,rfl⟩
theorem ip(h:1<=n):(0:Rat)<(((n:Nat):Int):Rat):=by exact_mod_cast h
theorem oC(a n:Nat)(h:1<=n):qd (a:Nat) (n:Nat)*(((n:Nat):Int):Rat)=(((a:Nat):Int):Rat):=by
 have:=eS (show(0:Int)<(n:Int) by omega)
 unfold qd
 grind
theorem lX(p1:1<=ps.length)(q1:1<=qs.length){V W:Rat}(h:Sup f n ps U)(h':Sup f n qs V)(hw:Sup f n (ps++qs) W):W*((((ps.length:Nat):Int):Rat)+(((qs.length:Nat):Int):Rat))<=U*(((ps.length:Nat):Int):Rat)+V*(((qs.length:Nat):Int):Rat):=by
 obtain⟨ss,hs,e⟩:=hw.at_
 have a0:=ip p1
 have b0:=ip q1
 have key:∀w,(qd (cntN (ps++qs) ss w) (ps++qs).length-bY ss)*((((ps.length:Nat):Int):Rat)+(((qs.length:Nat):Int):Rat))=(qd (cntN ps ss w) ps.length-bY ss)*(((ps.length:Nat):Int):Rat)+(qd (cntN qs ss w) qs.length-bY ss)*(((qs.length:Nat):Int):Rat):=fun w=>by
  have e1:=oC (cntN ps ss w) ps.length p1
  have e2:=oC (cntN qs ss w) qs.length q1
  have e3:=oC (cntN (ps++qs) ss w) (ps++qs).length (by rw[HD];omega)
  have e4:((((ps++qs).length:Nat):Int):Rat)=(((ps.length:Nat):Int):Rat)+(((qs.length:Nat):Int):Rat):=by rw[HD];push_cast;rfl
  have e5:((((cntN (ps++qs) ss w):Nat):Int):Rat)=((((cntN ps ss w):Nat):Int):Rat)+((((cntN qs ss w):Nat):Int):Rat):=by rw[p6];push_cast;rfl
  rw[e4]at e3
  rw[e5]at e3
  grind
 obtain⟨l1,l2⟩:=h.le ss hs
 obtain⟨m1,m2⟩:=h'.le ss hs
 unfold EW at l1 m1
 unfold Fw at l2 m2
 rcases e with e|e
 · unfold EW at e
   rw[e,key]
   have h1:=IC l1 (HY a0)
   have h2:=IC m1 (HY b0)
   grind
 · unfold Fw at e
   have k:=key "open"
   have h1:=IC l2 (HY a0)
   have h2:=IC m2 (HY b0)
   rw[e]
   grind
theorem nK(p1:1<=ps.length){W:Rat}(h:Sup f n ps U)(hw:Sup f n (ps++ps) W):W=U:=sI hw h fun ss _=>by
 have key:∀w,qd (cntN (ps++ps) ss w) (ps++ps).length=qd (cntN ps ss w) ps.length:=fun w=>by
  rw[p6,HD]
  have:=eS (show(0:Int)<(ps.length:Int) by omega)
  have h2:=eS (show(0:Int)<((ps.length+ps.length:Nat):Int) by omega)
  unfold qd
  have e:(((ps.length+ps.length:Nat):Int):Rat)=(((ps.length:Nat):Int):Rat)+(((ps.length:Nat):Int):Rat):=by push_cast;rfl
  have e2:(((cntN ps ss w+cntN ps ss w:Nat):Int):Rat)=(((cntN ps ss w:Nat):Int):Rat)+(((cntN ps ss w:Nat):Int):Rat):=by push_cast;rfl
  rw[e]at h2
  rw[e,e2]
  grind
 unfold EW Fw
 rw[key,key]
 exact⟨rfl,rfl⟩
theorem bX(x:Rat)(xs:List Rat):dF (x::xs)=x*dF xs:=by
 show((x::xs).foldl (· * ·) 1)=_
 rw[Jo,d0,K_]
theorem oH{xs ys:List Rat}(h:xs.Perm ys):dF xs=dF ys:=by
 induction h with
 | nil=>rfl
 | cons x _ ih=>rw[bX,bX,ih]
 | swap x y l=>rw[bX,bX,bX,bX];grind
 | trans _ _ i1 i2=>exact i1.trans i2
theorem lh:∀xs ys:List Rat,dF (xs++ys)=dF xs*dF ys
 | [],ys=>by show dF ys=1*dF ys;rw[K_]
 | x::xs,ys=>by rw[Lo,bX,bX,lh xs ys,Rat.mul_assoc]
theorem lg{α:Type}{g:α->Rat}:∀{xs:List α},(∀x∈xs,g x=1)->dF (xs.map g)=1
 | [],_=>rfl
 | x::xs,h=>by rw[Ik,bX,h x Ht,lg fun y my=>h y (Hn _ my),K_]
noncomputable def pkN(os:List Nat)(p:List Rat):List Rat:=os.map fun k=>p.getD k 0
noncomputable def kB(f:Fin 3):Sd:=if f=0 then .to 1 else .from (-1) 1
theorem iH(f:Fin 3):GL f (kB f)/\(kB f).In1/\szQ (kB f)=1/\∀x,G3 x->Fi (kB f) "shut" x=true/\Fi (kB f) "open" x=true:=by
 obtain rfl|rfl|rfl:=zD f
 · refine⟨.inl ⟨rfl,_,rfl⟩,⟨⟨by decide,by decide⟩,by decide,by decide⟩,sV,fun x hx=>⟨(js 1 x).1.mpr (HY hx.2),(js 1 x).2.1.mpr hx.2⟩⟩
 · refine⟨.inr (.inl ⟨rfl,_,_,rfl⟩),⟨⟨by decide,by decide⟩,by decide,by decide⟩,nH,fun x hx=>⟨(db (-1) 1 x).1.mpr ⟨Il (by decide) hx.1,HY hx.2⟩,(db (-1) 1 x).2.1.mpr ⟨by have:=hx.1;grind,hx.2⟩⟩⟩
 · refine⟨.inr (.inr ⟨rfl,.inl ⟨_,_,rfl⟩⟩),⟨⟨by decide,by decide⟩,by decide,by decide⟩,nH,fun x hx=>⟨(db (-1) 1 x).1.mpr ⟨Il (by decide) hx.1,HY hx.2⟩,(db (-1) 1 x).2.1.mpr ⟨by have:=hx.1;grind,hx.2⟩⟩⟩
noncomputable def Ga(n:Nat)(ps:List (List Rat)):Prop:=∀p∈ps,p.length=n/\∀x∈p,G3 x
theorem Ga.at(h:Ga n ps)(mp:p∈ps){k:Nat}(hk:k<n):G3 (p.getD k 0):=by
 obtain⟨h1,h2⟩:=h p mp
 rw[Hr,Hu (by omega)]
 exact h2 _ (Iy _)
noncomputable def D_(f:Fin 3)(n:Nat)(os:List Nat)(ss:List Sd):List Sd:=(HL n).map fun k=>if k∈os then ss.getD (os.idxOf k) (.to 0)else kB f
theorem ui{os:List Nat}{k:Nat}(hk:k<n):(D_ f n os ss).getD k (.to 0)=if k∈os then ss.getD (os.idxOf k) (.to 0)else kB f:=by
 unfold D_
 rw[Hr,Ii,M0 hk];rfl
theorem ny{os:List Nat}(nd:os.Nodup)(lt:∀k∈os,k<n)(hl:ss.length=os.length):bY (D_ f n os ss)=bY ss:=by
 have p1:(HL n).Perm (os++(HL n).filter fun k=>!decide (k∈os)):=by
  have a:((HL n).filter fun k=>decide (k∈os)).Perm os:=(List.perm_ext_iff_of_nodup (Ls.filter _) nd).mpr fun k=>by
   rw[JX,Im]
   simp
   exact fun h=>lt k h
  exact(List.filter_append_perm (fun k=>decide (k∈os)) (HL n)).symm.trans (a.append_right _)
 unfold bY D_
 rw[Ij,oH (p1.map _),IJ,lh,lg (xs:=(HL n).filter fun k=>!decide (k∈os)),Rat.mul_one]
 · congr 1
   refine JJ (by simp[hl]) fun j h1 h2=>?_
   have hj:j<os.length:=by simpa using h1
   simp only[Lp,M1]
   rw[if_pos (Iy hj),nd.idxOf_getElem j hj,Hr,Hu (by omega)]
   rfl
 · intro k mk
   have:k∉os:=by simpa using(JX.mp mk).2
   show szQ (if k∈os then _ else _)=1
   rw[if_neg this]
   exact(iH f).2.2.1
theorem Ab{os:List Nat}(nd:os.Nodup)(lt:∀k∈os,k<n)(hl:ss.length=os.length)(hp:p.length=n)(h0:∀k,k<n->G3 (p.getD k 0))(b:Bool):Fu p (D_ f n os ss) (wS b)=Fu (pkN os p) ss (wS b):=by
 have lu:(D_ f n os ss).length=n:=by unfold D_;rw[Hm,Ix]
 have lk:(pkN os p).length=os.length:=by unfold pkN;rw[Hm]
 have at_:∀j (h:j<os.length),(pkN os p).getD j 0=p.getD os[j] 0:=fun j h=>by
  unfold pkN
  rw[Hr,Ii,Hu h];rfl
 rw[KP,cZ (by rw[hp,lu]),cZ (by rw[lk,hl]),lu,hl]
 constructor
 · intro h j hj
   have:=h os[j] (lt _ (Iy hj))
   rw[ui (lt _ (Iy hj)),if_pos (Iy hj),nd.idxOf_getElem j hj]at this
   rw[at_ j hj]
   exact this
 · intro h k hk
   rw[ui hk]
   by_cases m:k∈os
   · rw[if_pos m]
     have hj:=Jk m
     have:=h _ hj
     rw[at_ _ hj,KZ hj]at this
     exact this
   · rw[if_neg m]
     have:=(iH f).2.2.2 _ (h0 k hk)
     cases b
     · exact this.2
     · exact this.1
theorem uY{os:List Nat}(nd:os.Nodup)(lt:∀k∈os,k<n)(hu:Ga n ps)(hs:qm f os.length ss):qm f n (D_ f n os ss)/\EW (ps.map (pkN os)) ss=EW ps (D_ f n os ss)/\Fw (ps.map (pkN os)) ss=Fw ps (D_ f n os ss):=by
 have lu:(D_ f n os ss).length=n:=by unfold D_;rw[Hm,Ix]
 have c:∀b,cntN (ps.map (pkN os)) ss (wS b)=cntN ps (D_ f n os ss) (wS b):=fun b=>by
  unfold cntN
  rw[LJ,Hm]
  congr 1
  refine Lb fun p mp=>?_
  exact(Ab nd lt hs.1 (hu p mp).1 (fun k hk=>hu.at mp hk) b).symm
 refine⟨⟨lu,fun k hk=>?_⟩,?_,?_⟩
 · rw[ui hk]
   by_cases m:k∈os
   · rw[if_pos m];exact hs.2 _ (Jk m)
   · rw[if_neg m];exact⟨(iH f).1,(iH f).2.1⟩
 · unfold EW
   rw[ny nd lt hs.1,Hm]
   have:=c true
   have e:wS true = "shut" := rfl
   rw[e]at this
   rw[this]
 · unfold Fw
   rw[ny nd lt hs.1,Hm]
   have:=c false
   have e:wS false = "open" := rfl
   rw[e]at this
   rw[this]
theorem hX{os:List Nat}(nd:os.Nodup)(lt:∀k∈os,k<n)(hu:Ga n ps){V:Rat}(h:Sup f n ps U)(h':Sup f os.length (ps.map (pkN os)) V):V<=U:=nM h' h fun ss hs=>by
 obtain⟨a,b,c⟩:=uY nd lt hu hs
 exact⟨⟨_,a,by rw[b];exact IS⟩,_,a,by rw[c];exact IS⟩
theorem qB{os:List Nat}(pm:os.Perm (HL n))(hu:Ga n ps){V:Rat}(h:Sup f n ps U)(h':Sup f n (ps.map (pkN os)) V):V=U:=by
 have nd:os.Nodup:=pm.nodup_iff.mpr Ls
 have lt:∀k∈os,k<n:=fun k mk=>Im.mp (pm.mem_iff.mp mk)
 have ol:os.length=n:=by rw[pm.length_eq,Ix]
 refine LI (hX nd lt hu h (by rw[ol];exact h')) ?_
 have hu':Ga n (ps.map (pkN os)):=fun q mq=>by
  obtain⟨p,mp,rfl⟩:=HQ.mp mq
  refine⟨by unfold pkN;rw[Hm,ol],fun x mx'=>?_⟩
  obtain⟨k,mk,rfl⟩:=HQ.mp mx'
  exact hu.at mp (lt k mk)
 have mem:∀k,k<n->k∈os:=fun k hk=>pm.mem_iff.mpr (Im.mpr hk)
 have il:((HL n).map fun k=>os.idxOf k).length=n:=by rw[Hm,Ix]
 have back:(ps.map (pkN os)).map (pkN ((HL n).map fun k=>os.idxOf k))=ps:=by
  rw[Ij]
  conv=>rhs;rw[<- List.map_id ps]
  refine IR fun p mp=>?_
  obtain⟨pl,_⟩:=hu p mp
  refine JJ (by simp[pkN,pl]) fun k h1 h2=>?_
  have hk:k<n:=by have:k<p.length:=h2;omega
  have hi:=Jk (mem k hk)
  simp only[M1,pkN,Lp,LU,id_eq]
  rw[Hr,Ii,Hu hi,KZ hi]
  show p.getD k 0=_
  rw[Hr,Hu (by omega)]
  rfl
 refine hX (os:=(HL n).map fun k=>os.idxOf k) ?_ ?_ hu' h' (by rw[il,back];exact h)
 · unfold Ir
   rw[List.pairwise_map]
   refine List.Pairwise.imp_of_mem (fun{a b} ma mb ne e=>ne ?_) Ls
   have ha:=mem a (Im.mp ma)
   have hb:=mem b (Im.mp mb)
   have x1:=KZ (Jk ha)
   have x2:=KZ (Jk hb)
   rw[<- x1,<- x2]
   congr 1
 · intro k mk
   obtain⟨j,mj,rfl⟩:=HQ.mp mk
   have:=Jk (mem j (Im.mp mj))
   omega
noncomputable def df(x a:Rat):Rat:=if x<a then x-a+1 else x-a
theorem v7{x a:Rat}(hx:G3 x)(ha:G3 a):G3 (df x a):=by
 obtain⟨x0,x1⟩:=hx
 obtain⟨a0,a1⟩:=ha
 unfold df G3
 split<;>constructor<;>grind
noncomputable def Tr(φ:Rat->Rat):Prop:=∀a l,G3 a->0<=l->l<=1->∃a',G3 a'/\∀x,G3 x->G3 (φ x)/\(df (φ x) a<=l↔df x a'<=l)/\((0<df (φ x) a/\df (φ x) a<l)↔(0<df x a'/\df x a'<l))
noncomputable def EG(c x:Rat):Rat:=if x+c<1 then x+c else x+c-1
noncomputable def Fa(x:Rat):Rat:=if x=0 then 0 else 1-x
theorem uD{c x:Rat}(hc:G3 c)(hx:G3 x):G3 (EG c x):=by
 obtain⟨x0,x1⟩:=hx
 obtain⟨c0,c1⟩:=hc
 unfold EG G3
 split<;>constructor<;>grind
theorem xF{c x a:Rat}(hc:G3 c)(hx:G3 x)(ha:G3 a):df (EG c x) a=df x (df a c):=by
 obtain⟨x0,x1⟩:=hx
 obtain⟨c0,c1⟩:=hc
 obtain⟨a0,a1⟩:=ha
 unfold df EG
 split<;>split<;>split<;>grind
theorem xj{c:Rat}(hc:G3 c):Tr (EG c):=fun a l ha l0 l1=>⟨df a c,v7 ha hc,fun x hx=>⟨uD hc hx,by rw[xF hc hx ha],by rw[xF hc hx ha]⟩⟩
theorem Ae:Tr (fun x=>x):=fun a l ha _ _=>⟨a,ha,fun x hx=>⟨hx,K8,K8⟩⟩
theorem jr{x:Rat}(hx:G3 x):G3 (Fa x):=by
 obtain⟨x0,x1⟩:=hx
 unfold Fa G3
 split<;>constructor<;>grind
theorem Ad:Tr Fa:=fun a l ha l0 l1=>by
 have hb:G3 (Fa (EG l a))\/l=1:=by
  by_cases c:l=1
  · exact .inr c
  · exact .inl (jr (uD ⟨l0,LW l1 c⟩ ha))
 obtain⟨a0,a1⟩:=ha
 rcases hb with hb|rfl
 · refine⟨Fa (EG l a),hb,fun x hx=>⟨jr hx,?_,?_⟩⟩
   · obtain⟨x0,x1⟩:=hx
     unfold df Fa EG
     constructor<;>intro h<;>(repeat' split)<;>(repeat' split at h)<;>grind
   · obtain⟨x0,x1⟩:=hx
     unfold df Fa EG
     constructor<;>intro h<;>(repeat' split)<;>(repeat' split at h)<;>grind
 · refine⟨Fa a,jr ⟨a0,a1⟩,fun x hx=>⟨jr hx,?_,?_⟩⟩
   · have h1:=v7 (jr hx) ⟨a0,a1⟩
     have h2:=v7 hx (jr ⟨a0,a1⟩)
     exact⟨fun _=>HY h2.2,fun _=>HY h1.2⟩
   · obtain⟨x0,x1⟩:=hx
     unfold df Fa
     constructor<;>intro h<;>(repeat' split)<;>(repeat' split at h)<;>grind
noncomputable def GP(s:Sd):Prop:=(∃a b,s = .from a b/\(a = -1\/G3 a)/\(b=1\/G3 b)/\a<=b)\/∃a b,s = .round a b/\(a=1\/G3 a)/\(b = -1\/G3 b)/\b<=a
theorem jq{a:Rat}(h:0<=a):mx a 0=a:=by unfold mx;rw[if_neg (JB.mpr h)]
theorem ze{s:Sd}(h:GP s):∃a,G3 a/\(0<=szQ s/\szQ s<=1)/\∀x,G3 x->(Fi s "shut" x=true->df x a<=szQ s)/\((0<df x a/\df x a<szQ s)->Fi s "open" x=true):=by
 rcases h with⟨a,b,rfl,ha,hb,hab⟩|⟨a,b,rfl,ha,hb,hab⟩
 · have b0:0<=b/\b<=1:=by
     rcases hb with rfl|hb
     · exact⟨by decide,by decide⟩
     · exact⟨hb.1,HY hb.2⟩
   rw[xt hab,jq b0.1]
   rcases ha with rfl|ha
   · rw[vw]
     refine⟨0,⟨by decide,by decide⟩,⟨by grind,by grind⟩,fun x hx=>⟨fun z=>?_,fun z=>?_⟩⟩
     · have:=(db _ b x).1.mp z
       obtain⟨x0,x1⟩:=hx
       unfold df
       split<;>grind
     · obtain⟨x0,x1⟩:=hx
       refine(db _ b x).2.1.mpr ?_
       unfold df at z
       split at z<;>constructor<;>grind
   · rw[jq ha.1]
     refine⟨a,ha,⟨by grind,by have:=ha.1;grind⟩,fun x hx=>⟨fun z=>?_,fun z=>?_⟩⟩
     · have:=(db a b x).1.mp z
       obtain⟨x0,x1⟩:=hx
       unfold df
       split<;>grind
     · obtain⟨x0,x1⟩:=hx
       refine(db a b x).2.1.mpr ?_
       unfold df at z
       split at z<;>constructor<;>grind
 · have a0:0<=a/\a<=1:=by
     rcases ha with rfl|ha
     · exact⟨by decide,by decide⟩
     · exact⟨ha.1,HY ha.2⟩
   rw[xr hab,jq a0.1]
   have hbb:(b = -1/\mx b 0=0)\/(G3 b/\mx b 0=b):=by
    rcases hb with rfl|hb
    · exact .inl ⟨rfl,vw⟩
    · exact .inr ⟨hb,jq hb.1⟩
   rcases ha with rfl|ha
   · refine⟨0,⟨by decide,by decide⟩,?_,fun x hx=>⟨fun z=>?_,fun z=>?_⟩⟩
     · rcases hbb with⟨_,e⟩|⟨h,e⟩
       · rw[e];exact⟨by decide +kernel,by decide +kernel⟩
       · rw[e];obtain⟨h0,h1⟩:=h;constructor<;>grind
     · have:=(d9 _ b x).1.mp z
       obtain⟨x0,x1⟩:=hx
       unfold df
       rcases hbb with⟨h,e⟩|⟨⟨h0,h1⟩,e⟩<;>rw[e]<;>split<;>grind
     · obtain⟨x0,x1⟩:=hx
       refine(d9 _ b x).2.1.mpr ?_
       unfold df at z
       rcases hbb with⟨h,e⟩|⟨⟨h0,h1⟩,e⟩<;>rw[e]at z<;>split at z<;>grind
   · refine⟨a,ha,?_,fun x hx=>⟨fun z=>?_,fun z=>?_⟩⟩
     · rcases hbb with⟨_,e⟩|⟨h,e⟩
       · rw[e];obtain⟨h0,h1⟩:=ha;constructor<;>grind
       · rw[e];obtain⟨h0,h1⟩:=ha;obtain⟨g0,g1⟩:=h;constructor<;>grind
     · have:=(d9 a b x).1.mp z
       obtain⟨x0,x1⟩:=hx
       unfold df
       rcases hbb with⟨h,e⟩|⟨⟨h0,h1⟩,e⟩<;>rw[e]<;>split<;>grind
     · obtain⟨x0,x1⟩:=hx
       refine(d9 a b x).2.1.mpr ?_
       unfold df at z
       rcases hbb with⟨h,e⟩|⟨⟨h0,h1⟩,e⟩<;>rw[e]at z<;>split at z<;>grind
theorem yr{a l:Rat}(ha:G3 a)(l0:0<=l)(l1:l<=1):(∃s,GL 2 s/\s.In1/\szQ s=l/\∀x,G3 x->df x a<=l->Fi s "shut" x=true)/\∃s,GL 2 s/\s.In1/\szQ s=l/\∀x,G3 x->Fi s "open" x=true->0<df x a/\df x a<l:=by
 obtain⟨a0,a1⟩:=ha
 have sF:szQ (.from a (a+l))=l:=by rw[xt (by grind),jq a0,jq (by grind)];grind
 have sR:1<=a+l->szQ (.round a (a+l-1))=l:=fun h=>by rw[xr (by grind),jq a0,jq (by grind)];grind
 have oF:GL 2 (.from a (a+l)):=.inr (.inr ⟨rfl,.inl ⟨_,_,rfl⟩⟩)
 have oR:GL 2 (.round a (a+l-1)):=.inr (.inr ⟨rfl,.inr ⟨_,_,rfl⟩⟩)
 have iF:a+l<=1->(Sd.from a (a+l)).In1:=fun h=>⟨⟨by show -1<=a;grind,by show a<=1;grind⟩,by show -1<=a+l;grind,by show a+l<=1;grind⟩
 have iR:1<=a+l->(Sd.round a (a+l-1)).In1:=fun h=>⟨⟨by show -1<=a;grind,by show a<=1;grind⟩,by show -1<=a+l-1;grind,by show a+l-1<=1;grind⟩
 constructor
 · by_cases c:a+l<1
   · refine⟨_,oF,iF (HY c),sF,fun x hx z=>(db a (a+l) x).1.mpr ?_⟩
     obtain⟨x0,x1⟩:=hx
     unfold df at z
     split at z<;>constructor<;>grind
   · have c:=JB.mp c
     refine⟨_,oR,iR c,sR c,fun x hx z=>(d9 a (a+l-1) x).1.mpr ?_⟩
     obtain⟨x0,x1⟩:=hx
     unfold df at z
     split at z<;>grind
 · by_cases c:a+l<=1
   · refine⟨_,oF,iF c,sF,fun x hx z=>?_⟩
     obtain⟨z1,z2⟩:=(db a (a+l) x).2.1.mp z
     obtain⟨x0,x1⟩:=hx
     unfold df
     split<;>constructor<;>grind
   · have c:=JC.mp c
     refine⟨_,oR,iR (HY c),sR (HY c),fun x hx z=>?_⟩
     have z:=(d9 a (a+l-1) x).2.1.mp z
     obtain⟨x0,x1⟩:=hx
     unfold df
     split<;>constructor<;>grind
theorem nV{φ:Rat->Rat}(t:Tr φ){s:Sd}(h:GP s):(∃s',GL 2 s'/\s'.In1/\szQ s'=szQ s/\∀x,G3 x->Fi s "shut" (φ x)=true->Fi s' "shut" x=true)/\∃s',GL 2 s'/\s'.In1/\szQ s'=szQ s/\∀x,G3 x->Fi s' "open" x=true->Fi s "open" (φ x)=true:=by
 obtain⟨a,ha,⟨l0,l1⟩,k⟩:=ze h
 obtain⟨a',ha',k'⟩:=t a _ ha l0 l1
 obtain⟨⟨s1,o1,i1,z1,g1⟩,s2,o2,i2,z2,g2⟩:=yr ha' l0 l1
 refine⟨⟨s1,o1,i1,z1,fun x hx z=>g1 x hx ?_⟩,s2,o2,i2,z2,fun x hx z=>?_⟩
 · obtain⟨i,e1,_⟩:=k' x hx
   exact e1.mp ((k _ i).1 z)
 · obtain⟨i,_,e2⟩:=k' x hx
   exact(k _ i).2 (e2.mpr (g2 x hx z))
theorem yG(hr:∀q∈rs,G3 q):∀s∈slS (2:Fin 3).val rs,GP s:=by
 have hE:∀q∈rs++[1],q=1\/G3 q:=fun q mq=>by
  rcases HW.mp mq with m|m
  · exact .inr (hr q m)
  · exact .inl (HK.mp m)
 have hB:∀q∈(-1)::rs,q = -1\/G3 q:=fun q mq=>by
  rcases HJ.mp mq with rfl|m
  · exact .inl rfl
  · exact .inr (hr q m)
 intro s ms
 have ms:s∈slFS rs++slRS rs:=ms
 rcases HW.mp ms with ms|ms
 · obtain⟨a,ma,h1⟩:=IF.mp ms
   obtain⟨b,mb,h2⟩:=IN.mp h1
   split at h2
   · rename_i c;cases h2;exact .inl ⟨a,b,rfl,hB a ma,hE b mb,c⟩
   · cases h2
 · obtain⟨a,ma,h1⟩:=IF.mp ms
   obtain⟨b,mb,h2⟩:=IN.mp h1
   split at h2
   · rename_i c;cases h2;exact .inr ⟨a,b,rfl,hE a ma,hB b mb,c⟩
   · cases h2
noncomputable def tN(n:Nat)(ps:List (List Rat))(U:Rat):Prop:=∃ss:List Sd,ss.length=n/\(∀k,k<n->GP (ss.getD k (.to 0)))/\(U=EW ps ss\/U=Fw ps ss)
noncomputable def E8(g:Nat->Rat->Rat)(p:List Rat):List Rat:=(HL p.length).map fun k=>g k (p.getD k 0)
theorem gJ{k:Nat}(h:k<p.length):(E8 g p).getD k 0=g k (p.getD k 0):=by
 unfold E8
 rw[Hr,Ii,M0 h];rfl
theorem cv(g:Nat->Rat->Rat)(p:List Rat):(E8 g p).length=p.length:=by unfold E8;rw[Hm,Ix]
theorem nU{ss':List Sd}(l':ss'.length=n)(l:ss.length=n)(h:∀k,k<n->szQ (ss'.getD k (.to 0))=szQ (ss.getD k (.to 0))):bY ss'=bY ss:=by
 unfold bY
 congr 1
 refine JJ (by rw[Hm,Hm,l',l]) fun k h1 h2=>?_
 have hk:k<n:=by rw[Hm]at h1;omega
 have:=h k hk
 rw[Hr,Hu (by omega),Hr,Hu (by omega)]at this
 simpa using this
theorem lc(tr:∀k,k<n->Tr (g k))(p1:1<=ps.length)(hu:Ga n ps){V:Rat}(h:Sup 2 n ps U)(h':tN n (ps.map (E8 g)) V):V<=U:=by
 obtain⟨ss,l,lk,e⟩:=h'
 have in0:∀{p:List Rat},p∈ps->∀k,k<n->G3 (p.getD k 0):=fun mp k hk=>hu.at mp hk
 have lp:∀{p:List Rat},p∈ps->p.length=n:=fun mp=>(hu _ mp).1
 rcases e with e|e
 · obtain⟨ss',l',k'⟩:=fV (Sd.to 0) (n:=n) (R:=fun k y=>GL 2 y/\y.In1/\szQ y=szQ (ss.getD k (.to 0))/\∀x,G3 x->Fi (ss.getD k (.to 0)) "shut" (g k x)=true->Fi y "shut" x=true) fun k hk=>(nV (tr k hk) (lk k hk)).1
   refine Il ?_ (h.le ss' ⟨l',fun k hk=>⟨(k' k hk).1,(k' k hk).2.1⟩⟩).1
   rw[e]
   unfold EW
   rw[nU l' l fun k hk=>(k' k hk).2.2.1,Hm]
   have c:cntN (ps.map (E8 g)) ss "shut" <= cntN ps ss' "shut" := by
    unfold cntN
    rw[LJ,Hm,<- Jd,<- Jd]
    refine Ll fun p mp z=>?_
    have z:=(cZ (by rw[cv,lp mp,l]) "shut").mp z
    refine(cZ (by rw[lp mp,l']) "shut").mpr fun k hk=>?_
    rw[l']at hk
    have:=z k (by rw[l];exact hk)
    rw[gJ (by rw[lp mp];exact hk)]at this
    exact(k' k hk).2.2.2 _ (in0 mp k hk) this
   have:=qJ p1 c
   grind
 · obtain⟨ss',l',k'⟩:=fV (Sd.to 0) (n:=n) (R:=fun k y=>GL 2 y/\y.In1/\szQ y=szQ (ss.getD k (.to 0))/\∀x,G3 x->Fi y "open" x=true->Fi (ss.getD k (.to 0)) "open" (g k x)=true) fun k hk=>(nV (tr k hk) (lk k hk)).2
   refine Il ?_ (h.le ss' ⟨l',fun k hk=>⟨(k' k hk).1,(k' k hk).2.1⟩⟩).2
   rw[e]
   unfold Fw
   rw[nU l' l fun k hk=>(k' k hk).2.2.1,Hm]
   have c:cntN ps ss' "open" <= cntN (ps.map (E8 g)) ss "open" := by
    unfold cntN
    rw[LJ,Hm,<- Jd,<- Jd]
    refine Ll fun p mp z=>?_
    have z:=(cZ (by rw[lp mp,l']) "open").mp z
    refine(cZ (by rw[cv,lp mp,l]) "open").mpr fun k hk=>?_
    rw[l]at hk
    rw[gJ (by rw[lp mp];exact hk)]
    exact(k' k hk).2.2.2 _ (in0 mp k hk) (z k (by rw[l'];exact hk))
   have:=qJ p1 c
   grind
theorem qZ(h0:∀k x,G3 x->G3 (g k x))(hu:Ga n ps):Ga n (ps.map (E8 g)):=fun q mq=>by
 obtain⟨p,mp,rfl⟩:=HQ.mp mq
 refine⟨by rw[cv];exact(hu p mp).1,fun x mx'=>?_⟩
 obtain⟨k,mk,rfl⟩:=HQ.mp mx'
 exact h0 k _ (hu.at mp (by rw[<- (hu p mp).1];exact Im.mp mk))
theorem q0{h:Nat->Rat->Rat}(hb:∀k x,G3 x->h k (g k x)=x)(hu:Ga n ps):(ps.map (E8 g)).map (E8 h)=ps:=by
 rw[Ij]
 conv=>rhs;rw[<- List.map_id ps]
 refine IR fun p mp=>?_
 refine JJ (by simp[cv]) fun k h1 h2=>?_
 have hk:k<p.length:=h2
 have e1:(E8 h (E8 g p)).getD k 0=p.getD k 0:=by
  rw[gJ (by rw[cv];exact hk),gJ hk]
  exact hb k _ (hu.at mp (by rw[<- (hu p mp).1];exact hk))
 rw[Hr,Hu (by rw[cv,cv];exact hk),Hr,Hu hk]at e1
 exact e1
theorem i4{h:Nat->Rat->Rat}(tg:∀k,k<n->Tr (g k))(th:∀k,k<n->Tr (h k))(g0:∀k x,G3 x->G3 (g k x))(hb:∀k x,G3 x->h k (g k x)=x)(p1:1<=ps.length)(hu:Ga n ps){V:Rat}(s:Sup 2 n ps U)(sl:tN n ps U)(t:Sup 2 n (ps.map (E8 g)) V)(tl:tN n (ps.map (E8 g)) V):V=U :=
 LI (lc tg p1 hu s tl) (lc th (by rw[Hm];exact p1) (qZ g0 hu) t (by rw[q0 hb hu];exact sl))
theorem uE{c x:Rat}(hc:G3 c)(hx:G3 x):EG (Fa c) (EG c x)=x:=by
 obtain⟨x0,x1⟩:=hx
 obtain⟨c0,c1⟩:=hc
 unfold EG Fa
 split<;>split<;>split<;>grind
theorem vA{x:Rat}(hx:G3 x):Fa (Fa x)=x:=by
 obtain⟨x0,x1⟩:=hx
 unfold Fa
 split<;>split<;>grind
theorem nL{cs:Nat->Rat}(hc:∀k,G3 (cs k))(p1:1<=ps.length)(hu:Ga n ps){V:Rat}(s:Sup 2 n ps U)(sl:tN n ps U)(t:Sup 2 n (ps.map (E8 fun k=>EG (cs k))) V)(tl:tN n (ps.map (E8 fun k=>EG (cs k))) V):V=U :=
 i4 (h:=fun k=>EG (Fa (cs k))) (fun k _=>xj (hc k)) (fun k _=>xj (jr (hc k))) (fun k x hx=>uD (hc k) hx) (fun k x hx=>uE (hc k) hx) p1 hu s sl t tl
theorem lW(b:Nat->Bool)(p1:1<=ps.length)(hu:Ga n ps){V:Rat}(s:Sup 2 n ps U)(sl:tN n ps U)(t:Sup 2 n (ps.map (E8 fun k x=>if b k then Fa x else x)) V)(tl:tN n (ps.map (E8 fun k x=>if b k then Fa x else x)) V):V=U:=by
 have tr:∀k,Tr (fun x=>if b k then Fa x else x):=fun k=>by
  cases b k
  · exact Ae
  · exact Ad
 refine i4 (h:=fun k x=>if b k then Fa x else x) (fun k _=>tr k) (fun k _=>tr k) (fun k x hx=>?_) (fun k x hx=>?_) p1 hu s sl t tl
 · cases b k
   · exact hx
   · exact jr hx
 · show(if b k then Fa (if b k then Fa x else x)else(if b k then Fa x else x))=x
   cases b k
   · rfl
   · exact vA hx
theorem AD{f:Nat}(hw:FZ f ps):Pn (dimP ps) (nuQ ps) ps :=
 ⟨hw.1.1.1,fun k hk q mq=>((hw.1.2 k hk).2 q mq).2,fun p mp=>(hw.1.1.2.2.1 p mp).1,fun p mp k hk=>((i6 (colQ ps k)).2 _).mpr (Jj mp)⟩
theorem sZ{F:Fin 3}(ss:List Sd):ss∈chP (rowsS F.val ps)↔zi F (dimP ps) (nuQ ps) ss:=by
 rw[km (.to 0) (dimP ps) (rowsS F.val ps) (eK F.val ps)]
 refine and_congr_right fun _=>forall_congr' fun k=>forall_congr' fun hk=>?_
 have:(rowsS F.val ps).getD k []=slS F.val (nuQ ps k):=by
  rw[Hr,Hu (by rw[eK];exact hk),io]
  rfl
 rw[this]
theorem yZ{α:Type}:∀(ts:List (Rat×α))(t0:Rat×α),t0.1<=(FP ts t0).1/\∀t∈ts,t.1<=(FP ts t0).1
 | [],t0=>⟨IS,fun _ h=>absurd h (by simp)⟩
 | t::ts,t0=>by
   have e:FP (t::ts) t0=FP ts (if t0.1<t.1 then t else t0):=rfl
   rw[e]
   obtain⟨h1,h2⟩:=yZ ts (if t0.1<t.1 then t else t0)
   by_cases c:t0.1<t.1
   · rw[if_pos c]at h1 h2 ⊢
     refine⟨Il (HY c) h1,fun u mu=>?_⟩
     rcases HJ.mp mu with rfl|mu
     · exact h1
     · exact h2 u mu
   · rw[if_neg c]at h1 h2 ⊢
     refine⟨h1,fun u mu=>?_⟩
     rcases HJ.mp mu with rfl|mu
     · exact Il (JB.mp c) h1
     · exact h2 u mu
theorem si{F:Fin 3}:∀ss,zi F (dimP ps) (nuQ ps) ss->EW ps ss<=(DZ F.val ps).1/\Fw ps ss<=(DZ F.val ps).1:=fun ss hs=>by
 have h:=(yZ (msL F.val ps) ((msL F.val ps).headD (0, "", []))).2
 have m:∀t∈msS ps ss,t∈msL F.val ps:=fun t mt=>IF.mpr ⟨ss,(sZ ss).mpr hs,mt⟩
 exact⟨h _ (m _ Ht),h _ (m _ (Hn _ Ht))⟩
theorem wD(f:Nat)(ps:List (List Rat)):DZ f ps∈msL f ps:=by
 obtain⟨t,ts,e⟩:=oS f ps
 unfold DZ
 rw[e]
 rcases lF (t::ts) ((t::ts).headD (0, "", []))with z|z
 · rw[z];exact Ht
 · exact z
theorem AO{F:Fin 3}{t:Gc}(mt:t∈msL F.val ps):∃ss,zi F (dimP ps) (nuQ ps) ss/\t∈msS ps ss:=by
 obtain⟨ss,ms,h⟩:=IF.mp mt
 exact⟨ss,(sZ ss).mp ms,h⟩
theorem mX{fl:List Nat}{f:TB}{t:Gf}{k:En->Mo Fl}{Q:Fl->Prop}(J:Nat->En->Prop)(n:Nat)(h0:J n ρ)(hf:∀m ρ,J m ρ->f ρ=VL.ret (decide (0<m)))(ht:∀m ρ,J (m+1) ρ->∀K:Fl->Prop,(∀ρ',J m (fo fl ρ')->K (.nx ρ'))->mS t ρ K)(fin:∀ρ,J 0 ρ->k ρ Q):sq (fB fl f t ρ) k Q:=by
 have key:∀(m:Nat)(ρ:En),J m ρ->mS (D4 fl f t m) ρ (fun r=>(match r with | .nx ρ=>k ρ | .rt w=>VL.ret (.rt w) | .bk ρ=>VL.ret (.bk ρ) | .ct ρ=>VL.ret (.ct ρ)) Q):=by
  intro m
  induction m with
  | zero =>
    intro ρ h
    rw[lR,hf 0 ρ h,bnd_ret,if_neg (by decide)]
    exact fin ρ h
  | succ m ih =>
    intro ρ h
    rw[lR,hf _ ρ h,bnd_ret,if_pos (by simp)]
    refine ht m ρ h _ fun ρ' h'=>?_
    exact⟨m,Mb m,ih _ h'⟩
 exact⟨n,key n ρ h0⟩
theorem ck{F:Fin 3}(hw:FZ F.val ps):Sup F (dimP ps) ps (DZ F.val ps).1/\(F=2->tN (dimP ps) ps (DZ F.val ps).1):=by
 have hp:=AD hw
 obtain⟨ss,h1,h2⟩:=AO (wD F.val ps)
 have e:(DZ F.val ps).1=EW ps ss\/(DZ F.val ps).1=Fw ps ss:=by
  rcases HJ.mp h2 with e|h2
  · left;rw[e]
  · right;rw[HK.mp h2]
 refine⟨⟨fun ss hs=>vq hp (zf hp si) si hs,ss,⟨h1.1,fun k hk=>sL (hp.unit k hk) _ (h1.2 k hk)⟩,e⟩,fun z=>?_⟩
 subst z
 exact⟨ss,h1.1,fun k hk=>yG (fun q mq=>hp.unit k hk q mq) _ (h1.2 k hk),e⟩
theorem hV{f:Nat}(hw:FZ f ps):Ga (dimP ps) ps:=fun p mp=>⟨(hw.1.1.2.2.1 p mp).1,fun x mx'=>((hw.1.1.2.2.1 p mp).2 x mx').2⟩
noncomputable def iD(k:Nat):Hg:=.int ((k:Nat):Int)
theorem CO(k:Nat):H_ (0+(k:Int))=iD k:=by unfold iD;rw[Nu]
theorem xK(n:Nat):aM 0 n=(HL n).map iD:=by
 unfold aM
 exact IR fun k _=>CO k
theorem xE:∀ls:List Nat,Iv (.list (ls.map iD))=true:=fun ls=>by
 have:=shaped_ints (ls.map fun k=>((k:Nat):Int))
 rw[Ij]at this
 exact this
theorem tm{α β:Type}(f:α->β):∀(l:List α)(k:Nat),(l.map f).eraseIdx k=(l.eraseIdx k).map f
 | [],_=>rfl
 | _::_,0=>rfl
 | x::l,k+1=>congrArg (f x :: ·) (tm f l k)
theorem pL{α:Type}:∀(l:List α)(k:Nat)(h:k<l.length),(l[k]::l.eraseIdx k).Perm l
 | x::l,0,_=>.refl _
 | x::l,k+1,h=>(List.Perm.swap x _ _).trans ((pL l k (by simpa using h)).cons x)
theorem kD(ls:List Hg):Iq (.list ls) (.list [])=ls.isEmpty:=by cases ls<;>simp[Iq,Nf]
noncomputable def bM:List W->(Hg->Prop)->Prop:=fun ws Q=>∃(n:Int),ws=[.reel,.d (.int n)]/\((1<=n)/\(n<=16))/\∀os:List Nat,(os.Perm (HL n.toNat))->Q (.tuple ((os.map fun k=>((k:Nat):Int)).map .int))
theorem bM.mono:∀ws (Q Q':Hg->Prop),(∀d,Q d->Q' d)->bM ws Q->bM ws Q':=fun _ _ _ h_=>HB fun _=>Ho (Ho fun q_ o_ ho_=>h_ _ (q_ o_ ho_))
theorem bM.len:∀ws (Q:Hg->Prop),bM ws Q->ws.length=2:=fun _ _ h_=>by obtain⟨_,e_,_⟩:=h_;subst e_;rfl
theorem bM.eq(n:Int)(n1:1<=n)(n8:n<=16):bM [.reel,.d (.int n)]=FR (anyM fun os:List Nat=>os.Perm (HL n.toNat)) fun os=>VL.ret (.tuple ((os.map fun k=>((k:Nat):Int)).map .int):Hg):=by
 refine ak fun Q=>⟨?_,fun q_=>⟨n,rfl,⟨n1,n8⟩,q_⟩⟩
 rintro⟨n',e_,_,q_⟩
 simp_arith only[and_true]at e_
 obtain rfl:=e_
 exact q_
theorem im:FnScope ["_law_feed_here", "_law_many", "_law_left", "_law_found"] ["_law_feed_here", "_law_many"] (defScope (Ef 54)):=⟨rfl,rfl,rfl,by decide +kernel,rfl,by decide +kernel,by decide +kernel⟩
theorem d__law_order(Fn:FnIn K mg "_law_order" (Ef 54) ["_law_feed_here", "_law_many"])(Z:Bz mg)(d__law_draw:∀rl,Dfn P w K mg base rl "_law_draw" ["_law_feed_here", "_law_many"] 1 aP)   : Dfn P w K mg base rl "_law_order" ["_law_feed_here", "_law_many"] 2 bM:=by
 have sc:=im
 refine Dfn.of Fn sc (bM.mono) (bM.len) (fun cdv A outer s H E hr=>(ai (kR 2 sc.nd (iX Z.list_ Z.range_ (aa (vn 1) ac)))
  (ai (kR 3 sc.nd (cJ ac))
  (ai (fC [] Js (a_ (jm hr.units) cD (aK _) (vn 2) (cJ ac)) (av (mY 3 2 (by decide) (am (d__law_draw _) (hr.mono (by decide)) (aa (vn 0) (aa (cK Z.len_ (aa (vn 2) ac)) ac))))))
  (av (aA (bZ Z.tuple_ (aa (vn 3) ac)))))))) ?_
 rintro ws Q ⟨n,rfl,⟨n1,n8⟩,hQ⟩
 refine aE ?_
 have sz:=HV
 have gn : -(2^62)<=n/\n<2^62:=by omega
 simp_arith only[ag,ae,aB,aC,ar,aD,au,aj,Hb]
 rw[xK]
 refine mX (fun m ρ=>∃ls fs:List Nat,ls.length=m/\(fs++ls).Perm (HL n.toNat)/\ρ=[some .reel,some (.d (.int n)),some (.ml (ls.map iD)),some (.ml (fs.map iD))]) n.toNat ⟨HL n.toNat,[],Ix,.refl _,rfl⟩ ?_ ?_ ?_
 · rintro m ρ ⟨ls,fs,hl,hp,rfl⟩
   have s1:=xE ls
   have s0:Iv (.list [])=true:=rfl
   have ev:=kD (ls.map iD)
   have ee:(!ls.isEmpty)=decide (0<m):=by
    rw[<- hl]
    cases ls<;>simp
   simp_arith only[ag,ae,Hb,s1,s0,ev,ee]
 · rintro m ρ ⟨ls,fs,hl,hp,rfl⟩ K hK
   have pl:=hp.length_eq
   rw[HD,Ix]at pl
   have g1:0<(ls.length:Int):=by omega
   have g2:(ls.length:Int)<2^60:=by omega
   simp_arith only[ag,ae,aB,aC,ar,aD,au,aj,Hb,aP.eq]
   intro a ha
   have hk:a.toNat<ls.length:=by omega
   refine cB ⟨ha.1,ha.2,by omega⟩ ?_
   rw[Ii,Hu hk]
   refine hK _ ⟨ls.eraseIdx a.toNat,fs++[ls[a.toNat]],by rw[List.length_eraseIdx_of_lt hk];omega,?_,by rw[IJ,tm];rfl⟩
   rw[Kw]
   exact((pL ls _ hk).append_left fs).trans hp
 · rintro ρ ⟨ls,fs,hl,hp,rfl⟩
   cases Kg.mp hl
   rw[JF]at hp
   simp_arith only[ag,ae,Hb]
   have em:(fs.map fun k=>((k:Nat):Int)).map H_=fs.map iD:=by rw[Ij];rfl
   have:=hQ fs hp
   rw[em]at this
   exact aF this
theorem xX{n d k:Int}(h:d≠0):qd (n-d*k) d=qd n d-k:=by
 have hd:(d:Rat)≠0:=by intro z;exact h (by exact_mod_cast z)
 unfold qd
 rw[LL,IU]
 generalize (d:Rat)=D at *
 generalize (n:Rat)=N
 generalize (k:Rat)=K
 grind
theorem mU(q:Rat):(∃n:Int,D1 q=q-n)/\0<=D1 q/\D1 q<1:=by
 have hd:=jy q
 have e1:=Int.mul_fdiv_add_fmod q.num q.den
 refine⟨⟨q.num.fdiv q.den,?_⟩,uM hd (I_ _ hd),oD hd (JQ _ hd)⟩
 have e2:q.num.fmod q.den=q.num-q.den*q.num.fdiv q.den:=by omega
 show qd (q.num.fmod q.den) q.den=_
 rw[e2,xX (by omega),fN]
theorem Dn{n:Int}(h1:(-1:Rat)<n)(h2:(n:Rat)<1):n=0:=by
 have a:(0:Int)<n+1:=by
  have:((0:Int):Rat)<((n+1:Int):Rat):=by rw[K0];have:((0:Int):Rat)=0:=rfl;have:((1:Int):Rat)=1:=rfl;grind
  exact_mod_cast this
 have b:n<1:=by exact_mod_cast h2
 omega
theorem qp{y:Rat}(n:Int)(e:y=q+n)(h0:0<=y)(h1:y<1):D1 q=y:=by
 obtain⟨⟨m,em⟩,a0,a1⟩:=mU q
 have k:((m+n:Int):Rat)=y-D1 q:=by rw[K0,em,e];grind
 have z:=Dn (n:=m+n) (by rw[k];grind) (by rw[k];grind)
 rw[z]at k
 have:((0:Int):Rat)=0:=rfl
 grind
theorem wE{x t:Rat}(h0:0<=x)(h1:x<1):D1 (x+t)=if x+D1 t<1 then x+D1 t else x+D1 t-1:=by
 obtain⟨⟨m,em⟩,a0,a1⟩:=mU t
 split
 · rename_i h
   exact qp (-m) (by rw[em,Rat.intCast_neg];grind) (by grind) h
 · rename_i h
   have:((-m-1:Int):Rat) = -(m:Rat)-1:=by rw[LL,Rat.intCast_neg];rfl
   exact qp (-m-1) (by rw[this,em];grind) (by grind) (by grind)
theorem mV{x:Rat}(h0:0<=x)(h1:x<1):D1 (1-x)=if x=0 then 0 else 1-x:=by
 split
 · rename_i h
   exact qp (-1) (by rw[h];have:(((-1:Int)):Rat) = -1:=rfl;rw[this];grind) (by decide) (by decide)
 · rename_i h
   exact qp 0 (by have:((0:Int):Rat)=0:=rfl;grind) (by grind) (by grind)
theorem vM{os:List Hg}(h:∀o∈os,o∈aM 0 n):∃is:List Int,os=is.map .int/\∀x∈is,0<=x/\x<n:=by
 induction os with
 | nil=>exact⟨[],rfl,fun x m=>nomatch m⟩
 | cons o os ih =>
   obtain⟨is,rfl,hi⟩:=ih fun x mx=>h x (Hn _ mx)
   have z:=h o Ht
   simp only[aM,HQ,Im]at z
   obtain⟨j,hj,rfl⟩:=z
   refine⟨(0+(j:Int))::is,rfl,fun x mx=>?_⟩
   rcases HJ.mp mx with rfl|mx
   · omega
   · exact hi x mx
theorem iM{b:Hg->Mo (Option Hg)}{Q:List Hg->Prop}:∀(xs acc:List Hg),(∀x∈xs,∀k:Option Hg->Prop,k none->k (some x)->b x k)->acc.length+xs.length<=sizeLine->(∀ds:List Hg,(∀d∈ds,d∈xs)->ds.length<=xs.length->Q (acc++ds))->bQ b xs acc Q
 | [],acc,_,_,fin=>by have:=fin [] (by simp) (by simp);rw[JF]at this;exact this
 | x::xs,acc,h,hl,fin=>by
   simp at hl
   refine h x Ht _ ?_ ?_
   · exact iM xs acc (fun y hy=>h y (Hn _ hy)) (by omega) fun ds h1 h2=>fin ds (fun d md=>Hn _ (h1 d md)) (by simp;omega)
   · refine⟨by omega,iM xs (acc++[x]) (fun y hy=>h y (Hn _ hy)) (by simp;omega) fun ds h1 h2=>?_⟩
     have:=fin (x::ds) (fun d md=>by rcases HJ.mp md with rfl|md;exact Ht;exact Hn _ (h1 d md)) (by simp;omega)
     simpa using this
theorem v_{b:Hg->Mo (Option Hg)}{k:List Hg->Mo β}{Q:β->Prop}(h:∀j,j<n->∀k:Option Hg->Prop,k none->k (some (.int (0+(j:Int))))->b (.int (0+(j:Int))) k)(hl:n<=sizeLine)(fin:∀is:List Int,is.length<=n->(∀i∈is,0<=i/\i<n)->k (is.map .int) Q):FR (bQ b (aM 0 n) []) k Q:=by
 show bQ b (aM 0 n) [] _
 refine iM _ [] (fun x mx k k1 k2=>?_) (by rw[bm];simpa using hl) fun ds h1 h2=>?_
 · obtain⟨j,hj,rfl⟩:=HQ.mp mx
   exact h j (Im.mp hj) k k1 k2
 · obtain⟨is,rfl,hi⟩:=vM h1
   rw[bm,Hm]at h2
   exact fin is h2 hi
theorem Aw{x b:Int}(hb:0<b)(h:(x:Rat)=q*(b:Rat)):qd x b=q:=by
 have:=eS hb
 unfold qd
 rw[h]
 grind
theorem pN(q:Rat):((q.den:Int):Rat)≠0:=fun e=>by
 have z:(q.den:Int)=0:=by exact_mod_cast e
 have:=q.den_pos
 omega
theorem jn(q:Rat):(q.num:Rat)=q*((q.den:Int):Rat):=by have:=fN q;have:=pN q;unfold qd at *;grind
theorem yX{D n:Int}{k:Nat}(D0:0<D)(e:q*(D:Rat)=(n:Rat))(h1:0<=q)(h2:q<1)(hD:D.natAbs<2^k):EQ k q:=by
 have eq:qd n D=q:=Aw D0 e.symm
 have Dp:(0:Rat)<=(D:Rat):=by exact_mod_cast Int.le_of_lt D0
 have a1:=IC h1 Dp
 have a2:=IC (HY h2) Dp
 rw[e]at a1 a2
 have b1:0<=n:=by
  have:((0:Int):Rat)<=(n:Rat):=by have z:((0:Int):Rat)=0:=rfl;grind
  exact_mod_cast this
 have b2:n<=D:=by
  have:(n:Rat)<=(D:Rat):=by grind
  exact_mod_cast this
 rw[<- eq]
 exact oB D0 (by omega) hD
theorem zK{x t:Rat}(hx:EQ 45 x)(ht:EQ 10 t):Gd (D1 (x+t)):=by
 obtain⟨⟨n,en⟩,w0,w1⟩:=mU (x+t)
 refine⟨?_,w0,w1⟩
 have d1:(0:Int)<(x.den:Int):=by have:=x.den_pos;omega
 have d2:(0:Int)<(t.den:Int):=by have:=t.den_pos;omega
 refine yX (D:=(x.den:Int)*(t.den:Int)) (n:=x.num*t.den+t.num*x.den-n*(x.den*t.den)) (MT d1 d2) ?_ w0 w1 ?_
 · rw[en,LL,K0,IU,IU,IU,IU,jn x,jn t]
   grind
 · rw[JD,Iz,Iz]
   exact Hz (bf hx.2 ht.2) (HM (by decide) (by decide))
theorem AU{x:Rat}(h:G5 x):Gd (D1 (1-x)):=by
 have e:=mV h.2.1 h.2.2
 obtain⟨_,w0,w1⟩:=mU (1-x)
 refine⟨?_,w0,w1⟩
 have d1:(0:Int)<(x.den:Int):=by have:=x.den_pos;omega
 by_cases c:x=0
 · rw[e,if_pos c];exact⟨by decide +kernel,by decide +kernel⟩
 · refine yX (D:=(x.den:Int)) (n:=x.den-x.num) d1 ?_ w0 w1 (by rw[Iz];exact Hz h.1.2 (HM (by decide) (by decide)))
   rw[e,if_neg c,LL,jn x]
   grind
theorem sj{F:Fin 3}{s:Nat}{bs:List (List Rat)}(h1:1<=ps.length)(h16:ps.length<=16)(s1:1<=s)(s4:s<=4)(hp:Pg s ps)(hb:bs.length<=M)(M8:M<=8)(hm:∀p∈ps,p∈bs)(hk:∀i:Fin 5,i.val<=s->(E9 F.val (M:Nat))^i.val<=3000):FZ F.val ps/\dimP ps=s:=by
 have hd:=za hp h1
 have hN:∀j,(nuQ ps j).length<=M:=fun j=>IH (AL (s:=s) (m:=s) hm j) hb
 have gd:∀j,j<dimP ps->(nuQ ps j).Pairwise (· < ·)/\∀q∈nuQ ps j,Gd q:=fun j hj=>by
  have hs:=i6 (colQ ps j)
  refine⟨hs.1,fun q mq=>?_⟩
  obtain⟨p,mp,rfl⟩:=HQ.mp ((hs.2 q).mp mq)
  obtain⟨pl,pg⟩:=hp p mp
  have hj':j<p.length:=by omega
  have e:p.getD j 0=p[j]:=by rw[Hr,Hu hj'];rfl
  show Gd (p.getD j 0)
  rw[e]
  exact pg _ (Iy _)
 refine⟨⟨⟨⟨h1,by omega,by rw[hd];exact hp,by omega,by omega⟩,fun j hj=>⟨by have:=hN j;omega,(gd j hj).2⟩⟩,h16,fun j hj=>(gd j hj).1,fun i hi=>?_⟩,hd⟩
 have:=(sY (f:=F.val) (ps:=ps) (M:=(M:Nat)) (by omega) (fun j _=>by have:=hN j;omega) i hi).2
 exact Nt this (hk ⟨i,by omega⟩ (by show i<=s;omega))
theorem Aq{bs:List Rat}(hl:bs.length=p.length)(h0:∀x∈p,0<=x/\x<1):EF p bs=E8 (fun k=>EG (D1 (bs.getD k 0))) p:=by
 refine JJ (by unfold EF;rw[cv,Hm,Mz];omega) fun k h1 h2=>?_
 have hk:k<p.length:=by rw[cv]at h2;exact h2
 have e:=gJ (g:=fun k=>EG (D1 (bs.getD k 0))) hk
 rw[Hr,Hu h2]at e
 have e:(E8 (fun k=>EG (D1 (bs.getD k 0))) p)[k]=EG (D1 (bs.getD k 0)) (p.getD k 0):=e
 rw[e,Hr,Hu (by omega),Hr,Hu hk]
 have e2:(EF p bs)[k]=D1 (p[k]+bs[k]'(by omega)):=by simp[EF]
 have:=h0 _ (Iy hk)
 rw[e2,wE this.1 this.2]
 rfl
theorem AQ(is:List Int)(h0:∀x∈p,0<=x/\x<1):E_ is p=E8 (fun k x=>if decide ((k:Int)∈is)then Fa x else x) p:=by
 refine JJ (by unfold E_;rw[cv,Hm,J6]) fun k h1 h2=>?_
 have hk:k<p.length:=by rw[cv]at h2;exact h2
 have e:=gJ (g:=fun k x=>if decide ((k:Int)∈is)then Fa x else x) hk
 rw[Hr,Hu h2]at e
 have e:(E8 (fun k x=>if decide ((k:Int)∈is)then Fa x else x) p)[k]=if decide ((k:Int)∈is)then Fa (p.getD k 0)else p.getD k 0:=e
 rw[e,Hr,Hu hk]
 have e2:(E_ is p)[k]=if(k:Int)∈is then D1 (1-p[k])else p[k]:=by simp[E_]
 have:=h0 _ (Iy hk)
 rw[e2,mV this.1 this.2]
 simp[Fa]
noncomputable def zg(s:Nat)(ps:List (List Rat)):Prop:=1<=s/\s<=2/\fg s 2 ps
theorem og{s:Nat}(h:zg s ps){g:List Rat->List Rat}(hg:∀p∈ps,(g p).length=s/\∀q∈g p,Gd q):FZ (2:Fin 3).val (ps.map g)/\dimP (ps.map g)=s:=by
 obtain⟨s1,s2,h1,h2,hp,bs,hb,hm⟩:=h
 refine sj (M:=2) (bs:=bs.map g) (by rw[Hm];exact h1) (by rw[Hm];omega) s1 (by omega) (fun q mq=>?_) (by rw[Hm];exact hb) (by decide) (fun q mq=>?_) (fun i hi=>?_)
 · obtain⟨p,mp,rfl⟩:=HQ.mp mq
   exact hg p mp
 · obtain⟨p,mp,rfl⟩:=HQ.mp mq
   exact Jj (hm p mp)
 · have t:∀i:Fin 5,i.val<=2->(E9 (2:Fin 3).val ((2:Nat):Int))^i.val<=3000:=by decide
   exact t i (by omega)
noncomputable def G8(d:Hg):Prop:=∃q:Rat,EQ 10 q/\d=fr q
theorem Bl{ds:List Hg}(h:∀d∈ds,G8 d):∃bs:List Rat,ds=bs.map fr/\∀q∈bs,EQ 10 q:=by
 induction ds with
 | nil=>exact⟨[],rfl,fun _ h=>absurd h (by simp)⟩
 | cons d ds ih =>
   obtain⟨bs,rfl,hb⟩:=ih fun x mx'=>h x (Hn _ mx')
   obtain⟨q,hq,rfl⟩:=h d Ht
   exact⟨q::bs,rfl,fun x mx'=>by rcases HJ.mp mx' with rfl|m;exact hq;exact hb x m⟩
theorem As{s:Nat}(h:zg s ps){bs:List Rat}(hl:bs.length=s)(hb:∀q∈bs,EQ 10 q):FZ (2:Fin 3).val (ps.map fun p=>EF p bs)/\(DZ (2:Fin 3).val (ps.map fun p=>EF p bs)).1=(DZ (2:Fin 3).val ps).1:=by
 have hp:=h.2.2.2.2.1
 have a:=og h (g:=fun p=>EF p bs) fun p mp=>by
  obtain⟨pl,pg⟩:=hp p mp
  refine⟨by unfold EF;rw[Hm,Mz];omega,fun q mq=>?_⟩
  obtain⟨z,mz,rfl⟩:=HQ.mp mq
  have m:=KS mz
  exact zK (pg _ m.1).1 (hb _ m.2)
 have b:=og h (g:=fun p=>p) fun p mp=>⟨(hp p mp).1,fun q mq=>((hp p mp).2 q mq).up⟩
 rw[Nv]at b
 refine⟨a.1,?_⟩
 have e:ps.map (fun p=>EF p bs)=ps.map (E8 fun k=>EG (D1 (bs.getD k 0))):=IR fun p mp=>Aq (by rw[hl,(hp p mp).1]) fun x mx'=>((hp p mp).2 x mx').2
 obtain⟨s1,l1⟩:=ck b.1
 obtain⟨s2,l2⟩:=ck a.1
 have l1:=l1 rfl
 have l2:=l2 rfl
 rw[a.2]at s2 l2
 have u:=hV b.1
 rw[b.2]at s1 l1 u
 rw[e]at s2 l2
 rw[e]
 exact nL (fun k=>(mU _).2) h.2.2.1 u s1 l1 s2 l2
theorem At{s:Nat}(h:zg s ps)(is:List Int):FZ (2:Fin 3).val (ps.map (E_ is))/\(DZ (2:Fin 3).val (ps.map (E_ is))).1=(DZ (2:Fin 3).val ps).1:=by
 have hp:=h.2.2.2.2.1
 have a:=og h (g:=E_ is) fun p mp=>by
  obtain⟨pl,pg⟩:=hp p mp
  refine⟨by unfold E_;rw[Hm,J6];exact pl,fun q mq=>?_⟩
  obtain⟨z,mz,rfl⟩:=HQ.mp mq
  have m:=LN mz
  split
  · exact AU (pg _ m)
  · exact(pg _ m).up
 have b:=og h (g:=fun p=>p) fun p mp=>⟨(hp p mp).1,fun q mq=>((hp p mp).2 q mq).up⟩
 rw[Nv]at b
 refine⟨a.1,?_⟩
 have e:ps.map (E_ is)=ps.map (E8 fun k x=>if decide ((k:Int)∈is)then Fa x else x):=IR fun p mp=>AQ is fun x mx'=>((hp p mp).2 x mx').2
 obtain⟨s1,l1⟩:=ck b.1
 obtain⟨s2,l2⟩:=ck a.1
 have l1:=l1 rfl
 have l2:=l2 rfl
 rw[a.2]at s2 l2
 have u:=hV b.1
 rw[b.2]at s1 l1 u
 rw[e]at s2 l2
 rw[e]
 exact lW (fun k=>decide ((k:Int)∈is)) h.2.2.1 u s1 l1 s2 l2
noncomputable def aI:List W->(Hg->Prop)->Prop:=fun ws Q=>∃(ps:List (List Rat)),ws=[.reel,.d (ptsQ ps)]/\((∃s,zg s ps))/\∀z:Unit,(True)->Q (.bool true)
theorem aI.mono:∀ws (Q Q':Hg->Prop),(∀d,Q d->Q' d)->aI ws Q->aI ws Q':=fun _ _ _ h_=>HB fun _=>Ho (Ho fun q_ o_ ho_=>h_ _ (q_ o_ ho_))
theorem aI.len:∀ws (Q:Hg->Prop),aI ws Q->ws.length=2:=fun _ _ h_=>by obtain⟨_,e_,_⟩:=h_;subst e_;rfl
theorem aI.eq(ps:List (List Rat))(hz:∃s,zg s ps):aI [.reel,.d (ptsQ ps)]=FR (anyM fun z:Unit=>True) fun z=>VL.ret (.bool true:Hg):=by
 refine ak fun Q=>⟨?_,fun q_=>⟨ps,rfl,hz,q_⟩⟩
 rintro⟨ps',e_,_,q_⟩
 simp_arith only[cC,bu,bC,aL,aQ,bE]at e_
 obtain rfl:=e_
 exact q_
theorem dN:FnScope ["_law_feed_here", "_law_pts", "_law_s", "_law_number_here", "_law_by", "_law_some"] ["_law_feed_here", "_law_pts"] (defScope (Ef 55)):=⟨rfl,rfl,rfl,by decide +kernel,rfl,by decide +kernel,by decide +kernel⟩
theorem d__law_round_right(Fn:FnIn K mg "_law_round_right" (Ef 55) ["_law_feed_here", "_law_pts"])(Z:Bz mg)(d_unevenness:∀rl,Dfn P w K mg base rl "unevenness" ["points", "family"] 9 bi)(d__law_frac:∀rl,Dfn P w K mg base rl "_law_frac" ["_law_top", "_law_bottom"] 1 bN)(d_shifted:∀rl,Dfn P w K mg base rl "shifted" ["points", "by"] 4 cr)(d_mirrored:∀rl,Dfn P w K mg base rl "mirrored" ["points", "sides"] 5 b9)(d__law_draw:∀rl,Dfn P w K mg base rl "_law_draw" ["_law_feed_here", "_law_many"] 1 aP)   : Dfn P w K mg base rl "_law_round_right" ["_law_feed_here", "_law_pts"] 10 aI:=by
 have sc:=dN
 refine Dfn.of Fn sc (aI.mono) (aI.len) (fun cdv A outer s H E hr=>(ai (ay 2 sc.nd (cK Z.len_ (aa (bR (vn 1) af) ac)))
  (ai (ay 3 sc.nd (am (d_unevenness _) (hr.mono (by decide)) (aa (vn 1) (aa bG ac))))
  (ai (ay 4 sc.nd (bZ Z.tuple_ (aa (aY ["_law_k", "_law_feed_here"] [none,some 0] rfl (bT Z.range_ (aa (vn 2) ac)) (fun _=>(ax 0 (show Ir (["_law_k", "_law_feed_here"]:List Str) by decide +kernel))) (fun _=>bF) (fun _=>(am (d__law_frac _) (hr.mono (by decide)) (aa (v_sub (am (d__law_draw _) (hr.mono (by decide)) (aa (vn 1) (aa af ac))) af) (aa (bR (cJ (aa af (aa af (aa af (aa af ac))))) (am (d__law_draw _) (hr.mono (by decide)) (aa (vn 1) (aa af ac)))) ac))))) ac)))
  (ai (ay 5 sc.nd (bZ Z.tuple_ (aa (aY ["_law_k", "_law_feed_here"] [none,some 0] rfl (bT Z.range_ (aa (vn 2) ac)) (fun _=>(ax 0 (show Ir (["_law_k", "_law_feed_here"]:List Str) by decide +kernel))) (fun _=>gu (a_ (eV hr.units) cD (aK _) (am (d__law_draw _) (hr.mono (by decide)) (aa (vn 1) (aa af ac))) af)) (fun _=>(vn 0))) ac)))
  (av (aA (v_and (fG (eV hr.units) cD (aK _) (am (d_unevenness _) (hr.mono (by decide)) (aa (am (d_shifted _) (hr.mono (by decide)) (aa (vn 1) (aa (vn 4) ac))) (aa bG ac))) (vn 3)) (qr (fG (eV hr.units) cD (aK _) (am (d_unevenness _) (hr.mono (by decide)) (aa (am (d_mirrored _) (hr.mono (by decide)) (aa (vn 1) (aa (vn 5) ac))) (aa bG ac))) (vn 3))))))))))) ?_
 rintro ws Q ⟨ps,rfl,hz,hQ⟩
 obtain⟨s,hr⟩:=hz
 refine aE ?_
 have sz:=HV
 have hp:=hr.2.2.2.2.1
 have b:=og hr (g:=fun p=>p) fun p mp=>⟨(hp p mp).1,fun q mq=>((hp p mp).2 q mq).up⟩
 rw[Nv]at b
 obtain⟨hw,hd⟩:=b
 have s2:=hr.2.1
 have h1:=hr.2.2.1
 have l4:ps.length<=4:=hr.2.2.2.1
 have f2:Hj "round" = cG 2:=rfl
 obtain⟨p0,pr,ep⟩:=Lm (show 0<ps.length by omega)
 have et0:itemAt (ptsQ ps) 0=some (ET p0):=by rw[ep];show atI ((p0::pr).map ET) ((0:Nat):Int)=_;exact dw rfl
 have ed:qh (ET p0)=some s:=by rw[<- hd,ep];show some (p0.map fr).length=_;rw[Hm];rfl
 have gn : -(2^62)<=((s:Nat):Int)/\((s:Nat):Int)<2^62:=by omega
 have pu:=bi.eq ps 2 hw
 simp_arith only[ag,ae,aB,aC,ar,aD,au,aj,Hb,et0,ed,f2,pu]
 refine Ex (r_ G8 ?_ (by omega) ?_)
 · intro j hj K hK
   simp_arith only[ag,ae,FA,aB,aC,ar,aD,au,aj,Hb,aP.eq]
   intro c hc
   simp_arith only[ag,ae,aB,aC,ar,aD,au,aj,Hb,aP.eq]
   intro m hm
   refine cj (xs:=[1,7,12,1000]) (enc:=H_) (fun y:Int=>1<=y/\y<=1000) rfl hm.1 (by simpa using hm.2) (by decide) fun y hy=>?_
   have hb:0<y:=by omega
   have hz:y.natAbs<2^8000:=Hz (show y.natAbs<2^10 by omega) (HM (by decide) (by decide))
   simp_arith only[ag,ae,Hb,bN.eq]
   exact hK _ ⟨_,oB hb (by omega) (by omega),rfl⟩
 intro ds dl hds
 obtain⟨bs,rfl,hbs⟩:=Bl hds
 rw[Hm]at dl
 simp_arith only[ag,ae,aB,aC,ar,aD,au,aj,Hb]
 refine Ex (v_ ?_ (by omega) ?_)
 · intro j hj K k1 k2
   simp_arith only[ag,ae,FA,aB,aC,ar,aD,au,aj,Hb,aP.eq]
   intro a ha
   exact cU (fun _=>k2) fun _=>k1
 intro is il hi
 obtain⟨w1,e1⟩:=As hr dl hbs
 obtain⟨w2,e2⟩:=At hr is
 have hq:∀p∈ps,p.length<=4/\∀q∈p,EQ 60 q:=fun p mp=>⟨by rw[(hp p mp).1];omega,fun q mq=>((hp p mp).2 q mq).1.mono (by decide)⟩
 have psh:=cr.eq ps bs (by omega) hq fun q mq=>(hbs q mq).mono (by decide)
 have pmr:=b9.eq ps is (by omega) hq
 have pu1:=bi.eq _ 2 w1
 have pu2:=bi.eq _ 2 w2
 rw[e1]at pu1
 rw[e2]at pu2
 have es:Iq (fr (DZ (2:Fin 3).val ps).1) (fr (DZ (2:Fin 3).val ps).1)=true:=by rw[tp];simp
 have sh:=i8 (DZ (2:Fin 3).val ps).1
 have eb:Jl (bs.map fr)=ET bs:=rfl
 simp_arith only[ag,ae,aB,aC,ar,aD,au,aj,Hb,eb,psh,pmr,pu1,pu2,es,sh]
 exact aF (hQ () trivial)
structure FrOk (F:Fin 3) (s M N:Nat) (ps qs:List (List Rat)):Prop where
 s1:1<=s
 s3:s<=3
 hp:fg s M ps
 hq:fg s N qs
 M4:M<=4
 N2:N<=2
 pw:∀i:Fin 5,i.val<=s->(E9 F.val ((M+N:Nat):Int))^i.val<=3000
theorem vU{F:Fin 3}{s N:Nat}(h:FrOk F s M N ps qs){t:Nat}(t1:1<=t)(ts:t<=s){g:List Rat->List Rat}{rs:List (List Rat)}(r1:1<=rs.length)(r16:rs.length<=16)(hg:∀p,p.length=s->(∀q∈p,Gd q)->(g p).length=t/\∀q∈g p,Gd q)(hm:∀r∈rs,∃p,(p∈ps\/p∈qs)/\r=g p):FZ F.val rs/\dimP rs=t:=by
 obtain⟨_,_,hpp,bs,hb,hbm⟩:=h.hp
 obtain⟨_,_,hqq,cs,hc,hcm⟩:=h.hq
 have s3:=h.s3
 refine sj (M:=M+N) (bs:=(bs++cs).map g) r1 r16 t1 (by omega) (fun r mr=>?_) (by rw[Hm,HD];omega) (by have:=h.M4;have:=h.N2;omega) (fun r mr=>?_) (fun i hi=>h.pw i (by omega))
 · obtain⟨p,mp,rfl⟩:=hm r mr
   rcases mp with mp|mp
   · exact hg p (hpp p mp).1 fun q mq=>((hpp p mp).2 q mq).up
   · exact hg p (hqq p mp).1 fun q mq=>((hqq p mp).2 q mq).up
 · obtain⟨p,mp,rfl⟩:=hm r mr
   rcases mp with mp|mp
   · exact Jj (Io _ (hbm p mp))
   · exact Jj (HC _ (hcm p mp))
theorem gr{F:Fin 3}{s N:Nat}(h:FrOk F s M N ps qs){rs:List (List Rat)}(r1:1<=rs.length)(r16:rs.length<=16)(hm:∀r∈rs,r∈ps\/r∈qs):FZ F.val rs/\dimP rs=s:=vU h h.s1 (HA _) (g:=fun p=>p) r1 r16 (fun p pl pg=>⟨pl,pg⟩) fun r mr=>⟨r,hm r mr,rfl⟩
theorem CI(os:List Nat):EV (os.map fun k=>((k:Nat):Int))=pkN os:=by
 funext p
 unfold EV pkN
 rw[Ij]
 rfl
theorem sS{os:List Nat}(lt:∀k∈os,k<n)(p:List Rat)(pl:p.length=n)(pg:∀q∈p,Gd q):(pkN os p).length=os.length/\∀q∈pkN os p,Gd q:=by
 refine⟨by unfold pkN;rw[Hm],fun q mq=>?_⟩
 obtain⟨k,mk,rfl⟩:=HQ.mp mq
 have hk:=lt k mk
 rw[Hr,Hu (by omega)]
 exact pg _ (Iy _)
theorem Bd{F:Fin 3}{s N:Nat}(h:FrOk F s M N ps qs){os:List Nat}(pm:os.Perm (HL s)):FZ F.val (ps.map (pkN os))/\(DZ F.val (ps.map (pkN os))).1=(DZ F.val ps).1:=by
 have lt:∀k∈os,k<s:=fun k mk=>Im.mp (pm.mem_iff.mp mk)
 have ol:os.length=s:=by rw[pm.length_eq,Ix]
 have l1:=h.hp.1
 have l2:=h.hp.2.1
 have M4:=h.M4
 have a:=vU h h.s1 (HA _) (g:=pkN os) (rs:=ps.map (pkN os)) (by rw[Hm];exact l1) (by rw[Hm];omega) (fun p pl pg=>by have:=sS lt p pl pg;rw[ol]at this;exact this) fun r mr=>by
  obtain⟨p,mp,rfl⟩:=HQ.mp mr
  exact⟨p,.inl mp,rfl⟩
 have b:=gr h l1 (by omega) (fun r mr=>.inl mr)
 refine⟨a.1,?_⟩
 have s1:=(ck b.1).1
 have s2:=(ck a.1).1
 have u:=hV b.1
 rw[b.2]at s1 u
 rw[a.2]at s2
 exact qB pm u s1 s2
theorem Dw{F:Fin 3}{s N:Nat}(h:FrOk F s M N ps qs):FZ F.val (ps++ps)/\(DZ F.val (ps++ps)).1=(DZ F.val ps).1:=by
 have l1:=h.hp.1
 have l2:=h.hp.2.1
 have M4:=h.M4
 have a:=gr h (rs:=ps++ps) (by rw[HD];omega) (by rw[HD];omega) fun r mr=>by
  rcases HW.mp mr with m|m<;>exact .inl m
 have b:=gr h l1 (by omega) (fun r mr=>.inl mr)
 refine⟨a.1,?_⟩
 have s1:=(ck b.1).1
 have s2:=(ck a.1).1
 rw[b.2]at s1
 rw[a.2]at s2
 exact nK l1 s1 s2
theorem Bb{F:Fin 3}{s N:Nat}{rs:List (List Rat)}(h:FrOk F s M N ps qs)(pm:rs.Perm ps):FZ F.val rs/\(DZ F.val rs).1=(DZ F.val ps).1:=by
 have l1:=h.hp.1
 have l2:=h.hp.2.1
 have M4:=h.M4
 have a:=gr h (rs:=rs) (by rw[pm.length_eq];exact l1) (by rw[pm.length_eq];omega) fun r mr=>.inl (pm.mem_iff.mp mr)
 have b:=gr h l1 (by omega) (fun r mr=>.inl mr)
 refine⟨a.1,?_⟩
 have s1:=(ck b.1).1
 have s2:=(ck a.1).1
 rw[b.2]at s1
 rw[a.2]at s2
 exact qA s2 s1 pm
theorem Ba{F:Fin 3}{s N:Nat}(h:FrOk F s M N ps qs){os:List Nat}(o1:1<=os.length)(nd:os.Nodup)(lt:∀k∈os,k<s)(ol:os.length<=s):FZ F.val (ps.map (pkN os))/\(DZ F.val (ps.map (pkN os))).1<=(DZ F.val ps).1:=by
 have l1:=h.hp.1
 have l2:=h.hp.2.1
 have M4:=h.M4
 have a:=vU h o1 ol (g:=pkN os) (rs:=ps.map (pkN os)) (by rw[Hm];exact l1) (by rw[Hm];omega) (fun p pl pg=>sS lt p pl pg) fun r mr=>by
  obtain⟨p,mp,rfl⟩:=HQ.mp mr
  exact⟨p,.inl mp,rfl⟩
 have b:=gr h l1 (by omega) (fun r mr=>.inl mr)
 refine⟨a.1,?_⟩
 have s1:=(ck b.1).1
 have s2:=(ck a.1).1
 have u:=hV b.1
 rw[b.2]at s1 u
 rw[a.2]at s2
 exact hX nd lt u s1 s2
theorem Be{F:Fin 3}{s N:Nat}(h:FrOk F s M N ps qs):FZ F.val ps/\FZ F.val qs/\FZ F.val (ps++qs)/\(DZ F.val (ps++qs)).1*((((ps.length:Nat):Int):Rat)+(((qs.length:Nat):Int):Rat))<=(DZ F.val ps).1*(((ps.length:Nat):Int):Rat)+(DZ F.val qs).1*(((qs.length:Nat):Int):Rat):=by
 have l1:=h.hp.1
 have l2:=h.hp.2.1
 have k1:=h.hq.1
 have k2:=h.hq.2.1
 have M4:=h.M4
 have N2:=h.N2
 have a:=gr h l1 (by omega) (fun r mr=>.inl mr)
 have b:=gr h k1 (by omega) (fun r mr=>.inr mr)
 have c:=gr h (rs:=ps++qs) (by rw[HD];omega) (by rw[HD];omega) fun r mr=>HW.mp mr
 refine⟨a.1,b.1,c.1,?_⟩
 have s1:=(ck a.1).1
 have s2:=(ck b.1).1
 have s3:=(ck c.1).1
 rw[a.2]at s1
 rw[b.2]at s2
 rw[c.2]at s3
 exact lX l1 k1 s1 s2 s3
theorem qH(xs:List α)(d:α):(HL xs.length).map (fun k=>xs.getD k d)=xs:=by
 refine JJ (by simp) fun k h1 h2=>?_
 simp[Hr,Hu h2]
theorem Dz:([JH true,JH true,JH true].any fun z=>z.eqv (.bool false))=false:=by simp[Iq]
theorem Di:IW [JH true,JH true,JH true]=true:=rfl
noncomputable def noO(s o:Nat):List Nat:=(HL s).filter fun k=>!decide (k=o)
theorem yt{s o:Nat}(s2:2<=s)(ho:o<s):1<=(noO s o).length/\(noO s o).Nodup/\(∀k∈noO s o,k<s)/\(noO s o).length<=s:=by
 refine⟨?_,Ls.filter _,fun k mk=>Im.mp (JX.mp mk).1,IH (Lk ..) (by rw[Ix];exact HA _)⟩
 have:(if o=0 then 1 else 0)∈noO s o:=by
  unfold noO
  rw[JX,Im]
  split<;>simp<;>omega
 exact Ml this
theorem yu(s o:Nat):((HL s).filterMap fun k=>if k≠o then some (iD k)else none)=((noO s o).map fun k=>((k:Nat):Int)).map H_:=by
 unfold noO
 rw[rS,Ij]
 congr 1
 exact Lb fun k _=>by by_cases c:k=o<;>simp[c]
theorem Bj{a b c d:Int}(hb:0<b)(hd:0<d)(h:qd a b<=qd c d):decide (FQ (a*d) (c*b)<=0)=true:=by
 have:¬c*b<a*d:=fun z=>JB.mpr h ((fO hd hb).mp z)
 unfold FQ
 rw[if_neg (by simpa using this)]
 simp
 split<;>omega
theorem Bk{a b c d:Int}(hb:0<b)(hd:0<d)(h:qd c d<=qd a b):decide (FQ (a*d) (c*b)<0)=false:=by
 have:¬a*d<c*b:=fun z=>JB.mpr h ((fO hb hd).mp z)
 unfold FQ
 rw[if_neg (show ¬decide (a*d<c*b)=true by simpa using this)]
 simp
 split<;>omega
theorem y_{V W:Rat}(n1:1<=n)(m1:1<=m)(bd:W*((((n:Nat):Int):Rat)+(((m:Nat):Int):Rat))<=U*(((n:Nat):Int):Rat)+V*(((m:Nat):Int):Rat)):0<(U.den:Int)*(V.den:Int)*((n:Int)+(m:Int))/\W<=qd ((n:Int)*U.num*(V.den:Int)+(m:Int)*V.num*(U.den:Int)) ((U.den:Int)*(V.den:Int)*((n:Int)+(m:Int))):=by
 have d1:(0:Int)<(U.den:Int):=by have:=U.den_pos;omega
 have d2:(0:Int)<(V.den:Int):=by have:=V.den_pos;omega
 have D0:0<(U.den:Int)*(V.den:Int)*((n:Int)+(m:Int)):=MT (MT d1 d2) (by omega)
 refine⟨D0,?_⟩
 have nm:(0:Rat)<(((n:Nat):Int):Rat)+(((m:Nat):Int):Rat):=by
  have a:=ip n1
  have b:=ip m1
  grind
 have e:qd ((n:Int)*U.num*(V.den:Int)+(m:Int)*V.num*(U.den:Int)) ((U.den:Int)*(V.den:Int)*((n:Int)+(m:Int)))*((((n:Nat):Int):Rat)+(((m:Nat):Int):Rat))=U*(((n:Nat):Int):Rat)+V*(((m:Nat):Int):Rat):=by
  have:=eS D0
  have u:=jn U
  have v:=jn V
  have du:=pN U
  have dv:=pN V
  unfold qd
  rw[IU,IU,K0,K0,IU,IU,IU,IU,u,v]
  generalize ((U.den:Int):Rat)=x at *
  generalize ((V.den:Int):Rat)=y at *
  generalize (((n:Nat):Int):Rat)=a at *
  generalize (((m:Nat):Int):Rat)=b at *
  have h0:a+b≠0:=by grind
  rw[MU]
  have:x*y*(a+b)≠0:=by
   intro z
   rcases Rat.mul_eq_zero.mp z with z|z
   · rcases Rat.mul_eq_zero.mp z with z|z
     · exact du z
     · exact dv z
   · exact h0 z
  grind
 refine JB.mp fun z=>?_
 have:=Rat.mul_lt_mul_of_pos_right z nm
 rw[e]at this
 exact absurd bd (JC.mpr this)
noncomputable def aG:List W->(Hg->Prop)->Prop:=fun ws Q=>∃(ps:List (List Rat))(qs:List (List Rat))(F:Fin 3),ws=[.reel,.d (ptsQ ps),.d (ptsQ qs),.d (.str (cG F))]/\((∃s M N,FrOk F s M N ps qs))/\∀z:Unit,(True)->Q (.bool true)
theorem aG.mono:∀ws (Q Q':Hg->Prop),(∀d,Q d->Q' d)->aG ws Q->aG ws Q':=fun _ _ _ h_=>HB fun _=>HB fun _=>HB fun _=>Ho (Ho fun q_ o_ ho_=>h_ _ (q_ o_ ho_))
theorem aG.len:∀ws (Q:Hg->Prop),aG ws Q->ws.length=4:=fun _ _ h_=>by obtain⟨_,_,_,e_,_⟩:=h_;subst e_;rfl
theorem aG.eq(ps:List (List Rat))(qs:List (List Rat))(F:Fin 3)(hz:∃s M N,FrOk F s M N ps qs):aG [.reel,.d (ptsQ ps),.d (ptsQ qs),.d (.str (cG F))]=FR (anyM fun z:Unit=>True) fun z=>VL.ret (.bool true:Hg):=by
 refine ak fun Q=>⟨?_,fun q_=>⟨ps,qs,F,rfl,hz,q_⟩⟩
 rintro⟨ps',qs',F',e_,_,q_⟩
 simp_arith only[cC,bu,bC,aL,aQ,bE,ff]at e_
 obtain⟨rfl,rfl,rfl⟩:=e_
 exact q_
theorem dE:FnScope ["_law_feed_here", "_law_pts", "_law_others", "_law_family", "_law_s", "_law_number_here", "_law_order_here", "_law_some", "_law_out", "_law_second", "_law_both", "_law_n", "_law_m", "_law_due"] ["_law_feed_here", "_law_pts", "_law_others", "_law_family"] (defScope (Ef 56)):=⟨rfl,rfl,rfl,by decide +kernel,rfl,by decide +kernel,by decide +kernel⟩
theorem d__law_family_right(Fn:FnIn K mg "_law_family_right" (Ef 56) ["_law_feed_here", "_law_pts", "_law_others", "_law_family"])(Z:Bz mg)(d_unevenness:∀rl,Dfn P w K mg base rl "unevenness" ["points", "family"] 9 bi)(d__law_order:∀rl,Dfn P w K mg base rl "_law_order" ["_law_feed_here", "_law_many"] 2 bM)(d_exchanged:∀rl,Dfn P w K mg base rl "exchanged" ["points", "order"] 2 bL)(d_beside:∀rl,Dfn P w K mg base rl "beside" ["one", "other"] 1 cP)(d__law_draw:∀rl,Dfn P w K mg base rl "_law_draw" ["_law_feed_here", "_law_many"] 1 aP)(d__law_cmp:∀rl,Dfn P w K mg base rl "_law_cmp" ["_law_one", "_law_other"] 1 bx)(d_shadow:∀rl,Dfn P w K mg base rl "shadow" ["points", "sides"] 2 cy)   : Dfn P w K mg base rl "_law_family_right" ["_law_feed_here", "_law_pts", "_law_others", "_law_family"] 10 aG:=by
 have sc:=dE
 refine Dfn.of Fn sc (aG.mono) (aG.len) (fun cdv A outer s H E hr=>(ai (ay 4 sc.nd (cK Z.len_ (aa (bR (vn 1) af) ac)))
  (ai (ay 5 sc.nd (am (d_unevenness _) (hr.mono (by decide)) (aa (vn 1) (aa (vn 3) ac))))
  (ai (ay 6 sc.nd (am (d__law_order _) (hr.mono (by decide)) (aa (vn 0) (aa (cK Z.len_ (aa (vn 1) ac)) ac))))
  (ai (ay 7 sc.nd (cJ (aa (am (d_exchanged _) (hr.mono (by decide)) (aa (vn 1) (aa (am (d__law_order _) (hr.mono (by decide)) (aa (vn 0) (aa (vn 4) ac))) ac))) (aa (am (d_beside _) (hr.mono (by decide)) (aa (vn 1) (aa (vn 1) ac))) (aa (bZ Z.tuple_ (aa (aY ["_law_k", "_law_pts"] [none,some 1] rfl (fE (vn 6)) (fun _=>(ax 0 (show Ir (["_law_k", "_law_pts"]:List Str) by decide +kernel))) (fun _=>bF) (fun _=>(bR (vn 1) (vn 0)))) ac)) ac)))))
  (ai (cg (a_ (sU hr.u65) sv (by with_unfolding_all rfl) mF (aY ["_law_one", "_law_family", "_law_number_here"] [none,some 3,some 5] rfl (bP (vn 7)) (fun _=>(ax 0 (show Ir (["_law_one", "_law_family", "_law_number_here"]:List Str) by decide +kernel))) (fun _=>bF) (fun _=>(fG (eV hr.units) cD (aK _) (am (d_unevenness _) (hr.mono (by decide)) (aa (vn 0) (aa (vn 1) ac))) (vn 2))))) (av (aA mF)) br)
  (ai (cg (a_ mI lT (aK _) (vn 4) af) (ai (ay 8 sc.nd (am (d__law_draw _) (hr.mono (by decide)) (aa (vn 0) (aa (vn 4) ac))))
  (av (cg (a_ mH lS (aK _) (am (d__law_cmp _) (hr.mono (by decide)) (aa (vn 5) (aa (am (d_unevenness _) (hr.mono (by decide)) (aa (am (d_shadow _) (hr.mono (by decide)) (aa (vn 1) (aa (bZ Z.tuple_ (aa (aY ["_law_k", "_law_out"] [none,some 8] rfl (bT Z.range_ (aa (vn 4) ac)) (fun _=>(ax 0 (show Ir (["_law_k", "_law_out"]:List Str) by decide +kernel))) (fun _=>gu (a_ (jm hr.units) cD (aK _) (vn 0) (vn 1))) (fun _=>(vn 0))) ac)) ac))) (aa (vn 3) ac))) ac))) af) (av (aA mF)) br))) br)
  (ai (ay 9 sc.nd (am (d_unevenness _) (hr.mono (by decide)) (aa (vn 2) (aa (vn 3) ac))))
  (ai (ay 10 sc.nd (am (d_unevenness _) (hr.mono (by decide)) (aa (am (d_beside _) (hr.mono (by decide)) (aa (vn 1) (aa (vn 2) ac))) (aa (vn 3) ac))))
  (ai (kS 11 12 rfl sc.nd (aa (cK Z.len_ (aa (vn 1) ac)) (aa (cK Z.len_ (aa (vn 2) ac)) ac)))
  (ai (ay 13 sc.nd (cE (aa (v_add (v_mul (v_mul (vn 11) (bR (vn 5) af)) (bR (vn 9) af)) (v_mul (v_mul (vn 12) (bR (vn 9) af)) (bR (vn 5) af))) (aa (v_mul (v_mul (bR (vn 5) af) (bR (vn 9) af)) (v_add (vn 11) (vn 12))) ac))))
  (av (aA (fG AJ zO (aK _) (am (d__law_cmp _) (hr.mono (by decide)) (aa (vn 10) (aa (vn 13) ac))) af)))))))))))))) ?_
 rintro ws Q ⟨ps,qs,F,rfl,hz,hQ⟩
 obtain⟨s,M,N,h⟩:=hz
 refine aE ?_
 have sz:=HV
 obtain⟨w1,w2,w3,bd⟩:=Be h
 have l1:=h.hp.1
 have l2:=h.hp.2.1
 have k1:=h.hq.1
 have k2:=h.hq.2.1
 have M4:=h.M4
 have N2:=h.N2
 have s1:=h.s1
 have s3:=h.s3
 have hd:dimP ps=s:=(gr h l1 (by omega) (fun r mr=>.inl mr)).2
 obtain⟨p0,pr,ep⟩:=Lm (show 0<ps.length by omega)
 have et0:itemAt (ptsQ ps) 0=some (ET p0):=by rw[ep];show atI ((p0::pr).map ET) ((0:Nat):Int)=_;exact dw rfl
 have ed:qh (ET p0)=some s:=by rw[<- hd,ep];show some (p0.map fr).length=_;rw[Hm];rfl
 have gn : -(2^62)<=((s:Nat):Int)/\((s:Nat):Int)<2^62:=by omega
 have pu:=bi.eq ps F w1
 have n1:1<=(ps.length:Int):=by omega
 have n8:(ps.length:Int)<=16:=by omega
 have m1:1<=((s:Nat):Int):=by omega
 have m8:((s:Nat):Int)<=16:=by omega
 simp_arith only[ag,ae,aB,aC,ar,aD,au,aj,Hb,et0,ed,pu,bM.eq]
 (with_reducible (first|refine ah fun os ho=>?_|refine al fun os ho=>?_))
 try simp_arith only[ag,ae,aB,aC,ar,aD,au,aj,Hb,bM.eq]
 (with_reducible (first|refine ah fun ot ht=>?_|refine al fun ot ht=>?_))
 have ht:ot.Perm (HL s):=by simpa using ht
 have ho:os.Perm (HL ps.length):=by simpa using ho
 have hpp:=h.hp.2.2.1
 have pe:bL [.d (ptsQ ps),.d (.tuple ((ot.map fun k=>((k:Nat):Int)).map .int))]=VL.ret (ptsQ (ps.map (pkN ot))):=by
  have:=bL.eq ps (ot.map fun k=>((k:Nat):Int)) (by omega) (by rw[Hm,ht.length_eq,Ix];omega) fun p mp i mi=>by
   obtain⟨k,mk,rfl⟩:=HQ.mp mi
   have:=Im.mp (ht.mem_iff.mp mk)
   rw[(hpp p mp).1]
   omega
  rw[CI]at this
  exact this
 have pb:=cP.eq ps ps (by omega)
 have rp:(os.map fun k=>ps.getD k []).Perm ps:=by
  have:=ho.map fun k=>ps.getD k []
  rw[qH]at this
  exact this
 obtain⟨x1,y1⟩:=Bd h ht
 obtain⟨x2,y2⟩:=Dw h
 obtain⟨x3,y3⟩:=Bb h rp
 have us:=kP w1
 simp_arith only[ag,ae,aB,aC,ar,aD,au,aj,Hb,pe,pb]
 refine Ex (b_ (xs:=os) (enc:=fun k=>H_ ((k:Nat):Int)) (fun k=>ET (ps.getD k [])) (by rw[Ij];rfl) ?_ (by rw[ho.length_eq,Ix];omega) ?_)
 · intro k mk
   have hk:=Im.mp (ho.mem_iff.mp mk)
   have e:=iQ (xs:=ps) [] (show(0:Int)<=((k:Nat):Int) by omega) (by omega)
   rw[JW]at e
   have e2:itemAt (ptsQ ps) ((k:Nat):Int)=some (ET (ps.getD k [])):=by show atI (ps.map ET) _=_;rw[cw,e];rfl
   simp_arith only[ag,ae,FA,Hb,e2]
 have em:Jl (os.map fun k=>ET (ps.getD k []))=ptsQ (os.map fun k=>ps.getD k []):=by unfold ptsQ;rw[Ij];rfl
 rw[em]
 generalize os.map (fun k=>ps.getD k [])=rs at x3 y3 ⊢
 have sh:=i8 (DZ F.val ps).1
 have es:Iq (fr (DZ F.val ps).1) (fr (DZ F.val ps).1)=true:=by rw[tp];simp
 simp_arith only[ag,ae,aB,aC,ar,aD,au,aj,Hb]
 refine Ex (b_ (xs:=[ps.map (pkN ot),ps++ps,rs]) (enc:=ptsQ) (fun _=>JH true) rfl ?_ (by simp;omega) ?_)
 · intro r mr
   have hr:FZ F.val r/\(DZ F.val r).1=(DZ F.val ps).1:=by
    simp only[HJ,Me,or_false]at mr
    rcases mr with rfl|rfl|rfl
    · exact⟨x1,y1⟩
    · exact⟨x2,y2⟩
    · exact⟨x3,y3⟩
   have pr:=bi.eq r F hr.1
   rw[hr.2]at pr
   simp_arith only[ag,ae,FA,Hb,pr,sh,es]
 have us:EQ 900 (DZ F.val ps).1:=us
 have vs:EQ 900 (DZ F.val qs).1:=kP w2
 have ws:EQ 900 (DZ F.val (ps++qs)).1:=kP w3
 have pv:=bi.eq qs F w2
 have pw:=bi.eq (ps++qs) F w3
 have pb2:=cP.eq ps qs (by omega)
 obtain⟨D0,dq⟩:=y_ l1 k1 bd
 have wd:(0:Int)<((DZ F.val (ps++qs)).1.den:Int):=by have:=(DZ F.val (ps++qs)).1.den_pos;omega
 have ew:qd (DZ F.val (ps++qs)).1.num ((DZ F.val (ps++qs)).1.den:Int)=(DZ F.val (ps++qs)).1:=fN _
 generalize (DZ F.val (ps++qs)).1=X3 at ws pw bd dq wd ew
 generalize (DZ F.val qs).1=V at vs pv bd D0 dq
 have cl:=Bj wd D0 (by rw[ew];exact dq)
 simp_arith only[ag,ae,aB,aC,ar,aD,au,aj,Hb,Dz,Di]
 have ub:=us.mono (show 900<=2000 by decide)
 have vb:=vs.mono (show 900<=2000 by decide)
 have wb:=ws.mono (show 900<=2000 by decide)
 have g3:∀z:Int,bh (ps.length:Int) z:=fun z=>.lt (by omega)
 have g4:∀z:Int,bh (qs.length:Int) z:=fun z=>.lt (by omega)
 have bg:∀(a b:Int)(n:Nat),n<=16->a.natAbs<2^900->b.natAbs<2^900->((n:Int)*a*b).natAbs<2^1900:=fun a b n hn ha hb=>by
  rw[JD,JD,Iz]
  exact Hz (bf (bf (show n<2^10 by omega) ha) hb) (HM (by decide) (by decide))
 have nd:∀q:Rat,EQ 900 q->((q.den:Nat):Int).natAbs<2^900:=fun q h=>by rw[Iz];exact h.2
 have bt:∀(a:Int)(n:Nat),n<=16->a.natAbs<2^900->G9 ((n:Int)*a):=fun a n hn ha=>by
  show Int.natAbs _<_
  rw[JD,Iz]
  exact Hz (bf (show n<2^10 by omega) ha) (HM (by decide) (by decide))
 have g5:bh ((ps.length:Int)*(DZ F.val ps).1.num) (V.den:Int):=.bb (bt _ _ (by omega) us.1) vb.bd
 have g6:bh ((qs.length:Int)*V.num) ((DZ F.val ps).1.den:Int):=.bb (bt _ _ (by omega) vs.1) ub.bd
 have g7:bh ((DZ F.val ps).1.den:Int) (V.den:Int):=.bb ub.bd vb.bd
 have g8:∀z:Int,bh z ((ps.length:Int)+(qs.length:Int)):=fun z=>.rt (by omega)
 have b1:G9 ((ps.length:Int)*(DZ F.val ps).1.num*(V.den:Int)+(qs.length:Int)*V.num*((DZ F.val ps).1.den:Int)):=by
  have x1:=bg _ _ ps.length (by omega) us.1 (nd V vs)
  have x2:=bg _ _ qs.length (by omega) vs.1 (nd _ us)
  have h4:2^1900+2^1900<=2^60000:=by
   rw[<- Nat.two_mul,Nq,<- Nat.pow_succ]
   exact HM (by decide) (by decide)
  generalize (ps.length:Int)*(DZ F.val ps).1.num*(V.den:Int)=x at x1 ⊢
  generalize (qs.length:Int)*V.num*((DZ F.val ps).1.den:Int)=y at x2 ⊢
  show(x+y).natAbs<_
  have:=Int.natAbs_add_le x y
  generalize 2^60000=T at h4 ⊢
  generalize 2^1900=R at x1 x2 h4
  omega
 have b2:G9 (((DZ F.val ps).1.den:Int)*(V.den:Int)*((ps.length:Int)+(qs.length:Int))):=by
  show Int.natAbs _<_
  rw[JD,JD]
  exact Hz (bf (bf (nd _ us) (nd _ vs)) (show((ps.length:Int)+(qs.length:Int)).natAbs<2^10 by omega)) (HM (by decide) (by decide))
 have pc:=bx.eq (X3.num,(X3.den:Int)) ((ps.length:Int)*(DZ F.val ps).1.num*(V.den:Int)+(qs.length:Int)*V.num*((DZ F.val ps).1.den:Int),((DZ F.val ps).1.den:Int)*(V.den:Int)*((ps.length:Int)+(qs.length:Int))) wb.bn wb.bd b1 b2
 dsimp only at pc
 by_cases c:(1:Int)<(s:Int)
 · have dc:decide ((1:Int)<(s:Int))=true:=decide_eq_true c
   have g1:(0:Int)<(s:Int):=by omega
   have g2:(s:Int)<2^60:=by omega
   simp_arith only[ag,ae,aB,aC,ar,aD,au,aj,Hb,dc,aP.eq]
   (with_reducible (first|refine ah fun o ho=>?_|refine al fun o ho=>?_))
   have oe:o=((o.toNat:Nat):Int):=by omega
   have ol:o.toNat<s:=by omega
   generalize o.toNat=k at oe ol
   subst oe
   obtain⟨z1,z2,z3,z4⟩:=yt (s:=s) (o:=k) (by omega) ol
   obtain⟨y4,y5⟩:=Ba h z1 z2 z3 z4
   have psd:cy [.d (ptsQ ps),.d (.tuple (((noO s k).map fun k=>((k:Nat):Int)).map .int))]=VL.ret (ptsQ (ps.map (pkN (noO s k)))):=by
    have:=cy.eq ps ((noO s k).map fun k=>((k:Nat):Int)) (by omega) (by rw[Hm];omega) fun p mp i mi=>by
     obtain⟨j,mj,rfl⟩:=HQ.mp mi
     have:=z3 j mj
     rw[(hpp p mp).1]
     omega
    rw[CI]at this
    exact this
   have px:=bi.eq (ps.map (pkN (noO s k))) F y4
   have xs:EQ 900 (DZ F.val (ps.map (pkN (noO s k)))).1:=kP y4
   generalize (DZ F.val (ps.map (pkN (noO s k)))).1=X4 at y5 px xs
   have xb:=xs.mono (show 900<=2000 by decide)
   have ud:(0:Int)<((DZ F.val ps).1.den:Int):=by have:=(DZ F.val ps).1.den_pos;omega
   have xd:(0:Int)<(X4.den:Int):=by have:=X4.den_pos;omega
   have c4:=Bk (a:=(DZ F.val ps).1.num) (c:=X4.num) ud xd (by rw[fN,fN];exact y5)
   have p4:bx [.d (fr (DZ F.val ps).1),.d (fr X4)]=VL.ret (H_ (FQ ((DZ F.val ps).1.num*(X4.den:Int)) (X4.num*((DZ F.val ps).1.den:Int)))):=bx.eq ((DZ F.val ps).1.num,((DZ F.val ps).1.den:Int)) (X4.num,(X4.den:Int)) ub.bn ub.bd xb.bn xb.bd
   generalize FQ ((DZ F.val ps).1.num*(X4.den:Int)) (X4.num*((DZ F.val ps).1.den:Int))=x4 at c4 p4
   have eqi:∀i j:Int,Iq (.int i) (.int j)=(i==j):=fun i j=>by simp[Iq]
   simp_arith only[ag,ae,aB,aC,ar,aD,au,aj,Hb,eqi]
   refine Ex (wf (fun j=>if j≠k then some (iD j)else none) ?_ (by omega) ?_)
   · intro j hj
     simp_arith only[ag,ae,FA,eqi]
     rw[CO]
     by_cases cc:j=k
     · have e:((0+(j:Int))==(k:Int))=true:=by simp[cc]
       rw[e]
       simp[cc]
     · have e:((0+(j:Int))==(k:Int))=false:=by simp;omega
       rw[e]
       simp[cc]
   rw[yu]
   simp_arith only[ag,ae,aB,aC,ar,aD,au,aj,Hb,psd,px,p4,c4]
   simp_arith only[ag,ae,aB,aC,ar,aD,au,aj,Hb,pv,pw,pb2,g3,g4,g5,g6,g7,g8]
   refine(show FR (bx [.d (EU (X3.num,(X3.den:Int))),.d (EU ((ps.length:Int)*(DZ F.val ps).1.num*(V.den:Int)+(qs.length:Int)*V.num*((DZ F.val ps).1.den:Int),((DZ F.val ps).1.den:Int)*(V.den:Int)*((ps.length:Int)+(qs.length:Int))))]) _ _ from ?_)
   rw[pc]
   simp_arith only[ag,ae,cl]
   exact aF (hQ () trivial)
 · have dc:decide ((1:Int)<(s:Int))=false:=decide_eq_false c
   simp_arith only[ag,ae,aB,aC,ar,aD,au,aj,Hb,dc,pv,pw,pb2,g3,g4,g5,g6,g7,g8]
   refine(show FR (bx [.d (EU (X3.num,(X3.den:Int))),.d (EU ((ps.length:Int)*(DZ F.val ps).1.num*(V.den:Int)+(qs.length:Int)*V.num*((DZ F.val ps).1.den:Int),((DZ F.val ps).1.den:Int)*(V.den:Int)*((ps.length:Int)+(qs.length:Int))))]) _ _ from ?_)
   rw[pc]
   simp_arith only[ag,ae,cl]
   exact aF (hQ () trivial)
theorem xG:FnScope ["_law_script", "_law_feed_here", "_law_k", "_law_s", "_law_family", "_law_most", "_law_pts", "_law_others"] ["_law_script"] (defScope (Ef 57)):=⟨rfl,rfl,rfl,by decide +kernel,rfl,by decide +kernel,by decide +kernel⟩
theorem rn(Z:Bz mg)(d__law_feed:DfnR P w K mg base "_law_feed" ["_law_script"] 2 zo)(d__law_points:∀rl,Dfn P w K mg base rl "_law_points" ["_law_feed_here", "_law_s", "_law_most"] 3 bo)(d__law_draw:∀rl,Dfn P w K mg base rl "_law_draw" ["_law_feed_here", "_law_many"] 1 aP)(d__law_family_right:∀rl,Dfn P w K mg base rl "_law_family_right" ["_law_feed_here", "_law_pts", "_law_others", "_law_family"] 10 aG)(d__law_round_right:∀rl,Dfn P w K mg base rl "_law_round_right" ["_law_feed_here", "_law_pts"] 10 aI){f:Addr}(F:Fun K "law" "law" (Ef 57) f fd):FnOk P w K mg base G7 12 f fd ["_law_script"] (gA K):=by
 have sc:=xG
 refine vj F sc (fun cdv A outer s H E hr=>(tU 1 d__law_feed (hr.mono (by decide)) sc.nd (aa (vn 0) ac) (fun r _=>(ai (eF [2,3,4,5,6,7] Js rfl (bT Z.range_ (aa af ac)) (ax 2 sc.nd) (ai (ay 3 sc.nd (v_add af (am (d__law_draw _) (hr.mono (by decide)) (aa (vn 1) (aa af ac)))))
  (ai (ay 4 sc.nd (bR (cJ (aa bG (aa bG (aa bG ac)))) (am (d__law_draw _) (hr.mono (by decide)) (aa (vn 1) (aa af ac)))))
  (ai (cg (a_ gm dG (aK _) (vn 4) bG) (av (ay 3 sc.nd (wT Z.min_ (aa (vn 3) (aa af ac))))) br)
  (ai (ay 5 sc.nd (bR (ua (hr.mono (Ig _)) (by decide +kernel) (cE (aa af (aa af (aa af ac)))) (cE (aa af (aa af (aa af ac)))) (cE (aa af (aa af ac))) (vn 4)) (v_sub (vn 3) af)))
  (ai (ay 6 sc.nd (am (d__law_points _) (hr.mono (by decide)) (aa (vn 1) (aa (vn 3) (aa (vn 5) ac)))))
  (ai (ay 7 sc.nd (am (d__law_points _) (hr.mono (by decide)) (aa (vn 1) (aa (vn 3) (aa (bR (cJ (aa af (aa af (aa af ac)))) (v_sub (vn 3) af)) ac)))))
  (ai (cg (kW (de (am (d__law_family_right _) (hr.mono (by decide)) (aa (vn 1) (aa (vn 6) (aa (vn 7) (aa (vn 4) ac))))))) (av (aA mF)) br)
  (av (cg (kW (de (am (d__law_round_right _) (hr.mono (by decide)) (aa (vn 1) (aa (am (d__law_points _) (hr.mono (by decide)) (aa (vn 1) (aa (v_add af (am (d__law_draw _) (hr.mono (by decide)) (aa (vn 1) (aa af ac)))) (aa af ac)))) ac))))) (av (aA mF)) br))))))))))
  (av (aA mF)))))) ?_
 intro ns hn
 have sz:=HV
 have pf:=zo.eq hn
 simp_arith only[ag,ae,aB,aC,ar,aD,au,aj,pf]
 refine rV ?_ ?_
 · intro i hi K hK
   have hlaw:∀ρ,fo [2,3,4,5,6,7] ρ=[some (.sc ns),some .reel,none,none,none,none,none,none]->K (.nx ρ):=fun ρ e=>hK _ (fS e)
   simp_arith only[ag,ae,aB,aC,ar,aD,au,aj,Hb,aP.eq]
   (with_reducible (first|refine ah fun a ha=>?_|refine al fun a ha=>?_))
   try simp_arith only[ag,ae,aB,aC,ar,aD,au,aj,Hb,aP.eq]
   (with_reducible (first|refine ah fun b hb=>?_|refine al fun b hb=>?_))
   refine Ew (cj (xs:=[0,1,2]) (enc:=fun f:Nat=>Nm (y7 f)) (fun f:Nat=>f<3) rfl hb.1 (by simpa using hb.2) (by decide) fun f hf=>?_)
   have q1:(Hj "inner" == Hj "corner")=false:=by decide +kernel
   have q2:(Hj "round" == Hj "corner")=false:=by decide +kernel
   have q3:(Hj "round" == Hj "inner")=false:=by decide +kernel
   have n1:decide (Hj "corner" = Hj "round")=false:=by decide +kernel
   have n2:decide (Hj "inner" = Hj "round")=false:=by decide +kernel
   have n3:decide (Hj "round" = Hj "round")=true:=by decide +kernel
   have f0:y7 0=Hj "corner" := rfl
   have f1:y7 1=Hj "inner" := rfl
   have f2:y7 2=Hj "round" := rfl
   have lk0:∀a b c:Hg,Lc (Hj "corner") [(Hj "corner", a),(Hj "inner", b),(Hj "round", c)]=some a:=fun a b c=>by simp[Lc]
   have lk1:∀a b c:Hg,Lc (Hj "inner") [(Hj "corner", a),(Hj "inner", b),(Hj "round", c)]=some b:=fun a b c=>by simp[Lc,q1]
   have lk2:∀a b c:Hg,Lc (Hj "round") [(Hj "corner", a),(Hj "inner", b),(Hj "round", c)]=some c:=fun a b c=>by simp[Lc,q2,q3]
   have it3:∀a b c:Int,VL.itemAt (.tuple [.int a,.int b,.int c]) 0=some (.int a)/\VL.itemAt (.tuple [.int a,.int b,.int c]) 1=some (.int b)/\VL.itemAt (.tuple [.int a,.int b,.int c]) 2=some (.int c):=fun a b c=>⟨rfl,rfl,rfl⟩
   have it2:∀a b:Int,VL.itemAt (.tuple [.int a,.int b]) 0=some (.int a)/\VL.itemAt (.tuple [.int a,.int b]) 1=some (.int b):=fun a b=>⟨rfl,rfl⟩
   have at3:∀a b c:Hg,atI [a,b,c] 0=some a/\atI [a,b,c] 1=some b/\atI [a,b,c] 2=some c:=fun a b c=>⟨rfl,rfl,rfl⟩
   have mn1:min (1:Int) 2=1:=by decide
   have mn2:min (2:Int) 2=2:=by decide
   have mn3:min (3:Int) 2=2:=by decide
   have at2:∀a b:Hg,atI [a,b] 0=some a/\atI [a,b] 1=some b:=fun a b=>⟨rfl,rfl⟩
   have key:∀(F:Fin 3)(s M N:Nat)(x:Str),cG F=x->1<=s->s<=3->M<=4->N<=2->(∀i:Fin 5,i.val<=s->(E9 F.val ((M+N:Nat):Int))^i.val<=3000)->∀ps qs,fg s M ps->fg s N qs->aG [.reel,.d (ptsQ ps),.d (ptsQ qs),.d (.str x)]=FR (anyM fun _:Unit=>True) fun _=>VL.ret (JH true):=fun F s M N x e h1 h2 h3 h4 h5 ps qs hp hq=>by
    subst e
    exact aG.eq ps qs F ⟨s,M,N,h1,h2,hp,hq,h3,h4,h5⟩
   obtain rfl|rfl|rfl:f=0\/f=1\/f=2:=by omega
   all_goals obtain rfl|rfl|rfl:a=0\/a=1\/a=2:=by omega
   all_goals simp_arith only[ag,ae,aB,aC,ar,aD,au,aj,Hb,aP.eq,bo.eq,rg,f0,f1,f2,lk0,lk1,lk2,n1,n2,n3,it3,it2,at3,at2,mn1,mn2,mn3]
   · (with_reducible (first|refine ah fun ps hp=>?_|refine al fun ps hp=>?_))
     have hp:fg 1 4 ps:=hp
     simp_arith only[ag,ae,aB,aC,ar,aD,au,aj,Hb,bo.eq,at3]
     (with_reducible (first|refine ah fun qs hq=>?_|refine al fun qs hq=>?_))
     have hq:fg 1 2 qs:=hq
     have kf:=key 0 1 4 2 _ rfl (by decide) (by decide) (by decide) (by decide) (by decide) ps qs hp hq
     have fe:cG 0=Hj "corner" := rfl
     rw[fe]at kf
     simp_arith only[ag,ae,aB,aC,ar,aD,au,aj,Hb,kf]
     (with_reducible (first|refine ah fun u hu=>?_|refine al fun u hu=>?_))
     try simp_arith only[ag,ae,aB,aC,ar,aD,au,aj,Hb,aP.eq]
     (with_reducible (first|refine ah fun c hc=>?_|refine al fun c hc=>?_))
     have c1:1<=1+c:=by omega
     have c4:1+c<=4:=by omega
     try simp_arith only[ag,ae,aB,aC,ar,aD,au,aj,Hb,bo.eq]
     (with_reducible (first|refine ah fun rs hr=>?_|refine al fun rs hr=>?_))
     have rr:=aI.eq rs ⟨(1+c).toNat,by omega,by omega,hr⟩
     simp_arith only[ag,ae,aB,aC,ar,aD,au,aj,Hb,rr]
     (with_reducible (first|refine ah fun v hv=>?_|refine al fun v hv=>?_))
     exact hlaw _ rfl
   · (with_reducible (first|refine ah fun ps hp=>?_|refine al fun ps hp=>?_))
     have hp:fg 2 4 ps:=hp
     simp_arith only[ag,ae,aB,aC,ar,aD,au,aj,Hb,bo.eq,at3]
     (with_reducible (first|refine ah fun qs hq=>?_|refine al fun qs hq=>?_))
     have hq:fg 2 1 qs:=hq
     have kf:=key 0 2 4 1 _ rfl (by decide) (by decide) (by decide) (by decide) (by decide) ps qs hp hq
     have fe:cG 0=Hj "corner" := rfl
     rw[fe]at kf
     simp_arith only[ag,ae,aB,aC,ar,aD,au,aj,Hb,kf]
     (with_reducible (first|refine ah fun u hu=>?_|refine al fun u hu=>?_))
     try simp_arith only[ag,ae,aB,aC,ar,aD,au,aj,Hb,aP.eq]
     (with_reducible (first|refine ah fun c hc=>?_|refine al fun c hc=>?_))
     have c1:1<=1+c:=by omega
     have c4:1+c<=4:=by omega
     try simp_arith only[ag,ae,aB,aC,ar,aD,au,aj,Hb,bo.eq]
     (with_reducible (first|refine ah fun rs hr=>?_|refine al fun rs hr=>?_))
     have rr:=aI.eq rs ⟨(1+c).toNat,by omega,by omega,hr⟩
     simp_arith only[ag,ae,aB,aC,ar,aD,au,aj,Hb,rr]
     (with_reducible (first|refine ah fun v hv=>?_|refine al fun v hv=>?_))
     exact hlaw _ rfl
   · (with_reducible (first|refine ah fun ps hp=>?_|refine al fun ps hp=>?_))
     have hp:fg 3 3 ps:=hp
     simp_arith only[ag,ae,aB,aC,ar,aD,au,aj,Hb,bo.eq,at3]
     (with_reducible (first|refine ah fun qs hq=>?_|refine al fun qs hq=>?_))
     have hq:fg 3 1 qs:=hq
     have kf:=key 0 3 3 1 _ rfl (by decide) (by decide) (by decide) (by decide) (by decide) ps qs hp hq
     have fe:cG 0=Hj "corner" := rfl
     rw[fe]at kf
     simp_arith only[ag,ae,aB,aC,ar,aD,au,aj,Hb,kf]
     (with_reducible (first|refine ah fun u hu=>?_|refine al fun u hu=>?_))
     try simp_arith only[ag,ae,aB,aC,ar,aD,au,aj,Hb,aP.eq]
     (with_reducible (first|refine ah fun c hc=>?_|refine al fun c hc=>?_))
     have c1:1<=1+c:=by omega
     have c4:1+c<=4:=by omega
     try simp_arith only[ag,ae,aB,aC,ar,aD,au,aj,Hb,bo.eq]
     (with_reducible (first|refine ah fun rs hr=>?_|refine al fun rs hr=>?_))
     have rr:=aI.eq rs ⟨(1+c).toNat,by omega,by omega,hr⟩
     simp_arith only[ag,ae,aB,aC,ar,aD,au,aj,Hb,rr]
     (with_reducible (first|refine ah fun v hv=>?_|refine al fun v hv=>?_))
     exact hlaw _ rfl
   · (with_reducible (first|refine ah fun ps hp=>?_|refine al fun ps hp=>?_))
     have hp:fg 1 4 ps:=hp
     simp_arith only[ag,ae,aB,aC,ar,aD,au,aj,Hb,bo.eq,at3]
     (with_reducible (first|refine ah fun qs hq=>?_|refine al fun qs hq=>?_))
     have hq:fg 1 2 qs:=hq
     have kf:=key 1 1 4 2 _ rfl (by decide) (by decide) (by decide) (by decide) (by decide) ps qs hp hq
     have fe:cG 1=Hj "inner" := rfl
     rw[fe]at kf
     simp_arith only[ag,ae,aB,aC,ar,aD,au,aj,Hb,kf]
     (with_reducible (first|refine ah fun u hu=>?_|refine al fun u hu=>?_))
     try simp_arith only[ag,ae,aB,aC,ar,aD,au,aj,Hb,aP.eq]
     (with_reducible (first|refine ah fun c hc=>?_|refine al fun c hc=>?_))
     have c1:1<=1+c:=by omega
     have c4:1+c<=4:=by omega
     try simp_arith only[ag,ae,aB,aC,ar,aD,au,aj,Hb,bo.eq]
     (with_reducible (first|refine ah fun rs hr=>?_|refine al fun rs hr=>?_))
     have rr:=aI.eq rs ⟨(1+c).toNat,by omega,by omega,hr⟩
     simp_arith only[ag,ae,aB,aC,ar,aD,au,aj,Hb,rr]
     (with_reducible (first|refine ah fun v hv=>?_|refine al fun v hv=>?_))
     exact hlaw _ rfl
   · (with_reducible (first|refine ah fun ps hp=>?_|refine al fun ps hp=>?_))
     have hp:fg 2 2 ps:=hp
     simp_arith only[ag,ae,aB,aC,ar,aD,au,aj,Hb,bo.eq,at3]
     (with_reducible (first|refine ah fun qs hq=>?_|refine al fun qs hq=>?_))
     have hq:fg 2 1 qs:=hq
     have kf:=key 1 2 2 1 _ rfl (by decide) (by decide) (by decide) (by decide) (by decide) ps qs hp hq
     have fe:cG 1=Hj "inner" := rfl
     rw[fe]at kf
     simp_arith only[ag,ae,aB,aC,ar,aD,au,aj,Hb,kf]
     (with_reducible (first|refine ah fun u hu=>?_|refine al fun u hu=>?_))
     try simp_arith only[ag,ae,aB,aC,ar,aD,au,aj,Hb,aP.eq]
     (with_reducible (first|refine ah fun c hc=>?_|refine al fun c hc=>?_))
     have c1:1<=1+c:=by omega
     have c4:1+c<=4:=by omega
     try simp_arith only[ag,ae,aB,aC,ar,aD,au,aj,Hb,bo.eq]
     (with_reducible (first|refine ah fun rs hr=>?_|refine al fun rs hr=>?_))
     have rr:=aI.eq rs ⟨(1+c).toNat,by omega,by omega,hr⟩
     simp_arith only[ag,ae,aB,aC,ar,aD,au,aj,Hb,rr]
     (with_reducible (first|refine ah fun v hv=>?_|refine al fun v hv=>?_))
     exact hlaw _ rfl
   · (with_reducible (first|refine ah fun ps hp=>?_|refine al fun ps hp=>?_))
     have hp:fg 3 1 ps:=hp
     simp_arith only[ag,ae,aB,aC,ar,aD,au,aj,Hb,bo.eq,at3]
     (with_reducible (first|refine ah fun qs hq=>?_|refine al fun qs hq=>?_))
     have hq:fg 3 1 qs:=hq
     have kf:=key 1 3 1 1 _ rfl (by decide) (by decide) (by decide) (by decide) (by decide) ps qs hp hq
     have fe:cG 1=Hj "inner" := rfl
     rw[fe]at kf
     simp_arith only[ag,ae,aB,aC,ar,aD,au,aj,Hb,kf]
     (with_reducible (first|refine ah fun u hu=>?_|refine al fun u hu=>?_))
     try simp_arith only[ag,ae,aB,aC,ar,aD,au,aj,Hb,aP.eq]
     (with_reducible (first|refine ah fun c hc=>?_|refine al fun c hc=>?_))
     have c1:1<=1+c:=by omega
     have c4:1+c<=4:=by omega
     try simp_arith only[ag,ae,aB,aC,ar,aD,au,aj,Hb,bo.eq]
     (with_reducible (first|refine ah fun rs hr=>?_|refine al fun rs hr=>?_))
     have rr:=aI.eq rs ⟨(1+c).toNat,by omega,by omega,hr⟩
     simp_arith only[ag,ae,aB,aC,ar,aD,au,aj,Hb,rr]
     (with_reducible (first|refine ah fun v hv=>?_|refine al fun v hv=>?_))
     exact hlaw _ rfl
   · (with_reducible (first|refine ah fun ps hp=>?_|refine al fun ps hp=>?_))
     have hp:fg 1 3 ps:=hp
     simp_arith only[ag,ae,aB,aC,ar,aD,au,aj,Hb,bo.eq,at3]
     (with_reducible (first|refine ah fun qs hq=>?_|refine al fun qs hq=>?_))
     have hq:fg 1 2 qs:=hq
     have kf:=key 2 1 3 2 _ rfl (by decide) (by decide) (by decide) (by decide) (by decide) ps qs hp hq
     have fe:cG 2=Hj "round" := rfl
     rw[fe]at kf
     simp_arith only[ag,ae,aB,aC,ar,aD,au,aj,Hb,kf]
     (with_reducible (first|refine ah fun u hu=>?_|refine al fun u hu=>?_))
     try simp_arith only[ag,ae,aB,aC,ar,aD,au,aj,Hb,aP.eq]
     (with_reducible (first|refine ah fun c hc=>?_|refine al fun c hc=>?_))
     have c1:1<=1+c:=by omega
     have c4:1+c<=4:=by omega
     try simp_arith only[ag,ae,aB,aC,ar,aD,au,aj,Hb,bo.eq]
     (with_reducible (first|refine ah fun rs hr=>?_|refine al fun rs hr=>?_))
     have rr:=aI.eq rs ⟨(1+c).toNat,by omega,by omega,hr⟩
     simp_arith only[ag,ae,aB,aC,ar,aD,au,aj,Hb,rr]
     (with_reducible (first|refine ah fun v hv=>?_|refine al fun v hv=>?_))
     exact hlaw _ rfl
   · (with_reducible (first|refine ah fun ps hp=>?_|refine al fun ps hp=>?_))
     have hp:fg 2 1 ps:=hp
     simp_arith only[ag,ae,aB,aC,ar,aD,au,aj,Hb,bo.eq,at3]
     (with_reducible (first|refine ah fun qs hq=>?_|refine al fun qs hq=>?_))
     have hq:fg 2 1 qs:=hq
     have kf:=key 2 2 1 1 _ rfl (by decide) (by decide) (by decide) (by decide) (by decide) ps qs hp hq
     have fe:cG 2=Hj "round" := rfl
     rw[fe]at kf
     simp_arith only[ag,ae,aB,aC,ar,aD,au,aj,Hb,kf]
     (with_reducible (first|refine ah fun u hu=>?_|refine al fun u hu=>?_))
     try simp_arith only[ag,ae,aB,aC,ar,aD,au,aj,Hb,aP.eq]
     (with_reducible (first|refine ah fun c hc=>?_|refine al fun c hc=>?_))
     have c1:1<=1+c:=by omega
     have c4:1+c<=4:=by omega
     try simp_arith only[ag,ae,aB,aC,ar,aD,au,aj,Hb,bo.eq]
     (with_reducible (first|refine ah fun rs hr=>?_|refine al fun rs hr=>?_))
     have rr:=aI.eq rs ⟨(1+c).toNat,by omega,by omega,hr⟩
     simp_arith only[ag,ae,aB,aC,ar,aD,au,aj,Hb,rr]
     (with_reducible (first|refine ah fun v hv=>?_|refine al fun v hv=>?_))
     exact hlaw _ rfl
   · (with_reducible (first|refine ah fun ps hp=>?_|refine al fun ps hp=>?_))
     have hp:fg 2 1 ps:=hp
     simp_arith only[ag,ae,aB,aC,ar,aD,au,aj,Hb,bo.eq,at3]
     (with_reducible (first|refine ah fun qs hq=>?_|refine al fun qs hq=>?_))
     have hq:fg 2 1 qs:=hq
     have kf:=key 2 2 1 1 _ rfl (by decide) (by decide) (by decide) (by decide) (by decide) ps qs hp hq
     have fe:cG 2=Hj "round" := rfl
     rw[fe]at kf
     simp_arith only[ag,ae,aB,aC,ar,aD,au,aj,Hb,kf]
     (with_reducible (first|refine ah fun u hu=>?_|refine al fun u hu=>?_))
     try simp_arith only[ag,ae,aB,aC,ar,aD,au,aj,Hb,aP.eq]
     (with_reducible (first|refine ah fun c hc=>?_|refine al fun c hc=>?_))
     have c1:1<=1+c:=by omega
     have c4:1+c<=4:=by omega
     try simp_arith only[ag,ae,aB,aC,ar,aD,au,aj,Hb,bo.eq]
     (with_reducible (first|refine ah fun rs hr=>?_|refine al fun rs hr=>?_))
     have rr:=aI.eq rs ⟨(1+c).toNat,by omega,by omega,hr⟩
     simp_arith only[ag,ae,aB,aC,ar,aD,au,aj,Hb,rr]
     (with_reducible (first|refine ah fun v hv=>?_|refine al fun v hv=>?_))
     exact hlaw _ rfl
 · simp_arith only[ag,ae]
   exact vJ
structure Txt (K:Kc) (mg:Str->Option Hq):Prop where
 bz:Bz mg
 f__law_feed:FnIn K mg "_law_feed" (Ef 48) ["_law_script"]
 f__law_draw:FnIn K mg "_law_draw" (Ef 49) ["_law_feed_here", "_law_many"]
 f__law_frac:FnIn K mg "_law_frac" (Ef 50) ["_law_top", "_law_bottom"]
 f__law_cmp:FnIn K mg "_law_cmp" (Ef 51) ["_law_one", "_law_other"]
 f__law_number:FnIn K mg "_law_number" (Ef 52) ["_law_feed_here", "_law_seen", "_law_is_first"]
 f__law_points:FnIn K mg "_law_points" (Ef 53) ["_law_feed_here", "_law_s", "_law_most"]
 f_common_divisor:FnIn K mg "common_divisor" (Ef 7) ["one", "other"]
 f_fraction:FnIn K mg "fraction" (Ef 8) ["top", "bottom"]
 f_plus:FnIn K mg "plus" (Ef 9) ["one", "other"]
 f_less:FnIn K mg "less" (Ef 10) ["one", "other"]
 f_times:FnIn K mg "times" (Ef 11) ["one", "other"]
 f_is_below:FnIn K mg "is_below" (Ef 12) ["one", "other"]
 f_lesser:FnIn K mg "lesser" (Ef 13) ["one", "other"]
 f_greater:FnIn K mg "greater" (Ef 14) ["one", "other"]
 f_in_size:FnIn K mg "in_size" (Ef 16) ["some"]
 f_sides_of:FnIn K mg "sides_of" (Ef 23) ["points"]
 f_numbers_at:FnIn K mg "numbers_at" (Ef 24) ["points", "side"]
 f_side_looks:FnIn K mg "side_looks" (Ef 28) ["numbers", "family"]
 f_many_side_looks:FnIn K mg "many_side_looks" (Ef 29) ["many", "family"]
 f_many_looks:FnIn K mg "many_looks" (Ef 30) ["points", "family"]
 f_looks_by_side:FnIn K mg "looks_by_side" (Ef 31) ["points", "family"]
 f_side_size:FnIn K mg "side_size" (Ef 18) ["side"]
 f_goes_ahead:FnIn K mg "goes_ahead" (Ef 19) ["one", "other", "may_meet"]
 f_lies:FnIn K mg "lies" (Ef 20) ["x", "side", "way"]
 f_marked:FnIn K mg "marked" (Ef 32) ["numbers", "look"]
 f_widened:FnIn K mg "widened" (Ef 33) ["row", "mark"]
 f_counted_looks:FnIn K mg "counted_looks" (Ef 34) ["points", "family"]
 f_misses:FnIn K mg "misses" (Ef 35) ["points", "family"]
 f_first_greatest:FnIn K mg "first_greatest" (Ef 36) ["rows"]
 f_worst:FnIn K mg "worst" (Ef 37) ["points", "family"]
 f_unevenness:FnIn K mg "unevenness" (Ef 38) ["points", "family"]
 f_wrapped:FnIn K mg "wrapped" (Ef 15) ["one"]
 f_shifted:FnIn K mg "shifted" (Ef 40) ["points", "by"]
 f_mirrored_number:FnIn K mg "mirrored_number" (Ef 41) ["x"]
 f_mirrored:FnIn K mg "mirrored" (Ef 42) ["points", "sides"]
 f_picked:FnIn K mg "picked" (Ef 43) ["points", "sides"]
 f_exchanged:FnIn K mg "exchanged" (Ef 44) ["points", "order"]
 f_shadow:FnIn K mg "shadow" (Ef 45) ["points", "sides"]
 f_beside:FnIn K mg "beside" (Ef 46) ["one", "other"]
 f__law_order:FnIn K mg "_law_order" (Ef 54) ["_law_feed_here", "_law_many"]
 f__law_round_right:FnIn K mg "_law_round_right" (Ef 55) ["_law_feed_here", "_law_pts"]
 f__law_family_right:FnIn K mg "_law_family_right" (Ef 56) ["_law_feed_here", "_law_pts", "_law_others", "_law_family"]
 g_ONE:GlD K mg "ONE" (pr 1 1)
 g_ZERO:GlD K mg "ZERO" (pr 0 1)
 g_BELOW_ALL:GlD K mg "BELOW_ALL" (.tuple [.int (-1),.int 1])
 g_MOST_LOOKS:GlD K mg "MOST_LOOKS" (.int 3000)
 g_MOST_POINTS:GlD K mg "MOST_POINTS" (.int 40)
theorem yq{f:Addr}(F:Fun K "law" "law" (Ef 57) f fd)(T:Txt K mg)  : FnOk P w K mg base G7 12 f fd ["_law_script"] (gA K):=by
 have d__law_feed:DfnR P w K mg base "_law_feed" ["_law_script"] 2 zo:=K25.d__law_feed T.f__law_feed T.bz   
 have d__law_draw:∀rl,Dfn P w K mg base rl "_law_draw" ["_law_feed_here", "_law_many"] 1 aP:=fun rl=>K25.d__law_draw T.f__law_draw T.bz   
 have d__law_frac:∀rl,Dfn P w K mg base rl "_law_frac" ["_law_top", "_law_bottom"] 1 bN:=fun rl=>K25.d__law_frac T.f__law_frac T.bz   
 have d__law_cmp:∀rl,Dfn P w K mg base rl "_law_cmp" ["_law_one", "_law_other"] 1 bx:=fun rl=>K25.d__law_cmp T.f__law_cmp T.bz   
 have d__law_number:∀rl,Dfn P w K mg base rl "_law_number" ["_law_feed_here", "_law_seen", "_law_is_first"] 2 bp:=fun rl=>K25.d__law_number T.f__law_number T.bz d__law_draw d__law_frac  
 have d__law_points:∀rl,Dfn P w K mg base rl "_law_points" ["_law_feed_here", "_law_s", "_law_most"] 3 bo:=fun rl=>K25.d__law_points T.f__law_points T.bz d__law_draw d__law_number  
 have d_common_divisor:∀rl,Dfn P w K mg base rl "common_divisor" ["one", "other"] 1 aR:=fun rl=>K25.d_common_divisor T.f_common_divisor T.bz   
 have d_fraction:∀rl,Dfn P w K mg base rl "fraction" ["top", "bottom"] 2 bw:=fun rl=>K25.d_fraction T.f_fraction T.bz d_common_divisor  
 have d_plus:∀rl,Dfn P w K mg base rl "plus" ["one", "other"] 3 eU:=fun rl=>K25.d_plus T.f_plus T.bz d_fraction  
 have d_less:∀rl,Dfn P w K mg base rl "less" ["one", "other"] 3 d7:=fun rl=>K25.d_less T.f_less T.bz d_fraction  
 have d_times:∀rl,Dfn P w K mg base rl "times" ["one", "other"] 3 dQ:=fun rl=>K25.d_times T.f_times T.bz d_fraction  
 have d_is_below:∀rl,Dfn P w K mg base rl "is_below" ["one", "other"] 1 be:=fun rl=>K25.d_is_below T.f_is_below T.bz   
 have d_lesser:∀rl,Dfn P w K mg base rl "lesser" ["one", "other"] 2 cO:=fun rl=>K25.d_lesser T.f_lesser T.bz d_is_below  
 have d_greater:∀rl,Dfn P w K mg base rl "greater" ["one", "other"] 2 cu:=fun rl=>K25.d_greater T.f_greater T.bz d_is_below  
 have d_in_size:∀rl,Dfn P w K mg base rl "in_size" ["some"] 1 cf:=fun rl=>K25.d_in_size T.f_in_size T.bz   
 have d_sides_of:∀rl,Dfn P w K mg base rl "sides_of" ["points"] 1 bW:=fun rl=>K25.d_sides_of T.f_sides_of T.bz   
 have d_numbers_at:∀rl,Dfn P w K mg base rl "numbers_at" ["points", "side"] 2 bj:=fun rl=>K25.d_numbers_at T.f_numbers_at T.bz d_in_size  
 have d_side_looks:∀rl,Dfn P w K mg base rl "side_looks" ["numbers", "family"] 2 bI:=fun rl=>K25.d_side_looks T.f_side_looks T.bz d_is_below T.g_ONE T.g_BELOW_ALL 
 have d_many_side_looks:∀rl,Dfn P w K mg base rl "many_side_looks" ["many", "family"] 1 aO:=fun rl=>K25.d_many_side_looks T.f_many_side_looks T.bz   
 have d_many_looks:∀rl,Dfn P w K mg base rl "many_looks" ["points", "family"] 3 bJ:=fun rl=>K25.d_many_looks T.f_many_looks T.bz d_sides_of d_many_side_looks d_numbers_at  
 have d_looks_by_side:∀rl,Dfn P w K mg base rl "looks_by_side" ["points", "family"] 4 aV:=fun rl=>K25.d_looks_by_side T.f_looks_by_side T.bz d_many_looks d_side_looks d_numbers_at d_sides_of T.g_MOST_LOOKS 
 have d_side_size:∀rl,Dfn P w K mg base rl "side_size" ["side"] 4 bU:=fun rl=>K25.d_side_size T.f_side_size T.bz d_greater d_less d_lesser d_plus T.g_ZERO T.g_ONE 
 have d_goes_ahead:∀rl,Dfn P w K mg base rl "goes_ahead" ["one", "other", "may_meet"] 2 bK:=fun rl=>K25.d_goes_ahead T.f_goes_ahead T.bz d_is_below  
 have d_lies:∀rl,Dfn P w K mg base rl "lies" ["x", "side", "way"] 3 fR:=fun rl=>K25.d_lies T.f_lies T.bz d_goes_ahead  
 have d_marked:∀rl,Dfn P w K mg base rl "marked" ["numbers", "look"] 5 cN:=fun rl=>K25.d_marked T.f_marked T.bz d_lies d_side_size  
 have d_widened:∀rl,Dfn P w K mg base rl "widened" ["row", "mark"] 4 cq:=fun rl=>K25.d_widened T.f_widened T.bz d_times  
 have d_counted_looks:∀rl,Dfn P w K mg base rl "counted_looks" ["points", "family"] 6 aW:=fun rl=>K25.d_counted_looks T.f_counted_looks T.bz d_looks_by_side d_marked d_widened T.g_ONE 
 have d_misses:∀rl,Dfn P w K mg base rl "misses" ["points", "family"] 7 cM:=fun rl=>K25.d_misses T.f_misses T.bz d_counted_looks d_less d_fraction  
 have d_first_greatest:∀rl,Dfn P w K mg base rl "first_greatest" ["rows"] 2 aJ:=fun rl=>K25.d_first_greatest T.f_first_greatest T.bz d_is_below  
 have d_worst:∀rl,Dfn P w K mg base rl "worst" ["points", "family"] 8 dP:=fun rl=>K25.d_worst T.f_worst T.bz d_first_greatest d_misses  
 have d_unevenness:∀rl,Dfn P w K mg base rl "unevenness" ["points", "family"] 9 bi:=fun rl=>K25.d_unevenness T.f_unevenness T.bz d_worst  
 have d_wrapped:∀rl,Dfn P w K mg base rl "wrapped" ["one"] 1 ce:=fun rl=>K25.d_wrapped T.f_wrapped T.bz   
 have d_shifted:∀rl,Dfn P w K mg base rl "shifted" ["points", "by"] 4 cr:=fun rl=>K25.d_shifted T.f_shifted T.bz d_wrapped d_plus  
 have d_mirrored_number:∀rl,Dfn P w K mg base rl "mirrored_number" ["x"] 4 aN:=fun rl=>K25.d_mirrored_number T.f_mirrored_number T.bz d_wrapped d_less T.g_ONE 
 have d_mirrored:∀rl,Dfn P w K mg base rl "mirrored" ["points", "sides"] 5 b9:=fun rl=>K25.d_mirrored T.f_mirrored T.bz d_mirrored_number  
 have d_picked:∀rl,Dfn P w K mg base rl "picked" ["points", "sides"] 1 cz:=fun rl=>K25.d_picked T.f_picked T.bz   
 have d_exchanged:∀rl,Dfn P w K mg base rl "exchanged" ["points", "order"] 2 bL:=fun rl=>K25.d_exchanged T.f_exchanged T.bz d_picked  
 have d_shadow:∀rl,Dfn P w K mg base rl "shadow" ["points", "sides"] 2 cy:=fun rl=>K25.d_shadow T.f_shadow T.bz d_picked  
 have d_beside:∀rl,Dfn P w K mg base rl "beside" ["one", "other"] 1 cP:=fun rl=>K25.d_beside T.f_beside T.bz  T.g_MOST_POINTS 
 have d__law_order:∀rl,Dfn P w K mg base rl "_law_order" ["_law_feed_here", "_law_many"] 2 bM:=fun rl=>K25.d__law_order T.f__law_order T.bz d__law_draw  
 have d__law_round_right:∀rl,Dfn P w K mg base rl "_law_round_right" ["_law_feed_here", "_law_pts"] 10 aI:=fun rl=>K25.d__law_round_right T.f__law_round_right T.bz d_unevenness d__law_frac d_shifted d_mirrored d__law_draw  
 have d__law_family_right:∀rl,Dfn P w K mg base rl "_law_family_right" ["_law_feed_here", "_law_pts", "_law_others", "_law_family"] 10 aG:=fun rl=>K25.d__law_family_right T.f__law_family_right T.bz d_unevenness d__law_order d_exchanged d_beside d__law_draw d__law_cmp d_shadow  
 exact rn T.bz d__law_feed d__law_points d__law_draw d__law_family_right d__law_round_right   F
end
theorem C0(hl:us.length=0):us=[]:=Lr hl
theorem sE(hl:us.length=1):∃a0,us=[a0]:=by
 cases us with
 | nil=>cases hl
 | cons a0 t=>cases C0 (MB hl);exact⟨a0,rfl⟩
theorem dJ(hl:us.length=2):∃a0 a1,us=[a0,a1]:=by
 cases us with
 | nil=>cases hl
 | cons a0 t=>obtain⟨a1,rfl⟩:=sE (MB hl);exact⟨a0,a1,rfl⟩
theorem w_(hl:us.length=3):∃a0 a1 a2,us=[a0,a1,a2]:=by
 cases us with
 | nil=>cases hl
 | cons a0 t=>obtain⟨a1,a2,rfl⟩:=dJ (MB hl);exact⟨a0,a1,a2,rfl⟩
theorem CZ(hl:us.length=4):∃a0 a1 a2 a3,us=[a0,a1,a2,a3]:=by
 cases us with
 | nil=>cases hl
 | cons a0 t=>obtain⟨a1,a2,a3,rfl⟩:=w_ (MB hl);exact⟨a0,a1,a2,a3,rfl⟩
theorem aH{K:Kc}(X:K.In h)(G:h.Ns IA mg){st:Stmt}{ps:List Str}{f:Addr}{oc kV dc pm cd ct:Hq}{od an:Option Addr}{sl:Array (Option Hq)}(a:Nw K IA x=some (some (.ref f)))(l:K.lookup f=some ⟨oc,od,.func (Nx x x (defArgs st) (defBody st) (defScope st) .none kV dc pm an cd ct),sl⟩)(c:HF K cd x=true)(k:HG K (.ref f)=true)(hb:∀(kV doc pm:Hq)(an:Option Addr)(cdv ct:Hq)(us:List Hq),us.length=ps.length->bindArgs (Nx x x (defArgs st) (defBody st) (defScope st) .none kV doc pm an cdv ct) ⟨us,[]⟩=pure (ps.zip us)):FnIn K mg x st ps:=⟨⟨f,_,PySem.W.mg_of X G a,pH l c k,(pH l c k).binds hb⟩⟩
abbrev NI(K:Kc)(x:Str)(f:Addr):Prop:=Nw K IA x=some (some (.ref f))
abbrev NZ(K:Kc)(x:Str):Prop:=Nw K IA x=some none
abbrev LK(K:Kc)(x:Str)(st:Stmt)(f:Addr)(oc:Hq)(od:Option Addr)(kV dc pm:Hq)(an:Option Addr)(cd ct:Hq)(sl:Array (Option Hq)):Prop:=K.lookup f=some ⟨oc,od,.func (Nx x x (defArgs st) (defBody st) (defScope st) .none kV dc pm an cd ct),sl⟩
theorem all_mk{l:MC}{K:Kc}{fa:Addr}(X:K.In h)(G:h.Ns IA mg)(hfa:mg "law" = some (.ref fa))
 {f1 f2 f3 f4 f5 f6 f7 f8 f9 f10 f11 f12 f13 f14 f15 f16 f17 f18 f19 f20 f21 f22 f23 f24 f25 f26 f27 f28 f29 f30 f31 f32 f33 f34 f35 f36 f37 f38 f39 f40 f41 f42 f43:Addr}{od1 an1 od2 an2 od3 an3 od4 an4 od5 an5 od6 an6 od7 an7 od8 an8 od9 an9 od10 an10 od11 an11 od12 an12 od13 an13 od14 an14 od15 an15 od16 an16 od17 an17 od18 an18 od19 an19 od20 an20 od21 an21 od22 an22 od23 an23 od24 an24 od25 an25 od26 an26 od27 an27 od28 an28 od29 an29 od30 an30 od31 an31 od32 an32 od33 an33 od34 an34 od35 an35 od36 an36 od37 an37 od38 an38 od39 an39 od40 an40 od41 an41 od42 an42 od43 an43:Option Addr}{sl1 sl2 sl3 sl4 sl5 sl6 sl7 sl8 sl9 sl10 sl11 sl12 sl13 sl14 sl15 sl16 sl17 sl18 sl19 sl20 sl21 sl22 sl23 sl24 sl25 sl26 sl27 sl28 sl29 sl30 sl31 sl32 sl33 sl34 sl35 sl36 sl37 sl38 sl39 sl40 sl41 sl42 sl43:Array (Option Hq)}{oc1 kV1 dc1 pm1 cd1 ct1 oc2 kV2 dc2 pm2 cd2 ct2 oc3 kV3 dc3 pm3 cd3 ct3 oc4 kV4 dc4 pm4 cd4 ct4 oc5 kV5 dc5 pm5 cd5 ct5 oc6 kV6 dc6 pm6 cd6 ct6 oc7 kV7 dc7 pm7 cd7 ct7 oc8 kV8 dc8 pm8 cd8 ct8 oc9 kV9 dc9 pm9 cd9 ct9 oc10 kV10 dc10 pm10 cd10 ct10 oc11 kV11 dc11 pm11 cd11 ct11 oc12 kV12 dc12 pm12 cd12 ct12 oc13 kV13 dc13 pm13 cd13 ct13 oc14 kV14 dc14 pm14 cd14 ct14 oc15 kV15 dc15 pm15 cd15 ct15 oc16 kV16 dc16 pm16 cd16 ct16 oc17 kV17 dc17 pm17 cd17 ct17 oc18 kV18 dc18 pm18 cd18 ct18 oc19 kV19 dc19 pm19 cd19 ct19 oc20 kV20 dc20 pm20 cd20 ct20 oc21 kV21 dc21 pm21 cd21 ct21 oc22 kV22 dc22 pm22 cd22 ct22 oc23 kV23 dc23 pm23 cd23 ct23 oc24 kV24 dc24 pm24 cd24 ct24 oc25 kV25 dc25 pm25 cd25 ct25 oc26 kV26 dc26 pm26 cd26 ct26 oc27 kV27 dc27 pm27 cd27 ct27 oc28 kV28 dc28 pm28 cd28 ct28 oc29 kV29 dc29 pm29 cd29 ct29 oc30 kV30 dc30 pm30 cd30 ct30 oc31 kV31 dc31 pm31 cd31 ct31 oc32 kV32 dc32 pm32 cd32 ct32 oc33 kV33 dc33 pm33 cd33 ct33 oc34 kV34 dc34 pm34 cd34 ct34 oc35 kV35 dc35 pm35 cd35 ct35 oc36 kV36 dc36 pm36 cd36 ct36 oc37 kV37 dc37 pm37 cd37 ct37 oc38 kV38 dc38 pm38 cd38 ct38 oc39 kV39 dc39 pm39 cd39 ct39 oc40 kV40 dc40 pm40 cd40 ct40 oc41 kV41 dc41 pm41 cd41 ct41 oc42 kV42 dc42 pm42 cd42 ct42 oc43 kV43 dc43 pm43 cd43 ct43:Hq}
 (a1:NI K "_law_feed" f1)(l1:LK K "_law_feed" (Ef 48) f1 oc1 od1 kV1 dc1 pm1 an1 cd1 ct1 sl1)(c1:HF K cd1 "_law_feed" = true)(k1:HG K (.ref f1)=true)(a2:NI K "_law_draw" f2)(l2:LK K "_law_draw" (Ef 49) f2 oc2 od2 kV2 dc2 pm2 an2 cd2 ct2 sl2)(c2:HF K cd2 "_law_draw" = true)(k2:HG K (.ref f2)=true)(a3:NI K "_law_frac" f3)(l3:LK K "_law_frac" (Ef 50) f3 oc3 od3 kV3 dc3 pm3 an3 cd3 ct3 sl3)(c3:HF K cd3 "_law_frac" = true)(k3:HG K (.ref f3)=true)(a4:NI K "_law_cmp" f4)(l4:LK K "_law_cmp" (Ef 51) f4 oc4 od4 kV4 dc4 pm4 an4 cd4 ct4 sl4)(c4:HF K cd4 "_law_cmp" = true)(k4:HG K (.ref f4)=true)(a5:NI K "_law_number" f5)(l5:LK K "_law_number" (Ef 52) f5 oc5 od5 kV5 dc5 pm5 an5 cd5 ct5 sl5)(c5:HF K cd5 "_law_number" = true)(k5:HG K (.ref f5)=true)(a6:NI K "_law_points" f6)(l6:LK K "_law_points" (Ef 53) f6 oc6 od6 kV6 dc6 pm6 an6 cd6 ct6 sl6)(c6:HF K cd6 "_law_points" = true)(k6:HG K (.ref f6)=true)(a7:NI K "common_divisor" f7)(l7:LK K "common_divisor" (Ef 7) f7 oc7 od7 kV7 dc7 pm7 an7 cd7 ct7 sl7)(c7:HF K cd7 "common_divisor" = true)(k7:HG K (.ref f7)=true)(a8:NI K "fraction" f8)(l8:LK K "fraction" (Ef 8) f8 oc8 od8 kV8 dc8 pm8 an8 cd8 ct8 sl8)(c8:HF K cd8 "fraction" = true)(k8:HG K (.ref f8)=true)(a9:NI K "plus" f9)(l9:LK K "plus" (Ef 9) f9 oc9 od9 kV9 dc9 pm9 an9 cd9 ct9 sl9)(c9:HF K cd9 "plus" = true)(k9:HG K (.ref f9)=true)(a10:NI K "less" f10)(l10:LK K "less" (Ef 10) f10 oc10 od10 kV10 dc10 pm10 an10 cd10 ct10 sl10)(c10:HF K cd10 "less" = true)(k10:HG K (.ref f10)=true)(a11:NI K "times" f11)(l11:LK K "times" (Ef 11) f11 oc11 od11 kV11 dc11 pm11 an11 cd11 ct11 sl11)(c11:HF K cd11 "times" = true)(k11:HG K (.ref f11)=true)(a12:NI K "is_below" f12)(l12:LK K "is_below" (Ef 12) f12 oc12 od12 kV12 dc12 pm12 an12 cd12 ct12 sl12)(c12:HF K cd12 "is_below" = true)(k12:HG K (.ref f12)=true)(a13:NI K "lesser" f13)(l13:LK K "lesser" (Ef 13) f13 oc13 od13 kV13 dc13 pm13 an13 cd13 ct13 sl13)(c13:HF K cd13 "lesser" = true)(k13:HG K (.ref f13)=true)(a14:NI K "greater" f14)(l14:LK K "greater" (Ef 14) f14 oc14 od14 kV14 dc14 pm14 an14 cd14 ct14 sl14)(c14:HF K cd14 "greater" = true)(k14:HG K (.ref f14)=true)(a15:NI K "in_size" f15)(l15:LK K "in_size" (Ef 16) f15 oc15 od15 kV15 dc15 pm15 an15 cd15 ct15 sl15)(c15:HF K cd15 "in_size" = true)(k15:HG K (.ref f15)=true)(a16:NI K "sides_of" f16)(l16:LK K "sides_of" (Ef 23) f16 oc16 od16 kV16 dc16 pm16 an16 cd16 ct16 sl16)(c16:HF K cd16 "sides_of" = true)(k16:HG K (.ref f16)=true)(a17:NI K "numbers_at" f17)(l17:LK K "numbers_at" (Ef 24) f17 oc17 od17 kV17 dc17 pm17 an17 cd17 ct17 sl17)(c17:HF K cd17 "numbers_at" = true)(k17:HG K (.ref f17)=true)(a18:NI K "side_looks" f18)(l18:LK K "side_looks" (Ef 28) f18 oc18 od18 kV18 dc18 pm18 an18 cd18 ct18 sl18)(c18:HF K cd18 "side_looks" = true)(k18:HG K (.ref f18)=true)(a19:NI K "many_side_looks" f19)(l19:LK K "many_side_looks" (Ef 29) f19 oc19 od19 kV19 dc19 pm19 an19 cd19 ct19 sl19)(c19:HF K cd19 "many_side_looks" = true)(k19:HG K (.ref f19)=true)(a20:NI K "many_looks" f20)(l20:LK K "many_looks" (Ef 30) f20 oc20 od20 kV20 dc20 pm20 an20 cd20 ct20 sl20)(c20:HF K cd20 "many_looks" = true)(k20:HG K (.ref f20)=true)(a21:NI K "looks_by_side" f21)(l21:LK K "looks_by_side" (Ef 31) f21 oc21 od21 kV21 dc21 pm21 an21 cd21 ct21 sl21)(c21:HF K cd21 "looks_by_side" = true)(k21:HG K (.ref f21)=true)(a22:NI K "side_size" f22)(l22:LK K "side_size" (Ef 18) f22 oc22 od22 kV22 dc22 pm22 an22 cd22 ct22 sl22)(c22:HF K cd22 "side_size" = true)(k22:HG K (.ref f22)=true)(a23:NI K "goes_ahead" f23)(l23:LK K "goes_ahead" (Ef 19) f23 oc23 od23 kV23 dc23 pm23 an23 cd23 ct23 sl23)(c23:HF K cd23 "goes_ahead" = true)(k23:HG K (.ref f23)=true)(a24:NI K "lies" f24)(l24:LK K "lies" (Ef 20) f24 oc24 od24 kV24 dc24 pm24 an24 cd24 ct24 sl24)(c24:HF K cd24 "lies" = true)(k24:HG K (.ref f24)=true)(a25:NI K "marked" f25)(l25:LK K "marked" (Ef 32) f25 oc25 od25 kV25 dc25 pm25 an25 cd25 ct25 sl25)(c25:HF K cd25 "marked" = true)(k25:HG K (.ref f25)=true)(a26:NI K "widened" f26)(l26:LK K "widened" (Ef 33) f26 oc26 od26 kV26 dc26 pm26 an26 cd26 ct26 sl26)(c26:HF K cd26 "widened" = true)(k26:HG K (.ref f26)=true)(a27:NI K "counted_looks" f27)(l27:LK K "counted_looks" (Ef 34) f27 oc27 od27 kV27 dc27 pm27 an27 cd27 ct27 sl27)(c27:HF K cd27 "counted_looks" = true)(k27:HG K (.ref f27)=true)(a28:NI K "misses" f28)(l28:LK K "misses" (Ef 35) f28 oc28 od28 kV28 dc28 pm28 an28 cd28 ct28 sl28)(c28:HF K cd28 "misses" = true)(k28:HG K (.ref f28)=true)(a29:NI K "first_greatest" f29)(l29:LK K "first_greatest" (Ef 36) f29 oc29 od29 kV29 dc29 pm29 an29 cd29 ct29 sl29)(c29:HF K cd29 "first_greatest" = true)(k29:HG K (.ref f29)=true)(a30:NI K "worst" f30)(l30:LK K "worst" (Ef 37) f30 oc30 od30 kV30 dc30 pm30 an30 cd30 ct30 sl30)(c30:HF K cd30 "worst" = true)(k30:HG K (.ref f30)=true)(a31:NI K "unevenness" f31)(l31:LK K "unevenness" (Ef 38) f31 oc31 od31 kV31 dc31 pm31 an31 cd31 ct31 sl31)(c31:HF K cd31 "unevenness" = true)(k31:HG K (.ref f31)=true)(a32:NI K "wrapped" f32)(l32:LK K "wrapped" (Ef 15) f32 oc32 od32 kV32 dc32 pm32 an32 cd32 ct32 sl32)(c32:HF K cd32 "wrapped" = true)(k32:HG K (.ref f32)=true)(a33:NI K "shifted" f33)(l33:LK K "shifted" (Ef 40) f33 oc33 od33 kV33 dc33 pm33 an33 cd33 ct33 sl33)(c33:HF K cd33 "shifted" = true)(k33:HG K (.ref f33)=true)(a34:NI K "mirrored_number" f34)(l34:LK K "mirrored_number" (Ef 41) f34 oc34 od34 kV34 dc34 pm34 an34 cd34 ct34 sl34)(c34:HF K cd34 "mirrored_number" = true)(k34:HG K (.ref f34)=true)(a35:NI K "mirrored" f35)(l35:LK K "mirrored" (Ef 42) f35 oc35 od35 kV35 dc35 pm35 an35 cd35 ct35 sl35)(c35:HF K cd35 "mirrored" = true)(k35:HG K (.ref f35)=true)(a36:NI K "picked" f36)(l36:LK K "picked" (Ef 43) f36 oc36 od36 kV36 dc36 pm36 an36 cd36 ct36 sl36)(c36:HF K cd36 "picked" = true)(k36:HG K (.ref f36)=true)(a37:NI K "exchanged" f37)(l37:LK K "exchanged" (Ef 44) f37 oc37 od37 kV37 dc37 pm37 an37 cd37 ct37 sl37)(c37:HF K cd37 "exchanged" = true)(k37:HG K (.ref f37)=true)(a38:NI K "shadow" f38)(l38:LK K "shadow" (Ef 45) f38 oc38 od38 kV38 dc38 pm38 an38 cd38 ct38 sl38)(c38:HF K cd38 "shadow" = true)(k38:HG K (.ref f38)=true)(a39:NI K "beside" f39)(l39:LK K "beside" (Ef 46) f39 oc39 od39 kV39 dc39 pm39 an39 cd39 ct39 sl39)(c39:HF K cd39 "beside" = true)(k39:HG K (.ref f39)=true)(a40:NI K "_law_order" f40)(l40:LK K "_law_order" (Ef 54) f40 oc40 od40 kV40 dc40 pm40 an40 cd40 ct40 sl40)(c40:HF K cd40 "_law_order" = true)(k40:HG K (.ref f40)=true)(a41:NI K "_law_round_right" f41)(l41:LK K "_law_round_right" (Ef 55) f41 oc41 od41 kV41 dc41 pm41 an41 cd41 ct41 sl41)(c41:HF K cd41 "_law_round_right" = true)(k41:HG K (.ref f41)=true)(a42:NI K "_law_family_right" f42)(l42:LK K "_law_family_right" (Ef 56) f42 oc42 od42 kV42 dc42 pm42 an42 cd42 ct42 sl42)(c42:HF K cd42 "_law_family_right" = true)(k42:HG K (.ref f42)=true)(a43:NI K "law" f43)(l43:LK K "law" (Ef 57) f43 oc43 od43 kV43 dc43 pm43 an43 cd43 ct43 sl43)(c43:HF K cd43 "law" = true)(k43:HG K (.ref f43)=true)
 (z_int:NZ K "int")(z_bool:NZ K "bool")(z_str:NZ K "str")(z_list:NZ K "list")(z_tuple:NZ K "tuple")(z_dict:NZ K "dict")(z_isinstance:NZ K "isinstance")(z_len:NZ K "len")(z_abs:NZ K "abs")(z_repr:NZ K "repr")(z_range:NZ K "range")(z_all:NZ K "all")(z_any:NZ K "any")(z_sum:NZ K "sum")(z_min:NZ K "min")(z_max:NZ K "max")(z_sorted:NZ K "sorted")(z_zip:NZ K "zip")(z_enumerate:NZ K "enumerate")(z_reversed:NZ K "reversed")(z_divmod:NZ K "divmod")(z_set:NZ K "set")(g_ONE:GlK K "ONE" (pr 1 1))(g_ZERO:GlK K "ZERO" (pr 0 1))(g_BELOW_ALL:GlK K "BELOW_ALL" (.tuple [.int (-1),.int 1]))(g_MOST_LOOKS:GlK K "MOST_LOOKS" (.int 3000))(g_MOST_POINTS:GlK K "MOST_POINTS" (.int 40))  :
 ∃fd:J8,(∀(s:Hv)(v:Hq),NE s fd ⟨[v],[]⟩ [("_law_script", v)])/\∀base:Heap,K.In base->base.Ns IA mg->FnOk l.prog w K mg base G7 12 fa fd ["_law_script"] (gA K):=by
 have e:=hfa.symm.trans (PySem.W.mg_of X G a43)
 cases e
 have B:Bz mg:=⟨HR X G z_int,HR X G z_bool,HR X G z_str,HR X G z_list,HR X G z_tuple,HR X G z_dict,HR X G z_isinstance,HR X G z_len,HR X G z_abs,HR X G z_repr,HR X G z_range,HR X G z_all,HR X G z_any,HR X G z_sum,HR X G z_min,HR X G z_max,HR X G z_sorted,HR X G z_zip,HR X G z_enumerate,HR X G z_reversed,HR X G z_divmod,HR X G z_set⟩
 have T:Txt K mg:=⟨B,(aH X G a1 l1 c1 k1 fun _ _ _ _ _ _ us hl=>(by obtain⟨_,rfl⟩:=sE hl;exact rfl)),(aH X G a2 l2 c2 k2 fun _ _ _ _ _ _ us hl=>(by obtain⟨_,_,rfl⟩:=dJ hl;exact rfl)),(aH X G a3 l3 c3 k3 fun _ _ _ _ _ _ us hl=>(by obtain⟨_,_,rfl⟩:=dJ hl;exact rfl)),(aH X G a4 l4 c4 k4 fun _ _ _ _ _ _ us hl=>(by obtain⟨_,_,rfl⟩:=dJ hl;exact rfl)),(aH X G a5 l5 c5 k5 fun _ _ _ _ _ _ us hl=>(by obtain⟨_,_,_,rfl⟩:=w_ hl;exact rfl)),(aH X G a6 l6 c6 k6 fun _ _ _ _ _ _ us hl=>(by obtain⟨_,_,_,rfl⟩:=w_ hl;exact rfl)),(aH X G a7 l7 c7 k7 fun _ _ _ _ _ _ us hl=>(by obtain⟨_,_,rfl⟩:=dJ hl;exact rfl)),(aH X G a8 l8 c8 k8 fun _ _ _ _ _ _ us hl=>(by obtain⟨_,_,rfl⟩:=dJ hl;exact rfl)),(aH X G a9 l9 c9 k9 fun _ _ _ _ _ _ us hl=>(by obtain⟨_,_,rfl⟩:=dJ hl;exact rfl)),(aH X G a10 l10 c10 k10 fun _ _ _ _ _ _ us hl=>(by obtain⟨_,_,rfl⟩:=dJ hl;exact rfl)),(aH X G a11 l11 c11 k11 fun _ _ _ _ _ _ us hl=>(by obtain⟨_,_,rfl⟩:=dJ hl;exact rfl)),(aH X G a12 l12 c12 k12 fun _ _ _ _ _ _ us hl=>(by obtain⟨_,_,rfl⟩:=dJ hl;exact rfl)),(aH X G a13 l13 c13 k13 fun _ _ _ _ _ _ us hl=>(by obtain⟨_,_,rfl⟩:=dJ hl;exact rfl)),(aH X G a14 l14 c14 k14 fun _ _ _ _ _ _ us hl=>(by obtain⟨_,_,rfl⟩:=dJ hl;exact rfl)),(aH X G a15 l15 c15 k15 fun _ _ _ _ _ _ us hl=>(by obtain⟨_,rfl⟩:=sE hl;exact rfl)),(aH X G a16 l16 c16 k16 fun _ _ _ _ _ _ us hl=>(by obtain⟨_,rfl⟩:=sE hl;exact rfl)),(aH X G a17 l17 c17 k17 fun _ _ _ _ _ _ us hl=>(by obtain⟨_,_,rfl⟩:=dJ hl;exact rfl)),(aH X G a18 l18 c18 k18 fun _ _ _ _ _ _ us hl=>(by obtain⟨_,_,rfl⟩:=dJ hl;exact rfl)),(aH X G a19 l19 c19 k19 fun _ _ _ _ _ _ us hl=>(by obtain⟨_,_,rfl⟩:=dJ hl;exact rfl)),(aH X G a20 l20 c20 k20 fun _ _ _ _ _ _ us hl=>(by obtain⟨_,_,rfl⟩:=dJ hl;exact rfl)),(aH X G a21 l21 c21 k21 fun _ _ _ _ _ _ us hl=>(by obtain⟨_,_,rfl⟩:=dJ hl;exact rfl)),(aH X G a22 l22 c22 k22 fun _ _ _ _ _ _ us hl=>(by obtain⟨_,rfl⟩:=sE hl;exact rfl)),(aH X G a23 l23 c23 k23 fun _ _ _ _ _ _ us hl=>(by obtain⟨_,_,_,rfl⟩:=w_ hl;exact rfl)),(aH X G a24 l24 c24 k24 fun _ _ _ _ _ _ us hl=>(by obtain⟨_,_,_,rfl⟩:=w_ hl;exact rfl)),(aH X G a25 l25 c25 k25 fun _ _ _ _ _ _ us hl=>(by obtain⟨_,_,rfl⟩:=dJ hl;exact rfl)),(aH X G a26 l26 c26 k26 fun _ _ _ _ _ _ us hl=>(by obtain⟨_,_,rfl⟩:=dJ hl;exact rfl)),(aH X G a27 l27 c27 k27 fun _ _ _ _ _ _ us hl=>(by obtain⟨_,_,rfl⟩:=dJ hl;exact rfl)),(aH X G a28 l28 c28 k28 fun _ _ _ _ _ _ us hl=>(by obtain⟨_,_,rfl⟩:=dJ hl;exact rfl)),(aH X G a29 l29 c29 k29 fun _ _ _ _ _ _ us hl=>(by obtain⟨_,rfl⟩:=sE hl;exact rfl)),(aH X G a30 l30 c30 k30 fun _ _ _ _ _ _ us hl=>(by obtain⟨_,_,rfl⟩:=dJ hl;exact rfl)),(aH X G a31 l31 c31 k31 fun _ _ _ _ _ _ us hl=>(by obtain⟨_,_,rfl⟩:=dJ hl;exact rfl)),(aH X G a32 l32 c32 k32 fun _ _ _ _ _ _ us hl=>(by obtain⟨_,rfl⟩:=sE hl;exact rfl)),(aH X G a33 l33 c33 k33 fun _ _ _ _ _ _ us hl=>(by obtain⟨_,_,rfl⟩:=dJ hl;exact rfl)),(aH X G a34 l34 c34 k34 fun _ _ _ _ _ _ us hl=>(by obtain⟨_,rfl⟩:=sE hl;exact rfl)),(aH X G a35 l35 c35 k35 fun _ _ _ _ _ _ us hl=>(by obtain⟨_,_,rfl⟩:=dJ hl;exact rfl)),(aH X G a36 l36 c36 k36 fun _ _ _ _ _ _ us hl=>(by obtain⟨_,_,rfl⟩:=dJ hl;exact rfl)),(aH X G a37 l37 c37 k37 fun _ _ _ _ _ _ us hl=>(by obtain⟨_,_,rfl⟩:=dJ hl;exact rfl)),(aH X G a38 l38 c38 k38 fun _ _ _ _ _ _ us hl=>(by obtain⟨_,_,rfl⟩:=dJ hl;exact rfl)),(aH X G a39 l39 c39 k39 fun _ _ _ _ _ _ us hl=>(by obtain⟨_,_,rfl⟩:=dJ hl;exact rfl)),(aH X G a40 l40 c40 k40 fun _ _ _ _ _ _ us hl=>(by obtain⟨_,_,rfl⟩:=dJ hl;exact rfl)),(aH X G a41 l41 c41 k41 fun _ _ _ _ _ _ us hl=>(by obtain⟨_,_,rfl⟩:=dJ hl;exact rfl)),(aH X G a42 l42 c42 k42 fun _ _ _ _ _ _ us hl=>(by obtain⟨_,_,_,_,rfl⟩:=CZ hl;exact rfl)),g_ONE.of X G,g_ZERO.of X G,g_BELOW_ALL.of X G,g_MOST_LOOKS.of X G,g_MOST_POINTS.of X G⟩
 have FL:=pH (st:=Ef 57) l43 c43 k43
 exact⟨_,fun s v=>.of_eq rfl,fun base _ _=>yq FL T ⟩
theorem walk{l:MC}{q:HZ}{YP:IL->Heap->Prop}{d:DefRec}{K:NQ->Kc}(hn:l.most=some 63)(hdf:d.params.defaults=[])
 (hY:∀(w:IL)(h:Heap),YP w h->(K w.params).In h)
 (F:∀(w:IL)(mg:Str->Option Hq)(fa:Addr)(h:Heap),(K w.params).In h->h.Ns IA mg->mg d.name=some (.ref fa) ->
  ∃fd:J8,(∀(s:Hv)(u:Hq),NE s fd ⟨[u],[]⟩ [("_law_script", u)])/\∀base:Heap,(K w.params).In base->base.Ns IA mg->FnOk l.prog w (K w.params) mg base G7 12 fa fd ["_law_script"] (gA (K w.params))) :
 PySem.W.WalkO q loose XP YP l.row.toRowW d [] (fun f vs=>PySem.call f vs) :=
 L2.walk_of (n:=63) (k:=12) (x := "_law_script") (CX:=fun _=>G7) (sp:=fun w=>gA (K w.params)) hn (by decide) hdf ⟨rfl,by decide,by decide,rfl⟩ hY F (fun _ _ a ns hl _ hS=>⟨a,ns,rfl,hS,hl,fun _=>rfl⟩) fun _ _ _ _ _ z=>z
end K25
noncomputable def PySem.W.Fast.tw9558624998596232760:PySem.Params->Kc:=K25.heapK
theorem PySem.W.Fast.te9558624998596232760:K25.heapK=PySem.W.Fast.tw9558624998596232760:=rfl
open PySem PySem.W PyProof.Rows
set_option maxRecDepth 100000 in
set_option maxHeartbeats 0 in
theorem PySem.Challenge.cw_evenpoints_k25_whole_moved_points_holds : PySem.Challenge.rw_evenpoints_k25_whole_moved_points.Holds := by
 refine(congrArg MC.Holds K25.rw_eq).mpr ?_
 w_on;o_law
 refine holds_open (loose:=[]) (XP:=XL K25.zview []) (YP:=Hook.says (kHook K25.heapK K25.heapA K25.heapE)) K25.zleft
  (Hook.of _) (Hook.keeps _) (fun s e=>xl_of s (Hw.mp e).1)
  XL.keeps (by rfl) (by rfl) (by rfl) (fun s e=>recFacts_of (Hw.mp e).2) (by rfl)
  (by first|assumption|decide +kernel) (by decide +kernel) ⟨rfl,rfl,rfl,rfl,rfl,by decide +kernel⟩ ?hw ?hc
 (case hw=>w_witness2)
 k_fill
 refine K25.walk (l:=K25.rwN) rfl rfl (fun w h Y=>PySem.W.kIn_of (as:=K25.heapA) (e:=K25.heapE) Y) ?F
 case F =>
  intro w mg fa h KX G hmg
  refine' K25.all_mk KX G hmg ?a1 ?l1 ?c1 ?k1 ?a2 ?l2 ?c2 ?k2 ?a3 ?l3 ?c3 ?k3 ?a4 ?l4 ?c4 ?k4 ?a5 ?l5 ?c5 ?k5 ?a6 ?l6 ?c6 ?k6 ?a7 ?l7 ?c7 ?k7 ?a8 ?l8 ?c8 ?k8 ?a9 ?l9 ?c9 ?k9 ?a10 ?l10 ?c10 ?k10 ?a11 ?l11 ?c11 ?k11 ?a12 ?l12 ?c12 ?k12 ?a13 ?l13 ?c13 ?k13 ?a14 ?l14 ?c14 ?k14 ?a15 ?l15 ?c15 ?k15 ?a16 ?l16 ?c16 ?k16 ?a17 ?l17 ?c17 ?k17 ?a18 ?l18 ?c18 ?k18 ?a19 ?l19 ?c19 ?k19 ?a20 ?l20 ?c20 ?k20 ?a21 ?l21 ?c21 ?k21 ?a22 ?l22 ?c22 ?k22 ?a23 ?l23 ?c23 ?k23 ?a24 ?l24 ?c24 ?k24 ?a25 ?l25 ?c25 ?k25 ?a26 ?l26 ?c26 ?k26 ?a27 ?l27 ?c27 ?k27 ?a28 ?l28 ?c28 ?k28 ?a29 ?l29 ?c29 ?k29 ?a30 ?l30 ?c30 ?k30 ?a31 ?l31 ?c31 ?k31 ?a32 ?l32 ?c32 ?k32 ?a33 ?l33 ?c33 ?k33 ?a34 ?l34 ?c34 ?k34 ?a35 ?l35 ?c35 ?k35 ?a36 ?l36 ?c36 ?k36 ?a37 ?l37 ?c37 ?k37 ?a38 ?l38 ?c38 ?k38 ?a39 ?l39 ?c39 ?k39 ?a40 ?l40 ?c40 ?k40 ?a41 ?l41 ?c41 ?k41 ?a42 ?l42 ?c42 ?k42 ?a43 ?l43 ?c43 ?k43 ?zint ?zbool ?zstr ?zlist ?ztuple ?zdict ?zisinstance ?zlen ?zabs ?zrepr ?zrange ?zall ?zany ?zsum ?zmin ?zmax ?zsorted ?zzip ?zenumerate ?zreversed ?zdivmod ?zset ?gONE ?gZERO ?gBELOW_ALL ?gMOST_LOOKS ?gMOST_POINTS 
  all_goals (try change _=_)
  (case a1=>k_is);(case l1=>k_is);(case c1=>k_is);(case k1=>k_is)
  (case a2=>k_is);(case l2=>k_is);(case c2=>k_is);(case k2=>k_is)
  (case a3=>k_is);(case l3=>k_is);(case c3=>k_is);(case k3=>k_is)
  (case a4=>k_is);(case l4=>k_is);(case c4=>k_is);(case k4=>k_is)
  (case a5=>k_is);(case l5=>k_is);(case c5=>k_is);(case k5=>k_is)
  (case a6=>k_is);(case l6=>k_is);(case c6=>k_is);(case k6=>k_is)
  (case a7=>k_is);(case l7=>k_is);(case c7=>k_is);(case k7=>k_is)
  (case a8=>k_is);(case l8=>k_is);(case c8=>k_is);(case k8=>k_is)
  (case a9=>k_is);(case l9=>k_is);(case c9=>k_is);(case k9=>k_is)
  (case a10=>k_is);(case l10=>k_is);(case c10=>k_is);(case k10=>k_is)
  (case a11=>k_is);(case l11=>k_is);(case c11=>k_is);(case k11=>k_is)
  (case a12=>k_is);(case l12=>k_is);(case c12=>k_is);(case k12=>k_is)
  (case a13=>k_is);(case l13=>k_is);(case c13=>k_is);(case k13=>k_is)
  (case a14=>k_is);(case l14=>k_is);(case c14=>k_is);(case k14=>k_is)
  (case a15=>k_is);(case l15=>k_is);(case c15=>k_is);(case k15=>k_is)
  (case a16=>k_is);(case l16=>k_is);(case c16=>k_is);(case k16=>k_is)
  (case a17=>k_is);(case l17=>k_is);(case c17=>k_is);(case k17=>k_is)
  (case a18=>k_is);(case l18=>k_is);(case c18=>k_is);(case k18=>k_is)
  (case a19=>k_is);(case l19=>k_is);(case c19=>k_is);(case k19=>k_is)
  (case a20=>k_is);(case l20=>k_is);(case c20=>k_is);(case k20=>k_is)
  (case a21=>k_is);(case l21=>k_is);(case c21=>k_is);(case k21=>k_is)
  (case a22=>k_is);(case l22=>k_is);(case c22=>k_is);(case k22=>k_is)
  (case a23=>k_is);(case l23=>k_is);(case c23=>k_is);(case k23=>k_is)
  (case a24=>k_is);(case l24=>k_is);(case c24=>k_is);(case k24=>k_is)
  (case a25=>k_is);(case l25=>k_is);(case c25=>k_is);(case k25=>k_is)
  (case a26=>k_is);(case l26=>k_is);(case c26=>k_is);(case k26=>k_is)
  (case a27=>k_is);(case l27=>k_is);(case c27=>k_is);(case k27=>k_is)
  (case a28=>k_is);(case l28=>k_is);(case c28=>k_is);(case k28=>k_is)
  (case a29=>k_is);(case l29=>k_is);(case c29=>k_is);(case k29=>k_is)
  (case a30=>k_is);(case l30=>k_is);(case c30=>k_is);(case k30=>k_is)
  (case a31=>k_is);(case l31=>k_is);(case c31=>k_is);(case k31=>k_is)
  (case a32=>k_is);(case l32=>k_is);(case c32=>k_is);(case k32=>k_is)
  (case a33=>k_is);(case l33=>k_is);(case c33=>k_is);(case k33=>k_is)
  (case a34=>k_is);(case l34=>k_is);(case c34=>k_is);(case k34=>k_is)
  (case a35=>k_is);(case l35=>k_is);(case c35=>k_is);(case k35=>k_is)
  (case a36=>k_is);(case l36=>k_is);(case c36=>k_is);(case k36=>k_is)
  (case a37=>k_is);(case l37=>k_is);(case c37=>k_is);(case k37=>k_is)
  (case a38=>k_is);(case l38=>k_is);(case c38=>k_is);(case k38=>k_is)
  (case a39=>k_is);(case l39=>k_is);(case c39=>k_is);(case k39=>k_is)
  (case a40=>k_is);(case l40=>k_is);(case c40=>k_is);(case k40=>k_is)
  (case a41=>k_is);(case l41=>k_is);(case c41=>k_is);(case k41=>k_is)
  (case a42=>k_is);(case l42=>k_is);(case c42=>k_is);(case k42=>k_is)
  (case a43=>k_is);(case l43=>k_is);(case c43=>k_is);(case k43=>k_is)
  (case zint=>k_is)
  (case zbool=>k_is)
  (case zstr=>k_is)
  (case zlist=>k_is)
  (case ztuple=>k_is)
  (case zdict=>k_is)
  (case zisinstance=>k_is)
  (case zlen=>k_is)
  (case zabs=>k_is)
  (case zrepr=>k_is)
  (case zrange=>k_is)
  (case zall=>k_is)
  (case zany=>k_is)
  (case zsum=>k_is)
  (case zmin=>k_is)
  (case zmax=>k_is)
  (case zsorted=>k_is)
  (case zzip=>k_is)
  (case zenumerate=>k_is)
  (case zreversed=>k_is)
  (case zdivmod=>k_is)
  (case zset=>k_is)
  (case gONE=>refine' L2.VL.GlK.pair ?h1 ?h2;(case h1=>k_is);(case h2=>k_is))
  (case gZERO=>refine' L2.VL.GlK.pair ?h1 ?h2;(case h1=>k_is);(case h2=>k_is))
  (case gBELOW_ALL=>refine' L2.VL.GlK.pair ?h1 ?h2;(case h1=>k_is);(case h2=>k_is))
  (case gMOST_LOOKS=>refine' L2.VL.GlK.int ?h1;(case h1=>k_is))
  (case gMOST_POINTS=>refine' L2.VL.GlK.int ?h1;(case h1=>k_is))
