import PyProof.Rows.All
import Wide.All
import OpenK.AllK
import Wide.FinOn
import Lean
import PyProof.EqAt
import PyProof.EqKinds
import PyProof.TupleCall
import KE.KDictSum
import KE.KMinKey
import PyProof.Rows.CallKwBuiltin
import PyProof.SumWalkG
import PyProof.WalksMore
import PyProof.AutoSeq1
import PySem.Challenge.RW_evenpoints_k21_worst_boxes
set_option Elab.async false
set_option linter.all false
set_option maxRecDepth 100000
set_option maxHeartbeats 4000000
open And renaming intro->Hj, imp_right->Hn
open Array renaming length_toList->Km, all_eq_true_iff_forall_mem->K6, toArray_toList->MQ, mk->Ny
open Bool renaming and_eq_true_iff->Hz, or_eq_true_iff->HW, false_ne_true->Ic, false_eq_true->IT, not_false->Kx, not_true->KJ, and_eq_true->Lp, eq_iff_iff->LC
open Classical renaming choose_spec->Ho, choose->ID
open Exists renaming imp->HA
open False renaming elim->Jb
open ForInStep renaming yield->LG
open Iff renaming rfl->Ls
open Int renaming natAbs_natCast->Iq, toNat_natCast->Ji, fmod_nonneg_of_pos->Jn, natAbs_mul->Jv, gcd->Jz, mul_le_mul_of_nonneg_right->JI, eq_ofNat_of_zero_le->JT, toNat->J0, fdiv_eq_ediv_of_nonneg->J4, fmod_lt_of_pos->J8, fmod_add_mul_fdiv->MA, natCast_mul->ME, mul_pos->M3, mul_comm->Nu, le_trans->Nv, mul_one->NB
open List renaming mem_cons_of_mem->Ht, length_map->Hu, mem_cons_self->Hy, length_append->HC, take_of_length_le->HE, take_succ_eq_append_getElem->HI, mem_append_right->HK, size_toArray->HL, mem_cons->HN, getElem?_eq_getElem->HP, length_cons->HV, getElem?_eq_some_iff->HY, getElem?_set_ne->Ib, mem_singleton->Ie, replicate->Ih, getElem?_set_self->Ii, mem_append->Ik, range->Ip, getD_eq_getElem?_getD->Ir, map_append->Iu, getElem_mem->Iv, getElem?_map->Ix, Nodup->Iy, length_take->Iz, mem_map->IA, flatMap_cons->IB, map_cons->IF, length_filterMap_le->IK, lookup_cons->IM, drop_eq_getElem_cons->IP, filterMap_cons->IW, find?_cons->I_, getElem?_set->Jc, mem_filterMap->Jd, replicate_succ->Jf, map_map->Jg, mem_flatMap->Jh, all_eq_true->Jy, foldl_append->JD, flatMap_append->JE, length_filter_le->JJ, drop_length->JL, not_mem_nil->JM, lookup->JN, mem_append_left->JO, mem_of_getElem?->JP, mem_range->JU, append_nil->JX, nodup_cons->JY, map_congr_left->JZ, flatMap_singleton->J3, mem_of_mem_take->Ka, flatten_cons->Kf, foldl_cons->Kg, length_drop->Kt, pairwise_cons->Kz, append_assoc->KG, length_range->KI, exists_cons_of_ne_nil->KO, getElem?_append_left->KP, any_cons->K1, map_take->K5, drop_of_length_le->K9, length_singleton->Lk, take_append_drop->Lm, exists_cons_of_length_pos->Lo, cons_append->Lq, ext_getElem->Lr, map_flatMap->Lu, eq_nil_of_length_eq_zero->Lv, mem_filter->LA, length_nil->LF, getElem?_append_right->LN, map_nil->LU, length_zipIdx->LW, mem_of_find?_eq_some->L1, getElem?_replicate->Ma, length_eq_zero_iff->Mf, filterMap_eq_map'->Ms, of_mem_zip->Mx, getElem?_eq_none->My, filterMap_append->MG, map->MN, mem_of_mem_drop->MS, pairwise_append->MT, length_pos_iff->M4, length_flatMap->M5, map_id->M6, map_drop->Nj, all_map->Nt, length->NE, getD->NG
open List.Pairwise renaming nil->L5
open List.cons renaming injEq->IE
open Nat renaming lt_of_lt_of_le->Hr, le_refl->Hs, pow_le_pow_right->HF, zero_le->HS, le_trans->HX, ne_of_lt->Im, lt_irrefl->JF, lt_of_le_of_lt->J6, ne_of_gt->KB, le_of_succ_le->KH, lt_succ_of_lt->Lg, mul_add->Lh, mul_le_mul_right->Lw, min_eq_left->LI, add_mul->LL, mul_comm->LV, min_eq_right->Mj, lt_succ_self->Mk, mul_lt_mul''->Mm, mul_ne_zero->MD, pow_succ->MF, le_of_lt->No, pow_add->NL
open Nat.succ renaming inj->MI
open Ne renaming symm->MX
open Option renaming isSome_iff_exists->Kd, map_eq_some_iff->K7
open Option.some renaming inj->IJ
open Or renaming inr->IR, inl->Js
open PyProof.Rows renaming slot_tuple_getitem->IH, callWith_type1->Jw, IntsAre->LD, assignInOrder_cons->LQ, envOfC->Mh, subscriptTail_builtinR->Mp, AllBare->MW, subscriptTail->Nd, seqObj->NK
open PySem renaming PyData->Hh, wpAny_bind->Hl, Value->Hq, Shared->Hv, starEach->Hw, wpAny_pure->HD, sizeLine_eq->HM, foldedSetIterable->H0, wpAny->Ia, Program->Ij, model->Il, wpAny_mono->Is, mainGlobals->II, wpAny_newObj_type->IL, Paired->IQ, Around->IU, World->IV, mem_of_lookup->IZ, backTo->I0, wpAny_callSpecial?_slot->Jj, wpAny_standAt->Jq, swapsWith->Jr, wpAny_comprehension_free->Jt, cellsFrom->JA, wpAny_truthy_bool->JC, letOwnedTupleGo->JG, compareOp->JH, wpAny_field->JK, attributeBase->JR, codeAny->JW, wpAny_call_entry->J5, wpAny_passesOwn->Kb, wpAny_pyIter_list->Kc, bootBuiltins->Ki, binaryOp->Kn, FuncData->Ko, keywordEach->Kp, wpAny_holding->Kq, assignEach->Ku, wpAny_Call_Name_kw->Ky, wpAny_setField_rec->KA, Keyword->KC, sysModules->KF, assign->KM, behindInMarks->KY, NameKind->KZ, wpAny_assign_Name->La, sliceBounds->Lb, newFunctionEnv->Lj, exec_Assign_Name_used->Ll, backToKw->Lx, wpAny_rule->Ly, call_meets->Lz, wpAny_execs_nil->LB, theTreesLotGoes->LH, wpAny_pyIter_tuple->LR, codeAny_mono->LS, repr_of_reads'->LY, wpAny_seqItems->L0, wpAny_sequenceKey->L4, swapsWithSole->L9, swappedStores->L_, getItem->Mb, wpAny_letGo->Mc, plainId_quiet->Md, noFill_tuple_add->Mi, cLine->Mn, codeAny_compStart_list->Mr, importedModules->Mu, pyNext->Mw, codeAny_loop->Mz, wpAny_updateSeq->MC, wpAny_loadName_local->MO, intBits_le_iff->MU, wpAny_tryCatch->MV, wpAny_loadName_cell->MY, standAt->MZ, subscripted->M0, wpAny_noted->M1, tupleKind->M9, assignInOrder->M_, PassesOwn->Na, seq_tuple_add->Nb, IsPart->Nc, compTurn->Nf, noteFrame->Ng, compPost->Nh, comprehension->Ni, valueAt->Nl, callerA->Nm, concat_meets->Np, wpAny_typeOf->Nq, Operator->Nz, pyIter->NA, Result->NC, BindsTo->ND, pushCells->NF, seqItems?->NH, wpAny_of_eq->NJ, IsEnum->NM, Params->NO, relabel->NQ, CmpOp->NR, atKey->NS
open PySem.Around renaming under_plainId->MR
open PySem.AutoSeq1 renaming wpAny_loadPart'->KW
open PySem.Builtin renaming bitAnd->Li
open PySem.Builtin.Builtins renaming bindParams->LJ
open PySem.Builtin.List renaming listTooLong->Kh, listFitsIndex->KN
open PySem.Builtin.Slice renaming slicePlaces->J_, sliceAdjust->KQ, sliceApplied->LO
open PySem.Builtin.SmallTypes renaming nextOf->Jp, ownedTupleHandOut->KR, ownedTupleIsFree->KS
open PySem.Builtin.Tuple renaming tupleExact->Ke, tupleItemsOf->LP
open PySem.Calls renaming Name_function_global->LM, callWith_builtin->Mq
open PySem.F renaming plain_max_loop->JB, plainAttrs_list->Kr, args_tuple_add_2->KU, entry_tuple_add->K0, slot_tuple_add->K8, slot_list_append->L6, type_list_append->L7, slot_list_index->Mg, entry_max_loop->Mt
open PySem.Heap renaming get?_push_of_some->Hm, lt_size->HJ, get?_push_size->HR, get?_update_other->Jm, SameBut->Kj, size_push->Kw, get?_update_self->MB
open PySem.Heap.SameBut renaming refl->L8, update->M2
open PySem.NameKind renaming free->IN, cell->JS
open PySem.Obj renaming mapSeq->Nk
open PySem.Paired renaming length->Kl
open PySem.PassesOwn renaming never->Ig
open PySem.PyData renaming int->HB, eqv->HQ, canLayAll0->H_, tuple->Io, str->Iw, bool->IG, depthAll->IS, leavesShort->Jk, canLay0->Ju, leavesShortAll->J7, depth->J9, list->Ks, showable->K4, noDict_hsm->Lc, bulkAll->LZ, shown_le_bulk->MP, strOk->Nr
open PySem.PyData.int renaming injEq->Ml
open PySem.PyData.list renaming injEq->Ld
open PySem.PyData.tuple renaming injEq->Je
open PySem.SeqAt renaming shaped->HU, canLay_of_shaped->J1
open PySem.Str renaming ofString->Hi
open PySem.Value renaming ref->JV, none->K_, int->L3, str->Mv, bool->ML
open PySem.W renaming codeIn->HG, keepIn->HH, mg_none_of->HZ, boot_heap->Jo, Frag->Kk, OpenLaw->MJ, boot_drawn->MK, boot_toks->M7, nsIn->Nw, fnOf->Nx, OpenLaw->NP
open Rat renaming intCast_mul->Ja, le_of_lt->Jl, not_lt->Jx, div_def->KE, lt_irrefl->KL, le_trans->Ln, lt_of_le_of_ne->LX, normalize->Me, intCast_sub->MH, not_le->Nn, le_refl->NN
open Sum renaming inr->IC, inl->JQ
open ToString renaming toString->MM
open True renaming intro->Kv
open PySem PySem.Spec PyProof.Rows
variable{loose N N':List Str}{α β:Type}{xs xs':List Hh}{us:List Hq}{a b it:Addr}{P:Ij}{h h':Heap}{t' i j n f:Nat}{x qual:Str}{A:IU}{E Q:Hq->Hv->Prop}{u:Hq}{e c tg iter:Expr}{s:Hv}{pos pos' px apos cpos spos:Pos}{pins:List (Addr×Obj)}{fp:List Addr}{op:NR}{fd:Ko}{ps:List (List Rat)}{mg:Str->Option Hq}{scope:Scope}{ns:List Int}{XP:(Str->Option Hq)->Heap->Prop}{d:Hh}{r q:Rat}{cl:List (Str×Addr)}{ifs:List Expr}{tn:Nat->Heap->Prop}{Rp:Addr->NC->Hv->Prop}{n':Nat×List Int}{xss:List (List Hh)}{rs:List Rat}
noncomputable section
namespace L2
open PySem
noncomputable def pL(s:Stmt)(j:Nat):Stmt:=match s with
 | .ClassDef _ _ _ body _ _ _ _ _ _ _=>body.getD j (.Pass ⟨0,0,0,0⟩)
 | _=>.Pass ⟨0,0,0,0⟩
noncomputable def defArgs(s:Stmt):Arguments:=match s with
 | .FunctionDef _ a _ _ _ _ _ _ _ _=>a
 | _=>{posonlyargs:=[],args:=[],vararg:=none,kwonlyargs:=[],kw_defaults:=[],kwarg:=none,defaults:=[]}
noncomputable def defBody(s:Stmt):List Stmt:=match s with
 | .FunctionDef _ _ b _ _ _ _ _ _ _=>b
 | _=>[]
noncomputable def defScope(s:Stmt):Scope:=match s with
 | .FunctionDef _ _ _ _ _ _ sc _ _ _=>sc
 | _=>{kind:=.function,names:=[],isGenerator:=false,isCoroutine:=false}
end L2
namespace L2.TT
open PySem PySem.W
noncomputable def FK(tb:String->Option Builtin)(p:Ij)(w:IV)(m:Nat)(ann:Option Hq):Nat->SharedT->Thread->Option SharedT
 | 0,_,_=>none
 | n+1,s,t=>match through t with
   | true=>some s
   | false=>match stepOk m ann t with
     | false=>none
     | true=>match stepT (denote tb) p w s t with
       | some r=>FK tb p w m ann n r.1 r.2
       | none=>none
theorem tJ{tb:String->Option Builtin}{p:Ij}{w:IV}{m:Nat}{ann:Option Hq}:∀{n:Nat}{s s':SharedT}{t:Thread},FK tb p w m ann n s t=some s'->topRun tb p w m ann n s.abs t=some s'.abs
 | 0,_,_,_,h=>by cases h
 | n+1,s,s',t,h=>by
   unfold FK at h
   unfold topRun
   cases he:through t with
   | true=>rw[he]at h;cases h;rfl
   | false =>
     rw[he]at h
     cases hk:stepOk m ann t with
     | false=>rw[hk]at h;cases h
     | true =>
       rw[hk]at h
       cases hs:stepT (denote tb) p w s t with
       | none=>rw[hs]at h;cases h
       | some r=>rw[hs]at h;rw[stepT_spec hs];exact tJ h
noncomputable def bt(os:List Obj):Nat->Nat->Nat->BT
 | 0,_,_=>.nil
 | f+1,a,b=>match os[b]? with
   | some o=>.node o (bt os f (2*a) (a+b)) (bt os f (2*a) (2*a+b))
   | none=>.nil
theorem boot_abs(P:NO):absHeap (bt (Jo P).objs.toList 12 1 0) (Jo P).objs.size (Jo P).life=Jo P:=by kernel_rfl
abbrev yV(p q:Ij)(loose:List Str)(Xt:Hv->Bool){α:Type}(Yf:Hv->α)(h₀:Heap)(s:Hv) :=
 (staticsOk (Mu p.main.body) h₀ s.heap&&namesBound p s.heap&&gensDone s&&laidKept h₀ s.heap,openSeen q loose (Mu p.main.body) Xt true s,Yf s)
theorem left_of{p q:Ij}{Xt:Hv->Bool}{Yf:Hv->α}{Ya:IV->α}{N m M:Nat}{ann:Option Hq}
 (e:opening p=plainProg p.main.scope.names)(hN:Nat.ble 600 N=true)(f:∀s,fenceModules? p s=some s)(le:Nat.ble M N=true)
 (size:∀w:IV,((Jo w.params).isNs II,(Jo w.params).objs.size,(Jo w.params).nsMap II "__annotations__")=(true,m,ann))
 (run:∀(w:IV)(os:OsState),(FK treeTable p w m ann M ⟨bt (Jo w.params).objs.toList 12 1 0,(Jo w.params).objs.size,(Jo w.params).life,Ny [],MK,M7,os⟩ (topStub p)).map (fun s=>yV p q loose Xt Yf (Jo w.params) s.abs)=some (true,openGood q loose,Ya w)) :
 LeftO p q loose Xt Yf Ya N:=fun w=>by
 obtain⟨⟨h,gs,d,k,os⟩,eo,e'⟩:=K7.mp (boot_open e hN f w)
 obtain⟨rfl,rfl,rfl,rfl⟩:h=Jo w.params/\gs=Ny []/\d=MK/\k=M7:=by simpa using e'
 obtain⟨z1,z2,z3⟩:_/\_/\_:=by simpa only[Prod.mk.injEq]using size w
 obtain⟨s',r,l⟩:=K7.mp (run w os)
 obtain⟨l1,l2,l3⟩:_/\_/\_:=by simpa only[yV,Prod.mk.injEq]using l
 have r:=tJ r
 have hb:SharedT.abs ⟨bt (Jo w.params).objs.toList 12 1 0,(Jo w.params).objs.size,(Jo w.params).life,Ny [],MK,M7,os⟩=⟨Jo w.params,Ny [],MK,M7,os⟩:=by
  show Hv.mk (absHeap _ _ _) _ _ _ _=_
  rw[boot_abs]
 rw[hb]at r
 have r:=topRun_mono (N-M) _ _ _ _ r
 rw[show M+(N-M)=N by have:=Nat.le_of_ble_eq_true le;omega]at r
 have t:topFrom treeTable p w N ⟨Jo w.params,Ny [],MK,M7,os⟩=some s'.abs:=by
  unfold topFrom
  dsimp only
  rw[z1,z2,z3,r]
  show(match staticsOk (Mu p.main.body) (Jo w.params) s'.abs.heap&&namesBound p s'.abs.heap&&gensDone s'.abs&&laidKept (Jo w.params) s'.abs.heap with|true=>_|false=>_)=_
  rw[l1]
 unfold openEnds
 rw[eo]
 show(topFrom treeTable p w N _).map _=_
 rw[t]
 exact congrArg some (Prod.ext l2 l3)
end L2.TT
namespace K21
open PySem
def Ee(i:Nat):Stmt:=PySem.Challenge.pw_evenpoints_k21_worst_boxes.main.body.getD i (.Pass ⟨0,0,0,0⟩)
end K21
noncomputable def PySem.W.Fast.tw17667403334876722683:PySem.Program:=PySem.Challenge.pw_evenpoints_k21_worst_boxes
theorem PySem.W.Fast.te17667403334876722683:PySem.Challenge.pw_evenpoints_k21_worst_boxes=PySem.W.Fast.tw17667403334876722683:=rfl
namespace K21
open PySem PySem.W L2
def DK:Stmt:=Ee 0
def DJ:Stmt:=Ee 1
def DI:Stmt:=Ee 2
def DH:Stmt:=Ee 3
def DG:Stmt:=Ee 4
def DF:Stmt:=Ee 5
def DE:Stmt:=Ee 6
def DC:Stmt:=Ee 7
def DB:Stmt:=Ee 8
def DA:Stmt:=Ee 9
def Co:Stmt:=Ee 10
def Cn:Stmt:=Ee 11
def Cm:Stmt:=Ee 12
def Ck:Stmt:=Ee 13
def Cj:Stmt:=Ee 14
def Ci:Stmt:=Ee 15
def CW:Stmt:=Ee 16
def Ch:Stmt:=Ee 17
def Cg:Stmt:=Ee 18
def Cf:Stmt:=Ee 19
def CV:Stmt:=Ee 20
def Ce:Stmt:=Ee 21
def Cd:Stmt:=Ee 22
def CU:Stmt:=Ee 23
def Cc:Stmt:=Ee 24
def Cb:Stmt:=Ee 25
def Ca:Stmt:=Ee 26
def B_:Stmt:=Ee 27
def B9:Stmt:=Ee 28
def B8:Stmt:=Ee 29
def B7:Stmt:=Ee 30
def B6:Stmt:=Ee 31
def B5:Stmt:=Ee 32
def B4:Stmt:=Ee 33
def B3:Stmt:=Ee 34
def B0:Stmt:=Ee 35
def BZ:Stmt:=Ee 36
def CT:Stmt:=Ee 37
def BY:Stmt:=Ee 38
def BX:Stmt:=Ee 39
def BW:Stmt:=Ee 40
def BV:Stmt:=Ee 41
def BU:Stmt:=Ee 42
def BS:Stmt:=Ee 43
def BR:Stmt:=Ee 44
def BQ:Stmt:=Ee 45
def BP:Stmt:=Ee 46
def BO:Stmt:=Ee 47
def BN:Stmt:=Ee 48
def BM:Stmt:=Ee 49
def BL:Stmt:=Ee 50
def BK:Stmt:=Ee 51
def BJ:Stmt:=Ee 52
def BI:Stmt:=Ee 53
def BH:Stmt:=Ee 54
def BG:Stmt:=Ee 55
def BF:Stmt:=Ee 56
def BE:Stmt:=Ee 57
def EO:Ij:={PySem.Challenge.pw_evenpoints_k21_worst_boxes with main:={PySem.Challenge.pw_evenpoints_k21_worst_boxes.main with body:=[DK,DJ,DI,DH,DG,DF,DE,DC,DB,DA,Co,Cn,Cm,Ck,Cj,Ci,CW,Ch,Cg,Cf,CV,Ce,Cd,CU,Cc,Cb,Ca,B_,B9,B8,B7,B6,B5,B4,B3,B0,BZ,CT,BY,BX,BW,BV,BU,BS,BR,BQ,BP,BO,BN,BM,BL,BK,BJ,BI,BH,BG,BF,BE]}}
def rwN:NP:={PySem.Challenge.rw_evenpoints_k21_worst_boxes with prog:=EO}
noncomputable def zview:Ij:={PySem.Challenge.pw_evenpoints_k21_worst_boxes with main:={PySem.Challenge.pw_evenpoints_k21_worst_boxes.main with body:=[DJ,DI,DH,DF,DE,DC,DB,DA,Co,Cn,Cm,Ck,Cj,Ci,Ch,Cg,Cf,Ce,Cd,Cc,Cb,Ca,B_,B9,B8,B7,B6,B5,B4,B3,B0,BZ,BY,BX,BW,BV,BU,BS,BR,BQ,BP,BO,BN,BM,BL,BK,BJ,BI,BH,BG,BF,BE]}}
theorem rw_eq:PySem.Challenge.rw_evenpoints_k21_worst_boxes=rwN:=rfl
noncomputable def DT(P:NO)(x:Str)(t:Nat)(v:Hq):DictEntry:=⟨Hh.keyHash P x,.str x t,v⟩
noncomputable def DS(n q:Str)(s:Stmt)(pm cd:Hq):Obj:=⟨.type "function", none,.func (fnOf n q (defArgs s) (defBody s) (defScope s) .none .none .none pm none cd .none),#[]⟩
noncomputable def DV(n q:Str)(a b c:Nat)(l x y:Int)(r:Nat)(z:Int)(r2:Nat)(v1 v2 v3:Hq)(r3:Nat)(u:Int)(c2:Nat):Obj:=⟨.type "code", none,.fields #[.str n a,.str q b,.str "/claim/cut.py" c,.int l 0,.int x 0,.int 0 0,.int 0 0,.int y 0,.ref r,.bool true,.int z 0,.ref r2,v1,v2,v3,.ref r3,.int u 0,.int l 0,.str "/claim/cut.py" c2],#[]⟩
noncomputable def DQ:Hq:=.str "evenpoints.errors" 187
noncomputable def DP:Hq:=.str "evenpoints.fractions" 257
noncomputable def DO:Hq:=.str "evenpoints.boxes" 336
noncomputable def DN:Hq:=.str "evenpoints.points" 367
noncomputable def DM:Hq:=.str "evenpoints.looks" 382
noncomputable def DL:Hq:=.str "law_evenpoints_k21_worst_boxes" 476
abbrev DR(n:Str):=DS n n
abbrev DU(n:Str):=DV n n
noncomputable def heapK(P:NO):Frag :=
 (nat_lit 2,(.mk .none none (.dict #[] 0) #[])) ::
 (nat_lit 3,(.mk (.type "dict") none (.dict #[DT P "__name__" 165 (.str "law_evenpoints_k21_worst_boxes" 476),DT P "__doc__" 166 .none,DT P "__package__" 167 .none,DT P "__loader__" 168 (.builtin "__main__.__loader__#opaque"),DT P "__spec__" 169 .none,DT P "__annotations__" 170 (.ref 6),DT P "__builtins__" 171 (.ref 4),DT P "__file__" 173 (.str "/claim/cut.py" 172),DT P "__cached__" 174 .none,DT P "EvenError" 206 (.ref 24),DT P "Nought" 231 (.ref 44),DT P "TooMany" 256 (.ref 63),DT P "ZERO" 261 (.ref 66),DT P "ONE" 264 (.ref 67),DT P "common_divisor" 272 (.ref 74),DT P "fraction" 281 (.ref 81),DT P "plus" 289 (.ref 88),DT P "less" 297 (.ref 95),DT P "times" 305 (.ref 102),DT P "is_below" 313 (.ref 109),DT P "lesser" 321 (.ref 116),DT P "greater" 329 (.ref 123),DT P "in_size" 335 (.ref 128),DT P "side_size" 346 (.ref 135),DT P "goes_ahead" 355 (.ref 142),DT P "lies" 366 (.ref 149),DT P "sides_of" 375 (.ref 156),DT P "numbers_at" 381 (.ref 161),DT P "MOST_LOOKS" 385 (.int 3000 384),DT P "BELOW_ALL" 389 (.ref 162),DT P "side_looks" 395 (.ref 167),DT P "many_side_looks" 404 (.ref 174),DT P "many_looks" 414 (.ref 181),DT P "looks_by_side" 420 (.ref 186),DT P "marked" 426 (.ref 191),DT P "widened" 432 (.ref 196),DT P "counted_looks" 438 (.ref 201),DT P "misses" 452 (.ref 208),DT P "first_greatest" 461 (.ref 215),DT P "worst" 469 (.ref 222),DT P "all_worst" 475 (.ref 227),DT P "_law_feed" 484 (.ref 234),DT P "_law_draw" 496 (.ref 241),DT P "_law_frac" 506 (.ref 248),DT P "_law_cmp" 516 (.ref 255),DT P "_law_number" 529 (.ref 262),DT P "_law_points" 535 (.ref 267),DT P "_law_world" 545 (.ref 274),DT P "_law_sorted" 551 (.ref 279),DT P "_law_side_looks" 557 (.ref 284),DT P "_law_lies" 568 (.ref 291),DT P "_law_side_size" 574 (.ref 296),DT P "_law_side_rows" 580 (.ref 301),DT P "_law_ones" 588 (.ref 308),DT P "_law_misses" 611 (.ref 315),DT P "_law_greatest" 617 (.ref 320),DT P "_law_box_miss" 623 (.ref 325),DT P "_law_is_end" 629 (.ref 330),DT P "_law_is_box" 635 (.ref 335),DT P "_law_worst_right" 647 (.ref 342),DT P "law" 663 (.ref 349)] 61) #[])) ::
 (nat_lit 6,(.mk (.type "dict") none (.dict #[] 0) #[])) ::
 (nat_lit 15,(.mk (.type "tuple") none (.seq #[(.type "ValueError")] 0) #[])) ::
 (nat_lit 22,(.mk (.type "tuple") none (.seq #[] 0) #[])) ::
 (nat_lit 23,(.mk (.type "dict") none (.dict #[DT P "__module__" 196 (.str "evenpoints.errors" 187),DT P "__firstlineno__" 200 (.int 2 199),DT P "__static_attributes__" 201 (.ref 22),DT P "__weakref__" 203 (.ref 25),DT P "__doc__" 204 .none] 3) #[])) ::
 (nat_lit 24,(.mk (.type "type") none (.cls (.mk "EvenError" [(.type "ValueError")] [(.ref 24),(.type "ValueError"),(.type "Exception"),(.type "BaseException"),(.type "object")] 23 "EvenError" true [] [(.ref 44),(.ref 63)] false none false)) #[(some (.ref 15)),none,(some (.str "EvenError" 189)),(some (.str "EvenError" 197)),(some (.builtin "ValueError.__new__")),(some (.bool true))])) ::
 (nat_lit 25,(.mk (.type "getset_descriptor") none (.fields #[(.str "__weakref__" 202),(.ref 24),(.builtin "ExceptionGroup.__weakref__"),.none]) #[])) ::
 (nat_lit 28,(.mk (.type "tuple") none (.seq #[(.ref 24)] 0) #[])) ::
 (nat_lit 40,DV "__init__" "Nought.__init__" 219 220 221 6 2 3 35 181 36 .none (.ref 37) (.ref 38) 39 224 225) ::
 (nat_lit 41,DS "__init__" "Nought.__init__" (pL (Ee 2) 0) DQ (.ref 40)) ::
 (nat_lit 42,(.mk (.type "tuple") none (.seq #[(.str "word" 227)] 0) #[])) ::
 (nat_lit 43,(.mk (.type "dict") none (.dict #[DT P "__module__" 214 (.str "evenpoints.errors" 187),DT P "__firstlineno__" 218 (.int 4 217),DT P "__init__" 226 (.ref 41),DT P "__static_attributes__" 228 (.ref 42),DT P "__doc__" 229 .none] 2) #[])) ::
 (nat_lit 44,(.mk (.type "type") none (.cls (.mk "Nought" [(.ref 24)] [(.ref 44),(.ref 24),(.type "ValueError"),(.type "Exception"),(.type "BaseException"),(.type "object")] 43 "Nought" true [] [] false none false)) #[(some (.ref 28)),none,(some (.str "Nought" 207)),(some (.str "Nought" 215)),(some (.builtin "ValueError.__new__")),(some (.bool true))])) ::
 (nat_lit 47,(.mk (.type "tuple") none (.seq #[(.ref 24)] 0) #[])) ::
 (nat_lit 59,DV "__init__" "TooMany.__init__" 244 245 246 10 2 3 54 181 55 .none (.ref 56) (.ref 57) 58 249 250) ::
 (nat_lit 60,DS "__init__" "TooMany.__init__" (pL (Ee 3) 0) DQ (.ref 59)) ::
 (nat_lit 61,(.mk (.type "tuple") none (.seq #[(.str "word" 252)] 0) #[])) ::
 (nat_lit 62,(.mk (.type "dict") none (.dict #[DT P "__module__" 239 (.str "evenpoints.errors" 187),DT P "__firstlineno__" 243 (.int 8 242),DT P "__init__" 251 (.ref 60),DT P "__static_attributes__" 253 (.ref 61),DT P "__doc__" 254 .none] 2) #[])) ::
 (nat_lit 63,(.mk (.type "type") none (.cls (.mk "TooMany" [(.ref 24)] [(.ref 63),(.ref 24),(.type "ValueError"),(.type "Exception"),(.type "BaseException"),(.type "object")] 62 "TooMany" true [] [] false none false)) #[(some (.ref 47)),none,(some (.str "TooMany" 232)),(some (.str "TooMany" 240)),(some (.builtin "ValueError.__new__")),(some (.bool true))])) ::
 (nat_lit 66,(.mk (.type "tuple") none (.seq #[(.int 0 259),(.int 1 260)] 0) #[])) ::
 (nat_lit 67,(.mk (.type "tuple") none (.seq #[(.int 1 262),(.int 1 263)] 0) #[])) ::
 (nat_lit 73,DU "common_divisor" 265 266 267 15 2 3 68 181 69 .none (.ref 70) (.ref 71) 72 270 271) ::
 (nat_lit 74,DR "common_divisor" (Ee 7) DP (.ref 73)) ::
 (nat_lit 80,DU "fraction" 273 274 275 19 2 3 75 181 76 .none (.ref 77) (.ref 78) 79 279 280) ::
 (nat_lit 81,DR "fraction" (Ee 8) DP (.ref 80)) ::
 (nat_lit 87,DU "plus" 282 283 284 26 2 3 82 181 83 .none (.ref 84) (.ref 85) 86 287 288) ::
 (nat_lit 88,DR "plus" (Ee 9) DP (.ref 87)) ::
 (nat_lit 94,DU "less" 290 291 292 28 2 3 89 181 90 .none (.ref 91) (.ref 92) 93 295 296) ::
 (nat_lit 95,DR "less" (Ee 10) DP (.ref 94)) ::
 (nat_lit 101,DU "times" 298 299 300 30 2 3 96 181 97 .none (.ref 98) (.ref 99) 100 303 304) ::
 (nat_lit 102,DR "times" (Ee 11) DP (.ref 101)) ::
 (nat_lit 108,DU "is_below" 306 307 308 32 2 3 103 181 104 .none (.ref 105) (.ref 106) 107 311 312) ::
 (nat_lit 109,DR "is_below" (Ee 12) DP (.ref 108)) ::
 (nat_lit 115,DU "lesser" 314 315 316 34 2 3 110 181 111 .none (.ref 112) (.ref 113) 114 319 320) ::
 (nat_lit 116,DR "lesser" (Ee 13) DP (.ref 115)) ::
 (nat_lit 122,DU "greater" 322 323 324 36 2 3 117 181 118 .none (.ref 119) (.ref 120) 121 327 328) ::
 (nat_lit 123,DR "greater" (Ee 14) DP (.ref 122)) ::
 (nat_lit 127,DU "in_size" 330 331 332 38 1 3 124 181 125 .none .none .none 126 333 334) ::
 (nat_lit 128,DR "in_size" (Ee 15) DP (.ref 127)) ::
 (nat_lit 134,DU "side_size" 338 339 340 44 1 3 129 181 130 .none (.ref 131) (.ref 132) 133 344 345) ::
 (nat_lit 135,DR "side_size" (Ee 17) DO (.ref 134)) ::
 (nat_lit 141,DU "goes_ahead" 347 348 349 52 3 3 136 181 137 .none (.ref 138) (.ref 139) 140 353 354) ::
 (nat_lit 142,DR "goes_ahead" (Ee 18) DO (.ref 141)) ::
 (nat_lit 148,DU "lies" 356 357 358 56 3 3 143 181 144 .none (.ref 145) (.ref 146) 147 364 365) ::
 (nat_lit 149,DR "lies" (Ee 19) DO (.ref 148)) ::
 (nat_lit 155,DU "sides_of" 369 370 371 65 1 3 150 181 151 .none (.ref 152) (.ref 153) 154 373 374) ::
 (nat_lit 156,DR "sides_of" (Ee 21) DN (.ref 155)) ::
 (nat_lit 160,DU "numbers_at" 376 377 378 67 2 3 157 181 158 .none .none .none 159 379 380) ::
 (nat_lit 161,DR "numbers_at" (Ee 22) DN (.ref 160)) ::
 (nat_lit 162,(.mk (.type "tuple") none (.seq #[(.int (Neg.neg 1) 387),(.int 1 388)] 0) #[])) ::
 (nat_lit 166,DU "side_looks" 390 391 392 72 2 3 163 181 164 .none .none .none 165 393 394) ::
 (nat_lit 167,DR "side_looks" (Ee 26) DM (.ref 166)) ::
 (nat_lit 173,DU "many_side_looks" 396 397 398 81 2 3 168 181 169 .none (.ref 170) (.ref 171) 172 402 403) ::
 (nat_lit 174,DR "many_side_looks" (Ee 27) DM (.ref 173)) ::
 (nat_lit 180,DU "many_looks" 405 406 407 86 2 3 175 181 176 .none (.ref 177) (.ref 178) 179 412 413) ::
 (nat_lit 181,DR "many_looks" (Ee 28) DM (.ref 180)) ::
 (nat_lit 185,DU "looks_by_side" 415 416 417 91 2 3 182 181 183 .none .none .none 184 418 419) ::
 (nat_lit 186,DR "looks_by_side" (Ee 29) DM (.ref 185)) ::
 (nat_lit 190,DU "marked" 421 422 423 95 2 3 187 181 188 .none .none .none 189 424 425) ::
 (nat_lit 191,DR "marked" (Ee 30) DM (.ref 190)) ::
 (nat_lit 195,DU "widened" 427 428 429 99 2 3 192 181 193 .none .none .none 194 430 431) ::
 (nat_lit 196,DR "widened" (Ee 31) DM (.ref 195)) ::
 (nat_lit 200,DU "counted_looks" 433 434 435 103 2 3 197 181 198 .none .none .none 199 436 437) ::
 (nat_lit 201,DR "counted_looks" (Ee 32) DM (.ref 200)) ::
 (nat_lit 207,DU "misses" 439 440 441 111 2 3 202 181 203 .none (.ref 204) (.ref 205) 206 450 451) ::
 (nat_lit 208,DR "misses" (Ee 33) DM (.ref 207)) ::
 (nat_lit 214,DU "first_greatest" 453 454 455 118 1 3 209 181 210 .none (.ref 211) (.ref 212) 213 459 460) ::
 (nat_lit 215,DR "first_greatest" (Ee 34) DM (.ref 214)) ::
 (nat_lit 221,DU "worst" 462 463 464 124 2 3 216 181 217 .none (.ref 218) (.ref 219) 220 467 468) ::
 (nat_lit 222,DR "worst" (Ee 35) DM (.ref 221)) ::
 (nat_lit 226,DU "all_worst" 470 471 472 126 2 3 223 181 224 .none .none .none 225 473 474) ::
 (nat_lit 227,DR "all_worst" (Ee 36) DM (.ref 226)) ::
 (nat_lit 233,DU "_law_feed" 478 479 480 131 1 3 228 181 229 .none (.ref 230) (.ref 231) 232 482 483) ::
 (nat_lit 234,DR "_law_feed" (Ee 38) DL (.ref 233)) ::
 (nat_lit 240,DU "_law_draw" 485 486 487 133 2 3 235 181 236 .none (.ref 237) (.ref 238) 239 494 495) ::
 (nat_lit 241,DR "_law_draw" (Ee 39) DL (.ref 240)) ::
 (nat_lit 247,DU "_law_frac" 497 498 499 150 2 3 242 181 243 .none (.ref 244) (.ref 245) 246 504 505) ::
 (nat_lit 248,DR "_law_frac" (Ee 40) DL (.ref 247)) ::
 (nat_lit 254,DU "_law_cmp" 507 508 509 155 2 3 249 181 250 .none (.ref 251) (.ref 252) 253 514 515) ::
 (nat_lit 255,DR "_law_cmp" (Ee 41) DL (.ref 254)) ::
 (nat_lit 261,DU "_law_number" 517 518 519 159 3 3 256 181 257 .none (.ref 258) (.ref 259) 260 527 528) ::
 (nat_lit 262,DR "_law_number" (Ee 42) DL (.ref 261)) ::
 (nat_lit 266,DU "_law_points" 530 531 532 171 3 3 263 181 264 .none .none .none 265 533 534) ::
 (nat_lit 267,DR "_law_points" (Ee 43) DL (.ref 266)) ::
 (nat_lit 273,DU "_law_world" 536 537 538 185 1 3 268 181 269 .none (.ref 270) (.ref 271) 272 543 544) ::
 (nat_lit 274,DR "_law_world" (Ee 44) DL (.ref 273)) ::
 (nat_lit 278,DU "_law_sorted" 546 547 548 192 1 3 275 181 276 .none .none .none 277 549 550) ::
 (nat_lit 279,DR "_law_sorted" (Ee 45) DL (.ref 278)) ::
 (nat_lit 283,DU "_law_side_looks" 552 553 554 199 2 3 280 181 281 .none .none .none 282 555 556) ::
 (nat_lit 284,DR "_law_side_looks" (Ee 46) DL (.ref 283)) ::
 (nat_lit 290,DU "_law_lies" 558 559 560 211 3 3 285 181 286 .none (.ref 287) (.ref 288) 289 566 567) ::
 (nat_lit 291,DR "_law_lies" (Ee 47) DL (.ref 290)) ::
 (nat_lit 295,DU "_law_side_size" 569 570 571 217 1 3 292 181 293 .none .none .none 294 572 573) ::
 (nat_lit 296,DR "_law_side_size" (Ee 48) DL (.ref 295)) ::
 (nat_lit 300,DU "_law_side_rows" 575 576 577 226 3 3 297 181 298 .none .none .none 299 578 579) ::
 (nat_lit 301,DR "_law_side_rows" (Ee 49) DL (.ref 300)) ::
 (nat_lit 307,DU "_law_ones" 581 582 583 235 1 3 302 181 303 .none (.ref 304) (.ref 305) 306 586 587) ::
 (nat_lit 308,DR "_law_ones" (Ee 50) DL (.ref 307)) ::
 (nat_lit 314,DU "_law_misses" 589 590 591 241 2 3 309 181 310 .none (.ref 311) (.ref 312) 313 609 610) ::
 (nat_lit 315,DR "_law_misses" (Ee 51) DL (.ref 314)) ::
 (nat_lit 319,DU "_law_greatest" 612 613 614 257 2 3 316 181 317 .none .none .none 318 615 616) ::
 (nat_lit 320,DR "_law_greatest" (Ee 52) DL (.ref 319)) ::
 (nat_lit 324,DU "_law_box_miss" 618 619 620 264 3 3 321 181 322 .none .none .none 323 621 622) ::
 (nat_lit 325,DR "_law_box_miss" (Ee 53) DL (.ref 324)) ::
 (nat_lit 329,DU "_law_is_end" 624 625 626 274 1 3 326 181 327 .none .none .none 328 627 628) ::
 (nat_lit 330,DR "_law_is_end" (Ee 54) DL (.ref 329)) ::
 (nat_lit 334,DU "_law_is_box" 630 631 632 280 3 3 331 181 332 .none .none .none 333 633 634) ::
 (nat_lit 335,DR "_law_is_box" (Ee 55) DL (.ref 334)) ::
 (nat_lit 341,DU "_law_worst_right" 636 637 638 290 4 3 336 181 337 .none (.ref 338) (.ref 339) 340 645 646) ::
 (nat_lit 342,DR "_law_worst_right" (Ee 56) DL (.ref 341)) ::
 (nat_lit 348,DU "law" 648 649 650 298 1 3 343 181 344 .none (.ref 345) (.ref 346) 347 661 662) ::
 (nat_lit 349,DR "law" (Ee 57) DL (.ref 348))::[]
noncomputable def heapA:List Addr:=nat_lit 2::nat_lit 3::nat_lit 6::nat_lit 15::nat_lit 22::nat_lit 23::nat_lit 24::nat_lit 25::nat_lit 28::nat_lit 40::nat_lit 41::nat_lit 42::nat_lit 43::nat_lit 44::nat_lit 47::nat_lit 59::nat_lit 60::nat_lit 61::nat_lit 62::nat_lit 63::nat_lit 66::nat_lit 67::nat_lit 73::nat_lit 74::nat_lit 80::nat_lit 81::nat_lit 87::nat_lit 88::nat_lit 94::nat_lit 95::nat_lit 101::nat_lit 102::nat_lit 108::nat_lit 109::nat_lit 115::nat_lit 116::nat_lit 122::nat_lit 123::nat_lit 127::nat_lit 128::nat_lit 134::nat_lit 135::nat_lit 141::nat_lit 142::nat_lit 148::nat_lit 149::nat_lit 155::nat_lit 156::nat_lit 160::nat_lit 161::nat_lit 162::nat_lit 166::nat_lit 167::nat_lit 173::nat_lit 174::nat_lit 180::nat_lit 181::nat_lit 185::nat_lit 186::nat_lit 190::nat_lit 191::nat_lit 195::nat_lit 196::nat_lit 200::nat_lit 201::nat_lit 207::nat_lit 208::nat_lit 214::nat_lit 215::nat_lit 221::nat_lit 222::nat_lit 226::nat_lit 227::nat_lit 233::nat_lit 234::nat_lit 240::nat_lit 241::nat_lit 247::nat_lit 248::nat_lit 254::nat_lit 255::nat_lit 261::nat_lit 262::nat_lit 266::nat_lit 267::nat_lit 273::nat_lit 274::nat_lit 278::nat_lit 279::nat_lit 283::nat_lit 284::nat_lit 290::nat_lit 291::nat_lit 295::nat_lit 296::nat_lit 300::nat_lit 301::nat_lit 307::nat_lit 308::nat_lit 314::nat_lit 315::nat_lit 319::nat_lit 320::nat_lit 324::nat_lit 325::nat_lit 329::nat_lit 330::nat_lit 334::nat_lit 335::nat_lit 341::nat_lit 342::nat_lit 348::nat_lit 349::[]
theorem heapE:∀P,heapA=(heapK P).map (·.1):=fun _=>rfl
theorem z_:∀w:IV,((Jo w.params).isNs II,(Jo w.params).objs.size,(Jo w.params).nsMap II "__annotations__")=(true,11,some (.ref 6)):=fun w=>by kernel_rfl
set_option maxHeartbeats 0 in
theorem zleft:LeftO EO zview [] (fun s=>xlAt zview [] s&&recOk (RowW.records rwN.row.toRowW) s) (Hook.obs (kHook heapK heapA heapE)) (Hook.val (kHook heapK heapA heapE)) 4968 :=
 L2.TT.left_of (M:=4968) (by kernel_rfl) rfl (fun s=>by kernel_rfl) rfl z_ fun w os=>by kernel_rfl
end K21
namespace L2
abbrev GU:=Sum Int Str
noncomputable def lf:GU->Hq->Bool
 | .inl k,v=>Hq.isInt k v
 | .inr x,v=>Hq.isStrOf x v
noncomputable def Dp(w:IV):GU->Int
 | .inl k=>hashInt k
 | .inr x=>hashStr w x
theorem bj:∀{k:GU}{v:Hq},lf k v=true->(∃i t,k=JQ i/\v=L3 i t)\/(∃x t,k=IC x/\v=Mv x t)
 | .inl i,v,h=>by
   obtain⟨t,e⟩:=Hq.isInt_shape (k:=i) (v:=v) h
   exact .inl ⟨i,t,rfl,e⟩
 | .inr x,v,h=>by
   obtain⟨t,e⟩:=Hq.isStrOf_shape (x:=x) (v:=v) h
   exact .inr ⟨x,t,rfl,e⟩
theorem pF(i:Int)(t:Tok):lf (.inl i) (.int i t)=true:=by simp[lf,Hq.isInt]
theorem pE(x:Str)(t:Tok):lf (.inr x) (.str x t)=true:=by simp[lf,Hq.isStrOf]
theorem y8(a b:Int):decide ((JQ a:GU)=JQ b)=(a==b):=by
 by_cases e:a=b
 · subst e;simp
 · have h:¬(JQ a:GU)=JQ b:=fun q=>e (JQ.inj q)
   rw[decide_eq_false h]
   exact(beq_eq_false_iff_ne.mpr e).symm
theorem yY(a b:Str):decide ((IC a:GU)=IC b)=decide (a=b):=by
 by_cases e:a=b
 · subst e;simp
 · have h:¬(IC a:GU)=IC b:=fun q=>e (IC.inj q)
   rw[decide_eq_false h,decide_eq_false e]
theorem y7(a:Int)(b:Str):decide ((JQ a:GU)=IC b)=false:=decide_eq_false (fun q=>nomatch q)
theorem yZ(a:Str)(b:Int):decide ((IC a:GU)=JQ b)=false:=decide_eq_false (fun q=>nomatch q)
noncomputable def bP(prog:Ij)(w:IV):PySem.KeyKind prog w GU where
 is:=lf
 hash:=Dp w
 inj:=fun v a b ha hb=>by
  rcases bj ha with⟨i,t,rfl,rfl⟩|⟨x,t,rfl,rfl⟩
  · rcases bj hb with⟨j,u,rfl,e⟩|⟨y,u,rfl,e⟩
    · injection e with e1 _;rw[e1]
    · exact nomatch e
  · rcases bj hb with⟨j,u,rfl,e⟩|⟨y,u,rfl,e⟩
    · exact nomatch e
    · injection e with e1 _;rw[e1]
 byValue:=fun k v h=>by
   rcases bj h with⟨i,t,rfl,rfl⟩|⟨x,t,rfl,rfl⟩<;>rfl
 pyHash:=fun hv h=>by
  rcases bj hv with⟨i,t,rfl,rfl⟩|⟨x,t,rfl,rfl⟩
  · exact wpAny_pyHash_int h
  · exact wpAny_pyHash_str h
 eqBool:=fun hu hv h=>by
  rcases bj hu with⟨i,t,rfl,rfl⟩|⟨x,t,rfl,rfl⟩
  · rcases bj hv with⟨j,u,rfl,rfl⟩|⟨y,u,rfl,rfl⟩
    · rw[y8]at h;exact wpAny_eqBool_int h
    · rw[y7]at h;exact SeqAt.EqAt.int_str i t y u _ _ _ _ h
  · rcases bj hv with⟨j,u,rfl,rfl⟩|⟨y,u,rfl,rfl⟩
    · rw[yZ]at h;exact SeqAt.EqAt.str_int x t j u _ _ _ _ h
    · rw[yY]at h;exact wpAny_eqBool_str h
 «strs»:=fun k x t v h=>by
  rcases bj h with⟨i,u,rfl,e⟩|⟨y,u,rfl,e⟩
  · exact nomatch e
  · injection e with e1 _
    subst e1
    cases v<;>rfl
theorem la(prog:Ij)(w:IV)(i:Int)(t:Tok):(bP prog w).is (.inl i) (.int i t)=true:=pF i t
theorem k_(prog:Ij)(w:IV)(x:Str)(t:Tok):(bP prog w).is (.inr x) (.str x t)=true:=pE x t
inductive V where
 | non|bl (b:Bool)|int (i:Int)|str (x:Str)|byt (b:Array UInt8)|flt (b:UInt64)|ref (a:Addr)|ty (n:String)
 deriving DecidableEq
noncomputable def RelV:V->Hq->Prop
 | .non,u=>u=K_
 | .bl b,u=>u=ML b
 | .int i,u=>∃t,u=L3 i t
 | .str x,u=>∃t,u=Mv x t
 | .byt b,u=>∃t,u=Hq.bytes b t
 | .flt b,u=>∃t,u=Hq.float b t
 | .ref a,u=>u=JV a
 | .ty n,u=>u=Hq.type n
abbrev cz:List V->List Hq->Prop:=IQ RelV
theorem cz.length{xs:List V}(r:cz xs us):xs.length=us.length:=Kl r
theorem cz.get:∀{xs:List V}{us:List Hq}{i:Nat}{x:V},cz xs us->xs[i]?=some x->∃u,us[i]?=some u/\RelV x u
 | _,_,_,_,.nil,e=>by simp at e
 | _,_,0,_,.cons r _,e=>by simp at e;subst e;exact⟨_,rfl,r⟩
 | _,_,i+1,x,.cons _ t,e=>by
   obtain⟨u,h1,h2⟩:=cz.get (i:=i) (x:=x) t (by simpa using e)
   exact⟨u,by simpa using h1,h2⟩
theorem cz.append:∀{xs ys:List V}{us ws:List Hq},cz xs us->cz ys ws->cz (xs++ys) (us++ws)
 | _,_,_,_,.nil,s=>s
 | _,_,_,_,.cons r t,s=>.cons r (cz.append t s)
theorem cz.take:∀{xs:List V}{us:List Hq}(n:Nat),cz xs us->cz (xs.take n) (us.take n)
 | _,_,0,_=>.nil
 | _,_,_+1,.nil=>.nil
 | _,_,n+1,.cons r t=>.cons r (cz.take n t)
theorem cz.drop:∀{xs:List V}{us:List Hq}(n:Nat),cz xs us->cz (xs.drop n) (us.drop n)
 | _,_,0,r=>r
 | _,_,_+1,.nil=>.nil
 | _,_,n+1,.cons _ t=>cz.drop n t
noncomputable def wF:Option V->Option Hq->Prop
 | some v,some u=>RelV v u
 | none,none=>True
 | _,_=>False
noncomputable def KV{κ:Type}:List (κ×V)->List (κ×Hq)->Prop:=IQ fun(p:κ×V)(q:κ×Hq)=>p.1=q.1/\RelV p.2 q.2
noncomputable def kV:GU->V
 | .inl i=>.int i
 | .inr x=>.str x
inductive HO where
 | lst (xs:List V)
 | tup (xs:List V)
 | dK (kvs:List (GU×V))|dT (kvs:List (List GU×V))
 | set (S:Int->Bool) (n:Nat)
 | ins (C dx:Addr) (fs:List (Str×V))
 | own (x:Addr)
 | xd (fs:List (Str×V))
 | met (f x:Addr)
 | rng (lo hi:Int)
 | frz (o:Obj) (u:HO)
 | tbl (ps:Array Hq)
 | ext (φ:Heap->Prop)
abbrev Hp:=Addr->Option HO
noncomputable def D8(H:Hp)(a:Addr)(o:HO):Hp:=fun b=>if b=a then some o else H b
theorem au{H:Hp}{o:HO}:D8 H a o a=some o:=by unfold D8;rw[if_pos rfl]
theorem am{H:Hp}{o:HO}(h:b≠a):D8 H a o b=H b:=by unfold D8;rw[if_neg h]
theorem AX{H:Hp}{o u:HO}(h:H a=some o)(h':H b=some u)(d:o≠u):a≠b:=by
 intro e;subst e;rw[h]at h';exact d (IJ h')
theorem aX{H:Hp}{o:HO}(h:H a=some o)(h':H b=none):a≠b:=by
 intro e;subst e;rw[h]at h';cases h'
section
variable(P:Ij)(w:IV)
noncomputable def qw(h:Heap)(a:Addr)(items:Array Hq):Prop:=∃o,h.get? a=some o/\o.cls = .type "tuple" /\ (∃n,o.data = .seq items n)/\o.dict=none
theorem qw.tup{h:Heap}{a:Addr}{items:Array Hq}(x:qw h a items):IsTup h a items:=let ⟨o,e1,e2,e3,_⟩:=x;⟨o,e1,e2,e3⟩
theorem qw.new(h:Heap)(items:Array Hq):qw (h.push {cls:=.type "tuple", data:=.seq items}) h.objs.size items:=⟨_,HR _ rfl,rfl,⟨_,rfl⟩,rfl⟩
noncomputable def cT(H:Hp)(h:Heap)(a:Addr):HO->Prop
 | .lst xs=>xs.length<=sizeLine/\∃(its:List Hq)(n:Nat),cz xs its/\h.get? a=some {cls:=.type "list", data:=.seq its.toArray n}
 | .tup xs=>xs.length<=sizeLine/\∃its:List Hq,cz xs its/\qw h a its.toArray
 | .dK kvs=>kvs.length<=sizeLine/\(a==KF)=false/\∃vs,KV kvs vs/\h.DictOf (bP P w) a vs
 | .dT kvs=>kvs.length<=sizeLine/\(a==KF)=false/\∃xs:List (List GU×Addr×Hq),
     IQ (fun(p:List GU×V)(q:List GU×Addr×Hq)=>p.1=q.1/\H q.2.1=some (.tup (p.1.map kV))/\RelV p.2 q.2.2) kvs xs /\
     ∃o es ep,h.get? a=some o/\o.ExactDict/\o.data = .dict es ep/\es.toList=xs.map (entryOfKey (M9 (bP P w)))/\(xs.map (·.1)).Nodup
 | .set S n=>h.SetOf (intKind P w) a S n
 | .ins C dx fs=>H dx=some (.own a)/\fs.length<=1000/\dx≠a/\h.get? a=some (W.instObj C dx) /\
     ∃mA,h.Ns1 dx mA/\(∀f,wF (fs.lookup f) (mA f))/\PySem.Within mA (fs.map (·.1))
 | .own _=>∃o,h.get? a=some o
 | .xd fs=>∃mA,h.Ns1 a mA/\∀f,wF (fs.lookup f) (mA f)
 | .rng lo hi=>∃t u v,h.get? a=some {cls:=.type "range", data:=.fields #[.int lo t,.int hi u,.int 1 v]}
 | .frz o u=>h.get? a=some o/\cT H h a u
 | .tbl ps=>h.get? a=some {cls:=.none,data:=.fields ps}
 | .met f x=>h.get? a=some (W.methodObj (.ref f) (.ref x))
 | .ext φ=>φ h/\(∃o,h.get? a=some o)/\∀h1 h2:Heap,φ h1->(∀o,h1.get? a=some o->h2.get? a=some o)->φ h2
noncomputable def G6(H:Hp)(h:Heap):Prop:=∀a o,H a=some o->cT P w H h a o
end
section
variable{P:Ij}{w:IV}{H H':Hp}{h h':Heap}{a:Addr}{o:HO}
theorem cT.lt(x:cT P w H h a o):a<h.objs.size:=by
 cases o with
 | lst xs=>obtain⟨_,_,_,_,e⟩:=x;exact HJ e
 | tup xs=>obtain⟨_,_,_,p⟩:=x;exact p.tup.lt
 | dK kvs=>obtain⟨_,_,_,_,o,_,_,e,_⟩:=x;exact HJ e
 | dT kvs=>obtain⟨_,_,_,_,o,_,_,e,_⟩:=x;exact HJ e
 | set S n=>obtain⟨o,_,_,_,e,_⟩:=x;exact HJ e
 | ins C dx fs=>obtain⟨_,_,_,e,_⟩:=x;exact HJ e
 | own y=>obtain⟨_,e⟩:=x;exact HJ e
 | xd fs=>obtain⟨_,⟨_,_,_,e,_⟩,_⟩:=x;exact HJ e
 | rng lo hi=>obtain⟨_,_,_,e⟩:=x;exact HJ e
 | frz ob u=>obtain⟨e,_⟩:=x;exact HJ e
 | tbl ps=>exact HJ (show h.get? a=some _ from x)
 | met f y=>exact HJ (show h.get? a=some _ from x)
 | ext φ=>obtain⟨_,⟨_,e⟩,_⟩:=x;exact HJ e
theorem IQ.mapP{α β:Type}{F G:α->β->Prop}:∀{l₁:List α}{l₂:List β},IQ F l₁ l₂->(∀a b,F a b->G a b)->IQ G l₁ l₂
 | _,_,.nil,_=>.nil
 | _,_,.cons r t,f=>.cons (f _ _ r) (IQ.mapP t f)
theorem cT.stay(x:cT P w H h a o)(k:∀b u,(b=a\/H b=some (.own a))->h.get? b=some u->h'.get? b=some u)
 (ho:∀b,H b=some (.own a)->H' b=some (.own a))(ht:∀b xs,H b=some (.tup xs)->H' b=some (.tup xs)):cT P w H' h' a o:=by
 induction o with
 | lst xs=>obtain⟨z,its,n,r,e⟩:=x;exact⟨z,its,n,r,k _ _ (.inl rfl) e⟩
 | tup xs=>obtain⟨z,its,r,ob,e,c⟩:=x;exact⟨z,its,r,ob,k _ _ (.inl rfl) e,c⟩
 | dK kvs=>obtain⟨z,y,vs,r,ob,es,ep,e,c⟩:=x;exact⟨z,y,vs,r,ob,es,ep,k _ _ (.inl rfl) e,c⟩
 | dT kvs =>
   obtain⟨z,y,xs,r,ob,es,ep,e,c⟩:=x
   exact⟨z,y,xs,IQ.mapP r fun p q z=>⟨z.1,ht _ _ z.2.1,z.2.2⟩,ob,es,ep,k _ _ (.inl rfl) e,c⟩
 | set S n=>obtain⟨ob,es,ep,t,e,c⟩:=x;exact⟨ob,es,ep,t,k _ _ (.inl rfl) e,c⟩
 | ins C dx fs =>
   obtain⟨d,z,ne,e,mA,⟨od,es,ep,e2,c⟩,r⟩:=x
   exact⟨ho _ d,z,ne,k _ _ (.inl rfl) e,mA,⟨od,es,ep,k _ _ (.inr d) e2,c⟩,r⟩
 | own y=>obtain⟨ob,e⟩:=x;exact⟨ob,k _ _ (.inl rfl) e⟩
 | xd fs=>obtain⟨mA,⟨od,es,ep,e,c⟩,r⟩:=x;exact⟨mA,⟨od,es,ep,k _ _ (.inl rfl) e,c⟩,r⟩
 | rng lo hi=>obtain⟨t,u,v,e⟩:=x;exact⟨t,u,v,k _ _ (.inl rfl) e⟩
 | frz ob u ih=>obtain⟨e,q⟩:=x;exact⟨k _ _ (.inl rfl) e,ih q⟩
 | tbl ps =>
   have e:h.get? a=some {cls:=.none,data:=.fields ps}:=x
   show h'.get? a=some {cls:=.none,data:=.fields ps}
   exact k a _ (.inl rfl) e
 | met f y =>
   have e:h.get? a=some (W.methodObj (.ref f) (.ref y)):=x
   show h'.get? a=some (W.methodObj (.ref f) (.ref y))
   exact k a _ (.inl rfl) e
 | ext φ=>obtain⟨p,⟨o,e⟩,st⟩:=x;exact⟨st _ _ p fun o q=>k _ _ (.inl rfl) q,⟨o,k _ _ (.inl rfl) e⟩,st⟩
theorem G6.lt(x:G6 P w H h)(e:H a=some o):a<h.objs.size:=(x a o e).lt
theorem G6.fresh(x:G6 P w H h)(e:h.objs.size<=a):H a=none:=by
 cases q:H a with
 | none=>rfl
 | some u=>exact absurd (Hr (x.lt q) e) (JF _)
theorem G6.kept(x:G6 P w H h)(k:∀b u,h.get? b=some u->h'.get? b=some u):G6 P w H h':=fun a o e =>
 (x a o e).stay (fun b u _ q=>k b u q) (fun _ q=>q) fun _ _ q=>q
theorem G6.laid(x:G6 P w H h)(k:∀b u,h.get? b=some u->h'.get? b=some u)(hp:h.objs.size<=a)(new:cT P w (D8 H a o) h' a o):G6 P w (D8 H a o) h':=fun b u e=>by
 have hn:=x.fresh hp
 by_cases hb:b=a
 · subst hb;rw[au]at e;cases e;exact new
 · rw[am hb]at e
   exact(x b u e).stay (fun c v _ q=>k c v q) (fun c q=>by rw[am (aX q hn)];exact q) fun c xs q=>by rw[am (aX q hn)];exact q
end
noncomputable def Rd(H:Hp)(a:Addr)(u:HO):Prop:=H a=some u\/∃o,H a=some (.frz o u)
theorem Rd.ok{w:IV}{H:Hp}{u:HO}(r:Rd H a u)(x:G6 P w H h):cT P w H h a u:=by
 rcases r with r|⟨o,r⟩
 · exact x a u r
 · obtain⟨_,q⟩:=x a _ r
   exact q
noncomputable def GQ:Option HO->Prop
 | some (.lst _)=>True
 | some (.dK _)=>True
 | some (.dT _)=>True
 | some (.set _ _)=>True
 | some (.ins _ _ _)=>True
 | some (.ext _)=>True
 | _=>False
section
variable{P:Ij}{w:IV}{H:Hp}{h h':Heap}{x e:Addr}{o':HO}
theorem G6.write(ok:G6 P w H h)(mu:GQ (H x))(he:e=x\/H e=some (.own x))(k:∀b u,b≠e->h.get? b=some u->h'.get? b=some u)(heo:∃u,h'.get? e=some u)
 (new:cT P w (D8 H x o') h' x o'):G6 P w (D8 H x o') h':=fun b u q=>by
 have nown:∀c y,H c=some (.own y)->c≠x:=fun c y r z=>by subst z;rw[r]at mu;exact mu
 have ntup:∀c xs,H c=some (.tup xs)->c≠x:=fun c xs r z=>by subst z;rw[r]at mu;exact mu
 by_cases hb:b=x
 · subst hb;rw[au]at q;cases q;exact new
 · rw[am hb]at q
   by_cases hbe:b=e
   · have q':H b=some (.own x):=by
       rcases he with z|z
       · exact absurd (hbe.trans z) hb
       · rw[hbe];exact z
     rw[q]at q';cases q'
     obtain⟨v,hv⟩:=heo
     exact⟨v,by rw[hbe];exact hv⟩
   · refine(ok b u q).stay (fun c v hc r=>k c v ?_ r) (fun c r=>by rw[am (nown c b r)];exact r) fun c xs r=>by rw[am (ntup c xs r)];exact r
     rcases hc with rfl|hc
     · exact hbe
     · rintro rfl
       rcases he with z|z
       · exact nown c b hc z
       · rw[hc]at z;cases z;exact hb rfl
end
structure Un (fs ex:List Addr) (H H':Hp) (h h':Heap):Prop where
 keep:∀b o,h.get? b=some o->H b=none->b∉fs->b∉ex->h'.get? b=some o
 slot:∀b o,h.get? b=some o->H b=none->b∈fs->b∉ex->∃sl,h'.get? b=some {o with slots:=sl}
 free:∀b o,h.get? b=some o->H b=none->b∉ex->H' b=none
 there:∀b o,h.get? b=some o->b∉ex->∃o',h'.get? b=some o'
 tups:∀b xs,H b=some (.tup xs)->H' b=some (.tup xs)
 frzs:∀b o u,H b=some (.frz o u)->H' b=some (.frz o u)
 tbls:∀b ps,H b=some (.tbl ps)->∃more,H' b=some (.tbl (ps++more))
section
variable{fs fs' ex ex':List Addr}{H H1 H2:Hp}{h h1 h2 h':Heap}{a x e:Addr}{o:HO}
theorem Un.any(u:Un fs ex H H1 h h1){ob:Obj}(q:h.get? b=some ob)(n:H b=none)(hx:b∉ex):∃sl,h1.get? b=some {ob with slots:=sl}:=by
 by_cases hb:b∈fs
 · exact u.slot b ob q n hb hx
 · exact⟨ob.slots,u.keep b ob q n hb hx⟩
theorem Un.kept(k:∀b u,h.get? b=some u->h'.get? b=some u):Un fs ex H H h h' :=
 ⟨fun b ob q _ _ _=>k b ob q,fun b ob q _ _ _=>⟨ob.slots,k b ob q⟩,fun _ _ _ n _=>n,fun b ob q _=>⟨ob,k b ob q⟩,fun _ _ q=>q,fun _ _ _ q=>q,fun _ ps q=>⟨#[],by rw[q];simp⟩⟩
theorem Un.refl:Un fs ex H H h h:=Un.kept fun _ _ q=>q
theorem Un.laid(k:∀b u,h.get? b=some u->h'.get? b=some u)(hp:h.objs.size<=a)(hn:H a=none):Un fs ex H (D8 H a o) h h' where
 keep:=fun b u q _ _ _=>k b u q
 slot:=fun b u q _ _ _=>⟨u.slots,k b u q⟩
 free:=fun b u q n _=>by rw[am (Im (Hr (HJ q) hp))];exact n
 there:=fun b u q _=>⟨u,k b u q⟩
 tups:=fun b xs q=>by rw[am (aX q hn)];exact q
 frzs:=fun b u xs q=>by rw[am (aX q hn)];exact q
 tbls:=fun b ps q=>⟨#[],by rw[am (aX q hn),q];simp⟩
theorem Un.write(mu:GQ (H x))(he:e=x\/H e=some (.own x))(k:∀b u,b≠e->h.get? b=some u->h'.get? b=some u)(heo:∃u,h'.get? e=some u):Un fs ex H (D8 H x o) h h':=by
 have hx:∀b,H b=none->b≠x:=fun b n z=>by subst z;rw[n]at mu;exact mu
 have hb:∀b,H b=none->b≠e:=fun b n z=>by
  subst z
  rcases he with r|r
  · exact hx b n r
  · rw[n]at r;cases r
 have hm:∀b u,H b=some u->¬GQ (some u)->b≠x:=fun b u q nm z=>by subst z;rw[q]at mu;exact nm mu
 refine⟨fun b u q n _ _=>k b u (hb b n) q,fun b u q n _ _=>⟨u.slots,k b u (hb b n) q⟩,fun b u q n _=>by rw[am (hx b n)];exact n,fun b u q _=>?_,
  fun b xs q=>by rw[am (hm b _ q fun z=>z)];exact q,fun b u xs q=>by rw[am (hm b _ q fun z=>z)];exact q,fun b ps q=>⟨#[],by rw[am (hm b _ q fun z=>z),q];simp⟩⟩
 by_cases hbe:b=e
 · subst hbe;exact heo
 · exact⟨u,k b u hbe q⟩
end
noncomputable def Ed(h:Heap)(H:Hp):List Addr:=(Ip h.objs.size).filter fun a=>(H a).isSome
noncomputable def rP(h:Heap)(H:Hp):Heap:=W.hideAll h (Ed h H)
theorem pM(h:Heap)(H:Hp):(rP h H).objs.size=h.objs.size:=W.hideAll_size _ _
theorem rO{H:Hp}{o:Obj}(e:h.get? b=some o)(n:H b=none):(rP h H).get? b=some o :=
 W.hideAll_get _ e fun hm=>by
  have q:(H b).isSome=true:=(LA.mp hm).2
  rw[n]at q;simp at q
theorem vw{H:Hp}{o:Obj}(e:(rP h H).get? b=some o):h.get? b=some o/\H b=none:=by
 have e':h.get? b=some o:=W.of_hideAll (Ed h H) e
 refine⟨e',?_⟩
 cases q:H b with
 | none=>rfl
 | some x =>
   have hm:b∈Ed h H:=LA.mpr ⟨JU.mpr (HJ e'),by simp[q]⟩
   have z:(rP h H).get? b=none:=W.hideAll_none (Ed h H) hm
   rw[z]at e;cases e
noncomputable def ww(g h:Heap)(L:Addr):List (Addr×Obj):=(Ip h.objs.size).filterMap fun a=>if a=L\/(g.get? a).isSome=true then none else(h.get? a).map fun o=>(a,o)
noncomputable def rest(g h:Heap)(L d:Addr):List (Addr×Obj):=(ww g h L).filter fun p=>decide (p.1≠d)
structure Mod (K:W.Frag) (mg:Str->Option Hq) (base:Heap):Prop where
 kin:K.In base
 glob:base.Ns II mg
 blt:∃mb,base.Ns builtinsNs mb/\∀x:Str,x ≠ "__name__" -> mb x=Ki x
 nolimit:base.NoLimit
structure Cx where
 prog:Ij
 w:IV
 K:W.Frag
 mg:Str->Option Hq
 base:Heap
 A:IU
 N:List Str
 s₀:Hv
 H₀:Hp
 env:Env
 outer:List Env
 stack:List Env
 ex:List Addr
 fn:Str->Bool
 calm:Bool
 pn:List (Addr×Obj)
 xe:Hq->Hv->Prop
noncomputable def frs(l:List Env):List Addr:=l.filterMap (·.frame)
abbrev Cx.fs(X:Cx):List Addr:=frs X.outer
noncomputable def Gc(sc:Scope)(x:Str):Prop:=sc.names.lookup x=some .local\/sc.names.lookup x=some .cell\/sc.names.lookup x=some .free
noncomputable def Loc(sc:Scope)(x:Str):Prop:=sc.names.lookup x=some .local\/sc.names.lookup x=some .cell
noncomputable def Look(env:Env)(h:Heap)(m:Str->Option Hq)(x:Str)(u:Hq):Prop :=
 (env.kindOf x=some .local/\m x=some u)\/((env.kindOf x=some .cell\/env.kindOf x=some .free)/\∃c,env.cells.lookup x=some c/\h.IsCell c (some u))
structure Cx.Ok (X:Cx):Prop where
 mod:Mod X.K X.mg X.base
 kind:X.env.scope.kind = .function
 glob:X.env.globals=II
 blt:X.env.builtins=builtinsNs
 above:X.s₀.heap.objs.size<=X.env.locals
 inj:∀x y c,X.env.cells.lookup x=some c->X.env.cells.lookup y=some c->x=y
 has:∀x,(X.env.kindOf x=some .cell\/X.env.kindOf x=some .free)->∃c,X.env.cells.lookup x=some c
 cab:∀x c,X.fn x=true->X.env.cells.lookup x=some c->X.s₀.heap.objs.size<=c
 hd:X.calm=true->X.A.handled=none
 frames:X.A.frames=some X.stack
 stk:X.stack=X.outer\/(X.stack=X.env::X.outer/\X.env.frame=some X.env.locals)
 exf:∀b∈X.ex,b≠X.env.locals/\∀x c,X.env.cells.lookup x=some c->c≠b
 bs:∀b o,X.base.get? b=some o->X.s₀.heap.get? b=some o/\X.H₀ b=none
 bsz:X.base.objs.size<=X.s₀.heap.objs.size
 noex:∀b o,X.base.get? b=some o->b∉X.ex
 exfs:∀b∈X.ex,b∉X.fs
 funs:X.s₀.heap.FunFrames X.base X.outer
 frf:∀b∈X.fs,X.H₀ b=none
structure Inv (X:Cx) (pins:List (Addr×Obj)) (σ:List (Option V)) (H:Hp) (s:Hv):Prop where
 ok:X.Ok
 os:s.os=X.s₀.os
 bare:MW s.gens
 base:Un X.fs X.ex X.H₀ H X.s₀.heap s.heap
 loc:∃m,s.heap.Ns X.env.locals m/\∀(i:Nat)(x:Str)(v:V),X.N[i]?=some x->σ[i]?=some (some v)->Gc X.env.scope x->∃u,RelV v u/\Look X.env s.heap m x u
 cell:∀x c,X.env.cells.lookup x=some c->∃v,s.heap.IsCell c v
 free:H X.env.locals=none
 freeC:∀x c,X.env.cells.lookup x=some c->H c=none
 pin:∀p∈X.pn++pins,s.heap.get? p.1=some p.2/\H p.1=none/\p.1≠X.env.locals/\p.1∉X.fs/\∀v,p.2.data ≠ .cell v
 hok:G6 X.prog X.w H s.heap
 len:σ.length=X.N.length
section
variable{X:Cx}{pins:List (Addr×Obj)}{σ:List (Option V)}{H H':Hp}{s:Hv}{h':Heap}
theorem Cx.Ok.nofr(ok:X.Ok){o:Obj}(e:X.base.get? b=some o):b∉X.fs:=fun hb=>by
 have:=(ok.funs.mem hb).1
 rw[e]at this;cases this
theorem Inv.bs(I:Inv X pins σ H s):∀b o,X.base.get? b=some o->s.heap.get? b=some o/\H b=none:=fun b o e =>
 ⟨I.base.keep b o (I.ok.bs b o e).1 (I.ok.bs b o e).2 (I.ok.nofr e) (I.ok.noex b o e),I.base.free b o (I.ok.bs b o e).1 (I.ok.bs b o e).2 (I.ok.noex b o e)⟩
theorem Inv.bk(I:Inv X pins σ H s):∀b o,X.base.get? b=some o->s.heap.get? b=some o:=fun b o e=>(I.bs b o e).1
theorem Inv.mod(I:Inv X pins σ H s):Mod X.K X.mg X.base:=I.ok.mod
theorem Inv.kIn(I:Inv X pins σ H s):X.K.In s.heap:=I.ok.mod.kin.keeps I.bk
theorem Inv.lt(I:Inv X pins σ H s):X.env.locals<s.heap.objs.size:=let ⟨_,hn,_⟩:=I.loc;hn.lt
theorem Inv.sz(I:Inv X pins σ H s):X.s₀.heap.objs.size<=s.heap.objs.size:=HX I.ok.above (No I.lt)
theorem Inv.nofs(I:Inv X pins σ H s)(h:s.heap.objs.size<=a):a∉X.fs:=fun hb=>by
 obtain⟨_,o,ho,_⟩:=I.ok.funs.mem hb
 exact absurd (Hr (HJ ho) (HX I.sz h)) (JF _)
theorem Inv.cne(I:Inv X pins σ H s):∀x c,X.env.cells.lookup x=some c->c≠X.env.locals:=fun x c e z=>by
 obtain⟨v,o,ho,hd⟩:=I.cell x c e
 obtain⟨m,⟨o',es,ep,ho',hd',_⟩,_⟩:=I.loc
 rw[z,ho']at ho;cases ho;rw[hd']at hd;cases hd
theorem Inv.funs(I:Inv X pins σ H s):s.heap.FunFrames X.base X.outer:=by
 have all:∀(l:List Env),(∀b∈frs l,b∈X.fs)->X.s₀.heap.FunFrames X.base l->s.heap.FunFrames X.base l:=by
  intro l
  induction l with
  | nil=>intro _ _;trivial
  | cons env r ih =>
    intro hs hl
    obtain⟨hk,⟨L,o,hf,hn,ho,hd⟩,hr⟩:=hl
    have hL:L∈X.fs:=hs L (by unfold frs;rw[IW,hf];exact Hy)
    obtain⟨sl,e⟩:=I.base.slot L o ho (I.ok.frf L hL) hL fun z=>I.ok.exfs L z hL
    exact⟨hk,⟨L,_,hf,hn,e,hd⟩,ih (fun b hb=>hs b (by unfold frs;rw[IW,hf];exact Ht _ hb)) hr⟩
 exact all X.outer (fun _ hb=>hb) I.ok.funs
theorem Inv.stack(I:Inv X pins σ H s):s.heap.FunFrames X.base X.stack:=by
 rcases I.ok.stk with e|⟨e,hf⟩
 · rw[e];exact I.funs
 · rw[e]
   obtain⟨m,hn,_⟩:=I.loc
   refine .cons (by rw[I.ok.kind];decide) hf hn ?_ I.funs
   exact Heap.get?_none_of_le (HX I.ok.bsz I.ok.above)
theorem Inv.stkSub(I:Inv X pins σ H s):∀b∈frs X.stack,b∈X.env.locals::X.fs:=fun b hb=>by
 rcases I.ok.stk with e|⟨e,hf⟩
 · rw[e]at hb;exact Ht _ hb
 · rw[e]at hb
   unfold frs at hb
   rw[IW,hf]at hb
   exact hb
theorem Inv.stkFree(I:Inv X pins σ H s):∀b∈frs X.stack,H b=none:=fun b hb=>by
 rcases HN.mp (I.stkSub b hb)with e|hb
 · rw[e];exact I.free
 · obtain⟨_,o,ho,_⟩:=I.ok.funs.mem hb
   exact I.base.free b o ho (I.ok.frf b hb) fun z=>I.ok.exfs b z hb
theorem Inv.step{g':Array GenState}{d':Drawn}{ch:List Addr}(I:Inv X pins σ H s)
 (hch:∀b∈ch,(b∈X.ex\/X.s₀.heap.objs.size<=b)/\b≠X.env.locals/\(∀x c,X.env.cells.lookup x=some c->c≠b)/\∀p∈X.pn++pins,p.1≠b)
 (keep:∀b o,b≠X.env.locals->b∉X.fs->b∉ch->s.heap.get? b=some o->H b=none->h'.get? b=some o)
 (slot:∀b o,b≠X.env.locals->b∈X.fs->b∉ch->s.heap.get? b=some o->H b=none->∃sl,h'.get? b=some {o with slots:=sl})(free:∀b o,b∉ch->s.heap.get? b=some o->H b=none->H' b=none)
 (there:∀b o,b∉ch->s.heap.get? b=some o->∃o',h'.get? b=some o')
 (tups:∀b xs,H b=some (.tup xs)->H' b=some (.tup xs))(frzs:∀b o u,H b=some (.frz o u)->H' b=some (.frz o u))(tbls:∀b ps,H b=some (.tbl ps)->∃more,H' b=some (.tbl (ps++more)))
 (ns:∀m,s.heap.Ns X.env.locals m->h'.Ns X.env.locals m)(hok:G6 X.prog X.w H' h')(hg:MW g') :
 Inv X pins σ H' {s with heap:=h',gens:=g',drawn:=d',toks:=t' }:=by
 have neL:∀b o,X.s₀.heap.get? b=some o->b≠X.env.locals:=fun b o e=>Im (Hr (HJ e) I.ok.above)
 have neC:∀b o,X.s₀.heap.get? b=some o->b∉X.ex->b∉ch:=fun b o e hx hb=>by
  rcases(hch b hb).1 with z|z
  · exact hx z
  · exact absurd (Hr (HJ e) z) (JF _)
 have cellK:∀x c,X.env.cells.lookup x=some c->∀v,s.heap.IsCell c v->h'.IsCell c v:=fun x c e v ⟨o,ho,hd⟩=>by
  have nch:c∉ch:=fun z=>(hch c z).2.2.1 x c e rfl
  by_cases hc:c∈X.fs
  · obtain⟨sl,q⟩:=slot c o (I.cne x c e) hc nch ho (I.freeC x c e)
    exact⟨_,q,hd⟩
  · exact⟨o,keep c o (I.cne x c e) hc nch ho (I.freeC x c e),hd⟩
 refine⟨I.ok,I.os,hg,⟨fun b o e n hb hx=>?_,fun b o e n hb hx=>?_,fun b o e n hx=>?_,fun b o e hx=>?_,fun b xs e=>tups b xs (I.base.tups b xs e),fun b o xs e=>frzs b o xs (I.base.frzs b o xs e),fun b ps e=>?_⟩,?_,fun x c e=>?_,?_,fun x c e=>?_,fun p hp=>?_,hok,I.len⟩
 · exact keep b o (neL b o e) hb (neC b o e hx) (I.base.keep b o e n hb hx) (I.base.free b o e n hx)
 · obtain⟨sl,e1⟩:=I.base.slot b o e n hb hx
   obtain⟨sl',e2⟩:=slot b _ (neL b o e) hb (neC b o e hx) e1 (I.base.free b o e n hx)
   exact⟨sl',e2⟩
 · obtain⟨o',e1⟩:=I.base.there b o e hx
   exact free b o' (neC b o e hx) e1 (I.base.free b o e n hx)
 · obtain⟨o',e1⟩:=I.base.there b o e hx
   exact there b o' (neC b o e hx) e1
 · obtain⟨m1,e1⟩:=I.base.tbls b ps e
   obtain⟨m2,e2⟩:=tbls b _ e1
   exact⟨m1++m2,by rw[e2,Array.append_assoc]⟩
 · obtain⟨m,hn,hl⟩:=I.loc
   refine⟨m,ns m hn,fun i x v e1 e2 e3=>?_⟩
   obtain⟨u,r,l⟩:=hl i x v e1 e2 e3
   refine⟨u,r,?_⟩
   rcases l with l|⟨k,c,e,z⟩
   · exact .inl l
   · exact .inr ⟨k,c,e,cellK x c e _ z⟩
 · obtain⟨v,z⟩:=I.cell x c e
   exact⟨v,cellK x c e v z⟩
 · obtain⟨m,⟨o,_,_,ho,_⟩,_⟩:=I.loc
   exact free _ o (fun z=>(hch _ z).2.1 rfl) ho I.free
 · obtain⟨v,o,ho,hd⟩:=I.cell x c e
   exact free c o (fun z=>(hch c z).2.2.1 x c e rfl) ho (I.freeC x c e)
 · obtain⟨e,n,ne,nf,d⟩:=I.pin p hp
   have nch:p.1∉ch:=fun z=>(hch p.1 z).2.2.2 p hp rfl
   exact⟨keep p.1 p.2 ne nf nch e n,free p.1 p.2 nch e n,ne,nf,d⟩
theorem Inv.un(I:Inv X pins σ H s)(u:Un X.fs [] H H' s.heap h')(hok:G6 X.prog X.w H' h'):Inv X pins σ H' {s with heap:=h',toks:=t' }:=by
 obtain⟨m,⟨o,es,ep,ho,r⟩,_⟩:=id I.loc
 obtain⟨sl,hL⟩:=u.any ho I.free (by simp)
 exact I.step (g':=s.gens) (d':=s.drawn) (ch:=[]) (fun _ z=>nomatch z) (fun b o _ hb _ e n=>u.keep b o e n hb (by simp)) (fun b o _ hb _ e n=>u.slot b o e n hb (by simp)) (fun b o _ e n=>u.free b o e n (by simp)) (fun b o _ e=>u.there b o e (by simp)) u.tups u.frzs u.tbls (fun m' hm=>by
  obtain⟨o',es',ep',ho',r'⟩:=hm
  rw[ho]at ho';cases ho'
  exact⟨_,es',ep',hL,r'⟩) hok I.bare
theorem Inv.call{g':Array GenState}{d':Drawn}{ch:List Addr}(I:Inv X pins σ H s)(u:Un (frs X.stack) ch H H' s.heap h')(hok:G6 X.prog X.w H' h')(hg:MW g')
 (hch:∀b∈ch,(b∈X.ex\/X.s₀.heap.objs.size<=b)/\b≠X.env.locals/\(∀x c,X.env.cells.lookup x=some c->c≠b)/\∀p∈X.pn++pins,p.1≠b) :
 Inv X pins σ H' {s with heap:=h',gens:=g',drawn:=d',toks:=t' }:=by
 obtain⟨m,⟨o,es,ep,ho,r⟩,_⟩:=id I.loc
 obtain⟨sl,hL⟩:=u.any ho I.free fun z=>(hch _ z).2.1 rfl
 exact I.step (ch:=ch) hch (fun b o hL hb hc e n=>u.keep b o e n (fun z=>(HN.mp (I.stkSub b z)).elim hL hb) hc) (fun b o _ _ hc e n=>u.any e n hc) (fun b o hc e n=>u.free b o e n hc) (fun b o hc e=>u.there b o e hc) u.tups u.frzs u.tbls (fun m' hm=>by
  obtain⟨o',es',ep',ho',r'⟩:=hm
  rw[ho]at ho';cases ho'
  exact⟨_,es',ep',hL,r'⟩) hok hg
theorem Inv.turned(I:Inv X pins σ H s)(k:∀b o,b≠it->s.heap.get? b=some o->h'.get? b=some o)(hn:H it=none)(hL:it≠X.env.locals)
 (h1:it∈X.ex\/X.s₀.heap.objs.size<=it)(h2:∀x c,X.env.cells.lookup x=some c->c≠it)(h3:∀p∈X.pn++pins,p.1≠it):Inv X pins σ H {s with heap:=h',toks:=t' }:=by
 have nit:∀b u,H b=some u->b≠it:=fun b u e z=>by rw[z,hn]at e;cases e
 refine I.step (g':=s.gens) (d':=s.drawn) (ch:=[it]) (fun b hb=>?_) (fun b o _ _ hc e _=>k b o (fun z=>hc (by simp[z])) e) (fun b o _ _ hc e _=>⟨o.slots,k b o (fun z=>hc (by simp[z])) e⟩) (fun _ _ _ _ n=>n)
  (fun b o hc e=>⟨o,k b o (fun z=>hc (by simp[z])) e⟩) (fun _ _ e=>e) (fun _ _ _ e=>e) (fun b ps e=>⟨#[],by rw[e];simp⟩) (fun m hm=>?_) (fun b u e=>?_) I.bare
 · have e:b=it:=by simpa using hb
   subst e
   exact⟨h1,hL,h2,h3⟩
 · obtain⟨o,es,ep,ho,r⟩:=hm
   exact⟨o,es,ep,k _ o (MX hL) ho,r⟩
 · refine(I.hok b u e).stay (fun c v hc q=>k c v ?_ q) (fun _ q=>q) fun _ _ q=>q
   rcases hc with z|z
   · rw[z];exact nit b u e
   · exact nit c _ z
theorem Inv.tok(I:Inv X pins σ H s)(t:Nat):Inv X pins σ H {s with toks:=t}:=I.un (h':=s.heap) (t':=t) Un.refl I.hok
theorem Inv.kept{t':Nat}(I:Inv X pins σ H s)(k:∀b u,s.heap.get? b=some u->h'.get? b=some u):Inv X pins σ H {s with heap:=h',toks:=t' }:=I.un (Un.kept k) (I.hok.kept k)
theorem Inv.laid{a:Addr}{o:HO}{t':Nat}(I:Inv X pins σ H s)(k:∀b u,s.heap.get? b=some u->h'.get? b=some u)(hp:s.heap.objs.size<=a)(new:cT X.prog X.w (D8 H a o) h' a o) :
 Inv X pins σ (D8 H a o) {s with heap:=h',toks:=t' }:=I.un (Un.laid k hp (I.hok.fresh hp)) (I.hok.laid k hp new)
theorem Inv.write{x e:Addr}{o:HO}{t':Nat}(I:Inv X pins σ H s)(mu:GQ (H x))(he:e=x\/H e=some (.own x))(k:∀b u,b≠e->s.heap.get? b=some u->h'.get? b=some u)(heo:∃u,h'.get? e=some u)
 (new:cT X.prog X.w (D8 H x o) h' x o):Inv X pins σ (D8 H x o) {s with heap:=h',toks:=t' }:=I.un (Un.write mu he k heo) (I.hok.write mu he k heo new)
theorem Inv.pins_of{pins':List (Addr×Obj)}(I:Inv X pins σ H s)(h:∀p∈pins',s.heap.get? p.1=some p.2/\H p.1=none/\p.1≠X.env.locals/\p.1∉X.fs/\∀v,p.2.data ≠ .cell v):Inv X pins' σ H s :=
 ⟨I.ok,I.os,I.bare,I.base,I.loc,I.cell,I.free,I.freeC,fun p hp=>(Ik.mp hp).elim (fun z=>I.pin p (JO _ z)) (h p),I.hok,I.len⟩
theorem lP(hN:N.Nodup)(a:N[i]?=some x)(b:N[j]?=some x):i=j:=by
 obtain⟨h1,e1⟩:=HY.mp a
 obtain⟨h2,e2⟩:=HY.mp b
 exact(List.getElem_inj hN).mp (e1.trans e2.symm)
theorem eC{M:Model}{v:V}{Q:Unit->Hv->Prop}(I:Inv X pins σ H s)(hN:X.N.Nodup)(hi:X.N[i]?=some x)(hx:Loc X.env.scope x)(r:RelV v u)
 (h:∀s',Inv X pins (σ.set i (some v)) H s'->(∃a,Kj a s.heap s'.heap/\(a=X.env.locals\/X.env.cells.lookup x=some a))->Q () s')(hf:X.fn x=true\/X.env.scope.names.lookup x=some .local:=by first|exact .inl rfl|exact .inr rfl|assumption):Ia M A (storeName X.env x u) Q E s:=by
 obtain⟨m,hn,hl⟩:=id I.loc
 have hcls:(X.env.scope.kind == .class||(X.env.scope.kind == .module&&X.env.locals != X.env.globals))=false:=by rw[I.ok.kind];rfl
 have hiσ:i<σ.length:=by rw[I.len];exact(HY.mp hi).1
 have cne:=I.cne
 have tracked:∀{a:Addr}{h':Heap},(∃o,s.heap.get? a=some o/\H a=none)->Kj a s.heap h'->G6 X.prog X.w H h':=fun{a h'} ha hs b ob e=>by
  obtain⟨_,_,hfree⟩:=ha
  refine(I.hok b ob e).stay (fun c w' hc q=>(hs.2 c ?_).trans q) (fun _ q=>q) fun _ _ q=>q
  rintro rfl
  rcases hc with rfl|hc
  · rw[hfree]at e;cases e
  · rw[hfree]at hc;cases hc
 rcases hx with hk|hk
 · refine wpAny_storeName_local hk hn (fun h' hn' hs=>?_) hcls
   obtain⟨oL,_,_,hoL,_⟩:=id hn
   refine h _ ⟨I.ok,I.os,I.bare,⟨fun b o e n hb hx=>?_,fun b o e n hb hx=>?_,I.base.free,fun b o e hx=>?_,I.base.tups,I.base.frzs,I.base.tbls⟩,⟨_,hn',fun j y v' e1 e2 e3=>?_⟩,fun y c e=>?_,I.free,I.freeC,fun p hp=>?_,tracked ⟨oL,hoL,I.free⟩ hs,by simpa using I.len⟩ ⟨_,hs,.inl rfl⟩
   · exact(hs.2 b (Im (Hr (HJ e) I.ok.above))).trans (I.base.keep b o e n hb hx)
   · obtain⟨sl,e1⟩:=I.base.slot b o e n hb hx
     exact⟨sl,(hs.2 b (Im (Hr (HJ e) I.ok.above))).trans e1⟩
   · obtain⟨o',e1⟩:=I.base.there b o e hx
     exact⟨o',(hs.2 b (Im (Hr (HJ e) I.ok.above))).trans e1⟩
   · by_cases hj:j=i
     · subst hj
       rw[hi]at e1;cases e1
       rw[Ii hiσ]at e2
       cases e2
       exact⟨u,r,.inl ⟨hk,by simp⟩⟩
     · rw[Ib (MX hj)]at e2
       obtain⟨u',r',q⟩:=hl j y v' e1 e2 e3
       refine⟨u',r',?_⟩
       rcases q with⟨k,e⟩|⟨k,c,e,z⟩
       · refine .inl ⟨k,?_⟩
         have:y≠x:=fun e=>hj (lP hN e1 (e▸hi))
         simp[this,e]
       · exact .inr ⟨k,c,e,z.sameBut hs (cne y c e)⟩
   · obtain⟨w',z⟩:=I.cell y c e
     exact⟨w',z.sameBut hs (cne y c e)⟩
   · obtain⟨e,n,ne,nf,d⟩:=I.pin p hp
     exact⟨(hs.2 p.1 ne).trans e,n,ne,nf,d⟩
 · have hfn:X.fn x=true:=by
     rcases hf with z|z
     · exact z
     · rw[z]at hk;cases hk
   obtain⟨c,hc⟩:=I.ok.has x (.inl hk)
   obtain⟨w',z⟩:=I.cell x c hc
   refine wpAny_storeName_cell I.ok.kind hk hc z (fun h' hc' hs=>?_)
   obtain⟨oc,hoc,hocd⟩:=id z
   refine h {s with heap:=h' } ⟨I.ok,I.os,I.bare,⟨fun b o e n hb hx=>?_,fun b o e n hb hx=>?_,I.base.free,fun b o e hx=>?_,I.base.tups,I.base.frzs,I.base.tbls⟩,⟨m,hn.sameBut hs (MX (cne x c hc)),fun j y v' e1 e2 e3=>?_⟩,fun y c' e=>?_,I.free,I.freeC,fun p hp=>?_,tracked ⟨oc,hoc,I.freeC x c hc⟩ hs,by simpa using I.len⟩ ⟨c,hs,.inr hc⟩
   · exact(hs.2 b (Im (Hr (HJ e) (I.ok.cab x c hfn hc)))).trans (I.base.keep b o e n hb hx)
   · obtain⟨sl,e1⟩:=I.base.slot b o e n hb hx
     exact⟨sl,(hs.2 b (Im (Hr (HJ e) (I.ok.cab x c hfn hc)))).trans e1⟩
   · obtain⟨o',e1⟩:=I.base.there b o e hx
     exact⟨o',(hs.2 b (Im (Hr (HJ e) (I.ok.cab x c hfn hc)))).trans e1⟩
   · by_cases hj:j=i
     · subst hj
       rw[hi]at e1;cases e1
       rw[Ii hiσ]at e2
       cases e2
       exact⟨u,r,.inr ⟨.inl hk,c,hc,hc'⟩⟩
     · rw[Ib (MX hj)]at e2
       obtain⟨u',r',q⟩:=hl j y v' e1 e2 e3
       refine⟨u',r',?_⟩
       rcases q with q|⟨k,c',e,z'⟩
       · exact .inl q
       · refine .inr ⟨k,c',e,z'.sameBut hs ?_⟩
         rintro rfl
         exact hj (lP hN e1 (I.ok.inj _ _ _ e hc▸hi))
   · by_cases hcc:c'=c
     · subst hcc;exact⟨_,hc'⟩
     · obtain⟨w2,z2⟩:=I.cell y c' e
       exact⟨w2,z2.sameBut hs hcc⟩
   · obtain⟨e,n,ne,nf,d⟩:=I.pin p hp
     refine⟨(hs.2 p.1 ?_).trans e,n,ne,nf,d⟩
     intro q
     rw[q,hoc]at e
     have q':oc=p.2:=IJ e
     exact d w' (by rw[<- q'];exact hocd)
theorem eE{M:Model}{v:V}{Q:Unit->Hv->Prop}(I:Inv X pins σ H s)(hN:X.N.Nodup)(hi:X.N[i]?=some x)(hx:Loc X.env.scope x)(r:RelV v u)
 (h:∀s',Inv X pins (σ.set i (some v)) H s'->Q () s')(hf:X.fn x=true\/X.env.scope.names.lookup x=some .local:=by first|exact .inl rfl|exact .inr rfl|assumption):Ia M A (storeName X.env x u) Q E s :=
 eC I hN hi hx r (fun s' I' _=>h s' I') hf
end
abbrev XK:=Hq->Option Addr->Hp->Prop
abbrev St:=List (Option V)
abbrev VK:=V->Hp->Prop
abbrev TE:=St->Hp->VK->Prop
abbrev TT:=St->Hp->(Bool->Hp->Prop)->Prop
abbrev TA:=St->Hp->(List V->Hp->Prop)->Prop
structure Ends where
 nx:St->Hp->Prop
 rt:VK
 bk:St->Hp->Prop:=fun _ _=>False
 ct:St->Hp->Prop:=fun _ _=>False
abbrev TS:=Ends->St->Hp->Prop
noncomputable def EP(X:Cx)(pins:List (Addr×Obj))(σ:St)(Q:VK)(u:Hq)(s':Hv):Prop:=∃v H',Inv X pins σ H' s'/\RelV v u/\Q v H'
noncomputable def TP(X:Cx)(pins:List (Addr×Obj))(σ:St)(Q:Bool->Hp->Prop)(b:Bool)(s':Hv):Prop:=∃H',Inv X pins σ H' s'/\Q b H'
noncomputable def AP(X:Cx)(pins:List (Addr×Obj))(σ:St)(Q:List V->Hp->Prop)(us:List Hq)(s':Hv):Prop:=∃vs H',Inv X pins σ H' s'/\cz vs us/\Q vs H'
noncomputable def SP(X:Cx)(pins:List (Addr×Obj))(D:Ends)(f:Flow)(s':Hv):Prop :=
 match f with
 | .next=>∃σ' H',Inv X pins σ' H' s'/\D.nx σ' H'
 | .brk=>∃σ' H',Inv X pins σ' H' s'/\D.bk σ' H'
 | .cont=>∃σ' H',Inv X pins σ' H' s'/\D.ct σ' H'
 | .ret u=>∃v σ' H',Inv X pins σ' H' s'/\RelV v u/\D.rt v H'
noncomputable def PE(X:Cx)(e:Expr)(t:TE):Prop :=
 ∀(pins:List (Addr×Obj))(s:Hv)(σ:St)(H:Hp)(Q:VK),Inv X pins σ H s->t σ H Q->Ia (Il X.prog X.w) X.A (eval e X.env) (EP X pins σ Q) X.xe s
noncomputable def PT(X:Cx)(e:Expr)(t:TT):Prop :=
 ∀(pins:List (Addr×Obj))(s:Hv)(σ:St)(H:Hp)(Q:Bool->Hp->Prop),Inv X pins σ H s->t σ H Q->Ia (Il X.prog X.w) X.A (isTrue e X.env (eval e X.env)) (TP X pins σ Q) X.xe s
noncomputable def PW(X:Cx)(e:Expr)(t:TT):Prop :=
 ∀(whole:Sem Hq)(pins:List (Addr×Obj))(s:Hv)(σ:St)(H:Hp)(Q:Bool->Hp->Prop),Inv X pins σ H s->t σ H Q->Ia (Il X.prog X.w) X.A (isTrue e X.env whole) (TP X pins σ Q) X.xe s
theorem PW.pt{X:Cx}{t:TT}(h:PW X e t):PT X e t:=h _
noncomputable def PA(X:Cx)(es:List Expr)(t:TA):Prop :=
 ∀(pos:Pos)(pins:List (Addr×Obj))(s:Hv)(σ:St)(H:Hp)(Q:List V->Hp->Prop),Inv X pins σ H s->t σ H Q->Ia (Il X.prog X.w) X.A (spliced (I0 pos (Hw es X.env))) (AP X pins σ Q) X.xe s
noncomputable def PS(X:Cx)(st:Stmt)(t:TS):Prop :=
 ∀(pins:List (Addr×Obj))(s:Hv)(σ:St)(H:Hp)(D:Ends),Inv X pins σ H s->t D σ H->Ia (Il X.prog X.w) X.A (exec st X.env) (SP X pins D) X.xe s
noncomputable def GE(X:Cx)(st:List Stmt)(t:TS):Prop :=
 ∀(pins:List (Addr×Obj))(s:Hv)(σ:St)(H:Hp)(D:Ends),Inv X pins σ H s->t D σ H->Ia (Il X.prog X.w) X.A (execs st X.env) (SP X pins D) X.xe s
theorem Eg{t:Sem α}{Q Q':α->Hv->Prop}{M:Model}(h:Ia M A t Q E s)(hQ:∀a s,Q a s->Q' a s):Ia M A t Q' E s:=Is h hQ fun _ _ x=>x
section
variable{X:Cx}
noncomputable def Cv(i:Nat):TE:=fun σ H Q=>∃v,σ[i]?=some (some v)/\Q v H
noncomputable def tC(v:V):TE:=fun _ H Q=>Q v H
theorem cQ(hN:X.N[i]?=some x)(hv:Gc X.env.scope x)(hd:(x==("__debug__" : Str))=false:=by decide)(hcd:(x==("__classdict__" : Str))=false:=by decide):PE X (.Name x pos) (Cv i):=by
 intro pins s σ H Q I h
 obtain⟨v,e,h⟩:=h
 obtain⟨m,hn,hl⟩:=I.loc
 obtain⟨u,r,l⟩:=hl i x v hN e hv
 have fin:EP X pins σ Q u s:=⟨v,H,I,r,h⟩
 rcases l with⟨hk,hm⟩|⟨hk,c,hc,hcell⟩
 · exact wpAny_Name (MO I.ok.kind hk hn hm fin) hd
 · rcases hk with hk|hk
   · exact wpAny_Name (MY I.ok.kind hk hc hcell fin) hd
   · exact wpAny_Name (wpAny_loadName_free I.ok.kind hk hc hcell fin hcd) hd
theorem lM{i j pos}:PE X (.Constant (.int i) j pos) (tC (.int i)):=fun _ _ _ H _ I h=>wpAny_Constant_int ⟨.int i,H,I.tok _,⟨_,rfl⟩,h⟩
theorem AT{b j pos}:PE X (.Constant (.bool b) j pos) (tC (.bl b)):=fun _ _ _ H _ I h=>Constant_bool ⟨.bl b,H,I,rfl,h⟩
theorem dw{x j pos}:PE X (.Constant (.str x) j pos) (tC (.str x)):=fun _ _ _ H _ I h=>Calls.Constant_str ⟨.str x,H,I.tok _,⟨_,rfl⟩,h⟩
noncomputable def Gl(X:Cx)(x:Str):Prop:=X.env.kindOf x=some .globalImplicit
theorem pB{σ:St}{H:Hp}(I:Inv X pins σ H s)(hg:Gl X x)(hm:X.mg x=some u)(h:Q u s)
 (hd:(x==("__debug__" : Str))=false:=by decide):Ia (Il X.prog X.w) X.A (eval (.Name x pos) X.env) Q E s :=
 LM I.ok.kind hg (Calls.loadGlobal_global (by rw[I.ok.glob];exact I.mod.glob.keeps I.bk) hm h) hd
theorem fK{σ:St}{H:Hp}(I:Inv X pins σ H s)(hg:Gl X x)(hm:X.mg x=none)(hv:Ki x=some u)(h:Q u s)
 (hn:x ≠ "__name__" := by decide)(hd:(x==("__debug__" : Str))=false:=by decide):Ia (Il X.prog X.w) X.A (eval (.Name x pos) X.env) Q E s:=by
 obtain⟨mb,h1,h2⟩:=I.mod.blt
 exact LM I.ok.kind hg (Calls.loadGlobal_builtin (by rw[I.ok.glob];exact I.mod.glob.keeps I.bk) hm (by rw[I.ok.blt];exact h1.keeps I.bk) ((h2 x hn).trans hv) h) hd
theorem u_{v:V}(hg:Gl X x)(hm:X.mg x=some u)(r:RelV v u)(hd:(x==("__debug__" : Str))=false:=by decide):PE X (.Name x pos) (tC v) :=
 fun _ _ _ H _ I h=>pB I hg hm ⟨v,H,I,r,h⟩ hd
theorem vd{v:V}(hg:Gl X x)(hm:X.mg x=none)(hv:Ki x=some u)(r:RelV v u)(hn:x ≠ "__name__" := by decide)(hd:(x==("__debug__" : Str))=false:=by decide):PE X (.Name x pos) (tC v) :=
 fun _ _ _ H _ I h=>fK I hg hm hv ⟨v,H,I,r,h⟩ hn hd
variable{a b:Expr}{ta tb:TE}{pos:Pos}
noncomputable def tB(t:TE):TT:=fun σ H Q=>t σ H fun x H1=>∃c,x = .bl c/\Q c H1
theorem yg{t:TE}(h:PE X e t)(he:∀whole,isTrue e X.env whole=(do let v <- whole;MZ e.pos;holding [v] (truthy v)):=by intro _;rfl):PT X e (tB t):=by
 intro pins s σ H Q I hw
 refine isTrue_plain (Eg (h pins s σ H _ I hw) fun v s1 ⟨x,H1,I1,r1,q1⟩=>?_) (he _)
 obtain⟨d,rfl,q⟩:=q1
 cases r1
 exact JC ⟨H1,I1,q⟩
variable{tA tB':TT}{rest:List Expr}
noncomputable def Di(t u:TT):TT:=fun σ H Q=>t σ H fun c H1=>if c=true then u σ H1 Q else Q false H1
noncomputable def Ej(t u:TT):TT:=fun σ H Q=>t σ H fun c H1=>if c=true then Q true H1 else u σ H1 Q
noncomputable def Da(t:TT):TT:=fun σ H Q=>t σ H fun c H1=>Q (!c) H1
theorem uN(ha:PT X a tA):PW X (.BoolOp .And [a] pos) tA:=by
 intro wh pins s σ H Q I h
 refine isTrue_and (Eg (ha pins s σ H Q I h) fun c s1 e=>?_)
 cases c with
 | true=>exact isTrue_and_nil e
 | false=>exact e
theorem ye(ha:PT X a tA):PW X (.BoolOp .Or [a] pos) tA:=by
 intro wh pins s σ H Q I h
 refine isTrue_or (Eg (ha pins s σ H Q I h) fun c s1 e=>?_)
 cases c with
 | false=>exact isTrue_or_nil e
 | true=>exact e
theorem yf(ha:PT X a tA)(hb:PW X (.BoolOp .And (b::rest) pos) tB'):PW X (.BoolOp .And (a::b::rest) pos) (Di tA tB'):=by
 intro wh pins s σ H Q I h
 refine isTrue_and (Eg (ha pins s σ H _ I h) fun c s1 ⟨H1,I1,q1⟩=>?_)
 cases c with
 | true=>exact hb wh pins s1 σ H1 Q I1 q1
 | false=>exact⟨H1,I1,q1⟩
theorem AI(ha:PT X a tA)(hb:PW X (.BoolOp .Or (b::rest) pos) tB'):PW X (.BoolOp .Or (a::b::rest) pos) (Ej tA tB'):=by
 intro wh pins s σ H Q I h
 refine isTrue_or (Eg (ha pins s σ H _ I h) fun c s1 ⟨H1,I1,q1⟩=>?_)
 cases c with
 | true=>exact⟨H1,I1,q1⟩
 | false=>exact hb wh pins s1 σ H1 Q I1 q1
theorem yh(ha:PT X a tA):PT X (.UnaryOp .Not a pos) (Da tA):=by
 intro pins s σ H Q I h
 exact isTrue_not (ha pins s σ H (fun c H1=>Q (!c) H1) I h)
noncomputable def Ax(ta tb:TE):TE:=fun σ H Q=>ta σ H fun x H1=>∃c,x = .bl c/\if c=true then tb σ H1 Q else Q (.bl false) H1
noncomputable def C_(ta tb:TE):TE:=fun σ H Q=>ta σ H fun x H1=>∃c,x = .bl c/\if c=true then Q (.bl true) H1 else tb σ H1 Q
noncomputable def Ar(ta:TE):TE:=fun σ H Q=>ta σ H fun x H1=>∃c,x = .bl c/\Q (.bl (!c)) H1
theorem yr{op}{t:TE}(h:PE X a t):PE X (.BoolOp op [a] pos) t:=fun pins s σ H Q I hw=>BoolOp_one (h pins s σ H Q I hw)
theorem yy(ha:PE X a ta)(hb:PE X (.BoolOp .And (b::rest) pos) tb):PE X (.BoolOp .And (a::b::rest) pos) (Ax ta tb):=by
 intro pins s σ H Q I h
 refine BoolOp_and (Eg (ha pins s σ H _ I h) fun v s1 ⟨x,H1,I1,r1,q1⟩=>?_)
 obtain⟨c,rfl,q1⟩:=q1
 cases r1
 refine JC ?_
 cases c with
 | true=>exact hb pins s1 σ H1 Q I1 q1
 | false=>exact⟨.bl false,H1,I1,rfl,q1⟩
theorem AR(ha:PE X a ta)(hb:PE X (.BoolOp .Or (b::rest) pos) tb):PE X (.BoolOp .Or (a::b::rest) pos) (C_ ta tb):=by
 intro pins s σ H Q I h
 refine BoolOp_or (Eg (ha pins s σ H _ I h) fun v s1 ⟨x,H1,I1,r1,q1⟩=>?_)
 obtain⟨c,rfl,q1⟩:=q1
 cases r1
 refine JC ?_
 cases c with
 | false=>exact hb pins s1 σ H1 Q I1 q1
 | true=>exact⟨.bl true,H1,I1,rfl,q1⟩
theorem yt(ha:PE X a ta):PE X (.UnaryOp .Not a pos) (Ar ta):=by
 intro pins s σ H Q I h
 refine UnaryOp_ (Eg (ha pins s σ H _ I h) fun v s1 ⟨x,H1,I1,r1,q1⟩=>?_)
 obtain⟨c,rfl,q1⟩:=q1
 cases r1
 exact not_of (JC ⟨.bl (!c),H1,I1,rfl,q1⟩)
noncomputable def Eo(t:TT)(ta tb:TE):TE:=fun σ H Q=>t σ H fun c H1=>if c=true then ta σ H1 Q else tb σ H1 Q
theorem rg(hc:PT X c tA)(ha:PE X a ta)(hb:PE X b tb):PE X (.IfExp c a b pos) (Eo tA ta tb):=by
 intro pins s σ H Q I h
 refine wpAny_IfExp (Eg (hc pins s σ H _ I h) fun d s1 ⟨H1,I1,q1⟩=>?_)
 cases d with
 | true=>exact ha pins s1 σ H1 Q I1 q1
 | false=>exact hb pins s1 σ H1 Q I1 q1
end
noncomputable def Gr(K:W.Frag)(H:Hp)(a:Addr)(xs:List V):Prop :=
 Rd H a (.lst xs) \/
  ∃(o:Obj)(its:Array Hq)(n:Nat),K.lookup a=some o/\o.cls = .type "list" /\ o.dict=none/\o.data = .seq its n/\its.size<=sizeLine/\cz xs its.toList
noncomputable def Gq(K:W.Frag)(H:Hp)(a:Addr)(xs:List V):Prop :=
 Rd H a (.tup xs) \/
  ∃(o:Obj)(its:Array Hq)(n:Nat),K.lookup a=some o/\o.cls = .type "tuple" /\ o.data = .seq its n/\its.size<=sizeLine/\cz xs its.toList/\o.dict=none
noncomputable def Dx:Hq->Option V
 | .none=>some .non
 | .bool b=>some (.bl b)
 | .int i _=>some (.int i)
 | .str x _=>some (.str x)
 | .bytes b _=>some (.byt b)
 | .float b _=>some (.flt b)
 | .ref a=>some (.ref a)
 | .type n=>some (.ty n)
 | _=>none
theorem RelV.abs{x:V}(r:RelV x u):Dx u=some x:=by
 cases x with
 | non=>cases r;rfl
 | bl _=>cases r;rfl
 | int _=>obtain⟨t,rfl⟩:=r;rfl
 | str _=>obtain⟨t,rfl⟩:=r;rfl
 | byt _=>obtain⟨t,rfl⟩:=r;rfl
 | flt _=>obtain⟨t,rfl⟩:=r;rfl
 | ref _=>cases r;rfl
 | ty _=>cases r;rfl
theorem RelV.inj{x y:V}(r:RelV x u)(q:RelV y u):x=y:=IJ (r.abs.symm.trans q.abs)
theorem cz.inj:∀{xs ys:List V}{us:List Hq},cz xs us->cz ys us->xs=ys
 | _,_,_,.nil,.nil=>rfl
 | _,_,_,.cons r t,.cons r' t'=>by rw[r.inj r',cz.inj t t']
section
variable{X:Cx}{pins:List (Addr×Obj)}{σ:St}{H:Hp}{s:Hv}{a:Addr}{xs ys:List V}
theorem Inv.list(I:Inv X pins σ H s)(h:Gr X.K H a xs):∃its:List Hq,cz xs its/\PlainL s.heap a its.toArray/\xs.length<=sizeLine:=by
 rcases h with h|⟨o,its,n,hk,hc,hd,hs,hz,r⟩
 · obtain⟨z,its,n,r,e⟩:=h.ok I.hok
   exact⟨its,r,⟨_,n,e,rfl,rfl,rfl⟩,z⟩
 · refine⟨its.toList,r,⟨o,n,I.kIn a o hk,hc,hd,by simpa using hs⟩,?_⟩
   have e:=r.length
   simp only[Km]at e
   omega
theorem Inv.tuple(I:Inv X pins σ H s)(h:Gq X.K H a xs):∃its:List Hq,cz xs its/\IsTup s.heap a its.toArray/\xs.length<=sizeLine:=by
 rcases h with h|⟨o,its,n,hk,hc,hs,hz,r,hd⟩
 · obtain⟨z,its,r,p⟩:=h.ok I.hok
   exact⟨its,r,p.tup,z⟩
 · refine⟨its.toList,r,⟨o,I.kIn a o hk,hc,n,by simpa using hs⟩,?_⟩
   have e:=r.length
   simp only[Km]at e
   omega
theorem Inv.list_inj(I:Inv X pins σ H s)(h:Gr X.K H a xs)(h':Gr X.K H a ys):xs=ys:=by
 obtain⟨its,r,⟨o,n,e,_,_,d⟩,_⟩:=I.list h
 obtain⟨its',r',⟨o',n',e',_,_,d'⟩,_⟩:=I.list h'
 rw[e]at e';cases e'
 rw[d]at d'
 injection d' with d1 _
 have:its=its':=by simpa using congrArg Array.toList d1
 subst this
 exact r.inj r'
theorem Inv.tupleD(I:Inv X pins σ H s)(h:Gq X.K H a xs):∃ob,s.heap.get? a=some ob/\ob.cls = .type "tuple" /\ ob.dict=none:=by
 rcases h with h|⟨o,its,n,hk,hc,hs,hz,r,hd⟩
 · obtain⟨z,its,r,⟨o,e1,e2,_,e3⟩⟩:=h.ok I.hok
   exact⟨o,e1,e2,e3⟩
 · exact⟨o,I.kIn a o hk,hc,hd⟩
theorem Inv.tuple_inj(I:Inv X pins σ H s)(h:Gq X.K H a xs)(h':Gq X.K H a ys):xs=ys:=by
 obtain⟨its,r,⟨o,e,_,n,d⟩,_⟩:=I.tuple h
 obtain⟨its',r',⟨o',e',_,n',d'⟩,_⟩:=I.tuple h'
 rw[e]at e';cases e'
 rw[d]at d'
 injection d' with d1 _
 have:its=its':=by simpa using congrArg Array.toList d1
 subst this
 exact r.inj r'
end
abbrev Cx.wish(X:Cx)(E:Hq->Hv->Prop):Cx:={X with xe:=E}
abbrev Cx.nox(X:Cx):Cx:=X.wish fun _ _=>False
theorem Cx.Ok.wish{X:Cx}(ok:X.Ok)(E:Hq->Hv->Prop):(X.wish E).Ok :=
 ⟨ok.mod,ok.kind,ok.glob,ok.blt,ok.above,ok.inj,ok.has,ok.cab,ok.hd,ok.frames,ok.stk,ok.exf,ok.bs,ok.bsz,ok.noex,ok.exfs,ok.funs,ok.frf⟩
theorem Cx.Ok.unwish{X:Cx}(ok:(X.wish E).Ok):X.Ok :=
 ⟨ok.mod,ok.kind,ok.glob,ok.blt,ok.above,ok.inj,ok.has,ok.cab,ok.hd,ok.frames,ok.stk,ok.exf,ok.bs,ok.bsz,ok.noex,ok.exfs,ok.funs,ok.frf⟩
section
variable{X:Cx}{pins:List (Addr×Obj)}{σ:St}{H:Hp}{s:Hv}{E:Hq->Hv->Prop}
theorem Inv.wish(I:Inv X pins σ H s)(E:Hq->Hv->Prop):Inv (X.wish E) pins σ H s:=⟨I.ok.wish E,I.os,I.bare,I.base,I.loc,I.cell,I.free,I.freeC,I.pin,I.hok,I.len⟩
theorem Inv.unwish(I:Inv (X.wish E) pins σ H s):Inv X pins σ H s:=⟨I.ok.unwish,I.os,I.bare,I.base,I.loc,I.cell,I.free,I.freeC,I.pin,I.hok,I.len⟩
theorem SP.unwish{D:Ends}{f:Flow}{s':Hv}(h:SP (X.wish E) pins D f s'):SP X pins D f s':=by
 cases f with
 | next=>obtain⟨σ',H',I,q⟩:=h;exact⟨σ',H',I.unwish,q⟩
 | brk=>obtain⟨σ',H',I,q⟩:=h;exact⟨σ',H',I.unwish,q⟩
 | cont=>obtain⟨σ',H',I,q⟩:=h;exact⟨σ',H',I.unwish,q⟩
 | ret u=>obtain⟨v,σ',H',I,r,q⟩:=h;exact⟨v,σ',H',I.unwish,r,q⟩
theorem GE.nox{st:List Stmt}{t:TS}(h:GE X.nox st t):GE X st t:=fun pins s σ H D I hw =>
 Is (h pins s σ H D (I.wish _) hw) (fun _ _ q=>q.unwish) fun _ _ z=>Jb z
end
section
variable{X:Cx}{st:Stmt}{rest:List Stmt}{t u:TS}{e:Expr}{te:TE}{pos:Pos}
noncomputable def As:TS:=fun D σ H=>D.nx σ H
noncomputable def C7(t u:TS):TS:=fun D σ H=>t {D with nx:=u D} σ H
theorem oN:GE X [] As:=fun _ _ σ H _ I h=>LB ⟨σ,H,I,h⟩
theorem gc(h1:PS X st t)(h2:GE X rest u):GE X (st::rest) (C7 t u):=by
 intro pins s σ H D I h
 refine wpAny_execs_cons (Eg (h1 pins s σ H {D with nx:=u D} I h) fun f s1 q=>?_)
 cases f with
 | next =>
   obtain⟨σ',H',I',q⟩:=q
   exact h2 pins s1 σ' H' D I' q
 | ret v=>exact q
 | brk=>exact q
 | cont=>exact q
theorem oM(h1:PS X st t):GE X [st] t:=by
 intro pins s σ H D I h
 refine wpAny_execs_cons (Eg (h1 pins s σ H D I h) fun f s1 q=>?_)
 cases f with
 | next=>exact LB q
 | ret v=>exact q
 | brk=>exact q
 | cont=>exact q
theorem Inv.quiet{σ:St}{H:Hp}(I:Inv X pins σ H s):interactive X.env=false:=by simp[interactive,I.ok.kind]
noncomputable def Au(te:TE):TS:=fun D σ H=>te σ H fun _ H1=>D.nx σ H1
theorem kW(he:PE X e te)(hs:Jr e none pos.line X.env=pure false:=by rfl):PS X (.Expr e pos) (Au te):=by
 intro pins s σ H D I h
 exact wpAny_Expr_any (Eg (he pins s σ H _ I h) fun v s1 ⟨x,H1,I1,r1,q1⟩=>⟨σ,H1,I1,q1⟩) I.quiet hs
noncomputable def C8(te:TE):TS:=fun D σ H=>te σ H D.rt
theorem sY(he:PE X e te):PS X (.Return (some e) pos) (C8 te):=by
 intro pins s σ H D I h
 exact wpAny_Return_some (Eg (he pins s σ H _ I h) fun v s1 ⟨x,H1,I1,r1,q1⟩=>⟨x,σ,H1,I1,r1,q1⟩)
noncomputable def De(c:TT)(t u:TS):TS:=fun D σ H=>c σ H fun b H1=>if b=true then t D σ H1 else u D σ H1
theorem AN{a b:List Stmt}{tc:TT}(hc:PT X c tc)(ha:GE X a t)(hb:GE X b u):PS X (.If c a b pos) (De tc t u):=by
 intro pins s σ H D I h
 refine wpAny_If (Eg (hc pins s σ H _ I h) fun d s1 ⟨H1,I1,q1⟩=>?_)
 cases d with
 | true=>exact ha pins s1 σ H1 D I1 q1
 | false=>exact hb pins s1 σ H1 D I1 q1
noncomputable def xx:TS:=fun _ _ _=>False
theorem q0:PS X st xx:=fun _ _ _ _ _ _ h=>h.elim
end
abbrev TG:=V->St->Hp->(St->Hp->Prop)->Prop
abbrev Gp:=List V->St->Hp->(St->Hp->Prop)->Prop
noncomputable def PG(X:Cx)(target:Expr)(t:TG):Prop :=
 ∀ (pins:List (Addr×Obj))(s:Hv)(σ:St)(H:Hp)(v:V)(u:Hq)(Q:St->Hp->Prop),Inv X pins σ H s->RelV v u->t v σ H Q ->
   Ia (Il X.prog X.w) X.A (KM target X.env u) (fun _ s'=>∃σ' H',Inv X pins σ' H' s'/\Q σ' H') X.xe s
noncomputable def GL(X:Cx)(ts:List Expr)(t:Gp):Prop :=
 ∀ (pins:List (Addr×Obj))(s:Hv)(σ:St)(H:Hp)(vs:List V)(us:List Hq)(Q:St->Hp->Prop),Inv X pins σ H s->cz vs us->t vs σ H Q ->
   Ia (Il X.prog X.w) X.A (M_ ((Ku ts X.env).map (·.2)) us) (fun _ s'=>∃σ' H',Inv X pins σ' H' s'/\Q σ' H') X.xe s
abbrev Gn:=V->V->Hp->VK->Prop
noncomputable def GI(X:Cx)(op:Nz)(t:Gn):Prop :=
 ∀ (pins:List (Addr×Obj))(s:Hv)(σ:St)(H:Hp)(x y:V)(v u:Hq)(Q:VK),Inv X pins σ H s->RelV x v->RelV y u->t x y H Q ->
   Ia (Il X.prog X.w) X.A (inplaceOp op v u) (EP X pins σ Q) X.xe s
section
variable{X:Cx}{pos:Pos}
noncomputable def jn(i:Nat):TG:=fun v σ H Q=>Q (σ.set i (some v)) H
theorem u7(hN:X.N.Nodup)(hi:X.N[i]?=some x)(hx:Loc X.env.scope x)(hf:X.fn x=true\/X.env.scope.names.lookup x=some .local:=by first|exact .inl rfl|exact .inr rfl|assumption):PG X (.Name x pos) (jn i):=by
 intro pins s σ H v u Q I r h
 exact La (eE I hN hi hx r (fun s' I'=>⟨_,H,I',h⟩) hf)
noncomputable def Du:Gp:=fun vs σ H Q=>vs=[]/\Q σ H
noncomputable def Bi(t:TG)(u:Gp):Gp:=fun vs σ H Q=>∃v r,vs=v::r/\t v σ H fun σ' H'=>u r σ' H' Q
theorem u6:GL X [] Du:=by
 intro pins s σ H vs us Q I r h
 obtain⟨e,h⟩:=h
 subst e
 cases r
 exact assignInOrder_nil ⟨σ,H,I,h⟩
theorem rf{es:List Expr}{t:TG}{u:Gp}(h1:PG X e t)(h2:GL X es u)
 (hs:(Ku (e::es) X.env).map (·.2)=KM e X.env::(Ku es X.env).map (·.2):=by rfl):GL X (e::es) (Bi t u):=by
 intro pins s σ H vs us Q I r h
 obtain⟨v,vr,e1,h⟩:=h
 subst e1
 cases r with
 | cons r rr =>
   rw[hs]
   refine LQ (Eg (h1 pins s σ H _ _ _ I r h) fun _ s1 ⟨σ1,H1,I1,q1⟩=>?_)
   exact h2 pins s1 σ1 H1 _ _ Q I1 rr q1
noncomputable def Dt(K:W.Frag)(n:Nat)(t:Gp):TG:=fun v σ H Q=>∃a xs,v = .ref a/\Gq K H a xs/\xs.length=n/\t xs σ H Q
theorem yp{es:List Expr}{k:Nat}{t:Gp}(hc:X.calm=true)(h:GL X es t)
 (hn:(Ku es X.env).length=n:=by rfl)(hst:(Ku es X.env).findIdx? (·.1)=none:=by rfl):PG X (.Tuple es k pos) (Dt X.K n t):=by
 intro pins s σ H v u Q I r hw
 obtain⟨a,xs,e1,hq,hl,hw⟩:=hw
 subst e1
 cases r
 obtain⟨its,rv,ht,hz⟩:=I.tuple hq
 refine assign_Tuple_tuple (I.ok.hd hc) ht (by simp[hn,<- hl,rv.length]) hst fun h' hx=>?_
 have I1:Inv X pins σ H {s with heap:=h' }:=I.kept (t':=s.toks) fun b o e=>hx b o (Im (HJ e)) e
 exact h pins _ σ H xs _ Q I1 (by simpa using rv) hw
noncomputable def xC(te:TE)(g:TG):TS:=fun D σ H=>te σ H fun x H1=>g x σ H1 D.nx
theorem yk{te:TE}{g:TG}(he:PE X e te)(hg:PG X tg g)(hs:L9 [tg] e pos.line X.env=pure false:=by rfl)(hw:L_ [tg] e X.env=pure none:=by rfl)
 (h1:(Ku [tg] X.env).map (·.2)=[KM tg X.env]:=by rfl):PS X (.Assign [tg] e pos) (xC te g):=by
 intro pins s σ H D I h
 refine wpAny_Assign_stores (Eg (he pins s σ H _ I h) fun v s1 ⟨x,H1,I1,r1,q1⟩=>?_) hs hw
 rw[h1]
 exact Eg (hg pins s1 σ H1 x v _ I1 r1 q1) fun _ s2 q=>q
theorem gC{te:TE}(hN:X.N.Nodup)(hi:X.N[i]?=some x)(hx:Loc X.env.scope x)(he:PE X e te)(hs:Jr e (some (.Name x pos')) pos.line X.env=pure false:=by rfl)(hf:X.fn x=true\/X.env.scope.names.lookup x=some .local:=by first|exact .inl rfl|exact .inr rfl|assumption) :
 PS X (.Assign [.Name x pos'] e pos) (xC te (jn i)):=by
 intro pins s σ H D I h
 refine wpAny_Assign_Name (Eg (he pins s σ H _ I h) fun v s1 ⟨y,H1,I1,r1,q1⟩=>?_) hs
 exact eE I1 hN hi hx r1 (fun s2 I2=>⟨_,H1,I2,q1⟩) hf
noncomputable def C9(i j:Nat)(ta:TA):TS:=fun D σ H=>ta σ H fun vs H1=>∃v w,vs=[v,w]/\D.nx ((σ.set i (some v)).set j (some w)) H1
theorem yi{y:Str}{a b:Expr}{ta:TA}{py pt:Pos}{kt k2 pt2}(hc:X.calm=true)(hN:X.N.Nodup)(hi:X.N[i]?=some x)(hj:X.N[j]?=some y)(hij:i≠j)
 (hx:X.env.scope.names.lookup x=some .local)(hy:X.env.scope.names.lookup y=some .local)(ha:PA X [a,b] ta)
 (hw:L_ [.Tuple [.Name x px,.Name y py] kt pt] (.Tuple [a,b] k2 pt2) X.env=pure (some [x,y]))
 (hs:L9 [.Tuple [.Name x px,.Name y py] kt pt] (.Tuple [a,b] k2 pt2) pos.line X.env=pure false:=by rfl) :
 PS X (.Assign [.Tuple [.Name x px,.Name y py] kt pt] (.Tuple [a,b] k2 pt2) pos) (C9 i j ta):=by
 intro pins s σ H D I h
 rw[exec_Assign_arm]
 refine Hl (Jq ?_)
 rw[hs]
 refine Hl (HD ?_)
 rw[if_neg (by decide)]
 refine Hl (Tuple_ (Eg (ha _ pins s σ H _ I h) fun us s1 ⟨vs,H1,I1,r1,q1⟩=>?_))
 obtain⟨v,w,e1,q1⟩:=q1
 subst e1
 obtain⟨u1,u2,rfl,rv,rw'⟩:∃u1 u2,us=[u1,u2]/\RelV v u1/\RelV w u2:=by
  cases r1 with
  | cons p q =>
    cases q with
    | cons p' q' =>
      cases q'
      exact⟨_,_,rfl,p,p'⟩
 refine IL ?_ (by show 2<=sizeLine;decide)
 have I2:Inv X pins σ H1 {s1 with heap:=s1.heap.push {cls:=.type "tuple", data:=.seq [u1,u2].toArray}}:=I1.kept (t':=s1.toks) fun b o e=>Hm _ e
 rw[hw]
 refine Hl (HD ?_)
 show Ia (Il X.prog X.w) X.A (do rule "assign.swapped-stores"; let items <- unpackItems (.ref s1.heap.objs.size) 2 none;M_ [fun v=>bindName X.env y v,fun v=>bindName X.env x v] items.reverse;pure Flow.next) _ _ _
 refine Hl (Ly (Hl (unpackItems_tuple (items:=#[u1,u2]) (I.ok.hd hc) (IsTup.new s1.heap _) fun h' hx'=>?_)))
 have I3:=I2.kept (h':=h') (t':=s1.toks) fun b o e=>hx' b o (Im (HJ e)) e
 show Ia _ _ (M_ [fun v=>bindName X.env y v,fun v=>bindName X.env x v] [u2,u1] >>= fun _=>pure Flow.next) _ _ _
 refine Hl (LQ (wpAny_bindName (eE I3 hN hj (.inl hy) rw' (fun s2 I4=>?_) (.inr hy))))
 refine LQ (wpAny_bindName (eE I4 hN hi (.inl hx) rv (fun s3 I5=>assignInOrder_nil (HD ?_)) (.inr hx)))
 rw[List.set_comm _ _ (MX hij)]at I5
 exact⟨_,H1,I5,q1⟩
noncomputable def Dh(i:Nat)(te:TE)(ti:Gn):TS:=fun D σ H=>∃x,σ[i]?=some (some x)/\te σ H fun y H1=>ti x y H1 fun z H2=>D.nx (σ.set i (some z)) H2
theorem yj{te:TE}{op:Nz}{ti:Gn}(hN:X.N.Nodup)(hi:X.N[i]?=some x)(hx:Loc X.env.scope x)(he:PE X e te)(ho:GI X op ti)(hf:X.fn x=true\/X.env.scope.names.lookup x=some .local:=by first|exact .inl rfl|exact .inr rfl|assumption) :
 PS X (.AugAssign (.Name x pos') op e pos) (Dh i te ti):=by
 intro pins s σ H D I h
 obtain⟨v,e1,h⟩:=h
 obtain⟨m,hn,hl⟩:=I.loc
 have vis:Gc X.env.scope x:=by rcases hx with k|k;exact .inl k;exact .inr (.inl k)
 obtain⟨u,r,l⟩:=hl i x v hi e1 vis
 refine wpAny_AugAssign_Name ?_
 have go:Ia (Il X.prog X.w) X.A (eval e X.env) (fun w s₂=>Ia (Il X.prog X.w) X.A (inplaceOp op u w) (fun r s₃=>Ia (Il X.prog X.w) X.A (storeName X.env x r) (fun _=>SP X pins D .next) X.xe s₃) X.xe s₂) X.xe s:=by
  refine Eg (he pins s σ H _ I h) fun w s1 ⟨y,H1,I1,r1,q1⟩=>?_
  refine Eg (ho pins s1 σ H1 v y u w _ I1 r r1 q1) fun z s2 ⟨zv,H2,I2,r2,q2⟩=>?_
  exact eE I2 hN hi hx r2 (fun s3 I3=>⟨_,H2,I3,q2⟩) hf
 rcases l with⟨hk,hm⟩|⟨hk,c,hc,hcell⟩
 · exact MO I.ok.kind hk hn hm go
 · rcases hk with hk|hk
   · exact MY I.ok.kind hk hc hcell go
   · rcases hx with k|k
     · have:X.env.scope.names.lookup x=some .free:=hk
       rw[k]at this;cases this
     · have:X.env.scope.names.lookup x=some .free:=hk
       rw[k]at this;cases this
end
section
variable{X:Cx}{pos:Pos}
noncomputable def xw(c:TT)(tb:TS):TS:=fun D σ H=>∃W:Nat->St->Hp->Prop,(∃m,W m σ H)/\∀m σ H,W m σ H ->
 c σ H fun b H1=>if b=true then ∃N:St->Hp->Prop,(∀σ' H',N σ' H'->∃m',m'<m/\W m' σ' H')/\tb {D with nx:=N,ct:=N,bk:=D.nx} σ H1 else D.nx σ H1
theorem qZ{body:List Stmt}{tc:TT}{tb:TS}(hp:Na (Il X.prog X.w) X.A X.env X.xe)(hc:PT X c tc)(hb:GE X body tb):PS X (.While c body [] pos) (xw tc tb):=by
 intro pins s σ H D I h
 obtain⟨W,⟨m0,w0⟩,turn⟩:=h
 refine wpAny_While (codeAny_whileLoop (fun n s'=>∃σ' H',Inv X pins σ' H' s'/\W n σ' H') ?_ m0 ⟨σ,H,I,w0⟩)
 rintro n s1 ⟨σ1,H1,I1,w1⟩
 refine Kb hp (Eg (hc pins s1 σ1 H1 _ I1 (turn n σ1 H1 w1)) fun b s2 ⟨H2,I2,q2⟩=>?_)
 cases b with
 | true =>
   obtain⟨N,hN,q2⟩:=q2
   rw[if_pos rfl]
   refine Kb hp (Eg (hb pins s2 σ1 H2 _ I2 q2) fun f s3 q3=>?_)
   cases f with
   | next =>
     obtain⟨σ3,H3,I3,n3⟩:=q3
     obtain⟨m',hm,w3⟩:=hN σ3 H3 n3
     exact⟨m',hm,σ3,H3,I3,w3⟩
   | cont =>
     obtain⟨σ3,H3,I3,n3⟩:=q3
     obtain⟨m',hm,w3⟩:=hN σ3 H3 n3
     exact⟨m',hm,σ3,H3,I3,w3⟩
   | brk=>exact q3
   | ret v=>exact q3
 | false =>
   rw[if_neg Ic]
   exact LB ⟨σ1,H2,I2,q2⟩
end
structure It where
 go:Nat->Hp->Prop
 yld:Nat->Hp->V->Hp->Prop
 stop:Nat->Hp->Prop
noncomputable def kE(X:Cx)(pins:List (Addr×Obj))(H:Hp)(b:Addr):Prop :=
 H b=none/\b≠X.env.locals/\b∉X.fs/\(b∈X.ex\/X.s₀.heap.objs.size<=b)/\(∀x c,X.env.cells.lookup x=some c->c≠b)/\∀p∈X.pn++pins,p.1≠b
theorem Inv.fpOk{X:Cx}{σ:St}{H H':Hp}(I:Inv X pins σ H s)(hb:s.heap.objs.size<=b)(hn:H' b=none):kE X pins H' b:=by
 refine⟨hn,KB (Hr I.lt hb),I.nofs hb,.inr (HX I.sz hb),fun x c e z=>?_,fun p hp z=>?_⟩
 · obtain⟨v,q⟩:=I.cell x c e
   exact absurd (Hr q.lt (by rw[z];exact hb)) (JF _)
 · exact absurd (Hr (HJ (I.pin p hp).1) (by rw[z];exact hb)) (JF _)
structure Turn (P:Ij) (w:IV) (K:W.Frag) (tg:Expr) (J:It) (fp:List Addr) (it:Addr) (tn:Nat->Heap->Prop):Prop where
 mem:it∈fp
 obj:∀i h,tn i h->∀b∈fp,∃o,h.get? b=some o/\∀v,o.data ≠ .cell v
 keep:∀i h h',tn i h->(∀b∈fp,∀o,h.get? b=some o->h'.get? b=some o)->tn i h'
 item:∀(X:Cx),X.prog=P->X.w=w->X.K=K->X.calm=true->∀(i:Nat)(pins:List (Addr×Obj))(s:Hv)(σ:St)(H:Hp)(E:Hq->Hv->Prop),Inv X pins σ H s->(∀b∈fp,kE X pins H b)->tn i s.heap->J.go i H ->
  Ia (Il P w) X.A (Mw (.ref it)) (fun r s1=>∃u,r=some u /\
   Ia (Il P w) X.A (JG tg (.ref it) u) (fun _ s2=>∃x H',Inv X pins σ H' s2/\RelV x u/\J.yld i H x H'/\tn (i+1) s2.heap/\∀b∈fp,H' b=none) E s1) E s
 done:∀(X:Cx),X.prog=P->X.w=w->X.K=K->X.calm=true->∀(i:Nat)(pins:List (Addr×Obj))(s:Hv)(σ:St)(H:Hp)(E:Hq->Hv->Prop),Inv X pins σ H s->(∀b∈fp,kE X pins H b)->tn i s.heap->J.stop i H ->
  Ia (Il P w) X.A (Mw (.ref it)) (fun r s1=>r=none/\Inv X pins σ H s1) E s
 self:∀(A:IU)(i:Nat)(s:Hv)(Q:Hq->Hv->Prop)(E:Hq->Hv->Prop),tn i s.heap->Q (.ref it) s->Ia (Il P w) A (NA (.ref it)) Q E s
abbrev TI:=St->Hp->(It->Hp->Prop)->Prop
noncomputable def GK(X:Cx)(pins:List (Addr×Obj))(σ:St)(tg:Expr)(R:It->Hp->Prop)(itv:Hq)(s2:Hv):Prop :=
 ∃(it:Addr)(fp:List Addr)(tn:Nat->Heap->Prop)(J:It)(H':Hp),itv = .ref it/\Inv X pins σ H' s2/\Turn X.prog X.w X.K tg J fp it tn/\tn 0 s2.heap/\(∀b∈fp,kE X pins H' b)/\R J H'
noncomputable def PI(X:Cx)(tg iter:Expr)(wi:TI):Prop :=
 ∀ (pins:List (Addr×Obj))(s:Hv)(σ:St)(H:Hp)(R:It->Hp->Prop),Inv X pins σ H s->wi σ H R ->
   Ia (Il X.prog X.w) X.A (eval iter X.env) (fun v s1=>Ia (Il X.prog X.w) X.A (NA v) (GK X pins σ tg R) X.xe s1) X.xe s
theorem vX{M:Model}{o:Obj}{n:String}{vs:Array Hq}{Q:Unit->Hv->Prop}(ho:s.heap.get? it=some o)(hc:o.cls = .type n)(hd:o.data = .fields vs)
 (hn:["enumerate", "zip", "dict_itemiterator", "dict_reverseitemiterator", "odict_iterator", "itertools.zip_longest", "itertools.pairwise"].contains n=false)(hQ:Q () s):Ia M A (JG tg (.ref it) u) Q E s:=by
 unfold JG
 cases tg<;>first
  | exact HD hQ
  | (cases u<;>first
      | exact HD hQ
      | (refine Hl (wpAny_load ho ?_)
         rw[hc,hd]
         show Ia M A (if(["enumerate", "zip", "dict_itemiterator", "dict_reverseitemiterator", "odict_iterator", "itertools.zip_longest", "itertools.pairwise"].contains n&&vs[0]?==some (rawInt _))=true then _ else _) Q E s
         rw[if_neg (by intro h;rw[hn,Bool.false_and]at h;cases h)]
         exact HD hQ))
noncomputable def G0(K:W.Frag)(a:Addr):It :=
 ⟨fun i H=>∃xs x,Gr K H a xs/\xs[i]?=some x,fun i H x H'=>H'=H/\∀xs,Gr K H a xs->xs[i]?=some x,fun i H=>∃xs,Gr K H a xs/\xs.length<=i⟩
noncomputable def GY(K:W.Frag)(a:Addr):It :=
 ⟨fun i H=>∃xs x,Gq K H a xs/\xs[i]?=some x,fun i H x H'=>H'=H/\∀xs,Gq K H a xs->xs[i]?=some x,fun i H=>∃xs,Gq K H a xs/\xs.length<=i⟩
noncomputable def GZ(lo:Int)(n:Nat):It:=⟨fun i _=>i<n,fun i H x H'=>H'=H/\x = .int (lo+i),fun i _=>n<=i⟩
theorem jD{w:IV}{K:W.Frag}(a it:Addr):Turn P w K tg (G0 K a) [it] it (fun i h=>h.IsListIter it a i) where
 mem:=by simp
 obj:=fun i h st b hb=>by
  have e:b=it:=by simpa using hb
  subst e
  obtain⟨o,e,c,d⟩:=st
  exact⟨o,e,fun v z=>by rw[d]at z;cases z⟩
 keep:=fun i h h' st k=>st.at fun o e=>k it (by simp) o e
 item:=by
  intro X hP hw hK hc i pins s σ H E I hf st hg
  subst hP hw hK
  obtain⟨xs,x,hq,hx⟩:=hg
  obtain⟨its,rv,p,hz⟩:=I.list hq
  obtain⟨u,hu,ru⟩:=rv.get hx
  obtain⟨f0,f1,f2,f3,f4,f5⟩:=hf it (by simp)
  refine wpAny_pyNext_list_item st p.isList (x:=u) (by simpa using hu) fun h' st' sb=>?_
  have I1:Inv X pins σ H {s with heap:=h' }:=I.turned (t':=s.toks) (fun b o hb e=>(sb.2 b hb).trans e) f0 f1 f3 f4 f5
  obtain⟨o,e,c,d⟩:=id st'
  exact⟨u,rfl,vX (s:={s with heap:=h' }) e c d (by decide) ⟨x,H,I1,ru,⟨rfl,fun ys hy=>by rw[I.list_inj hy hq];exact hx⟩,st',fun b hb=>(hf b hb).1⟩⟩
 done:=by
  intro X hP hw hK hc i pins s σ H E I hf st hg
  subst hP hw hK
  obtain⟨xs,hq,hx⟩:=hg
  obtain⟨its,rv,p,hz⟩:=I.list hq
  obtain⟨f0,f1,f2,f3,f4,f5⟩:=hf it (by simp)
  have hl:=rv.length
  exact wpAny_pyNext_list_end (I.ok.hd hc) st p.isList (by simp;omega) fun h' eb=>⟨rfl,I.turned (t':=s.toks) (fun b o hb e=>eb b o hb e) f0 f1 f3 f4 f5⟩
 self:=fun _ _ _ _ _ st h=>wpAny_pyIter_listiter st h
theorem ij{w:IV}{K:W.Frag}(a it:Addr):Turn P w K tg (GY K a) [it] it (fun i h=>h.IsTupleIter it a i) where
 mem:=by simp
 obj:=fun i h st b hb=>by
  have e:b=it:=by simpa using hb
  subst e
  obtain⟨o,e,c,d⟩:=st
  exact⟨o,e,fun v z=>by rw[d]at z;cases z⟩
 keep:=fun i h h' st k=>st.at fun o e=>k it (by simp) o e
 item:=by
  intro X hP hw hK hc i pins s σ H E I hf st hg
  subst hP hw hK
  obtain⟨xs,x,hq,hx⟩:=hg
  obtain⟨its,rv,p,hz⟩:=I.tuple hq
  obtain⟨u,hu,ru⟩:=rv.get hx
  obtain⟨f0,f1,f2,f3,f4,f5⟩:=hf it (by simp)
  refine wpAny_pyNext_tuple_item st (show s.heap.IsTuple a its.toArray from p) (x:=u) (by simpa using hu) fun h' st' sb=>?_
  have I1:Inv X pins σ H {s with heap:=h' }:=I.turned (t':=s.toks) (fun b o hb e=>(sb.2 b hb).trans e) f0 f1 f3 f4 f5
  obtain⟨o,e,c,d⟩:=id st'
  exact⟨u,rfl,vX (s:={s with heap:=h' }) e c d (by decide) ⟨x,H,I1,ru,⟨rfl,fun ys hy=>by rw[I.tuple_inj hy hq];exact hx⟩,st',fun b hb=>(hf b hb).1⟩⟩
 done:=by
  intro X hP hw hK hc i pins s σ H E I hf st hg
  subst hP hw hK
  obtain⟨xs,hq,hx⟩:=hg
  obtain⟨its,rv,p,hz⟩:=I.tuple hq
  obtain⟨f0,f1,f2,f3,f4,f5⟩:=hf it (by simp)
  have hl:=rv.length
  exact wpAny_pyNext_tuple_end (I.ok.hd hc) st (show s.heap.IsTuple a its.toArray from p) (by simp;omega) fun h' eb=>⟨rfl,I.turned (t':=s.toks) (fun b o hb e=>eb b o hb e) f0 f1 f3 f4 f5⟩
 self:=fun _ _ _ _ _ st h=>wpAny_pyIter_tupleiter st h
theorem mP{w:IV}{K:W.Frag}(it:Addr)(lo:Int)(n:Nat):Turn P w K tg (GZ lo n) [it] it (fun i h=>IsRangeIter h it (lo+(i:Nat)*1) ((n:Int)-(i:Nat)) 1) where
 mem:=by simp
 obj:=fun i h st b hb=>by
  have e:b=it:=by simpa using hb
  subst e
  exact⟨_,st,fun v z=>by
   have z':Data.fields _=Data.cell v:=z
   cases z'⟩
 keep:=fun i h h' st k=>k it (by simp) _ st
 item:=by
  intro X hP hw hK hc i pins s σ H E I hf st hg
  subst hP hw hK
  obtain⟨f0,f1,f2,f3,f4,f5⟩:=hf it (by simp)
  have W:=Walks.range (prog:=X.prog) (w:=X.w) (I.ok.hd hc) it lo 1 n
  refine W.item i s _ _ hg st fun v h' tk hv st' kk=>?_
  obtain⟨t,rfl⟩:=hv
  have I1:Inv X pins σ H {s with heap:=h',toks:=tk}:=I.turned (fun b o hb e=>kk b o (by simpa using hb) e) f0 f1 f3 f4 f5
  refine⟨_,rfl,vX (s:={s with heap:=h',toks:=tk}) (n := "range_iterator") st' rfl rfl (by decide) ⟨.int (lo+i),H,I1,⟨t,?_⟩,⟨rfl,rfl⟩,st',fun b hb=>(hf b hb).1⟩⟩
  rw[NB]
 done:=by
  intro X hP hw hK hc i pins s σ H E I hf st hg
  subst hP hw hK
  obtain⟨f0,f1,f2,f3,f4,f5⟩:=hf it (by simp)
  exact wpAny_pyNext_range_end (I.ok.hd hc) st (by have:n<=i:=hg;omega) fun h' eb=>⟨rfl,I.turned (t':=s.toks) (fun b o hb e=>eb b o hb e) f0 f1 f3 f4 f5⟩
 self:=fun _ _ _ _ _ st h=>wpAny_pyIter_rangeiter st h
section
variable{X:Cx}{tg:Expr}
noncomputable def Bc(K:W.Frag)(tl:TE):TI:=fun σ H R=>tl σ H fun x H1=>∃a,x = .ref a/\(∃xs,Gr K H1 a xs)/\R (G0 K a) H1
noncomputable def Dq(K:W.Frag)(tl:TE):TI:=fun σ H R=>tl σ H fun x H1=>∃a,x = .ref a/\(∃xs,Gq K H1 a xs)/\R (GY K a) H1
theorem oR{l:Expr}{tl:TE}(hl:PE X l tl):PI X tg l (Bc X.K tl):=by
 intro pins s σ H R I h
 refine Eg (hl pins s σ H _ I h) fun v s1 ⟨x,H1,I1,r1,q1⟩=>?_
 obtain⟨a,e,⟨xs,hq⟩,q⟩:=q1
 subst e
 cases r1
 obtain⟨its,rv,p,hz⟩:=I1.list hq
 refine Kc p.isList ?_
 refine⟨s1.heap.objs.size,[s1.heap.objs.size],_,_,H1,rfl,I1.kept (t':=s1.toks) fun b o e=>Hm _ e,jD a _,⟨_,HR _ rfl,rfl,rfl⟩,fun b hb=>?_,q⟩
 have e:b=s1.heap.objs.size:=by simpa using hb
 subst e
 exact I1.fpOk (Hs _) (I1.hok.fresh (Hs _))
theorem yn{l:Expr}{tl:TE}(hl:PE X l tl):PI X tg l (Dq X.K tl):=by
 intro pins s σ H R I h
 refine Eg (hl pins s σ H _ I h) fun v s1 ⟨x,H1,I1,r1,q1⟩=>?_
 obtain⟨a,e,⟨xs,hq⟩,q⟩:=q1
 subst e
 cases r1
 obtain⟨its,rv,p,hz⟩:=I1.tuple hq
 refine LR (show s1.heap.IsTuple a its.toArray from p) ?_
 refine⟨s1.heap.objs.size,[s1.heap.objs.size],_,_,H1,rfl,I1.kept (t':=s1.toks) fun b o e=>Hm _ e,ij a _,⟨_,HR _ rfl,rfl,rfl⟩,fun b hb=>?_,q⟩
 have e:b=s1.heap.objs.size:=by simpa using hb
 subst e
 exact I1.fpOk (Hs _) (I1.hok.fresh (Hs _))
theorem qT{σ:St}{H:Hp}{R:It->Hp->Prop}{lo hi:Int}{t u v:Tok}{tk:Nat}(I:Inv X pins σ H s)(h1 : -(2^62)<=lo)(h2:lo<2^62)(h3 : -(2^62)<=hi)(h4:hi<2^62)
 (q:R (GZ lo (hi-lo).toNat) H):Ia (Il X.prog X.w) X.A (NA (.ref s.heap.objs.size)) (GK X pins σ tg R) E {s with heap:=s.heap.push {cls:=.type "range", data:=.fields #[.int lo t,.int hi u,.int 1 v]},toks:=tk}:=by
 refine wpAny_pyIter_range (IsRange.new ..) (small_one h1 h2 h3 h4) ?_
 have I1:Inv X pins σ H {s with heap:=s.heap.push {cls:=.type "range", data:=.fields #[.int lo t,.int hi u,.int 1 v]},toks:=tk}:=I.kept fun b o e=>Hm _ e
 refine⟨(s.heap.push {cls:=.type "range", data:=.fields #[.int lo t,.int hi u,.int 1 v]}).objs.size,[(s.heap.push {cls:=.type "range", data:=.fields #[.int lo t,.int hi u,.int 1 v]}).objs.size],_,_,H,rfl,
  I1.kept (t':=tk) fun b o e=>Hm _ e,mP _ lo (hi-lo).toNat,?_,fun b hb=>?_,q⟩
 · have e1:lo+((0:Nat):Int)*1=lo:=by simp
   have e2:(((hi-lo).toNat:Nat):Int)-((0:Nat):Int)=Builtin.Range.rangeSize lo hi 1:=by rw[rangeSize_one];split<;>omega
   show IsRangeIter _ _ (lo+((0:Nat):Int)*1) ((((hi-lo).toNat:Nat):Int)-((0:Nat):Int)) 1
   rw[e1,e2]
   exact HR _ rfl
 · have e:b=(s.heap.push {cls:=.type "range", data:=.fields #[.int lo t,.int hi u,.int 1 v]}).objs.size:=by simpa using hb
   subst e
   exact I1.fpOk (Hs _) (I1.hok.fresh (Hs _))
noncomputable def Bb(ta:TA):TI:=fun σ H R=>ta σ H fun vs H1=>∃j:Int,vs=[.int j] /\ -(2^62)<=j/\j<2^62/\R (GZ 0 j.toNat) H1
theorem oQ{a:Expr}{ta:TA}{p:Pos}(hg:Gl X "range")(hm:X.mg "range" = none)(ha:PA X [a] ta)(hs:Hw [a] X.env=[(false,eval a X.env)]:=by rfl):PI X tg (.Call (.Name "range" p) [a] [] pos) (Bb ta):=by
 intro pins s σ H R I h
 refine Call_ (fK I hg hm boot_range (Jw (Eg (ha pos pins s σ H _ I h) fun us s1 ⟨vs,H1,I1,r1,q1⟩=>?_) hs rfl))
 obtain⟨j,e,q1,q2,q⟩:=q1
 subst e
 cases r1 with
 | cons r rr =>
   cases rr
   obtain⟨t,rfl⟩:=r
   exact call_range_1 (qT I1 (by omega) (by omega) q1 q2 (by simpa using q))
noncomputable def Df(wi:TI)(g:TG)(tb:TS):TS:=fun D σ H=>wi σ H fun J H1=>∃W:Nat->Nat->St->Hp->Prop,(∃m,W 0 m σ H1)/\∀i m σ H,W i m σ H ->
 (J.stop i H/\D.nx σ H)\/(J.go i H/\∃N:St->Hp->Prop,(∀σ' H',N σ' H'->∃m',m'<m/\W (i+1) m' σ' H')/\∀x H',J.yld i H x H'->g x σ H' fun σ2 H2=>tb {D with nx:=N,ct:=N,bk:=D.nx} σ2 H2)
noncomputable def fF(fp:List Addr)(h:Heap):List (Addr×Obj):=fp.filterMap fun b=>(h.get? b).map fun o=>(b,o)
theorem bN{o:Obj}(hb:b∈fp)(e:h.get? b=some o):(b,o)∈fF fp h:=Jd.mpr ⟨b,hb,by rw[e];rfl⟩
theorem oZ{p:Addr×Obj}(hp:p∈fF fp h):p.1∈fp/\h.get? p.1=some p.2:=by
 obtain⟨b,hb,e⟩:=Jd.mp hp
 cases q:h.get? b with
 | none=>rw[q]at e;cases e
 | some o =>
   rw[q]at e
   have e':(b,o)=p:=IJ e
   subst e'
   exact⟨hb,q⟩
theorem Inv.pinned{σ:St}{H:Hp}(I:Inv X pins σ H s)(hf:∀b∈fp,kE X pins H b)(ho:∀b∈fp,∃o,s.heap.get? b=some o/\∀v,o.data ≠ .cell v):Inv X (pins++fF fp s.heap) σ H s :=
 I.pins_of fun p hp=>(Ik.mp hp).elim (fun z=>I.pin p (HK _ z)) fun z=>by
  obtain⟨hb,e⟩:=oZ z
  obtain⟨f0,f1,f2,_⟩:=hf p.1 hb
  obtain⟨o,e',d⟩:=ho p.1 hb
  rw[e]at e';cases e'
  exact⟨e,f0,f1,f2,d⟩
theorem Inv.unpinned{pl:List (Addr×Obj)}{σ:St}{H:Hp}(I:Inv X (pins++pl) σ H s):Inv X pins σ H s:=I.pins_of fun p hp=>I.pin p (HK _ (JO _ hp))
theorem sZ{body:List Stmt}{wi:TI}{g:TG}{tb:TS}(hp:Na (Il X.prog X.w) X.A X.env X.xe)(hc:X.calm=true)(hi:PI X tg iter wi)(hg:PG X tg g)(hb:GE X body tb)
 (hs:∀x,H0 iter X.env x=pure x:=by intro _;rfl):PS X (.For tg iter body [] pos) (Df wi g tb):=by
 intro pins s σ H D I h
 refine wpAny_For (Eg (hi pins s σ H _ I h) fun v s1 h1=>Eg h1 fun itv s2 h2=>?_) hs
 obtain⟨it,fp,tn,J,H2,e,I2,T,st2,f2,W,⟨m0,w0⟩,turn⟩:=h2
 subst e
 have stat:∀{H':Hp},(∀b∈fp,H' b=none)->∀b∈fp,kE X pins H' b:=fun hn b hb=>⟨hn b hb,(f2 b hb).2⟩
 refine codeAny_forLoop_any (fun n s'=>∃i σ' H',Inv X pins σ' H' s'/\tn i s'.heap/\(∀b∈fp,H' b=none)/\W i n σ' H') ?_ m0 ⟨0,σ,H2,I2,st2,fun b hb=>(f2 b hb).1,w0⟩
 rintro n s3 ⟨i,σ3,H3,I3,st3,fr3,w3⟩
 rcases turn i n σ3 H3 w3 with⟨stop,qn⟩|⟨go,N,hN,step⟩
 · refine Kb hp (Eg (T.done X rfl rfl rfl hc i pins s3 σ3 H3 X.xe I3 (stat fr3) st3 stop) fun r s4 ⟨hr,I4⟩=>?_)
   subst hr
   exact LB ⟨σ3,H3,I4,qn⟩
 · refine Kb hp (Eg (T.item X rfl rfl rfl hc i pins s3 σ3 H3 X.xe I3 (stat fr3) st3 go) fun r s4 ⟨u,hr,h4⟩=>?_)
   subst hr
   refine Kb hp (Eg h4 fun _ s5 ⟨x,H5,I5,r5,y5,st5,fr5⟩=>?_)
   have I5':=I5.pinned (stat fr5) (T.obj _ _ st5)
   refine Kb hp (Eg (hg _ s5 σ3 H5 x u _ I5' r5 (step x H5 y5)) fun _ s6 ⟨σ6,H6,I6,q6⟩=>?_)
   refine Kb hp (Eg (hb _ s6 σ6 H6 _ I6 q6) fun f s7 q7=>?_)
   have again:∀{σ7:St}{H7:Hp},Inv X (pins++fF fp s5.heap) σ7 H7 s7->N σ7 H7->∃m,m<n/\∃i σ' H',Inv X pins σ' H' s7/\tn i s7.heap/\(∀b∈fp,H' b=none)/\W i m σ' H':=fun{σ7 H7} I7 n7=>by
    obtain⟨m',hm,w7⟩:=hN σ7 H7 n7
    refine⟨m',hm,i+1,σ7,H7,I7.unpinned,T.keep _ _ _ st5 fun b hb o e=>(I7.pin (b,o) (HK _ (HK _ (bN hb e)))).1,fun b hb=>?_,w7⟩
    obtain⟨o,e,d⟩:=T.obj _ _ st5 b hb
    exact(I7.pin (b,o) (HK _ (HK _ (bN hb e)))).2.1
   cases f with
   | next=>obtain⟨σ7,H7,I7,n7⟩:=q7;exact again I7 n7
   | cont=>obtain⟨σ7,H7,I7,n7⟩:=q7;exact again I7 n7
   | brk=>obtain⟨σ7,H7,I7,q7⟩:=q7;exact⟨σ7,H7,I7.unpinned,q7⟩
   | ret v=>obtain⟨x7,σ7,H7,I7,r7,q7⟩:=q7;exact⟨x7,σ7,H7,I7.unpinned,r7,q7⟩
end
abbrev R2:=V->V->Hp->VK->Prop
noncomputable def GO(X:Cx)(f:Hq->Hq->Sem Hq)(r:R2):Prop :=
 ∀ (pins:List (Addr×Obj))(s:Hv)(σ:St)(H:Hp)(x y:V)(v u:Hq)(Q:VK),Inv X pins σ H s->RelV x v->RelV y u->r x y H Q ->
   Ia (Il X.prog X.w) X.A (f v u) (EP X pins σ Q) X.xe s
noncomputable def Gg(X:Cx)(f:Hq->Sem Hq)(r:V->Hp->VK->Prop):Prop :=
 ∀ (pins:List (Addr×Obj))(s:Hv)(σ:St)(H:Hp)(x:V)(v:Hq)(Q:VK),Inv X pins σ H s->RelV x v->r x H Q ->
   Ia (Il X.prog X.w) X.A (f v) (EP X pins σ Q) X.xe s
noncomputable def dB(X:Cx)(f:Hq)(r:List V->Hp->VK->Prop):Prop :=
 ∀ (pins:List (Addr×Obj))(s:Hv)(σ:St)(H:Hp)(xs:List V)(us:List Hq)(Q:VK),Inv X pins σ H s->cz xs us->r xs H Q ->
   Ia (Il X.prog X.w) X.A (call f us) (EP X pins σ Q) X.xe s
noncomputable def Ek(r:R2)(ta tb:TE):TE:=fun σ H Q=>ta σ H fun x H1=>tb σ H1 fun y H2=>r x y H2 Q
noncomputable def Eh(r:V->Hp->VK->Prop)(ta:TE):TE:=fun σ H Q=>ta σ H fun x H1=>r x H1 Q
noncomputable def rI(C:Int->Int->Prop)(g:Int->Int->V):R2:=fun x y H Q=>∃i j,x = .int i/\y = .int j/\C i j/\Q (g i j) H
noncomputable def EL(g:Int->Int->V):R2:=fun x y H Q=>∃i j,x = .int i/\y = .int j/\Q (g i j) H
noncomputable def rU(g:Int->V):V->Hp->VK->Prop:=fun x H Q=>∃i,x = .int i/\Q (g i) H
section
variable{X:Cx}{a b c:Expr}{ta tb tc:TE}{pos:Pos}
theorem Bn(ha:PE X a ta)(hb:PE X b tb){σ:St}{H:Hp}{R:V->V->Hp->Prop}(I:Inv X pins σ H s)
 (h:ta σ H fun x H1=>tb σ H1 fun y H2=>R x y H2){f:Hq->Hq->Sem Hq}
 (hf:∀v u s2 x y H2,Inv X pins σ H2 s2->RelV x v->RelV y u->R x y H2->Ia (Il X.prog X.w) X.A (f v u) Q X.xe s2) :
 Ia (Il X.prog X.w) X.A (eval a X.env) (fun v s₁=>Ia (Il X.prog X.w) X.A (eval b X.env) (fun u s₂=>Ia (Il X.prog X.w) X.A (f v u) Q X.xe s₂) X.xe s₁) X.xe s:=by
 refine Eg (ha pins s σ H _ I h) fun v s1 ⟨x,H1,I1,r1,q1⟩=>?_
 refine Eg (hb pins s1 σ H1 _ I1 q1) fun u s2 ⟨y,H2,I2,r2,q2⟩=>?_
 exact hf v u s2 x y H2 I2 r1 r2 q2
theorem AS{op:Nz}{r:R2}(ho:GO X (Kn op) r)(ha:PE X a ta)(hb:PE X b tb):PE X (.BinOp a op b pos) (Ek r ta tb):=by
 intro pins s σ H Q I h
 exact wpAny_BinOp (Bn ha hb I h fun v u s2 x y H2 I2 rx ry q=>ho pins s2 σ H2 x y v u Q I2 rx ry q)
theorem AQ{op:UnaryOp}{r:V->Hp->VK->Prop}(ho:Gg X (unaryOp op) r)(ha:PE X a ta):PE X (.UnaryOp op a pos) (Eh r ta):=by
 intro pins s σ H Q I h
 exact UnaryOp_ (Eg (ha pins s σ H _ I h) fun v s1 ⟨x,H1,I1,r1,q1⟩=>ho pins s1 σ H1 x v Q I1 r1 q1)
theorem EU{f:Hq->Hq->Sem Hq}{C:Int->Int->Prop}{g:Int->Int->Int}
 (rule:∀(i j:Int)(t u:Tok)(s:Hv)(Q:Hq->Hv->Prop)(E:Hq->Hv->Prop),C i j->Q (.int (g i j) s.toks) {s with toks:=s.toks+1}->Ia (Il X.prog X.w) X.A (f (.int i t) (.int j u)) Q E s) :
 GO X f (rI C fun i j=>.int (g i j)):=by
 intro pins s σ H x y v u Q I rx ry h
 obtain⟨i,j,rfl,rfl,hc,q⟩:=h
 obtain⟨t,rfl⟩:=rx
 obtain⟨t',rfl⟩:=ry
 exact rule i j t t' s _ _ hc ⟨.int (g i j),H,I.tok _,⟨_,rfl⟩,q⟩
theorem AV{f:Hq->Hq->Sem Hq}{g:Int->Int->Int}
 (rule:∀(i j:Int)(t u:Tok)(s:Hv)(Q:Hq->Hv->Prop)(E:Hq->Hv->Prop),Q (.int (g i j) s.toks) {s with toks:=s.toks+1}->Ia (Il X.prog X.w) X.A (f (.int i t) (.int j u)) Q E s) :
 GO X f (EL fun i j=>.int (g i j)):=by
 intro pins s σ H x y v u Q I rx ry h
 obtain⟨i,j,rfl,rfl,q⟩:=h
 obtain⟨t,rfl⟩:=rx
 obtain⟨t',rfl⟩:=ry
 exact rule i j t t' s _ _ ⟨.int (g i j),H,I.tok _,⟨_,rfl⟩,q⟩
theorem zJ{f:Hq->Hq->Sem Hq}{g:Int->Int->Bool}
 (rule:∀(i j:Int)(t u:Tok)(s:Hv)(Q:Hq->Hv->Prop)(E:Hq->Hv->Prop),Q (.bool (g i j)) s->Ia (Il X.prog X.w) X.A (f (.int i t) (.int j u)) Q E s) :
 GO X f (EL fun i j=>.bl (g i j)):=by
 intro pins s σ H x y v u Q I rx ry h
 obtain⟨i,j,rfl,rfl,q⟩:=h
 obtain⟨t,rfl⟩:=rx
 obtain⟨t',rfl⟩:=ry
 exact rule i j t t' s _ _ ⟨.bl (g i j),H,I,rfl,q⟩
noncomputable def tU(i j:Int):Prop:=0<=j/\j<=1000000/\i.natAbs<2^64
theorem yF:GO X (Kn .Add) (EL fun i j=>.int (i+j)):=AV fun _ _ _ _ _ _ _ q=>add_int q
theorem yz:GO X (Kn .Sub) (EL fun i j=>.int (i-j)):=AV fun _ _ _ _ _ _ _ q=>sub_int q
theorem vg:GO X (Kn .Mod) (rI (fun _ j=>j≠0) fun i j=>.int (i.fmod j)):=EU fun _ _ _ _ _ _ _ hc q=>mod_int' hc q
theorem yC:GO X (Kn .Pow) (rI tU fun i j=>.int (i^j.toNat)):=EU fun _ _ _ _ _ _ _ hc q=>pow_int_small hc.1 hc.2.1 hc.2.2 q
theorem yA:GO X (Kn .LShift) (rI tU fun i j=>.int (i*2^j.toNat)):=EU fun _ _ _ _ _ _ _ hc q=>lshift_int_small hc.1 hc.2.1 hc.2.2 q
theorem yE:GO X (Kn .BitAnd) (EL fun i j=>.int (Li i j)):=AV fun _ _ _ _ _ _ _ q=>and_int q
theorem D_{f:Hq->Sem Hq}{g:Int->Int}
 (rule:∀(i:Int)(t:Tok)(s:Hv)(Q:Hq->Hv->Prop)(E:Hq->Hv->Prop),Q (.int (g i) s.toks) {s with toks:=s.toks+1}->Ia (Il X.prog X.w) X.A (f (.int i t)) Q E s) :
 Gg X f (rU fun i=>.int (g i)):=by
 intro pins s σ H x v Q I rx h
 obtain⟨i,rfl,q⟩:=h
 obtain⟨t,rfl⟩:=rx
 exact rule i t s _ _ ⟨.int (g i),H,I.tok _,⟨_,rfl⟩,q⟩
theorem xo:Gg X (unaryOp .USub) (rU fun i=>.int (-i)):=D_ fun _ _ _ _ _ q=>neg_int q
end
noncomputable def Cz:V->V->Bool
 | .non,.non=>true | .non,.int _=>true | .int _,.non=>true | .non,.bl _=>true | .bl _,.non=>true | .non,.str _=>true | .str _,.non=>true
 | .int _,.int _=>true | .bl _,.bl _=>true | .str _,.str _=>true | .byt _,.byt _=>true
 | .int _,.str _=>true | .str _,.int _=>true | .bl _,.str _=>true | .str _,.bl _=>true
 | _,_=>false
noncomputable def EM:R2:=fun x y H Q=>Cz x y=true/\Q (.bl (decide (x=y))) H
noncomputable def EJ:R2:=fun x y H Q=>Cz x y=true/\Q (.bl (!decide (x=y))) H
theorem pX{i j:Int}:decide (V.int i=V.int j)=(i==j):=by
 rw[LC]
 simp
theorem tL{i j:Bool}:decide (V.bl i=V.bl j)=(i==j):=by
 rw[LC]
 simp
theorem pW{i j:Str}:decide (V.str i=V.str j)=(i==j):=by
 rw[LC]
 simp
theorem pY{i j:Array UInt8}:decide (V.byt i=V.byt j)=(i.toList==j.toList):=by
 rw[LC]
 cases i
 cases j
 simp
section
variable{X:Cx}{a b c:Expr}{ta tb tc:TE}{pos:Pos}
theorem ba{σ:St}{H:Hp}{Q:VK}{k k':Bool}(I:Inv X pins σ H s)(q:Q (.bl k) H)(e:k=k'):EP X pins σ Q (.bool k') s:=by
 subst e
 exact⟨.bl k,H,I,rfl,q⟩
theorem dF:GO X (JH .Eq) EM:=by
 intro pins s σ H x y v u Q I rx ry h
 obtain⟨hs,q⟩:=h
 cases x with
 | non =>
   cases rx
   cases y with
   | non=>cases ry;exact PySem.EqNone.eq_none_none (ba I q (by simp))
   | bl j=>cases ry;exact PySem.EqNone.eq_none_bool (ba I q (by simp))
   | int j=>obtain⟨t',rfl⟩:=ry;exact PySem.EqNone.eq_none_int (ba I q (by simp))
   | str j=>obtain⟨t',rfl⟩:=ry;exact PySem.EqNone.eq_none_str (ba I q (by simp))
   | _=>exact absurd (show false=true from hs) Ic
 | bl i =>
   cases rx
   cases y with
   | non=>cases ry;exact PySem.EqNone.eq_bool_none (ba I q (by simp))
   | bl j=>cases ry;exact eq_bool (ba I q tL)
   | str j=>obtain⟨t',rfl⟩:=ry;exact PySem.EqMixed.eq_bool_str (ba I q (by simp))
   | _=>exact absurd (show false=true from hs) Ic
 | int i =>
   obtain⟨t,rfl⟩:=rx
   cases y with
   | non=>cases ry;exact PySem.EqNone.eq_int_none (ba I q (by simp))
   | int j=>obtain⟨t',rfl⟩:=ry;exact eq_int (ba I q pX)
   | str j=>obtain⟨t',rfl⟩:=ry;exact PySem.EqMixed.eq_int_str (ba I q (by simp))
   | _=>exact absurd (show false=true from hs) Ic
 | str i =>
   obtain⟨t,rfl⟩:=rx
   cases y with
   | non=>cases ry;exact PySem.EqNone.eq_str_none (ba I q (by simp))
   | bl j=>cases ry;exact PySem.EqMixed.eq_str_bool (ba I q (by simp))
   | int j=>obtain⟨t',rfl⟩:=ry;exact PySem.EqMixed.eq_str_int (ba I q (by simp))
   | str j=>obtain⟨t',rfl⟩:=ry;exact eq_str (ba I q pW)
   | _=>exact absurd (show false=true from hs) Ic
 | byt i =>
   obtain⟨t,rfl⟩:=rx
   cases y with
   | byt j=>obtain⟨t',rfl⟩:=ry;exact W.eq_bytes (ba I q pY)
   | _=>exact absurd (show false=true from hs) Ic
 | _=>cases y<;>exact absurd (show false=true from hs) Ic
theorem oW:GO X (JH .NotEq) EJ:=by
 intro pins s σ H x y v u Q I rx ry h
 obtain⟨hs,q⟩:=h
 cases x with
 | non =>
   cases rx
   cases y with
   | non=>cases ry;exact PySem.EqNone.ne_none_none (ba I q (by simp))
   | bl j=>cases ry;exact PySem.EqNone.ne_none_bool (ba I q (by simp))
   | int j=>obtain⟨t',rfl⟩:=ry;exact PySem.EqNone.ne_none_int (ba I q (by simp))
   | str j=>obtain⟨t',rfl⟩:=ry;exact PySem.EqNone.ne_none_str (ba I q (by simp))
   | _=>exact absurd (show false=true from hs) Ic
 | bl i =>
   cases rx
   cases y with
   | non=>cases ry;exact PySem.EqNone.ne_bool_none (ba I q (by simp))
   | bl j=>cases ry;exact ne_bool (ba I q (congrArg not tL))
   | str j=>obtain⟨t',rfl⟩:=ry;exact PySem.EqMixed.ne_bool_str (ba I q (by simp))
   | _=>exact absurd (show false=true from hs) Ic
 | int i =>
   obtain⟨t,rfl⟩:=rx
   cases y with
   | non=>cases ry;exact PySem.EqNone.ne_int_none (ba I q (by simp))
   | int j=>obtain⟨t',rfl⟩:=ry;exact ne_int (ba I q (congrArg not pX))
   | str j=>obtain⟨t',rfl⟩:=ry;exact PySem.EqMixed.ne_int_str (ba I q (by simp))
   | _=>exact absurd (show false=true from hs) Ic
 | str i =>
   obtain⟨t,rfl⟩:=rx
   cases y with
   | non=>cases ry;exact PySem.EqNone.ne_str_none (ba I q (by simp))
   | bl j=>cases ry;exact PySem.EqMixed.ne_str_bool (ba I q (by simp))
   | int j=>obtain⟨t',rfl⟩:=ry;exact PySem.EqMixed.ne_str_int (ba I q (by simp))
   | str j=>obtain⟨t',rfl⟩:=ry;exact ne_str (ba I q (congrArg not pW))
   | _=>exact absurd (show false=true from hs) Ic
 | byt i =>
   obtain⟨t,rfl⟩:=rx
   cases y with
   | byt j=>obtain⟨t',rfl⟩:=ry;exact W.ne_bytes (ba I q (congrArg not pY))
   | _=>exact absurd (show false=true from hs) Ic
 | _=>cases y<;>exact absurd (show false=true from hs) Ic
theorem gJ:GO X (JH .Lt) (EL fun i j=>.bl (decide (i<j))):=zJ fun _ _ _ _ _ _ _ q=>lt_int q
theorem rq:GO X (JH .LtE) (EL fun i j=>.bl (decide (i<=j))):=zJ fun _ _ _ _ _ _ _ q=>le_int q
theorem m_:GO X (JH .Gt) (EL fun i j=>.bl (decide (j<i))):=zJ fun _ _ _ _ _ _ _ q=>gt_int q
theorem AU:GO X (JH .GtE) (EL fun i j=>.bl (decide (j<=i))):=zJ fun _ _ _ _ _ _ _ q=>ge_int q
theorem av(b:Expr)(h:op ≠ .In:=by decide)(h2:op ≠ .NotIn:=by decide):KY op b=false:=by
 have e1:(op==NR.In)=false:=by cases op<;>first|rfl|exact absurd rfl h
 have e2:(op==NR.NotIn)=false:=by cases op<;>first|rfl|exact absurd rfl h2
 cases b<;>simp[KY,e1,e2]
theorem va{r:R2}(ho:GO X (JH op) r)(ha:PE X a ta)(hb:PE X b tb)(hm:KY op b=false):PE X (.Compare a [op] [b] pos) (Ek r ta tb):=by
 intro pins s σ H Q I h
 exact wpAny_Compare1 (Bn ha hb I h fun v u s2 x y H2 I2 rx ry q=>ho pins s2 σ H2 x y v u Q I2 rx ry q) hm
noncomputable def Ap(t:TE):TT:=fun σ H Q=>t σ H fun x H'=>∃k,x = .bl k/\Q k H'
theorem uR{r:R2}(ho:GO X (JH op) r)(ha:PE X a ta)(hb:PE X b tb)(hm:KY op b=false):PT X (.Compare a [op] [b] pos) (Ap (Ek r ta tb)):=by
 intro pins s σ H Q I h
 refine wpAny_isTrue_Compare1 (Eg (ha pins s σ H _ I h) fun v s1 ⟨x,H1,I1,r1,q1⟩=>Eg (hb pins s1 σ H1 _ I1 q1) fun u s2 ⟨y,H2,I2,r2,q2⟩ =>
  Eg (ho pins s2 σ H2 x y v u _ I2 r1 r2 q2) fun c s3 ⟨z,H3,I3,r3,k,e,q3⟩=>?_) hm
 subst e
 cases r3
 exact JC ⟨H3,I3,q3⟩
noncomputable def xB(r r':R2)(ta tb tc:TE):TE:=fun σ H Q=>ta σ H fun x H1=>tb σ H1 fun y H2=>r x y H2 fun z H3=>∃k,z = .bl k /\
 (if k=true then tc σ H3 fun w' H4=>r' y w' H4 Q else Q (.bl false) H3)
theorem rj{op':NR}{r r':R2}(ho:GO X (JH op) r)(ho':GO X (JH op') r')(ha:PE X a ta)(hb:PE X b tb)(hc:PE X c tc)
 (hm:lastMarks [op,op'] [b,c]=false:=by with_unfolding_all rfl):PE X (.Compare a [op,op'] [b,c] pos) (xB r r' ta tb tc):=by
 intro pins s σ H Q I h
 refine Compare_chain (Eg (ha pins s σ H _ I h) fun v s1 ⟨x,H1,I1,r1,q1⟩=>chain_link (Eg (hb pins s1 σ H1 _ I1 q1) fun u s2 ⟨y,H2,I2,r2,q2⟩ =>
  Eg (ho pins s2 σ H2 x y v u _ I2 r1 r2 q2) fun d s3 ⟨z,H3,I3,r3,k,e,q3⟩=>?_)) hm
 subst e
 cases r3
 refine JC ?_
 cases k with
 | false=>exact ite_ff ⟨.bl false,H3,I3,rfl,q3⟩
 | true=>exact ite_tt (chain_last (Eg (hc pins s3 σ H3 _ I3 q3) fun w' s4 ⟨z',H4,I4,r4,q4⟩=>ho' pins s4 σ H4 y z' u w' Q I4 r2 r4 q4))
theorem lU:(sizeLine:Nat)<2^63:=by rw[sizeLine_eq];decide
theorem vals1{x:V}(r:cz [x] us):∃u,us=[u]/\RelV x u:=by
 cases r with
 | cons r1 r2=>cases r2;exact⟨_,rfl,r1⟩
theorem vals2{x y:V}(r:cz [x,y] us):∃u w',us=[u,w']/\RelV x u/\RelV y w':=by
 cases r with
 | cons r1 r2 =>
   cases r2 with
   | cons r3 r4=>cases r4;exact⟨_,_,rfl,r1,r3⟩
theorem sE:dB X (.builtin "abs") (fun xs H Q=>∃i,xs=[.int i]/\Q (.int (if i<0 then -i else i)) H):=by
 intro pins s σ H xs us Q I r h
 obtain⟨i,rfl,q⟩:=h
 obtain⟨u,rfl,t,rfl⟩:=vals1 r
 exact call_abs_int fun u tk=>⟨.int (if i<0 then -i else i),H,I.tok _,⟨_,rfl⟩,q⟩
theorem qm(hc:X.calm=true):dB X (.builtin "max") (fun xs H Q=>∃i j,xs=[.int i,.int j]/\Q (.int (if j>i then j else i)) H):=by
 intro pins s σ H xs us Q I r h
 obtain⟨i,j,rfl,q⟩:=h
 obtain⟨u,w',rfl,⟨t,rfl⟩,⟨t',rfl⟩⟩:=vals2 r
 refine max_two_ints (I.ok.hd hc) fun h' tk k=>⟨_,H,I.kept k,?_,q⟩
 by_cases hj:j>i
 · rw[if_pos hj,if_pos hj];exact⟨_,rfl⟩
 · rw[if_neg hj,if_neg hj];exact⟨_,rfl⟩
theorem ql(hc:X.calm=true):dB X (.builtin "min") (fun xs H Q=>∃i j,xs=[.int i,.int j]/\Q (.int (if j<i then j else i)) H):=by
 intro pins s σ H xs us Q I r h
 obtain⟨i,j,rfl,q⟩:=h
 obtain⟨u,w',rfl,⟨t,rfl⟩,⟨t',rfl⟩⟩:=vals2 r
 refine min_two_ints (I.ok.hd hc) fun h' tk k=>⟨_,H,I.kept k,?_,q⟩
 by_cases hj:j<i
 · rw[if_pos hj,if_pos hj];exact⟨_,rfl⟩
 · rw[if_neg hj,if_neg hj];exact⟨_,rfl⟩
theorem qo:dB X (.type "int") (fun xs H Q=>(∃i,xs=[.int i]/\Q (.int i) H)\/∃k,xs=[.bl k]/\Q (.int (if k then 1 else 0)) H):=by
 intro pins s σ H xs us Q I r h
 rcases h with⟨i,rfl,q⟩|⟨k,rfl,q⟩
 · obtain⟨u,rfl,t,rfl⟩:=vals1 r
   exact call_int_int ⟨.int i,H,I,⟨_,rfl⟩,q⟩
 · obtain⟨u,rfl,r1⟩:=vals1 r
   cases r1
   exact call_int_bool ⟨.int (if k then 1 else 0),H,I.tok _,⟨_,rfl⟩,q⟩
end
section
variable{prog:Ij}{w:IV}{A:IU}{E:Hq->Hv->Prop}{s:Hv}{K:W.Frag}{x dx C f:Addr}{mA:Str->Option Hq}{name:Str}{v:Hq}
end
noncomputable def putF(f:Str)(v:V):List (Str×V)->List (Str×V)
 | []=>[(f,v)]
 | (g,x)::r=>if g=f then(g,v)::r else(g,x)::putF f v r
theorem wF.some_of{v:V}{o:Option Hq}(r:wF (some v) o):∃u,o=some u/\RelV v u:=by
 cases o with
 | none=>exact(show False from r).elim
 | some u=>exact⟨u,rfl,r⟩
section
variable{P:Ij}{w:IV}{H H':Hp}{h h':Heap}{a C dx:Addr}{fs fs':List (Str×V)}
end
section
variable{X:Cx}{pins:List (Addr×Obj)}{σ:St}{H:Hp}{s:Hv}{a C dx:Addr}{fs:List (Str×V)}{f:Str}{v:V}{A:IU}{E:Hq->Hv->Prop}
end
section
variable{X:Cx}{o e value:Expr}{f:Str}{pos pos' tpos:Pos}{ta tv:TE}
end
section
variable{X:Cx}{pins:List (Addr×Obj)}{σ:St}{H:Hp}{s:Hv}{A:IU}{E:Hq->Hv->Prop}{Q:Hq->Hv->Prop}{c:Hq}{b:Bool}
end
structure Room (k:Nat) (A:IU):Prop where
 hd:A.handled=none
 dp:A.depth+3*k+5<recursionLimit
 un:A.units+16*k+200<Mn
 gd:A.guards=some []
theorem Room.mono{k:Nat}(r:Room k A)(h:j<=k):Room j A:=⟨r.hd,by have:=r.dp;omega,by have:=r.un;omega,r.gd⟩
theorem Room.deeper{k:Nat}(r:Room (k+1) A)(env:Env):Room k (A.deeper env) :=
 ⟨r.hd,by have:=r.dp;show A.depth+1+3*k+5<_;omega,by have:=r.un;show A.units+3+16*k+200<_;omega,r.gd⟩
theorem Room.depth{k:Nat}(r:Room k A):A.depth<recursionLimit:=by have:=r.dp;omega
theorem Room.units{k:Nat}(r:Room k A):A.units+64<Mn:=by have:=r.un;omega
noncomputable def Cw:TA:=fun _ H Q=>Q [] H
noncomputable def xA(ta:TE)(tr:TA):TA:=fun σ H Q=>ta σ H fun x H1=>tr σ H1 fun xs H2=>Q (x::xs) H2
section
variable{X:Cx}{e:Expr}{es:List Expr}{te:TE}{t:TA}{pos:Pos}
theorem oU:PA X [] Cw:=fun _ _ _ _ H Q I h=>Calls.spliced_nil ⟨[],H,I,.nil,h⟩
theorem gF(ha:PE X e te)(hr:PA X es t)(hs:Hw (e::es) X.env=(false,eval e X.env)::Hw es X.env:=by rfl):PA X (e::es) (xA te t):=by
 intro pos pins s σ H Q I h
 rw[hs]
 show Ia _ _ (spliced ((false,eval e X.env)::I0 pos (Hw es X.env))) _ _ s
 refine Calls.spliced_cons (Eg (ha pins s σ H _ I h) fun u s1 ⟨x,H1,I1,r1,q1⟩=>?_)
 exact Eg (hr pos pins s1 σ H1 _ I1 q1) fun us s2 ⟨xs,H2,I2,r2,q2⟩=>⟨x::xs,H2,I2,.cons r1 r2,q2⟩
noncomputable def C6(t:TA):TE:=fun σ H Q=>t σ H fun xs H1=>xs.length<=sizeLine/\∀p,H1 p=none->Q (.ref p) (D8 H1 p (.tup xs))
noncomputable def Db(t:TA):TE:=fun σ H Q=>t σ H fun xs H1=>xs.length<=sizeLine/\∀p,H1 p=none->Q (.ref p) (D8 H1 p (.lst xs))
theorem yq{x1}(h:PA X es t):PE X (.Tuple es x1 pos) (C6 t):=by
 intro pins s σ H Q I hq
 refine wpAny_Tuple_spliced (Eg (h pos pins s σ H _ I hq) fun us s1 ⟨xs,H1,I1,r,z,q⟩=>⟨by rw[<- r.length];exact z,?_⟩)
 have hf:H1 s1.heap.objs.size=none:=I1.hok.fresh (Hs _)
 refine⟨.ref s1.heap.objs.size,D8 H1 s1.heap.objs.size (.tup xs),I1.laid (t':=s1.toks) (fun b u e=>Hm _ e) (Hs _) ?_,rfl,q _ hf⟩
 exact⟨z,us,r,qw.new _ _⟩
theorem yu(h:PA X es t):PE X (.List es pos) (Db t):=by
 intro pins s σ H Q I hq
 refine wpAny_List_spliced (Eg (h pos pins s σ H _ I hq) fun us s1 ⟨xs,H1,I1,r,z,q⟩=>⟨by rw[<- r.length];exact z,?_⟩)
 have hf:H1 s1.heap.objs.size=none:=I1.hok.fresh (Hs _)
 refine⟨.ref s1.heap.objs.size,D8 H1 s1.heap.objs.size (.lst xs),I1.laid (t':=s1.toks) (fun b u e=>Hm _ e) (Hs _) ?_,rfl,q _ hf⟩
 exact⟨z,us,0,r,HR _ rfl⟩
end
abbrev Sp:=List V->Hp->VK->XK->Prop
abbrev G7:=List Env->Hp->Hv->XK->Hq->Hv->Prop
structure Env0 (P:Ij) (w:IV) (K:W.Frag) (mg:Str->Option Hq) (base:Heap) (A:IU) (outer:List Env) (s:Hv) (H:Hp):Prop where
 frames:A.frames=some outer
 mod:Mod K mg base
 bs:∀b o,base.get? b=some o->s.heap.get? b=some o/\H b=none
 bsz:base.objs.size<=s.heap.objs.size
 funs:s.heap.FunFrames base outer
 frf:∀b∈frs outer,H b=none
 hok:G6 P w H s.heap
 bare:MW s.gens
noncomputable def CE(outer:List Env)(P:Ij)(w:IV)(H:Hp)(s:Hv)(Q:VK)(u:Hq)(s':Hv):Prop :=
 ∃v H',s'.os=s.os/\MW s'.gens/\Un (frs outer) [] H H' s.heap s'.heap/\G6 P w H' s'.heap/\RelV v u/\Q v H'
noncomputable def CR(CX:G7)(outer:List Env)(P:Ij)(w:IV)(H:Hp)(s:Hv)(Q:VK)(E:XK)(r:NC)(s':Hv):Prop :=
 match r with
 | .ok (.ret u)=>CE outer P w H s Q u s'
 | .ok _=>False
 | .error e=>CX outer H s E e s'
structure FnOk (P:Ij) (w:IV) (K:W.Frag) (mg:Str->Option Hq) (base:Heap) (CX:G7) (k:Nat) (f:Addr) (fd:Ko) (ps:List Str) (sp:Sp):Prop where
 len:∀vs H Q E,sp vs H Q E->vs.length=ps.length
 run:∀(A:IU)(outer:List Env)(s:Hv)(H:Hp)(args:Args)(us:List Hq)(vs:List V)(Q:VK)(E:XK),Room k A->Env0 P w K mg base A outer s H->ND s fd args (ps.zip us)->cz vs us->sp vs H Q E ->
  JW (Il P w) A (.call (.ref f) args) (CR CX outer P w H s Q E) s
section
variable{X:Cx}{pins:List (Addr×Obj)}{σ:St}{H:Hp}{s s':Hv}
theorem Inv.env0(I:Inv X pins σ H s):Env0 X.prog X.w X.K X.mg X.base X.A X.stack s H :=
 ⟨I.ok.frames,I.ok.mod,I.bs,HX I.ok.bsz I.sz,I.stack,I.stkFree,I.hok,I.bare⟩
theorem Inv.after{Q:VK}(I:Inv X pins σ H s)(h:CE X.stack X.prog X.w H s Q u s'):EP X pins σ Q u s':=by
 obtain⟨v,H',os,bare,un,hok,r,q⟩:=h
 obtain⟨hh,g,d,t,os'⟩:=s'
 obtain rfl:os'=s.os:=os
 exact⟨v,H',I.call (h':=hh) (g':=g) (d':=d) (t':=t) (ch:=[]) un hok bare (fun b z=>absurd z (by simp)),r,q⟩
end
noncomputable def Aw(sp:Sp)(dvs:List V)(E:XK)(t:TA):TE:=fun σ H Q=>t σ H fun vs H1=>sp (vs++dvs) H1 Q E
noncomputable def Binds(K:W.Frag)(fd:Ko)(ps:List Str)(ds:List Hq):Prop :=
 ∀(s:Hv)(us:List Hq),K.In s.heap->(us++ds).length=ps.length->ND s fd ⟨us,[]⟩ (ps.zip (us++ds))
theorem Binds.all{K:W.Frag}{ps:List Str}(h:∀us:List Hq,us.length=ps.length->bindArgs fd ⟨us,[]⟩=pure (ps.zip us)):Binds K fd ps []:=fun s us _ hl=>by
 rw[JX]at hl ⊢
 exact .of_eq (h us hl)
noncomputable def qv(CX:G7)(X:Cx)(E:XK):Prop:=∀(pins:List (Addr×Obj))(σ:St)(H:Hp)(s:Hv)(e:Hq)(s':Hv),Inv X pins σ H s->CX X.stack H s E e s'->X.xe e s'
section
variable{X:Cx}{CX:G7}{k:Nat}{f C:Addr}{fd:Ko}{ps:List Str}{sp:Sp}{dvs:List V}{ds:List Hq}{E:XK}{x m:Str}{p pos apos:Pos}{e o:Expr}{es:List Expr}{ta:TE}{t:TA}
theorem xR{σ:St}{H:Hp}{Q:VK}{vs:List V}(F:FnOk X.prog X.w X.K X.mg X.base CX k f fd ps sp)(hr:Room k X.A)(hb:Binds X.K fd ps ds)(hd:cz dvs ds)(hx:qv CX X E)
 (I:Inv X pins σ H s)(r:cz vs us)(h:sp (vs++dvs) H Q E):Ia (Il X.prog X.w) X.A (call (.ref f) us) (EP X pins σ Q) X.xe s:=by
 have r2:cz (vs++dvs) (us++ds):=r.append hd
 have hl:(us++ds).length=ps.length:=by rw[<- r2.length];exact F.len _ _ _ _ h
 refine wpAny_call (LS (F.run X.A X.stack s H ⟨us,[]⟩ (us++ds) (vs++dvs) Q E hr I.env0 (hb s us I.kIn hl) r2 h) fun r s' hq=>?_)
 cases r with
 | error e=>exact hx pins σ H s e s' I hq
 | ok fl =>
   cases fl with
   | ret u=>exact I.after hq
   | next=>exact Jb hq
   | brk=>exact Jb hq
   | cont=>exact Jb hq
theorem jb(F:FnOk X.prog X.w X.K X.mg X.base CX k f fd ps sp)(hr:Room k X.A)(hg:Gl X x)(hm:X.mg x=some (.ref f))(hk:W.keepIn X.K (.ref f)=true)(hb:Binds X.K fd ps ds)(hd:cz dvs ds)(hx:qv CX X E)
 (ha:PA X (e::es) t)(hdb:(x==("__debug__" : Str))=false:=by decide)(he:Hw (e::es) X.env=(false,eval e X.env)::Hw es X.env:=by rfl)(hpl:(I0 pos (Hw es X.env)).any (·.1)=false:=by rfl) :
 PE X (.Call (.Name x p) (e::es) [] pos) (Aw sp dvs E t):=by
 intro pins s σ H Q I h
 refine Ky (pB I hg hm ?_ hdb)
 refine W.callWith_K (h₀:=X.base) I.ok.mod.kin hk (Eg (ha pos pins s σ H _ I h) fun us s1 ⟨vs,H1,I1,r,q⟩=>⟨I1.kIn,?_⟩) he hpl
 exact xR F hr hb hd hx I1 r q
end
noncomputable def PK(X:Cx)(kws:List KC)(t:TA):Prop :=
 ∀(pos:Pos)(pins:List (Addr×Obj))(s:Hv)(σ:St)(H:Hp)(Q:List V->Hp->Prop),Inv X pins σ H s->t σ H Q->Ia (Il X.prog X.w) X.A (evalAll ((Lx pos (Kp kws X.env)).map (·.2))) (AP X pins σ Q) X.xe s
section
variable{X:Cx}{CX:G7}{k:Nat}{f C:Addr}{fd:Ko}{ps ks:List Str}{sp:Sp}{E:XK}{x m:Str}{p pos apos kpos:Pos}{e o:Expr}{es:List Expr}{kws:List KC}{te ta:TE}{t tk:TA}{nm:Option Str}
theorem ym:PK X [] Cw:=fun _ _ _ _ H Q I h=>wpAny_evalAll_nil ⟨[],H,I,.nil,h⟩
theorem uY(ha:PE X e te)(hr:PK X kws t):PK X (⟨nm,e,kpos⟩::kws) (xA te t):=by
 intro pos pins s σ H Q I h
 show Ia _ _ (evalAll ((do let v <- eval e X.env;MZ pos;pure v)::(Lx pos (Kp kws X.env)).map (·.2))) _ _ s
 refine wpAny_evalAll_cons (Hl (Eg (ha pins s σ H _ I h) fun u s1 ⟨x,H1,I1,r1,q1⟩=>Hl (Jq (HD ?_))))
 exact Eg (hr pos pins s1 σ H1 _ I1 q1) fun us s2 ⟨xs,H2,I2,r2,q2⟩=>⟨x::xs,H2,I2,.cons r1 r2,q2⟩
variable{g:List Hq->List Hq->List Hq}{gV:List V->List V->List V}
end
structure FnScope (N P:List Str) (sc:Scope):Prop where
 kind:sc.kind = .function
 co:sc.isCoroutine=false
 gen:sc.isGenerator=false
 nd:N.Nodup
 pre:N.take P.length=P
 par:∀x∈P,sc.names.lookup x=some .local\/sc.names.lookup x=some .cell
 nofree:∀y∈sc.names,y.2 ≠ .free
theorem kj{kindOf:Str->Option KZ}{x:Str}:∀{binds:List (Str×Hq)}{m:Str->Option Hq},(∀v,(x,v)∉binds)->bindL kindOf binds m x=m x
 | [],_,_=>rfl
 | (n,v)::r,m,h=>by
   unfold bindL
   rw[kj fun w hw=>h w (Ht _ hw)]
   split
   · have:x≠n:=by rintro rfl;exact h v Hy
     simp[this]
   · rfl
theorem kr{kindOf:Str->Option KZ}{x:Str}:∀{binds:List (Str×Hq)}{m:Str->Option Hq},(∀v,(x,v)∉binds)->bindC kindOf binds m x=m x
 | [],_,_=>rfl
 | (n,v)::r,m,h=>by
   unfold bindC
   rw[kr fun w hw=>h w (Ht _ hw)]
   split
   · rfl
   · have:x≠n:=by rintro rfl;exact h v Hy
     simp[this]
theorem km{kindOf:Str->Option KZ}{x:Str}{v:Hq}:∀{P:List Str}{vs:List Hq}{i:Nat}{m:Str->Option Hq},P.Nodup->P[i]?=some x->vs[i]?=some v->kindOf x=some .local ->
 bindL kindOf (P.zip vs) m x=some v
 | [],_,_,_,_,h,_,_=>by simp at h
 | _::_,[],_,_,_,_,h,_=>by simp at h
 | p::P,w::vs,0,m,nd,h1,h2,hk=>by
   simp at h1 h2;subst h1;subst h2
   show bindL kindOf ((p,w)::P.zip vs) m p=_
   unfold bindL
   rw[kj fun v hv=>(JY.mp nd).1 (Mx hv).1,if_pos hk]
   simp
 | p::P,w::vs,i+1,m,nd,h1,h2,hk=>by
   show bindL kindOf ((p,w)::P.zip vs) m x=_
   unfold bindL
   exact km (i:=i) (JY.mp nd).2 (by simpa using h1) (by simpa using h2) hk
theorem kw{kindOf:Str->Option KZ}{x:Str}{v:Hq}:∀{P:List Str}{vs:List Hq}{i:Nat}{m:Str->Option Hq},P.Nodup->P[i]?=some x->vs[i]?=some v->kindOf x≠some .local ->
 bindC kindOf (P.zip vs) m x=some v
 | [],_,_,_,_,h,_,_=>by simp at h
 | _::_,[],_,_,_,_,h,_=>by simp at h
 | p::P,w::vs,0,m,nd,h1,h2,hk=>by
   simp at h1 h2;subst h1;subst h2
   show bindC kindOf ((p,w)::P.zip vs) m p=_
   unfold bindC
   rw[kr fun v hv=>(JY.mp nd).1 (Mx hv).1,if_neg hk]
   simp
 | p::P,w::vs,i+1,m,nd,h1,h2,hk=>by
   show bindC kindOf ((p,w)::P.zip vs) m x=_
   unfold bindC
   exact kw (i:=i) (JY.mp nd).2 (by simpa using h1) (by simpa using h2) hk
noncomputable def start(N:List Str)(vs:List V):St:=vs.map some++Ih (N.length-vs.length) none
noncomputable def p5(CX:G7)(P:Ij)(w:IV)(K:W.Frag)(mg:Str->Option Hq)(base:Heap)(N:List Str)(qual:Str)(scope:Scope)(f:Addr)(cd:Hq)(A:IU)(outer:List Env)(s:Hv)(H:Hp)(E:XK):Cx where
 prog:=P
 w:=w
 K:=K
 mg:=mg
 base:=base
 A:=A.deeper (Mh qual scope s.heap.objs.size f cd)
 N:=N
 s₀:=s
 H₀:=H
 env:=Mh qual scope s.heap.objs.size f cd
 outer:=outer
 stack:=Mh qual scope s.heap.objs.size f cd::outer
 ex:=[]
 calm:=true
 fn:=fun _=>true
 pn:=[]
 xe:=fun e s'=>Ia (Il P w) (A.deeper (Mh qual scope s.heap.objs.size f cd)) (leaving (Mh qual scope s.heap.objs.size f cd) e) (fun _ s''=>CX outer H s E e s'') (fun e' s''=>CX outer H s E e' s'') s'
theorem mF{sc:Scope}(h:sc.names.lookup x=some .cell):∃c,(JA n sc.names []).lookup x=some c:=by
 have q:=W.cellsFrom_some sc.names n [] (.inl h)
 exact Kd.mp q
theorem pK{CX:G7}{w:IV}{K:W.Frag}{base:Heap}{ps:List Str}{f:Addr}{cd:Hq}{outer:List Env}{s1:Hv}{H:Hp}{E:XK}{vs:List V}
 (S:FnScope N ps scope)(hd:A.handled=none)(e0:Env0 P w K mg base A outer s H)(hl:vs.length=ps.length)(r:cz vs us)
 (x:InCallC s s.heap.objs.size (bindL (Mh qual scope s.heap.objs.size f cd).kindOf (ps.zip us) fun _=>none) (JA (s.heap.objs.size+1) scope.names []) (bindC (Mh qual scope s.heap.objs.size f cd).kindOf (ps.zip us) fun _=>none) s1) :
 Inv (p5 CX P w K mg base N qual scope f cd A outer s H E) [] (start N vs) H s1:=by
 have hpl:ps.length<=N.length:=by have:=congrArg NE S.pre;rw[Iz]at this;omega
 obtain⟨h1,tk,rfl,hk⟩:=x.done
 have noA:∀b:Addr,b∉(p5 CX P w K mg base N qual scope f cd A outer s H E).ex:=fun b z=>absurd (show b∈([]:List Addr)from z) (by simp)
 refine⟨⟨e0.mod,S.kind,rfl,rfl,Hs _,fun y z c h1 h2=>?_,fun y hy=>?_,fun y c _ h=>?_,fun _=>hd,IU.frames_deeper e0.frames,.inr ⟨rfl,rfl⟩,fun b z=>absurd z (noA b),e0.bs,e0.bsz,fun b _ _=>noA b,fun b z=>absurd z (noA b),e0.funs,e0.frf⟩,
  rfl,e0.bare,Un.kept hk,⟨_,x.toInCall.ns,fun i y v h1 h2 h3=>?_⟩,fun y c h=>⟨_,x.cell y c h⟩,e0.hok.fresh (Hs _),fun y c h=>?_,fun p hp=>absurd (show p∈([]:List (Addr×Obj))from hp) (by simp),e0.hok.kept hk,?_⟩
 · exact name_of_addr x.apart (IZ h1) (IZ h2)
 · have hy:scope.names.lookup y=some .cell\/scope.names.lookup y=some .free:=hy
   rcases hy with hy|hy
   · exact mF hy
   · exact absurd rfl (S.nofree _ (IZ hy))
 · exact No (x.above y c (IZ h))
 · have hi:i<vs.length:=by
     unfold start at h2
     by_cases hi:i<vs.length
     · exact hi
     · rw[LN (by simpa using hi)]at h2
       rw[Ma]at h2
       split at h2<;>cases h2
   have ha:vs[i]?=some v:=by
    unfold start at h2
    rw[KP (by simpa using hi),Ix]at h2
    cases e:vs[i]? with
    | none=>rw[e]at h2;cases h2
    | some a=>rw[e]at h2;cases h2;rfl
   obtain⟨u,hu,rv⟩:=r.get ha
   have hp:ps[i]?=some y:=by
    rw[<- S.pre,List.getElem?_take_of_lt (by omega)];exact h1
   have ndP:ps.Nodup:=by rw[<- S.pre];exact S.nd.sublist (List.take_sublist _ _)
   refine⟨u,rv,?_⟩
   rcases S.par y (JP hp)with k|k
   · exact .inl ⟨k,km ndP hp hu k⟩
   · obtain⟨c,e⟩:=mF (n:=s.heap.objs.size+1) k
     refine .inr ⟨.inl k,c,e,?_⟩
     have q:=x.cell y c e
     rw[kw ndP hp hu (by show scope.names.lookup y≠_;rw[k];decide)]at q
     exact q
 · exact e0.hok.fresh (No (x.above y c (IZ h)))
 · unfold start
   show _=N.length
   rw[HC,Hu,List.length_replicate]
   omega
theorem Bk{CX:G7}{w:IV}{K:W.Frag}{base:Heap}{k:Nat}{f:Addr}{name:Str}{params:Arguments}{body:List Stmt}{dV kV doc pm cdv ct oc:Hq}{an od:Option Addr}
 {osl:Array (Option Hq)}{ps:List Str}{sp:Sp}(lk:K.lookup f=some ⟨oc,od,.func (W.fnOf name qual params body scope dV kV doc pm an cdv ct),osl⟩)(hcd:W.codeIn K cdv qual=true)(S:FnScope N ps scope)
 (len:∀vs H Q E,sp vs H Q E->vs.length=ps.length)
 (hbody:∀(A:IU)(outer:List Env)(s:Hv)(H:Hp)(vs:List V)(Q:VK)(E:XK),Room k (A.deeper (Mh qual scope s.heap.objs.size f cdv))->sp vs H Q E ->
  ∃t,GE (p5 CX P w K mg base N qual scope f cdv A outer s H E) body t/\t {nx:=fun _ H'=>Q .non H',rt:=Q} (start N vs) H) :
 FnOk P w K mg base CX (k+1) f (W.fnOf name qual params body scope dV kV doc pm an cdv ct) ps sp:=by
 refine⟨len,fun A outer s H args us vs Q E hr e0 hb r hsp=>?_⟩
 have hl:=len _ _ _ _ hsp
 have KX:K.In s.heap:=e0.mod.kin.keeps fun b o e=>(e0.bs b o e).1
 have lim:s.heap.NoLimit:=e0.mod.nolimit.keeps fun b o e=>(e0.bs b o e).1
 have hkind:∀y∈ps.zip us,scope.names.lookup y.1=some .local\/(scope.names.lookup y.1=some .cell/\((JA (s.heap.objs.size+1) scope.names []).lookup y.1).isSome=true):=fun⟨n,v⟩ hy=>by
  rcases S.par n (Mx hy).1 with q|q
  · exact .inl q
  · exact .inr ⟨q,W.cellsFrom_some _ _ _ (.inl q)⟩
 refine codeAny_call_function hr.depth (KX _ _ lk) rfl S.co S.gen rfl (W.codeRec_of KX hcd) (hb _ _ _ _ ?_)
 refine wpAny_newFunctionEnv_cells S.kind hkind fun env he s1 x=>?_
 subst he
 refine⟨lim.keeps x.toInCall.keep,codeAny_func ?_⟩
 obtain⟨t,ht,hq⟩:=hbody A outer s H vs Q E (hr.deeper _) hsp
 have I:Inv (p5 CX P w K mg base N qual scope f cdv A outer s H E) [] (start N vs) H s1:=pK S hr.hd e0 hl r x
 refine Is (ht [] s1 (start N vs) H _ I hq) (fun fl s' hs=>?_) fun e s' hs=>hs
 have fin:∀{σ':St}{H':Hp}{v:V}{u:Hq},Inv (p5 CX P w K mg base N qual scope f cdv A outer s H E) [] σ' H' s'->RelV v u->Q v H'->CE outer P w H s Q u s' :=
  fun{σ' H' v u} J rv q=>⟨v,H',J.os,J.bare,J.base,J.hok,rv,q⟩
 cases fl with
 | ret u =>
   obtain⟨v,σ',H',J,rv,q⟩:=hs
   exact fin J rv q
 | next =>
   obtain⟨σ',H',J,q⟩:=hs
   exact fin (v:=V.non) (u:=K_) J rfl q
 | brk =>
   obtain⟨_,_,_,q⟩:=hs
   exact Jb q
 | cont =>
   obtain⟨_,_,_,q⟩:=hs
   exact Jb q
section
variable{X:Cx}{x:Str}{p pos:Pos}{e:Expr}{es:List Expr}{t:TA}{id T:String}{r:List V->Hp->VK->Prop}
noncomputable def Ep(r:List V->Hp->VK->Prop)(t:TA):TE:=fun σ H Q=>t σ H fun vs H1=>r vs H1 Q
theorem rm(hc:dB X (.builtin id) r)(hg:Gl X x)(hm:X.mg x=none)(hv:Ki x=some (.builtin id))(ha:PA X (e::es) t)(hn:x ≠ "__name__" := by decide)(hdb:(x==("__debug__" : Str))=false:=by decide)
 (he:Hw (e::es) X.env=(false,eval e X.env)::Hw es X.env:=by rfl)(hpl:(I0 pos (Hw es X.env)).any (·.1)=false:=by rfl):PE X (.Call (.Name x p) (e::es) [] pos) (Ep r t):=by
 intro pins s σ H Q I h
 refine Ky (fK I hg hm hv ?_ hn hdb)
 exact PyProof.Rows.callWith_builtin1 (Eg (ha pos pins s σ H _ I h) fun us s1 ⟨vs,H1,I1,r1,q1⟩=>hc pins s1 σ H1 vs us Q I1 r1 q1) he hpl
theorem oT(hc:dB X (.type T) r)(hg:Gl X x)(hm:X.mg x=none)(hv:Ki x=some (.type T))(ha:PA X (e::es) t)(hn:x ≠ "__name__" := by decide)(hdb:(x==("__debug__" : Str))=false:=by decide)
 (he:Hw (e::es) X.env=(false,eval e X.env)::Hw es X.env:=by rfl)(hpl:(I0 pos (Hw es X.env)).any (·.1)=false:=by rfl):PE X (.Call (.Name x p) (e::es) [] pos) (Ep r t):=by
 intro pins s σ H Q I h
 refine Ky (fK I hg hm hv ?_ hn hdb)
 exact Jw (Eg (ha pos pins s σ H _ I h) fun us s1 ⟨vs,H1,I1,r1,q1⟩=>hc pins s1 σ H1 vs us Q I1 r1 q1) he hpl
end
end L2
variable{H H' F F' F₀ H₀:L2.Hp}{v:L2.V}{X:L2.Cx}{σ:L2.St}{vs:List L2.V}{kvs:List (List L2.GU×L2.V)}
namespace HT
open PySem PyProof.Rows
section
open PySem.SeqAt
open PySem.AutoSeq1 (wpAny_loadPart')
open PySem.MeetsSeq PySem.MeetsSeq2 PySem.MeetsSeq3
end
section
variable{prog:Ij}{w:IV}{A:IU}{E:Hq->Hv->Prop}{s:Hv}
theorem cat_tup{t:Addr}{vs ws:List Hq}(ht:IsTup s.heap t vs.toArray)(hb:IsTup s.heap b ws.toArray)(hv:vs≠[])
 (h1:ws=[]->Q (.ref t) s)(h2:ws≠[]->Q (.ref s.heap.objs.size) {s with heap:=s.heap.push {cls:=.type "tuple", data:=.seq (vs++ws).toArray}})
 (hsz:vs.length+ws.length<=sizeLine):Ia (Il prog w) A (Kn .Add (.ref t) (.ref b)) Q E s:=by
 obtain⟨⟨cls,dd,data,sl⟩,ho,hc,n,hd⟩:=id ht
 obtain⟨⟨cls2,dd2,data2,sl2⟩,ho2,hc2,n2,hd2⟩:=id hb
 simp only at hc hd hc2 hd2
 subst hc hd hc2 hd2
 have e:vs.toArray++ws.toArray=(vs++ws).toArray:=by simp
 by_cases hw:ws=[]
 · exact Np ⟨_,ho,rfl⟩ ⟨_,ho2,rfl⟩ Mi Nb K8 K0 (KU _ _)
     (tuple_addW1 t b vs.toArray ws.toArray n n2 dd dd2 sl sl2 (by simpa using hv) (by simp[hw])) ⟨ho,ho2,h1 hw⟩
 · refine Np ⟨_,ho,rfl⟩ ⟨_,ho2,rfl⟩ Mi Nb K8 K0 (KU _ _)
     (tuple_addW2 t b vs.toArray ws.toArray n n2 dd dd2 sl sl2 (by simpa using hv) (by simpa using hw) (by rw[HL,HL];exact hsz)) ⟨ho,ho2,?_⟩
   rw[e]
   exact h2 hw
noncomputable def sIx(n d:Nat):Option Int->Nat
 | none=>d
 | some v=>if v<0 then(v+(n:Int)).toNat else min v.toNat n
theorem sIx_none(n d:Nat):sIx n d none=d:=rfl
theorem sIx_nat(n d k:Nat):sIx n d (some (k:Int))=min k n:=by
 show(if(k:Int)<0 then((k:Int)+(n:Int)).toNat else min (k:Int).toNat n)=min k n
 rw[if_neg (by omega),Ji]
theorem xP(n d:Nat)(hd:d<=n)(o:Option Int):sIx n d o<=n:=by
 cases o with
 | none=>exact hd
 | some v =>
   show(if v<0 then(v+(n:Int)).toNat else min v.toNat n)<=n
   by_cases hv:v<0
   · rw[if_pos hv];omega
   · rw[if_neg hv];exact Nat.min_le_right _ _
theorem qe(v:Int)(n d:Nat):(if v<0 then max (v+(n:Int)) 0 else min v (n:Int))=((sIx n d (some v):Nat):Int):=by
 show(if v<0 then max (v+(n:Int)) 0 else min v (n:Int))=(((if v<0 then(v+(n:Int)).toNat else min v.toNat n):Nat):Int)
 by_cases hv:v<0
 · simp only[if_pos hv];omega
 · simp only[if_neg hv];omega
theorem nv(lo hi:Option Int)(n:Nat):KQ lo hi 1 (n:Int)=(((sIx n 0 lo:Nat):Int),((sIx n n hi:Nat):Int)):=by
 have h1:¬((1:Int)<0):=by omega
 unfold KQ
 simp only[h1,if_false]
 refine Prod.ext ?_ ?_
 · cases lo with
   | none=>rfl
   | some v=>exact qe v n 0
 · cases hi with
   | none=>rfl
   | some v=>exact qe v n n
theorem m8(i j:Nat):J_ (i:Int) (j:Int) 1=j-i:=by
 unfold J_
 have h1:(1:Int)>0:=by omega
 simp only[h1,if_true,Int.ediv_one]
 split<;>omega
theorem iw{v:Hq}{o:Option Int}{Q:Option Int->Hv->Prop}(p:Nc v o)(h:Q o s):Ia (Il prog w) A (Builtin.Slice.slicePartIndex v) Q E s:=by
 cases p with
 | none=>exact slicePart_none h
 | int i t=>exact slicePart_int h
theorem sliceApplied_gen{sl:Addr}{vl vu:Hq}{lo hi:Option Int}{Q:Int×Int×Nat->Hv->Prop}(hs:s.heap.IsSliceOf sl vl vu .none)(pl:Nc vl lo)(pu:Nc vu hi)
 (h:Q (((sIx n 0 lo:Nat):Int),1,sIx n n hi-sIx n 0 lo) s):Ia (Il prog w) A (LO (.ref sl) (pure (n:Int))) Q E s:=by
 obtain⟨os,hos,hcs,hds⟩:=id hs
 unfold LO Builtin.Slice.sliceFields
 refine Hl (Hl (JK hos hds (x:=vl) rfl (Hl (JK hos hds (x:=vu) rfl (Hl (JK hos hds (x:=.none) rfl (HD ?_)))))))
 refine Hl (slicePart_none ?_)
 show Ia _ _ (if((1:Int)==0)=true then _ else _) _ _ s
 rw[if_neg (by decide)]
 refine Hl (iw pl (Hl (iw pu (Hl (HD ?_)))))
 show Ia _ _ (match KQ lo hi 1 (n:Int)with|(lo,hi)=>pure (lo,(1:Int),J_ lo hi 1)) _ _ s
 rw[nv lo hi n]
 show Ia _ _ (pure (((sIx n 0 lo:Nat):Int),(1:Int),J_ ((sIx n 0 lo:Nat):Int) ((sIx n n hi:Nat):Int) 1)) _ _ s
 rw[m8]
 exact HD h
theorem re(xs:Array Hq)(i k:Nat):((Ip k).filterMap fun(m:Nat)=>xs[((i:Int)+(m:Int)*1).toNat]?).toArray=((xs.toList.drop i).take k).toArray:=by
 have e:(fun(m:Nat)=>xs[((i:Int)+(m:Int)*1).toNat]?)=fun m=>xs[i+m]?:=by
  funext m
  have:((i:Int)+(m:Int)*1).toNat=i+m:=by omega
  rw[this]
 rw[e]
 have:=pick_run xs i k
 rw[List.filterMap_map]at this
 have e2:((fun x=>xs[x]?) ∘ fun x=>i+x)=fun m=>xs[i+m]?:=rfl
 rw[e2]at this
 rw[this]
theorem getItem_tuple_cut{t sl:Addr}{items:Array Hq}{vl vu:Hq}{lo hi:Option Int}(ht:IsTup s.heap t items)(hs:s.heap.IsSliceOf sl vl vu .none)(pl:Nc vl lo)(pu:Nc vu hi)
 (hw:¬(sIx items.size 0 lo=0/\sIx items.size items.size hi=items.size))
 (h:Q (.ref s.heap.objs.size) {s with heap:=s.heap.push {cls:=.type "tuple", data:=.seq ((items.toList.drop (sIx items.size 0 lo)).take (sIx items.size items.size hi-sIx items.size 0 lo)).toArray}})
 (hsz:items.size<=sizeLine):Ia (Il prog w) A (Mb (.ref t) (.ref sl)) Q E s:=by
 have htake:sizeOk (.seq ((items.toList.drop (sIx items.size 0 lo)).take (sIx items.size items.size hi-sIx items.size 0 lo)).toArray):=by
  show((items.toList.drop (sIx items.size 0 lo)).take (sIx items.size items.size hi-sIx items.size 0 lo)).toArray.size<=sizeLine
  rw[HL,Iz,Kt,Km]
  omega
 have hj:sIx items.size items.size hi<=items.size:=xP _ _ (Hs _) hi
 obtain⟨os,hos,hcs,hds⟩:=id hs
 have hTs:s.TypeIs (.ref sl) "slice" := ⟨os,hos,hcs⟩
 unfold Mb
 try with_reducible refine Kq ?_
 first|refine Hl (HD ?_)|skip
 refine Hl (L4 ht.typeIs (by decide) ?_)
 refine Hl (Jj (name:=Hi "__getitem__") ht.typeIs IH
  (J5 IH ht.typeIs entry_tuple_getitem ?_ (args_tuple_getitem _ _)))
 show Ia _ _ (LP (.ref t) >>= _) _ _ s
 refine Hl (tupleItemsOf_ ht ?_)
 refine Hl (Nq hTs ?_)
 rw[if_pos (by decide)]
 refine Hl (sliceApplied_gen hs pl pu ?_)
 have hno:¬((((sIx items.size 0 lo:Nat):Int)==0&&(1:Int)==1&&(sIx items.size items.size hi-sIx items.size 0 lo)==items.size)=true):=by
  intro q
  rw[Lp,Lp]at q
  have q1:((sIx items.size 0 lo:Nat):Int)=0:=eq_of_beq q.1.1
  have q2:sIx items.size items.size hi-sIx items.size 0 lo=items.size:=eq_of_beq q.2
  exact hw ⟨by omega,by omega⟩
 show Ia _ _ (if(((sIx items.size 0 lo:Nat):Int)==0&&(1:Int)==1&&(sIx items.size items.size hi-sIx items.size 0 lo)==items.size)=true then _ else _) _ _ s
 rw[if_neg hno,re]
 first
  | exact Hl (m:=Ke _) (IL (HD ⟨_,rfl,HD h⟩) htake)
  | exact Hl (m:=Ke _) (IL (Hl (HD (HD ⟨_,rfl,HD h⟩))) htake)
  | exact Hl (Hl (m:=Ke _) (IL (HD (HD ⟨_,rfl,HD h⟩)) htake))
  | exact Hl (Hl (m:=Ke _) (IL (HD ⟨_,rfl,HD h⟩) htake))
end
end HT
namespace L2
abbrev TO:=St->Hp->(Option Int->Hp->Prop)->Prop
noncomputable def PO(X:Cx)(e:Option Expr)(t:TO):Prop :=
 ∀ (pins:List (Addr×Obj))(s:Hv)(σ:St)(H:Hp)(Q:Option Int->Hp->Prop),Inv X pins σ H s->t σ H Q ->
   Ia (Il X.prog X.w) X.A (evalPart e X.env) (fun u s'=>∃o H',Inv X pins σ H' s'/\Nc u o/\Q o H') X.xe s
noncomputable def uw:TO:=fun _ H Q=>Q none H
noncomputable def Aq(t:TE):TO:=fun σ H Q=>t σ H fun x H1=>∃i,x = .int i/\Q (some i) H1
theorem intsAre_of:∀{us:List Hq},cz (ns.map V.int) us->LD us ns:=by
 induction ns with
 | nil=>intro us r;rw[LU]at r;cases r;exact .nil
 | cons n ns ih =>
   intro us r
   rw[IF]at r
   cases r with
   | cons r1 r2 =>
     obtain⟨t,e⟩:=r1
     subst e
     exact .cons n t (ih r2)
section
variable{X:Cx}{e:Expr}{te:TE}{lo hi:Option Expr}{tl th:TO}{pos p2:Pos}
theorem uW:PO X none uw:=by
 intro pins s σ H Q I h
 rw[evalPart_none]
 exact HD ⟨none,H,I,.none,h⟩
theorem uV(h:PE X e te):PO X (some e) (Aq te):=by
 intro pins s σ H Q I hw
 rw[evalPart_some]
 refine Eg (h pins s σ H _ I hw) fun u s1 ⟨x,H1,I1,r1,q1⟩=>?_
 obtain⟨i,rfl,q⟩:=q1
 obtain⟨t,rfl⟩:=r1
 exact⟨some i,H1,I1,.int i t,q⟩
noncomputable def Gw(X:Cx)(r:V->Option Int->Option Int->Hp->VK->Prop):Prop :=
 ∀ (pins:List (Addr×Obj))(s:Hv)(σ:St)(H:Hp)(x:V)(v vl vu:Hq)(lo hi:Option Int)(sl:Addr)(Q:VK),Inv X pins σ H s->RelV x v->s.heap.IsSliceOf sl vl vu .none->Nc vl lo->Nc vu hi->r x lo hi H Q ->
   ∃T id,typeLookup (.type T) "__getitem__" = pure (some (.builtin id))/\s.TypeIs v T/\Ia (Il X.prog X.w) X.A (Mb v (.ref sl)) (EP X pins σ Q) X.xe s
noncomputable def Ei(r:V->Option Int->Option Int->Hp->VK->Prop)(te:TE)(tl th:TO):TE:=fun σ H Q=>te σ H fun x H1=>tl σ H1 fun l H2=>th σ H2 fun u H3=>r x l u H3 Q
theorem lL{r:V->Option Int->Option Int->Hp->VK->Prop}(hr:Gw X r)(he:PE X e te)(hl:PO X lo tl)(hu:PO X hi th):PE X (.Subscript e (.Slice lo hi none p2) pos) (Ei r te tl th):=by
 intro pins s σ H Q I h
 refine Subscript_ (Eg (he pins s σ H _ I h) fun v s1 ⟨x,H1,I1,r1,q1⟩=>?_)
 refine wpAny_Slice (Eg (hl pins s1 σ H1 _ I1 q1) fun vl s2 ⟨l,H2,I2,pl,q2⟩=>Eg (hu pins s2 σ H2 _ I2 q2) fun vu s3 ⟨u,H3,I3,pu,q3⟩=>?_)
 rw[evalPart_none]
 refine HD ?_
 have I4:Inv X pins σ H3 {s3 with heap:=s3.heap.push {cls:=.type "slice", data:=.fields #[vl,vu,.none]}}:=I3.kept (t':=s3.toks) fun b ob q=>Hm _ q
 obtain⟨T,id,hT,ht,hg⟩:=hr pins {s3 with heap:=s3.heap.push {cls:=.type "slice", data:=.fields #[vl,vu,.none]}} σ H3 x v vl vu l u s3.heap.objs.size Q I4 r1 (Heap.IsSliceOf.new ..) pl pu q3
 show Ia (Il X.prog X.w) X.A (Nd e (.Slice lo hi none p2) v (.ref s3.heap.objs.size)) (EP X pins σ Q) X.xe {s3 with heap:=s3.heap.push {cls:=.type "slice", data:=.fields #[vl,vu,.none]}}
 exact tail_any (ops:=[.ref s3.heap.objs.size,v]) ht hT hg (by with_unfolding_all rfl)
noncomputable def su(xs:List V)(lo hi:Option Int):List V:=(xs.drop (HT.sIx xs.length 0 lo)).take (HT.sIx xs.length xs.length hi-HT.sIx xs.length 0 lo)
theorem gR(xs:List V)(lo hi:Option Int):(su xs lo hi).length<=xs.length:=by
 unfold su
 rw[Iz,Kt]
 omega
noncomputable def CB(K:W.Frag):V->Option Int->Option Int->Hp->VK->Prop:=fun x lo hi H Q=>∃a xs,x = .ref a/\Gq K H a xs /\
 ¬(HT.sIx xs.length 0 lo=0/\HT.sIx xs.length xs.length hi=xs.length)/\∀p,H p=none->Q (.ref p) (D8 H p (.tup (su xs lo hi)))
theorem xH:Gw X (CB X.K):=by
 intro pins s σ H x v vl vu lo hi sl Q I rx hs pl pu h
 obtain⟨a,xs,rfl,hx,hw,q⟩:=h
 cases rx
 obtain⟨its,r,ht,hz⟩:=I.tuple hx
 have hlen:its.toArray.size=xs.length:=by rw[HL];exact r.length.symm
 refine⟨"tuple", _,IH.lookup,ht.typeIs,?_⟩
 refine HT.getItem_tuple_cut ht hs pl pu (by rw[hlen];exact hw) ?_ (by rw[hlen];exact hz)
 rw[hlen]
 refine⟨.ref s.heap.objs.size,_,I.laid (t':=s.toks) (o:=.tup (su xs lo hi)) (fun b ob q=>Hm _ q) (Hs _) ?_,rfl,q _ (I.hok.fresh (Hs _))⟩
 exact⟨HX (gR xs lo hi) hz,_,(r.drop (HT.sIx xs.length 0 lo)).take (HT.sIx xs.length xs.length hi-HT.sIx xs.length 0 lo),qw.new _ _⟩
noncomputable def uL(K:W.Frag):R2:=fun x y H Q=>∃a b xs ys,x = .ref a/\y = .ref b/\Gq K H a xs/\Gq K H b ys/\xs≠[]/\xs.length+ys.length<=sizeLine /\
 (ys=[]->Q (.ref a) H)/\(ys≠[]->∀p,H p=none->Q (.ref p) (D8 H p (.tup (xs++ys))))
theorem cz.nil_iff{xs:List V}(r:cz xs us):us=[]↔xs=[]:=by
 cases r with
 | nil=>simp
 | cons _ _=>simp
theorem vj:GO X (Kn .Add) (uL X.K):=by
 intro pins s σ H x y v u Q I rx ry h
 obtain⟨a,b,xs,ys,rfl,rfl,ha,hb,hx,hz,q1,q2⟩:=h
 cases rx
 cases ry
 obtain⟨its,r1,p1,_⟩:=I.tuple ha
 obtain⟨its2,r2,p2,_⟩:=I.tuple hb
 refine HT.cat_tup p1 p2 (fun z=>hx (r1.nil_iff.mp z)) (fun z=>⟨.ref a,H,I,rfl,q1 (r2.nil_iff.mp z)⟩) (fun z=>?_) (by rw[<- r1.length,<- r2.length];exact hz)
 refine⟨.ref s.heap.objs.size,_,I.laid (t':=s.toks) (o:=.tup (xs++ys)) (fun b ob q=>Hm _ q) (Hs _) ?_,rfl,q2 (fun w=>z (r2.nil_iff.mpr w)) _ (I.hok.fresh (Hs _))⟩
 exact⟨by rw[HC];exact hz,_,r1.append r2,qw.new _ _⟩
end
noncomputable def ixN(n:Nat)(i:Int):Option Nat:=if 0<=i then(if i<n then some i.toNat else none)else if -(n:Int)<=i then some (i+n).toNat else none
noncomputable def atI{α:Type}(xs:List α)(i:Int):Option α:=(ixN xs.length i).bind fun j=>xs[j]?
theorem vP{i:Int}(h:ixN n i=some j):seqIndex? i n=some j/\j<n /\ -(n:Int)<=i/\i<n:=by
 unfold ixN at h
 by_cases h0:0<=i
 · rw[if_pos h0]at h
   by_cases h1:i<n
   · rw[if_pos h1]at h
     have e:i.toNat=j:=IJ h
     exact⟨by rw[seqIndex_of h0 h1,e],by omega,by omega,h1⟩
   · rw[if_neg h1]at h;cases h
 · rw[if_neg h0]at h
   by_cases h1 : -(n:Int)<=i
   · rw[if_pos h1]at h
     have e:(i+n).toNat=j:=IJ h
     exact⟨by rw[seqIndex_neg (by omega) h1,e],by omega,h1,by omega⟩
   · rw[if_neg h1]at h;cases h
theorem lx{xs:List α}{i:Int}{v:α}(h:atI xs i=some v):∃j,seqIndex? i xs.length=some j/\xs[j]?=some v/\j<xs.length /\ -(xs.length:Int)<=i/\i<xs.length:=by
 unfold atI at h
 cases e:ixN xs.length i with
 | none=>rw[e]at h;cases h
 | some j =>
   rw[e]at h
   obtain⟨h1,h2,h3,h4⟩:=vP e
   exact⟨j,h1,h,h2,h3,h4⟩
theorem cP{xs:List α}{v:α}(h:xs[j]?=some v):atI xs (j:Int)=some v:=by
 have hj:j<xs.length:=(HY.mp h).1
 have e:ixN xs.length (j:Int)=some j:=by
  unfold ixN
  rw[if_pos (by omega),if_pos (by omega)];simp
 unfold atI;rw[e];exact h
noncomputable def jx(b:Expr):Prop:=∀o i,M0 b false o i=operate [o,i] (Mb o i)
noncomputable def GX(X:Cx)(r:R2):Prop :=
 ∀ (value slice:Expr)(pins:List (Addr×Obj))(s:Hv)(σ:St)(H:Hp)(x y:V)(v u:Hq)(Q:VK),Inv X pins σ H s->RelV x v->RelV y u->r x y H Q ->
   M0 slice false v u=operate [v,u] (Mb v u)->Ia (Il X.prog X.w) X.A (Nd value slice v u) (EP X pins σ Q) X.xe s
noncomputable def GR(X:Cx)(id:String)(r:V->List V->Hp->VK->Prop):Prop :=
 ∀ (pins:List (Addr×Obj))(s:Hv)(σ:St)(H:Hp)(x:V)(xs:List V)(v:Hq)(us:List Hq)(Q:VK),Inv X pins σ H s->RelV x v->cz xs us->r x xs H Q ->
   Ia (Il X.prog X.w) X.A (call (.builtin id) (v::us)) (EP X pins σ Q) X.xe s
section
variable{X:Cx}{a b:Expr}{ta tb:TE}{pos:Pos}
theorem GX.or{r r':R2}(h:GX X r)(h':GX X r'):GX X (fun x y H Q=>r x y H Q\/r' x y H Q):=by
 intro value slice pins s σ H x y v u Q I rx ry q hs
 rcases q with q|q
 · exact h value slice pins s σ H x y v u Q I rx ry q hs
 · exact h' value slice pins s σ H x y v u Q I rx ry q hs
theorem u9{r:R2}(hr:GX X r)(ha:PE X a ta)(hb:PE X b tb)(hs:jx b):PE X (.Subscript a b pos) (Ek r ta tb):=by
 intro pins s σ H Q I h
 exact Subscript_ (Bn ha hb I h fun v u s2 x y H2 I2 rx ry q=>hr a b pins s2 σ H2 x y v u Q I2 rx ry q (hs _ _))
noncomputable def CG(K:W.Frag):R2:=fun x y H Q=>∃p xs i v,x = .ref p/\y = .int i/\Gr K H p xs/\atI xs i=some v/\Q v H
noncomputable def CD(K:W.Frag):R2:=fun x y H Q=>∃p xs i v,x = .ref p/\y = .int i/\Gq K H p xs/\atI xs i=some v/\Q v H
noncomputable def CF:R2:=fun x y H Q=>∃z i c,x = .str z/\y = .int i/\z.length<=sizeLine/\atI z.cps.toList i=some c/\Q (.str ⟨#[c]⟩) H
theorem A_:GX X (CG X.K):=by
 intro value slice pins s σ H x y v u Q I rx ry h hs
 obtain⟨p,xs,i,z,rfl,rfl,hq,he,q⟩:=h
 cases rx
 obtain⟨t,rfl⟩:=ry
 obtain⟨its,r,pl,hz⟩:=I.list hq
 obtain⟨j,h1,h2,h3,h4,h5⟩:=lx he
 obtain⟨w,ew,rw'⟩:=r.get h2
 have hl:=r.length
 have hn:=lU
 have fin:EP X pins σ Q w s:=⟨z,H,I,rw',q⟩
 by_cases h0:0<=i
 · have hj:i.toNat=j:=by
     rw[seqIndex_of h0 h5]at h1
     exact IJ h1
   exact item_listR pl.isList h0 (by omega) (by rw[hj];simpa using ew) fin hs
 · have hj:(i+(its.toArray.size:Int)).toNat=j:=by
     rw[seqIndex_neg (by omega) h4]at h1
     rw[HL,<- hl]
     exact IJ h1
   exact Mp (x:=w) pl.isList.typeIs slot_list_getitem.lookup
    (wpAny_getItem_list_neg (Q:=fun r s'=>r=w/\EP X pins σ Q r s') pl.isList (by omega) (by rw[HL]<;>omega) (by omega) (by rw[hj];simpa using ew) ⟨rfl,fin⟩) hs
theorem CM:GX X (CD X.K):=by
 intro value slice pins s σ H x y v u Q I rx ry h hs
 obtain⟨p,xs,i,z,rfl,rfl,hq,he,q⟩:=h
 cases rx
 obtain⟨t,rfl⟩:=ry
 obtain⟨its,r,pl,hz⟩:=I.tuple hq
 obtain⟨j,h1,h2,h3,h4,h5⟩:=lx he
 obtain⟨w,ew,rw'⟩:=r.get h2
 have hl:=r.length
 have hn:=lU
 have fin:EP X pins σ Q w s:=⟨z,H,I,rw',q⟩
 exact Mp (x:=w) pl.typeIs slot_tuple_getitem.lookup
  (getItem_tuple (j:=j) (Q:=fun r s'=>r=w/\EP X pins σ Q r s') pl (by omega) (by omega) (by rw[HL,<- hl];exact h1) (by simpa using ew) ⟨rfl,fin⟩) hs
theorem y9:GX X CF:=by
 intro value slice pins s σ H x y v u Q I rx ry h hs
 obtain⟨z,i,c,rfl,rfl,hz,he,q⟩:=h
 obtain⟨t,rfl⟩:=rx
 obtain⟨t',rfl⟩:=ry
 obtain⟨j,h1,h2,h3,h4,h5⟩:=lx he
 have hl:z.cps.toList.length=z.length:=by simp[Str.length]
 rw[hl]at h1 h4 h5
 have hn:=lU
 exact tail_any (typeIs_str s z t) slot_str_getitem.lookup (getItem_str (c:=c) (by
  have e1:decide (i < -(2^63:Int))=false:=decide_eq_false (by omega)
  have e2:decide (i ≥ 2^63)=false:=decide_eq_false (by omega)
  rw[e1,e2,Bool.or_false]) (by rw[h1];simpa using h2) ⟨.str ⟨#[c]⟩,H,I.tok _,⟨_,rfl⟩,q⟩) hs
noncomputable def EK(K:W.Frag):R2:=fun x y H Q=>CG K x y H Q\/CD K x y H Q\/CF x y H Q
theorem pH:GX X (EK X.K):=A_.or (CM.or y9)
theorem jG(lo hi:Option Int)(n:Nat):(Lb lo hi none n).1=((HT.sIx n 0 lo:Nat):Int)/\(Lb lo hi none n).2.1=((HT.sIx n n hi:Nat):Int)/\(Lb lo hi none n).2.2=1:=by
 refine⟨?_,?_,rfl⟩
 · cases lo with
   | none=>simp[Lb,HT.sIx]
   | some i =>
     simp only[Lb,HT.sIx,Option.getD_none,show(1:Int)>0 by decide,if_true]
     by_cases h:i<0
     · simp only[h,if_true]<;>omega
     · simp only[h,if_false]<;>omega
 · cases hi with
   | none=>simp[Lb,HT.sIx]
   | some i =>
     simp only[Lb,HT.sIx,Option.getD_none,show(1:Int)>0 by decide,if_true]
     by_cases h:i<0
     · simp only[h,if_true]<;>omega
     · simp only[h,if_false]<;>omega
theorem iZ(its:List Hq)(lo hi:Option Int):slicePick its.toArray lo hi none=((its.drop (HT.sIx its.length 0 lo)).take (HT.sIx its.length its.length hi-HT.sIx its.length 0 lo)).toArray:=by
 obtain⟨h1,h2,h3⟩:=jG lo hi its.toArray.size
 unfold slicePick
 rw[h1,h2,h3]
 simp only[sliceRange_one,pick_run,HL]<;>rfl
noncomputable def Dj(K:W.Frag):V->Option Int->Option Int->Hp->VK->Prop:=fun x lo hi H Q=>∃a xs,x = .ref a/\Gr K H a xs/\∀p,H p=none->Q (.ref p) (D8 H p (.lst (su xs lo hi)))
theorem uB:Gw X (Dj X.K):=by
 intro pins s σ H x v vl vu lo hi sl Q I rx hs pl pu h
 obtain⟨a,xs,rfl,hx,q⟩:=h
 cases rx
 obtain⟨its,r,ht,hz⟩:=I.list hx
 have hlen:=r.length
 refine⟨"list", _,slot_list_getitem.lookup,ht.isList.typeIs,?_⟩
 refine wpAny_getItem_list_slice ht.isList hs pl pu .none (by simp) ?_ (by rw[HL]<;>omega)
 rw[iZ,<- hlen]
 refine⟨.ref s.heap.objs.size,_,I.laid (t':=s.toks) (o:=.lst (su xs lo hi)) (fun b ob q=>Hm _ q) (Hs _) ?_,rfl,q _ (I.hok.fresh (Hs _))⟩
 exact⟨HX (gR xs lo hi) hz,_,0,(r.drop (HT.sIx xs.length 0 lo)).take (HT.sIx xs.length xs.length hi-HT.sIx xs.length 0 lo),HR _ rfl⟩
theorem ki:dB X (.builtin "len") (fun xs H Q=>∃p ys,xs=[.ref p]/\(Gr X.K H p ys\/Gq X.K H p ys)/\Q (.int ys.length) H):=by
 intro pins s σ H xs us Q I r h
 obtain⟨p,ys,rfl,hq,q⟩:=h
 obtain⟨u,rfl,rx⟩:=vals1 r
 cases rx
 have hn:=lU
 rcases hq with hq|hq
 · obtain⟨its,r',pl,hz⟩:=I.list hq
   have hlen:=r'.length
   exact Calls.call_len_list pl.isList (by simp only[HL]<;>omega) ⟨.int ys.length,H,I.tok _,⟨s.toks+1,by rw[HL,hlen]⟩,q⟩
 · obtain⟨its,r',pl,hz⟩:=I.tuple hq
   have hlen:=r'.length
   exact len_tuple pl (by simp only[HL]<;>omega) ⟨.int ys.length,H,I.tok _,⟨s.toks+1,by rw[HL,hlen]⟩,q⟩
theorem kf:dB X (.type "list") (fun xs H Q=>∃p ys,xs=[.ref p]/\(Gr X.K H p ys\/Gq X.K H p ys)/\∀l,H l=none->Q (.ref l) (D8 H l (.lst ys))):=by
 intro pins s σ H xs us Q I r h
 obtain⟨p,ys,rfl,hq,q⟩:=h
 obtain⟨u,rfl,rx⟩:=vals1 r
 cases rx
 have fin:∀(its:List Hq),cz ys its->ys.length<=sizeLine->∀(h':Heap)(c':Nat),(∀b o',s.heap.get? b=some o'->h'.get? b=some o') ->
  h'.get? s.heap.objs.size=some {cls:=.type "list", dict:=none,data:=.seq its.toArray c',slots:=#[]}->EP X pins σ Q (.ref s.heap.objs.size) {s with heap:=h' }:=fun its r' hz h' c' kp e =>
  ⟨.ref s.heap.objs.size,_,I.laid (t':=s.toks) kp (Hs _) (show cT X.prog X.w _ h' _ (.lst ys)from⟨hz,its,c',r',e⟩),rfl,q _ (I.hok.fresh (Hs _))⟩
 rcases hq with hq|hq
 · obtain⟨its,r',pl,hz⟩:=I.list hq
   have hlen:=r'.length
   obtain⟨o,ho,hc,n,hd⟩:=pl.isList
   exact call_list_seq p (.inl rfl) ho hc hd (fun h' c' kp e=>fin its r' hz h' c' kp e) (by simp only[HL]<;>omega)
 · obtain⟨its,r',pl,hz⟩:=I.tuple hq
   have hlen:=r'.length
   obtain⟨o,ho,hc,n,hd⟩:=pl
   exact call_list_seq p (.inr rfl) ho hc hd (fun h' c' kp e=>fin its r' hz h' c' kp e) (by simp only[HL]<;>omega)
theorem jv:dB X (.type "tuple") (fun xs H Q=>∃p ys,xs=[.ref p]/\((Gr X.K H p ys/\∀l,H l=none->Q (.ref l) (D8 H l (.tup ys)))\/(Gq X.K H p ys/\Q (.ref p) H))):=by
 intro pins s σ H xs us Q I r h
 obtain⟨p,ys,rfl,h⟩:=h
 obtain⟨u,rfl,rx⟩:=vals1 r
 cases rx
 rcases h with⟨hq,q⟩|⟨hq,q⟩
 · obtain⟨its,r',pl,hz⟩:=I.list hq
   have hlen:=r'.length
   refine call_tuple_list pl.isList (fun h' kp=>?_) (by simp only[HL]<;>omega)
   have I1:Inv X pins σ H {s with heap:=h' }:=I.kept (t':=s.toks) kp
   have I2:Inv X pins σ (D8 H h'.objs.size (.tup ys)) {s with heap:=h'.push {cls:=.type "tuple", data:=.seq its.toArray}} :=
    I1.laid (t':=s.toks) (fun b o e=>Hm _ e) (Hs _) (show cT X.prog X.w _ _ _ (.tup ys)from⟨hz,its,r',qw.new _ _⟩)
   exact⟨.ref h'.objs.size,_,I2,rfl,q _ (I1.hok.fresh (Hs _))⟩
 · obtain⟨its,r',pl,hz⟩:=I.tuple hq
   exact call_tuple_same pl ⟨.ref p,H,I,rfl,q⟩
noncomputable def Ea(K:W.Frag)(T:String)(x:V)(H:Hp):Prop:=match x with
 | .str _=>T = "str"
 | .int _=>T = "int"
 | .ref p=>(T = "list" /\ ∃xs,Gr K H p xs)\/(T = "tuple" /\ ∃xs,Gq K H p xs) \/
     (T = "dict" /\ ((∃kvs,H p=some (.dK kvs))\/∃kvs,H p=some (.dT kvs)))\/(T = "set" /\ ∃S n,H p=some (.set S n))
 | _=>False
theorem sP{T:String}{x:V}{v:Hq}(I:Inv X pins σ H s)(r:RelV x v)(ty:Ea X.K T x H) :
 s.TypeIs v T/\∀a,v = .ref a->∃ob,s.heap.get? a=some ob/\ob.dict=none:=by
 cases x with
 | str z =>
   obtain⟨t,rfl⟩:=r
   cases(show T = "str" from ty)
   exact⟨typeIs_str s z t,fun _ e=>nomatch e⟩
 | int i =>
   obtain⟨t,rfl⟩:=r
   cases(show T = "int" from ty)
   exact⟨typeIs_int s i t,fun _ e=>nomatch e⟩
 | ref p =>
   cases r
   rcases ty with⟨rfl,xs,hq⟩|⟨rfl,xs,hq⟩|⟨rfl,hk⟩|⟨rfl,S,n,hk⟩
   · obtain⟨its,_,pl,_⟩:=I.list hq
     refine⟨pl.isList.typeIs,fun a e=>?_⟩
     cases e
     obtain⟨o,n,e,c,hd,_⟩:=pl
     exact⟨o,e,hd⟩
   · obtain⟨o,e1,e2,e3⟩:=I.tupleD hq
     refine⟨⟨o,e1,e2⟩,fun a e=>?_⟩
     cases e
     exact⟨o,e1,e3⟩
   · have z:∃o,s.heap.get? p=some o/\o.ExactDict:=by
       rcases hk with⟨kvs,hk⟩|⟨kvs,hk⟩
       · obtain⟨_,_,_,_,o,_,_,e,ex,_⟩:=I.hok p _ hk
         exact⟨o,e,ex⟩
       · obtain⟨_,_,_,_,o,_,_,e,ex,_⟩:=I.hok p _ hk
         exact⟨o,e,ex⟩
     obtain⟨o,e,ex⟩:=z
     refine⟨⟨o,e,ex.1⟩,fun a e2=>?_⟩
     cases e2
     exact⟨o,e,ex.2.1⟩
   · obtain⟨o,_,_,_,e,ex,_⟩:=I.hok p _ hk
     refine⟨⟨o,e,ex.1⟩,fun a e2=>?_⟩
     cases e2
     exact⟨o,e,ex.2.1⟩
 | _=>exact Jb ty
noncomputable def Dg(K:W.Frag)(T:String)(r:V->List V->Hp->VK->Prop)(to:TE):TE:=fun σ H Q=>to σ H fun x H1=>Ea K T x H1/\r x [] H1 Q
noncomputable def Er(K:W.Frag)(T:String)(r:V->List V->Hp->VK->Prop)(to:TE)(t:TA):TE:=fun σ H Q=>to σ H fun x H1=>Ea K T x H1/\t σ H1 fun xs H2=>r x xs H2 Q
variable{o e:Expr}{es:List Expr}{to:TE}{t:TA}{name:Str}{apos cpos:Pos}{T id:String}{r:V->List V->Hp->VK->Prop}
theorem yw(pa:PlainAttrs T)(slot:Slot T name id)(hty:typeOf (.builtin id)=pure (.type "method_descriptor"))(hm:GR X id r)(ho:PE X o to)
 (hbase:JR o name X.env (eval o X.env)=eval o X.env:=by rfl)(hline:(apos.endLine==cpos.line)=true:=by rfl):PE X (.Call (.Attribute o name apos) [] [] cpos) (Dg X.K T r to):=by
 intro pins s σ H Q I h
 refine wpAny_Call_method0_late hbase hline (Eg (ho pins s σ H _ I h) fun v s1 ⟨x,H1,I1,r1,ty,q1⟩=>?_)
 obtain⟨h1,h2⟩:=sP I1 r1 ty
 exact⟨T,id,pa,slot,hty,h1,h2,Mq rfl (PySem.evalArgs_none (hm pins s1 σ H1 x [] v [] Q I1 r1 .nil q1))⟩
theorem vb(pa:PlainAttrs T)(slot:Slot T name id)(hty:typeOf (.builtin id)=pure (.type "method_descriptor"))(hm:GR X id r)(ho:PE X o to)(ha:PA X (e::es) t)
 (hbase:JR o name X.env (eval o X.env)=eval o X.env:=by rfl)
 (hfew:((I0 cpos (Hw (e::es) X.env)).all (fun x=>!x.1)&&(Lx cpos (Kp [] X.env)).all (fun x=>x.1.isSome)
  && decide ((e::es).length+([]:List KC).length+(if([]:List KC).isEmpty then 0 else 1)<30))=true:=by rfl)
 (hline:(apos.endLine==cpos.line)=true:=by rfl)(hs:Hw (e::es) X.env=(false,eval e X.env)::Hw es X.env:=by rfl)(hplain:(I0 cpos (Hw es X.env)).any (·.1)=false:=by rfl) :
 PE X (.Call (.Attribute o name apos) (e::es) [] cpos) (Er X.K T r to t):=by
 intro pins s σ H Q I h
 refine wpAny_Call_method_late hbase hfew hline rfl (Eg (ho pins s σ H _ I h) fun v s1 ⟨x,H1,I1,r1,ty,q1⟩=>?_)
 obtain⟨h1,h2⟩:=sP I1 r1 ty
 refine⟨T,id,pa,slot,hty,h1,h2,?_⟩
 have hA:=ha cpos pins s1 σ H1 _ I1 q1
 rw[hs]at hA ⊢
 refine Mq (by show(false||(I0 cpos (Hw es X.env)).any (·.1))=false;rw[hplain]<;>rfl) (Calls.evalArgs_plain ?_)
 exact Eg hA fun us s2 ⟨vs,H2,I2,r2,q2⟩=>hm pins s2 σ H2 x vs v us Q I2 r1 r2 q2
end
noncomputable def GS(X:Cx)(id:String)(r:V->List V->Hp->VK->Prop):Prop :=
 ∀ (pins:List (Addr×Obj))(s:Hv)(σ:St)(H:Hp)(x:V)(xs:List V)(v:Hq)(us:List Hq)(Q:VK),Inv X pins σ H s->RelV x v->cz xs us->r x xs H Q ->
   Ia (Il X.prog X.w) X.A (call (.builtin id) (v::us)) (EP X pins σ Q) X.xe s
theorem cz.one:∀{x:V}{us:List Hq},cz [x] us->∃u,us=[u]/\RelV x u
 | _,_,.cons r .nil=>⟨_,rfl,r⟩
theorem cz.zero:∀{us:List Hq},cz [] us->us=[]
 | _,.nil=>rfl
theorem cz.rep{xs:List V}{us:List Hq}(h:cz xs us):∀k:Nat,cz (Ih k xs).flatten (Ih k us).flatten
 | 0=>.nil
 | k+1=>by
   rw[Jf,Jf,Kf,Kf]
   exact cz.append h (cz.rep h k)
theorem foldl_rep(its:List Hq):∀(k:Nat)(acc:List Hq),
 List.foldl (fun x1 x2=>x1++x2) acc.toArray (Ih k its.toArray)=(acc++(Ih k its).flatten).toArray
 | 0,acc=>by simp
 | k+1,acc=>by
   have e:acc.toArray++its.toArray=(acc++its).toArray:=by simp
   have e2:(acc++its)++(Ih k its).flatten=acc++(Ih (k+1) its).flatten:=by
    rw[Jf,Kf,KG]
   rw[<- e2,<- foldl_rep its k (acc++its),<- e,Jf,Kg]
section
variable{X:Cx}{pins:List (Addr×Obj)}{σ:St}{H:Hp}{s:Hv}{l b:Addr}{xs ys zs:List V}
theorem Inv.lset{its its':List Hq}{f:Array Hq->Array Hq}(I:Inv X pins σ H s)(hH:H l=some (.lst xs))
 (e:s.heap.get? l=some {cls:=.type "list", data:=.seq its.toArray n})(hf:f its.toArray=its'.toArray)(hv:cz ys its')(hz:ys.length<=sizeLine) :
 Inv X pins σ (D8 H l (.lst ys)) {s with heap:=s.heap.update l (Nk f),toks:=t' }:=by
 have q:=PySem.IsL.update e f
 rw[hf]at q
 refine I.write (x:=l) (e:=l) (by rw[hH];exact trivial) (.inl rfl) (fun b' u hb hu=>(Jm s.heap (Nk f) (MX hb)).trans hu) ⟨_,q⟩ ?_
 exact⟨hz,its',_,hv,q⟩
theorem Inv.lnew{its:List Hq}(I:Inv X pins σ H s)(hv:cz ys its)(hz:ys.length<=sizeLine) :
 Inv X pins σ (D8 H s.heap.objs.size (.lst ys)) {s with heap:=s.heap.push {cls:=.type "list", data:=.seq its.toArray},toks:=t' } :=
 I.laid (fun _ _ q=>Hm _ q) (Hs _) ⟨hz,its,0,hv,HR _ rfl⟩
theorem Inv.fresh(I:Inv X pins σ H s):H s.heap.objs.size=none:=I.hok.fresh (Hs _)
theorem Inv.lstM(I:Inv X pins σ H s)(hH:H l=some (.lst xs)):xs.length<=sizeLine/\∃(its:List Hq)(n:Nat),cz xs its/\xs.length=its.length/\s.heap.get? l=some {cls:=.type "list", data:=.seq its.toArray n}:=by
 obtain⟨z,its,n,r,e⟩:=I.hok l _ hH
 exact⟨z,its,n,r,r.length,e⟩
theorem lO(h:n<=sizeLine):Kh n=false:=by
 unfold Kh
 exact decide_eq_false (by omega)
end
section
variable{X:Cx}
noncomputable def oI:V->List V->Hp->VK->Prop:=fun x vs H Q=>∃l xs y,x = .ref l/\vs=[y]/\H l=some (.lst xs)/\xs.length<sizeLine/\Q .non (D8 H l (.lst (xs++[y])))
theorem eL:GS X "list.append" oI:=by
 intro pins s σ H x vs v us Q I rx rv h
 obtain⟨l,xs,y,rfl,rfl,hH,hz,q⟩:=h
 cases rx
 obtain⟨u,rfl,ru⟩:=rv.one
 obtain⟨z,its,n,r,hl,e⟩:=I.lstM hH
 refine Lz F.slot_list_append ⟨_,e,rfl⟩ F.entry_list_append (F.args_list_append_2 _ _) (PySem.list_append l its.toArray n u (by rw[HL];omega)) ⟨e,?_⟩
 refine⟨.non,_,I.lset (its':=its++[u]) hH e (by simp) (r.append (.cons ru .nil)) ?_,rfl,q⟩
 rw[HC,Lk]
 omega
noncomputable def oH:V->List V->Hp->VK->Prop:=fun x vs H Q=>∃l b xs zs,x = .ref l/\vs=[.ref b]/\H l=some (.lst xs)/\H b=some (.lst zs)/\xs.length+zs.length<=sizeLine/\Q .non (D8 H l (.lst (xs++zs)))
theorem o4:GS X "list.extend" oH:=by
 intro pins s σ H x vs v us Q I rx rv h
 obtain⟨l,b,xs,zs,rfl,rfl,hH,hB,hz,q⟩:=h
 cases rx
 obtain⟨u,rfl,ru⟩:=rv.one
 cases ru
 obtain⟨z,its,n,r,hl,e⟩:=I.lstM hH
 obtain⟨z2,its2,n2,r2,hl2,e2⟩:=I.lstM hB
 have hsz:its.toArray.size+its2.toArray.size<=sizeLine:=by rw[HL,HL];omega
 have hlong:¬(!its.toArray.isEmpty&&Kh (its.toArray.size+its2.toArray.size))=true:=by
  rw[lO hsz,Bool.and_false]
  exact Ic
 refine Lz F.slot_list_extend ⟨_,e,rfl⟩ F.entry_list_extend (F.args_list_extend_2 _ _)
  (AutoSeq1.list_extend_list_list_0 l its.toArray n b its2.toArray n2 hlong (by rw[HL];omega) (by omega)) ⟨e,e2,?_⟩
 refine⟨.non,_,I.lset (its':=its++its2) hH e (by simp) (r.append r2) ?_,rfl,q⟩
 rw[HC]
 omega
noncomputable def x8:V->List V->Hp->VK->Prop:=fun x vs H Q=>∃l xs,x = .ref l/\vs=[]/\H l=some (.lst xs)/\Q .non (D8 H l (.lst []))
theorem rC:GS X "list.clear" x8:=by
 intro pins s σ H x vs v us Q I rx rv h
 obtain⟨l,xs,rfl,rfl,hH,q⟩:=h
 cases rx
 have hus:=rv.zero
 subst hus
 obtain⟨z,its,n,r,hl,e⟩:=I.lstM hH
 refine Lz F.slot_list_clear ⟨_,e,rfl⟩ F.entry_list_clear (F.args_list_clear_1 _) (AutoSeq1.list_clear_list_0 l its.toArray n (by rw[HL];omega)) ⟨e,?_⟩
 exact⟨.non,_,I.lset (its':=[]) (ys:=[]) hH e rfl .nil (HS _),rfl,q⟩
noncomputable def CI:R2:=fun x y H Q=>∃l b xs zs,x = .ref l/\y = .ref b/\H l=some (.lst xs)/\H b=some (.lst zs)/\xs.length+zs.length<=sizeLine/\∀p,H p=none->Q (.ref p) (D8 H p (.lst (xs++zs)))
theorem yD:GO X (Kn .Add) CI:=by
 intro pins s σ H x y v u Q I rx ry h
 obtain⟨l,b,xs,zs,rfl,rfl,hH,hB,hz,q⟩:=h
 cases rx
 cases ry
 obtain⟨z,its,n,r,hl,e⟩:=I.lstM hH
 obtain⟨z2,its2,n2,r2,hl2,e2⟩:=I.lstM hB
 refine PySem.P.add_list e e2 ?_ (by rw[HL,HL];omega)
 have ea:its.toArray++its2.toArray=(its++its2).toArray:=by simp
 rw[ea]
 exact⟨.ref _,_,I.lnew (t':=s.toks) (r.append r2) (by rw[HC];omega),rfl,q _ I.fresh⟩
noncomputable def CC:R2:=fun x y H Q=>∃l k xs,x = .ref l/\y = .int k/\H l=some (.lst xs) /\ -(2^63)<=k/\k<2^63/\xs.length*k.toNat<=sizeLine /\
 ∀p,H p=none->Q (.ref p) (D8 H p (.lst (Ih k.toNat xs).flatten))
theorem vM(xs:List α)(k:Nat):(Ih k xs).flatten.length=k*xs.length:=by
 induction k with
 | zero=>simp
 | succ k ih=>rw[Jf,Kf,HC,ih,Nat.succ_mul,Nat.add_comm]
theorem yB:GO X (Kn .Mult) CC:=by
 intro pins s σ H x y v u Q I rx ry h
 obtain⟨l,k,xs,rfl,rfl,hH,h1,h2,hz,q⟩:=h
 cases rx
 obtain⟨t,rfl⟩:=ry
 obtain⟨z,its,n,r,hl,e⟩:=I.lstM hH
 have hlen:its.toArray.size*k.toNat<=sizeLine:=by rw[HL,<- hl];exact hz
 have hcap:¬its.toArray.size*k.toNat>(2^63-1) / 8:=by
  have:(sizeLine:Nat)<=(2^63-1) / 8:=by decide
  omega
 have hfit:¬(!KN k)=true:=by
  rw[fitsIndex_both h1 h2]
  exact Ic
 have hlong:¬Kh (its.toArray.size*k.toNat)=true:=by
  rw[lO hlen]
  exact Ic
 have hnew:List.foldl (fun x1 x2=>x1++x2) #[] (Ih (if its.toArray.isEmpty=true then 0 else k.toNat) its.toArray)=(Ih k.toNat its).flatten.toArray:=by
  have f0:∀m:Nat,List.foldl (fun x1 x2=>x1++x2) #[] (Ih m its.toArray)=(Ih m its).flatten.toArray:=fun m=>by
   have:=foldl_rep its m []
   rw[List.nil_append]at this
   exact this
  rw[f0]
  cases its with
  | nil=>simp
  | cons a r'=>rw[if_neg (by simp)]
 refine wpAny_binaryOp_repeat_ref (T := "list") (U := "int") (by decide) ⟨_,e,rfl⟩ (fun s'=>typeIs_int s' k t) noFill_list_mul F.fills_int_mul F.slot_int_rmul repeat_list F.slot_int_index.lookup
  (Lz F.slot_int_rmul (typeIs_int s k t) F.entry_int_rmul (F.args_int_rmul_2 _ _) (int___rmul___int_list k t l its.toArray n)
   ⟨e,rfl,⟨_,e,rfl⟩,Lz F.slot_list_mul ⟨_,e,rfl⟩ F.entry_list_mul (F.args_list_mul_2 _ _) (AutoListH.list___mul___list_int_3 l its.toArray n k t hfit hcap hlong) ⟨e,?_⟩⟩)
 rw[hnew]
 exact⟨.ref _,_,I.lnew (t':=s.toks) (r.rep k.toNat) (by rw[vM,LV];exact hz),rfl,q _ I.fresh⟩
end
section
variable{prog:Ij}{w:IV}{A:IU}{E:Hq->Hv->Prop}{s:Hv}
end
section
variable{X:Cx}
end
section
variable{κ:Type}[DecidableEq κ]
noncomputable def fR(kvs:List (κ×V))(k:κ):Option V:=(kvs.find? fun kv=>decide (kv.1=k)).map (·.2)
noncomputable def dC(kvs:List (κ×V))(k:κ)(v:V):List (κ×V) :=
 if(kvs.any fun kv=>decide (kv.1=k))=true then kvs.map (fun kv=>if kv.1=k then(kv.1,v)else kv)else kvs++[(k,v)]
theorem cV{p:κ×V}{r:List (κ×V)}{k:κ}(e:p.1=k):fR (p::r) k=some p.2:=by simp[fR,I_,e]
theorem iW{p:κ×V}{r:List (κ×V)}{k:κ}(e:¬p.1=k):fR (p::r) k=fR r k:=by simp[fR,I_,e]
theorem lD(k:κ):∀kvs:List (κ×V),(kvs.any fun kv=>decide (kv.1=k))=(fR kvs k).isSome
 | []=>rfl
 | p::r=>by
   rw[K1]
   by_cases e:p.1=k
   · simp only[cV e,decide_eq_true e,Bool.true_or,Option.isSome_some]
   · rw[iW e,decide_eq_false e,Bool.false_or];exact lD k r
theorem c_(kvs:List (κ×V))(k:κ)(v:V):(dC kvs k v).length<=kvs.length+1:=by
 unfold dC
 split
 · rw[Hu];omega
 · rw[HC,HV,LF];omega
theorem wF.isSome_eq{o:Option V}{u:Option Hq}(r:wF o u):o.isSome=u.isSome:=by
 cases o with
 | none=>cases u with
   | none=>rfl
   | some _=>exact(show False from r).elim
 | some _=>cases u with
   | none=>exact(show False from r).elim
   | some _=>rfl
theorem KV.val{kvs:List (κ×V)}{vs:List (κ×Hq)}(r:KV kvs vs)(k:κ):wF (fR kvs k) (Nl vs k):=by
 unfold KV at r
 induction r with
 | nil=>exact Kv
 | @cons p q ps qs h t ih =>
   obtain⟨h1,h2⟩:=h
   by_cases e:p.1=k
   · have e':q.1=k:=h1.symm.trans e
     have b:Nl (q::qs) k=some q.2:=by simp[Nl,I_,e']
     rw[cV e,b];exact h2
   · have e':¬q.1=k:=fun z=>e (h1.trans z)
     have b:Nl (q::qs) k=Nl qs k:=by simp[Nl,I_,e']
     rw[iW e,b];exact ih
theorem KV.any{kvs:List (κ×V)}{vs:List (κ×Hq)}(r:KV kvs vs)(k:κ):(kvs.any fun kv=>decide (kv.1=k))=vs.any fun kv=>decide (kv.1=k):=by
 unfold KV at r
 induction r with
 | nil=>rfl
 | cons h t ih=>rw[K1,K1,ih,h.1]
theorem KV.repl{kvs:List (κ×V)}{vs:List (κ×Hq)}(r:KV kvs vs)(k:κ){y:V}(ry:RelV y u) :
 KV (kvs.map fun kv=>if kv.1=k then(kv.1,y)else kv) (vs.map fun kv=>if kv.1=k then(kv.1,u)else kv):=by
 unfold KV at r ⊢
 induction r with
 | nil=>exact .nil
 | @cons p q ps qs h t ih =>
   rw[IF,IF]
   refine .cons ?_ ih
   obtain⟨h1,h2⟩:=h
   by_cases e:p.1=k
   · rw[if_pos e,if_pos (h1.symm.trans e)];exact⟨h1,ry⟩
   · rw[if_neg e,if_neg (fun z=>e (h1.trans z))];exact⟨h1,h2⟩
theorem KV.put{kvs:List (κ×V)}{vs:List (κ×Hq)}(r:KV kvs vs)(k:κ){y:V}(ry:RelV y u):KV (dC kvs k y) (stored vs k u):=by
 unfold dC stored
 rw[r.any k]
 by_cases e:(vs.any fun kv=>decide (kv.1=k))=true
 · rw[if_pos e,if_pos e];exact r.repl k ry
 · rw[if_neg e,if_neg e];exact IQ.snoc r ⟨rfl,ry⟩
theorem KV.keys{kvs:List (κ×V)}{vs:List (κ×Hq)}(r:KV kvs vs):kvs.map (·.1)=vs.map (·.1):=by
 unfold KV at r
 induction r with
 | nil=>rfl
 | cons h t ih=>rw[IF,IF,ih,h.1]
theorem KV.length{kvs:List (κ×V)}{vs:List (κ×Hq)}(r:KV kvs vs):kvs.length=vs.length:=Kl r
end
theorem pG{w:IV}{k:GU}(r:RelV (kV k) u):(bP P w).is k u=true:=by
 cases k with
 | inl i=>obtain⟨t,e⟩:=(show ∃t,u=L3 i t from r);subst e;exact la P w i t
 | inr x=>obtain⟨t,e⟩:=(show ∃t,u=Mv x t from r);subst e;exact k_ P w x t
theorem jZ{P:Ij}{w:IV}:∀{ks:List GU}{us:List Hq},cz (ks.map kV) us->ItemsAre (bP P w) ks us
 | [],_,r=>by rw[LU]at r;cases r;exact .nil
 | k::ks,_,r=>by
   rw[IF]at r
   cases r with
   | cons h t=>exact .cons (pG h) (jZ t)
abbrev KT(H:Hp):List (List GU×V)->List (List GU×Addr×Hq)->Prop:=IQ fun p q=>p.1=q.1/\H q.2.1=some (.tup (p.1.map kV))/\RelV p.2 q.2.2
theorem KT.val{xs:List (List GU×Addr×Hq)}(r:KT H kvs xs)(k:List GU):wF (fR kvs k) ((NS xs k).map (·.2)):=by
 induction r with
 | nil=>exact Kv
 | @cons p q ps qs h t ih =>
   obtain⟨h1,_,h2⟩:=h
   by_cases e:p.1=k
   · have e':q.1=k:=h1.symm.trans e
     have b:NS (q::qs) k=some q.2:=by simp[NS,I_,e']
     rw[cV e,b];exact h2
   · have e':¬q.1=k:=fun z=>e (h1.trans z)
     have b:NS (q::qs) k=NS qs k:=by simp[NS,I_,e']
     rw[iW e,b];exact ih
theorem KT.repl{xs:List (List GU×Addr×Hq)}(r:KT H kvs xs)(k:List GU){y:V}(ry:RelV y u) :
 KT H (kvs.map fun kv=>if kv.1=k then(kv.1,y)else kv) (xs.map (putAt k u)):=by
 induction r with
 | nil=>exact .nil
 | @cons p q ps qs h t ih =>
   rw[IF,IF]
   refine .cons ?_ ih
   obtain⟨h1,h2,h3⟩:=h
   unfold putAt
   by_cases e:p.1=k
   · rw[if_pos e,if_pos (h1.symm.trans e)];exact⟨h1,h2,ry⟩
   · rw[if_neg e,if_neg (fun z=>e (h1.trans z))];exact⟨h1,h2,h3⟩
theorem KT.put{xs:List (List GU×Addr×Hq)}(r:KT H kvs xs)(k:List GU){y:V}(hb:H b=some (.tup (k.map kV)))(ry:RelV y u) :
 KT H (dC kvs k y) (storedH xs k b u):=by
 have e:(kvs.any fun kv=>decide (kv.1=k))=(NS xs k).isSome:=by
  rw[lD,(r.val k).isSome_eq,Option.isSome_map]
 unfold dC storedH
 rw[e]
 by_cases q:(NS xs k).isSome=true
 · rw[if_pos q,if_pos q];exact r.repl k ry
 · rw[if_neg q,if_neg q];exact IQ.snoc r ⟨rfl,hb,ry⟩
theorem KT.keeps{xs:List (List GU×Addr×Hq)}(r:KT H kvs xs)(ht:∀b ys,H b=some (.tup ys)->H' b=some (.tup ys)):KT H' kvs xs :=
 IQ.mapP r fun _ _ z=>⟨z.1,ht _ _ z.2.1,z.2.2⟩
section
variable{P:Ij}{w:IV}{H:Hp}{h:Heap}{a:Addr}
theorem x5{u:HO}(ok:G6 P w H h)(e:Rd H a u):cT P w H h a u:=e.ok ok
theorem sr{kvs:List (GU×V)}(ok:G6 P w H h)(e:Rd H a (.dK kvs)):kvs.length<=sizeLine/\(a==KF)=false/\∃vs,KV kvs vs/\h.DictOf (bP P w) a vs :=
 show cT P w H h a (.dK kvs)from x5 ok e
theorem wf{kvs:List (GU×V)}(ok:G6 P w H h)(e:H a=some (.dK kvs)):kvs.length<=sizeLine/\(a==KF)=false/\∃vs,KV kvs vs/\h.DictOf (bP P w) a vs:=sr ok (.inl e)
theorem pD{ks:List GU}(ok:G6 P w H h)(e:H a=some (.tup (ks.map kV))):(M9 (bP P w)).is h ks a:=by
 obtain⟨_,its,r,o,h1,h2,⟨n,h3⟩,_⟩:=(show cT P w H h a (.tup (ks.map kV))from ok a _ e)
 exact⟨o,its.toArray,n,h1,h2,h3,by simpa using jZ r⟩
theorem wc(ok:G6 P w H h)(e:Rd H a (.dT kvs)):kvs.length<=sizeLine/\(a==KF)=false /\
 ∃xs,KT H kvs xs/\h.DictOfH (M9 (bP P w)) a xs:=by
 obtain⟨z,y,xs,r,o,es,ep,h1,h2,h3,h4,h5⟩:=(show cT P w H h a (.dT kvs)from x5 ok e)
 refine⟨z,y,xs,r,o,es,ep,h1,h2,h3,h4,fun x hx=>?_,h5⟩
 have all:∀{l:List (List GU×V)}{m:List (List GU×Addr×Hq)},KT H l m->∀x∈m,(M9 (bP P w)).is h x.1 x.2.1:=by
  intro l m q
  induction q with
  | nil=>intro x hx;exact nomatch hx
  | @cons p q ps qs hq t ih =>
    intro x hx
    rcases HN.mp hx with e|hx
    · subst e
      exact pD ok (by rw[<- hq.1];exact hq.2.1)
    · exact ih x hx
 exact all r x hx
theorem Bm(ok:G6 P w H h)(e:H a=some (.dT kvs)):kvs.length<=sizeLine/\(a==KF)=false /\
 ∃xs,KT H kvs xs/\h.DictOfH (M9 (bP P w)) a xs:=wc ok (.inl e)
end
noncomputable def z9(H:Hp)(a:Addr)(y:V)(r:Option V):Prop :=
 (∃kvs k,Rd H a (.dK kvs)/\y=kV k/\r=fR kvs k)\/∃kvs k b,Rd H a (.dT kvs)/\y = .ref b/\H b=some (.tup (k.map kV))/\r=fR kvs k
noncomputable def Bq(H:Hp)(a:Addr)(y v:V)(H':Hp):Prop :=
 (∃kvs k,H a=some (.dK kvs)/\y=kV k/\kvs.length<sizeLine/\H'=D8 H a (.dK (dC kvs k v))) \/
 ∃kvs k b,H a=some (.dT kvs)/\y = .ref b/\H b=some (.tup (k.map kV))/\kvs.length<sizeLine/\H'=D8 H a (.dT (dC kvs k v))
theorem z9.k{H:Hp}{a:Addr}{kvs:List (GU×V)}{k:GU}(e:H a=some (.dK kvs)):z9 H a (kV k) (fR kvs k):=.inl ⟨kvs,k,.inl e,rfl,rfl⟩
theorem Bq.k{H:Hp}{a:Addr}{kvs:List (GU×V)}{k:GU}{v:V}(e:H a=some (.dK kvs))(hl:kvs.length<sizeLine):Bq H a (kV k) v (D8 H a (.dK (dC kvs k v))):=.inl ⟨kvs,k,e,rfl,hl,rfl⟩
section
variable{X:Cx}{pins:List (Addr×Obj)}{σ:St}{H:Hp}{s:Hv}{a:Addr}{y v:V}{u r:Hq}{o:Option V}{A:IU}{E:Hq->Hv->Prop}
theorem Inv.big(I:Inv X pins σ H s):KF<s.heap.objs.size:=by
 have h:II<s.heap.objs.size:=(I.mod.glob.keeps I.bk).lt
 exact Nat.lt_trans (by decide) h
theorem p4(hu:A.units+1<Mn)(I:Inv X pins σ H s)(g:z9 H a y (some v))(ry:RelV y u)(h:∀w' s',Inv X pins σ H s'->RelV v w'->Q w' s') :
 Ia (Il X.prog X.w) A (Mb (.ref a) u) Q E s:=by
 rcases g with⟨kvs,k,e,ey,l⟩|⟨kvs,k,b,e,ey,eb,l⟩
 · subst ey
   obtain⟨z,hd,vs,rel,dd⟩:=sr I.hok e
   obtain⟨w',hw,rw'⟩:=wF.some_of (v:=v) (o:=Nl vs k) (by rw[l];exact rel.val k)
   exact wpAny_getItem_of (pG ry) dd.mapOf hw (h w' _ (I.tok _) rw')
 · subst ey
   cases(show u=JV b from ry)
   obtain⟨z,hd,xs,rel,dd⟩:=wc I.hok e
   obtain⟨w',hw,rw'⟩:=wF.some_of (v:=v) (o:=(NS xs k).map (·.2)) (by rw[l];exact rel.val k)
   obtain⟨p,hp,hp2⟩:=K7.mp hw
   refine wpAny_getItem_heap (tupleKind_room_in1 hu) (pD I.hok eb) dd hp ?_
   rw[hp2]
   exact h w' _ (I.tok _) rw'
theorem jr{ob:HO}(I:Inv X pins σ H s)(mu:GQ (H a))(hs:Kj a s.heap h')(he:∃q,h'.get? a=some q)(new:cT X.prog X.w (D8 H a ob) h' a ob) :
 Inv X pins σ (D8 H a ob) {s with heap:=h',toks:=t' } :=
 I.write (x:=a) (e:=a) mu (.inl rfl) (fun b q hb z=>(hs.2 b hb).trans z) he new
theorem dk_new{w:IV}{kvs:List (GU×V)}{vs:List (GU×Hq)}(z:kvs.length<=sizeLine)(hd:(a==KF)=false)(rel:KV kvs vs)(dd:h'.DictOf (bP P w) a vs) :
 cT P w H' h' a (.dK kvs):=⟨z,hd,vs,rel,dd⟩
theorem pZ{Q:Unit->Hv->Prop}(hu:A.units+1<Mn)(I:Inv X pins σ H s)(g:Bq H a y v H')(ry:RelV y u)(rv:RelV v r)(h:∀s',Inv X pins σ H' s'->Q () s') :
 Ia (Il X.prog X.w) A (setItem (.ref a) u r) Q E s:=by
 rcases g with⟨kvs,k,e,ey,l,eH⟩|⟨kvs,k,b,e,ey,eb,l,eH⟩
 · subst ey eH
   obtain⟨z,hd,vs,rel,dd⟩:=wf I.hok e
   have hz:vs.length<=sizeLine:=by rw[<- rel.length];exact z
   have hl:(dC kvs k v).length<=sizeLine:=by have:=c_ kvs k v;omega
   refine wpAny_setItem_pairs (hsz:=hz) (pG ry) dd fun h' dd' hs=>h _ ?_
   have he:∃q,h'.get? a=some q:=let ⟨q,_,_,hq,_⟩:=dd';⟨q,hq⟩
   exact jr I (by rw[e];exact Kv) hs he (dk_new hl hd (rel.put k rv) dd')
 · subst ey eH
   cases(show u=JV b from ry)
   obtain⟨z,hd,xs,rel,dd⟩:=Bm I.hok e
   have hz:xs.length<=sizeLine:=by rw[<- Kl rel];exact z
   have hl:(dC kvs k v).length<=sizeLine:=by have:=c_ kvs k v;omega
   refine wpAny_setItem_heap (hsz:=hz) (tupleKind_room_in1 hu) (pD I.hok eb) dd fun h' dd' hs=>h _ ?_
   obtain⟨q,es,ep,hq,h2,h3,h4,_,h5⟩:=dd'
   refine jr I (by rw[e];exact Kv) hs ⟨q,hq⟩ ⟨hl,hd,_,(rel.put k eb rv).keeps fun c ys ec=>?_,q,es,ep,hq,h2,h3,h4,h5⟩
   rw[am (AX ec e (fun z=>nomatch z))]
   exact ec
end
section
variable{X:Cx}{pins:List (Addr×Obj)}{σ:St}{H:Hp}{s:Hv}{a:Addr}{kvs:List (GU×V)}{k:GU}{u:Hq}{A:IU}{E:Hq->Hv->Prop}
end
noncomputable def wI(i:Expr):Prop:=∀ov iv,M0 i false ov iv=operate [ov,iv] (Mb ov iv)
theorem uy{prog:Ij}{w:IV}{env:Env}{value slice:Expr}{T id:String}
 (hl:typeLookup (.type T) "__getitem__" = pure (some (.builtin id)))(hs:wI slice)
 (h:Ia (Il prog w) A (eval value env) (fun o s₁=>Ia (Il prog w) A (eval slice env) (fun i s₂=>s₂.TypeIs o T/\Ia (Il prog w) A (Mb o i) Q E s₂) E s₁) E s) :
 Ia (Il prog w) A (eval (.Subscript value slice pos) env) Q E s:=by
 refine Subscript_ (Is h (fun o s₁ h₁=>Is h₁ (fun i s₂ h₂=>?_) fun _ _ x=>x) fun _ _ x=>x)
 obtain⟨hT,h₂⟩:=h₂
 unfold Nd
 refine Hl ?_
 rw[getitemInPython_of_ne hT.not_modules]
 refine Hl (wpAny_specialOf hT hl ?_)
 have fin:Ia (Il prog w) A (M0 slice false o i) (fun r s₃=>Ia (Il prog w) A (letTemporaryGo value o r >>= fun _=>pure r) Q E s₃) E s₂:=by
  rw[hs o i]
  exact wpAny_operating (Is h₂ (fun r s₃ h₃=>Hl (wpAny_letTemporaryGo (HD h₃))) fun _ _ x=>x)
 first
  | exact HD (Hl fin)
  | exact Hl (HD (Hl fin))
  | exact Hl fin
theorem lj{y:V}{o:Option V}(I:Inv X pins σ H s)(g:z9 H a y o):s.TypeIs (.ref a) "dict" := by
 rcases g with⟨kvs,k,e,_,_⟩|⟨kvs,k,b,e,_,_,_⟩
 · obtain⟨_,_,vs,_,dd⟩:=sr I.hok e
   exact dd.typeIs
 · obtain⟨_,_,xs,_,dd⟩:=wc I.hok e
   exact dd.typeIs
noncomputable def xy(td ty:TE):TE:=fun σ H Q=>td σ H fun x H1=>ty σ H1 fun y H2=>∃a v,x = .ref a/\z9 H2 a y (some v)/\Q v H2
noncomputable def AB(td ty tv:TE):TS:=fun D σ H=>tv σ H fun v H1=>td σ H1 fun x H2=>ty σ H2 fun y H3=>∃a H4,x = .ref a/\Bq H3 a y v H4/\D.nx σ H4
section
variable{X:Cx}{o i e value:Expr}{pos pos' tpos:Pos}{td ty tv:TE}
theorem ja(hu:X.A.units+1<Mn)(ho:PE X o td)(hi:PE X i ty)(hs:wI i):PE X (.Subscript o i pos) (xy td ty):=by
 intro pins s σ H Q I h
 refine uy PySem.F.slot_dict_getitem.lookup hs (Eg (ho pins s σ H _ I h) fun u s1 ⟨x,H1,I1,rx,q1⟩=>Eg (hi pins s1 σ H1 _ I1 q1) fun iv s2 ⟨y,H2,I2,ry,a,v,ex,g,q2⟩=>?_)
 subst ex
 obtain rfl:u=JV a:=rx
 exact⟨lj I2 g,p4 hu I2 g ry fun w' s3 I3 rw'=>⟨v,H2,I3,rw',q2⟩⟩
theorem uT(hu:X.A.units+1<Mn)(ho:PE X o td)(hi:PE X i ty)(hv:PE X value tv)(hs:Jr value (some (.Subscript o i pos')) pos.line X.env=pure false) :
 PS X (.Assign [.Subscript o i pos'] value pos) (AB td ty tv):=by
 intro pins s σ H D I h
 refine wpAny_Assign_Subscript (Eg (hv pins s σ H _ I h) fun r s1 ⟨v,H1,I1,rv,q1⟩=>Eg (ho pins s1 σ H1 _ I1 q1) fun u s2 ⟨x,H2,I2,rx,q2⟩=>Eg (hi pins s2 σ H2 _ I2 q2) fun iv s3 ⟨y,H3,I3,ry,a,H4,ex,g,q3⟩=>?_) hs
 subst ex
 obtain rfl:u=JV a:=rx
 exact pZ hu I3 g ry rv fun s4 I4=>⟨σ,H4,I4,q3⟩
end
theorem jq{w:IV}(h:Heap)(hb:KF<h.objs.size):cT P w H (h.push {cls:=.type "dict", data:=.dict #[]}) h.objs.size (.dK []) :=
 ⟨HS _,beq_eq_false_iff_ne.mpr (MX (Im hb)),[],.nil,Heap.DictOf.new h⟩
section
variable{X:Cx}{pos:Pos}
end
noncomputable def nY:List (TE×TE)->St->Hp->(List (V×V)->Hp->Prop)->Prop
 | [],_,H,Q=>Q [] H
 | (tk,tv)::r,σ,H,Q=>tk σ H fun x H1=>tv σ H1 fun y H2=>nY r σ H2 fun ps H3=>Q ((x,y)::ps) H3
abbrev VV:List (V×V)->List (Hq×Hq)->Prop:=IQ fun p q=>RelV p.1 q.1/\RelV p.2 q.2
noncomputable def GH(X:Cx)(pos:Pos)(keys:List (Option Expr))(values:List Expr)(trs:List (TE×TE)):Prop :=
 ∀ (pins:List (Addr×Obj))(s:Hv)(σ:St)(H:Hp)(Q:List (V×V)->Hp->Prop),Inv X pins σ H s->nY trs σ H Q ->
   Ia (Il X.prog X.w) X.A (evalPairs (pairTrees keys values X.env pos)) (fun vs s'=>∃ps H',Inv X pins σ H' s'/\VV ps vs/\Q ps H') X.xe s
theorem oO:GH X pos [] [] []:=fun pins s σ H Q I h=>pairTrees_nil_walk ⟨[],H,I,.nil,h⟩
theorem cW{k v:Expr}{ks:List (Option Expr)}{vs:List Expr}{tk tv:TE}{trs:List (TE×TE)}(hk:PE X k tk)(hv:PE X v tv)(hr:GH X pos ks vs trs) :
 GH X pos (some k::ks) (v::vs) ((tk,tv)::trs):=fun pins s σ H Q I h =>
 pairTrees_cons_walk (Eg (hk pins s σ H _ I h) fun u s1 ⟨x,H1,I1,rx,q1⟩=>Eg (hv pins s1 σ H1 _ I1 q1) fun w2 s2 ⟨y,H2,I2,ry,q2⟩ =>
  Eg (hr pins s2 σ H2 _ I2 q2) fun ws s3 ⟨ps,H3,I3,rel,q3⟩=>⟨(x,y)::ps,H3,I3,.cons ⟨rx,ry⟩ rel,q3⟩)
noncomputable def eM(kvs more:List (GU×V)):List (GU×V):=more.foldl (fun acc kv=>dC acc kv.1 kv.2) kvs
theorem KV.merge:∀{more:List (GU×V)}{rs:List (GU×Hq)}{kvs:List (GU×V)}{vs:List (GU×Hq)},KV more rs->KV kvs vs->KV (eM kvs more) (merged vs rs):=by
 intro more rs kvs vs r
 unfold KV at r
 induction r generalizing kvs vs with
 | nil=>intro q;exact q
 | @cons p q ps qs h t ih =>
   intro r0
   have e:KV (dC kvs p.1 p.2) (stored vs q.1 q.2):=by
    have:=r0.put p.1 h.2
    rw[<- h.1];exact this
   exact ih e
theorem eO:∀(more kvs:List (GU×V)),(eM kvs more).length<=kvs.length+more.length
 | [],kvs=>by show kvs.length<=kvs.length+0;omega
 | p::r,kvs=>by
   have h1:=eO r (dC kvs p.1 p.2)
   have h2:=c_ kvs p.1 p.2
   show(eM (dC kvs p.1 p.2) r).length<=_
   rw[HV];omega
theorem iO{P:Ij}{w:IV}:∀{kvs:List (GU×V)}{ws:List (Hq×Hq)},VV (kvs.map fun kv=>(kV kv.1,kv.2)) ws->∃rs,Carries (bP P w) ws rs/\KV kvs rs
 | [],_,r=>by rw[LU]at r;cases r;exact⟨[],Kv,.nil⟩
 | p::kvs,_,r=>by
   rw[IF]at r
   cases r with
   | @cons a b as bs h t =>
     obtain⟨rs,c,q⟩:=iO (P:=P) (w:=w) t
     obtain⟨b1,b2⟩:=b
     exact⟨(p.1,b2)::rs,⟨pG h.1,rfl,c⟩,.cons ⟨rfl,h.2⟩ q⟩
noncomputable def Av(trs:List (TE×TE)):TE:=fun σ H Q=>∀p,H p=none->nY trs σ (D8 H p (.dK [])) fun ps H2=>H2 p=some (.dK [])/\∃kvs:List (GU×V),ps=kvs.map (fun kv=>(kV kv.1,kv.2))/\kvs.length<=15/\Q (.ref p) (D8 H2 p (.dK (eM [] kvs)))
theorem oS{keys:List (Option Expr)}{values:List Expr}{trs:List (TE×TE)}(h:GH X pos keys values trs)(hall:keys.all (·.isSome)=true)(hl:keys.length=values.length)(h0:keys≠[])
 (h15:keys.length<=15):PE X (.Dict keys values pos) (Av trs):=by
 intro pins s σ H Q I q
 have hn:=I.hok.fresh (Hs s.heap.objs.size)
 have I1:=I.laid (a:=s.heap.objs.size) (o:=.dK []) (h':=s.heap.push {cls:=.type "dict", data:=.dict #[]}) (t':=s.toks) (fun _ _ q=>Hm _ q) (Hs _) (jq s.heap I.big)
 refine wpAny_Dict_walk (knd:=bP X.prog X.w) hall hl h0 h15 (Eg (h pins _ σ _ _ I1 (q _ hn)) fun ws s2 ⟨ps,H2,I2,rel,e,kvs,ep,lk,q2⟩=>?_)
 subst ep
 obtain⟨rs,c,rk⟩:=iO (P:=X.prog) (w:=X.w) rel
 obtain⟨z,hd,vs0,r0,dd⟩:=wf I2.hok e
 cases r0
 refine⟨rs,c,dd,fun h' dd' hs=>⟨.ref s.heap.objs.size,_,?_,rfl,q2⟩⟩
 have hz:(eM [] kvs).length<=sizeLine:=by
  have h1:=eO kvs []
  rw[LF]at h1
  rw[sizeLine_eq];omega
 have he:∃q,h'.get? s.heap.objs.size=some q:=let ⟨q,_,_,hq,_⟩:=dd';⟨q,hq⟩
 exact jr I2 (by rw[e];exact Kv) hs he (dk_new hz hd (rk.merge .nil) dd')
section
variable{X:Cx}{pins:List (Addr×Obj)}{σ:St}{H:Hp}{s:Hv}{a:Addr}{y d:V}{u r:Hq}{o:Option V}{A:IU}{E:Hq->Hv->Prop}
end
section
variable{X:Cx}{o e f:Expr}{apos cpos:Pos}{td ty tx:TE}
end
section
variable{X:Cx}{pins:List (Addr×Obj)}{σ:St}{H:Hp}{s:Hv}{a:Addr}{kvs:List (GU×V)}{A:IU}{E:Hq->Hv->Prop}
end
section
variable{X:Cx}{pins:List (Addr×Obj)}{σ:St}{H:Hp}{s:Hv}{a:Addr}{y:V}{u:Hq}{A:IU}{E:Hq->Hv->Prop}
end
end L2
namespace Att
open PySem PySem.W PySem.Calls PyProof.Rows
theorem gL{P:NO}:∀(ns:List Int)(vs:List Hq),WellAll P h vs (ns.map WData.int)->LD vs ns:=by
 intro ns
 induction ns with
 | nil =>
   intro vs w
   rw[LU]at w
   cases w
   exact .nil
 | cons n ns ih =>
   intro vs w
   rw[IF]at w
   cases w with
   | cons a b =>
     cases a
     exact .cons _ _ (ih _ b)
theorem oo{l:NP}(hn:l.most=some n){P:NO}{args:List WData}{vals:List Hq}
 (hpre:l.row.toRowW.claim.pre args=true)(hwl:WellAll P h vals args) :
 ∃a vs ns,vals=[JV a]/\args=[WData.list (ns.map WData.int)]/\h.get? a=some {cls:=.type "list", data:=.seq vs.toArray}/\LD vs ns/\ns.length<=n:=by
 have hsh:WShape.hasAll [] args [.list .int]=true:=(pre_splitW hpre).1
 have hc:l.pre.holds [] {args:=args}=true:=(pre_splitW hpre).2
 obtain⟨d,r,rfl,h1,h2⟩:=hasAllW_cons hsh
 obtain rfl:=hasAllW_nil h2
 obtain⟨xs,rfl,h3⟩:=hasW_list h1
 obtain⟨ns,rfl⟩:=items_int h3
 have hlen:ns.length<=n:=by
  unfold NP.pre at hc
  have h4:(WTm.not (.lt (.lit (.int (n:Int))) (.len (.arg 0)))).holds [] {args:=[.list (ns.map .int)]}=true:=by
   have h4:=(holds_andW hc).1
   rw[hn]at h4
   exact h4
  have h5:=condW_of h4 (w_not (w_lt w_lit (w_len_list (w_arg rfl))))
  rw[Hu]at h5
  refine Nat.le_of_not_lt fun q=>?_
  have q':(n:Int)<((ns.length:Nat):Int):=by omega
  first
   | (rw[decide_eq_true q']at h5;exact absurd h5 (by decide))
   | (simp at h5;omega)
 cases hwl with
 | cons w1 w2 =>
   cases w2
   cases w1 with
   | list ho hall=>exact⟨_,_,ns,rfl,rfl,ho,gL ns _ hall,hlen⟩
theorem oP(l:NP)(args:List WData):l.row.toRowW.claim.post args (.bool true) args=true :=
 postW_of (r:=l.row.toRowW) (X:=(true==true))
  (show WShape.has [] (.bool true) .bool=true by first|rfl|decide|simp[WShape.has,WShape.arms,WShape.armsAll])
  (show(WTm.eq .res (.lit (.bool true))).value [] {args:=args,res:=some (.bool true),after:=args}=some (.bool (true==true))from w_eq_bool (w_res rfl) w_lit) rfl
theorem attach_call{l:NP}{q:Ij}{YP:IV->Heap->Prop}{d:DefRec}
 (hn:l.most=some n)(hdf:d.params.defaults=[])
 (call:∀(w:IV)(s₀ s₁:Hv)(mg mb:Str->Option Hq)(fa:Addr)(o:Obj)(pm cd doc:Hq)(a:Addr)(vs:List Hq)(ns:List Int),
  Ground q loose [] XP w s₀ mg mb s₁.heap->YP w s₁.heap ->
  s₁.heap.get? fa=some o->o.data = .func (docDef d.name d.params d.body d.scope pm cd doc)->s₁.heap.CodeRec cd d.name->mg d.name=some (.ref fa) ->
  s₁.heap.get? a=some {cls:=.type "list", data:=.seq vs.toArray}->LD vs ns->ns.length<=n->s₁.gens = #[] ->
  JW (Il l.prog w) Nm (.call (.ref fa) ⟨[.ref a],[]⟩) (fun r s'=>r = .ok (.ret (.bool true))/\OldK s₁.heap s'.heap/\s'.os=s₁.os/\MW s'.gens) s₁) :
 WalkO q loose XP YP l.row.toRowW d [] (fun f vs=>PySem.call f vs):=by
 intro w s₀ s₁ mg mb G Y fa o pm cd doc dV kV ho hd hcd hD hmg hg args vals as hpre hlay hrd hwl hlo
 obtain rfl:dV = .none:=Dflts.none hD hdf
 obtain rfl:kV = .none:=Dflts.noKw hD
 obtain⟨a,vs,ns,rfl,rfl,hobj,hints,hlen⟩:=oo hn hpre hwl
 refine enter_call (LS (call w s₀ s₁ mg mb fa o pm cd doc a vs ns G Y ho (fd_plain hd) hcd hmg hobj hints hlen hg) fun r s' hq=>?_)
 obtain⟨rfl,h2,h3,h4⟩:=hq
 exact⟨.inl ⟨.bool true,.bool true,[],rfl,fun _=>rfl,.bool true,oP l _,fun _=>⟨L5,fun _ hm=>(nomatch hm)⟩⟩,h2,h3,h4⟩
section
variable{prog:Ij}{w:IV}{A:IU}{E:Hq->Hv->Prop}{s:Hv}{K:Frag}
end
end Att
namespace L2
theorem jB:∀{vs:List Hq}{ns:List Int},LD vs ns->cz (ns.map V.int) vs
 | _,_,.nil=>.nil
 | _,_,.cons n t h=>.cons ⟨t,rfl⟩ (jB h)
noncomputable def Bo(H:Hp):Prop:=∀b,H b=none\/∃o xs,H b=some (.frz o (.lst xs))
theorem rK{w:IV}{K:W.Frag}{mb:Str->Option Hq}{CX:G7}{k:Nat}{fa:Addr}{sp:Sp}{s₁:Hv}{vs:List Hq}
 (KX:K.In s₁.heap)(hns:s₁.heap.Ns II mg)(hb:s₁.heap.Ns builtinsNs mb)(hbb:∀x:Str,x ≠ "__name__" -> mb x=Ki x)(hlim:s₁.heap.NoLimit)(hg:s₁.gens = #[])
 (ha:s₁.heap.get? a=some {cls:=.type "list", data:=.seq vs.toArray})(hi:LD vs ns)(hl:ns.length<=sizeLine)(hr:Room k Nm)
 (F:∀base:Heap,K.In base->base.Ns II mg->FnOk P w K mg base CX k fa fd [x] sp)(hbind:∀(s:Hv)(u:Hq),ND s fd ⟨[u],[]⟩ [(x,u)])
 (hsp:∀H:Hp,Bo H->Gr K H a (ns.map V.int)->sp [.ref a] H (fun v _=>v = .bl true) fun _ _ _=>False)
 (hCX:∀H e s',CX [] H s₁ (fun _ _ _=>False) e s'->False) :
 JW (Il P w) Nm (.call (.ref fa) ⟨[.ref a],[]⟩) (fun r s'=>r = .ok (.ret (.bool true))/\OldK s₁.heap s'.heap/\s'.os=s₁.os/\MW s'.gens) s₁:=by
 have rv:=jB hi
 have lenV:=hi.length
 have core:∀H:Hp,Bo H->Gr K H a (ns.map V.int)->G6 P w H s₁.heap->(∀b,H b≠none->b=a)->(H a≠none->K.lookup a=none) ->
  JW (Il P w) Nm (.call (.ref fa) ⟨[.ref a],[]⟩) (fun r s'=>r = .ok (.ret (.bool true))/\OldK s₁.heap s'.heap/\s'.os=s₁.os/\MW s'.gens) s₁:=by
  intro H hO hS hok hA hK
  have base_of:∀{b:Addr}{o:Obj},s₁.heap.get? b=some o->H b=none->(rP s₁.heap H).get? b=some o:=fun e n=>rO e n
  have noA:∀{b:Addr}{o:Obj}{es:Array DictEntry}{ep:Nat},s₁.heap.get? b=some o->o.data = .dict es ep->H b=none:=fun{b o es ep} e d=>by
   cases q:H b with
   | none=>rfl
   | some u =>
     have e':b=a:=hA b (by rw[q];simp)
     subst e'
     rw[ha]at e;cases e
     have d':Data.seq vs.toArray _=Data.dict es ep:=d
     cases d'
  have nsK:∀{b:Addr}{m:Str->Option Hq},s₁.heap.Ns b m->(rP s₁.heap H).Ns b m:=fun{b m} ⟨o,es,ep,e,d,r⟩=>⟨o,es,ep,base_of e (noA e d),d,r⟩
  have hKb:K.In (rP s₁.heap H):=fun b o e=>base_of (KX b o e) (by
   cases q:H b with
   | none=>rfl
   | some u =>
     have e':b=a:=hA b (by rw[q];simp)
     subst e'
     rw[hK (by rw[q];simp)]at e;cases e)
  have hM:Mod K mg (rP s₁.heap H):=⟨hKb,nsK hns,⟨mb,nsK hb,hbb⟩,let ⟨mc,h1,h2⟩:=hlim;⟨mc,nsK h1,h2⟩⟩
  have e0:Env0 P w K mg (rP s₁.heap H) Nm [] s₁ H:=⟨rfl,hM,fun b o e=>vw e,Nat.le_of_eq (pM _ _),trivial,fun b hb=>absurd (show b∈([]:List Addr)from hb) (by simp),hok,.of_eq hg⟩
  refine LS ((F _ hKb (nsK hns)).run Nm [] s₁ H ⟨[.ref a],[]⟩ [.ref a] [.ref a] _ _ hr e0 (hbind s₁ (.ref a)) (.cons rfl .nil) (hsp H hO hS)) fun r s' h=>?_
  cases r with
  | error e=>exact(hCX H e s' h).elim
  | ok fl =>
    cases fl with
    | next=>exact Jb h
    | brk=>exact Jb h
    | cont=>exact Jb h
    | ret u =>
      obtain⟨v,H',os,bare,un,hok',r',q⟩:=h
      have q':v = .bl true:=q
      subst q'
      obtain rfl:u=ML true:=r'
      refine⟨rfl,OldK.of_keep fun b o e=>?_,os,bare⟩
      cases q:H b with
      | none=>exact un.keep b o e q (by intro z;exact absurd (show b∈([]:List Addr)from z) (by simp)) (by simp)
      | some u =>
        rcases hO b with z|⟨ob,xs,z⟩
        · rw[q]at z;cases z
        · have z2:=un.frzs b ob _ z
          obtain⟨e1,_⟩:=hok b _ z
          obtain⟨e2,_⟩:=hok' b _ z2
          rw[e]at e1;cases e1
          exact e2
 cases hk:K.lookup a with
 | some o =>
   have e:=KX a o hk
   rw[ha]at e
   cases e
   refine core (fun _=>none) (fun _=>.inl rfl) (.inr ⟨_,vs.toArray,_,hk,rfl,rfl,rfl,by rw[HL,lenV];exact hl,by simpa using rv⟩) (fun b u z=>by have z':(none:Option HO)=some u:=z;cases z') (fun b z=>absurd rfl z) fun z=>absurd rfl z
 | none =>
   refine core (fun b=>if b=a then some (.frz {cls:=.type "list", data:=.seq vs.toArray} (.lst (ns.map V.int)))else none) (fun b=>?_) (.inl (.inr ⟨{cls:=.type "list", data:=.seq vs.toArray},if_pos rfl⟩)) (fun b u z=>?_) (fun b z=>?_) fun _=>hk
   · by_cases hb:b=a
     · exact .inr ⟨_,_,if_pos hb⟩
     · exact .inl (if_neg hb)
   · by_cases hb:b=a
     · have z':=(if_pos hb).symm.trans z
       cases z'
       subst hb
       exact⟨ha,by rw[Hu];exact hl,vs,_,rv,ha⟩
     · have z':=(if_neg hb).symm.trans z
       cases z'
   · by_cases hb:b=a
     · exact hb
     · exact absurd (if_neg hb) z
theorem walk_of{l:W.OpenLaw}{k:Nat}{q:Ij}{YP:IV->Heap->Prop}{d:DefRec}{K:NO->W.Frag}{CX:IV->G7}{sp:IV->Sp}
 (hn:l.most=some n)(hn2:n<=sizeLine)(hdf:d.params.defaults=[])(hr:Room k Nm)
 (hY:∀(w:IV)(h:Heap),YP w h->(K w.params).In h)
 (F:∀(w:IV)(mg:Str->Option Hq)(fa:Addr)(h:Heap),(K w.params).In h->h.Ns II mg->mg d.name=some (.ref fa) ->
  ∃ fd:Ko,(∀(s:Hv)(u:Hq),ND s fd ⟨[u],[]⟩ [(x,u)]) /\
    ∀base:Heap,(K w.params).In base->base.Ns II mg->FnOk l.prog w (K w.params) mg base (CX w) k fa fd [x] (sp w))
 (hsp:∀(w:IV)(H:Hp)(a:Addr)(ns:List Int),ns.length<=n->Bo H->Gr (K w.params) H a (ns.map V.int)->sp w [.ref a] H (fun v _=>v = .bl true) fun _ _ _=>False)
 (hCX:∀(w:IV)(H:Hp)(s:Hv)(e:Hq)(s':Hv),CX w [] H s (fun _ _ _=>False) e s'->False) :
 W.WalkO q loose XP YP l.row.toRowW d [] (fun f vs=>PySem.call f vs):=by
 refine Att.attach_call hn hdf fun w s₀ s₁ mg mb fa o pm cd doc a vs ns G Y ho hd hcd hmg hobj hints hlen hg=>?_
 have KX:=hY w _ Y
 obtain⟨fd,hb,hF⟩:=F w mg fa _ KX G.T.g hmg
 exact rK KX G.T.g G.T.b G.T.builtins G.T.nolimit hg hobj hints (HX hlen hn2) hr hF hb (fun H hO hS=>hsp w H a ns hlen hO hS) fun H e s'=>hCX w H s₁ e s'
abbrev G8:G7:=fun _ _ _ _ _ _=>False
abbrev E0:XK:=fun _ _ _=>False
theorem ro:qv G8 X E0:=fun _ _ _ _ _ _ _ h=>h.elim
structure Fun (K:W.Frag) (x qual:Str) (st:Stmt) (f:Addr) (fd:Ko):Prop where
 ex:∃(oc:Hq)(od:Option Addr)(kV doc pm:Hq)(an:Option Addr)(cdv ct:Hq)(osl:Array (Option Hq)),
  fd=W.fnOf x qual (defArgs st) (defBody st) (defScope st) .none kV doc pm an cdv ct/\K.lookup f=some ⟨oc,od,.func fd,osl⟩/\W.codeIn K cdv qual=true
 kp:W.keepIn K (.ref f)=true
section
variable{P:Ij}{w:IV}{K:W.Frag}{mg:Str->Option Hq}{base:Heap}
theorem Fun.ok{st:Stmt}{f:Addr}{ps:List Str}{k:Nat}{sp:Sp}(F:Fun K x qual st f fd)(S:FnScope N ps (defScope st))(len:∀vs H Q E,sp vs H Q E->vs.length=ps.length)
 (hbody:∀(cdv:Hq)(A:IU)(outer:List Env)(s:Hv)(H:Hp)(vs:List V)(Q:VK)(E:XK),Room k (A.deeper (Mh qual (defScope st) s.heap.objs.size f cdv))->sp vs H Q E ->
  ∃t,GE (p5 G8 P w K mg base N qual (defScope st) f cdv A outer s H E).nox (defBody st) t/\t {nx:=fun _ H'=>Q .non H',rt:=Q} (start N vs) H):FnOk P w K mg base G8 (k+1) f fd ps sp:=by
 obtain⟨oc,od,kV,doc,pm,an,cdv,ct,osl,rfl,lk,hcd⟩:=F.ex
 refine Bk lk hcd S len fun A outer s H vs Q E hr hsp=>?_
 obtain⟨t,h,q⟩:=hbody cdv A outer s H vs Q E hr hsp
 exact⟨t,h.nox,q⟩
theorem Fun.binds{st:Stmt}{f:Addr}{ps:List Str}(F:Fun K x qual st f fd)
 (h:∀(kV doc pm:Hq)(an:Option Addr)(cdv ct:Hq)(us:List Hq),us.length=ps.length->bindArgs (W.fnOf x qual (defArgs st) (defBody st) (defScope st) .none kV doc pm an cdv ct) ⟨us,[]⟩=pure (ps.zip us)):Binds K fd ps []:=by
 obtain⟨oc,od,kV,doc,pm,an,cdv,ct,osl,rfl,lk,hcd⟩:=F.ex
 exact .all (h kV doc pm an cdv ct)
theorem pO{st:Stmt}{f:Addr}{oc:Hq}{od an:Option Addr}{osl:Array (Option Hq)}{kV doc pm cdv ct:Hq}(l:K.lookup f=some ⟨oc,od,.func (W.fnOf x qual (defArgs st) (defBody st) (defScope st) .none kV doc pm an cdv ct),osl⟩)
 (c:W.codeIn K cdv qual=true)(k:W.keepIn K (.ref f)=true):Fun K x qual st f (W.fnOf x qual (defArgs st) (defBody st) (defScope st) .none kV doc pm an cdv ct):=⟨⟨oc,od,kV,doc,pm,an,cdv,ct,osl,rfl,l,c⟩,k⟩
end
theorem rN{k:Nat}(hr:Room k A):A.units+1<Mn:=J6 (Nat.add_le_add_left (by decide:1<=64) _) hr.units
theorem oi(h:n<=1000):n<sizeLine:=J6 h (by decide)
section
variable{X:Cx}
end
noncomputable def bL(H H':Hp):Prop:=∀b o,H b=some o->H' b=some o
theorem bL.refl(H:Hp):bL H H:=fun _ _ h=>h
theorem bL.trans{H1 H2:Hp}(a:bL H H1)(b:bL H1 H2):bL H H2:=fun c o h=>b c o (a c o h)
theorem bL.free(e:bL H H'){l:Addr}(h:H' l=Option.none):H l=Option.none:=by
 cases q:H l with
 | none=>rfl
 | some o =>
   rw[e l o q]at h
   cases h
section
variable{X:Cx}
end
section
variable{κ:Type}[DecidableEq κ]
end
end L2
namespace L2.VL
structure RlT where
 a:Option Addr
 b:Nat×List Int
abbrev RlT.no:RlT:=⟨none,(0,[])⟩
abbrev RlT.at'(r:Addr)(b:Nat×List Int):RlT:=⟨some r,b⟩
noncomputable def RO(c:Nat×List Int)(F:Hp)(o:HO):Prop:=∃(a l t:Int),o = .dK [(IC "cells", .ref c.1),(IC "at", .int a),(IC "left", .int l),(IC "turn", .int t)]/\F c.1=some (.lst (c.2.map V.int))/\c.2.length<=63/\0<=a/\0<=l/\0<=t
theorem RO.mono{c:Nat×List Int}{o:HO}(s:bL F F')(h:RO c F o):RO c F' o:=by
 obtain⟨a,l,t,e,q,r⟩:=h
 exact⟨a,l,t,e,s _ _ q,r⟩
mutual
inductive Rep (K:W.Frag) (F:Hp):V->Hh->Prop
 | non:Rep K F .non .none
 | bl (b:Bool):Rep K F (.bl b) (.bool b)
 | int (i:Int):Rep K F (.int i) (.int i)
 | str (x:Str):Rep K F (.str x) (.str x)
 | tup {a:Addr} {vs:List V} {ds:List Hh}:Gq K F a vs->Reps K F vs ds->Rep K F (.ref a) (.tuple ds)
 | lst {a:Addr} {vs:List V} {ds:List Hh}:F a=some (.lst vs)->Reps K F vs ds->Rep K F (.ref a) (.list ds)
inductive Reps (K:W.Frag) (F:Hp):List V->List Hh->Prop
 | nil:Reps K F [] []
 | cons {v:V} {d:Hh} {vs:List V} {ds:List Hh}:Rep K F v d->Reps K F vs ds->Reps K F (v::vs) (d::ds)
end
theorem eI{K:W.Frag}{xs:List V}(e:bL H H')(h:Gq K H a xs):Gq K H' a xs:=by
 rcases h with(h|⟨o,h⟩)|h
 · exact .inl (.inl (e _ _ h))
 · exact .inl (.inr ⟨o,e _ _ h⟩)
 · exact .inr h
theorem qR{K:W.Frag}{xs:List V}(e:bL H H')(h:Gr K H a xs):Gr K H' a xs:=by
 rcases h with(h|⟨o,h⟩)|h
 · exact .inl (.inl (e _ _ h))
 · exact .inl (.inr ⟨o,e _ _ h⟩)
 · exact .inr h
mutual
theorem Rep.mono{K:W.Frag}{F F':Hp}(s:bL F F'):∀{v:V}{d:Hh},Rep K F v d->Rep K F' v d
 | _,_,.non=>.non
 | _,_,.bl b=>.bl b
 | _,_,.int i=>.int i
 | _,_,.str x=>.str x
 | _,_,.tup h r=>.tup (eI s h) (Reps.mono s r)
 | _,_,.lst h r=>.lst (s _ _ h) (Reps.mono s r)
theorem Reps.mono{K:W.Frag}{F F':Hp}(s:bL F F'):∀{vs:List V}{ds:List Hh},Reps K F vs ds->Reps K F' vs ds
 | _,_,.nil=>.nil
 | _,_,.cons h r=>.cons (Rep.mono s h) (Reps.mono s r)
end
theorem Reps.length{K:W.Frag}{F:Hp}:∀{vs:List V}{ds:List Hh},Reps K F vs ds->vs.length=ds.length
 | _,_,.nil=>rfl
 | _,_,.cons _ r=>by simp[Reps.length r]
theorem Reps.get{K:W.Frag}{F:Hp}:∀{vs:List V}{ds:List Hh}{i:Nat}{d:Hh},Reps K F vs ds->ds[i]?=some d->∃v,vs[i]?=some v/\Rep K F v d
 | _,_,_,_,.nil,e=>by simp at e
 | _,_,0,_,.cons h _,e=>by simp at e;subst e;exact⟨_,rfl,h⟩
 | _,_,i+1,d,.cons _ r,e=>by
   obtain⟨v,h1,h2⟩:=Reps.get (i:=i) (d:=d) r (by simpa using e)
   exact⟨v,by simpa using h1,h2⟩
theorem Reps.append{K:W.Frag}{F:Hp}:∀{vs us:List V}{ds es:List Hh},Reps K F vs ds->Reps K F us es->Reps K F (vs++us) (ds++es)
 | _,_,_,_,.nil,s=>s
 | _,_,_,_,.cons h r,s=>.cons h (Reps.append r s)
theorem Reps.snoc{K:W.Frag}{ds:List Hh}(r:Reps K F vs ds)(h:Rep K F v d):Reps K F (vs++[v]) (ds++[d]):=r.append (.cons h .nil)
theorem Reps.take{K:W.Frag}{F:Hp}:∀{vs:List V}{ds:List Hh}(n:Nat),Reps K F vs ds->Reps K F (vs.take n) (ds.take n)
 | _,_,0,_=>.nil
 | _,_,_+1,.nil=>.nil
 | _,_,n+1,.cons h r=>.cons h (Reps.take n r)
theorem Reps.drop{K:W.Frag}{F:Hp}:∀{vs:List V}{ds:List Hh}(n:Nat),Reps K F vs ds->Reps K F (vs.drop n) (ds.drop n)
 | _,_,0,r=>r
 | _,_,_+1,.nil=>.nil
 | _,_,n+1,.cons _ r=>Reps.drop n r
theorem Reps.nil_iff{K:W.Frag}(h:Reps K F vs []):vs=[]:=by cases h;rfl
mutual
theorem Rep.reads{X:Cx}{pins:List (Addr×Obj)}{σ:St}{H F:Hp}{s:Hv}(I:Inv X pins σ H s)(sub:bL F H):∀{v:V}{d:Hh},Rep X.K F v d->∀u,RelV v u->∃as,Reads s.heap u d as
 | _,_,.non,u,r=>by cases(show u=K_ from r);exact⟨_,.none⟩
 | _,_,.bl b,u,r=>by cases(show u=ML b from r);exact⟨_,.bool b⟩
 | _,_,.int i,u,r=>by obtain⟨t,q⟩:=(show ∃t,u=L3 i t from r);cases q;exact⟨_,.int i t⟩
 | _,_,.str x,u,r=>by obtain⟨t,q⟩:=(show ∃t,u=Mv x t from r);cases q;exact⟨_,.str x t⟩
 | _,_,.tup (a:=a) h q,u,r=>by
   cases(show u=JV a from r)
   obtain⟨its,rv,⟨o,h1,h2,n,h3⟩,hz⟩:=I.tuple (eI sub h)
   obtain⟨as,ra⟩:=Reps.reads I sub q its rv
   exact⟨_,.tuple h1 h2 h3 (by simpa using ra)⟩
 | _,_,.lst (a:=a) h q,u,r=>by
   cases(show u=JV a from r)
   obtain⟨its,rv,p,hz⟩:=I.list (.inl (.inl (sub _ _ h)))
   obtain⟨o,h1,h2,n,h3⟩:=p.isList
   obtain⟨as,ra⟩:=Reps.reads I sub q its rv
   exact⟨_,.list h1 h2 h3 (by simpa using ra)⟩
theorem Reps.reads{X:Cx}{pins:List (Addr×Obj)}{σ:St}{H F:Hp}{s:Hv}(I:Inv X pins σ H s)(sub:bL F H):∀{vs:List V}{ds:List Hh},Reps X.K F vs ds->∀us,cz vs us->∃as,ReadsAll s.heap us ds as
 | _,_,.nil,us,r=>by cases r;exact⟨_,.nil⟩
 | _,_,.cons h q,us,r=>by
   cases r with
   | cons r1 r2 =>
     obtain⟨as,a1⟩:=Rep.reads I sub h _ r1
     obtain⟨bs,a2⟩:=Reps.reads I sub q _ r2
     exact⟨_,.cons a1 a2⟩
end
structure ReelOk (b:Nat×List Int) (F H:Hp) (r:Addr):Prop where
 ex:∃o,H r=some o/\RO b F o
noncomputable def Gz(rl:RlT)(F H:Hp):Prop:=∀r,rl.a=some r->F r=none/\ReelOk rl.b F H r
theorem Gz.live{rl:RlT}(h:Gz rl F H){r:Addr}(e:rl.a=some r):∃o,H r=some o:=by
 obtain⟨_,⟨o,q,_⟩⟩:=h r e
 exact⟨_,q⟩
structure Grow (rl:RlT) (F H F' H':Hp):Prop where
 same:∀b o,H b=some o->rl.a≠some b->H' b=some o
 fs:bL F F'
 sub:bL F' H'
 old:∀b o,H b=some o->F' b=F b
 reel:Gz rl F' H'
theorem Grow.refl{rl:RlT}{F H:Hp}(s:bL F H)(r:Gz rl F H):Grow rl F H F H:=⟨fun _ _ e _=>e,.refl F,s,fun _ _ _=>rfl,r⟩
theorem Grow.live{rl:RlT}{F H F' H':Hp}(g:Grow rl F H F' H'){b:Addr}{o:HO}(e:H b=some o):∃o',H' b=some o':=by
 by_cases h:rl.a=some b
 · exact g.reel.live h
 · exact⟨o,g.same b o e h⟩
theorem Grow.trans{rl:RlT}{F H F1 H1 F2 H2:Hp}(a:Grow rl F H F1 H1)(b:Grow rl F1 H1 F2 H2):Grow rl F H F2 H2 :=
 ⟨fun c o e n=>b.same c o (a.same c o e n) n,a.fs.trans b.fs,b.sub,fun c o e=>by obtain⟨o',e'⟩:=a.live e;rw[b.old c o' e',a.old c o e],b.reel⟩
theorem Grow.freeB{rl:RlT}(g:Grow rl F H F' H')(e:H' b=none):H b=none:=by
 cases q:H b with
 | none=>rfl
 | some o=>obtain⟨o',e'⟩:=g.live q;rw[e]at e';cases e'
theorem Grow.laid{rl:RlT}{o:HO}(s:bL F H)(r:Gz rl F H)(n:H a=none):Grow rl F H F (D8 H a o):=by
 have ne:∀b u,H b=some u->b≠a:=fun b u e=>aX e n
 refine⟨fun b u e _=>by rw[am (ne b u e)];exact e,.refl F,fun b u e=>by rw[am (ne b u (s b u e))];exact s b u e,fun _ _ _=>rfl,fun q e=>?_⟩
 obtain⟨z,⟨u,h1,h2⟩⟩:=r q e
 exact⟨z,⟨u,by rw[am (ne _ _ h1)];exact h1,h2⟩⟩
theorem Grow.data{rl:RlT}{o:HO}(s:bL F H)(r:Gz rl F H)(n:H a=none):Grow rl F H (D8 F a o) (D8 H a o):=by
 have ne:∀b u,H b=some u->b≠a:=fun b u e=>aX e n
 have neF:∀b u,F b=some u->b≠a:=fun b u e=>ne b u (s b u e)
 refine⟨fun b u e _=>by rw[am (ne b u e)];exact e,fun b u e=>by rw[am (neF b u e)];exact e,fun b u e=>?_,fun b u e=>by rw[am (ne b u e)],fun q e=>?_⟩
 · by_cases hb:b=a
   · subst hb;rw[au]at e ⊢;exact e
   · rw[am hb]at e ⊢;exact s b u e
 · obtain⟨z,⟨u,h1,h2⟩⟩:=r q e
   exact⟨by rw[am (ne _ _ h1)];exact z,⟨u,by rw[am (ne _ _ h1)];exact h1,RO.mono (fun b u e=>by rw[am (neF b u e)];exact e) h2⟩⟩
theorem Grow.freeze{rl:RlT}{F1 H1:Hp}{o:HO}(g:Grow rl F H F1 H1)(n:H a=none)(e:H1 a=some o)(f:F1 a=none)(hr:rl.a≠some a):Grow rl F H (D8 F1 a o) H1:=by
 have neF:∀b u,F1 b=some u->b≠a:=fun b u q z=>by subst z;rw[f]at q;cases q
 refine⟨g.same,fun b u q=>by rw[am (neF b u (g.fs b u q))];exact g.fs b u q,fun b u q=>?_,fun b u q=>by rw[am (aX q n)];exact g.old b u q,fun q z=>?_⟩
 · by_cases hb:b=a
   · subst hb;rw[au]at q;rw[e];exact q
   · rw[am hb]at q;exact g.sub b u q
 · obtain⟨z1,⟨u,h1,h2⟩⟩:=g.reel q z
   exact⟨by rw[am (fun y=>hr (by rw[<- y];exact z))];exact z1,⟨u,h1,RO.mono (fun b u e=>by rw[am (neF b u e)];exact e) h2⟩⟩
inductive W where
 | d (x:Hh)
 | ml (xs:List Hh)
 | pk (xs:List Hh)
 | reel
 | vv (v:V)
 | md (kvs:List (List GU×Hh))
 | mk (kvs:List (GU×Hh))
 | nt (ds:List Hh)
 | lk
 | sc (ns:List Int)
 | fd (kvs:List (GU×Hh))
 | fw (kvs:List (GU×Hh))
 | ft (kvs:List (List GU×Hh))
 | xc (x:Str) (fs:List (Str×Hh))
 | dp (kvs:List (GU×Hh)) (x:Hh)
noncomputable def W.dat:W->Option Hh
 | .d x=>some x
 | .ml xs=>some (.list xs)
 | .pk xs=>some (.list xs)
 | .nt ds=>some (.tuple ds)
 | _=>none
noncomputable def W.peek:W->W
 | .ml xs=>.pk xs
 | .md _=>.lk
 | .mk _=>.lk
 | w=>w
noncomputable def W.own:W->Bool
 | .ml _=>true
 | .md _=>true
 | .mk _=>true
 | _=>false
abbrev KD(K:W.Frag)(F:Hp):List (List GU×V)->List (List GU×Hh)->Prop:=IQ fun p q=>p.1=q.1/\Rep K F p.2 q.2
abbrev GW(K:W.Frag)(F:Hp):List (GU×V)->List (GU×Hh)->Prop:=IQ fun p q=>p.1=q.1/\Rep K F p.2 q.2
abbrev GV(K:W.Frag)(F:Hp):List (Str×V)->List (Str×Hh)->Prop:=IQ fun p q=>p.1=q.1/\Rep K F p.2 q.2
noncomputable def Bp(e C dx:Addr):Heap->Prop:=fun h=>∃oe vs,h.get? e=some oe/\oe.cls = .ref C/\oe.dict=some dx/\oe.data = .fields vs
noncomputable def wH(K:W.Frag)(rl:RlT)(F H:Hp)(v:V)(kvs:List (List GU×Hh)):Prop:=∃a us,v = .ref a/\F a=none/\rl.a≠some a/\H a=some (.dT us)/\KD K F us kvs
noncomputable def wG(K:W.Frag)(rl:RlT)(F H:Hp)(v:V)(kvs:List (GU×Hh)):Prop:=∃a us,v = .ref a/\F a=none/\rl.a≠some a/\H a=some (.dK us)/\GW K F us kvs
noncomputable def gZ(K:W.Frag)(rl:RlT)(F H:Hp)(v:V)(xs:List Hh):Prop:=∃a vs,v = .ref a/\F a=none/\rl.a≠some a/\H a=some (.lst vs)/\Reps K F vs xs
noncomputable def di(K:W.Frag)(rl:RlT)(F H:Hp)(v:V):W->Prop
 | .d x=>Rep K F v x
 | .ml xs=>gZ K rl F H v xs
 | .pk xs=>gZ K rl F H v xs
 | .reel=>∃r,rl.a=some r/\v = .ref r
 | .vv u=>v=u
 | .md kvs=>wH K rl F H v kvs
 | .mk kvs=>wG K rl F H v kvs
 | .nt ds=>∃a vs,v = .ref a/\F a=some (.tup vs)/\Reps K F vs ds
 | .lk=>True
 | .sc ns=>∃a,v = .ref a/\Gr K F a (ns.map V.int)
 | .fd kvs=>∃a us,v = .ref a/\F a=some (.dK us)/\GW K F us kvs
 | .fw kvs=>∃a us o,v = .ref a/\F a=some (.frz o (.dK us))/\GW K F us kvs
 | .ft kvs=>∃a us o,v = .ref a/\F a=some (.frz o (.dT us))/\KD K F us kvs
 | .xc x fs=>∃e dx us C,v = .ref e/\W.nsIn K II x=some (some (.ref C))/\F e=some (.ext (Bp e C dx))/\F dx=some (.xd us)/\GV K F us fs
 | .dp kvs x=>∃a b us u o,v = .ref a/\F a=some (.tup [.ref b,u])/\F b=some (.frz o (.dK us))/\GW K F us kvs/\Rep K F u x
theorem wH.grow{K:W.Frag}{rl:RlT}{kvs:List (List GU×Hh)}(g:Grow rl F H F' H')(r:wH K rl F H v kvs):wH K rl F' H' v kvs:=by
 obtain⟨a,us,rfl,h1,h2,h3,h4⟩:=r
 exact⟨a,us,rfl,by rw[g.old a _ h3];exact h1,h2,g.same a _ h3 h2,IQ.mapP h4 fun _ _ z=>⟨z.1,z.2.mono g.fs⟩⟩
theorem wG.grow{K:W.Frag}{rl:RlT}{kvs:List (GU×Hh)}(g:Grow rl F H F' H')(r:wG K rl F H v kvs):wG K rl F' H' v kvs:=by
 obtain⟨a,us,rfl,h1,h2,h3,h4⟩:=r
 exact⟨a,us,rfl,by rw[g.old a _ h3];exact h1,h2,g.same a _ h3 h2,IQ.mapP h4 fun _ _ z=>⟨z.1,z.2.mono g.fs⟩⟩
theorem gZ.grow{K:W.Frag}{rl:RlT}(g:Grow rl F H F' H')(r:gZ K rl F H v xs):gZ K rl F' H' v xs:=by
 obtain⟨a,vs,rfl,h1,h2,h3,h4⟩:=r
 exact⟨a,vs,rfl,by rw[g.old a _ h3];exact h1,h2,g.same a _ h3 h2,h4.mono g.fs⟩
theorem di.grow{K:W.Frag}{rl:RlT}{F H F' H':Hp}{v:V}{w:W}(g:Grow rl F H F' H')(r:di K rl F H v w):di K rl F' H' v w:=by
 cases w with
 | d x=>exact Rep.mono g.fs r
 | ml xs=>exact gZ.grow g r
 | pk xs=>exact gZ.grow g r
 | reel=>exact r
 | vv u=>exact r
 | md kvs=>exact wH.grow g r
 | mk kvs=>exact wG.grow g r
 | nt ds=>obtain⟨a,vs,e,h,q⟩:=r;exact⟨a,vs,e,g.fs _ _ h,q.mono g.fs⟩
 | lk=>trivial
 | sc ns=>obtain⟨a,e,h⟩:=r;exact⟨a,e,qR g.fs h⟩
 | fd kvs=>obtain⟨a,us,e,h,q⟩:=r;exact⟨a,us,e,g.fs _ _ h,IQ.mapP q fun _ _ z=>⟨z.1,z.2.mono g.fs⟩⟩
 | fw kvs=>obtain⟨a,us,o,e,h,q⟩:=r;exact⟨a,us,o,e,g.fs _ _ h,IQ.mapP q fun _ _ z=>⟨z.1,z.2.mono g.fs⟩⟩
 | ft kvs=>obtain⟨a,us,o,e,h,q⟩:=r;exact⟨a,us,o,e,g.fs _ _ h,IQ.mapP q fun _ _ z=>⟨z.1,z.2.mono g.fs⟩⟩
 | xc _ _=>obtain⟨a,dx,us,C,e,n,h1,h2,q⟩:=r;exact⟨a,dx,us,C,e,n,g.fs _ _ h1,g.fs _ _ h2,IQ.mapP q fun _ _ z=>⟨z.1,z.2.mono g.fs⟩⟩
 | dp _ _=>obtain⟨a,b,us,u,o,e,h1,h2,q,z⟩:=r;exact⟨a,b,us,u,o,e,g.fs _ _ h1,g.fs _ _ h2,IQ.mapP q fun _ _ z=>⟨z.1,z.2.mono g.fs⟩,z.mono g.fs⟩
theorem di.peek{K:W.Frag}{rl:RlT}{w:W}(r:di K rl F H v w):di K rl F H v w.peek:=by cases w<;>first|exact r|trivial
theorem gZ.rep{K:W.Frag}{rl:RlT}(s:bL F H)(r:gZ K rl F H v xs):Rep K H v (.list xs):=by
 obtain⟨a,vs,rfl,h1,h2,h3,h4⟩:=r
 exact .lst h3 (h4.mono s)
theorem di.dat{K:W.Frag}{rl:RlT}{w:W}{x:Hh}(s:bL F H)(r:di K rl F H v w)(e:w.dat=some x):Rep K H v x:=by
 cases w with
 | d y=>cases e;exact Rep.mono s r
 | ml xs=>cases e;exact gZ.rep s r
 | pk xs=>cases e;exact gZ.rep s r
 | reel=>cases e
 | vv u=>cases e
 | md kvs=>cases e
 | mk kvs=>cases e
 | nt ds=>cases e;obtain⟨a,vs,rfl,h,q⟩:=r;exact .tup (.inl (.inl (s _ _ h))) (q.mono s)
 | lk=>cases e
 | sc _=>cases e
 | fd _=>cases e
 | fw _=>cases e
 | ft _=>cases e
 | xc _ _=>cases e
 | dp _ _=>cases e
theorem di.items{K:W.Frag}{rl:RlT}{w:W}(s:bL F H)(r:di K rl F H v w)(e:w.dat=some (.list xs)):∃a vs,v = .ref a/\Gr K H a vs/\Reps K F vs xs:=by
 have own:gZ K rl F H v xs->∃a vs,v = .ref a/\Gr K H a vs/\Reps K F vs xs:=fun⟨a,vs,e1,_,_,e2,e3⟩=>⟨a,vs,e1,.inl (.inl e2),e3⟩
 cases w with
 | d y =>
   cases e
   cases(show Rep K F v (.list xs)from r)with
   | lst h q=>exact⟨_,_,rfl,.inl (.inl (s _ _ h)),q⟩
 | ml ys=>cases e;exact own r
 | pk ys=>cases e;exact own r
 | reel=>cases e
 | vv u=>cases e
 | md kvs=>cases e
 | mk kvs=>cases e
 | nt ds=>cases e
 | lk=>cases e
 | sc _=>cases e
 | fd _=>cases e
 | fw _=>cases e
 | ft _=>cases e
 | xc _ _=>cases e
 | dp _ _=>cases e
theorem di.itemsT{K:W.Frag}{rl:RlT}{w:W}(s:bL F H)(r:di K rl F H v w)(e:w.dat=some (.tuple xs)):∃a vs,v = .ref a/\Gq K H a vs/\Reps K F vs xs:=by
 cases w with
 | d y =>
   cases e
   cases(show Rep K F v (.tuple xs)from r)with
   | tup h q=>exact⟨_,_,rfl,eI s h,q⟩
 | ml ys=>cases e
 | pk ys=>cases e
 | reel=>cases e
 | vv u=>cases e
 | md kvs=>cases e
 | mk kvs=>cases e
 | nt ds=>cases e;obtain⟨a,vs,rfl,h,q⟩:=r;exact⟨a,vs,rfl,.inl (.inl (s _ _ h)),q⟩
 | lk=>cases e
 | sc _=>cases e
 | fd _=>cases e
 | fw _=>cases e
 | ft _=>cases e
 | xc _ _=>cases e
 | dp _ _=>cases e
noncomputable def dj(H:Hp)(v:V):W->Prop
 | .ml _=>∀a,v = .ref a->H a=none
 | .md _=>∀a,v = .ref a->H a=none
 | .mk _=>∀a,v = .ref a->H a=none
 | _=>True
theorem di.live{K:W.Frag}{rl:RlT}{w:W}(r:di K rl F H v w)(h:w.own=true):∃a o,v = .ref a/\H a=some o:=by
 cases w with
 | ml xs=>obtain⟨a,vs,e,_,_,hh,_⟩:=r;exact⟨a,_,e,hh⟩
 | md xs=>obtain⟨a,vs,e,_,_,hh,_⟩:=r;exact⟨a,_,e,hh⟩
 | mk xs=>obtain⟨a,vs,e,_,_,hh,_⟩:=r;exact⟨a,_,e,hh⟩
 | _=>cases h
theorem dj.none{w:W}(n:dj H v w)(h:w.own=true)(e:v = .ref a):H a=none:=by
 cases w with
 | ml xs=>exact n a e
 | md xs=>exact n a e
 | mk xs=>exact n a e
 | _=>cases h
abbrev En:=List (Option W)
structure VR (K:W.Frag) (rl:RlT) (F₀ H₀ F H:Hp) (σ:St) (ρ:En):Prop where
 g:Grow rl F₀ H₀ F H
 sl:∀(i:Nat) w,ρ[i]?=some (some w)->∃v,σ[i]?=some (some v)/\di K rl F H v w/\dj H₀ v w
 ap:∀(i j:Nat)(x y:W) v,i≠j->ρ[i]?=some (some x)->ρ[j]?=some (some y)->x.own=true->y.own=true->σ[i]?=some (some v)->σ[j]?=some (some v)->False
 np:∀(i:Nat) xs,ρ[i]?≠some (some (W.pk xs))
 len:ρ.length=σ.length
section
variable{K:W.Frag}{rl:RlT}{F₀ H₀ F H F' H':Hp}{σ:St}{ρ:En}
theorem VR.sub(r:VR K rl F₀ H₀ F H σ ρ):bL F H:=r.g.sub
theorem VR.reel(r:VR K rl F₀ H₀ F H σ ρ):Gz rl F H:=r.g.reel
theorem VR.grow(r:VR K rl F₀ H₀ F H σ ρ)(g:Grow rl F H F' H'):VR K rl F₀ H₀ F' H' σ ρ :=
 ⟨r.g.trans g,fun i w e=>let ⟨v,e1,e2,e3⟩:=r.sl i w e;⟨v,e1,e2.grow g,e3⟩,r.ap,r.np,r.len⟩
theorem VR.set(r:VR K rl F₀ H₀ F H σ ρ){H1 F1:Hp}(g:Grow rl F H F1 H1){w:W}(rw':di K rl F1 H1 v w)(hn:dj H v w)(hp:∀xs,w ≠ .pk xs)(i:Nat):VR K rl F₀ H₀ F1 H1 (σ.set i (some v)) (ρ.set i (some w)):=by
 have r1:=r.grow g
 refine⟨r1.g,fun j w' e=>?_,fun j k xs ys u hjk e1 e2 w1 w2 s1 s2=>?_,fun j xs z=>?_,by simp[r.len]⟩
 · by_cases hj:i=j
   · subst hj
     have hi:i<ρ.length:=by
      rw[Jc]at e
      by_cases hi:i<ρ.length
      · exact hi
      · simp[hi]at e
     rw[Ii hi]at e
     cases e
     refine⟨v,by rw[Ii (by rw[<- r.len];exact hi)],rw',?_⟩
     cases w with
     | ml xs=>exact fun a ea=>r.g.freeB (hn a ea)
     | d x=>trivial
     | pk xs=>trivial
     | reel=>trivial
     | vv u=>trivial
     | md xs=>exact fun a ea=>r.g.freeB (hn a ea)
     | mk xs=>exact fun a ea=>r.g.freeB (hn a ea)
     | nt ds=>trivial
     | lk=>trivial
     | sc _=>trivial
     | fd _=>trivial
     | fw _=>trivial
     | ft _=>trivial
     | xc _ _=>trivial
     | dp _ _=>trivial
   · rw[Ib hj]at e
     obtain⟨u,h1,h2,h3⟩:=r1.sl j w' e
     exact⟨u,by rw[Ib hj];exact h1,h2,h3⟩
 · have key:∀(k:Nat)(x y:W),ρ[k]?=some (some y)->some (some w)=some (some x)->x.own=true->y.own=true->σ[k]?=some (some v)->False:=fun k x y d2 e1 o1 o2 s2=>by
     cases e1
     obtain⟨u',h1,h2,h3⟩:=r.sl k _ d2
     rw[s2]at h1
     cases h1
     obtain⟨a,o,ea,hh⟩:=h2.live o2
     rw[hn.none o1 ea]at hh
     cases hh
   by_cases hj:i=j
   · subst hj
     have hk:i≠k:=hjk
     have hi:i<ρ.length:=by
      rw[Jc]at e1
      by_cases hi:i<ρ.length
      · exact hi
      · simp[hi]at e1
     rw[Ii hi]at e1
     rw[Ib hk]at e2 s2
     rw[Ii (by rw[<- r.len];exact hi)]at s1
     cases s1
     exact key k xs ys e2 e1 w1 w2 s2
   · by_cases hk:i=k
     · subst hk
       have hi:i<ρ.length:=by
        rw[Jc]at e2
        by_cases hi:i<ρ.length
        · exact hi
        · simp[hi]at e2
       rw[Ii hi]at e2
       rw[Ib hj]at e1 s1
       rw[Ii (by rw[<- r.len];exact hi)]at s2
       cases s2
       exact key j ys xs e1 e2 w2 w1 s1
     · rw[Ib hj]at e1 s1
       rw[Ib hk]at e2 s2
       exact r.ap j k xs ys u hjk e1 e2 w1 w2 s1 s2
 · rw[Jc]at z
   split at z
   · split at z
     · exact hp xs (IJ (IJ z))
     · cases z
   · exact r.np j xs z
theorem VR.freeze(r:VR K rl F₀ H₀ F H σ ρ){i:Nat}{xs:List Hh}(e:ρ[i]?=some (some (.ml xs))):∃F1,VR K rl F₀ H₀ F1 H σ (ρ.set i (some (.d (.list xs)))):=by
 obtain⟨v,h1,h2,h3⟩:=r.sl i _ e
 obtain⟨a,vs,rfl,f,hr,hh,q⟩:=(show gZ K rl F H v xs from h2)
 have hi:i<ρ.length:=(HY.mp e).1
 have neF:∀b u,F b=some u->b≠a:=fun b u q z=>by subst z;rw[f]at q;cases q
 have fsm:bL F (D8 F a (.lst vs)):=fun b u z=>by rw[am (neF b u z)];exact z
 refine⟨D8 F a (.lst vs),r.g.freeze (h3 a rfl) hh f hr,fun j w e1=>?_,fun j k ys zs u hjk e1 e2 w1 w2 s1 s2=>?_,fun j ys z=>?_,by simp[r.len]⟩
 · by_cases hj:i=j
   · subst hj
     rw[Ii hi]at e1
     cases e1
     exact⟨.ref a,h1,.lst au (q.mono fsm),trivial⟩
   · rw[Ib hj]at e1
     obtain⟨u,g1,g2,g3⟩:=r.sl j w e1
     refine⟨u,g1,?_,g3⟩
     have own:∀ys,(∀zs,w = .ml zs->ys=zs)->gZ K rl F H u ys->(∃b,u = .ref b/\b≠a)->gZ K rl (D8 F a (.lst vs)) H u ys:=fun ys _ ⟨b,us,eb,f1,f2,f3,f4⟩ ⟨b',eb',ne⟩=>by
      rw[eb]at eb'
      cases eb'
      exact⟨b,us,eb,by rw[am ne];exact f1,f2,f3,f4.mono fsm⟩
     cases w with
     | d x=>exact Rep.mono fsm g2
     | reel=>exact g2
     | vv u=>exact g2
     | ml ys =>
       obtain⟨b,us,eb,f1,f2,f3,f4⟩:=(show gZ K rl F H u ys from g2)
       have ne:b≠a:=fun z=>r.ap i j _ _ (.ref a) hj e e1 rfl rfl h1 (by rw[g1,eb,z])
       exact⟨b,us,eb,by rw[am ne];exact f1,f2,f3,f4.mono fsm⟩
     | pk ys=>exact absurd e1 (r.np j ys)
     | md ys =>
       obtain⟨b,us,eb,f1,f2,f3,f4⟩:=(show wH K rl F H u ys from g2)
       have ne:b≠a:=fun z=>r.ap i j _ _ (.ref a) hj e e1 rfl rfl h1 (by rw[g1,eb,z])
       exact⟨b,us,eb,by rw[am ne];exact f1,f2,f3,IQ.mapP f4 fun _ _ z=>⟨z.1,z.2.mono fsm⟩⟩
     | mk ys =>
       obtain⟨b,us,eb,f1,f2,f3,f4⟩:=(show wG K rl F H u ys from g2)
       have ne:b≠a:=fun z=>r.ap i j _ _ (.ref a) hj e e1 rfl rfl h1 (by rw[g1,eb,z])
       exact⟨b,us,eb,by rw[am ne];exact f1,f2,f3,IQ.mapP f4 fun _ _ z=>⟨z.1,z.2.mono fsm⟩⟩
     | nt ds=>obtain⟨b,us,eb,f1,f2⟩:=g2;exact⟨b,us,eb,fsm _ _ f1,f2.mono fsm⟩
     | lk=>trivial
     | sc ns=>obtain⟨b,eb,f1⟩:=g2;exact⟨b,eb,qR fsm f1⟩
     | fd kvs=>obtain⟨b,us,eb,f1,f2⟩:=g2;exact⟨b,us,eb,fsm _ _ f1,IQ.mapP f2 fun _ _ z=>⟨z.1,z.2.mono fsm⟩⟩
     | fw kvs=>obtain⟨b,us,o,eb,f1,f2⟩:=g2;exact⟨b,us,o,eb,fsm _ _ f1,IQ.mapP f2 fun _ _ z=>⟨z.1,z.2.mono fsm⟩⟩
     | ft kvs=>obtain⟨b,us,o,eb,f1,f2⟩:=g2;exact⟨b,us,o,eb,fsm _ _ f1,IQ.mapP f2 fun _ _ z=>⟨z.1,z.2.mono fsm⟩⟩
     | xc _ _=>obtain⟨b,dx,us,C,eb,n,f1,f3,f2⟩:=g2;exact⟨b,dx,us,C,eb,n,fsm _ _ f1,fsm _ _ f3,IQ.mapP f2 fun _ _ z=>⟨z.1,z.2.mono fsm⟩⟩
     | dp _ _=>obtain⟨c,b,us,u,o,eb,f1,f3,f2,z⟩:=g2;exact⟨c,b,us,u,o,eb,fsm _ _ f1,fsm _ _ f3,IQ.mapP f2 fun _ _ z=>⟨z.1,z.2.mono fsm⟩,z.mono fsm⟩
 · have nd:∀(j:Nat)(y:W),(ρ.set i (some (W.d (.list xs))))[j]?=some (some y)->y.own=true->ρ[j]?=some (some y):=fun j y z o=>by
     by_cases hj:i=j
     · subst hj
       rw[Ii hi]at z
       cases z
       cases o
     · rw[Ib hj]at z
       exact z
   exact r.ap j k ys zs u hjk (nd j ys e1 w1) (nd k zs e2 w2) w1 w2 s1 s2
 · rw[Jc]at z
   split at z
   · first|cases z|(split at z<;>cases z)
   · exact r.np j ys z
end
abbrev TV:=En->(W->Prop)->Prop
abbrev TB:=En->(Bool->Prop)->Prop
abbrev Gi:=En->(List W->Prop)->Prop
abbrev fu(K:W.Frag)(rl:RlT)(F H:Hp):List V->List W->Prop:=IQ (di K rl F H)
noncomputable def PV(X:Cx)(rl:RlT)(e:Expr)(f:TV):Prop:=∃t,PE X e t/\∀{F₀ H₀ F H:Hp}{σ:St}{ρ:En},VR X.K rl F₀ H₀ F H σ ρ->∀(Qd:W->Prop)(Q:VK),f ρ Qd ->
 (∀v w F' H',Grow rl F H F' H'->di X.K rl F' H' v w->dj H v w->Qd w->Q v H')->t σ H Q
noncomputable def PB(X:Cx)(rl:RlT)(e:Expr)(f:TB):Prop:=∃t,PT X e t/\∀{F₀ H₀ F H:Hp}{σ:St}{ρ:En},VR X.K rl F₀ H₀ F H σ ρ->∀(Qd:Bool->Prop)(Q:Bool->Hp->Prop),f ρ Qd ->
 (∀b F' H',Grow rl F H F' H'->Qd b->Q b H')->t σ H Q
noncomputable def GB(X:Cx)(rl:RlT)(es:List Expr)(f:Gi):Prop:=∃t,PA X es t/\∀{F₀ H₀ F H:Hp}{σ:St}{ρ:En},VR X.K rl F₀ H₀ F H σ ρ->∀(Qd:List W->Prop)(Q:List V->Hp->Prop),f ρ Qd ->
 (∀vs ws F' H',Grow rl F H F' H'->fu X.K rl F' H' vs ws->Qd ws->Q vs H')->t σ H Q
noncomputable def W.fz:W->W
 | .ml xs=>.d (.list xs)
 | .nt ds=>.d (.tuple ds)
 | w=>w
theorem di.fz{K:W.Frag}{rl:RlT}{F1 H1:Hp}{w:W}(g:Grow rl F H F1 H1)(r:di K rl F1 H1 v w)(n:dj H v w):∃F2,Grow rl F H F2 H1/\bL F1 F2/\di K rl F2 H1 v w.fz:=by
 cases w with
 | d x=>exact⟨F1,g,.refl _,r⟩
 | pk xs=>exact⟨F1,g,.refl _,r⟩
 | reel=>exact⟨F1,g,.refl _,r⟩
 | vv u=>exact⟨F1,g,.refl _,r⟩
 | md u=>exact⟨F1,g,.refl _,r⟩
 | mk u=>exact⟨F1,g,.refl _,r⟩
 | lk=>exact⟨F1,g,.refl _,r⟩
 | sc _=>exact⟨F1,g,.refl _,r⟩
 | fd _=>exact⟨F1,g,.refl _,r⟩
 | fw _=>exact⟨F1,g,.refl _,r⟩
 | ft _=>exact⟨F1,g,.refl _,r⟩
 | xc _ _=>exact⟨F1,g,.refl _,r⟩
 | dp _ _=>exact⟨F1,g,.refl _,r⟩
 | nt ds=>obtain⟨a,vs,rfl,h,q⟩:=r;exact⟨F1,g,.refl _,.tup (.inl (.inl h)) q⟩
 | ml xs =>
   obtain⟨a,vs,rfl,f,hr,hh,q⟩:=(show gZ K rl F1 H1 v xs from r)
   have neF:∀b u,F1 b=some u->b≠a:=fun b u q z=>by subst z;rw[f]at q;cases q
   have fsm:bL F1 (D8 F1 a (.lst vs)):=fun b u z=>by rw[am (neF b u z)];exact z
   exact⟨D8 F1 a (.lst vs),g.freeze (n a rfl) hh f hr,fsm,.lst au (q.mono fsm)⟩
section
variable{X:Cx}{rl:RlT}{a b e:Expr}{es:List Expr}{fa fb fc:TV}{fs:Gi}{pos p:Pos}
noncomputable def vC(x:Hh):TV:=fun _ Q=>Q (.d x)
theorem f_{x:Hh}(h:PE X e (tC v))(r:∀F,Rep X.K F v x):PV X rl e (vC x) :=
 ⟨_,h,fun R Qd Q q k=>k v (.d x) _ _ (Grow.refl R.sub R.reel) (r _) trivial q⟩
theorem ac{i:Int}{j pos}:PV X rl (.Constant (.int i) j pos) (vC (.int i)):=f_ lM fun _=>.int i
theorem dZ{i:Bool}{j pos}:PV X rl (.Constant (.bool i) j pos) (vC (.bool i)):=f_ AT fun _=>.bl i
theorem aD{j pos}:PV X rl (.Constant (.str x) j pos) (vC (.str x)):=f_ dw fun _=>.str x
theorem m7{n:String}{pos:Pos}(hm:X.mg x=none)(hv:Ki x=some (.type n))(hg:Gl X x:=by rfl)(hn:x ≠ "__name__" := by decide)(hd:(x==("__debug__" : Str))=false:=by decide) :
 PV X rl (.Name x pos) (fun _ Q=>Q (.vv (.ty n))) :=
 ⟨_,vd (v:=.ty n) hg hm hv rfl hn hd,fun R Qd Q q k=>k (.ty n) (.vv (.ty n)) _ _ (Grow.refl R.sub R.reel) rfl trivial q⟩
theorem uO{pos:Pos}(hm:X.mg x=some u)(r:RelV v u)(h:∀F,Rep X.K F v d)(hg:Gl X x:=by rfl)(hd:(x==("__debug__" : Str))=false:=by decide):PV X rl (.Name x pos) (vC d) :=
 f_ (u_ hg hm r hd) h
noncomputable def uh(i:Nat):TV:=fun ρ Q=>∃w,ρ[i]?=some (some w)/\Q w.peek
theorem vn(i:Nat){pos:Pos}(hN:X.N[i]?=some x:=by rfl)(hv:Gc X.env.scope x:=by first|exact Js rfl|exact IR (Js rfl)|exact IR (IR rfl))(hd:(x==("__debug__" : Str))=false:=by decide)
 (hcd:(x==("__classdict__" : Str))=false:=by decide):PV X rl (.Name x pos) (uh i) :=
 ⟨_,cQ hN hv hd hcd,fun R Qd Q ⟨w,e,q⟩ k=>by
  obtain⟨v,e1,r,_⟩:=R.sl i w e
  refine⟨v,e1,k v w.peek _ _ (Grow.refl R.sub R.reel) r.peek ?_ q⟩
  cases w<;>trivial⟩
noncomputable def sM:Gi:=fun _ Q=>Q []
noncomputable def jC(f:TV)(fs:Gi):Gi:=fun ρ Q=>f ρ fun w=>fs ρ fun ws=>Q (w.fz::ws)
theorem ab:GB X rl [] sM:=⟨_,oU,fun R Qd Q q k=>k [] [] _ _ (Grow.refl R.sub R.reel) .nil q⟩
theorem aa(h1:PV X rl e fa)(h2:GB X rl es fs)(hs:Hw (e::es) X.env=(false,eval e X.env)::Hw es X.env:=by rfl):GB X rl (e::es) (jC fa fs):=by
 obtain⟨t,p1,k1⟩:=h1
 obtain⟨ts,p2,k2⟩:=h2
 refine⟨_,gF p1 p2 hs,fun R Qd Q q k=>?_⟩
 refine k1 R _ _ q fun v w F1 H1 g1 r1 n1 q1=>?_
 obtain⟨F2,g2,s2,r2⟩:=di.fz g1 r1 n1
 refine k2 (R.grow g2) _ _ q1 fun vs ws F3 H3 g3 r3 q3=>?_
 exact k (v::vs) (w.fz::ws) F3 H3 (g2.trans g3) (.cons (r2.grow g3) r3) q3
noncomputable def Ge(X:Cx)(rl:RlT)(r:R2)(g:W->W->(W->Prop)->Prop):Prop:=∀{F H:Hp}{x y:V}{wx wy:W}(Qd:W->Prop)(Q:VK),bL F H->Gz rl F H->di X.K rl F H x wx->di X.K rl F H y wy->g wx wy Qd ->
 (∀v w F' H',Grow rl F H F' H'->di X.K rl F' H' v w->dj H v w->Qd w->Q v H')->r x y H Q
noncomputable def D5(g:W->W->(W->Prop)->Prop)(fa fb:TV):TV:=fun ρ Q=>fa ρ fun x=>fb ρ fun y=>g x y Q
theorem nE{r:R2}{g:W->W->(W->Prop)->Prop}(vo:Ge X rl r g)(ha:PV X rl a fa)(hb:PV X rl b fb){e:Expr}(hp:∀ta tb,PE X a ta->PE X b tb->PE X e (Ek r ta tb)):PV X rl e (D5 g fa fb):=by
 obtain⟨ta,p1,k1⟩:=ha
 obtain⟨tb,p2,k2⟩:=hb
 refine⟨_,hp ta tb p1 p2,fun R Qd Q q k=>?_⟩
 refine k1 R _ _ q fun v w F1 H1 g1 r1 n1 q1=>?_
 refine k2 (R.grow g1) _ _ q1 fun v2 w2 F2 H2 g2 r2 n2 q2=>?_
 exact vo Qd Q g2.sub g2.reel (r1.grow g2) r2 q2 fun v3 w3 F3 H3 g3 r3 n3 q3=>k v3 w3 F3 H3 ((g1.trans g2).trans g3) r3 (by
  cases w3 with
  | ml xs=>exact fun a ea=>g1.freeB (g2.freeB (n3 a ea))
  | md xs=>exact fun a ea=>g1.freeB (g2.freeB (n3 a ea))
  | mk xs=>exact fun a ea=>g1.freeB (g2.freeB (n3 a ea))
  | nt _=>trivial
  | lk=>trivial
  | sc _=>trivial
  | fd _=>trivial
  | fw _=>trivial
  | ft _=>trivial
  | xc _ _=>trivial
  | dp _ _=>trivial
  | d _=>trivial
  | pk _=>trivial
  | reel=>trivial
  | vv _=>trivial) q3
theorem gB{op:Nz}{r:R2}{g:W->W->(W->Prop)->Prop}(ho:GO X (Kn op) r)(vo:Ge X rl r g)(ha:PV X rl a fa)(hb:PV X rl b fb):PV X rl (.BinOp a op b pos) (D5 g fa fb) :=
 nE vo ha hb fun _ _ p1 p2=>AS ho p1 p2
noncomputable def gI(C:Int->Int->Prop)(g:Int->Int->Hh):W->W->(W->Prop)->Prop:=fun x y Q=>∃i j,x = .d (.int i)/\y = .d (.int j)/\C i j/\Q (.d (g i j))
theorem aQ{K:W.Frag}{i:Int}(h:Rep K F v (.int i)):v = .int i:=by cases h;rfl
theorem gj{C:Int->Int->Prop}{g:Int->Int->V}{gd:Int->Int->Hh}(h:∀K F i j,Rep K F (g i j) (gd i j)):Ge X rl (rI C g) (gI C gd):=fun{F H x y wx wy} Qd Q s ra r1 r2 q k=>by
 obtain⟨i,j,rfl,rfl,c,q⟩:=q
 exact⟨i,j,aQ r1,aQ r2,c,k _ (.d _) _ _ (Grow.refl s ra) (h _ _ i j) trivial q⟩
noncomputable def FR(g:Int->Int->Hh):W->W->(W->Prop)->Prop:=fun x y Q=>∃i j,x = .d (.int i)/\y = .d (.int j)/\Q (.d (g i j))
theorem cU{g:Int->Int->V}{gd:Int->Int->Hh}(h:∀K F i j,Rep K F (g i j) (gd i j)):Ge X rl (EL g) (FR gd):=fun{F H x y wx wy} Qd Q s ra r1 r2 q k=>by
 obtain⟨i,j,rfl,rfl,q⟩:=q
 exact⟨i,j,aQ r1,aQ r2,k _ (.d _) _ _ (Grow.refl s ra) (h _ _ i j) trivial q⟩
theorem v_add(ha:PV X rl a fa)(hb:PV X rl b fb):PV X rl (.BinOp a .Add b pos) (D5 (FR fun i j=>.int (i+j)) fa fb):=gB yF (cU fun _ _ _ _=>.int _) ha hb
theorem v_sub(ha:PV X rl a fa)(hb:PV X rl b fb):PV X rl (.BinOp a .Sub b pos) (D5 (FR fun i j=>.int (i-j)) fa fb):=gB yz (cU fun _ _ _ _=>.int _) ha hb
noncomputable def G_(i:Int):Prop:=i.natAbs<2^60000
theorem G_.bits{i:Int}(h:G_ i):Builtin.Int.intBits i<=60000:=MU.mpr h
noncomputable def aV(i j:Int):Prop:=i.natAbs<2^64\/j.natAbs<2^64\/(G_ i/\G_ j)
theorem aV.lt{i j:Int}(h:i.natAbs<2^64):aV i j:=.inl h
theorem aV.rt{i j:Int}(h:j.natAbs<2^64):aV i j:=.inr (.inl h)
theorem aV.bb{i j:Int}(h:G_ i)(h':G_ j):aV i j:=.inr (.inr ⟨h,h'⟩)
theorem aV.ok{i j:Int}(h:aV i j):IntMulOk i j:=by
 rcases h with h|h|h
 · exact .of_left (MU.mpr h)
 · exact .of_right (MU.mpr h)
 · exact IntMulOk.of_le h.1.bits h.2.bits (by decide)
theorem vf:GO X (Kn .Mult) (rI aV fun i j=>.int (i*j)):=EU fun _ _ _ _ _ _ _ hc q=>mul_int q hc.ok
theorem v_mul(ha:PV X rl a fa)(hb:PV X rl b fb):PV X rl (.BinOp a .Mult b pos) (D5 (gI aV fun i j=>.int (i*j)) fa fb):=gB vf (gj fun _ _ _ _=>.int _) ha hb
noncomputable def fX(_ j:Int):Prop:=j≠0/\j.natAbs<2^9000
theorem rA:GO X (Kn .FloorDiv) (rI fX fun i j=>.int (i.fdiv j)):=EU fun _ j _ _ _ _ _ hc q=>floordiv_int hc.1 q (.inl (PyProof.noPylong_of_log2 ((Nat.log2_lt (by have:=hc.1;omega)).mpr hc.2)))
theorem v_div(ha:PV X rl a fa)(hb:PV X rl b fb):PV X rl (.BinOp a .FloorDiv b pos) (D5 (gI fX fun i j=>.int (i.fdiv j)) fa fb):=gB rA (gj fun _ _ _ _=>.int _) ha hb
theorem v_mod(ha:PV X rl a fa)(hb:PV X rl b fb):PV X rl (.BinOp a .Mod b pos) (D5 (gI (fun _ j=>j≠0) fun i j=>.int (i.fmod j)) fa fb):=gB vg (gj fun _ _ _ _=>.int _) ha hb
theorem v_pow(ha:PV X rl a fa)(hb:PV X rl b fb):PV X rl (.BinOp a .Pow b pos) (D5 (gI tU fun i j=>.int (i^j.toNat)) fa fb):=gB yC (gj fun _ _ _ _=>.int _) ha hb
noncomputable def Ai(fa:TV):TV:=fun ρ Q=>fa ρ fun x=>∃i,x = .d (.int i)/\Q (.d (.int (-i)))
theorem nN(ha:PV X rl a fa):PV X rl (.UnaryOp .USub a pos) (Ai fa):=by
 obtain⟨ta,p1,k1⟩:=ha
 refine⟨_,AQ xo p1,fun R Qd Q q k=>k1 R _ _ q fun v w F1 H1 g1 r1 n1 ⟨i,ew,q1⟩=>?_⟩
 subst ew
 exact⟨i,aQ r1,k _ (.d _) F1 H1 g1 (.int _) trivial q1⟩
theorem eB{r:R2}{g:W->W->(W->Prop)->Prop}(ho:GO X (JH op) r)(vo:Ge X rl r g)(hm:KY op b=false)(ha:PV X rl a fa)(hb:PV X rl b fb):PV X rl (.Compare a [op] [b] pos) (D5 g fa fb) :=
 nE vo ha hb fun _ _ p1 p2=>va ho p1 p2 hm
noncomputable def qG(f:TV):TB:=fun ρ Q=>f ρ fun w=>∃k,w = .d (.bool k)/\Q k
theorem fD{K:W.Frag}{i:Bool}(h:Rep K F v (.bool i)):v = .bl i:=by cases h;rfl
theorem aA{r:R2}{g:W->W->(W->Prop)->Prop}(ho:GO X (JH op) r)(vo:Ge X rl r g)(hm:KY op b=false)(ha:PV X rl a fa)(hb:PV X rl b fb):PB X rl (.Compare a [op] [b] pos) (qG (D5 g fa fb)):=by
 obtain⟨ta,p1,k1⟩:=ha
 obtain⟨tb,p2,k2⟩:=hb
 refine⟨_,uR ho p1 p2 hm,fun R Qd Q q k=>?_⟩
 refine k1 R _ _ q fun v w F1 H1 g1 r1 n1 q1=>?_
 refine k2 (R.grow g1) _ _ q1 fun v2 w2 F2 H2 g2 r2 n2 q2=>?_
 refine vo _ _ g2.sub g2.reel (r1.grow g2) r2 q2 fun v3 w3 F3 H3 g3 r3 n3 ⟨kb,ew,q3⟩=>?_
 subst ew
 exact⟨kb,fD r3,k kb F3 H3 ((g1.trans g2).trans g3) q3⟩
theorem cu(ha:PV X rl e fa)(he:∀whole,isTrue e X.env whole=(do let v <- whole;MZ e.pos;holding [v] (truthy v)):=by intro _;rfl):PB X rl e (qG fa):=by
 obtain⟨ta,p1,k1⟩:=ha
 refine⟨_,yg p1 he,fun R Qd Q q k=>k1 R _ _ q fun v w F1 H1 g1 r1 n1 ⟨kb,ew,q1⟩=>?_⟩
 subst ew
 exact⟨kb,fD r1,k kb F1 H1 g1 q1⟩
abbrev zT(p:Int->Int->Bool):=FR fun i j=>.bool (p i j)
theorem gl:Ge X rl (EL fun i j=>.bl (decide (i<j))) (zT fun i j=>decide (i<j)):=cU fun _ _ _ _=>.bl _
theorem wO:Ge X rl (EL fun i j=>.bl (decide (i<=j))) (zT fun i j=>decide (i<=j)):=cU fun _ _ _ _=>.bl _
theorem mL:Ge X rl (EL fun i j=>.bl (decide (j<i))) (zT fun i j=>decide (j<i)):=cU fun _ _ _ _=>.bl _
theorem Ab:Ge X rl (EL fun i j=>.bl (decide (j<=i))) (zT fun i j=>decide (j<=i)):=cU fun _ _ _ _=>.bl _
noncomputable def AE(K:W.Frag)(neg:Bool):R2:=fun x y H Q=>∃dx dy,Rep K H x dx/\Rep K H y dy/\HU dx=true/\HU dy=true/\Q (.bl (if neg then !HQ dx dy else HQ dx dy)) H
theorem dz(hu:X.A.units+64<Mn):GO X (JH .Eq) (AE X.K false):=by
 intro pins s σ H x y v u Q I rx ry ⟨dx,dy,h1,h2,s1,s2,q⟩
 obtain⟨as,a1⟩:=Rep.reads I (.refl H) h1 v rx
 obtain⟨bs,a2⟩:=Rep.reads I (.refl H) h2 u ry
 exact SeqAt.compareEq_shaped a1 a2 s1 s2 hu ⟨.bl _,H,I,rfl,q⟩
theorem dN(hu:X.A.units+64<Mn):GO X (JH .NotEq) (AE X.K true):=by
 intro pins s σ H x y v u Q I rx ry ⟨dx,dy,h1,h2,s1,s2,q⟩
 obtain⟨as,a1⟩:=Rep.reads I (.refl H) h1 v rx
 obtain⟨bs,a2⟩:=Rep.reads I (.refl H) h2 u ry
 exact SeqAt.compareNe_shaped a1 a2 s1 s2 hu ⟨.bl _,H,I,rfl,q⟩
noncomputable def Bh(neg:Bool):W->W->(W->Prop)->Prop:=fun x y Q=>∃dx dy,x.dat=some dx/\y.dat=some dy/\HU dx=true/\HU dy=true/\Q (.d (.bool (if neg then !HQ dx dy else HQ dx dy)))
theorem b9{neg:Bool}:Ge X rl (AE X.K neg) (Bh neg):=fun{F H x y wx wy} Qd Q s ra r1 r2 q k=>by
 obtain⟨dx,dy,e1,e2,s1,s2,q⟩:=q
 exact⟨dx,dy,r1.dat s e1,r2.dat s e2,s1,s2,k _ (.d _) _ _ (Grow.refl s ra) (.bl _) trivial q⟩
noncomputable def AD(K:W.Frag)(neg:Bool):R2:=fun x y H Q=>∃dx ys,Rep K H x dx/\(Rep K H y (.list ys)\/Rep K H y (.tuple ys))/\HU dx=true/\H_ ys=true/\Q (.bl (if neg then !(ys.any fun z=>HQ z dx)else ys.any fun z=>HQ z dx)) H
theorem gM{ys:List Hh}(hu:A.units+65<Mn)(h:HU d=true):A.units+1+min (IS ys) d.depth<Mn:=by
 have h1:=SeqAt.depth_of_shaped h
 have h2:min (IS ys) d.depth<=d.depth:=Nat.min_le_right _ _
 omega
theorem oX(hu:X.A.units+65<Mn):GO X (JH .In) (AD X.K false):=by
 intro pins s σ H x y v u Q I rx ry ⟨dx,ys,h1,h2,s1,s2,q⟩
 obtain⟨as,a1⟩:=Rep.reads I (.refl H) h1 v rx
 rcases h2 with h2|h2
 · obtain⟨bs,a2⟩:=Rep.reads I (.refl H) h2 u ry
   exact SeqAt.in_list_reads a2 a1 s2 (J1 s1) (gM hu s1) ⟨.bl _,H,I,rfl,q⟩
 · obtain⟨bs,a2⟩:=Rep.reads I (.refl H) h2 u ry
   exact SeqAt.in_tuple_reads a2 a1 s2 (J1 s1) (gM hu s1) ⟨.bl _,H,I,rfl,q⟩
theorem jW(hu:X.A.units+65<Mn):GO X (JH .NotIn) (AD X.K true):=by
 intro pins s σ H x y v u Q I rx ry ⟨dx,ys,h1,h2,s1,s2,q⟩
 obtain⟨as,a1⟩:=Rep.reads I (.refl H) h1 v rx
 rcases h2 with h2|h2
 · obtain⟨bs,a2⟩:=Rep.reads I (.refl H) h2 u ry
   exact SeqAt.notIn_list_reads a2 a1 s2 (J1 s1) (gM hu s1) ⟨.bl _,H,I,rfl,q⟩
 · obtain⟨bs,a2⟩:=Rep.reads I (.refl H) h2 u ry
   exact SeqAt.notIn_tuple_reads a2 a1 s2 (J1 s1) (gM hu s1) ⟨.bl _,H,I,rfl,q⟩
noncomputable def Bg(neg:Bool):W->W->(W->Prop)->Prop:=fun x y Q=>∃dx ys,x.dat=some dx/\(y.dat=some (.list ys)\/y.dat=some (.tuple ys))/\HU dx=true/\H_ ys=true/\Q (.d (.bool (if neg then !(ys.any fun z=>HQ z dx)else ys.any fun z=>HQ z dx)))
theorem jA{neg:Bool}:Ge X rl (AD X.K neg) (Bg neg):=fun{F H x y wx wy} Qd Q s ra r1 r2 q k=>by
 obtain⟨dx,ys,e1,e2,s1,s2,q⟩:=q
 exact⟨dx,ys,r1.dat s e1,e2.imp (fun e=>r2.dat s e) (fun e=>r2.dat s e),s1,s2,k _ (.d _) _ _ (Grow.refl s ra) (.bl _) trivial q⟩
noncomputable def An(f g:TB):TB:=fun ρ Q=>f ρ fun b=>if b=true then g ρ Q else Q false
noncomputable def D4(f g:TB):TB:=fun ρ Q=>f ρ fun b=>if b=true then Q true else g ρ Q
noncomputable def Ct(f:TB):TB:=fun ρ Q=>f ρ fun b=>Q (!b)
noncomputable def GN(X:Cx)(rl:RlT)(e:Expr)(f:TB):Prop:=∃t,PW X e t/\∀{F₀ H₀ F H:Hp}{σ:St}{ρ:En},VR X.K rl F₀ H₀ F H σ ρ->∀(Qd:Bool->Prop)(Q:Bool->Hp->Prop),f ρ Qd ->
 (∀b F' H',Grow rl F H F' H'->Qd b->Q b H')->t σ H Q
variable{f g:TB}{rest:List Expr}
theorem GN.pb(h:GN X rl e f):PB X rl e f:=let ⟨t,p,k⟩:=h;⟨t,p.pt,k⟩
theorem kG(ha:PB X rl a f):GN X rl (.BoolOp .And [a] pos) f:=let ⟨t,p,k⟩:=ha;⟨t,uN p,k⟩
theorem gm(ha:PB X rl a f):GN X rl (.BoolOp .Or [a] pos) f:=let ⟨t,p,k⟩:=ha;⟨t,ye p,k⟩
theorem nH(ha:PB X rl a f)(hb:GN X rl (.BoolOp .And (b::rest) pos) g):GN X rl (.BoolOp .And (a::b::rest) pos) (An f g):=by
 obtain⟨t,p,k⟩:=ha
 obtain⟨t2,p2,k2⟩:=hb
 refine⟨_,yf p p2,fun R Qd Q q h=>k R _ _ q fun c F1 H1 g1 q1=>?_⟩
 cases c with
 | true=>exact k2 (R.grow g1) _ _ q1 fun c F2 H2 g2 q2=>h c F2 H2 (g1.trans g2) q2
 | false=>exact h false F1 H1 g1 q1
theorem fQ(ha:PB X rl a f)(hb:GN X rl (.BoolOp .Or (b::rest) pos) g):GN X rl (.BoolOp .Or (a::b::rest) pos) (D4 f g):=by
 obtain⟨t,p,k⟩:=ha
 obtain⟨t2,p2,k2⟩:=hb
 refine⟨_,AI p p2,fun R Qd Q q h=>k R _ _ q fun c F1 H1 g1 q1=>?_⟩
 cases c with
 | true=>exact h true F1 H1 g1 q1
 | false=>exact k2 (R.grow g1) _ _ q1 fun c F2 H2 g2 q2=>h c F2 H2 (g1.trans g2) q2
theorem fx(ha:PB X rl a f):PB X rl (.UnaryOp .Not a pos) (Ct f):=by
 obtain⟨t,p,k⟩:=ha
 exact⟨_,yh p,fun R Qd Q q h=>k R _ _ q fun c F1 H1 g1 q1=>h (!c) F1 H1 g1 q1⟩
noncomputable def um(fa fb:TV):TV:=fun ρ Q=>fa ρ fun w=>∃c,w = .d (.bool c)/\if c=true then fb ρ Q else Q (.d (.bool false))
noncomputable def Ah(fa fb:TV):TV:=fun ρ Q=>fa ρ fun w=>∃c,w = .d (.bool c)/\if c=true then Q (.d (.bool true))else fb ρ Q
noncomputable def ui(fa:TV):TV:=fun ρ Q=>fa ρ fun w=>∃c,w = .d (.bool c)/\Q (.d (.bool (!c)))
theorem dj.back{rl:RlT}{w:W}(g:Grow rl F H F' H')(n:dj H' v w):dj H v w:=by
 cases w with
 | ml xs=>exact fun a ea=>g.freeB (n a ea)
 | md xs=>exact fun a ea=>g.freeB (n a ea)
 | mk xs=>exact fun a ea=>g.freeB (n a ea)
 | nt _=>trivial
 | lk=>trivial
 | sc _=>trivial
 | fd _=>trivial
 | fw _=>trivial
 | ft _=>trivial
 | xc _ _=>trivial
 | dp _ _=>trivial
 | d _=>trivial
 | pk _=>trivial
 | reel=>trivial
 | vv _=>trivial
theorem nM{op}(ha:PV X rl a fa):PV X rl (.BoolOp op [a] pos) fa:=let ⟨t,p,k⟩:=ha;⟨t,yr p,k⟩
theorem v_and(ha:PV X rl a fa)(hb:PV X rl (.BoolOp .And (b::rest) pos) fb):PV X rl (.BoolOp .And (a::b::rest) pos) (um fa fb):=by
 obtain⟨t,p,k⟩:=ha
 obtain⟨t2,p2,k2⟩:=hb
 refine⟨_,yy p p2,fun R Qd Q q h=>k R _ _ q fun v w F1 H1 g1 r1 n1 ⟨c,ew,q1⟩=>?_⟩
 subst ew
 refine⟨c,fD r1,?_⟩
 cases c with
 | true=>exact k2 (R.grow g1) _ _ q1 fun v w F2 H2 g2 r2 n2 q2=>h v w F2 H2 (g1.trans g2) r2 (n2.back g1) q2
 | false=>exact h _ (.d _) F1 H1 g1 (.bl false) trivial q1
theorem v_or(ha:PV X rl a fa)(hb:PV X rl (.BoolOp .Or (b::rest) pos) fb):PV X rl (.BoolOp .Or (a::b::rest) pos) (Ah fa fb):=by
 obtain⟨t,p,k⟩:=ha
 obtain⟨t2,p2,k2⟩:=hb
 refine⟨_,AR p p2,fun R Qd Q q h=>k R _ _ q fun v w F1 H1 g1 r1 n1 ⟨c,ew,q1⟩=>?_⟩
 subst ew
 refine⟨c,fD r1,?_⟩
 cases c with
 | false=>exact k2 (R.grow g1) _ _ q1 fun v w F2 H2 g2 r2 n2 q2=>h v w F2 H2 (g1.trans g2) r2 (n2.back g1) q2
 | true=>exact h _ (.d _) F1 H1 g1 (.bl true) trivial q1
theorem v_not(ha:PV X rl a fa):PV X rl (.UnaryOp .Not a pos) (ui fa):=by
 obtain⟨t,p,k⟩:=ha
 refine⟨_,yt p,fun R Qd Q q h=>k R _ _ q fun v w F1 H1 g1 r1 n1 ⟨c,ew,q1⟩=>?_⟩
 subst ew
 exact⟨c,fD r1,h _ (.d _) F1 H1 g1 (.bl _) trivial q1⟩
noncomputable def D7(t:TB)(fa fb:TV):TV:=fun ρ Q=>t ρ fun c=>if c=true then fa ρ Q else fb ρ Q
theorem gt(hc:PB X rl c f)(ha:PV X rl a fa)(hb:PV X rl b fb):PV X rl (.IfExp c a b pos) (D7 f fa fb):=by
 obtain⟨t,p,k⟩:=hc
 obtain⟨t1,p1,k1⟩:=ha
 obtain⟨t2,p2,k2⟩:=hb
 refine⟨_,rg p p1 p2,fun R Qd Q q h=>k R _ _ q fun c F1 H1 g1 q1=>?_⟩
 cases c with
 | true=>exact k1 (R.grow g1) _ _ q1 fun v w F2 H2 g2 r2 n2 q2=>h v w F2 H2 (g1.trans g2) r2 (n2.back g1) q2
 | false=>exact k2 (R.grow g1) _ _ q1 fun v w F2 H2 g2 r2 n2 q2=>h v w F2 H2 (g1.trans g2) r2 (n2.back g1) q2
noncomputable def gQ:List W->Option (List Hh)
 | []=>some []
 | .d x::r=>(gQ r).map (x :: ·)
 | _::_=>none
theorem cN{K:W.Frag}{F H:Hp}:∀{vs:List V}{ws:List W}{ds:List Hh},fu K rl F H vs ws->gQ ws=some ds->Reps K F vs ds
 | _,_,_,.nil,e=>by cases e;exact .nil
 | _,.d x::ws,ds,.cons r rs,e=>by
   have e:(gQ ws).map (x :: ·)=some ds:=e
   cases q:gQ ws with
   | none=>rw[q]at e;cases e
   | some es=>rw[q]at e;cases e;exact .cons r (cN rs q)
 | _,.ml x::ws,ds,.cons r rs,e=>by cases(show none=some ds from e)
 | _,.pk x::ws,ds,.cons r rs,e=>by cases(show none=some ds from e)
 | _,.reel::ws,ds,.cons r rs,e=>by cases(show none=some ds from e)
 | _,.vv u::ws,ds,.cons r rs,e=>by cases(show none=some ds from e)
 | _,.md u::ws,ds,.cons r rs,e=>by cases(show none=some ds from e)
 | _,.nt u::ws,ds,.cons r rs,e=>by cases(show none=some ds from e)
 | _,.lk::ws,ds,.cons r rs,e=>by cases(show none=some ds from e)
 | _,.sc _::ws,ds,.cons r rs,e=>by cases(show none=some ds from e)
 | _,.fd _::ws,ds,.cons r rs,e=>by cases(show none=some ds from e)
 | _,.xc _ _::ws,ds,.cons r rs,e=>by cases(show none=some ds from e)
 | _,.mk _::ws,ds,.cons r rs,e=>by cases(show none=some ds from e)
 | _,.fw _::ws,ds,.cons r rs,e=>by cases(show none=some ds from e)
 | _,.ft _::ws,ds,.cons r rs,e=>by cases(show none=some ds from e)
 | _,.dp _ _::ws,ds,.cons r rs,e=>by cases(show none=some ds from e)
noncomputable def Ad(fs:Gi):TV:=fun ρ Q=>fs ρ fun ws=>∃ds,gQ ws=some ds/\ds.length<=sizeLine/\Q (.d (.tuple ds))
noncomputable def zG(fs:Gi):TV:=fun ρ Q=>fs ρ fun ws=>∃ds,gQ ws=some ds/\ds.length<=sizeLine/\Q (.ml ds)
theorem bp{x1}(h:GB X rl es fs):PV X rl (.Tuple es x1 pos) (Ad fs):=by
 obtain⟨t,p,k⟩:=h
 refine⟨_,yq p,fun R Qd Q q h=>k R _ _ q fun vs ws F1 H1 g1 r1 ⟨ds,e1,z,q1⟩=>?_⟩
 have rs:=cN r1 e1
 refine⟨by rw[rs.length];exact z,fun p hp=>?_⟩
 have g2:=g1.trans (Grow.data (a:=p) (o:=.tup vs) g1.sub g1.reel hp)
 exact h _ (.d (.tuple ds)) _ _ g2 (.tup (.inl (.inl au)) (rs.mono (Grow.data (o:=.tup vs) g1.sub g1.reel hp).fs)) trivial q1
theorem cL{K:W.Frag}{p:Addr}{ds:List Hh}(s:bL F H)(ra:Gz rl F H)(hp:H p=none)(rs:Reps K F vs ds):gZ K rl F (D8 H p (.lst vs)) (.ref p) ds:=by
 refine⟨p,vs,rfl,s.free hp,fun e=>?_,au,rs⟩
 obtain⟨o,q⟩:=ra.live e
 rw[hp]at q
 cases q
theorem cf(h:GB X rl es fs):PV X rl (.List es pos) (zG fs):=by
 obtain⟨t,p,k⟩:=h
 refine⟨_,yu p,fun R Qd Q q h=>k R _ _ q fun vs ws F1 H1 g1 r1 ⟨ds,e1,z,q1⟩=>?_⟩
 have rs:=cN r1 e1
 refine⟨by rw[rs.length];exact z,fun p hp=>?_⟩
 exact h _ (.ml ds) _ _ (g1.trans (Grow.laid (a:=p) (o:=.lst vs) g1.sub g1.reel hp)) (cL g1.sub g1.reel hp rs) (fun a ea=>by cases ea;exact g1.freeB hp) q1
noncomputable def itemAt:Hh->Int->Option Hh
 | .list xs,i=>atI xs i
 | .tuple xs,i=>atI xs i
 | _,_=>none
theorem Reps.atI{K:W.Frag}{F:Hp}{vs:List V}{ds:List Hh}{i:Int}{d:Hh}(r:Reps K F vs ds)(e:L2.atI ds i=some d):∃v,L2.atI vs i=some v/\Rep K F v d:=by
 unfold L2.atI at e ⊢
 rw[r.length]
 cases q:ixN ds.length i with
 | none=>rw[q]at e;cases e
 | some j =>
   rw[q]at e
   exact r.get e
noncomputable def FP:W->W->(W->Prop)->Prop:=fun x y Q=>∃dx i z,x.dat=some dx/\y = .d (.int i)/\itemAt dx i=some z/\Q (.d z)
theorem Aa:Ge X rl (EK X.K) FP:=fun{F H x y wx wy} Qd Q s ra r1 r2 q k=>by
 obtain⟨dx,i,z,e1,rfl,e3,q⟩:=q
 have ey:=aQ r2
 subst ey
 cases dx with
 | list xs =>
   obtain⟨a,vs,rfl,sq,rs⟩:=r1.items s e1
   obtain⟨v,e4,rz⟩:=Reps.atI rs e3
   exact .inl ⟨a,vs,i,v,rfl,rfl,sq,e4,k _ (.d _) _ _ (Grow.refl s ra) rz trivial q⟩
 | tuple xs =>
   obtain⟨a,vs,rfl,sq,rs⟩:=r1.itemsT s e1
   obtain⟨v,e4,rz⟩:=Reps.atI rs e3
   exact .inr (.inl ⟨a,vs,i,v,rfl,rfl,sq,e4,k _ (.d _) _ _ (Grow.refl s ra) rz trivial q⟩)
 | none=>cases e3
 | bool b=>cases e3
 | int b=>cases e3
 | str b=>cases e3
 | dict b=>cases e3
theorem aL(ha:PV X rl a fa)(hb:PV X rl b fb)(hs:jx b:=by exact fun _ _=>rfl):PV X rl (.Subscript a b pos) (D5 FP fa fb):=nE Aa ha hb fun _ _ p1 p2=>u9 pH p1 p2 hs
noncomputable def eW(X:Cx)(rl:RlT)(r:List V->Hp->VK->Prop)(g:List W->(W->Prop)->Prop):Prop:=∀{F H:Hp}{vs:List V}{ws:List W}(Qd:W->Prop)(Q:VK),bL F H->Gz rl F H->fu X.K rl F H vs ws->g ws Qd ->
 (∀v w F' H',Grow rl F H F' H'->di X.K rl F' H' v w->dj H v w->Qd w->Q v H')->r vs H Q
noncomputable def dt(g:List W->(W->Prop)->Prop)(fs:Gi):TV:=fun ρ Q=>fs ρ fun ws=>g ws Q
theorem lC{r:List V->Hp->VK->Prop}{g:List W->(W->Prop)->Prop}{t:TA->TE}(vc:eW X rl r g)(ha:GB X rl es fs){e:Expr}(hp:∀ta,PA X es ta->PE X e (Ep r ta)):PV X rl e (dt g fs):=by
 obtain⟨ta,p1,k1⟩:=ha
 refine⟨_,hp ta p1,fun R Qd Q q k=>k1 R _ _ q fun vs ws F1 H1 g1 r1 q1=>?_⟩
 exact vc Qd Q g1.sub g1.reel r1 q1 fun v w F2 H2 g2 r2 n2 q2=>k v w F2 H2 (g1.trans g2) r2 (n2.back g1) q2
theorem cO{id:String}{r:List V->Hp->VK->Prop}{g:List W->(W->Prop)->Prop}(hc:dB X (.builtin id) r)(vc:eW X rl r g)(hm:X.mg x=none)(hv:Ki x=some (.builtin id))(ha:GB X rl (e::es) fs)(hg:Gl X x:=by rfl)(hn:x ≠ "__name__" := by decide)(hdb:(x==("__debug__" : Str))=false:=by decide)
 (he:Hw (e::es) X.env=(false,eval e X.env)::Hw es X.env:=by rfl)(hpl:(I0 pos (Hw es X.env)).any (·.1)=false:=by rfl):PV X rl (.Call (.Name x p) (e::es) [] pos) (dt g fs) :=
 lC (t:=fun _=>tC .non) vc ha fun _ p1=>rm hc hg hm hv p1 hn hdb he hpl
theorem iY{T:String}{r:List V->Hp->VK->Prop}{g:List W->(W->Prop)->Prop}(hc:dB X (.type T) r)(vc:eW X rl r g)(hm:X.mg x=none)(hv:Ki x=some (.type T))(ha:GB X rl (e::es) fs)(hg:Gl X x:=by rfl)(hn:x ≠ "__name__" := by decide)(hdb:(x==("__debug__" : Str))=false:=by decide)
 (he:Hw (e::es) X.env=(false,eval e X.env)::Hw es X.env:=by rfl)(hpl:(I0 pos (Hw es X.env)).any (·.1)=false:=by rfl):PV X rl (.Call (.Name x p) (e::es) [] pos) (dt g fs) :=
 lC (t:=fun _=>tC .non) vc ha fun _ p1=>oT hc hg hm hv p1 hn hdb he hpl
theorem kP{K:W.Frag}{w:W}(r:fu K rl F H vs [w]):∃v,vs=[v]/\di K rl F H v w:=by
 cases r with
 | cons r1 r2=>cases r2;exact⟨_,rfl,r1⟩
theorem CA{K:W.Frag}{w w':W}(r:fu K rl F H vs [w,w']):∃v u,vs=[v,u]/\di K rl F H v w/\di K rl F H u w':=by
 cases r with
 | cons r1 r2 =>
   cases r2 with
   | cons r3 r4=>cases r4;exact⟨_,_,rfl,r1,r3⟩
noncomputable def zW:List W->(W->Prop)->Prop:=fun ws Q=>∃i,ws=[.d (.int i)]/\Q (.d (.int (if i<0 then -i else i)))
theorem w6:eW X rl (fun xs H Q=>∃i,xs=[.int i]/\Q (.int (if i<0 then -i else i)) H) zW:=fun{F H vs ws} Qd Q s ra r ⟨i,ew,q⟩ k=>by
 subst ew
 obtain⟨v,rfl,r1⟩:=kP r
 have e:=aQ r1
 subst e
 exact⟨i,rfl,k _ (.d _) _ _ (Grow.refl s ra) (.int _) trivial q⟩
noncomputable def kB:Hh->Option Nat
 | .list xs=>some xs.length
 | .tuple xs=>some xs.length
 | _=>none
noncomputable def zO:List W->(W->Prop)->Prop:=fun ws Q=>∃w d n,ws=[w]/\w.dat=some d/\kB d=some n/\Q (.d (.int n))
theorem wW:eW X rl (fun xs H Q=>∃p ys,xs=[.ref p]/\(Gr X.K H p ys\/Gq X.K H p ys)/\Q (.int ys.length) H) zO:=fun{F H vs ws} Qd Q s ra r ⟨w,d,n,ew,e1,e2,q⟩ k=>by
 subst ew
 obtain⟨v,rfl,r1⟩:=kP r
 cases d with
 | list xs =>
   obtain⟨a,vs,rfl,sq,rs⟩:=r1.items s e1
   cases e2
   exact⟨a,vs,rfl,.inl sq,k _ (.d _) _ _ (Grow.refl s ra) (by rw[rs.length];exact .int _) trivial q⟩
 | tuple xs =>
   obtain⟨a,vs,rfl,sq,rs⟩:=r1.itemsT s e1
   cases e2
   exact⟨a,vs,rfl,.inr sq,k _ (.d _) _ _ (Grow.refl s ra) (by rw[rs.length];exact .int _) trivial q⟩
 | none=>cases e2
 | bool b=>cases e2
 | int b=>cases e2
 | str b=>cases e2
 | dict b=>cases e2
end
structure VEnds where
 nx:En->Prop
 rt:W->Prop
 bk:En->Prop:=fun _=>False
 ct:En->Prop:=fun _=>False
structure EndsOk (K:W.Frag) (rl:RlT) (F₀ H₀ Fs:Hp) (Dv:VEnds) (D:Ends):Prop where
 nx:∀F H σ ρ,bL Fs F->VR K rl F₀ H₀ F H σ ρ->Dv.nx ρ->D.nx σ H
 rt:∀v w F H,Grow rl F₀ H₀ F H->di K rl F H v w->dj H₀ v w->Dv.rt w->D.rt v H
 bk:∀F H σ ρ,bL Fs F->VR K rl F₀ H₀ F H σ ρ->Dv.bk ρ->D.bk σ H
 ct:∀F H σ ρ,bL Fs F->VR K rl F₀ H₀ F H σ ρ->Dv.ct ρ->D.ct σ H
theorem EndsOk.on{K:W.Frag}{rl:RlT}{Fs:Hp}{Dv:VEnds}{D:Ends}(ok:EndsOk K rl F₀ H₀ Fs Dv D)(s:bL Fs F):EndsOk K rl F₀ H₀ F Dv D :=
 ⟨fun F1 H σ ρ s1=>ok.nx F1 H σ ρ (s.trans s1),ok.rt,fun F1 H σ ρ s1=>ok.bk F1 H σ ρ (s.trans s1),fun F1 H σ ρ s1=>ok.ct F1 H σ ρ (s.trans s1)⟩
abbrev Gj:=VEnds->En->Prop
noncomputable def GF(X:Cx)(rl:RlT)(st:Stmt)(t:Gj):Prop:=∃T,PS X st T/\∀{F₀ H₀ F H:Hp}{σ:St}{ρ:En},VR X.K rl F₀ H₀ F H σ ρ->∀Dv D,EndsOk X.K rl F₀ H₀ F Dv D->t Dv ρ->T D σ H
noncomputable def ly(X:Cx)(rl:RlT)(st:List Stmt)(t:Gj):Prop:=∃T,GE X st T/\∀{F₀ H₀ F H:Hp}{σ:St}{ρ:En},VR X.K rl F₀ H₀ F H σ ρ->∀Dv D,EndsOk X.K rl F₀ H₀ F Dv D->t Dv ρ->T D σ H
section
variable{X:Cx}{rl:RlT}{st:Stmt}{rest body:List Stmt}{t u:Gj}{a b c e:Expr}{es:List Expr}{fa fb:TV}{fs:Gi}{f:TB}{pos p:Pos}
noncomputable def xk:Gj:=fun D ρ=>D.nx ρ
noncomputable def Cq(t u:Gj):Gj:=fun D ρ=>t {D with nx:=u D} ρ
theorem aK:ly X rl [] xk:=⟨_,oN,fun R Dv D ok q=>ok.nx _ _ _ _ (.refl _) R q⟩
theorem aj(h:GF X rl st t):ly X rl [st] t:=let ⟨T,p,k⟩:=h;⟨T,oM p,k⟩
theorem af(h:GF X rl st t)(h2:ly X rl rest u):ly X rl (st::rest) (Cq t u):=by
 obtain⟨T,p,k⟩:=h
 obtain⟨T2,p2,k2⟩:=h2
 exact⟨_,gc p p2,fun R Dv D ok q=>k R {Dv with nx:=u Dv} {D with nx:=T2 D} ⟨fun F H σ ρ s' R' q'=>k2 R' Dv D (ok.on s') q',ok.rt,ok.bk,ok.ct⟩ q⟩
noncomputable def Cr(fa:TV):Gj:=fun D ρ=>fa ρ D.rt
theorem ar(h:PV X rl e fa):GF X rl (.Return (some e) pos) (Cr fa):=by
 obtain⟨t,p,k⟩:=h
 exact⟨_,sY p,fun R Dv D ok q=>k R _ _ q fun v w F1 H1 g1 r1 n1 q1=>ok.rt v w F1 H1 (R.g.trans g1) r1 (n1.back R.g) q1⟩
noncomputable def Aj(f:TB)(t u:Gj):Gj:=fun D ρ=>f ρ fun b=>if b=true then t D ρ else u D ρ
theorem bO{A B:List Stmt}(hc:PB X rl c f)(ha:ly X rl A t)(hb:ly X rl B u):GF X rl (.If c A B pos) (Aj f t u):=by
 obtain⟨t0,p0,k0⟩:=hc
 obtain⟨t1,p1,k1⟩:=ha
 obtain⟨t2,p2,k2⟩:=hb
 refine⟨_,AN p0 p1 p2,fun R Dv D ok q=>k0 R _ _ q fun b F1 H1 g1 q1=>?_⟩
 cases b with
 | true=>exact k1 (R.grow g1) Dv D (ok.on g1.fs) q1
 | false=>exact k2 (R.grow g1) Dv D (ok.on g1.fs) q1
theorem lB:GF X rl st (fun _ _=>False):=⟨_,q0,fun _ _ _ _ q=>q.elim⟩
noncomputable def W.isPk:W->Bool
 | .pk _=>true
 | _=>false
noncomputable def Ag(i:Nat)(fa:TV):Gj:=fun D ρ=>fa ρ fun w=>w.isPk=false/\D.nx (ρ.set i (some w))
theorem d_(i:Nat)(hN:X.N.Nodup)(he:PV X rl e fa)(hi:X.N[i]?=some x:=by rfl)(hx:Loc X.env.scope x:=by first|exact Js rfl|exact IR rfl)
 (hs:Jr e (some (.Name x pos')) pos.line X.env=pure false:=by rfl)(hf:X.fn x=true\/X.env.scope.names.lookup x=some .local:=by first|exact .inl rfl|exact .inr rfl) :
 GF X rl (.Assign [.Name x pos'] e pos) (Ag i fa):=by
 obtain⟨t,p,k⟩:=he
 refine⟨_,gC hN hi hx p hs hf,fun R Dv D ok q=>k R _ _ q fun v w F1 H1 g1 r1 n1 ⟨hp,q1⟩=>?_⟩
 exact ok.nx _ _ _ _ g1.fs (R.set g1 r1 n1 (fun xs z=>by subst z;cases hp) i) q1
noncomputable def kz(ρ:En):Prop:=∀(i:Nat)(w:W),ρ[i]?=some (some w)->w.own=false
theorem kz.set{ρ:En}(h:kz ρ)(i:Nat)(x:Hh):kz (ρ.set i (some (.d x))):=fun j w z=>by
 rw[Jc]at z
 split at z
 · split at z
   · cases z;rfl
   · cases z
 · exact h j w z
abbrev Go:=Hh->En->(En->Prop)->Prop
abbrev qy:=List Hh->En->(En->Prop)->Prop
noncomputable def GM(X:Cx)(rl:RlT)(tg:Expr)(g:Go):Prop:=∃G,PG X tg G/\∀{F₀ H₀ F H:Hp}{σ:St}{ρ:En},VR X.K rl F₀ H₀ F H σ ρ->∀(v:V)(x:Hh)(Qd:En->Prop)(Q:St->Hp->Prop),Rep X.K F v x->g x ρ Qd ->
 (∀F' H' σ' ρ',Grow rl F H F' H'->(kz ρ->kz ρ')->VR X.K rl F₀ H₀ F' H' σ' ρ'->Qd ρ'->Q σ' H')->G v σ H Q
noncomputable def z8(X:Cx)(rl:RlT)(tgs:List Expr)(g:qy):Prop:=∃G,GL X tgs G/\∀{F₀ H₀ F H:Hp}{σ:St}{ρ:En},VR X.K rl F₀ H₀ F H σ ρ->∀(vs:List V)(xs:List Hh)(Qd:En->Prop)(Q:St->Hp->Prop),Reps X.K F vs xs->g xs ρ Qd ->
 (∀F' H' σ' ρ',Grow rl F H F' H'->(kz ρ->kz ρ')->VR X.K rl F₀ H₀ F' H' σ' ρ'->Qd ρ'->Q σ' H')->G vs σ H Q
noncomputable def rR(i:Nat):Go:=fun x ρ Q=>Q (ρ.set i (some (.d x)))
theorem ai(i:Nat)(hN:X.N.Nodup)(hi:X.N[i]?=some x:=by rfl)(hx:Loc X.env.scope x:=by first|exact Js rfl|exact IR rfl)(hf:X.fn x=true\/X.env.scope.names.lookup x=some .local:=by first|exact .inl rfl|exact .inr rfl):GM X rl (.Name x pos) (rR i) :=
 ⟨_,u7 hN hi hx hf,fun R v x Qd Q r q k=>k _ _ _ _ (Grow.refl R.sub R.reel) (fun n=>n.set i x) (R.set (w:=.d x) (Grow.refl R.sub R.reel) r trivial (fun _ z=>by cases z) i) q⟩
noncomputable def Be:qy:=fun xs ρ Q=>xs=[]/\Q ρ
noncomputable def rS(g:Go)(gs:qy):qy:=fun xs ρ Q=>∃y r,xs=y::r/\g y ρ fun ρ'=>gs r ρ' Q
theorem cE:z8 X rl [] Be:=⟨_,u6,fun R vs xs Qd Q r ⟨e,q⟩ k=>by subst e;exact⟨r.nil_iff,k _ _ _ _ (Grow.refl R.sub R.reel) (fun n=>n) R q⟩⟩
theorem ay{g:Go}{gs:qy}(h1:GM X rl e g)(h2:z8 X rl es gs)(hs:(Ku (e::es) X.env).map (·.2)=KM e X.env::(Ku es X.env).map (·.2):=by rfl):z8 X rl (e::es) (rS g gs):=by
 obtain⟨G,p,k⟩:=h1
 obtain⟨G2,p2,k2⟩:=h2
 refine⟨_,rf p p2 hs,fun R vs xs Qd Q r ⟨y,ys,ex,q⟩ h=>?_⟩
 subst ex
 cases r with
 | cons r1 r2 =>
   refine⟨_,_,rfl,k R _ y _ _ r1 q fun F1 H1 σ1 ρ1 s1 n1 R1 q1=>?_⟩
   exact k2 R1 _ ys _ _ (r2.mono s1.fs) q1 fun F2 H2 σ2 ρ2 s2 n2 R2 q2=>h F2 H2 σ2 ρ2 (s1.trans s2) (fun n=>n2 (n1 n)) R2 q2
noncomputable def Bd(n:Nat)(gs:qy):Go:=fun x ρ Q=>∃xs,x = .tuple xs/\xs.length=n/\gs xs ρ Q
theorem dq{kk:Nat}{gs:qy}(hc:X.calm=true)(h:z8 X rl es gs)(hn:(Ku es X.env).length=n:=by rfl)(hst:(Ku es X.env).findIdx? (·.1)=none:=by rfl):GM X rl (.Tuple es kk pos) (Bd n gs):=by
 obtain⟨G,p,k⟩:=h
 refine⟨_,yp hc p hn hst,fun R v x Qd Q r ⟨xs,ex,hl,q⟩ h=>?_⟩
 subst ex
 cases r with
 | tup sq rs=>exact⟨_,_,rfl,eI R.sub sq,by rw[rs.length];exact hl,k R _ xs _ _ rs q h⟩
noncomputable def Am(fa:TV)(g:Go):Gj:=fun D ρ=>fa ρ fun w=>∃x,w = .d x/\g x ρ D.nx
theorem jy{g:Go}(he:PV X rl e fa)(hg:GM X rl tg g)(hs:L9 [tg] e pos.line X.env=pure false:=by rfl)(hw:L_ [tg] e X.env=pure none:=by rfl)
 (h1:(Ku [tg] X.env).map (·.2)=[KM tg X.env]:=by rfl):GF X rl (.Assign [tg] e pos) (Am fa g):=by
 obtain⟨t,p,k⟩:=he
 obtain⟨G,p2,k2⟩:=hg
 refine⟨_,yk p p2 hs hw h1,fun R Dv D ok q=>k R _ _ q fun v w F1 H1 g1 r1 n1 ⟨x,ew,q1⟩=>?_⟩
 subst ew
 exact k2 (R.grow g1) v x _ _ r1 q1 fun F2 H2 σ2 ρ2 s2 n2 R2 q2=>ok.nx _ _ _ _ (g1.fs.trans s2.fs) R2 q2
noncomputable def Cs(i j:Nat)(fs:Gi):Gj:=fun D ρ=>fs ρ fun ws=>∃x y,gQ ws=some [x,y]/\D.nx ((ρ.set i (some (.d x))).set j (some (.d y)))
theorem lA(i j:Nat){y:Str}{py pt:Pos}{kt k2 pt2}(hc:X.calm=true)(hN:X.N.Nodup)(ha:GB X rl [a,b] fs)
 (hw:L_ [.Tuple [.Name x px,.Name y py] kt pt] (.Tuple [a,b] k2 pt2) X.env=pure (some [x,y]):=by rfl)(hi:X.N[i]?=some x:=by rfl)(hj:X.N[j]?=some y:=by rfl)(hij:i≠j:=by decide)
 (hx:X.env.scope.names.lookup x=some .local:=by rfl)(hy:X.env.scope.names.lookup y=some .local:=by rfl)
 (hs:L9 [.Tuple [.Name x px,.Name y py] kt pt] (.Tuple [a,b] k2 pt2) pos.line X.env=pure false:=by rfl) :
 GF X rl (.Assign [.Tuple [.Name x px,.Name y py] kt pt] (.Tuple [a,b] k2 pt2) pos) (Cs i j fs):=by
 obtain⟨t,p,k⟩:=ha
 refine⟨_,yi hc hN hi hj hij hx hy p hw hs,fun R Dv D ok q=>k R _ _ q fun vs ws F1 H1 g1 r1 ⟨x,y,e1,q1⟩=>?_⟩
 have rs:=cN r1 e1
 cases rs with
 | cons rx rs =>
   cases rs with
   | cons ry rs =>
     cases rs
     have R1:=(R.grow g1).set (w:=.d x) (Grow.refl g1.sub g1.reel) rx trivial (fun _ z=>by cases z) i
     exact⟨_,_,rfl,ok.nx _ _ _ _ g1.fs (R1.set (w:=.d y) (Grow.refl g1.sub g1.reel) ry trivial (fun _ z=>by cases z) j) q1⟩
structure VIt (K:W.Frag) (rl:RlT) (F:Hp) (J:It) (xs:List Hh):Prop where
 go:∀i H x,xs[i]?=some x->bL F H->J.go i H
 stop:∀i H,xs.length<=i->bL F H->J.stop i H
 yld:∀i H v H' x F2,xs[i]?=some x->bL F F2->bL F2 H->Gz rl F2 H->J.yld i H v H'->∃F3,Grow rl F2 H F3 H'/\Rep K F3 v x
theorem VIt.of{K:W.Frag}{rl:RlT}{J:It}(go:∀i H x,xs[i]?=some x->bL F H->J.go i H)(stop:∀i H,xs.length<=i->bL F H->J.stop i H)
 (yld:∀i H v H' x,xs[i]?=some x->bL F H->J.yld i H v H'->H'=H/\Rep K F v x):VIt K rl F J xs :=
 ⟨go,stop,fun i H v H' x F2 e s s2 ra y=>by
  obtain⟨e1,r⟩:=yld i H v H' x e (s.trans s2) y
  subst e1
  exact⟨F2,Grow.refl s2 ra,r.mono s⟩⟩
noncomputable def GJ(X:Cx)(rl:RlT)(tg iter:Expr)(fi:En->(List Hh->Prop)->Prop):Prop:=∃wi,PI X tg iter wi/\∀{F₀ H₀ F H:Hp}{σ:St}{ρ:En},VR X.K rl F₀ H₀ F H σ ρ->∀(Qd:List Hh->Prop)(R:It->Hp->Prop),fi ρ Qd ->
 (∀J xs F' H',Grow rl F H F' H'->VIt X.K rl F' J xs->Qd xs->R J H')->wi σ H R
end
section
variable{X:Cx}{rl:RlT}{st:Stmt}{rest body:List Stmt}{t u:Gj}{a b c e:Expr}{es:List Expr}{fa fb:TV}{fs:Gi}{f:TB}{pos p:Pos}{tg:Expr}
noncomputable def Ak(i:Nat)(t:Gj):Gj:=fun D ρ=>∃xs,ρ[i]?=some (some (.ml xs))/\t D (ρ.set i (some (.d (.list xs))))
theorem r_{K:W.Frag}{ρ:En}(r:VR K rl F₀ H₀ F H σ ρ)(e:ρ[i]?=some (some (.ml xs))):∃F1,bL F F1/\VR K rl F₀ H₀ F1 H σ (ρ.set i (some (.d (.list xs)))):=by
 obtain⟨v,h1,h2,h3⟩:=r.sl i _ e
 obtain⟨a,vs,ev,f,hr,hh,q⟩:=(show gZ K rl F H v xs from h2)
 obtain⟨F1,R1⟩:=r.freeze e
 obtain⟨v',k1,k2,k3⟩:=R1.sl i _ (Ii (HY.mp e).1)
 have neF:∀b u,F b=some u->b≠a:=fun b u q z=>by subst z;rw[f]at q;cases q
 have fsm:bL F (D8 F a (.lst vs)):=fun b u z=>by rw[am (neF b u z)];exact z
 have hi:i<ρ.length:=(HY.mp e).1
 refine⟨D8 F a (.lst vs),fsm,r.g.freeze (h3 a ev) hh f hr,fun j w e1=>?_,R1.ap,R1.np,R1.len⟩
 by_cases hj:i=j
 · subst hj
   rw[Ii hi]at e1
   cases e1
   exact⟨v,h1,by rw[ev];exact .lst au (q.mono fsm),trivial⟩
 · rw[Ib hj]at e1
   obtain⟨u,g1,g2,g3⟩:=r.sl j w e1
   refine⟨u,g1,?_,g3⟩
   cases w with
   | d x=>exact Rep.mono fsm g2
   | reel=>exact g2
   | vv u=>exact g2
   | ml ys =>
     obtain⟨b,us,eb,f1,f2,f3,f4⟩:=(show gZ K rl F H u ys from g2)
     have ne:b≠a:=fun z=>r.ap i j _ _ v hj e e1 rfl rfl h1 (by rw[g1,eb,z,ev])
     exact⟨b,us,eb,by rw[am ne];exact f1,f2,f3,f4.mono fsm⟩
   | pk ys=>exact absurd e1 (r.np j ys)
   | md ys =>
     obtain⟨b,us,eb,f1,f2,f3,f4⟩:=(show wH K rl F H u ys from g2)
     have ne:b≠a:=fun z=>r.ap i j _ _ v hj e e1 rfl rfl h1 (by rw[g1,eb,z,ev])
     exact⟨b,us,eb,by rw[am ne];exact f1,f2,f3,IQ.mapP f4 fun _ _ z=>⟨z.1,z.2.mono fsm⟩⟩
   | mk ys =>
     obtain⟨b,us,eb,f1,f2,f3,f4⟩:=(show wG K rl F H u ys from g2)
     have ne:b≠a:=fun z=>r.ap i j _ _ v hj e e1 rfl rfl h1 (by rw[g1,eb,z,ev])
     exact⟨b,us,eb,by rw[am ne];exact f1,f2,f3,IQ.mapP f4 fun _ _ z=>⟨z.1,z.2.mono fsm⟩⟩
   | nt ds=>obtain⟨b,us,eb,f1,f2⟩:=g2;exact⟨b,us,eb,fsm _ _ f1,f2.mono fsm⟩
   | lk=>trivial
   | sc ns=>obtain⟨b,eb,f1⟩:=g2;exact⟨b,eb,qR fsm f1⟩
   | fd kvs=>obtain⟨b,us,eb,f1,f2⟩:=g2;exact⟨b,us,eb,fsm _ _ f1,IQ.mapP f2 fun _ _ z=>⟨z.1,z.2.mono fsm⟩⟩
   | fw kvs=>obtain⟨b,us,o,eb,f1,f2⟩:=g2;exact⟨b,us,o,eb,fsm _ _ f1,IQ.mapP f2 fun _ _ z=>⟨z.1,z.2.mono fsm⟩⟩
   | ft kvs=>obtain⟨b,us,o,eb,f1,f2⟩:=g2;exact⟨b,us,o,eb,fsm _ _ f1,IQ.mapP f2 fun _ _ z=>⟨z.1,z.2.mono fsm⟩⟩
   | xc _ _=>obtain⟨b,dx,us,C,eb,n,f1,f3,f2⟩:=g2;exact⟨b,dx,us,C,eb,n,fsm _ _ f1,fsm _ _ f3,IQ.mapP f2 fun _ _ z=>⟨z.1,z.2.mono fsm⟩⟩
   | dp _ _=>obtain⟨c,b,us,u,o,eb,f1,f3,f2,z⟩:=g2;exact⟨c,b,us,u,o,eb,fsm _ _ f1,fsm _ _ f3,IQ.mapP f2 fun _ _ z=>⟨z.1,z.2.mono fsm⟩,z.mono fsm⟩
theorem ia(i:Nat)(h:GF X rl st t):GF X rl st (Ak i t):=by
 obtain⟨T,p,k⟩:=h
 refine⟨T,p,fun R Dv D ok ⟨xs,e,q⟩=>?_⟩
 obtain⟨F1,s1,R1⟩:=r_ R e
 exact k R1 Dv D (ok.on s1) q
noncomputable def iL(fa:TV):En->(List Hh->Prop)->Prop:=fun ρ Q=>fa ρ fun w=>∃xs,w.fz = .d (.list xs)/\Q xs
noncomputable def iT(fa:TV):En->(List Hh->Prop)->Prop:=fun ρ Q=>fa ρ fun w=>∃xs,w.fz = .d (.tuple xs)/\Q xs
theorem aJ{l:Expr}(hl:PV X rl l fa):GJ X rl tg l (iL fa):=by
 obtain⟨t,p,k⟩:=hl
 refine⟨_,oR p,fun R Qd Q q h=>k R _ _ q fun v w F1 H1 g1 r1 n1 ⟨xs,ew,q1⟩=>?_⟩
 obtain⟨F2,g2,s2,r2⟩:=di.fz g1 r1 n1
 rw[ew]at r2
 cases(show Rep X.K F2 v (.list xs)from r2)with
 | @lst a vs _ sq rs =>
   have sqH:∀H,bL F2 H->Gr X.K H a vs:=fun H s=>.inl (.inl (s _ _ sq))
   refine⟨a,rfl,⟨vs,sqH H1 g2.sub⟩,h _ xs F2 H1 g2 (.of (fun i H x e s=>?_) (fun i H hl s=>⟨vs,sqH H s,by rw[rs.length];exact hl⟩) (fun i H v H' x e s y=>?_)) q1⟩
   · obtain⟨v,ev,_⟩:=rs.get e
     exact⟨vs,v,sqH H s,ev⟩
   · obtain⟨e',hy⟩:=y
     obtain⟨v',ev,rv⟩:=rs.get e
     have:=hy vs (sqH H s)
     rw[ev]at this
     cases this
     exact⟨e',rv⟩
theorem dn{l:Expr}(hl:PV X rl l fa):GJ X rl tg l (iT fa):=by
 obtain⟨t,p,k⟩:=hl
 refine⟨_,yn p,fun R Qd Q q h=>k R _ _ q fun v w F1 H1 g1 r1 n1 ⟨xs,ew,q1⟩=>?_⟩
 obtain⟨F2,g2,s2,r2⟩:=di.fz g1 r1 n1
 rw[ew]at r2
 cases(show Rep X.K F2 v (.tuple xs)from r2)with
 | @tup a vs _ sq rs =>
   have sqH:∀H,bL F2 H->Gq X.K H a vs:=fun H s=>eI s sq
   refine⟨a,rfl,⟨vs,sqH H1 g2.sub⟩,h _ xs F2 H1 g2 (.of (fun i H x e s=>?_) (fun i H hl s=>⟨vs,sqH H s,by rw[rs.length];exact hl⟩) (fun i H v H' x e s y=>?_)) q1⟩
   · obtain⟨v,ev,_⟩:=rs.get e
     exact⟨vs,v,sqH H s,ev⟩
   · obtain⟨e',hy⟩:=y
     obtain⟨v',ev,rv⟩:=rs.get e
     have:=hy vs (sqH H s)
     rw[ev]at this
     cases this
     exact⟨e',rv⟩
noncomputable def be(lo:Int)(n:Nat):List Hh:=(Ip n).map fun(i:Nat)=>.int (lo+i)
theorem iz{lo:Int}{x:Hh}(h:(be lo n)[i]?=some x):i<n/\x = .int (lo+i):=by
 unfold be at h
 rw[Ix]at h
 by_cases hi:i<n
 · rw[HP (by simpa using hi)]at h
   simp at h
   exact⟨hi,h.symm⟩
 · rw[My (by simpa using hi)]at h
   cases h
theorem ci{lo:Int}:(be lo n).length=n:=by simp[be]
theorem nG{K:W.Frag}(lo:Int)(n:Nat):VIt K rl F (GZ lo n) (be lo n) :=
 .of (fun i H x e s=>(iz e).1) (fun i H hl s=>by rw[ci]at hl;exact hl) (fun i H v H' x e s y=>by
  obtain⟨e1,e2⟩:=y
  subst e2
  rw[(iz e).2]
  exact⟨e1,.int _⟩)
noncomputable def FG(fs:Gi):En->(List Hh->Prop)->Prop:=fun ρ Q=>fs ρ fun ws=>∃j:Int,ws=[.d (.int j)]/\(-(2^62)<=j/\j<2^62)/\Q (be 0 j.toNat)
theorem bT(hm:X.mg "range" = none)(ha:GB X rl [a] fs)(hg:Gl X "range" := by rfl)(hs:Hw [a] X.env=[(false,eval a X.env)]:=by rfl):GJ X rl tg (.Call (.Name "range" p) [a] [] pos) (FG fs):=by
 obtain⟨t,p1,k⟩:=ha
 refine⟨_,oQ hg hm p1 hs,fun R Qd Q q h=>k R _ _ q fun vs ws F1 H1 g1 r1 ⟨j,ew,b,q1⟩=>?_⟩
 subst ew
 obtain⟨v,rfl,rv⟩:=kP r1
 have e:=aQ rv
 subst e
 exact⟨j,rfl,b.1,b.2,h _ _ F1 H1 g1 (nG 0 _) q1⟩
theorem VR.own{K:W.Frag}{F₀ H₀ F H:Hp}{σ:St}{ρ:En}(r:VR K rl F₀ H₀ F H σ ρ){i:Nat}{xs ys:List Hh}{a:Addr}{us:List V}(e:ρ[i]?=some (some (.ml xs)))(es:σ[i]?=some (some (.ref a)))(rs:Reps K F us ys) :
 VR K rl F₀ H₀ F (D8 H a (.lst us)) σ (ρ.set i (some (.ml ys))):=by
 obtain⟨v,h1,h2,h3⟩:=r.sl i _ e
 rw[es]at h1
 cases h1
 obtain⟨a',vs,ev,f,hr,hh,q⟩:=(show gZ K rl F H (.ref a) xs from h2)
 cases ev
 have n0:H₀ a=none:=h3 a rfl
 have hi:i<ρ.length:=(HY.mp e).1
 have neF:∀b u,F b=some u->b≠a:=fun b u q z=>by subst z;rw[f]at q;cases q
 have g:Grow rl F₀ H₀ F (D8 H a (.lst us)):=by
  refine⟨fun b o q1 n=>by rw[am (aX q1 n0)];exact r.g.same b o q1 n,r.g.fs,fun b o q1=>by rw[am (neF b o q1)];exact r.sub b o q1,r.g.old,fun y z=>?_⟩
  obtain⟨z1,⟨u,h1,h2⟩⟩:=r.reel y z
  exact⟨z1,⟨u,by rw[am (fun q=>hr (by rw[<- q];exact z))];exact h1,h2⟩⟩
 refine⟨g,fun j w e1=>?_,fun j k ys' zs u hjk e1 e2 w1 w2 s1 s2=>?_,fun j ys' z=>?_,by simp[r.len]⟩
 · by_cases hj:i=j
   · subst hj
     rw[Ii hi]at e1
     cases e1
     exact⟨_,es,⟨a,us,rfl,f,hr,au,rs⟩,h3⟩
   · rw[Ib hj]at e1
     obtain⟨u,g1,g2,g3⟩:=r.sl j w e1
     refine⟨u,g1,?_,g3⟩
     cases w with
     | d x=>exact g2
     | reel=>exact g2
     | vv u=>exact g2
     | ml zs =>
       obtain⟨b,us',eb,f1,f2,f3,f4⟩:=(show gZ K rl F H u zs from g2)
       have ne:b≠a:=fun z=>r.ap i j _ _ (.ref a) hj e e1 rfl rfl es (by rw[g1,eb,z])
       exact⟨b,us',eb,f1,f2,by rw[am ne];exact f3,f4⟩
     | pk zs=>exact absurd e1 (r.np j zs)
     | md zs =>
       obtain⟨b,us',eb,f1,f2,f3,f4⟩:=(show wH K rl F H u zs from g2)
       have ne:b≠a:=fun z=>r.ap i j _ _ (.ref a) hj e e1 rfl rfl es (by rw[g1,eb,z])
       exact⟨b,us',eb,f1,f2,by rw[am ne];exact f3,f4⟩
     | mk zs =>
       obtain⟨b,us',eb,f1,f2,f3,f4⟩:=(show wG K rl F H u zs from g2)
       have ne:b≠a:=fun z=>r.ap i j _ _ (.ref a) hj e e1 rfl rfl es (by rw[g1,eb,z])
       exact⟨b,us',eb,f1,f2,by rw[am ne];exact f3,f4⟩
     | nt ds=>exact g2
     | lk=>trivial
     | sc _=>exact g2
     | fd _=>exact g2
     | fw _=>exact g2
     | ft _=>exact g2
     | xc _ _=>exact g2
     | dp _ _=>exact g2
 · have nd:∀(j:Nat)(z:W),(ρ.set i (some (W.ml ys)))[j]?=some (some z)->z.own=true->∃z',ρ[j]?=some (some z')/\z'.own=true:=fun j zs z o=>by
     by_cases hj:i=j
     · subst hj
       exact⟨_,e,rfl⟩
     · rw[Ib hj]at z
       exact⟨zs,z,o⟩
   obtain⟨_,d1,o1⟩:=nd j _ e1 w1
   obtain⟨_,d2,o2⟩:=nd k _ e2 w2
   exact r.ap j k _ _ u hjk d1 d2 o1 o2 s1 s2
 · rw[Jc]at z
   split at z
   · first|cases z|(split at z<;>cases z)
   · exact r.np j ys' z
noncomputable def zX(K:W.Frag)(rl:RlT)(r:V->List V->Hp->VK->Prop)(g:List Hh->List W->(List Hh->Prop)->Prop):Prop :=
 ∀ {F H:Hp}{a:Addr}{vs args:List V}{xs:List Hh}{ws:List W}(Qn:List Hh->Prop)(Q:VK),bL F H->H a=some (.lst vs)->Reps K F vs xs->fu K rl F H args ws->g xs ws Qn ->
   (∀us ys,Reps K F us ys->Qn ys->Q .non (D8 H a (.lst us)))->r (.ref a) args H Q
noncomputable def wA(i:Nat)(g:List Hh->List W->(List Hh->Prop)->Prop)(fs:Gi):Gj:=fun D ρ=>∃xs,ρ[i]?=some (some (.ml xs))/\fs ρ fun ws=>g xs ws fun ys=>D.nx (ρ.set i (some (.ml ys)))
theorem nD(i:Nat){nm:Str}{id:String}{r:V->List V->Hp->VK->Prop}{g:List Hh->List W->(List Hh->Prop)->Prop}(slot:Slot "list" nm id)(hty:typeOf (.builtin id)=pure (.type "method_descriptor"))(hm:GR X id r)(vm:zX X.K rl r g)(ha:GB X rl (e::es) fs)
 (hN:X.N[i]?=some x:=by rfl)(hv:Gc X.env.scope x:=by first|exact Js rfl|exact IR (Js rfl)|exact IR (IR rfl))
 (hd:(x==("__debug__" : Str))=false:=by decide)(hcd:(x==("__classdict__" : Str))=false:=by decide)
 (hbase:JR (.Name x px) nm X.env (eval (.Name x px) X.env)=eval (.Name x px) X.env:=by rfl)
 (hfew:((I0 cpos (Hw (e::es) X.env)).all (fun x=>!x.1)&&(Lx cpos (Kp [] X.env)).all (fun x=>x.1.isSome)
  && decide ((e::es).length+([]:List KC).length+(if([]:List KC).isEmpty then 0 else 1)<30))=true:=by rfl)
 (hline:(apos.endLine==cpos.line)=true:=by rfl)(hs:Hw (e::es) X.env=(false,eval e X.env)::Hw es X.env:=by rfl)(hplain:(I0 cpos (Hw es X.env)).any (·.1)=false:=by rfl)
 (hsw:Jr (.Call (.Attribute (.Name x px) nm apos) (e::es) [] cpos) none pos.line X.env=pure false:=by rfl) :
 GF X rl (.Expr (.Call (.Attribute (.Name x px) nm apos) (e::es) [] cpos) pos) (wA i g fs):=by
 obtain⟨t,p1,k⟩:=ha
 refine⟨_,kW (vb Kr slot hty hm (cQ hN hv hd hcd) p1 hbase hfew hline hs hplain) hsw,fun{F₀ H₀ F H σ ρ} R Dv D ok ⟨xs,e1,q⟩=>?_⟩
 obtain⟨v,h1,h2,h3⟩:=R.sl i _ e1
 obtain⟨a,vs,rfl,f,hr,hh,rs⟩:=(show gZ X.K rl F H v xs from h2)
 refine⟨.ref a,h1,.inl ⟨rfl,vs,.inl (.inl hh)⟩,k R _ _ q fun args ws F1 H1 g1 r1 q1=>?_⟩
 refine vm _ _ g1.sub (g1.same a _ hh hr) (rs.mono g1.fs) r1 q1 fun us ys r2 q2=>?_
 exact ok.nx _ _ _ _ g1.fs ((R.grow g1).own e1 h1 r2) q2
noncomputable def zU:List Hh->List W->(List Hh->Prop)->Prop:=fun xs ws Q=>∃x,gQ ws=some [x]/\xs.length<sizeLine/\Q (xs++[x])
theorem wR{K:W.Frag}:zX K rl oI zU:=fun{F H a vs args xs ws} Qn Q s ha rs ra ⟨x,e,z,q⟩ k=>by
 have r2:=cN ra e
 cases r2 with
 | cons rx r3 =>
   cases r3
   exact⟨a,vs,_,rfl,rfl,ha,by rw[rs.length];exact z,k _ _ (rs.snoc rx) q⟩
noncomputable def zR:List Hh->List W->(List Hh->Prop)->Prop:=fun xs ws Q=>∃ys,gQ ws=some [.list ys]/\xs.length+ys.length<=sizeLine/\Q (xs++ys)
theorem wQ{K:W.Frag}:zX K rl oH zR:=fun{F H a vs args xs ws} Qn Q s ha rs ra ⟨ys,e,z,q⟩ k=>by
 have r2:=cN ra e
 cases r2 with
 | cons rx r3 =>
   cases r3
   cases rx with
   | lst hb ry=>exact⟨a,_,vs,_,rfl,rfl,ha,s _ _ hb,by rw[rs.length,ry.length];exact z,k _ _ (rs.append ry) q⟩
theorem fv(i:Nat)(ha:GB X rl [e] fs)(hN:X.N[i]?=some x:=by rfl)(hv:Gc X.env.scope x:=by first|exact Js rfl|exact IR (Js rfl)|exact IR (IR rfl))
 (hd:(x==("__debug__" : Str))=false:=by decide)(hcd:(x==("__classdict__" : Str))=false:=by decide)
 (hbase:JR (.Name x px) "append" X.env (eval (.Name x px) X.env)=eval (.Name x px) X.env:=by rfl)
 (hfew:((I0 cpos (Hw [e] X.env)).all (fun x=>!x.1)&&(Lx cpos (Kp [] X.env)).all (fun x=>x.1.isSome)
  && decide (([e]).length+([]:List KC).length+(if([]:List KC).isEmpty then 0 else 1)<30))=true:=by rfl)
 (hline:(apos.endLine==cpos.line)=true:=by rfl)(hs:Hw [e] X.env=(false,eval e X.env)::Hw [] X.env:=by rfl)(hplain:(I0 cpos (Hw [] X.env)).any (·.1)=false:=by rfl)
 (hsw:Jr (.Call (.Attribute (.Name x px) "append" apos) [e] [] cpos) none pos.line X.env=pure false:=by rfl) :
 GF X rl (.Expr (.Call (.Attribute (.Name x px) "append" apos) [e] [] cpos) pos) (wA i zU fs) :=
 nD i L6 L7 eL wR ha hN hv hd hcd hbase hfew hline hs hplain hsw
noncomputable def eV:W->Bool
 | .ml _=>false
 | .md _=>false
 | .mk _=>false
 | .pk _=>false
 | _=>true
noncomputable def DZ(K:W.Frag)(rl:RlT)(P:List W->(Hh->Prop)->Prop):Sp:=fun vs H Q _=>∃F ws,bL F H/\Gz rl F H/\fu K rl F H vs ws/\ws.all eV=true/\P ws fun d=>∀v F' H',Grow rl F H F' H'->Rep K F' v d->Q v H'
noncomputable def du(N:List Str)(ws:List W):En:=ws.map some++Ih (N.length-ws.length) none
theorem jR{K:W.Frag}{F H:Hp}:∀{vs:List V}{ws:List W}{i:Nat}{w:W},fu K rl F H vs ws->ws[i]?=some w->∃v,vs[i]?=some v/\di K rl F H v w
 | _,_,_,_,.nil,e=>by simp at e
 | _,_,0,_,.cons h _,e=>by simp at e;subst e;exact⟨_,rfl,h⟩
 | _,_,i+1,w,.cons _ r,e=>by
   obtain⟨v,h1,h2⟩:=jR (i:=i) (w:=w) r (by simpa using e)
   exact⟨v,by simpa using h1,h2⟩
theorem jF{ws:List W}{w:W}(h:(du N ws)[i]?=some (some w)):ws[i]?=some w:=by
 unfold du at h
 by_cases hi:i<ws.length
 · rw[KP (by simpa using hi),Ix]at h
   cases q:ws[i]? with
   | none=>rw[q]at h;cases h
   | some x=>rw[q]at h;cases h;rfl
 · rw[LN (by simpa using hi),Ma]at h
   split at h<;>cases h
theorem fY{K:W.Frag}{ws:List W}(s:bL F H)(ra:Gz rl F H)(r:fu K rl F H vs ws)(ok:ws.all eV=true):VR K rl F H F H (start N vs) (du N ws):=by
 have hl:vs.length=ws.length:=Kl r
 have no:∀(i:Nat) w,(du N ws)[i]?=some (some w)->eV w=true:=fun i w e=>(Jy.mp ok) w (JP (jF e))
 refine⟨Grow.refl s ra,fun i w e=>?_,fun i j xs ys v _ e1 _ o _ _ _=>(by have:=no i _ e1;cases xs<;>first|exact Bool.noConfusion o|exact Bool.noConfusion this),fun i xs e=>(by have:=no i _ e;cases this),?_⟩
 · obtain⟨v,h1,h2⟩:=jR r (jF e)
   refine⟨v,?_,h2,?_⟩
   · unfold start
     rw[KP (by simpa using(HY.mp h1).1),Ix,h1]
     rfl
   · have:=no i w e
     cases w with
     | ml xs=>cases this
     | md xs=>cases this
     | mk xs=>cases this
     | nt _=>trivial
     | lk=>trivial
     | sc _=>trivial
     | fd _=>trivial
     | fw _=>trivial
     | ft _=>trivial
     | xc _ _=>trivial
     | dp _ _=>trivial
     | d _=>trivial
     | pk _=>trivial
     | reel=>trivial
     | vv _=>trivial
 · unfold du start
   simp[hl]
noncomputable def qJ(Q:Hh->Prop):VEnds:=⟨fun _=>Q .none,fun w=>∃d,w.fz = .d d/\Q d,fun _=>False,fun _=>False⟩
theorem D0{w:IV}{K:W.Frag}{base:Heap}{st:Stmt}{fa:Addr}{ps:List Str}{k:Nat}{Pd:List W->(Hh->Prop)->Prop}{t:Gj}
 (Fn:Fun K x qual st fa fd)(S:FnScope N ps (defScope st))(len:∀ws Q,Pd ws Q->ws.length=ps.length)
 (hbody:∀(cdv:Hq)(A:IU)(outer:List Env)(s:Hv)(H:Hp)(E:XK),Room k (A.deeper (Mh qual (defScope st) s.heap.objs.size fa cdv)) ->
  ly (p5 G8 P w K mg base N qual (defScope st) fa cdv A outer s H E).nox rl (defBody st) t)
 (hread:∀ws Q,Pd ws Q->t (qJ Q) (du N ws)):FnOk P w K mg base G8 (k+1) fa fd ps (DZ K rl Pd):=by
 refine Fn.ok S (fun vs H Q E ⟨F,ws,_,_,r,_,q⟩=>(Kl r).trans (len ws _ q)) fun cdv A outer s H vs Q E hr h=>?_
 obtain⟨F,ws,sm,ra,r,ok,q⟩:=h
 obtain⟨T,p,kk⟩:=hbody cdv A outer s H E hr
 refine⟨T,p,kk (fY sm ra r ok) (qJ _) _ ⟨?_,?_,fun _ _ _ _ _ _ z=>Jb z,fun _ _ _ _ _ _ z=>Jb z⟩ (hread ws _ q)⟩
 · intro F1 H1 σ1 ρ1 _ R1 q1
   exact q1 .non F1 H1 R1.g .non
 · rintro v w1 F1 H1 g1 r1 n1 ⟨d,ed,q1⟩
   obtain⟨F2,g2,s2,r2⟩:=di.fz g1 r1 n1
   rw[ed]at r2
   exact q1 v F2 H1 g2 r2
structure Dfn (P:Ij) (w:IV) (K:W.Frag) (mg:Str->Option Hq) (base:Heap) (rl:RlT) (x:Str) (ps:List Str) (k:Nat) (Pd:List W->(Hh->Prop)->Prop):Prop where
 mono:∀ws Q Q',(∀d,Q d->Q' d)->Pd ws Q->Pd ws Q'
 ex:∃f fd,mg x=some (.ref f)/\W.keepIn K (.ref f)=true/\Binds K fd ps []/\FnOk P w K mg base G8 k f fd ps (DZ K rl Pd)
noncomputable def Ac(Pd:List W->(Hh->Prop)->Prop)(fs:Gi):TV:=fun ρ Q=>fs ρ fun ws=>ws.all eV=true/\Pd ws fun d=>Q (.d d)
theorem ak{ps:List Str}{k:Nat}{Pd:List W->(Hh->Prop)->Prop}(D:Dfn X.prog X.w X.K X.mg X.base rl x ps k Pd)(hr:Room k X.A)(ha:GB X rl (e::es) fs)(hg:Gl X x:=by rfl)
 (hdb:(x==("__debug__" : Str))=false:=by decide)(he:Hw (e::es) X.env=(false,eval e X.env)::Hw es X.env:=by rfl)(hpl:(I0 pos (Hw es X.env)).any (·.1)=false:=by rfl) :
 PV X rl (.Call (.Name x p) (e::es) [] pos) (Ac Pd fs):=by
 obtain⟨f,fd,hm,hk,hb,F⟩:=D.ex
 obtain⟨t,p1,kk⟩:=ha
 refine⟨_,jb F hr hg hm hk hb .nil ro p1 hdb he hpl,fun R Qd Q q h=>kk R _ _ q fun vs ws F1 H1 g1 r1 ⟨ok,q1⟩=>?_⟩
 refine⟨F1,ws,g1.sub,g1.reel,by rw[JX];exact r1,ok,?_⟩
 exact D.mono ws _ _ (fun d qd v F2 H2 g2 r2=>h v (.d d) F2 H2 (g1.trans g2) r2 trivial qd) q1
end
end L2.VL
variable{w:L2.VL.W}{rl:L2.VL.RlT}{ρ:L2.VL.En}{fi:L2.VL.En->(List Hh->Prop)->Prop}
namespace L2
theorem fq{env:Env}:∀(names:List (Str×KZ))(acc:List (Str×Addr)),(∀x∈names,x.2 = .free->∃c,env.cells.lookup x.1=some c)->(∀x c,acc.lookup x=some c->env.cells.lookup x=some c) ->
 ∃ cl,(forIn names acc (fun(x:Str×KZ)(cs:List (Str×Addr))=>if(x.2==IN)=true then do let c <- cellOf env x.1;pure (LG ((x.1,c)::cs))else pure (LG cs)):Sem (List (Str×Addr)))=pure cl /\
   (∀x c,cl.lookup x=some c->env.cells.lookup x=some c)/\(∀x,(acc.lookup x).isSome=true->(cl.lookup x).isSome=true)/\∀x,(x,IN)∈names->(cl.lookup x).isSome=true
 | [],acc,_,h2=>⟨acc,rfl,h2,fun _ z=>z,fun _ z=>nomatch z⟩
 | (n,k)::r,acc,h1,h2=>by
   by_cases hk:k = .free
   · subst hk
     obtain⟨c,hc⟩:=h1 (n,.free) Hy rfl
     have h2':∀x c',((n,c)::acc).lookup x=some c'->env.cells.lookup x=some c':=fun x c' z=>by
      rw[IM]at z
      cases e:x==n with
      | true =>
        rw[e]at z
        have e':x=n:=by simpa using e
        cases z
        rw[e']
        exact hc
      | false =>
        rw[e]at z
        exact h2 x c' z
     obtain⟨cl,e,g1,g2,g3⟩:=fq r ((n,c)::acc) (fun x hx=>h1 x (Ht _ hx)) h2'
     refine⟨cl,?_,g1,fun x z=>g2 x ?_,fun x z=>?_⟩
     · rw[List.forIn_cons]
       simp only[beq_self_eq_true,if_true]
       have e0:cellOf env n=pure c:=by unfold cellOf;rw[hc]
       rw[e0,pure_bind,pure_bind]
       exact e
     · rw[IM]
       split
       · rfl
       · exact z
     · rcases HN.mp z with z|z
       · cases z
         refine g2 _ ?_
         rw[IM]
         simp
       · exact g3 x z
   · obtain⟨cl,e,g1,g2,g3⟩:=fq r acc (fun x hx=>h1 x (Ht _ hx)) h2
     refine⟨cl,?_,g1,g2,fun x z=>?_⟩
     · rw[List.forIn_cons]
       have hb:(k==IN)=false:=by simpa using hk
       simp only[hb,IT,if_false]
       rw[pure_bind]
       exact e
     · rcases HN.mp z with z|z
       · cases z;exact absurd rfl hk
       · exact g3 x z
theorem cq{env:Env}(h:∀x∈scope.names,x.2 = .free->∃c,env.cells.lookup x.1=some c) :
 ∃cl,closureFor scope env=pure cl/\(∀x c,cl.lookup x=some c->env.cells.lookup x=some c)/\∀x,(x,IN)∈scope.names->(cl.lookup x).isSome=true:=by
 obtain⟨cl,e,g1,_,g3⟩:=fq scope.names [] h (fun _ _ z=>by cases z)
 refine⟨cl,?_,g1,g3⟩
 unfold closureFor
 first
  | exact e
  | (simp only[bind_pure];exact e)
theorem jQ{env:Env}(h:(NQ scope env).names.lookup x=some .cell\/(NQ scope env).names.lookup x=some .free):(x,IN)∈scope.names\/(x,JS)∈scope.names:=by
 have key:∀names:List (Str×KZ),∀k,(k = .cell\/k = .free) ->
  (names.map fun(n,k)=>if(k==IN&&env.scope.kind == .function&&env.kindOf n==some .cell)then(n,JS)else(n,k)).lookup x=some k->(x,IN)∈names\/(x,JS)∈names:=by
  intro names
  induction names with
  | nil=>intro k _ z;cases z
  | cons y r ih =>
    intro k hk z
    obtain⟨n,kn⟩:=y
    have step:((x,IN)∈r\/(x,JS)∈r)->((x,IN)∈(n,kn)::r\/(x,JS)∈(n,kn)::r):=fun z=>z.imp (Ht _) (Ht _)
    rw[IF]at z
    dsimp only at z
    by_cases hc:(kn==IN&&env.scope.kind == .function&&env.kindOf n==some .cell)=true
    · rw[if_pos hc,IM]at z
      have hf:kn = .free:=by
       have:=(Hz.mp (Hz.mp hc).1).1
       simpa using this
      cases e:x==n with
      | true =>
        have e':x=n:=by simpa using e
        rw[e',<- hf]
        exact .inl Hy
      | false =>
        rw[e]at z
        exact step (ih k hk z)
    · rw[if_neg hc,IM]at z
      cases e:x==n with
      | true =>
        rw[e]at z
        have e':x=n:=by simpa using e
        cases z
        rcases hk with hk|hk
        · rw[e',hk];exact .inr Hy
        · rw[e',hk];exact .inl Hy
      | false =>
        rw[e]at z
        exact step (ih k hk z)
 rcases h with h|h
 · exact key scope.names .cell (.inl rfl) h
 · exact key scope.names .free (.inr rfl) h
theorem bI:∀(names:List (Str×KZ))(n:Nat)(acc:List (Str×Addr)),JA n names acc=JA n names []++acc
 | [],_,_=>rfl
 | (x,k)::r,n,acc=>by
   unfold JA
   split
   · rw[bI r (n+1) ((x,n)::acc),bI r (n+1) [(x,n)],KG]
     rfl
   · exact bI r n acc
theorem de{x:Str}{c:Addr}:∀{names:List (Str×KZ)}{n:Nat},(x,c)∈JA n names []->(x,JS)∈names
 | (y,k)::r,n,h=>by
   unfold JA at h
   split at h
   · rename_i hk
     rw[bI]at h
     rcases Ik.mp h with h|h
     · exact Ht _ (de h)
     · simp at h
       have:k = .cell:=by simpa using hk
       rw[h.1,this]
       exact Hy
   · exact Ht _ (de h)
theorem fg{a b:List (Str×Addr)}:(a++b).lookup x=(a.lookup x).or (b.lookup x):=by
 induction a with
 | nil=>simp
 | cons y a ih =>
   obtain⟨n,c⟩:=y
   rw[Lq,IM,IM]
   cases x==n<;>simp[ih]
theorem kZ{M:Model}{globals:Addr}{o:Env}{Q:Env->Hv->Prop}
 (hQ:Q {scope,locals:=s.heap.objs.size,globals,cells:=JA (s.heap.objs.size+1) scope.names cl,qual,func:=none,code:=o.code,frame:=o.frame,builtins:=o.builtins} {s with heap:=NF (s.heap.push {cls:=.type "dict", data:=.dict #[]}) scope.names}) :
 Ia M A (Lj scope globals cl [] qual none .none (some o)) Q E s:=by
 simp only[Lj,Option.isSome_some,if_true]
 refine Hl (wpAny_alloc ?_)
 refine Hl (wpAny_layCells _ (fun name kind cells=>by cases hkc:kind==JS<;>simp[hkc]) _ _ _ _ ?_)
 rw[show({s with heap:=s.heap.push {cls:=.type "dict", data:=.dict #[]}}:Hv).heap.objs.size=s.heap.objs.size+1 from Kw ..]
 exact Hl (HD (HD hQ))
noncomputable def bf(X:Cx)(N':List Str)(scope:Scope)(cl:List (Str×Addr))(fp:List Addr)(pn:List (Addr×Obj))(s:Hv)(H:Hp):Cx :=
 {X with N:=N',s₀:=s,H₀:=H,env:={compEnvC scope cl s.heap.objs.size X.env with cells:=JA (s.heap.objs.size+1) scope.names cl},outer:=X.stack,ex:=fp,fn:=fun x=>scope.names.lookup x==some .cell,pn:=pn,xe:=fun _ _=>False}
abbrev dS(ifs:List Expr)(env:Env):Sem Bool:=forIn ifs true fun c r=>if r=true then do let ok <- isTrue c env (eval c env);pure (LG ok)else pure (LG r)
noncomputable def GD(X:Cx)(ifs:List Expr)(t:TT):Prop :=
 ∀(pins:List (Addr×Obj))(s:Hv)(σ:St)(H:Hp)(Q:Bool->Hp->Prop),Inv X pins σ H s->t σ H Q->Ia (Il X.prog X.w) X.A (dS ifs X.env) (TP X pins σ Q) X.xe s
theorem uQ:GD X [] (fun _ H Q=>Q true H):=fun _ _ _ H _ I h=>wpAny_tests_nil ⟨H,I,h⟩
theorem uP{t:TT}(h:PT X c t):GD X [c] t:=fun pins s σ H Q I hw=>wpAny_tests_one (h pins s σ H Q I hw)
theorem p8{prog:Ij}{w:IV}{R:NC->Hv->Prop}{elt target:Expr}{it acc:Hq}{env:Env}(I:Nat->Hv->Prop)
 (turn:∀n s,I n s->Ia (Il prog w) A (Mw it) (fun r s₁=>(r=none/\R (.ok .next) s₁)\/∃v,r=some v /\
  Ia (Il prog w) A (JG target it v) (fun _ s₂=>Ia (Il prog w) A (KM target env v) (fun _ s₃=>Ia (Il prog w) A (dS ifs env) (fun ok s₄ =>
   if ok=true then Ia (Il prog w) A (eval elt env) (fun x s₅=>Ia (Il prog w) A (call (.builtin "list.append") [acc,x]) (fun _ s₆=>∃m,m<n/\I m s₆) (fun _ _=>False) s₅) (fun _ _=>False) s₄
   else ∃m,m<n/\I m s₄) (fun _ _=>False) s₃) (fun _ _=>False) s₂) (fun _ _=>False) s₁) (fun _ _=>False) s)
 (n:Nat)(h:I n s):JW (Il prog w) A (.compLoop (.ListComp elt [⟨target,iter,ifs,0⟩] scope pos) 0 it acc env) R s:=by
 refine Mz rfl I (fun n s hI=>?_) n h
 show Ia _ A ((Nf (.ListComp elt [⟨target,iter,ifs,0⟩] scope pos) 0 it acc env).onRaise (fun x=>do Ng x env;LH x)) _ _ s
 refine M1 ?_
 rw[compTurn_list]
 refine Hl (Jq (Hl (Is (turn n s hI) (fun r s₁ h₁=>?_) fun _ _ h'=>h'.elim)))
 rcases h₁ with⟨rfl,h₁⟩|⟨v,rfl,h₁⟩
 · exact HD h₁
 · refine Hl (Is h₁ (fun _ s₂ h₂=>Hl (Is h₂ (fun _ s₃ h₃=>Hl (Is h₃ (fun ok s₄ h₄=>?_) fun _ _ z=>z.elim)) fun _ _ z=>z.elim)) fun _ _ z=>z.elim)
   cases ok with
   | false=>exact HD ⟨rfl,h₄⟩
   | true=>exact Hl (Hl (Is h₄ (fun x s₅ h₅=>Hl (Is h₅ (fun _ s₆ h₆=>HD (HD ⟨rfl,h₆⟩)) fun _ _ z=>z.elim)) fun _ _ z=>z.elim))
noncomputable def nA(fr:List (Option Nat))(σ:St):St:=fr.map fun o=>o.bind fun j=>(σ[j]?).join
noncomputable def lg(fr:List (Option Nat))(N' N:List Str)(sc scX:Scope):Bool :=
 decide (fr.length=N'.length)&&(Ip fr.length).all fun i=>match fr[i]? with
  | some (some j)=>match N'[i]? with
    | some x=>decide (N[j]?=some x)&&decide (sc.names.lookup x=some .free)&&(decide (scX.names.lookup x=some .cell)||decide (scX.names.lookup x=some .free))
    | none=>false
  | _=>true
noncomputable def lK(sc scX:Scope):Bool :=
 decide (sc.kind = .function)&&sc.names.all fun y=>(decide (y.2 ≠ .cell)||decide (sc.names.lookup y.1=some .cell))&&(decide (y.2 ≠ .local)||decide (sc.names.lookup y.1=some .local)) &&
  (decide (y.2 ≠ .free)||(decide (scX.names.lookup y.1=some .cell)||decide (scX.names.lookup y.1=some .free)))
theorem lg.get{fr:List (Option Nat)}{sc scX:Scope}(h:lg fr N' N sc scX=true):fr.length=N'.length/\∀(i j:Nat),fr[i]?=some (some j)->∃x,N'[i]?=some x/\N[j]?=some x/\sc.names.lookup x=some .free/\(scX.names.lookup x=some .cell\/scX.names.lookup x=some .free):=by
 unfold lg at h
 obtain⟨h1,h2⟩:=Hz.mp h
 refine⟨of_decide_eq_true h1,fun i j e=>?_⟩
 have hi:i<fr.length:=(HY.mp e).1
 have q:=Jy.mp h2 i (JU.mpr hi)
 rw[e]at q
 dsimp only at q
 cases en:N'[i]? with
 | none=>rw[en]at q;cases q
 | some x =>
   rw[en]at q
   dsimp only at q
   obtain⟨q1,q2⟩:=Hz.mp q
   obtain⟨q3,q4⟩:=Hz.mp q1
   exact⟨x,rfl,of_decide_eq_true q3,of_decide_eq_true q4,(HW.mp q2).imp of_decide_eq_true of_decide_eq_true⟩
theorem nh{k:KZ}:∀{names:List (Str×KZ)},names.lookup x=some k->(x,k)∈names:=fun h=>IZ h
structure CompA where
 cl:List (Str×Addr)
 fp:List Addr
 pn:List (Addr×Obj)
 s:Hv
 H:Hp
abbrev blk(X:Cx)(N':List Str)(scope:Scope)(y:CompA):Cx:=bf X N' scope y.cl y.fp y.pn y.s y.H
noncomputable def qM(wi:TI)(fr:List (Option Nat))(g:CompA->TG)(tt:CompA->TT)(te:CompA->TE):TE:=fun σ H Q=>wi σ H fun J H1=>∀D,H1 D=none->∃Wv:Nat->Nat->List V->St->Hp->Prop,(∃m,Wv 0 m [] (nA fr σ) (D8 H1 D (.lst []))) /\
 ∀ (z:CompA) i m acc σc H,Wv i m acc σc H->(J.stop i H/\Q (.ref D) H)\/(J.go i H/\∀x H',J.yld i H x H'->g z x σc H' fun σ2 H2=>tt z σ2 H2 fun b H3 =>
   if b=true then te z σ2 H3 fun y H4=>H4 D=some (.lst acc)/\acc.length<sizeLine/\∃m',m'<m/\Wv (i+1) m' (acc++[y]) σ2 (D8 H4 D (.lst (acc++[y])))else ∃m',m'<m/\Wv (i+1) m' acc σ2 H3)
theorem fE{env:Env}:∀{names:List (Str×KZ)}{x:Str},names.lookup x=some .free ->
 (names.map fun(n,k)=>if(k==IN&&env.scope.kind == .function&&env.kindOf n==some .cell)then(n,JS)else(n,k)).lookup x=some .cell \/
 (names.map fun(n,k)=>if(k==IN&&env.scope.kind == .function&&env.kindOf n==some .cell)then(n,JS)else(n,k)).lookup x=some .free
 | [],_,h=>by simp at h
 | (n,k)::r,x,h=>by
   have ih:=@fE env r x
   rw[IF]
   dsimp only
   cases hx:x==n with
   | true =>
     simp only[IM,hx]at h
     cases h
     by_cases hc:((IN==IN)&&env.scope.kind == .function&&env.kindOf n==some .cell)=true
     · rw[if_pos hc];simp[IM,hx]
     · rw[if_neg hc];simp[IM,hx]
   | false =>
     simp only[IM,hx]at h
     by_cases hc:(k==IN&&env.scope.kind == .function&&env.kindOf n==some .cell)=true
     · rw[if_pos hc];simp only[IM,hx];exact ih h
     · rw[if_neg hc];simp only[IM,hx];exact ih h
theorem db{ex:Expr}{H3:Hp}{s3:Hv}{D:Addr}{J:It}{Q:VK}
 (N':List Str)(fr:List (Option Nat))(hc:X.calm=true)(hkind:scope.kind = .function)(hcell:∀y∈scope.names,y.2 = .cell->scope.names.lookup y.1=some .cell)
 (hfree:∀y∈scope.names,y.2 = .free->X.env.kindOf y.1=some .cell\/X.env.kindOf y.1=some .free)(frl:fr.length=N'.length)
 (frg:∀(i j:Nat),fr[i]?=some (some j)->∃x,N'[i]?=some x/\X.N[j]?=some x/\scope.names.lookup x=some .free/\(X.env.scope.names.lookup x=some .cell\/X.env.scope.names.lookup x=some .free))
 (cl1:∀x c,cl.lookup x=some c->X.env.cells.lookup x=some c)(cl2:∀x,(x,IN)∈scope.names->(cl.lookup x).isSome=true)
 (I3:Inv X pins σ H3 s3)(T:Turn X.prog X.w X.K tg J fp it tn)(tn3:tn 0 s3.heap)(fpD:∀b∈fp,H3 b=none)(fp3:∀b∈fp,b<s3.heap.objs.size)
 (fpk:∀b∈fp,b≠X.env.locals/\b∉X.fs/\(b∈X.ex\/X.s₀.heap.objs.size<=b)/\(∀x c,X.env.cells.lookup x=some c->c≠b)/\∀p∈X.pn++pins,p.1≠b)
 (loop:∀s',Inv (bf X N' scope cl fp (X.pn++pins) s3 H3) [] (nA fr σ) H3 s'->tn 0 s'.heap->(∀{H':Hp},(∀b∈fp,H' b=none)->∀b∈fp,kE (bf X N' scope cl fp (X.pn++pins) s3 H3) [] H' b) ->
  JW (Il X.prog X.w) X.A (.compStart ex 0 (.ref it) (.ref D) (bf X N' scope cl fp (X.pn++pins) s3 H3).env) (fun r s5=>r = .ok .next/\∃σ5 H4,Inv (bf X N' scope cl fp (X.pn++pins) s3 H3) [] σ5 H4 s5/\Q (.ref D) H4) s')
 (fin:∀s5 H4 m,s5.heap.Ns s3.heap.objs.size m->(∀h',Kj s3.heap.objs.size s5.heap h'->Inv X pins σ H4 {s5 with heap:=h' })->kE X pins H4 s3.heap.objs.size->Q (.ref D) H4->Rp s3.heap.objs.size (.ok .next) s5) :
 Ia (Il X.prog X.w) X.A (Lj scope X.env.globals cl [] X.env.qual none .none (some X.env)) (fun cenv s₄ =>
  JW (Il X.prog X.w) X.A (.compStart ex 0 (.ref it) (.ref D) {cenv with scope:=NQ scope X.env})
   (Rp cenv.locals) s₄) X.xe s3:=by
 refine kZ ?_
 have ok:=cellsFrom_ok scope.names (s3.heap.push {cls:=.type "dict", data:=.dict #[]}) (s3.heap.objs.size+1) [] ⟨fun _ _ hm=>(nomatch hm),L5⟩ (by rw[Kw];exact Hs _)
 rw[Kw]at ok
 have kp:∀b o,s3.heap.get? b=some o->(NF (s3.heap.push {cls:=.type "dict", data:=.dict #[]}) scope.names).get? b=some o:=fun b o e=>pushCells_keeps _ _ b o (Hm _ e)
 have hns₁:(NF (s3.heap.push {cls:=.type "dict", data:=.dict #[]}) scope.names).Ns s3.heap.objs.size (fun _=>none):=(Heap.Ns.new s3.heap (.type "dict")).keeps (pushCells_keeps _ _)
 generalize NF (s3.heap.push {cls:=.type "dict", data:=.dict #[]}) scope.names=h₁ at ok kp hns₁ ⊢
 have cs:∀x c,(JA (s3.heap.objs.size+1) scope.names cl).lookup x=some c->(JA (s3.heap.objs.size+1) scope.names []).lookup x=some c\/cl.lookup x=some c:=fun x c e=>by
  rw[bI,fg]at e
  cases q:(JA (s3.heap.objs.size+1) scope.names []).lookup x with
  | none=>rw[q]at e;exact .inr (by simpa using e)
  | some c'=>rw[q]at e;exact .inl (by simpa using e)
 have own:∀x c,(JA (s3.heap.objs.size+1) scope.names []).lookup x=some c->h₁.IsCell c none/\s3.heap.objs.size+1<=c:=fun x c e=>ok.empty x c (IZ e)
 have clt:∀x c,cl.lookup x=some c->c<s3.heap.objs.size:=fun x c e=>by
  obtain⟨v,o,ho,_⟩:=I3.cell x c (cl1 x c e)
  exact HJ ho
 have frn:∀x,scope.names.lookup x=some .free->(JA (s3.heap.objs.size+1) scope.names []).lookup x=none:=fun x e=>by
  cases q:(JA (s3.heap.objs.size+1) scope.names []).lookup x with
  | none=>rfl
  | some c =>
    have:=hcell (x,.cell) (de (IZ q)) rfl
    rw[e]at this
    cases this
 have notC:∀b o,s3.heap.get? b=some o->b≠s3.heap.objs.size:=fun b o e=>Im (HJ e)
 have fpstk:∀b∈fp,b∉frs X.stack:=fun b hb z=>(HN.mp (I3.stkSub b z)).elim (fpk b hb).1 (fpk b hb).2.1
 have cellK:∀c v,s3.heap.IsCell c v->h₁.IsCell c v:=fun c v ⟨o,ho,hd⟩=>⟨o,kp c o ho,hd⟩
 have IY:Inv (bf X N' scope cl fp (X.pn++pins) s3 H3) [] (nA fr σ) H3 {s3 with heap:=h₁}:=by
  refine⟨⟨I3.ok.mod,hkind,I3.ok.glob,I3.ok.blt,Hs _,fun x y c e1 e2=>?_,fun x hx=>?_,fun x c _ e=>?_,I3.ok.hd,I3.ok.frames,.inl rfl,
   fun b hb=>⟨Im (fp3 b hb),fun x c e=>?_⟩,I3.bs,HX I3.ok.bsz I3.sz,fun b o e hb=>?_,fun b hb=>fpstk b hb,I3.stack,I3.stkFree⟩,
   rfl,I3.bare,Un.kept kp,⟨_,hns₁,fun i x v e1 e2 e3=>?_⟩,fun x c e=>?_,I3.hok.fresh (Hs _),fun x c e=>?_,fun p hp=>?_,I3.hok.kept kp,?_⟩
  · rcases cs x c e1 with q1|q1<;>rcases cs y c e2 with q2|q2
    · exact name_of_addr ok.apart (IZ q1) (IZ q2)
    · exact absurd (Hr (clt y c q2) (KH (own x c q1).2)) (JF _)
    · exact absurd (Hr (clt x c q1) (KH (own y c q2).2)) (JF _)
    · exact I3.ok.inj x y c (cl1 x c q1) (cl1 y c q2)
  · refine Kd.mp ?_
    show((JA (s3.heap.objs.size+1) scope.names cl).lookup x).isSome=true
    rcases jQ hx with q|q
    · exact W.cellsFrom_some _ _ _ (.inr (cl2 x q))
    · exact W.cellsFrom_some _ _ _ (.inl (hcell _ q rfl))
  · rename_i hfn
    rcases cs x c e with q|q
    · have:=(own x c q).2
      show s3.heap.objs.size<=c
      omega
    · have hfn:(scope.names.lookup x==some JS)=true:=hfn
      have hl:scope.names.lookup x=some .cell:=by simpa using hfn
      obtain⟨c',ec'⟩:=Kd.mp (W.cellsFrom_some scope.names (s3.heap.objs.size+1) [] (.inl hl))
      have e':(JA (s3.heap.objs.size+1) scope.names cl).lookup x=some c:=e
      rw[bI,fg,ec']at e'
      simp at e'
      subst e'
      exact KH (own x c' ec').2
  · rcases cs x c e with q|q
    · exact fun z=>absurd (Hr (fp3 b hb) (KH (by rw[<- z];exact(own x c q).2))) (JF _)
    · exact(fpk b hb).2.2.2.1 x c (cl1 x c q)
  · rcases(fpk b hb).2.2.1 with z|z
    · exact I3.ok.noex b o e z
    · exact absurd (Hr (HJ e) (HX I3.ok.bsz z)) (JF _)
  · have e2':(fr[i]?).map (fun o=>o.bind fun j=>(σ[j]?).join)=some (some v):=by unfold nA at e2;rw[Ix]at e2;exact e2
    cases ef:fr[i]? with
    | none=>rw[ef]at e2';cases e2'
    | some o =>
      cases o with
      | none=>rw[ef]at e2';cases e2'
      | some j =>
        rw[ef]at e2'
        have e3':(σ[j]?).join=some v:=IJ e2'
        have e4:σ[j]?=some (some v):=by
         cases q:σ[j]? with
         | none=>rw[q]at e3';cases e3'
         | some z=>rw[q]at e3';cases e3';rfl
        obtain⟨x',n1,n2,n3,n4⟩:=frg i j ef
        have ex:x'=x:=IJ (n1.symm.trans e1)
        subst ex
        obtain⟨m,hn,hl⟩:=I3.loc
        obtain⟨u,ru,lk⟩:=hl j x' v n2 e4 (n4.elim (fun z=>.inr (.inl z)) fun z=>.inr (.inr z))
        refine⟨u,ru,?_⟩
        rcases lk with⟨kl,_⟩|⟨_,c,ec,hcl⟩
        · exact absurd (show X.env.scope.names.lookup x'=some .local from kl) (by rcases n4 with z|z<;>rw[z]<;>decide)
        · obtain⟨c',ec'⟩:=Kd.mp (cl2 x' (nh n3))
          have:=cl1 x' c' ec'
          rw[ec]at this
          cases this
          refine .inr ⟨fE n3,c,?_,cellK _ _ hcl⟩
          show(JA (s3.heap.objs.size+1) scope.names cl).lookup x'=some c
          rw[bI,fg,frn x' n3]
          simpa using ec'
  · rcases cs x c e with q|q
    · exact⟨_,(own x c q).1⟩
    · obtain⟨v,z⟩:=I3.cell x c (cl1 x c q)
      exact⟨v,cellK _ _ z⟩
  · rcases cs x c e with q|q
    · exact I3.hok.fresh (by have:=(own x c q).2;omega)
    · exact I3.freeC x c (cl1 x c q)
  · rw[JX]at hp
    obtain⟨e,n,ne,nf,d⟩:=I3.pin p hp
    exact⟨kp _ _ e,n,notC _ _ e,fun z=>(HN.mp (I3.stkSub p.1 z)).elim ne nf,d⟩
  · unfold nA
    rw[Hu]
    exact frl
 have stat:∀{H':Hp},(∀b∈fp,H' b=none)->∀b∈fp,kE (bf X N' scope cl fp (X.pn++pins) s3 H3) [] H' b:=fun hn b hb =>
  ⟨hn b hb,Im (fp3 b hb),fpstk b hb,.inl hb,fun x c e=>(by
   rcases cs x c e with q|q
   · exact fun z=>absurd (Hr (fp3 b hb) (KH (by rw[<- z];exact(own x c q).2))) (JF _)
   · exact(fpk b hb).2.2.2.1 x c (cl1 x c q)),fun p hp=>by rw[JX]at hp;exact(fpk b hb).2.2.2.2 p hp⟩
 refine LS (loop _ IY (T.keep _ _ _ tn3 fun b _ o e=>kp b o e) stat) fun r s5 ⟨hr,σ5,H4,I5,qn⟩=>?_
 subst hr
 obtain⟨m,hn,_⟩:=I5.loc
 refine fin s5 H4 m hn (fun h' hs'=>?_) (I3.fpOk (Hs _) I5.free) qn
 have k':∀b o,b≠s3.heap.objs.size->s5.heap.get? b=some o->h'.get? b=some o:=fun b o nb e=>hs'.extBut b o nb e
 have u5:Un (frs X.stack) fp H3 H4 s3.heap s5.heap:=I5.base
 have un:Un (frs X.stack) fp H3 H4 s3.heap h' :=
  ⟨fun b o e n hb hx=>k' b o (notC b o e) (u5.keep b o e n hb hx),fun b o e n hb hx=>by obtain⟨sl,q⟩:=u5.slot b o e n hb hx;exact⟨sl,k' b _ (notC b o e) q⟩,u5.free,
   fun b o e hx=>by obtain⟨o',q⟩:=u5.there b o e hx;exact⟨o',k' b _ (notC b o e) q⟩,u5.tups,u5.frzs,u5.tbls⟩
 have nC:H4 s3.heap.objs.size=none:=I5.free
 have hok':G6 X.prog X.w H4 h':=fun b u e=>(I5.hok b u e).stay (fun c v hcv q=>k' c v (by
  rintro rfl
  rcases hcv with z|z
  · rw[<- z]at e;rw[nC]at e;cases e
  · rw[nC]at z;cases z) q) (fun _ q=>q) fun _ _ q=>q
 obtain⟨hh,g5,d5,t5,os5⟩:=s5
 have os':os5=s3.os:=I5.os
 subst os'
 have I':=Inv.call (s:=s3) (h':=h') (g':=g5) (d':=d5) (t':=t5) (ch:=fp) I3 un hok' I5.bare (fun b hb=>⟨(fpk b hb).2.2.1,(fpk b hb).1,(fpk b hb).2.2.2.1,(fpk b hb).2.2.2.2⟩)
 exact I'
theorem iM{elt:Expr}{g:TG}{tt:TT}{te:TE}{H3:Hp}{s3:Hv}{D:Addr}{J:It}{Q:VK}
 (N':List Str)(fr:List (Option Nat))(hc:X.calm=true)(hkind:scope.kind = .function)(hcell:∀y∈scope.names,y.2 = .cell->scope.names.lookup y.1=some .cell)
 (hfree:∀y∈scope.names,y.2 = .free->X.env.kindOf y.1=some .cell\/X.env.kindOf y.1=some .free)(frl:fr.length=N'.length)
 (frg:∀(i j:Nat),fr[i]?=some (some j)->∃x,N'[i]?=some x/\X.N[j]?=some x/\scope.names.lookup x=some .free/\(X.env.scope.names.lookup x=some .cell\/X.env.scope.names.lookup x=some .free))
 (cl1:∀x c,cl.lookup x=some c->X.env.cells.lookup x=some c)(cl2:∀x,(x,IN)∈scope.names->(cl.lookup x).isSome=true)
 (I3:Inv X pins σ H3 s3)(T:Turn X.prog X.w X.K tg J fp it tn)(tn3:tn 0 s3.heap)(fpD:∀b∈fp,H3 b=none)(fp3:∀b∈fp,b<s3.heap.objs.size)
 (fpk:∀b∈fp,b≠X.env.locals/\b∉X.fs/\(b∈X.ex\/X.s₀.heap.objs.size<=b)/\(∀x c,X.env.cells.lookup x=some c->c≠b)/\∀p∈X.pn++pins,p.1≠b)
 (hg:PG (bf X N' scope cl fp (X.pn++pins) s3 H3) tg g)(ht:GD (bf X N' scope cl fp (X.pn++pins) s3 H3) ifs tt)(he:PE (bf X N' scope cl fp (X.pn++pins) s3 H3) elt te)
 {Wv:Nat->Nat->List V->St->Hp->Prop}{m0:Nat}(w0:Wv 0 m0 [] (nA fr σ) H3)
 (turn:∀i m acc σc H,Wv i m acc σc H->(J.stop i H/\Q (.ref D) H)\/(J.go i H/\∀x H',J.yld i H x H'->g x σc H' fun σ2 H2=>tt σ2 H2 fun b H3 =>
  if b=true then te σ2 H3 fun y H4=>H4 D=some (.lst acc)/\acc.length<sizeLine/\∃m',m'<m/\Wv (i+1) m' (acc++[y]) σ2 (D8 H4 D (.lst (acc++[y])))else ∃m',m'<m/\Wv (i+1) m' acc σ2 H3))
 (fin:∀s5 H4 m,s5.heap.Ns s3.heap.objs.size m->(∀h',Kj s3.heap.objs.size s5.heap h'->Inv X pins σ H4 {s5 with heap:=h' })->kE X pins H4 s3.heap.objs.size->Q (.ref D) H4->Rp s3.heap.objs.size (.ok .next) s5) :
 Ia (Il X.prog X.w) X.A (Lj scope X.env.globals cl [] X.env.qual none .none (some X.env)) (fun cenv s₄ =>
  JW (Il X.prog X.w) X.A (.compStart (.ListComp elt [⟨tg,iter,ifs,0⟩] scope pos) 0 (.ref it) (.ref D) {cenv with scope:=NQ scope X.env})
   (Rp cenv.locals) s₄) X.xe s3:=by
 refine db N' fr hc hkind hcell hfree frl frg cl1 cl2 I3 T tn3 fpD fp3 fpk (fun s' IY tY stat=>?_) fin
 have loop:JW (Il X.prog X.w) X.A (.compLoop (.ListComp elt [⟨tg,iter,ifs,0⟩] scope pos) 0 (.ref it) (.ref D) (bf X N' scope cl fp (X.pn++pins) s3 H3).env)
  (fun r s5=>r = .ok .next/\∃σ5 H4,Inv (bf X N' scope cl fp (X.pn++pins) s3 H3) [] σ5 H4 s5/\Q (.ref D) H4) s':=by
  refine p8 (fun n s'=>∃i acc σ' H',Inv (bf X N' scope cl fp (X.pn++pins) s3 H3) [] σ' H' s'/\tn i s'.heap/\(∀b∈fp,H' b=none)/\Wv i n acc σ' H') ?_ m0
   ⟨0,[],_,_,IY,tY,fpD,w0⟩
  rintro n s4 ⟨i,acc,σ4,H4,I4,st4,fr4,w4⟩
  rcases turn i n acc σ4 H4 w4 with⟨stop,qn⟩|⟨go,step⟩
  · exact Eg (T.done (bf X N' scope cl fp (X.pn++pins) s3 H3) rfl rfl rfl hc i [] s4 σ4 H4 (fun _ _=>False) I4 (stat fr4) st4 stop) fun r s5 ⟨hr,I5⟩=>.inl ⟨hr,rfl,σ4,H4,I5,qn⟩
  · refine Eg (T.item (bf X N' scope cl fp (X.pn++pins) s3 H3) rfl rfl rfl hc i [] s4 σ4 H4 (fun _ _=>False) I4 (stat fr4) st4 go) fun r s5 ⟨u,hr,h5⟩=>.inr ⟨u,hr,?_⟩
    refine Eg h5 fun _ s6 ⟨x,H6,I6,r6,y6,st6,fr6⟩=>?_
    have I6':=I6.pinned (stat fr6) (T.obj _ _ st6)
    have again:∀{σ7:St}{H7:Hp}{s7:Hv},Inv (bf X N' scope cl fp (X.pn++pins) s3 H3) ([]++fF fp s6.heap) σ7 H7 s7->∀{acc':List V}{m':Nat},m'<n->Wv (i+1) m' acc' σ7 H7 ->
     ∃m,m<n/\∃i acc σ' H',Inv (bf X N' scope cl fp (X.pn++pins) s3 H3) [] σ' H' s7/\tn i s7.heap/\(∀b∈fp,H' b=none)/\Wv i m acc σ' H':=fun{σ7 H7 s7} I7 {acc' m'} hm w7=>by
     refine⟨m',hm,i+1,acc',σ7,H7,I7.unpinned,T.keep _ _ _ st6 fun b hb o e=>(I7.pin (b,o) (HK _ (HK _ (bN hb e)))).1,fun b hb=>?_,w7⟩
     obtain⟨o,e,d⟩:=T.obj _ _ st6 b hb
     exact(I7.pin (b,o) (HK _ (HK _ (bN hb e)))).2.1
    refine Eg (hg _ s6 σ4 H6 x u _ I6' r6 (step x H6 y6)) fun _ s7 ⟨σ7,H7,I7,q7⟩=>?_
    refine Eg (ht _ s7 σ7 H7 _ I7 q7) fun ok s8 ⟨H8,I8,q8⟩=>?_
    cases ok with
    | false =>
      rw[if_neg Ic]at q8 ⊢
      obtain⟨m',hm,w8⟩:=q8
      exact again I8 hm w8
    | true =>
      rw[if_pos rfl]at q8 ⊢
      refine Eg (he _ s8 σ7 H8 _ I8 q8) fun y s9 ⟨yv,H9,I9,r9,eD,hl,m',hm,w9⟩=>?_
      exact Eg (eL (X:=bf X N' scope cl fp (X.pn++pins) s3 H3) _ s9 σ7 H9 (.ref D) [yv] (.ref D) [y] (fun _ H'=>H'=D8 H9 D (.lst (acc++[yv]))) I9 rfl (.cons r9 .nil) ⟨D,acc,yv,rfl,rfl,eD,hl,rfl⟩)
       fun _ s10 ⟨_,H10,I10,_,e10⟩=>by subst e10;exact again I10 hm w9
 exact Mr loop (T.self X.A 0 _ _ _ tY loop)
section
variable{X:Cx}{elt tg iter:Expr}{ifs:List Expr}{scope:Scope}{pos:Pos}{wi:TI}{g:CompA->TG}{tt:CompA->TT}{te:CompA->TE}
theorem i_(N':List Str)(fr:List (Option Nat))(hc:X.calm=true)(hi:PI X tg iter wi)(hfr:lg fr N' X.N scope X.env.scope=true)(hsc:lK scope X.env.scope=true)
 (hg:∀y,PG (blk X N' scope y) tg (g y))(ht:∀y,GD (blk X N' scope y) ifs (tt y))(he:∀y,PE (blk X N' scope y) elt (te y))
 (hs:∀x,H0 iter X.env x=pure x:=by intro _;rfl):PE X (.ListComp elt [⟨tg,iter,ifs,0⟩] scope pos) (qM wi fr g tt te):=by
 intro pins s σ H Q I h
 obtain⟨sk,sn⟩:=Hz.mp hsc
 have hkind:scope.kind = .function:=of_decide_eq_true sk
 have hall:=Jy.mp sn
 have hcell:∀y∈scope.names,y.2 = .cell->scope.names.lookup y.1=some .cell:=fun y hy hl=>by
  rcases HW.mp (Hz.mp (Hz.mp (hall y hy)).1).1 with z|z
  · exact absurd hl (of_decide_eq_true z)
  · exact of_decide_eq_true z
 have hnames:∀y∈scope.names,y.2 = .local->scope.names.lookup y.1=some .local:=fun y hy hl=>by
  rcases HW.mp (Hz.mp (Hz.mp (hall y hy)).1).2 with z|z
  · exact absurd hl (of_decide_eq_true z)
  · exact of_decide_eq_true z
 have hfree:∀y∈scope.names,y.2 = .free->X.env.kindOf y.1=some .cell\/X.env.kindOf y.1=some .free:=fun y hy hl=>by
  rcases HW.mp (Hz.mp (hall y hy)).2 with z|z
  · exact absurd hl (of_decide_eq_true z)
  · exact(HW.mp z).imp of_decide_eq_true of_decide_eq_true
 obtain⟨frl,frg⟩:=lg.get hfr
 obtain⟨cl,hclos,cl1,cl2⟩:=cq (env:=X.env) (scope:=scope) fun y hy hl=>I.ok.has y.1 (hfree y hy hl)
 rw[eval_ListComp]
 refine Jt (use:=none) rfl hs hclos hkind hnames (Eg (hi pins s σ H _ I h) fun v s1 h1=>Eg h1 fun itv s2 h2=>?_)
 obtain⟨it,fp,tn,J,H2,e,I2,T,st2,f2,q2⟩:=h2
 subst e
 refine IL ?_
 have hD:H2 s2.heap.objs.size=none:=I2.hok.fresh (Hs _)
 have I3:Inv X pins σ (D8 H2 s2.heap.objs.size (.lst [])) {s2 with heap:=s2.heap.push {cls:=.type "list", data:=.seq ([]:List Hq).toArray}} :=
  I2.laid (t':=s2.toks) (fun b u e=>Hm _ e) (Hs _) ⟨by show 0<=sizeLine;exact HS _,[],0,.nil,HR _ rfl⟩
 obtain⟨Wv,⟨m0,w0⟩,turn⟩:=q2 _ hD
 have tn3:tn 0 (s2.heap.push {cls:=.type "list", data:=.seq ([]:List Hq).toArray}):=T.keep _ _ _ st2 fun b _ o e=>Hm _ e
 have fpD:∀b∈fp,(D8 H2 s2.heap.objs.size (.lst [])) b=none:=fun b hb=>by
  obtain⟨o,e,_⟩:=T.obj _ _ st2 b hb
  rw[am (Im (HJ e))]
  exact(f2 b hb).1
 have fp3:∀b∈fp,b<(s2.heap.push {cls:=.type "list", data:=.seq ([]:List Hq).toArray}).objs.size:=fun b hb=>by
  obtain⟨o,e,_⟩:=T.obj _ _ tn3 b hb
  exact HJ e
 exact iM N' fr hc hkind hcell hfree frl frg cl1 cl2 I3 T tn3 fpD fp3 (fun b hb=>(f2 b hb).2) (hg ⟨cl,fp,X.pn++pins,_,_⟩) (ht ⟨cl,fp,X.pn++pins,_,_⟩) (he ⟨cl,fp,X.pn++pins,_,_⟩) w0 (turn ⟨cl,fp,X.pn++pins,_,_⟩)
  (Rp:=Nh (Il X.prog X.w) X.A X.xe none (EP X pins σ Q) (.ref s2.heap.objs.size)) fun s5 H4 m hn k _ qn=>⟨m,hn,fun h' hs'=>⟨.ref _,H4,k h' hs',rfl,qn⟩⟩
theorem iB{b:Bool}{ix:Nat}(N':List Str)(fr:List (Option Nat))(hc:X.calm=true)(hi:PI X tg iter wi)(hfr:lg fr N' X.N scope X.env.scope=true)(hsc:lK scope X.env.scope=true)
 (hg:∀y,PG (blk X N' scope y) tg (g y))(ht:∀y,GD (blk X N' scope y) ifs (tt y))(he:∀y,PE (blk X N' scope y) elt (te y))(hN:X.N.Nodup)(hix:X.N[ix]?=some x)(hx:Loc X.env.scope x)
 (hf:X.fn x=true\/X.env.scope.names.lookup x=some .local)(hsw:Jr (.ListComp elt [⟨tg,iter,ifs,0⟩] scope pos) (some (.Name x px)) spos.line X.env=pure b)
 (hs:∀x,H0 iter X.env x=pure x):PS X (.Assign [.Name x px] (.ListComp elt [⟨tg,iter,ifs,0⟩] scope pos) spos) (xC (qM wi fr g tt te) (jn ix)):=by
 cases b with
 | false=>exact gC hN hix hx (i_ N' fr hc hi hfr hsc hg ht he hs) hsw hf
 | true =>
 intro pins s σ H DD I h
 obtain⟨sk,sn⟩:=Hz.mp hsc
 have hkind:scope.kind = .function:=of_decide_eq_true sk
 have hall:=Jy.mp sn
 have hcell:∀y∈scope.names,y.2 = .cell->scope.names.lookup y.1=some .cell:=fun y hy hl=>by
  rcases HW.mp (Hz.mp (Hz.mp (hall y hy)).1).1 with z|z
  · exact absurd hl (of_decide_eq_true z)
  · exact of_decide_eq_true z
 have hnames:∀y∈scope.names,y.2 = .local->scope.names.lookup y.1=some .local:=fun y hy hl=>by
  rcases HW.mp (Hz.mp (Hz.mp (hall y hy)).1).2 with z|z
  · exact absurd hl (of_decide_eq_true z)
  · exact of_decide_eq_true z
 have hfree:∀y∈scope.names,y.2 = .free->X.env.kindOf y.1=some .cell\/X.env.kindOf y.1=some .free:=fun y hy hl=>by
  rcases HW.mp (Hz.mp (hall y hy)).2 with z|z
  · exact absurd hl (of_decide_eq_true z)
  · exact(HW.mp z).imp of_decide_eq_true of_decide_eq_true
 obtain⟨frl,frg⟩:=lg.get hfr
 obtain⟨cl,hclos,cl1,cl2⟩:=cq (env:=X.env) (scope:=scope) fun y hy hl=>I.ok.has y.1 (hfree y hy hl)
 rw[Ll _ _ _ _ hsw]
 refine Hl (Jq (Hl ?_))
 show Ia _ X.A (do let _ <- Ni (.ListComp elt [⟨tg,iter,ifs,0⟩] scope pos) scope X.env _ (newList []) false (eval iter X.env) (some (KM (.Name x px) X.env))) _ _ s
 refine Hl (Is (Jt (use:=some (KM (.Name x px) X.env)) (Q:=fun _ s'=>SP X pins DD .next s') rfl hs hclos hkind hnames
  (Eg (hi pins s σ H _ I h) fun v s1 h1=>Eg h1 fun itv s2 h2=>?_)) (fun _ s' hq=>HD (HD hq)) fun _ _ e=>e)
 obtain⟨it,fp,tn,J,H2,e,I2,T,st2,f2,q2⟩:=h2
 subst e
 refine IL ?_
 have hD:H2 s2.heap.objs.size=none:=I2.hok.fresh (Hs _)
 have I3:Inv X pins σ (D8 H2 s2.heap.objs.size (.lst [])) {s2 with heap:=s2.heap.push {cls:=.type "list", data:=.seq ([]:List Hq).toArray}} :=
  I2.laid (t':=s2.toks) (fun b u e=>Hm _ e) (Hs _) ⟨by show 0<=sizeLine;exact HS _,[],0,.nil,HR _ rfl⟩
 obtain⟨Wv,⟨m0,w0⟩,turn⟩:=q2 _ hD
 have tn3:tn 0 (s2.heap.push {cls:=.type "list", data:=.seq ([]:List Hq).toArray}):=T.keep _ _ _ st2 fun b _ o e=>Hm _ e
 have fpD:∀b∈fp,(D8 H2 s2.heap.objs.size (.lst [])) b=none:=fun b hb=>by
  obtain⟨o,e,_⟩:=T.obj _ _ st2 b hb
  rw[am (Im (HJ e))]
  exact(f2 b hb).1
 have fp3:∀b∈fp,b<(s2.heap.push {cls:=.type "list", data:=.seq ([]:List Hq).toArray}).objs.size:=fun b hb=>by
  obtain⟨o,e,_⟩:=T.obj _ _ tn3 b hb
  exact HJ e
 refine iM (Q:=fun v H1=>jn ix v σ H1 DD.nx) N' fr hc hkind hcell hfree frl frg cl1 cl2 I3 T tn3 fpD fp3 (fun b hb=>(f2 b hb).2) (hg ⟨cl,fp,X.pn++pins,_,_⟩) (ht ⟨cl,fp,X.pn++pins,_,_⟩) (he ⟨cl,fp,X.pn++pins,_,_⟩) w0 (turn ⟨cl,fp,X.pn++pins,_,_⟩)
  (Rp:=Nh (Il X.prog X.w) X.A X.xe (some (KM (.Name x px) X.env)) (fun _ s'=>SP X pins DD .next s') (.ref s2.heap.objs.size)) fun s5 H4 m hn k fpo qn=>?_
 show Ia _ X.A (KM (.Name x px) X.env (.ref s2.heap.objs.size)) _ _ s5
 have I5:Inv X pins σ H4 s5:=k s5.heap (L8 _ _)
 obtain⟨f0,f1,f2',f3,f4,f5⟩:=fpo
 refine La (eC I5 hN hix hx (v:=.ref s2.heap.objs.size) rfl (fun s6 I6 sb=>?_) hf)
 obtain⟨a,sb,ha⟩:=sb
 have hne:(s2.heap.push {cls:=.type "list", data:=.seq ([]:List Hq).toArray}).objs.size≠a:=by
  rcases ha with rfl|ha
  · exact f1
  · exact fun z=>f4 x a ha z.symm
 refine⟨m,hn.at' fun o e=>sb.extBut _ o hne e,fun h' hs'=>?_⟩
 exact⟨_,H4,I6.turned (t':=s6.toks) (fun b o hb e=>hs'.extBut b o hb e) f0 f1 f3 f4 f5,qn⟩
end
end L2
namespace L2.VL
noncomputable def W.cap:W->Option W
 | .d x=>some (.d x)
 | .reel=>some .reel
 | .vv u=>some (.vv u)
 | .sc ns=>some (.sc ns)
 | .fd kvs=>some (.fd kvs)
 | .fw kvs=>some (.fw kvs)
 | .ft kvs=>some (.ft kvs)
 | .xc x fs=>some (.xc x fs)
 | .dp kvs x=>some (.dp kvs x)
 | _=>none
noncomputable def dH(fr:List (Option Nat))(ρ:En):En:=fr.map fun o=>o.bind fun j=>((ρ[j]?).join).bind W.cap
noncomputable def kD(X:Cx)(rl:RlT)(ifs:List Expr)(f:TB):Prop:=∃t,GD X ifs t/\∀{F₀ H₀ F H:Hp}{σ:St}{ρ:En},VR X.K rl F₀ H₀ F H σ ρ->∀(Qd:Bool->Prop)(Q:Bool->Hp->Prop),f ρ Qd ->
 (∀b F' H',Grow rl F H F' H'->Qd b->Q b H')->t σ H Q
theorem b8:kD X rl [] (fun _ Q=>Q true):=⟨_,uQ,fun R Qd Q q k=>k true _ _ (Grow.refl R.sub R.reel) q⟩
theorem dJ{f:TB}(h:PB X rl c f):kD X rl [c] f:=let ⟨t,p,k⟩:=h;⟨t,uP p,k⟩
theorem gf{fr:List (Option Nat)}(h:(dH fr ρ)[i]?=some (some w)):∃j w',fr[i]?=some (some j)/\ρ[j]?=some (some w')/\w'.cap=some w:=by
 unfold dH at h
 rw[Ix]at h
 cases ef:fr[i]? with
 | none=>rw[ef]at h;cases h
 | some o =>
   cases o with
   | none=>rw[ef]at h;cases h
   | some j =>
     rw[ef]at h
     have h':((ρ[j]?).join).bind W.cap=some w:=IJ h
     cases q:ρ[j]? with
     | none=>rw[q]at h';cases h'
     | some o =>
       cases o with
       | none=>rw[q]at h';cases h'
       | some w'=>rw[q]at h';exact⟨j,w',rfl,q,h'⟩
theorem mG{w':W}(h:w'.cap=some w):w=w'/\w.own=false/\∀xs,w ≠ .pk xs:=by
 cases w'<;>cases h<;>exact⟨rfl,rfl,(fun _ z=>by cases z)⟩
theorem ee{K:W.Frag}{fr:List (Option Nat)}(R:VR K rl F₀ H₀ F H σ ρ)(g:Grow rl F H F H'):VR K rl F H F H' (nA fr σ) (dH fr ρ):=by
 refine⟨g,fun i w e=>?_,fun i j xs ys v _ e1 _ o1 _ _ _=>?_,fun i xs e=>?_,by simp[nA,dH]⟩
 · obtain⟨j,w',e1,e2,e3⟩:=gf e
   obtain⟨rfl,n1,n2⟩:=mG e3
   obtain⟨v,s1,r1,_⟩:=R.sl j w e2
   refine⟨v,?_,r1.grow g,?_⟩
   · unfold nA
     rw[Ix,e1]
     show some ((σ[j]?).join)=_
     rw[s1]
     rfl
   · cases w with
     | ml xs=>cases n1
     | md xs=>cases n1
     | mk xs=>cases n1
     | nt _=>trivial
     | lk=>trivial
     | sc _=>trivial
     | fd _=>trivial
     | fw _=>trivial
     | ft _=>trivial
     | xc _ _=>trivial
     | dp _ _=>trivial
     | d _=>trivial
     | pk _=>trivial
     | reel=>trivial
     | vv _=>trivial
 · obtain⟨_,_,_,_,e3⟩:=gf e1
   rw[(mG e3).2.1]at o1
   cases o1
 · obtain⟨_,_,_,_,e3⟩:=gf e
   exact absurd rfl ((mG e3).2.2 xs)
theorem cR{fr:List (Option Nat)}:kz (dH fr ρ):=fun i xs e=>by
 obtain⟨_,_,_,_,e3⟩:=gf e
 exact(mG e3).2.1
theorem VR.other{K:W.Frag}(R:VR K rl F₀ H₀ F H σ ρ)(n:kz ρ){D:Addr}{o:HO}(h0:H₀ D=none)(f:F D=none)(hr:rl.a≠some D):VR K rl F₀ H₀ F (D8 H D o) σ ρ:=by
 have neF:∀b u,F b=some u->b≠D:=fun b u q z=>by subst z;rw[f]at q;cases q
 have g:Grow rl F₀ H₀ F (D8 H D o):=by
  refine⟨fun b o q1 n=>by rw[am (aX q1 h0)];exact R.g.same b o q1 n,R.g.fs,fun b o q1=>by rw[am (neF b o q1)];exact R.sub b o q1,R.g.old,fun y z=>?_⟩
  obtain⟨z1,⟨u,h1,h2⟩⟩:=R.reel y z
  exact⟨z1,⟨u,by rw[am (fun q=>hr (by rw[<- q];exact z))];exact h1,h2⟩⟩
 refine⟨g,fun i w e=>?_,R.ap,R.np,R.len⟩
 obtain⟨v,h1,h2,h3⟩:=R.sl i w e
 refine⟨v,h1,?_,h3⟩
 cases w with
 | d x=>exact h2
 | reel=>exact h2
 | vv u=>exact h2
 | ml xs=>cases n i _ e
 | md xs=>cases n i _ e
 | mk xs=>cases n i _ e
 | nt ds=>exact h2
 | lk=>trivial
 | sc _=>exact h2
 | fd _=>exact h2
 | fw _=>exact h2
 | ft _=>exact h2
 | xc _ _=>exact h2
 | dp _ _=>exact h2
 | pk xs=>exact absurd e (R.np i xs)
section
variable{X:Cx}{rl:RlT}{elt tg iter:Expr}{ifs:List Expr}{scope:Scope}{pos:Pos}{fi:En->(List Hh->Prop)->Prop}{g:Go}{ft:TB}{fe:TV}
end
mutual
def wz:Hh->Prop
 | .none=>True
 | .bool _=>True
 | .int i=>i.natAbs<2^1900
 | .str x=>Nr x=true
 | .list xs=>gY xs
 | .tuple xs=>gY xs
 | .dict _=>False
def gY:List Hh->Prop
 | []=>True
 | x::xs=>wz x/\gY xs
end
theorem iH{k:Nat}(h:n<2^k)(hk:0<k):n.log2<k:=by
 by_cases h0:n=0
 · subst h0;simpa using hk
 · exact(Nat.log2_lt h0).mpr h
mutual
theorem wz.facts:∀d:Hh,wz d->d.showable=true/\d.canLay0=true/\d.hasDict=false/\d.leavesShort 1921=true
 | .none,_=>⟨rfl,rfl,rfl,rfl⟩
 | .bool _,_=>⟨rfl,rfl,rfl,rfl⟩
 | .int i,h=>by
   have hl:i.natAbs.log2<1920:=iH (Hr (show i.natAbs<2^1900 from h) (HF (by decide) (by decide))) (by decide)
   refine⟨by simp[K4,hl],rfl,rfl,?_⟩
   simp only[Jk,decide_eq_true_eq]
   exact int_text_len_1921 hl
 | .str x,h=>by
   refine⟨rfl,(show Ju (.str x)=true by simp only[Ju];exact h),rfl,?_⟩
   have h:x.cps.all (· < 0x110000)=true:=h
   simp only[Jk]
   rw[Jy]
   intro c hc
   have:=(K6.mp h) c (by simpa using hc)
   simp at this ⊢
   omega
 | .list xs,h=>by
   obtain⟨a,b,c,d⟩:=gY.facts xs h
   exact⟨by simpa[K4]using a,by simpa[Ju]using b,by simpa[Hh.hasDict]using c,by simpa[Jk]using d⟩
 | .tuple xs,h=>by
   obtain⟨a,b,c,d⟩:=gY.facts xs h
   exact⟨by simpa[K4]using a,by simpa[Ju]using b,by simpa[Hh.hasDict]using c,by simpa[Jk]using d⟩
 | .dict _,h=>Jb h
theorem gY.facts:∀xs:List Hh,gY xs->Hh.showableAll xs=true/\H_ xs=true/\Hh.hasDictAll xs=false/\J7 1921 xs=true
 | [],_=>⟨rfl,rfl,rfl,rfl⟩
 | x::xs,h=>by
   obtain⟨a,b,c,d⟩:=wz.facts x h.1
   obtain⟨a',b',c',d'⟩:=gY.facts xs h.2
   exact⟨by simp[Hh.showableAll,a,a'],by simp[H_,b,b'],by simp[Hh.hasDictAll,c,c'],by simp[J7,d,d']⟩
end
noncomputable def Gx(d:Hh):Prop:=wz d/\d.depth<=60/\d.bulk<=8000
theorem Gx.len(h:Gx d):d.shown.length<=sizeLine:=by
 have q:=MP 1921 (by decide) d (wz.facts d h.1).2.2.2
 have:=h.2.2
 have e:sizeLine=16777216:=by decide
 omega
section
variable{X:Cx}{rl:RlT}{a b e:Expr}{es:List Expr}{fa fb fc:TV}{fs:Gi}{pos p:Pos}
noncomputable def x6(K:W.Frag):List V->Hp->VK->Prop:=fun xs H Q=>∃x d,xs=[x]/\Rep K H x d/\Gx d/\Q (.str d.shown) H
theorem qj(hgd:X.A.guards=some [])(hu:X.A.units+64<Mn):dB X (.builtin "repr") (x6 X.K):=by
 intro pins s σ H xs us Q I r ⟨x,d,ex,rx,sh,q⟩
 subst ex
 obtain⟨u,rfl,ru⟩:=vals1 r
 have fin:∀tk h' , (∀b o,s.heap.get? b=some o->h'.get? b=some o)->∀t,EP X pins σ Q (.str d.shown t) {s with heap:=h',toks:=tk}:=fun tk h' k t=>⟨.str d.shown,H,I.kept k,⟨t,rfl⟩,q⟩
 obtain⟨as,rd⟩:=Rep.reads I (.refl H) rx u ru
 have hs:=(wz.facts d sh.1)
 cases rx with
 | non=>cases(show u=K_ from ru);exact P.repr_of_none (fin _ _ (fun _ _ e=>e) _)
 | bl b=>cases(show u=ML b from ru);exact P.repr_of_bool (fin _ _ (fun _ _ e=>e) _)
 | int i =>
   obtain⟨t,e⟩:=(show ∃t,u=L3 i t from ru)
   cases e
   exact P.repr_of_int (by simpa[K4]using hs.1) (fin _ _ (fun _ _ e=>e) _)
 | str x =>
   obtain⟨t,e⟩:=(show ∃t,u=Mv x t from ru)
   cases e
   exact P.repr_of_str (fin _ _ (fun _ _ e=>e) _) sh.len
 | tup sq rs =>
   cases(show u=JV _ from ru)
   exact LY rd hs.1 (Lc hs.2.2.1) hgd (by have:=sh.2.1;omega) (fun _ _ e=>e) (fun h' t tk hk=>fin tk h' hk t) sh.len
 | lst sq rs =>
   cases(show u=JV _ from ru)
   exact LY rd hs.1 (Lc hs.2.2.1) hgd (by have:=sh.2.1;omega) (fun _ _ e=>e) (fun h' t tk hk=>fin tk h' hk t) sh.len
noncomputable def rV:List W->(W->Prop)->Prop:=fun ws Q=>∃w d,ws=[w]/\w.dat=some d/\Gx d/\Q (.d (.str d.shown))
theorem uc:eW X rl (x6 X.K) rV:=fun{F H vs ws} Qd Q s ra r ⟨w,d,ew,e1,sh,q⟩ k=>by
 subst ew
 obtain⟨v,rfl,r1⟩:=kP r
 exact⟨v,d,rfl,r1.dat s e1,sh,k _ (.d _) _ _ (Grow.refl s ra) (.str _) trivial q⟩
theorem lE(hr:Room 0 X.A)(hm:X.mg "repr" = none)(ha:GB X rl [e] fs)(hg:Gl X "repr" := by rfl)(he:Hw [e] X.env=(false,eval e X.env)::Hw [] X.env:=by rfl)(hpl:(I0 pos (Hw [] X.env)).any (·.1)=false:=by rfl) :
 PV X rl (.Call (.Name "repr" p) [e] [] pos) (dt rV fs):=cO (qj hr.gd hr.units) uc hm (by first|rfl|exact boot_repr) ha hg (by decide) (by decide) he hpl
noncomputable def Eb:Hh->String
 | .none => "NoneType"
 | .bool _ => "bool"
 | .int _ => "int"
 | .str _ => "str"
 | .list _ => "list"
 | .tuple _ => "tuple"
 | .dict _ => "dict"
noncomputable def lY(d:Hh)(T:String):Bool:=Eb d==T||(Eb d == "bool" && T == "int")
noncomputable def xp(T:String):Bool:=["int", "bool", "str", "list", "tuple"].contains T
theorem kit_ok{K:W.Frag}{T:String}(hd:∀kvs,d ≠ .dict kvs)(h:xp T=true):W.kitOne K (.type (Eb d)) (.type T)=some (lY d T):=by
 have h:T = "int" \/ T = "bool" \/ T = "str" \/ T = "list" \/ T = "tuple" := by simpa[xp]using h
 cases d with
 | dict kvs=>exact absurd rfl (hd kvs)
 | none=>rcases h with rfl|rfl|rfl|rfl|rfl<;>rfl
 | bool b=>rcases h with rfl|rfl|rfl|rfl|rfl<;>rfl
 | int b=>rcases h with rfl|rfl|rfl|rfl|rfl<;>rfl
 | str b=>rcases h with rfl|rfl|rfl|rfl|rfl<;>rfl
 | list b=>rcases h with rfl|rfl|rfl|rfl|rfl<;>rfl
 | tuple b=>rcases h with rfl|rfl|rfl|rfl|rfl<;>rfl
noncomputable def CH(K:W.Frag):List V->Hp->VK->Prop:=fun xs H Q=>∃x d T,xs=[x,.ty T]/\Rep K H x d/\xp T=true/\Q (.bl (lY d T)) H
theorem sC:dB X (.builtin "isinstance") (CH X.K):=by
 intro pins s σ H xs us Q I r ⟨x,d,T,ex,rx,ok,q⟩
 subst ex
 obtain⟨u,u2,rfl,ru,ru2⟩:=vals2 r
 cases(show u2=Hq.type T from ru2)
 have fin:∀tk,EP X pins σ Q (.bool (lY d T)) {s with toks:=tk}:=fun tk=>⟨.bl _,H,I.tok tk,rfl,q⟩
 obtain⟨as,rd⟩:=Rep.reads I (.refl H) rx u ru
 cases rd with
 | none=>exact W.kia_one W.kitx_none I.kIn Kv (kit_ok (d:=Hh.none) (fun _ z=>by cases z) ok) (fun z=>nomatch z) fin
 | bool b=>exact W.kia_one W.kitx_bool I.kIn Kv (kit_ok (d:=IG b) (fun _ z=>by cases z) ok) (fun z=>nomatch z) fin
 | int i t=>exact W.kia_one W.kitx_int I.kIn Kv (kit_ok (d:=HB i) (fun _ z=>by cases z) ok) (fun z=>nomatch z) fin
 | str y t=>exact W.kia_one W.kitx_str I.kIn Kv (kit_ok (d:=Iw y) (fun _ z=>by cases z) ok) (fun z=>nomatch z) fin
 | list h1 h2 h3 h4=>exact W.kia_one W.kitx_list I.kIn ⟨_,h1,h2⟩ (kit_ok (d:=Ks _) (fun _ z=>by cases z) ok) (fun z=>nomatch z) fin
 | tuple h1 h2 h3 h4=>exact W.kia_one W.kitx_tuple I.kIn ⟨_,h1,h2⟩ (kit_ok (d:=Io _) (fun _ z=>by cases z) ok) (fun z=>nomatch z) fin
 | dict h1 h2 h3 h4 h5=>cases rx
noncomputable def zP:List W->(W->Prop)->Prop:=fun ws Q=>∃w d T,ws=[w,.vv (.ty T)]/\w.dat=some d/\xp T=true/\Q (.d (.bool (lY d T)))
theorem wX:eW X rl (CH X.K) zP:=fun{F H vs ws} Qd Q s ra r ⟨w,d,T,ew,e1,ok,q⟩ k=>by
 subst ew
 obtain⟨v,u,rfl,r1,r2⟩:=CA r
 cases(show u=V.ty T from r2)
 exact⟨v,d,T,rfl,r1.dat s e1,ok,k _ (.d _) _ _ (Grow.refl s ra) (.bl _) trivial q⟩
theorem mO(hm:X.mg "isinstance" = none)(ha:GB X rl [a,b] fs)(hg:Gl X "isinstance" := by rfl)(he:Hw [a,b] X.env=(false,eval a X.env)::Hw [b] X.env:=by rfl)(hpl:(I0 pos (Hw [b] X.env)).any (·.1)=false:=by rfl) :
 PV X rl (.Call (.Name "isinstance" p) [a,b] [] pos) (dt zP fs):=cO sC wX hm (by first|rfl|exact boot_isinstance) ha hg (by decide) (by decide) he hpl
theorem ce(hm:X.mg "len" = none)(ha:GB X rl [a] fs)(hg:Gl X "len" := by rfl)(he:Hw [a] X.env=(false,eval a X.env)::Hw [] X.env:=by rfl)(hpl:(I0 pos (Hw [] X.env)).any (·.1)=false:=by rfl) :
 PV X rl (.Call (.Name "len" p) [a] [] pos) (dt zO fs):=cO ki wW hm boot_len ha hg (by decide) (by decide) he hpl
theorem xh(hm:X.mg "abs" = none)(ha:GB X rl [a] fs)(hg:Gl X "abs" := by rfl)(he:Hw [a] X.env=(false,eval a X.env)::Hw [] X.env:=by rfl)(hpl:(I0 pos (Hw [] X.env)).any (·.1)=false:=by rfl) :
 PV X rl (.Call (.Name "abs" p) [a] [] pos) (dt zW fs):=cO sE w6 hm (by first|rfl|exact boot_abs) ha hg (by decide) (by decide) he hpl
end
structure FnIn (K:W.Frag) (mg:Str->Option Hq) (x:Str) (st:Stmt) (ps:List Str):Prop where
 ex:∃f fd,mg x=some (.ref f)/\Fun K x x st f fd/\Binds K fd ps []
structure Bz (mg:Str->Option Hq):Prop where
 int_:mg "int" = none
 bool_:mg "bool" = none
 str_:mg "str" = none
 list_:mg "list" = none
 tuple_:mg "tuple" = none
 dict_:mg "dict" = none
 isinstance_:mg "isinstance" = none
 len_:mg "len" = none
 abs_:mg "abs" = none
 repr_:mg "repr" = none
 range_:mg "range" = none
 all_:mg "all" = none
 any_:mg "any" = none
 sum_:mg "sum" = none
 min_:mg "min" = none
 max_:mg "max" = none
 sorted_:mg "sorted" = none
 zip_:mg "zip" = none
 enumerate_:mg "enumerate" = none
 reversed_:mg "reversed" = none
 divmod_:mg "divmod" = none
 set_:mg "set" = none
section
variable{P:Ij}{w:IV}{K:W.Frag}{mg:Str->Option Hq}{base:Heap}{rl:RlT}{x:Str}{st:Stmt}{N ps:List Str}{k:Nat}{Pd:List W->(Hh->Prop)->Prop}{t:Gj}
theorem Dfn.of(Fn:FnIn K mg x st ps)(S:FnScope N ps (defScope st))(mono:∀ws Q Q',(∀d,Q d->Q' d)->Pd ws Q->Pd ws Q')(len:∀ws Q,Pd ws Q->ws.length=ps.length)
 (hbody:∀{f:Addr}(cdv:Hq)(A:IU)(outer:List Env)(s:Hv)(H:Hp)(E:XK),Room k (A.deeper (Mh x (defScope st) s.heap.objs.size f cdv)) ->
  ly (p5 G8 P w K mg base N x (defScope st) f cdv A outer s H E).nox rl (defBody st) t)
 (hread:∀ws Q,Pd ws Q->t (qJ Q) (du N ws)):Dfn P w K mg base rl x ps (k+1) Pd:=by
 obtain⟨f,fd,hm,F,hb⟩:=Fn.ex
 exact⟨mono,f,fd,hm,F.kp,hb,D0 F S len hbody hread⟩
end
section
variable{X:Cx}{rl:RlT}{e:Expr}{es:List Expr}{fa fb fc:TV}{fs:Gi}{pos p:Pos}
theorem sJ(i:Nat)(ha:GB X rl [e] fs)(hN:X.N[i]?=some x:=by rfl)(hv:Gc X.env.scope x:=by first|exact Js rfl|exact IR (Js rfl)|exact IR (IR rfl))
 (hd:(x==("__debug__" : Str))=false:=by decide)(hcd:(x==("__classdict__" : Str))=false:=by decide)
 (hbase:JR (.Name x px) "extend" X.env (eval (.Name x px) X.env)=eval (.Name x px) X.env:=by rfl)
 (hfew:((I0 cpos (Hw [e] X.env)).all (fun x=>!x.1)&&(Lx cpos (Kp [] X.env)).all (fun x=>x.1.isSome)
  && decide (([e]).length+([]:List KC).length+(if([]:List KC).isEmpty then 0 else 1)<30))=true:=by rfl)
 (hline:(apos.endLine==cpos.line)=true:=by rfl)(hs:Hw [e] X.env=(false,eval e X.env)::Hw [] X.env:=by rfl)(hplain:(I0 cpos (Hw [] X.env)).any (·.1)=false:=by rfl)
 (hsw:Jr (.Call (.Attribute (.Name x px) "extend" apos) [e] [] cpos) none pos.line X.env=pure false:=by rfl) :
 GF X rl (.Expr (.Call (.Attribute (.Name x px) "extend" apos) [e] [] cpos) pos) (wA i zR fs) :=
 nD i PySem.F.slot_list_extend PySem.F.type_list_extend o4 wQ ha hN hv hd hcd hbase hfew hline hs hplain hsw
end
theorem fz_d(x:Hh):(W.d x).fz = .d x:=rfl
theorem fz_ml(x:List Hh):(W.ml x).fz = .d (.list x):=rfl
theorem fz_pk(x:List Hh):(W.pk x).fz = .pk x:=rfl
theorem fz_reel:W.reel.fz = .reel:=rfl
theorem fz_vv(x:V):(W.vv x).fz = .vv x:=rfl
theorem pk_d(x:Hh):L2.VL.W.peek (.d x) = .d x:=rfl
theorem pk_ml(x:List Hh):L2.VL.W.peek (.ml x) = .pk x:=rfl
theorem pk_reel:L2.VL.W.peek .reel = .reel:=rfl
theorem pk_vv(x:V):L2.VL.W.peek (.vv x) = .vv x:=rfl
theorem dat_d(x:Hh):(W.d x).dat=some x:=rfl
theorem dat_ml(x:List Hh):(W.ml x).dat=some (.list x):=rfl
theorem dat_pk(x:List Hh):(W.pk x).dat=some (.list x):=rfl
theorem isPk_d(x:Hh):(W.d x).isPk=false:=rfl
theorem isPk_ml(x:List Hh):(W.ml x).isPk=false:=rfl
theorem isPk_reel:W.reel.isPk=false:=rfl
theorem dats_nil:gQ []=some []:=rfl
theorem dats_d(x:Hh)(r:List W):gQ (.d x::r)=(gQ r).map (x :: ·):=rfl
theorem arg_d(x:Hh):eV (.d x)=true:=rfl
theorem arg_reel:eV .reel=true:=rfl
theorem item_l(xs:List Hh)(i:Int):L2.VL.itemAt (.list xs) i=L2.atI xs i:=rfl
theorem item_t(xs:List Hh)(i:Int):L2.VL.itemAt (.tuple xs) i=L2.atI xs i:=rfl
theorem len_l(xs:List Hh):kB (.list xs)=some xs.length:=rfl
theorem len_t(xs:List Hh):kB (.tuple xs)=some xs.length:=rfl
theorem at0{α:Type}(x:α)(r:List α):L2.atI (x::r) 0=some x:=by simp[L2.atI,L2.ixN]
theorem at1{α:Type}(x y:α)(r:List α):L2.atI (x::y::r) 1=some y:=by
 have:(1:Int)<((x::y::r).length:Int):=by simp;omega
 simp only[L2.atI,L2.ixN]
 rw[if_pos (by decide),if_pos this]
 rfl
theorem gN{x y:Int}(h:y≠0):(x.fmod y).natAbs<y.natAbs:=by
 rcases Int.lt_or_gt_of_ne h with hy|hy
 · have h1:=MA x y
   have e:x.fmod y = -((-x).fmod (-y)):=by
    have:=Int.neg_fmod_neg x y
    omega
   have p:0 < -y:=by omega
   have b1:=Jn (-x) p
   have b2:=J8 (-x) p
   omega
 · have b1:=Jn x hy
   have b2:=J8 x hy
   omega
theorem mf(x y:Int):Jz y (x.fmod y)=Jz x y:=by
 have e:x.fmod y=x+y*(-(x.fdiv y)):=by
  have:=MA x y
  rw[Int.mul_neg]
  omega
 rw[e,Int.gcd_add_mul_left_right]
 exact Int.gcd_comm y x
theorem eqv_ii(a b:Int):HQ (.int a) (.int b)=(a==b):=by simp[HQ]
theorem zo(a b:Str):HQ (.str a) (.str b)=(a==b):=by simp[HQ]
theorem shaped_i(a:Int):HU (.int a)=true:=rfl
theorem shaped_b(a:Bool):HU (.bool a)=true:=rfl
theorem fX.of{i j:Int}(h:j≠0)(b:j.natAbs<2^64):fX i j:=⟨h,Hr b (HF (by decide) (by decide))⟩
theorem gW:∀ns:List Int,H_ (ns.map HB)=true
 | []=>rfl
 | n::ns=>by simp[H_,Ju,gW ns]
theorem iK:∀ns:List Int,IS (ns.map HB)=0
 | []=>rfl
 | n::ns=>by simp[IS,J9,iK ns]
theorem shaped_ints(ns:List Int):HU (.list (ns.map .int))=true:=by simp[HU,Ju,J9,gW,iK]
theorem v_(ns:List Hh):HQ (.list ns) (.list [])=ns.isEmpty:=by cases ns<;>simp[HQ,Hh.eqvAll]
theorem vZ{a b:Int}(h:b≠0):0<(Jz a b:Int):=by
 have:=Int.gcd_pos_of_ne_zero_right a h
 omega
theorem zg{a b:Int}(h:b≠0):(Jz a b)<=b.natAbs:=Nat.le_of_dvd (by omega) (Int.gcd_dvd_natAbs_right a b)
theorem dL(s:String):Nr (Hi s)=true:=by
 unfold Nr
 rw[Str.ofString_eq_toList]
 simp only[K6]
 intro c hc
 have hc:c∈s.toList.map Char.toNat:=List.mem_toArray.mp hc
 obtain⟨d,_,rfl⟩:=IA.mp hc
 have:=d.valid
 have h:d.val.toNat<0x110000:=by
  rcases this with h|h
  · have:d.val.toNat<0xd800:=h
    omega
  · exact h.2
 exact decide_eq_true h
structure Lf (d:Hh):Prop where
 nice:wz d
 dep:d.depth<=2
 wt:d.bulk<=2000
theorem Lf.int{i:Int}(h:i.natAbs<2^1000):Lf (.int i) :=
 ⟨Nat.lt_trans h (Nat.pow_lt_pow_right (by decide) (by decide)),by simp[J9],by simp[Hh.bulk]⟩
theorem sG{xs:List α}{k:Int}(h0:0<=k)(h1:k<(xs.length:Int)):∃z,L2.atI xs k=some z/\z∈xs:=by
 obtain⟨n,rfl⟩:=JT h0
 have hn:n<xs.length:=by omega
 exact⟨xs[n],cP (HP hn),Iv hn⟩
theorem gz{K:W.Frag}{i:Str}(h:Rep K F v (.str i)):v = .str i:=by cases h;rfl
noncomputable def zS(neg:Bool):W->W->(W->Prop)->Prop:=fun x y Q=>∃a b:Str,x = .d (.str a)/\y = .d (.str b)/\Q (.d (.bool (if neg then !decide (a=b)else decide (a=b))))
theorem cx:Ge X rl EM (zS false):=fun{F H x y wx wy} Qd Q s ra r1 r2 q k=>by
 obtain⟨a,b,rfl,rfl,q⟩:=q
 have e1:=gz r1
 have e2:=gz r2
 subst e1 e2
 have e:decide (V.str a=V.str b)=decide (a=b):=by
  by_cases h:a=b
  · subst h;simp
  · rw[decide_eq_false h,decide_eq_false fun z=>h (by injection z)]
 exact⟨rfl,by rw[e];exact k _ (.d _) _ _ (Grow.refl s ra) (.bl _) trivial q⟩
theorem jz:Ge X rl EJ (zS true):=fun{F H x y wx wy} Qd Q s ra r1 r2 q k=>by
 obtain⟨a,b,rfl,rfl,q⟩:=q
 have e1:=gz r1
 have e2:=gz r2
 subst e1 e2
 have e:decide (V.str a=V.str b)=decide (a=b):=by
  by_cases h:a=b
  · subst h;simp
  · rw[decide_eq_false h,decide_eq_false fun z=>h (by injection z)]
 exact⟨rfl,by rw[e];exact k _ (.d _) _ _ (Grow.refl s ra) (.bl _) trivial q⟩
noncomputable def C0(K:W.Frag)(rl:RlT)(P:List W->(List Hh->Prop)->Prop):Sp:=fun vs H Q _=>∃F ws,bL F H/\Gz rl F H/\fu K rl F H vs ws/\ws.all eV=true/\P ws fun xs=>∀v F' H',Grow rl F H F' H'->gZ K rl F' H' v xs->dj H v (.ml xs)->Q v H'
noncomputable def vO(Q:List Hh->Prop):VEnds:=⟨fun _=>False,fun w=>∃xs,w = .ml xs/\Q xs,fun _=>False,fun _=>False⟩
structure DfnL (P:Ij) (w:IV) (K:W.Frag) (mg:Str->Option Hq) (base:Heap) (rl:RlT) (x:Str) (ps:List Str) (k:Nat) (Pd:List W->(List Hh->Prop)->Prop):Prop where
 mono:∀ws Q Q',(∀d,Q d->Q' d)->Pd ws Q->Pd ws Q'
 ex:∃f fd,mg x=some (.ref f)/\W.keepIn K (.ref f)=true/\Binds K fd ps []/\FnOk P w K mg base G8 k f fd ps (C0 K rl Pd)
section
variable{P:Ij}{w:IV}{K:W.Frag}{mg:Str->Option Hq}{base:Heap}{rl:RlT}{x:Str}{st:Stmt}{N ps:List Str}{k:Nat}{Pd:List W->(List Hh->Prop)->Prop}{t:Gj}
theorem DfnL.of(Fn:FnIn K mg x st ps)(S:FnScope N ps (defScope st))(mono:∀ws Q Q',(∀d,Q d->Q' d)->Pd ws Q->Pd ws Q')(len:∀ws Q,Pd ws Q->ws.length=ps.length)
 (hbody:∀{f:Addr}(cdv:Hq)(A:IU)(outer:List Env)(s:Hv)(H:Hp)(E:XK),Room k (A.deeper (Mh x (defScope st) s.heap.objs.size f cdv)) ->
  ly (p5 G8 P w K mg base N x (defScope st) f cdv A outer s H E).nox rl (defBody st) t)
 (hread:∀ws Q,Pd ws Q->t (vO Q) (du N ws)):DfnL P w K mg base rl x ps (k+1) Pd:=by
 obtain⟨f,fd,hm,F,hb⟩:=Fn.ex
 refine⟨mono,f,fd,hm,F.kp,hb,?_⟩
 refine F.ok S (fun vs H Q E ⟨F,ws,_,_,r,_,q⟩=>(Kl r).trans (len ws _ q)) fun cdv A outer s H vs Q E hr h=>?_
 obtain⟨F,ws,sm,ra,r,ok,q⟩:=h
 obtain⟨T,p,kk⟩:=hbody cdv A outer s H E hr
 refine⟨T,p,kk (fY sm ra r ok) (vO _) _ ⟨fun _ _ _ _ _ _ z=>Jb z,?_,fun _ _ _ _ _ _ z=>Jb z,fun _ _ _ _ _ _ z=>Jb z⟩ (hread ws _ q)⟩
 rintro v w1 F1 H1 g1 r1 n1 ⟨xs,rfl,q1⟩
 exact q1 v F1 H1 g1 r1 n1
end
section
variable{X:Cx}{rl:RlT}{e:Expr}{es:List Expr}{fs:Gi}{pos p:Pos}
noncomputable def xi(Pd:List W->(List Hh->Prop)->Prop)(fs:Gi):TV:=fun ρ Q=>fs ρ fun ws=>ws.all eV=true/\Pd ws fun xs=>Q (.ml xs)
theorem ug{ps:List Str}{k:Nat}{Pd:List W->(List Hh->Prop)->Prop}(D:DfnL X.prog X.w X.K X.mg X.base rl x ps k Pd)(hr:Room k X.A)(ha:GB X rl (e::es) fs)(hg:Gl X x:=by rfl)
 (hdb:(x==("__debug__" : Str))=false:=by decide)(he:Hw (e::es) X.env=(false,eval e X.env)::Hw es X.env:=by rfl)(hpl:(I0 pos (Hw es X.env)).any (·.1)=false:=by rfl) :
 PV X rl (.Call (.Name x p) (e::es) [] pos) (xi Pd fs):=by
 obtain⟨f,fd,hm,hk,hb,F⟩:=D.ex
 obtain⟨t,p1,kk⟩:=ha
 refine⟨_,jb F hr hg hm hk hb .nil ro p1 hdb he hpl,fun R Qd Q q h=>kk R _ _ q fun vs ws F1 H1 g1 r1 ⟨ok,q1⟩=>?_⟩
 refine⟨F1,ws,g1.sub,g1.reel,by rw[JX];exact r1,ok,?_⟩
 exact D.mono ws _ _ (fun xs qd v F2 H2 g2 r2 n2=>h v (.ml xs) F2 H2 (g1.trans g2) r2 (dj.back (w:=.ml xs) g1 n2) qd) q1
theorem uS(X:Cx)(rest:List Stmt):GE X rest (fun D σ H=>∀pins s,Inv X pins σ H s->Ia (Il X.prog X.w) X.A (execs rest X.env) (SP X pins D) X.xe s):=fun pins s σ H D I h=>h pins s I
end
section
variable{X:Cx}{rl:RlT}{a b c e:Expr}{es:List Expr}{fa fb fc:TV}{fs:Gi}{pos p:Pos}
noncomputable def kI:Hh->Option (List Hh)
 | .list xs=>some xs
 | .tuple xs=>some xs
 | _=>none
theorem seq_l(xs:List Hh):kI (.list xs)=some xs:=rfl
theorem seq_t(xs:List Hh):kI (.tuple xs)=some xs:=rfl
theorem kI.of{o:Option Hh}(h:o=some d)(e:kI d=some xs):o=some (.list xs)\/o=some (.tuple xs):=by
 cases d<;>cases e
 · exact .inl h
 · exact .inr h
noncomputable def rT:List W->(W->Prop)->Prop:=fun ws Q=>∃w d xs,ws=[w]/\w.dat=some d/\kI d=some xs/\Q (.d (.tuple xs))
theorem wT:eW X rl (fun xs H Q=>∃p ys,xs=[.ref p]/\((Gr X.K H p ys/\∀l,H l=none->Q (.ref l) (D8 H l (.tup ys)))\/(Gq X.K H p ys/\Q (.ref p) H))) rT:=fun{F H vs ws} Qd Q s ra r ⟨w,d,xs,ew,ed1,ed2,q⟩ k=>by
 have ed:=kI.of ed1 ed2
 subst ew
 obtain⟨v,rfl,r1⟩:=kP r
 rcases ed with ed|ed
 · obtain⟨a,us,rfl,sq,rs⟩:=r1.items s ed
   refine⟨a,us,rfl,.inl ⟨sq,fun l hl=>?_⟩⟩
   have g:=Grow.data (a:=l) (o:=.tup us) s ra hl
   exact k _ (.d (.tuple xs)) _ _ g (.tup (.inl (.inl au)) (rs.mono g.fs)) trivial q
 · cases w with
   | d y =>
     cases ed
     cases(show Rep X.K F v (.tuple xs)from r1)with
     | tup sq rs=>exact⟨_,_,rfl,.inr ⟨eI s sq,k _ (.d (.tuple xs)) _ _ (Grow.refl s ra) (.tup sq rs) trivial q⟩⟩
   | ml ys=>cases ed
   | pk ys=>cases ed
   | reel=>cases ed
   | vv u=>cases ed
   | md u=>cases ed
   | mk u=>cases ed
   | lk=>cases ed
   | sc _=>cases ed
   | fd _=>cases ed
   | fw _=>cases ed
   | ft _=>cases ed
   | xc _ _=>cases ed
   | dp _ _=>cases ed
   | nt ds =>
     cases ed
     obtain⟨b,us,rfl,h,q'⟩:=r1
     exact⟨_,_,rfl,.inr ⟨.inl (.inl (s _ _ h)),k _ (.d (.tuple xs)) _ _ (Grow.refl s ra) (.tup (.inl (.inl h)) q') trivial q⟩⟩
theorem nJ(hm:X.mg "tuple" = none)(ha:GB X rl [a] fs)(hg:Gl X "tuple" := by rfl)(he:Hw [a] X.env=(false,eval a X.env)::Hw [] X.env:=by rfl)(hpl:(I0 pos (Hw [] X.env)).any (·.1)=false:=by rfl) :
 PV X rl (.Call (.Name "tuple" p) [a] [] pos) (dt rT fs):=iY jv wT hm (by rfl) ha hg (by decide) (by decide) he hpl
noncomputable def rX:List W->(W->Prop)->Prop:=fun ws Q=>∃w d xs,ws=[w]/\w.dat=some d/\kI d=some xs/\Q (.ml xs)
theorem wV:eW X rl (fun xs H Q=>∃p ys,xs=[.ref p]/\(Gr X.K H p ys\/Gq X.K H p ys)/\∀l,H l=none->Q (.ref l) (D8 H l (.lst ys))) rX:=fun{F H vs ws} Qd Q s ra r ⟨w,d,xs,ew,ed1,ed2,q⟩ k=>by
 have ed:=kI.of ed1 ed2
 subst ew
 obtain⟨v,rfl,r1⟩:=kP r
 rcases ed with ed|ed
 · obtain⟨a,us,rfl,sq,rs⟩:=r1.items s ed
   exact⟨a,us,rfl,.inl sq,fun l hl=>k _ (.ml xs) _ _ (Grow.laid s ra hl) (cL s ra hl rs) (fun a ea=>by cases ea;exact hl) q⟩
 · obtain⟨a,us,rfl,sq,rs⟩:=r1.itemsT s ed
   exact⟨a,us,rfl,.inr sq,fun l hl=>k _ (.ml xs) _ _ (Grow.laid s ra hl) (cL s ra hl rs) (fun a ea=>by cases ea;exact hl) q⟩
theorem iX(hm:X.mg "list" = none)(ha:GB X rl [a] fs)(hg:Gl X "list" := by rfl)(he:Hw [a] X.env=(false,eval a X.env)::Hw [] X.env:=by rfl)(hpl:(I0 pos (Hw [] X.env)).any (·.1)=false:=by rfl) :
 PV X rl (.Call (.Name "list" p) [a] [] pos) (dt rX fs):=iY kf wV hm (by rfl) ha hg (by decide) (by decide) he hpl
end
section
variable{X:Cx}{rl:RlT}
end
section
variable{X:Cx}{rl:RlT}{a b c e:Expr}{es:List Expr}{fa fb fc:TV}{fs:Gi}{pos p p2:Pos}
noncomputable def FQ(f:Int->Int->Hh):List W->(W->Prop)->Prop:=fun ws Q=>∃i j,ws=[.d (.int i),.d (.int j)]/\Q (.d (f i j))
theorem wY{f:Int->Int->V}{g:Int->Int->Hh}(h:∀K F i j,Rep K F (f i j) (g i j)):eW X rl (fun xs H Q=>∃i j,xs=[.int i,.int j]/\Q (f i j) H) (FQ g):=fun{F H vs ws} Qd Q s ra r ⟨i,j,ew,q⟩ k=>by
 subst ew
 obtain⟨v,u,rfl,r1,r2⟩:=CA r
 have e1:=aQ r1
 have e2:=aQ r2
 subst e1 e2
 exact⟨i,j,rfl,k _ (.d _) _ _ (Grow.refl s ra) (h _ _ i j) trivial q⟩
theorem xg(hm:X.mg "max" = none)(ha:GB X rl [a,b] fs)(hc:X.calm=true:=by rfl)(hg:Gl X "max" := by rfl)(he:Hw [a,b] X.env=(false,eval a X.env)::Hw [b] X.env:=by rfl)(hpl:(I0 pos (Hw [b] X.env)).any (·.1)=false:=by rfl) :
 PV X rl (.Call (.Name "max" p) [a,b] [] pos) (dt (FQ fun i j=>.int (max i j)) fs) :=
 cO (qm hc) (wY (f:=fun i j=>.int (if j>i then j else i)) fun _ _ i j=>(show(if j>i then j else i)=max i j by split<;>omega) ▸ .int _) hm (by rfl) ha hg (by decide) (by decide) he hpl
theorem xb(hm:X.mg "min" = none)(ha:GB X rl [a,b] fs)(hc:X.calm=true:=by rfl)(hg:Gl X "min" := by rfl)(he:Hw [a,b] X.env=(false,eval a X.env)::Hw [b] X.env:=by rfl)(hpl:(I0 pos (Hw [b] X.env)).any (·.1)=false:=by rfl) :
 PV X rl (.Call (.Name "min" p) [a,b] [] pos) (dt (FQ fun i j=>.int (min i j)) fs) :=
 cO (ql hc) (wY (f:=fun i j=>.int (if j<i then j else i)) fun _ _ i j=>(show(if j<i then j else i)=min i j by split<;>omega) ▸ .int _) hm (by rfl) ha hg (by decide) (by decide) he hpl
noncomputable def rY:List W->(W->Prop)->Prop:=fun ws Q=>(∃i,ws=[.d (.int i)]/\Q (.d (.int i)))\/∃k:Bool,ws=[.d (.bool k)]/\Q (.d (.int (if k then 1 else 0)))
theorem ud:eW X rl (fun xs H Q=>(∃i,xs=[.int i]/\Q (.int i) H)\/∃k,xs=[.bl k]/\Q (.int (if k then 1 else 0)) H) rY:=fun{F H vs ws} Qd Q s ra r h k=>by
 rcases h with⟨i,ew,q⟩|⟨i,ew,q⟩
 · subst ew
   obtain⟨v,rfl,r1⟩:=kP r
   have e1:=aQ r1
   subst e1
   exact .inl ⟨i,rfl,k _ (.d _) _ _ (Grow.refl s ra) (.int _) trivial q⟩
 · subst ew
   obtain⟨v,rfl,r1⟩:=kP r
   have e1:=fD r1
   subst e1
   exact .inr ⟨i,rfl,k _ (.d _) _ _ (Grow.refl s ra) (.int _) trivial q⟩
theorem ie(hm:X.mg "int" = none)(ha:GB X rl [a] fs)(hg:Gl X "int" := by rfl)(he:Hw [a] X.env=(false,eval a X.env)::Hw [] X.env:=by rfl)(hpl:(I0 pos (Hw [] X.env)).any (·.1)=false:=by rfl) :
 PV X rl (.Call (.Name "int" p) [a] [] pos) (dt rY fs):=iY qo ud hm (by rfl) ha hg (by decide) (by decide) he hpl
noncomputable def FF(C:Int->Int->Prop)(f:Int->Int->Int):Gn:=fun x y H Q=>∃i j,x = .int i/\y = .int j/\C i j/\Q (.int (f i j)) H
theorem vR:GI X .Mult (FF aV fun i j=>i*j):=by
 intro pins s σ H x y v u Q I r1 r2 h
 obtain⟨i,j,e1,e2,hc,q⟩:=h
 subst e1;subst e2
 obtain⟨t,rfl⟩:=r1
 obtain⟨t',rfl⟩:=r2
 exact imul_int ⟨.int _,H,I.tok _,⟨_,rfl⟩,q⟩ hc.ok
noncomputable def Al(i:Nat)(C:Int->Int->Prop)(f:Int->Int->Int)(fa:TV):Gj:=fun D ρ=>∃n,ρ[i]?=some (some (.d (.int n)))/\fa ρ fun w=>∃m,w = .d (.int m)/\C n m/\D.nx (ρ.set i (some (.d (.int (f n m)))))
theorem wN(i:Nat){op:Nz}{C:Int->Int->Prop}{f:Int->Int->Int}(hN:X.N.Nodup)(ho:GI X op (FF C f))(he:PV X rl e fa)(hi:X.N[i]?=some x:=by rfl)(hx:Loc X.env.scope x:=by first|exact Js rfl|exact IR rfl)
 (hf:X.fn x=true\/X.env.scope.names.lookup x=some .local:=by first|exact .inl rfl|exact .inr rfl):GF X rl (.AugAssign (.Name x pos') op e pos) (Al i C f fa):=by
 obtain⟨t,p,k⟩:=he
 refine⟨_,yj hN hi hx p ho hf,fun R Dv D ok ⟨n,e1,q⟩=>?_⟩
 obtain⟨v,s1,r1,_⟩:=R.sl i _ e1
 have ev:=aQ r1
 subst ev
 refine⟨_,s1,k R _ _ q fun v w F1 H1 g1 r1 n1 ⟨m,ew,hc,q1⟩=>?_⟩
 subst ew
 have ev:=aQ r1
 subst ev
 exact⟨n,m,rfl,rfl,hc,ok.nx _ _ _ _ g1.fs (R.set g1 (v:=.int (f n m)) (w:=.d (.int (f n m))) (.int _) trivial (fun _ z=>by cases z) i) q1⟩
noncomputable def cutD(xs:List Hh)(lo hi:Option Int):List Hh:=(xs.drop (HT.sIx xs.length 0 lo)).take (HT.sIx xs.length xs.length hi-HT.sIx xs.length 0 lo)
theorem Reps.cut{K:W.Frag}{ds:List Hh}(r:Reps K F vs ds)(lo hi:Option Int):Reps K F (su vs lo hi) (cutD ds lo hi):=by
 unfold su cutD
 rw[r.length]
 exact(r.drop _).take _
abbrev Gm:=En->(Option Int->Prop)->Prop
noncomputable def GC(X:Cx)(rl:RlT)(o:Option Expr)(f:Gm):Prop:=∃t,PO X o t/\∀{F₀ H₀ F H:Hp}{σ:St}{ρ:En},VR X.K rl F₀ H₀ F H σ ρ->∀(Qd:Option Int->Prop)(Q:Option Int->Hp->Prop),f ρ Qd ->
 (∀o F' H',Grow rl F H F' H'->Qd o->Q o H')->t σ H Q
noncomputable def EV:Gm:=fun _ Q=>Q none
noncomputable def EW(fa:TV):Gm:=fun ρ Q=>fa ρ fun w=>∃i,w = .d (.int i)/\Q (some i)
theorem dR:GC X rl none EV:=⟨_,uW,fun R Qd Q q k=>k _ _ _ (Grow.refl R.sub R.reel) q⟩
theorem dQ(h:PV X rl e fa):GC X rl (some e) (EW fa):=by
 obtain⟨t,p,k⟩:=h
 refine⟨_,uV p,fun R Qd Q q h=>k R _ _ q fun v w F1 H1 g1 r1 n1 ⟨i,ew,q1⟩=>?_⟩
 subst ew
 exact⟨i,aQ r1,h _ F1 H1 g1 q1⟩
noncomputable def Cp(fa:TV)(fl fh:Gm):TV:=fun ρ Q=>fa ρ fun w=>fl ρ fun l=>fh ρ fun h=>∃xs,w.dat=some (.list xs)/\Q (.ml (cutD xs l h))
noncomputable def rZ:W->W->(W->Prop)->Prop:=fun x y Q=>∃xs ys,x.dat=some (.list xs)/\y.dat=some (.list ys)/\xs.length+ys.length<=sizeLine/\Q (.ml (xs++ys))
theorem di.lst{K:W.Frag}{F H:Hp}{v:V}{w:W}{xs:List Hh}(s:bL F H)(r:di K rl F H v w)(e:w.dat=some (.list xs)):∃a vs,v = .ref a/\H a=some (.lst vs)/\Reps K F vs xs:=by
 have own:gZ K rl F H v xs->∃a vs,v = .ref a/\H a=some (.lst vs)/\Reps K F vs xs:=fun⟨a,vs,e1,_,_,e2,e3⟩=>⟨a,vs,e1,e2,e3⟩
 cases w with
 | d y =>
   cases e
   cases(show Rep K F v (.list xs)from r)with
   | lst h q=>exact⟨_,_,rfl,s _ _ h,q⟩
 | ml ys=>cases e;exact own r
 | pk ys=>cases e;exact own r
 | reel=>cases e
 | vv u=>cases e
 | md u=>cases e
 | mk u=>cases e
 | nt u=>cases e
 | lk=>cases e
 | sc _=>cases e
 | fd _=>cases e
 | fw _=>cases e
 | ft _=>cases e
 | xc _ _=>cases e
 | dp _ _=>cases e
theorem t_:Ge X rl CI rZ:=fun{F H x y wx wy} Qd Q s ra r1 r2 q k=>by
 obtain⟨xs,ys,e1,e2,z,q⟩:=q
 obtain⟨a,vs,rfl,h1,q1⟩:=r1.lst s e1
 obtain⟨b,us,rfl,h2,q2⟩:=r2.lst s e2
 refine⟨a,b,vs,us,rfl,rfl,h1,h2,by rw[q1.length,q2.length];exact z,fun p hp=>?_⟩
 exact k _ (.ml _) _ _ (Grow.laid s ra hp) (cL s ra hp (q1.append q2)) (fun a ea=>by cases ea;exact hp) q
theorem ig(ha:PV X rl a fa)(hb:PV X rl b fb):PV X rl (.BinOp a .Add b pos) (D5 rZ fa fb):=gB yD t_ ha hb
noncomputable def sO(p p':Int->Int->Bool)(fa fb fc:TV):TV:=fun ρ Q=>fa ρ fun x=>fb ρ fun y=>∃i j,x = .d (.int i)/\y = .d (.int j) /\
 if p i j=true then fc ρ fun z=>∃k,z = .d (.int k)/\Q (.d (.bool (p' j k)))else Q (.d (.bool false))
theorem uf{op':NR}{p p':Int->Int->Bool}(ho:GO X (JH op) (EL fun i j=>.bl (p i j)))(ho':GO X (JH op') (EL fun i j=>.bl (p' i j)))(ha:PV X rl a fa)(hb:PV X rl b fb)(hc:PV X rl c fc)
 (hm:lastMarks [op,op'] [b,c]=false:=by with_unfolding_all rfl):PV X rl (.Compare a [op,op'] [b,c] pos) (sO p p' fa fb fc):=by
 obtain⟨t,p1,k1⟩:=ha
 obtain⟨t2,p2,k2⟩:=hb
 obtain⟨t3,p3,k3⟩:=hc
 refine⟨_,rj ho ho' p1 p2 p3 hm,fun R Qd Q q h=>k1 R _ _ q fun v w F1 H1 g1 r1 n1 q1=>k2 (R.grow g1) _ _ q1 fun v2 w2 F2 H2 g2 r2 n2 q2=>?_⟩
 obtain⟨i,j,rfl,rfl,q2⟩:=q2
 have e1:=aQ r1
 have e2:=aQ r2
 subst e1 e2
 refine⟨i,j,rfl,rfl,p i j,rfl,?_⟩
 cases hp:p i j with
 | false =>
   rw[hp]at q2
   rw[if_neg (by decide)]at q2 ⊢
   exact h _ (.d _) F2 H2 (g1.trans g2) (.bl _) trivial q2
 | true =>
   rw[hp]at q2
   rw[if_pos rfl]at q2 ⊢
   refine k3 ((R.grow g1).grow g2) _ _ q2 fun v3 w3 F3 H3 g3 r3 n3 ⟨k,ek,q3⟩=>?_
   subst ek
   have e3:=aQ r3
   subst e3
   exact⟨j,k,rfl,rfl,h _ (.d _) F3 H3 ((g1.trans g2).trans g3) (.bl _) trivial q3⟩
structure GlD (K:W.Frag) (mg:Str->Option Hq) (x:Str) (d:Hh):Prop where
 ex:∃v u,mg x=some u/\RelV v u/\∀F,Rep K F v d
theorem eA(G:GlD X.K X.mg x d)(hg:Gl X x:=by rfl)(hd:(x==("__debug__" : Str))=false:=by decide):PV X rl (.Name x pos) (vC d):=by
 obtain⟨v,u,h1,h2,h3⟩:=G.ex
 exact uO h1 h2 h3 hg hd
structure GlK (K:W.Frag) (x:Str) (d:Hh):Prop where
 ex:∃v u,W.nsIn K II x=some (some u)/\RelV v u/\∀F,Rep K F v d
theorem GlK.of{K:W.Frag}(k:GlK K x d)(Y:K.In h)(G:h.Ns II mg):GlD K mg x d:=by
 obtain⟨v,u,h1,h2,h3⟩:=k.ex
 exact⟨v,u,W.mg_of Y G h1,h2,h3⟩
end
end L2.VL
namespace L2
section
variable{X:Cx}{a b:Expr}{ta:TA}{p q pos pos2:Pos}
theorem iE{α β:Type}{R:α->β->Prop}:∀{xs:List α}{ys:List β},xs.length=ys.length->(∀(i:Nat) x y,xs[i]?=some x->ys[i]?=some y->R x y)->IQ R xs ys
 | [],[],_,_=>.nil
 | x::xs,y::ys,hl,h=>.cons (h 0 x y rfl rfl) (iE (by simpa using hl) fun i x y e1 e2=>h (i+1) x y (by simpa using e1) (by simpa using e2))
 | [],_::_,hl,_=>by simp at hl
 | _::_,[],hl,_=>by simp at hl
noncomputable def jh(lo:Int)(n:Nat):List V:=(Ip n).map fun(i:Nat)=>V.int (lo+i)
theorem iV{lo:Int}{acc:Array Hq}(h:ItemsOf (fun i v=>∃t,v = .int (lo+i*1) t) acc n):cz (jh lo n) acc.toList:=by
 obtain⟨h1,h2⟩:=h
 refine iE ?_ ?_
 · simp[jh,h1]
 · intro i v u e1 e2
   unfold jh at e1
   rw[Ix]at e1
   obtain⟨t,e4⟩:=h2 i u (by simpa using e2)
   by_cases hi:i<n
   · rw[HP (by simpa using hi)]at e1
     simp at e1
     subst e1
     exact⟨t,by rw[e4];simp⟩
   · rw[My (by simpa using hi)]at e1
     cases e1
theorem nj{Q:VK}{lo hi:Int}{t u v:Tok}{tk:Nat}(hc:X.calm=true)(I:Inv X pins σ H s)(h1 : -(2^62)<=lo)(h2:lo<2^62)(h3 : -(2^62)<=hi)(h4:hi<2^62)(h5:(hi-lo).toNat<=2^24)
 (q:∀l,H l=none->Q (.ref l) (D8 H l (.lst (jh lo (hi-lo).toNat)))):Ia (Il X.prog X.w) X.A (call (.type "list") [.ref s.heap.objs.size]) (EP X pins σ Q) X.xe {s with heap:=s.heap.push {cls:=.type "range", data:=.fields #[.int lo t,.int hi u,.int 1 v]},toks:=tk}:=by
 have I1:Inv X pins σ H {s with heap:=s.heap.push {cls:=.type "range", data:=.fields #[.int lo t,.int hi u,.int 1 v]},toks:=tk}:=I.kept fun b o e=>Hm _ e
 refine call_list_range (n:=(hi-lo).toNat) (I.ok.hd hc) (IsRange.new ..) (small_one h1 h2 h3 h4) (by rw[rangeSize_one];split<;>omega) h5 fun h' tk acc c hk hn hi=>?_
 have hv:=iV hi
 refine⟨.ref _,_,I1.laid (t':=tk) hk (Hs _) (show cT X.prog X.w _ h' _ (.lst _)from⟨?_,acc.toList,c,hv,by rw[MQ];exact hn⟩),rfl,q _ (I1.hok.fresh (Hs _))⟩
 show(jh lo _).length<=sizeLine
 rw[jh,Hu,KI]
 exact HX h5 (by decide)
noncomputable def Dc(ta:TA):TE:=fun σ H Q=>ta σ H fun vs H1=>∃j:Int,vs=[.int j]/\(-(2^62)<=j/\j<2^62)/\j.toNat<=2^24/\∀l,H1 l=none->Q (.ref l) (D8 H1 l (.lst (jh 0 j.toNat)))
theorem m9(hc:X.calm=true)(hl:Gl X "list")(hml:X.mg "list" = none)(hg:Gl X "range")(hm:X.mg "range" = none)(ha:PA X [a] ta)(hs:Hw [a] X.env=[(false,eval a X.env)]:=by rfl)
 (he:Hw [.Call (.Name "range" p) [a] [] pos2] X.env=(false,eval (.Call (.Name "range" p) [a] [] pos2) X.env)::Hw [] X.env:=by rfl)(hpl:(I0 pos (Hw [] X.env)).any (·.1)=false:=by rfl) :
 PE X (.Call (.Name "list" q) [.Call (.Name "range" p) [a] [] pos2] [] pos) (Dc ta):=by
 intro pins s σ H Q I h
 refine Ky (fK I hl hml (by rfl) ?_ (by decide) (by decide))
 refine Jw ?_ he hpl
 rw[he]
 show Ia _ _ (spliced ((false,eval (.Call (.Name "range" p) [a] [] pos2) X.env)::I0 pos (Hw [] X.env))) _ _ s
 refine Calls.spliced_cons ?_
 refine Call_ (fK I hg hm boot_range (Jw (Eg (ha pos2 pins s σ H _ I h) fun us s1 ⟨vs,H1,I1,r1,q1⟩=>?_) hs rfl))
 obtain⟨j,e,⟨h3,h4⟩,h5,q1⟩:=q1
 subst e
 cases r1 with
 | cons r rr =>
   cases rr
   obtain⟨t,rfl⟩:=r
   exact call_range_1 (Calls.spliced_nil (nj hc I1 (by omega) (by omega) h3 h4 (by simpa using h5) (by simpa using q1)))
end
end L2
namespace L2.VL
section
variable{X:Cx}{rl:RlT}{a b c e:Expr}{es:List Expr}{fa fb fc:TV}{fs:Gi}{pos pos2 p q:Pos}
theorem mY{K:W.Frag}(lo:Int)(n:Nat):Reps K F (jh lo n) (be lo n):=by
 unfold jh be
 generalize Ip n=l
 induction l with
 | nil=>exact .nil
 | cons x l ih=>exact .cons (.int _) ih
noncomputable def Cu(fs:Gi):TV:=fun ρ Q=>fs ρ fun ws=>∃j:Int,ws=[.d (.int j)]/\(-(2^62)<=j/\j<2^62)/\j.toNat<=2^24/\Q (.ml (be 0 j.toNat))
theorem nO(hml:X.mg "list" = none)(hm:X.mg "range" = none)(ha:GB X rl [a] fs)(hc:X.calm=true:=by rfl)(hl:Gl X "list" := by rfl)(hg:Gl X "range" := by rfl)(hs:Hw [a] X.env=[(false,eval a X.env)]:=by rfl)
 (he:Hw [.Call (.Name "range" p) [a] [] pos2] X.env=(false,eval (.Call (.Name "range" p) [a] [] pos2) X.env)::Hw [] X.env:=by rfl)(hpl:(I0 pos (Hw [] X.env)).any (·.1)=false:=by rfl) :
 PV X rl (.Call (.Name "list" q) [.Call (.Name "range" p) [a] [] pos2] [] pos) (Cu fs):=by
 obtain⟨t,p1,k⟩:=ha
 refine⟨_,m9 hc hl hml hg hm p1 hs he hpl,fun R Qd Q q h=>k R _ _ q fun vs ws F1 H1 g1 r1 ⟨j,ew,z,y,q1⟩=>?_⟩
 subst ew
 obtain⟨v,rfl,rv⟩:=kP r1
 have e1:=aQ rv
 subst e1
 exact⟨j,rfl,z,y,fun l hl=>h _ (.ml _) _ _ (g1.trans (Grow.laid g1.sub g1.reel hl)) (cL g1.sub g1.reel hl (mY _ _)) (fun a ea=>by cases ea;exact g1.freeB hl) q1⟩
end
structure Sm (dp bk:Nat) (d:Hh):Prop where
 nice:wz d
 dep:d.depth<=dp
 blk:d.bulk<=bk
theorem iF:∀{xs:List Hh},(∀d∈xs,wz d)->gY xs
 | [],_=>trivial
 | x::xs,h=>⟨h x Hy,iF fun d hd=>h d (Ht _ hd)⟩
theorem gO{k:Nat}:∀{xs:List Hh},(∀d∈xs,d.depth<=k)->IS xs<=k+1
 | [],_=>by simp[IS]
 | x::xs,h=>by
   have h1:=h x Hy
   have h2:=gO (k:=k) (xs:=xs) fun d hd=>h d (Ht _ hd)
   simp only[IS]
   omega
theorem iP{k:Nat}:∀{xs:List Hh},(∀d∈xs,d.bulk<=k)->LZ xs<=(k+1)*xs.length
 | [],_=>by simp[LZ]
 | x::xs,h=>by
   have h1:=h x Hy
   have h2:=iP (k:=k) (xs:=xs) fun d hd=>h d (Ht _ hd)
   simp only[LZ,HV,Nat.mul_succ]
   omega
theorem Sm.seq{dp bk:Nat}(h:∀d∈xs,Sm dp bk d)(hl:xs.length<=n):Sm (dp+2) ((bk+1)*n) (.tuple xs)/\Sm (dp+2) ((bk+1)*n) (.list xs):=by
 have a:=iF fun d hd=>(h d hd).nice
 have b:=gO fun d hd=>(h d hd).dep
 have c:LZ xs<=(bk+1)*n:=HX (iP fun d hd=>(h d hd).blk) (Nat.mul_le_mul_left _ hl)
 refine⟨⟨a,?_,c⟩,⟨a,?_,c⟩⟩<;>simp only[J9]<;>omega
theorem Sm.shw{dp bk:Nat}(h:Sm dp bk d)(h1:dp<=60)(h2:bk<=8000):Gx d:=⟨h.nice,by have:=h.dep;omega,by have:=h.blk;omega⟩
theorem Sm.int{i:Int}(h:i.natAbs<2^1000):Sm 0 0 (.int i):=⟨(Lf.int h).nice,by simp[J9],by simp[Hh.bulk]⟩
theorem Sm.mono{dp bk dp' bk':Nat}(h:Sm dp bk d)(h1:dp<=dp')(h2:bk<=bk'):Sm dp' bk' d:=⟨h.nice,HX h.dep h1,HX h.blk h2⟩
theorem Sm.pair{a b:Int}(ha:a.natAbs<2^1000)(hb:b.natAbs<2^1000):Sm 2 2 (.tuple [.int a,.int b]) :=
 (Sm.seq (dp:=0) (bk:=0) (n:=2) (xs:=[.int a,.int b]) (fun d hd=>by
  rcases HN.mp hd with rfl|hd
  · exact Sm.int ha
  · rcases HN.mp hd with rfl|hd
    · exact Sm.int hb
    · cases hd) (Hs _)).1
end L2.VL
namespace L2
section
variable{X:Cx}{tg e:Expr}{ta te:TE}{p p2 pos:Pos}
end
end L2
namespace L2.VL
section
variable{X:Cx}{rl:RlT}{a b c e tg:Expr}{es:List Expr}{fa fb fc:TV}{fs:Gi}{pos pos2 p p2 q:Pos}
end
end L2.VL
namespace L2
section
variable{X:Cx}
theorem wp{bs:List Bool}{its:List Hq}(r:cz (bs.map V.bl) its){v:Hq}(e:its[i]?=some v):v = .bool (bs.getD i false):=by
 have hl:=r.length
 rw[Hu]at hl
 have hi:i<bs.length:=by have:=(HY.mp e).1;omega
 have hb:(bs.map V.bl)[i]?=some (.bl bs[i]):=by simp[hi]
 obtain⟨u,hu,ru⟩:=r.get hb
 rw[e]at hu
 cases hu
 have:bs.getD i false=bs[i]:=by simp[NG,hi]
 rw[this]
 exact ru
theorem oE{bs:List Bool}:(Ip bs.length).all (fun i=>bs.getD i false)=bs.all id:=by
 have:bs=(Ip bs.length).map fun i=>bs.getD i false:=by
  apply Lr
  · simp
  · intro i h1 h2
    simp[NG,h1]
 conv=>rhs;rw[this,Nt]
 rfl
theorem sD(hc:X.calm=true):dB X (.builtin "all") (fun xs H Q=>∃(p:Addr)(bs:List Bool),xs=[.ref p]/\Gr X.K H p (bs.map V.bl)/\Q (.bl (bs.all id)) H):=by
 intro pins s σ H xs us Q I r ⟨p,bs,ex,hq,q⟩
 subst ex
 obtain⟨u,rfl,ru⟩:=vals1 r
 cases ru
 obtain⟨its,rv,pl,hz⟩:=I.list hq
 have hl:=rv.length
 rw[Hu]at hl
 refine call_all_walk (Kc pl.isList ?_)
 have ne:p≠s.heap.objs.size:=by obtain⟨o,ho,_⟩:=pl.isList;exact Im (HJ ho)
 refine⟨s.heap.objs.size,_,_,_,_,_,fun i=>bs.getD i false,rfl,Walks.list (A:=X.A.in1) (I.ok.hd hc) s.heap.objs.size p ne its.toArray,⟨⟨_,HR _ rfl,rfl,rfl⟩,pl.isList.push _⟩,fun i v s' Q' E' hP hQ=>?_,fun h' tk k=>?_⟩
 · rw[wp rv (show its[i]?=some v by simpa using hP)]
   exact JC hQ
 · have e:(Ip its.toArray.size).all (fun i=>bs.getD i false)=bs.all id:=by rw[HL,<- hl];exact oE
   rw[e]
   exact⟨.bl _,H,I.kept (t':=tk) fun b o eb=>k b o (by simp;exact Im (HJ eb)) (Hm _ eb),rfl,q⟩
end
end L2
namespace L2.VL
section
variable{X:Cx}{rl:RlT}{a b c e:Expr}{es:List Expr}{fa fb fc:TV}{fs:Gi}{pos p p2:Pos}
theorem oB{K:W.Frag}{F:Hp}:∀{vs:List V}{bs:List Bool},Reps K F vs (bs.map .bool)->vs=bs.map V.bl
 | _,[],h=>h.nil_iff
 | _,b::bs,.cons h r=>by rw[fD h,oB r];rfl
noncomputable def zV(f:List Bool->Bool):List W->(W->Prop)->Prop:=fun ws Q=>∃(w:W)(bs:List Bool),ws=[w]/\w.dat=some (.list (bs.map .bool))/\Q (.d (.bool (f bs)))
theorem wZ{f:List Bool->Bool}:eW X rl (fun xs H Q=>∃(p:Addr)(bs:List Bool),xs=[.ref p]/\Gr X.K H p (bs.map V.bl)/\Q (.bl (f bs)) H) (zV f):=fun{F H vs ws} Qd Q s ra r ⟨w,bs,ew,ed,q⟩ k=>by
 subst ew
 obtain⟨v,rfl,r1⟩:=kP r
 obtain⟨a,us,rfl,sq,rs⟩:=r1.items s ed
 have e:=oB rs
 subst e
 exact⟨a,bs,rfl,sq,k _ (.d _) _ _ (Grow.refl s ra) (.bl _) trivial q⟩
theorem v_all(hm:X.mg "all" = none)(ha:GB X rl [a] fs)(hc:X.calm=true:=by rfl)(hg:Gl X "all" := by rfl)(he:Hw [a] X.env=(false,eval a X.env)::Hw [] X.env:=by rfl)(hpl:(I0 pos (Hw [] X.env)).any (·.1)=false:=by rfl) :
 PV X rl (.Call (.Name "all" p) [a] [] pos) (dt (zV fun bs=>bs.all id) fs):=cO (sD hc) wZ hm (by rfl) ha hg (by decide) (by decide) he hpl
end
end L2.VL
namespace L2.TM
section
variable{prog:Ij}{w:IV}{A:IU}{E:Hq->Hv->Prop}{s:Hv}{k:Int}{t:Tok}{l:Addr}{its:Array Hq}
end
end L2.TM
namespace L2
section
variable{X:Cx}
end
end L2
namespace L2.VL
section
variable{X:Cx}{rl:RlT}{a b c e:Expr}{es:List Expr}{fa fb fc:TV}{fs:Gi}{pos p p2:Pos}
noncomputable def Bj:W->W->(W->Prop)->Prop:=fun x y Q=>∃xs ys,x = .d (.tuple xs)/\y = .d (.tuple ys)/\xs≠[]/\xs.length+ys.length<=sizeLine/\Q (.d (.tuple (xs++ys)))
theorem t9:Ge X rl (uL X.K) Bj:=fun{F H x y wx wy} Qd Q s ra r1 r2 q k=>by
 obtain⟨xs,ys,rfl,rfl,hne,hz,q⟩:=q
 cases(show Rep X.K F x (.tuple xs)from r1)with
 | @tup a vs _ sq rs =>
   cases(show Rep X.K F y (.tuple ys)from r2)with
   | @tup b us _ EA rs2 =>
     refine⟨a,b,vs,us,rfl,rfl,eI s sq,eI s EA,fun z=>hne ?_,by rw[rs.length,rs2.length];exact hz,fun e=>?_,fun e p hp=>?_⟩
     · subst z;cases rs;rfl
     · subst e
       cases rs2
       rw[JX]at q
       exact k _ (.d (.tuple xs)) _ _ (Grow.refl s ra) (.tup sq rs) trivial q
     · have g:=Grow.data (a:=p) (o:=.tup (vs++us)) s ra hp
       exact k _ (.d _) _ _ g (.tup (.inl (.inl au)) ((rs.append rs2).mono g.fs)) trivial q
end
end L2.VL
namespace L2
section
variable{X:Cx}
theorem Room.u65{k:Nat}(r:Room k A):A.units+65<Mn:=by have:=r.un;omega
noncomputable def x_(K:W.Frag):R2:=fun x y H Q=>∃a b ys,x = .ref a/\y = .ref b/\Gq K H a []/\Gq K H b ys/\Q (.ref b) H
theorem vq:GO X (Kn .Add) (x_ X.K):=by
 intro pins s σ H x y v u Q I rx ry h
 obtain⟨a,b,ys,rfl,rfl,ha,hb,q⟩:=h
 cases rx
 cases ry
 obtain⟨its,r1,p1,_⟩:=I.tuple ha
 obtain⟨its2,r2,p2,_⟩:=I.tuple hb
 cases r1
 obtain⟨⟨c1,d1,e1,sl1⟩,ho,hc,n,hd⟩:=p1
 obtain⟨⟨c2,d2,e2,sl2⟩,ho2,hc2,n2,hd2⟩:=p2
 cases hc;cases hd;cases hc2;cases hd2
 exact Np ⟨_,ho,rfl⟩ ⟨_,ho2,rfl⟩ Mi Nb K8 K0 (KU _ _)
  (tuple_addW0 a b _ its2.toArray n n2 d1 d2 sl1 sl2 rfl) ⟨ho,ho2,⟨.ref b,H,I,rfl,q⟩⟩
noncomputable def x9(K:W.Frag):R2:=fun x y H Q=>uL K x y H Q\/x_ K x y H Q
theorem vp:GO X (Kn .Add) (x9 X.K):=fun pins s σ H x y v u Q I rx ry h=>h.elim (vj pins s σ H x y v u Q I rx ry) (vq pins s σ H x y v u Q I rx ry)
section
variable{prog:Ij}{w:IV}{A:IU}{E:Hq->Hv->Prop}{s:Hv}
end
theorem mM{vs:List Hq}(h:LD vs ns):cz (ns.map V.int) vs:=by
 induction h with
 | nil=>exact .nil
 | cons n t r ih=>exact .cons ⟨t,rfl⟩ ih
end
end L2
namespace L2.VL
section
variable{X:Cx}{rl:RlT}{a b c e:Expr}{es:List Expr}{fa fb fc:TV}{fs:Gi}{pos p p2:Pos}
noncomputable def r8:W->W->(W->Prop)->Prop:=fun x y Q=>∃xs ys,x = .d (.tuple xs)/\y = .d (.tuple ys)/\xs.length+ys.length<=sizeLine/\Q (.d (.tuple (xs++ys)))
theorem ua:Ge X rl (x9 X.K) r8:=fun{F H x y wx wy} Qd Q s ra r1 r2 q k=>by
 obtain⟨xs,ys,rfl,rfl,hz,q⟩:=q
 by_cases hx:xs=[]
 · subst hx
   cases(show Rep X.K F x (.tuple [])from r1)with
   | @tup a vs _ sq rs =>
     cases rs
     cases(show Rep X.K F y (.tuple ys)from r2)with
     | @tup b us _ EA rs2=>exact .inr ⟨a,b,us,rfl,rfl,eI s sq,eI s EA,k _ (.d (.tuple ys)) _ _ (Grow.refl s ra) (.tup EA rs2) trivial q⟩
 · exact .inl (t9 Qd Q s ra r1 r2 ⟨xs,ys,rfl,rfl,hx,hz,q⟩ k)
theorem nQ(ha:PV X rl a fa)(hb:PV X rl b fb):PV X rl (.BinOp a .Add b pos) (D5 r8 fa fb):=gB vp ua ha hb
theorem eJ{K:W.Frag}{F:Hp}:∀{vs:List V}{ns:List Int},Reps K F vs (ns.map .int)->vs=ns.map V.int
 | _,[],h=>h.nil_iff
 | _,n::ns,.cons h r=>by rw[aQ h,eJ r];rfl
theorem lZ{K:W.Frag}{F:Hp}:∀{ns:List Int},Reps K F (ns.map V.int) (ns.map .int)
 | []=>.nil
 | n::ns=>.cons (.int n) lZ
end
end L2.VL
namespace L2.TO
section
variable{prog:Ij}{w:IV}{A:IU}{E:Hq->Hv->Prop}{s:Hv}
end
end L2.TO
namespace L2
section
variable{X:Cx}{a b e:Expr}{ta:TA}{te:TE}{p p2 q pos pos2:Pos}
end
end L2
namespace L2.VL
section
variable{X:Cx}{rl:RlT}{a b c e:Expr}{es:List Expr}{fa fb fc:TV}{fs:Gi}{pos pos2 p q p2:Pos}
end
end L2.VL
namespace L2.TW
section
variable{prog:Ij}{w:IV}{A:IU}{E:Hq->Hv->Prop}{s:Hv}
theorem get_whole{t sl:Addr}{items:Array Hq}{vl vu:Hq}{lo hi:Option Int}(ht:IsTup s.heap t items)(hs:s.heap.IsSliceOf sl vl vu .none)(pl:Nc vl lo)(pu:Nc vu hi)
 (hw:HT.sIx items.size 0 lo=0/\HT.sIx items.size items.size hi=items.size)(h:Q (.ref t) s):Ia (Il prog w) A (Mb (.ref t) (.ref sl)) Q E s:=by
 have ty:s.TypeIs (.ref sl) "slice" := let ⟨o,h1,h2,_⟩:=hs;⟨o,h1,h2⟩
 have key:Ia (Il prog w) A (call (.builtin "tuple.__getitem__") [.ref t,.ref sl]) Q E s:=by
  refine J5 IH ht.typeIs entry_tuple_getitem ?_ (args_tuple_getitem _ _)
  show Ia _ _ (LP (.ref t) >>= _) _ _ s;refine Hl (tupleItemsOf_ ht (Hl (Nq ty ?_)))
  rw[if_pos (by decide)]
  refine Hl (HT.sliceApplied_gen hs pl pu ?_)
  rw[hw.1,hw.2,Nat.sub_zero]
  show Ia _ _ (if(((0:Nat):Int)==0&&(1:Int)==1&&items.size==items.size)=true then _ else _) _ _ s
  rw[if_pos (by simp)]
  unfold Builtin.Tuple.tupleIsExact
  refine Hl (Hl (Nq ht.typeIs (HD ?_)))
  rw[if_pos (by decide)]
  exact Hl (Ly (Hl (HD (HD ⟨_,rfl,h⟩))))
 unfold Mb;try with_reducible refine Kq ?_
 first|exact Hl (HD (Hl (L4 ht.typeIs (by decide) (Hl (Jj (name:=Hi "__getitem__") ht.typeIs IH (Eg key fun v s' q=>HD q))))))|exact Hl (L4 ht.typeIs (by decide) (Hl (Jj (name:=Hi "__getitem__") ht.typeIs IH (Eg key fun v s' q=>HD q))))
end
end L2.TW
namespace L2
section
variable{X:Cx}
noncomputable def Dk(K:W.Frag):V->Option Int->Option Int->Hp->VK->Prop:=fun x lo hi H Q=>CB K x lo hi H Q\/∃a xs,x = .ref a/\Gq K H a xs/\(HT.sIx xs.length 0 lo=0/\HT.sIx xs.length xs.length hi=xs.length)/\Q (.ref a) H
theorem uA:Gw X (Dk X.K):=by
 intro pins s σ H x v vl vu lo hi sl Q I rx hs pl pu h
 rcases h with h|⟨a,xs,rfl,hx,hw,q⟩
 · exact xH pins s σ H x v vl vu lo hi sl Q I rx hs pl pu h
 · cases rx
   obtain⟨its,r,ht,hz⟩:=I.tuple hx
   have hlen:its.toArray.size=xs.length:=by rw[HL];exact r.length.symm
   exact⟨"tuple", _,IH.lookup,ht.typeIs,TW.get_whole ht hs pl pu (by rw[hlen];exact hw) ⟨.ref a,H,I,rfl,q⟩⟩
end
end L2
namespace L2.VL
section
variable{X:Cx}{rl:RlT}{a b c e:Expr}{es:List Expr}{fa fb fc:TV}{fs:Gi}{pos p p2:Pos}
theorem p6{l u:Option Int}(h:HT.sIx xs.length 0 l=0/\HT.sIx xs.length xs.length u=xs.length):cutD xs l u=xs:=by
 unfold cutD
 rw[h.1,h.2]
 simp
noncomputable def Af(fa:TV)(fl fh:Gm):TV:=fun ρ Q=>fa ρ fun w=>fl ρ fun l=>fh ρ fun h=>∃xs,w = .d (.tuple xs)/\Q (.d (.tuple (cutD xs l h)))
theorem mN{lo hi:Option Expr}{fl fh:Gm}(ha:PV X rl a fa)(hl:GC X rl lo fl)(hh:GC X rl hi fh):PV X rl (.Subscript a (.Slice lo hi none p2) pos) (Af fa fl fh):=by
 obtain⟨t,p,k⟩:=ha
 obtain⟨tl,pl,kl⟩:=hl
 obtain⟨th,ph,kh⟩:=hh
 refine⟨_,lL uA p pl ph,fun R Qd Q q h=>k R _ _ q fun v w F1 H1 g1 r1 n1 q1=>?_⟩
 refine kl (R.grow g1) _ _ q1 fun l F2 H2 g2 q2=>kh ((R.grow g1).grow g2) _ _ q2 fun u F3 H3 g3 q3=>?_
 obtain⟨xs,rfl,q3⟩:=q3
 have r3:=(r1.grow g2).grow g3
 have g:=(g1.trans g2).trans g3
 cases(show Rep X.K F3 v (.tuple xs)from r3)with
 | @tup a vs _ sq rs =>
   by_cases hw:HT.sIx xs.length 0 l=0/\HT.sIx xs.length xs.length u=xs.length
   · rw[p6 hw]at q3
     exact .inr ⟨a,vs,rfl,eI g3.sub sq,by rw[rs.length];exact hw,h _ (.d _) _ _ g (.tup sq rs) trivial q3⟩
   · refine .inl ⟨a,vs,rfl,eI g3.sub sq,by rw[rs.length];exact hw,fun p hp=>?_⟩
     have g':=Grow.data (a:=p) (o:=.tup (su vs l u)) g3.sub g3.reel hp
     exact h _ (.d _) _ _ (g.trans g') (.tup (.inl (.inl au)) ((rs.cut l u).mono g'.fs)) trivial q3
end
end L2.VL
namespace L2
abbrev Dy(D:List (Str×Int)):List (Hh×Hh):=(D.map fun q=>(q.1,HB q.2)).map fun q=>(Iw q.1,q.2)
section
variable{X:Cx}{e:Expr}{ty:TE}{px apos cpos:Pos}
end
end L2
namespace L2.VL
section
variable{X:Cx}{rl:RlT}{a b c e:Expr}{es:List Expr}{fa fb fc:TV}{fs:Gi}{pos p p2 px apos cpos:Pos}
end
end L2.VL
set_option exponentiation.threshold 10000
namespace L2.VL
noncomputable def wD(a b:Int):Hh:=.tuple [.int (a.fdiv (Jz a b)),.int (b.fdiv (Jz a b))]
theorem jm{a b:Int}(hb:0<b)(z:b.natAbs<2^8000)(i:Int):fX i (Jz a b:Int):=by
 have h1:=vZ (a:=a) (b:=b) (by omega)
 have h2:=zg (a:=a) (b:=b) (by omega)
 exact⟨by omega,J6 (by omega) (Hr z (HF (by decide) (by decide)))⟩
noncomputable def zE(bs:List Int):Prop:=bs.length=4/\(∀b∈bs,2<=b/\b<=16)/\bs.Pairwise fun x y=>Jz x y=1
instance (bs:List Int):Decidable (zE bs):=by unfold zE;infer_instance
theorem ox{d:Nat}{k:Int}(h:0<=k):HT.sIx n d (some k)=min k.toNat n:=by
 obtain⟨m,rfl⟩:=JT h
 exact HT.sIx_nat n d m
theorem jt{k:Int}(h:0<=k):cutD xs (some k) none=xs.drop k.toNat:=by
 unfold cutD
 rw[ox h,HT.sIx_none]
 by_cases hk:k.toNat<=xs.length
 · rw[LI hk]
   exact HE (by simp)
 · rw[Mj (by omega),JL,K9 (by omega)]
   simp
noncomputable def pr(a b:Int):Hh:=.tuple [.int a,.int b]
theorem GlK.pair{K:W.Frag}{a b:Int}{p:Addr}{sl:Array (Option Hq)}{t u:Tok}(h1:W.nsIn K II x=some (some (.ref p)))
 (h2:K.lookup p=some ⟨.type "tuple", none,.seq #[.int a t,.int b u] n,sl⟩):GlK K x (pr a b):=by
 refine⟨.ref p,.ref p,h1,rfl,fun F=>.tup (vs:=[.int a,.int b]) (.inr ⟨_,_,n,h2,rfl,rfl,(by show 2<=sizeLine;decide),.cons ⟨t,rfl⟩ (.cons ⟨u,rfl⟩ .nil),rfl⟩) (.cons (.int a) (.cons (.int b) .nil))⟩
end L2.VL
set_option exponentiation.threshold 10000
namespace L2.VL
noncomputable def stepT(b:Int)(p:List Int)(t:Int)(a:Nat):Int:=t*b+p.getD a 0
noncomputable def D_:Hh->Int
 | .int i=>i
 | _=>0
section
variable{P:Ij}{w:IV}{K:W.Frag}{mg:Str->Option Hq}{base:Heap}{rl:RlT}{x:Str}{st:Stmt}{N ps:List Str}{k:Nat}{Pd:List W->(List Hh->Prop)->Prop}{t:Gj}
end
section
variable{X:Cx}{rl:RlT}{a b c e:Expr}{es:List Expr}{fa fb fc:TV}{fs:Gi}{pos p p2 px apos cpos:Pos}
end
end L2.VL
namespace L2.IX
section
variable{prog:Ij}{w:IV}{A:IU}{E:Hq->Hv->Prop}{s:Hv}
end
end L2.IX
namespace L2
section
variable{X:Cx}
end
end L2
namespace L2.VL
section
variable{X:Cx}{rl:RlT}{a b c e:Expr}{es:List Expr}{fa fb fc:TV}{fs:Gi}{pos p p2 px apos cpos:Pos}
noncomputable def zb:Hh->Bool
 | .none=>true
 | _=>false
noncomputable def rW:W->W->(W->Prop)->Prop:=fun x y Q=>∃xs k,x.dat=some (.list xs)/\y = .d (.int k) /\ -(2^63)<=k/\k<2^63/\xs.length*k.toNat<=sizeLine/\Q (.ml (Ih k.toNat xs).flatten)
theorem xT{K:W.Frag}{F:Hp}{vs:List V}{ds:List Hh}(r:Reps K F vs ds):∀n:Nat,Reps K F (Ih n vs).flatten (Ih n ds).flatten
 | 0=>.nil
 | n+1=>by rw[Jf,Jf,Kf,Kf];exact r.append (xT r n)
theorem t8:Ge X rl CC rW:=fun{F H x y wx wy} Qd Q s ra r1 r2 q k=>by
 obtain⟨xs,n,e1,rfl,h1,h2,hz,q⟩:=q
 have ey:=aQ r2
 subst ey
 obtain⟨a,vs,rfl,hh,rs⟩:=r1.lst s e1
 refine⟨a,n,vs,rfl,rfl,hh,h1,h2,by rw[rs.length];exact hz,fun p hp=>?_⟩
 exact k _ (.ml _) _ _ (Grow.laid s ra hp) (cL s ra hp (xT rs n.toNat)) (fun a ea=>by cases ea;exact hp) q
theorem xa(ha:PV X rl a fa)(hb:PV X rl b fb):PV X rl (.BinOp a .Mult b pos) (D5 rW fa fb):=gB yB t8 ha hb
end
end L2.VL
namespace L2.ZP
section
variable{prog:Ij}{w:IV}{A:IU}{E:Hq->Hv->Prop}{s:Hv}{it a:Addr}{k:Nat}{xs:Array Hq}{v:Hq}
theorem uv(st:s.heap.IsTupleIter it a k)(tu:s.heap.IsTuple a xs)(e:xs[k]?=some v)
 (q:∀g,g.IsTupleIter it a (k+1)->Kj it s.heap g->Q v {s with heap:=g}):Ia (Il prog w) A (Jp (.ref it)) Q E s:=by
 have ty:=st.typeIs
 obtain⟨o,oe,oc,od⟩:=st
 obtain⟨l,le,_,_,ld⟩:=tu
 unfold Jp
 have sl:=F.slot_tuple_iterator_next
 refine Hl (Jj (name:=Hi "__next__") ty sl (J5 sl ty F.entry_tuple_iterator_next ?_ (F.args_tuple_iterator_next_1 _)))
 show Ia _ _ (do let z <- field (.ref it) 0;_) _ _ s
 refine Hl (JK oe od (x:=.ref a) rfl ?_)
 show Ia _ _ (ite ((JV a==K_)=true) _ _) _ _ s
 rw[if_neg (show ¬(JV a == .none)=true by intro z;cases z)]
 show Ia _ _ (do let z <- field (.ref it) 1;_) _ _ s
 refine Hl (JK oe od (x:=.int k 0) rfl ?_)
 show Ia _ _ (do let z <- NH (.ref a);_) _ _ s
 refine Hl (L0 le ld ?_)
 simp only[Ji,e]
 refine Hl (wpAny_setField oe od (by simp) (HD ⟨v,rfl,HD (q _ ?_ (M2 ..))⟩))
 refine⟨_,MB _ oe (Obj.isFreed_of_fields (Obj.data_mapFields od _)),?_,?_⟩
 · exact(Obj.cls_mapFields ..).trans oc
 · rw[Obj.data_mapFields od];simp[rawInt]
theorem xv(hd:A.handled=none)(st:s.heap.IsTupleIter it a k)(tu:s.heap.IsTuple a xs)(e:xs[k]?=none)
 (q:∀g x,Heap.ExtBut it s.heap g->(∃o,g.get? x=some o/\o.cls = .type "StopIteration")->E (.ref x) {s with heap:=g}):Ia (Il prog w) A (Jp (.ref it)) Q E s:=by
 have ty:=st.typeIs
 obtain⟨o,oe,oc,od⟩:=st
 obtain⟨l,le,_,_,ld⟩:=tu
 unfold Jp
 have sl:=F.slot_tuple_iterator_next
 refine Hl (Jj (name:=Hi "__next__") ty sl (J5 sl ty F.entry_tuple_iterator_next ?_ (F.args_tuple_iterator_next_1 _)))
 show Ia _ _ (do let z <- field (.ref it) 0;_) _ _ s
 refine Hl (JK oe od (x:=.ref a) rfl ?_)
 show Ia _ _ (ite ((JV a==K_)=true) _ _) _ _ s
 rw[if_neg (show ¬(JV a == .none)=true by intro z;cases z)]
 show Ia _ _ (do let z <- field (.ref it) 1;_) _ _ s
 refine Hl (JK oe od (x:=.int k 0) rfl ?_)
 show Ia _ _ (do let z <- NH (.ref a);_) _ _ s
 refine Hl (L0 le ld ?_)
 simp only[Ji,e]
 refine Hl (Ly (Hl (wpAny_setField oe od (by simp) ?_)))
 show Ia _ _ (do let z <- newExc (.type "StopIteration") [];_) _ _ _
 refine Hl ?_
 simp only[newExc,newTuple]
 refine Hl (IL ?_ (by size_fits))
 refine Hl (m:=firstArgMember _ _) (NJ (a:=.none) (by first|rfl|(simp only[firstArgMember];rfl)) (IL ?_ (by size_fits)))
 simp only[raiseNew]
 refine Hl (wpAny_handled ?_)
 first
  | rw[show A.in1.handled=none from hd]
  | rw[hd]
 refine Hl (HD (wpAny_throw ?_))
 exact q _ _ (((M2 ..).extBut.push _).push _) ⟨_,HR _ rfl,rfl⟩
end
noncomputable def G3(h:Heap)(it a:Addr)(xs:Array Hq)(k:Nat):Prop:=(h.IsListIter it a k/\h.IsList a xs)\/(h.IsTupleIter it a k/\h.IsTuple a xs)
section
variable{prog:Ij}{w:IV}{A:IU}{E:Hq->Hv->Prop}{s:Hv}{it a:Addr}{k:Nat}{xs:Array Hq}{v:Hq}
theorem G3.item(st:G3 s.heap it a xs k)(ne:a≠it)(e:xs[k]?=some v)
 (q:∀g,G3 g it a xs (k+1)->Kj it s.heap g->Q v {s with heap:=g}):Ia (Il prog w) A (Jp (.ref it)) Q E s:=by
 rcases st with⟨h1,h2⟩|⟨h1,h2⟩
 · exact wpAny_nextOf_list_item h1 h2 e fun g h3 h4=>q g (.inl ⟨h3,h2.extBut h4.extBut ne⟩) h4
 · exact uv h1 h2 e fun g h3 h4=>q g (.inr ⟨h3,h2.extBut h4.extBut ne⟩) h4
theorem G3.fin(hd:A.handled=none)(st:G3 s.heap it a xs k)(e:xs[k]?=none)
 (q:∀g x,Heap.ExtBut it s.heap g->(∃o,g.get? x=some o/\o.cls = .type "StopIteration")->E (.ref x) {s with heap:=g}):Ia (Il prog w) A (Jp (.ref it)) Q E s:=by
 rcases st with⟨h1,h2⟩|⟨h1,h2⟩
 · exact wpAny_nextOf_list_end hd h1 h2 e q
 · exact xv hd h1 h2 e q
theorem G3.keep(st:G3 h it a xs k)(e1:∀o,h.get? it=some o->h'.get? it=some o)(e2:∀o,h.get? a=some o->h'.get? a=some o):G3 h' it a xs k:=by
 rcases st with⟨⟨o,h1,r1⟩,⟨p,h2,r2⟩⟩|⟨⟨o,h1,r1⟩,⟨p,h2,r2⟩⟩
 · exact .inl ⟨⟨o,e1 _ h1,r1⟩,⟨p,e2 _ h2,r2⟩⟩
 · exact .inr ⟨⟨o,e1 _ h1,r1⟩,⟨p,e2 _ h2,r2⟩⟩
end
section
variable{prog:Ij}{w:IV}{A:IU}{E:Hq->Hv->Prop}{s:Hv}{z ti to i1 i2 a1 a2:Addr}{k1 k2:Nat}{xs ys:Array Hq}{x y p q:Hq}
theorem SameBut.keep(sb:Kj a h h')(ne:b≠a):∀o,h.get? b=some o->h'.get? b=some o:=fun o e=>sb.extBut _ _ ne e
end
noncomputable def Gu(b:Bool)(h:Heap)(a:Addr)(xs:Array Hq):Prop:=bif b then h.IsTuple a xs else h.IsList a xs
noncomputable def FA(b:Bool):String:=bif b then "tuple_iterator" else "list_iterator"
section
variable{prog:Ij}{w:IV}{A:IU}{E:Hq->Hv->Prop}{s:Hv}{b b1 b2:Bool}{a a1 a2:Addr}{xs ys:Array Hq}
theorem y_(st:Gu b s.heap a xs)(q:Q (.ref s.heap.objs.size) {s with heap:=s.heap.push {cls:=.type (FA b),data:=.fields #[.ref a,.int 0 0]}}):Ia (Il prog w) A (NA (.ref a)) Q E s:=by
 cases b with
 | true=>exact LR st q
 | false=>exact Kc st q
abbrev y1(h:Heap)(b1:Bool)(a1:Addr):Heap:=h.push {cls:=.type (FA b1),data:=.fields #[.ref a1,.int 0 0]}
abbrev y2(h:Heap)(b1 b2:Bool)(a1 a2:Addr):Heap:=(y1 h b1 a1).push {cls:=.type (FA b2),data:=.fields #[.ref a2,.int 0 0]}
abbrev y3(h:Heap)(b1 b2:Bool)(a1 a2:Addr):Heap:=(y2 h b1 b2 a1 a2).push {cls:=.type "tuple", data:=.seq #[.ref h.objs.size,.ref (y1 h b1 a1).objs.size]}
abbrev y4(h:Heap)(b1 b2:Bool)(a1 a2:Addr):Heap:=(y3 h b1 b2 a1 a2).push {cls:=.type "tuple", data:=.seq #[.none,.none]}
abbrev y5(h:Heap)(b1 b2:Bool)(a1 a2:Addr):Heap:=(y4 h b1 b2 a1 a2).push {cls:=.type "zip", data:=.fields #[.none,.bool false,.bool false,.ref (y2 h b1 b2 a1 a2).objs.size,.ref (y3 h b1 b2 a1 a2).objs.size]}
end
end L2.ZP
namespace L2
open PySem PySem.Spec PyProof.Rows L2.ZP
theorem Inv.turnedL{ch:List Addr}(I:Inv X pins σ H s)(k:∀b o,b∉ch->s.heap.get? b=some o->h'.get? b=some o)(hn:∀b∈ch,kE X pins H b) :
 Inv X pins σ H {s with heap:=h',toks:=t' }:=by
 have nit:∀b u,H b=some u->b∉ch:=fun b u e z=>by rw[(hn b z).1]at e;cases e
 refine I.step (g':=s.gens) (d':=s.drawn) (ch:=ch) (fun b hb=>?_) (fun b o _ _ hc e _=>k b o hc e) (fun b o _ _ hc e _=>⟨o.slots,k b o hc e⟩) (fun _ _ _ _ n=>n) (fun b o hc e=>⟨o,k b o hc e⟩) (fun _ _ e=>e) (fun _ _ _ e=>e) (fun b ps e=>⟨#[],by rw[e];simp⟩) (fun m hm=>?_) (fun b u e=>?_) I.bare
 · obtain⟨_,h2,_,h4,h5,h6⟩:=hn b hb
   exact⟨h4,h2,h5,h6⟩
 · obtain⟨o,es,ep,ho,r⟩:=hm
   exact⟨o,es,ep,k _ o (fun z=>(hn _ z).2.1 rfl) ho,r⟩
 · refine(I.hok b u e).stay (fun c v hc q=>k c v ?_ q) (fun _ q=>q) fun _ _ q=>q
   rcases hc with z|z
   · rw[z];exact nit b u e
   · exact nit c _ z
noncomputable def Gs(b:Bool)(K:W.Frag)(H:Hp)(a:Addr)(xs:List V):Prop:=bif b then Gq K H a xs else Gr K H a xs
theorem Inv.sqB{b:Bool}{xs:List V}(I:Inv X pins σ H s)(h:Gs b X.K H a xs):∃its,cz xs its/\Gu b s.heap a its.toArray:=by
 cases b with
 | true =>
   obtain⟨its,r,t,z⟩:=I.tuple h
   exact⟨its,r,t⟩
 | false =>
   obtain⟨its,r,p,z⟩:=I.list h
   exact⟨its,r,p.isList⟩
theorem Inv.sqB_inj{b:Bool}{xs ys:List V}(I:Inv X pins σ H s)(h:Gs b X.K H a xs)(h':Gs b X.K H a ys):xs=ys:=by
 cases b with
 | true=>exact I.tuple_inj h h'
 | false=>exact I.list_inj h h'
noncomputable def G4(b:Bool)(h:Heap)(it a:Addr)(k:Nat):Prop:=bif b then h.IsTupleIter it a k else h.IsListIter it a k
theorem G4.it1{b:Bool}{k:Nat}{xs:Array Hq}(q:G4 b h it a k)(r:Gu b h a xs):G3 h it a xs k:=by
 cases b with
 | true=>exact .inr ⟨q,r⟩
 | false=>exact .inl ⟨q,r⟩
theorem G4.keep{b:Bool}{k:Nat}(q:G4 b h it a k)(e:∀o,h.get? it=some o->h'.get? it=some o):G4 b h' it a k:=by
 cases b with
 | true=>obtain⟨o,h1,r⟩:=(show h.IsTupleIter it a k from q);exact⟨o,e _ h1,r⟩
 | false=>obtain⟨o,h1,r⟩:=(show h.IsListIter it a k from q);exact⟨o,e _ h1,r⟩
theorem G4.obj{b:Bool}{k:Nat}(q:G4 b h it a k):∃o,h.get? it=some o/\∀v,o.data ≠ .cell v:=by
 cases b with
 | true=>obtain⟨o,h1,_,d⟩:=(show h.IsTupleIter it a k from q);exact⟨o,h1,fun v z=>by rw[d]at z;cases z⟩
 | false=>obtain⟨o,h1,_,d⟩:=(show h.IsListIter it a k from q);exact⟨o,h1,fun v z=>by rw[d]at z;cases z⟩
theorem G3.ir{b:Bool}{k:Nat}{xs:Array Hq}{h0:Heap}(q:G3 h it a xs k)(r:G4 b h0 it a j)(s:Gu b h a xs):G4 b h it a k:=by
 cases b with
 | true =>
   rcases q with⟨_,⟨o,e,c,_⟩⟩|⟨q,_⟩
   · obtain⟨o',e',c',_⟩:=(show h.IsTuple a xs from s)
     rw[e]at e';cases e';rw[c]at c';injection c' with z;exact absurd z (by decide)
   · exact q
 | false =>
   rcases q with⟨q,_⟩|⟨_,⟨o,e,c,_⟩⟩
   · exact q
   · obtain⟨o',e',c',_⟩:=(show h.IsList a xs from s)
     rw[e]at e';cases e';rw[c]at c';injection c' with z;exact absurd z (by decide)
theorem Gu.of{b:Bool}{xs:Array Hq}(q:Gu b h a xs)(e:∀o,h.get? a=some o->h'.get? a=some o):Gu b h' a xs:=by
 cases b with
 | true=>obtain⟨o,h1,r⟩:=(show h.IsTuple a xs from q);exact⟨o,e _ h1,r⟩
 | false=>obtain⟨o,h1,r⟩:=(show h.IsList a xs from q);exact⟨o,e _ h1,r⟩
open PySem PySem.Spec PyProof.Rows L2.ZP
section
variable{X:Cx}{e1 e2:Expr}{ta:TA}{elts:List Expr}{kt:Nat}{pt p pos:Pos}
end
end L2
namespace L2.VL
section
variable{X:Cx}{rl:RlT}{a b:Expr}{elts:List Expr}{kt:Nat}{pt p pos:Pos}{fs:Gi}
noncomputable def CZ(xs ys:List Hh):List Hh:=List.zipWith (fun x y=>.tuple [x,y]) xs ys
noncomputable def hW:Hh->Bool
 | .tuple _=>true
 | _=>false
theorem xU{K:W.Frag}(r:Rep K F v d)(e:kI d=some xs):∃a vs,v = .ref a/\Reps K F vs xs/\∀H,bL F H->Gs (hW d) K H a vs:=by
 cases r with
 | tup sq rs=>cases e;exact⟨_,_,rfl,rs,fun H s=>eI s sq⟩
 | lst h rs=>cases e;exact⟨_,_,rfl,rs,fun H s=>.inl (.inl (s _ _ h))⟩
 | non=>cases e
 | bl b=>cases e
 | int i=>cases e
 | str x=>cases e
end
theorem nr{α:Sort u}{a b:α}(h:a=b):a=b:=h
abbrev Mo(α:Type):=(α->Prop)->Prop
noncomputable def ret{α:Type}(a:α):Mo α:=fun Q=>Q a
noncomputable def FV{α β:Type}(m:Mo α)(f:α->Mo β):Mo β:=fun Q=>m fun a=>f a Q
noncomputable def FJ{α:Type}(P:Prop)(m:Mo α):Mo α:=fun Q=>P/\m Q
noncomputable def stk{α:Type}:Mo α:=fun _=>False
noncomputable def anyM{α:Type}(P:α->Prop):Mo α:=fun Q=>∀a,P a->Q a
noncomputable def aO{α β:Type}(o:Option α)(f:α->Mo β):Mo β:=match o with
 | some a=>f a
 | none=>stk
section
variable{α β γ:Type}
theorem bnd_ret(a:α)(f:α->Mo β):FV (ret a) f=f a:=nr rfl
theorem bnd_bnd(m:Mo α)(f:α->Mo β)(g:β->Mo γ):FV (FV m f) g=FV m fun a=>FV (f a) g:=nr rfl
theorem bnd_grd(P:Prop)(m:Mo α)(f:α->Mo β):FV (FJ P m) f=FJ P (FV m f):=nr rfl
theorem bnd_stk(f:α->Mo β):FV stk f=stk:=nr rfl
theorem bnd_ite(c:Prop)[Decidable c](a b:Mo α)(f:α->Mo β):FV (if c then a else b) f=if c then FV a f else FV b f:=by split<;>rfl
theorem bnd_opt(o:Option α)(k:α->Mo β)(f:β->Mo γ):FV (aO o k) f=aO o fun a=>FV (k a) f:=by cases o<;>rfl
theorem opt_some(a:α)(k:α->Mo β):aO (some a) k=k a:=nr rfl
theorem opt_none(k:α->Mo β):aO none k=stk:=nr rfl
theorem ag{P:Prop}(h:P)(m:Mo α):FJ P m=m:=by funext Q;exact propext ⟨fun z=>z.2,fun z=>⟨h,z⟩⟩
theorem grd_T(m:Mo α):FJ True m=m:=ag trivial m
theorem fL(c:Prop)[Decidable c](a b:Mo α)(Q:α->Prop):(if c then a else b) Q=if c then a Q else b Q:=by split<;>rfl
theorem ah{m n:Mo α}(h:∀Q,m Q↔n Q):m=n:=funext fun Q=>propext (h Q)
end
noncomputable def asI:W->Option Int
 | .d (.int i)=>some i
 | _=>none
noncomputable def asB:W->Option Bool
 | .d (.bool b)=>some b
 | _=>none
noncomputable def asS:W->Option Str
 | .d (.str b)=>some b
 | _=>none
noncomputable def asD:W->Option Hh
 | .d x=>some x
 | _=>none
noncomputable def lstD:Hh->Option (List Hh)
 | .list xs=>some xs
 | _=>none
noncomputable def tupD:Hh->Option (List Hh)
 | .tuple xs=>some xs
 | _=>none
noncomputable def Ga(w:W):Option (List Hh):=w.dat.bind lstD
noncomputable def FZ(w:W):Option (List Hh):=(asD w).bind tupD
noncomputable def F_(w:W):Option (List Hh):=w.dat.bind kI
noncomputable def Ef:W->Option Int
 | .d (.int i)=>some i
 | .d (.bool b)=>some (if b then 1 else 0)
 | _=>none
noncomputable def isiT:W->Option String
 | .vv (.ty T)=>some T
 | _=>none
noncomputable def wq:List Hh->Option (List Bool)
 | []=>some []
 | .bool b::r=>(wq r).map (b :: ·)
 | _=>none
noncomputable def jj:List Hh->Option (List Int)
 | []=>some []
 | .int b::r=>(jj r).map (b :: ·)
 | _=>none
theorem blsD_map:∀bs:List Bool,wq (bs.map .bool)=some bs
 | []=>rfl
 | b::bs=>by show(wq (bs.map .bool)).map (b :: ·)=_;rw[blsD_map bs];rfl
theorem qq:∀{xs:List Hh}{bs:List Bool},wq xs=some bs->xs=bs.map .bool
 | [],bs,h=>by cases h;rfl
 | .bool b::r,bs,h=>by
   have h:(wq r).map (b :: ·)=some bs:=h
   cases q:wq r with
   | none=>rw[q]at h;cases h
   | some cs=>rw[q]at h;cases h;rw[qq q];rfl
 | .none::_,_,h=>by cases h
 | .int _::_,_,h=>by cases h
 | .str _::_,_,h=>by cases h
 | .list _::_,_,h=>by cases h
 | .tuple _::_,_,h=>by cases h
 | .dict _::_,_,h=>by cases h
theorem intsD_map:∀bs:List Int,jj (bs.map .int)=some bs
 | []=>rfl
 | b::bs=>by show(jj (bs.map .int)).map (b :: ·)=_;rw[intsD_map bs];rfl
theorem ji:∀{xs:List Hh}{bs:List Int},jj xs=some bs->xs=bs.map .int
 | [],bs,h=>by cases h;rfl
 | .int b::r,bs,h=>by
   have h:(jj r).map (b :: ·)=some bs:=h
   cases q:jj r with
   | none=>rw[q]at h;cases h
   | some cs=>rw[q]at h;cases h;rw[ji q];rfl
 | .none::_,_,h=>by cases h
 | .bool _::_,_,h=>by cases h
 | .str _::_,_,h=>by cases h
 | .list _::_,_,h=>by cases h
 | .tuple _::_,_,h=>by cases h
 | .dict _::_,_,h=>by cases h
theorem asI_d(i:Int):asI (.d (.int i))=some i:=rfl
theorem asB_d(i:Bool):asB (.d (.bool i))=some i:=rfl
theorem asS_d(i:Str):asS (.d (.str i))=some i:=rfl
theorem asD_d(i:Hh):asD (.d i)=some i:=rfl
theorem asT_d(x:Hh):FZ (.d x)=tupD x:=rfl
theorem asL_d(x:Hh):Ga (.d x)=lstD x:=rfl
theorem asL_ml(x:List Hh):Ga (.ml x)=some x:=rfl
theorem asL_pk(x:List Hh):Ga (.pk x)=some x:=rfl
theorem asQ_d(x:Hh):F_ (.d x)=kI x:=rfl
theorem asQ_ml(x:List Hh):F_ (.ml x)=some x:=rfl
theorem asQ_pk(x:List Hh):F_ (.pk x)=some x:=rfl
theorem lstD_l(x:List Hh):lstD (.list x)=some x:=rfl
theorem tupD_t(x:List Hh):tupD (.tuple x)=some x:=rfl
theorem toI_i(i:Int):Ef (.d (.int i))=some i:=rfl
theorem toI_b(i:Bool):Ef (.d (.bool i))=some (if i then 1 else 0):=rfl
theorem isiT_t(T:String):isiT (.vv (.ty T))=some T:=rfl
theorem dg{i:Int}:asI w=some i↔w = .d (.int i):=by
 constructor
 · intro h;unfold asI at h;split at h<;>simp_all
 · rintro rfl;rfl
theorem mK{i:Bool}:asB w=some i↔w = .d (.bool i):=by
 constructor
 · intro h;unfold asB at h;split at h<;>simp_all
 · rintro rfl;rfl
theorem tT{i:Str}:asS w=some i↔w = .d (.str i):=by
 constructor
 · intro h;unfold asS at h;split at h<;>simp_all
 · rintro rfl;rfl
theorem gX{i:Hh}:asD w=some i↔w = .d i:=by
 constructor
 · intro h;unfold asD at h;split at h<;>simp_all
 · rintro rfl;rfl
theorem vQ{i:String}:isiT w=some i↔w = .vv (.ty i):=by
 constructor
 · intro h;unfold isiT at h;split at h<;>simp_all
 · rintro rfl;rfl
theorem A6{w:Hh}{i:List Hh}:lstD w=some i↔w = .list i:=by
 constructor
 · intro h;unfold lstD at h;split at h<;>simp_all
 · rintro rfl;rfl
theorem ut{w:Hh}{i:List Hh}:tupD w=some i↔w = .tuple i:=by
 constructor
 · intro h;unfold tupD at h;split at h<;>simp_all
 · rintro rfl;rfl
theorem tS{i:List Hh}:FZ w=some i↔w = .d (.tuple i):=by
 constructor
 · intro h
   unfold FZ at h
   cases q:asD w with
   | none=>rw[q]at h;cases h
   | some x=>rw[q]at h;rw[gX.mp q,ut.mp h]
 · rintro rfl;rfl
theorem mJ{i:List Hh}:Ga w=some i↔w.dat=some (.list i):=by
 unfold Ga
 constructor
 · intro h
   cases q:w.dat with
   | none=>rw[q]at h;cases h
   | some x=>rw[q]at h;rw[A6.mp h]
 · intro h;rw[h];rfl
theorem aq{o:Option α}{k:α->Mo β}{Q:β->Prop}:aO o k Q↔∃a,o=some a/\k a Q:=by
 cases o with
 | none=>exact⟨fun z=>z.elim,fun⟨_,z,_⟩=>by cases z⟩
 | some a=>exact⟨fun z=>⟨a,rfl,z⟩,fun⟨_,e,z⟩=>by cases e;exact z⟩
section
variable{fa fb fc:TV}{fs:Gi}{f g:TB}{ρ:En}{t u:Gj}
theorem m_vC(x:Hh):vC x ρ=ret (.d x):=nr rfl
theorem m_vVar(i:Nat):uh i ρ=aO ((ρ[i]?).join) fun w=>ret w.peek:=by
 refine ah fun Q=>?_
 rw[aq]
 constructor
 · rintro⟨w,e,q⟩;exact⟨w,by rw[e];rfl,q⟩
 · rintro⟨w,e,q⟩
   refine⟨w,?_,q⟩
   cases h:ρ[i]? with
   | none=>rw[h]at e;cases e
   | some o=>rw[h]at e;cases o with
     | none=>cases e
     | some x=>cases e;rfl
theorem m_vNil:sM ρ=ret []:=nr rfl
theorem m_vCons{f:TV}:jC f fs ρ=FV (f ρ) fun w=>FV (fs ρ) fun ws=>ret (w.fz::ws):=nr rfl
theorem m_vOp(h:W->W->(W->Prop)->Prop):D5 h fa fb ρ=FV (fa ρ) fun x=>FV (fb ρ) fun y=>h x y:=nr rfl
theorem m_gI(C:Int->Int->Prop)(h:Int->Int->Hh)(x y:W):gI C h x y=aO (asI x) fun i=>aO (asI y) fun j=>FJ (C i j) (ret (.d (h i j))):=by
 refine ah fun Q=>?_
 simp only[aq,dg,gI,FJ,ret]
 exact⟨fun⟨i,j,a,b,c,q⟩=>⟨i,a,j,b,c,q⟩,fun⟨i,a,j,b,c,q⟩=>⟨i,j,a,b,c,q⟩⟩
theorem m_gI0(h:Int->Int->Hh)(x y:W):FR h x y=aO (asI x) fun i=>aO (asI y) fun j=>ret (.d (h i j)):=by
 refine ah fun Q=>?_
 simp only[aq,dg,FR,ret]
 exact⟨fun⟨i,j,a,b,q⟩=>⟨i,a,j,b,q⟩,fun⟨i,a,j,b,q⟩=>⟨i,j,a,b,q⟩⟩
theorem m_vNeg:Ai fa ρ=FV (fa ρ) fun x=>aO (asI x) fun i=>ret (.d (.int (-i))):=by
 refine ah fun Q=>?_
 simp only[Ai,FV,aq,dg,ret]
theorem m_vTest{f:TV}:qG f ρ=FV (f ρ) fun w=>aO (asB w) ret:=by
 refine ah fun Q=>?_
 simp only[qG,FV,aq,mK,ret]
theorem m_gEqD(neg:Bool)(x y:W):Bh neg x y=aO x.dat fun dx=>aO y.dat fun dy=>FJ (HU dx=true) (FJ (HU dy=true) (ret (.d (.bool (if neg then !HQ dx dy else HQ dx dy))))):=by
 refine ah fun Q=>?_
 simp only[aq,Bh,FJ,ret]
 exact⟨fun⟨i,j,a,b,c,d,q⟩=>⟨i,a,j,b,c,d,q⟩,fun⟨i,a,j,b,c,d,q⟩=>⟨i,j,a,b,c,d,q⟩⟩
theorem zC{i:List Hh}:F_ w=some i↔(w.dat=some (.list i)\/w.dat=some (.tuple i)):=by
 unfold F_
 constructor
 · intro h
   cases q:w.dat with
   | none=>rw[q]at h;cases h
   | some x=>rw[q]at h;exact kI.of (o:=some x) rfl h
 · rintro(h|h)<;>rw[h]<;>rfl
theorem m_gInD(neg:Bool)(x y:W):Bg neg x y=aO x.dat fun dx=>aO (F_ y) fun ys=>FJ (HU dx=true) (FJ (H_ ys=true) (ret (.d (.bool (if neg then !(ys.any fun z=>HQ z dx)else ys.any fun z=>HQ z dx))))):=by
 refine ah fun Q=>?_
 simp only[aq,zC,Bg,FJ,ret]
 exact⟨fun⟨i,j,a,b,c,d,q⟩=>⟨i,a,j,b,c,d,q⟩,fun⟨i,a,j,b,c,d,q⟩=>⟨i,j,a,b,c,d,q⟩⟩
theorem m_vAnd:An f g ρ=FV (f ρ) fun b=>if b=true then g ρ else ret false:=by
 refine ah fun Q=>?_
 simp only[An,FV,fL,ret]
theorem m_vOr:D4 f g ρ=FV (f ρ) fun b=>if b=true then ret true else g ρ:=by
 refine ah fun Q=>?_
 simp only[D4,FV,fL,ret]
theorem m_vNot:Ct f ρ=FV (f ρ) fun b=>ret (!b):=nr rfl
theorem m_vAndV:um fa fb ρ=FV (fa ρ) fun w=>aO (asB w) fun b=>if b=true then fb ρ else ret (.d (.bool false)):=by
 refine ah fun Q=>?_
 simp only[um,FV,aq,mK,fL,ret]
theorem m_vOrV:Ah fa fb ρ=FV (fa ρ) fun w=>aO (asB w) fun b=>if b=true then ret (.d (.bool true))else fb ρ:=by
 refine ah fun Q=>?_
 simp only[Ah,FV,aq,mK,fL,ret]
theorem m_vNotV:ui fa ρ=FV (fa ρ) fun w=>aO (asB w) fun b=>ret (.d (.bool (!b))):=by
 refine ah fun Q=>?_
 simp only[ui,FV,aq,mK,ret]
theorem m_vIf{t:TB}:D7 t fa fb ρ=FV (t ρ) fun c=>if c=true then fa ρ else fb ρ:=by
 refine ah fun Q=>?_
 simp only[D7,FV,fL]
theorem m_vTup:Ad fs ρ=FV (fs ρ) fun ws=>aO (gQ ws) fun ds=>FJ (ds.length<=sizeLine) (ret (.d (.tuple ds))):=by
 refine ah fun Q=>?_
 simp only[Ad,FV,aq,FJ,ret]
theorem m_vLst:zG fs ρ=FV (fs ρ) fun ws=>aO (gQ ws) fun ds=>FJ (ds.length<=sizeLine) (ret (.ml ds)):=by
 refine ah fun Q=>?_
 simp only[zG,FV,aq,FJ,ret]
theorem m_gIx(x y:W):FP x y=aO x.dat fun dx=>aO (asI y) fun i=>aO (itemAt dx i) fun z=>ret (.d z):=by
 refine ah fun Q=>?_
 simp only[FP,aq,dg,ret]
 exact⟨fun⟨i,j,z,a,b,c,q⟩=>⟨i,a,j,b,z,c,q⟩,fun⟨i,a,j,b,z,c,q⟩=>⟨i,j,z,a,b,c,q⟩⟩
theorem m_vCall(h:List W->(W->Prop)->Prop):dt h fs ρ=FV (fs ρ) h:=nr rfl
theorem m_gAbs(w:W):zW [w]=aO (asI w) fun i=>ret (.d (.int (if i<0 then -i else i))):=by
 refine ah fun Q=>?_
 simp only[zW,aq,dg,ret,IE,and_true]
theorem m_gLen(w:W):zO [w]=aO w.dat fun d=>aO (kB d) fun n=>ret (.d (.int n)):=by
 refine ah fun Q=>?_
 simp only[zO,aq,ret,IE,and_true]
 exact⟨fun⟨w',d,n,e,a,b,q⟩=>by subst e;exact⟨d,a,n,b,q⟩,fun⟨d,a,n,b,q⟩=>⟨w,d,n,rfl,a,b,q⟩⟩
theorem m_gRepr(w:W):rV [w]=aO w.dat fun d=>FJ (Gx d) (ret (.d (.str d.shown))):=by
 refine ah fun Q=>?_
 simp only[rV,aq,ret,FJ,IE,and_true]
 exact⟨fun⟨w',d,e,a,b,q⟩=>by subst e;exact⟨d,a,b,q⟩,fun⟨d,a,b,q⟩=>⟨w,d,rfl,a,b,q⟩⟩
theorem m_gIsi(w v:W):zP [w,v]=aO w.dat fun d=>aO (isiT v) fun T=>FJ (xp T=true) (ret (.d (.bool (lY d T)))):=by
 refine ah fun Q=>?_
 simp only[zP,aq,vQ,ret,FJ,IE,and_true]
 exact⟨fun⟨w',d,T,⟨e,e'⟩,a,b,q⟩=>by subst e;exact⟨d,a,T,e',b,q⟩,fun⟨d,a,T,e',b,q⟩=>⟨w,d,T,⟨rfl,e'⟩,a,b,q⟩⟩
theorem m_gTupO(w:W):rT [w]=aO (F_ w) fun xs=>ret (.d (.tuple xs)):=by
 refine ah fun Q=>?_
 simp only[rT,aq,ret,IE,and_true]
 constructor
 · rintro⟨w',d,xs,e,a,b,q⟩;subst e;exact⟨xs,by unfold F_;rw[a];exact b,q⟩
 · rintro⟨xs,e,q⟩
   unfold F_ at e
   cases h:w.dat with
   | none=>rw[h]at e;cases e
   | some d=>rw[h]at e;exact⟨w,d,xs,rfl,h,e,q⟩
theorem m_gLstO(w:W):rX [w]=aO (F_ w) fun xs=>ret (.ml xs):=by
 refine ah fun Q=>?_
 simp only[rX,aq,ret,IE,and_true]
 constructor
 · rintro⟨w',d,xs,e,a,b,q⟩;subst e;exact⟨xs,by unfold F_;rw[a];exact b,q⟩
 · rintro⟨xs,e,q⟩
   unfold F_ at e
   cases h:w.dat with
   | none=>rw[h]at e;cases e
   | some d=>rw[h]at e;exact⟨w,d,xs,rfl,h,e,q⟩
theorem m_gI2(h:Int->Int->Hh)(x y:W):FQ h [x,y]=aO (asI x) fun i=>aO (asI y) fun j=>ret (.d (h i j)):=by
 refine ah fun Q=>?_
 simp only[aq,dg,FQ,ret,IE,and_true]
 exact⟨fun⟨i,j,⟨a,b⟩,q⟩=>⟨i,a,j,b,q⟩,fun⟨i,a,j,b,q⟩=>⟨i,j,⟨a,b⟩,q⟩⟩
theorem xu{i:Int}:Ef w=some i↔(w = .d (.int i)\/∃b:Bool,w = .d (.bool b)/\i=if b then 1 else 0):=by
 constructor
 · intro h
   unfold Ef at h
   split at h
   · cases h;exact .inl rfl
   · cases h;exact .inr ⟨_,rfl,rfl⟩
   · cases h
 · rintro(rfl|⟨b,rfl,rfl⟩)<;>rfl
theorem m_gInt1(w:W):rY [w]=aO (Ef w) fun i=>ret (.d (.int i)):=by
 refine ah fun Q=>?_
 simp only[aq,xu,rY,ret,IE,and_true]
 constructor
 · rintro(⟨i,rfl,q⟩|⟨k,rfl,q⟩)
   · exact⟨i,.inl rfl,q⟩
   · exact⟨_,.inr ⟨k,rfl,rfl⟩,q⟩
 · rintro⟨i,rfl|⟨b,rfl,rfl⟩,q⟩
   · exact .inl ⟨i,rfl,q⟩
   · exact .inr ⟨b,rfl,q⟩
theorem m_oNo:EV ρ=ret none:=nr rfl
theorem m_oIt:EW fa ρ=FV (fa ρ) fun w=>aO (asI w) fun i=>ret (some i):=by
 refine ah fun Q=>?_
 simp only[EW,FV,aq,dg,ret]
theorem m_vSlL{fl fh:Gm}:Cp fa fl fh ρ=FV (fa ρ) fun w=>FV (fl ρ) fun l=>FV (fh ρ) fun h=>aO (Ga w) fun xs=>ret (.ml (cutD xs l h)):=by
 refine ah fun Q=>?_
 simp only[Cp,FV,aq,mJ,ret]
theorem m_vSlA{fl fh:Gm}:Af fa fl fh ρ=FV (fa ρ) fun w=>FV (fl ρ) fun l=>FV (fh ρ) fun h=>aO (FZ w) fun xs=>ret (.d (.tuple (cutD xs l h))):=by
 refine ah fun Q=>?_
 simp only[Af,FV,aq,tS,ret]
theorem m_gCatD(x y:W):rZ x y=aO (Ga x) fun xs=>aO (Ga y) fun ys=>FJ (xs.length+ys.length<=sizeLine) (ret (.ml (xs++ys))):=by
 refine ah fun Q=>?_
 simp only[rZ,aq,mJ,FJ,ret]
 exact⟨fun⟨i,j,a,b,c,q⟩=>⟨i,a,j,b,c,q⟩,fun⟨i,a,j,b,c,q⟩=>⟨i,j,a,b,c,q⟩⟩
theorem m_gCatA(x y:W):r8 x y=aO (FZ x) fun xs=>aO (FZ y) fun ys=>FJ (xs.length+ys.length<=sizeLine) (ret (.d (.tuple (xs++ys)))):=by
 refine ah fun Q=>?_
 simp only[r8,aq,tS,FJ,ret]
 exact⟨fun⟨i,j,a,b,c,q⟩=>⟨i,a,j,b,c,q⟩,fun⟨i,a,j,b,c,q⟩=>⟨i,j,a,b,c,q⟩⟩
theorem m_vChain(p p':Int->Int->Bool):sO p p' fa fb fc ρ=FV (fa ρ) fun x=>FV (fb ρ) fun y=>aO (asI x) fun i=>aO (asI y) fun j=>if p i j=true then FV (fc ρ) fun z=>aO (asI z) fun k=>ret (.d (.bool (p' j k)))else ret (.d (.bool false)):=by
 show(FV (fa ρ) fun x=>FV (fb ρ) fun y=>fun(Q:W->Prop)=>∃i j,x = .d (.int i)/\y = .d (.int j)/\if p i j=true then fc ρ fun z=>∃k,z = .d (.int k)/\Q (.d (.bool (p' j k)))else Q (.d (.bool false)))=_
 congr 1;funext x;congr 1;funext y
 refine ah fun Q=>?_
 simp only[FV,aq,dg,ret,fL]
 exact⟨fun⟨i,j,a,b,q⟩=>⟨i,a,j,b,q⟩,fun⟨i,a,j,b,q⟩=>⟨i,j,a,b,q⟩⟩
theorem m_vLR1:Cu fs ρ=FV (fs ρ) fun ws=>aO (ws.head?.bind asI) fun j=>FJ (ws.length=1) (FJ (-(2^62)<=j/\j<2^62) (FJ (j.toNat<=2^24) (ret (.ml (be 0 j.toNat))))):=by
 show(FV (fs ρ) fun ws=>fun(Q:W->Prop)=>∃j:Int,ws=[.d (.int j)]/\(-(2^62)<=j/\j<2^62)/\j.toNat<=2^24/\Q (.ml (be 0 j.toNat)))=_
 congr 1;funext ws
 refine ah fun Q=>?_
 simp only[aq,FJ,ret]
 constructor
 · rintro⟨j,rfl,a,b,q⟩;exact⟨j,rfl,rfl,a,b,q⟩
 · rintro⟨j,e,l,a,b,q⟩
   match ws,l with
   | [w],_=>rw[show w = .d (.int j)from dg.mp e];exact⟨j,rfl,a,b,q⟩
noncomputable def Ec(ws:List W):Option (Int×Int):=match ws with
 | [a,b]=>(asI a).bind fun i=>(asI b).map fun j=>(i,j)
 | _=>none
theorem two_d(a b:Int):Ec [.d (.int a),.d (.int b)]=some (a,b):=rfl
theorem m_iL:iL fa ρ=FV (fa ρ) fun w=>aO ((asD w.fz).bind lstD) ret:=by
 show(FV (fa ρ) fun w=>fun(Q:List Hh->Prop)=>∃xs,w.fz = .d (.list xs)/\Q xs)=_
 congr 1;funext w
 refine ah fun Q=>?_
 simp only[aq,ret]
 constructor
 · rintro⟨xs,e,q⟩;exact⟨xs,by rw[e];rfl,q⟩
 · rintro⟨xs,e,q⟩
   cases h:asD w.fz with
   | none=>rw[h]at e;cases e
   | some x=>rw[h]at e;rw[gX.mp h,A6.mp e];exact⟨xs,rfl,q⟩
theorem m_iT:iT fa ρ=FV (fa ρ) fun w=>aO ((asD w.fz).bind tupD) ret:=by
 show(FV (fa ρ) fun w=>fun(Q:List Hh->Prop)=>∃xs,w.fz = .d (.tuple xs)/\Q xs)=_
 congr 1;funext w
 refine ah fun Q=>?_
 simp only[aq,ret]
 constructor
 · rintro⟨xs,e,q⟩;exact⟨xs,by rw[e];rfl,q⟩
 · rintro⟨xs,e,q⟩
   cases h:asD w.fz with
   | none=>rw[h]at e;cases e
   | some x=>rw[h]at e;rw[gX.mp h,ut.mp e];exact⟨xs,rfl,q⟩
theorem m_iR1:FG fs ρ=FV (fs ρ) fun ws=>aO (ws.head?.bind asI) fun j=>FJ (ws.length=1) (FJ (-(2^62)<=j/\j<2^62) (ret (be 0 j.toNat))):=by
 show(FV (fs ρ) fun ws=>fun(Q:List Hh->Prop)=>∃j:Int,ws=[.d (.int j)]/\(-(2^62)<=j/\j<2^62)/\Q (be 0 j.toNat))=_
 congr 1;funext ws
 refine ah fun Q=>?_
 simp only[aq,FJ,ret]
 constructor
 · rintro⟨j,rfl,a,q⟩;exact⟨j,rfl,rfl,a,q⟩
 · rintro⟨j,e,l,a,q⟩
   match ws,l with
   | [w],_=>rw[show w = .d (.int j)from dg.mp e];exact⟨j,rfl,a,q⟩
noncomputable def CY(b1 b2:Bool)(ws:List W):Option (List Hh):=match ws with
 | [.d x,.d y]=>if hW x=b1/\hW y=b2 then(kI x).bind fun xs=>(kI y).map fun ys=>CZ xs ys else none
 | _=>none
theorem m_vUse(Pd:List W->(Hh->Prop)->Prop):Ac Pd fs ρ=FV (fs ρ) fun ws=>FJ (ws.all eV=true) (FV (Pd ws) fun d=>ret (.d d)):=nr rfl
theorem m_vUseL(Pd:List W->(List Hh->Prop)->Prop):xi Pd fs ρ=FV (fs ρ) fun ws=>FJ (ws.all eV=true) (FV (Pd ws) fun d=>ret (.ml d)):=nr rfl
theorem m_gAll(h:List Bool->Bool)(w:W):zV h [w]=aO ((Ga w).bind wq) fun bs=>ret (.d (.bool (h bs))):=by
 refine ah fun Q=>?_
 simp only[zV,aq,ret,IE,and_true]
 constructor
 · rintro⟨w',bs,rfl,e,q⟩;exact⟨bs,by rw[mJ.mpr e];exact blsD_map bs,q⟩
 · rintro⟨bs,e,q⟩
   cases hl:Ga w with
   | none=>rw[hl]at e;cases e
   | some xs=>rw[hl]at e;refine⟨w,bs,rfl,?_,q⟩;rw[<- qq e];exact mJ.mp hl
theorem m_gRepL(x y:W):rW x y=aO (Ga x) fun xs=>aO (asI y) fun k=>FJ (-(2^63)<=k/\k<2^63/\xs.length*k.toNat<=sizeLine) (ret (.ml (Ih k.toNat xs).flatten)):=by
 refine ah fun Q=>?_
 simp only[rW,aq,mJ,dg,FJ,ret]
 exact⟨fun⟨i,j,a,b,c,d,e,q⟩=>⟨i,a,j,b,⟨c,d,e⟩,q⟩,fun⟨i,a,j,b,⟨c,d,e⟩,q⟩=>⟨i,j,a,b,c,d,e,q⟩⟩
theorem m_gEqS(neg:Bool)(x y:W):zS neg x y=aO (asS x) fun i=>aO (asS y) fun j=>ret (.d (.bool (if neg then !decide (i=j)else decide (i=j)))):=by
 refine ah fun Q=>?_
 simp only[aq,tT,zS,ret]
 exact⟨fun⟨i,j,a,b,q⟩=>⟨i,a,j,b,q⟩,fun⟨i,a,j,b,q⟩=>⟨i,j,a,b,q⟩⟩
end
inductive Fl where
 | nx (ρ:En)|rt (w:W)|bk (ρ:En)|ct (ρ:En)
noncomputable def mS(t:Gj)(ρ:En):Mo Fl:=fun Q=>t ⟨fun ρ=>Q (.nx ρ),fun w=>Q (.rt w),fun ρ=>Q (.bk ρ),fun ρ=>Q (.ct ρ)⟩ ρ
noncomputable def sq(m:Mo Fl)(k:En->Mo Fl):Mo Fl:=FV m fun fl=>match fl with
 | .nx ρ=>k ρ
 | .rt w=>ret (.rt w)
 | .bk ρ=>ret (.bk ρ)
 | .ct ρ=>ret (.ct ρ)
noncomputable def wa(Q:Hh->Prop):Fl->Prop
 | .nx _=>Q .none
 | .rt w=>∃d,w.fz = .d d/\Q d
 | _=>False
section
variable{fa fb fc:TV}{fs:Gi}{f g:TB}{ρ:En}{t u:Gj}{k:En->Mo Fl}
theorem az{Q:Hh->Prop}(h:mS t ρ (wa Q)):t (qJ Q) ρ:=h
theorem end_d(Q:Hh->Prop)(d:Hh):wa Q (.rt (.d d))=Q d:=propext ⟨fun⟨_,e,q⟩=>by cases e;exact q,fun q=>⟨d,rfl,q⟩⟩
theorem end_ml(Q:Hh->Prop)(d:List Hh):wa Q (.rt (.ml d))=Q (.list d):=propext ⟨fun⟨_,e,q⟩=>by cases e;exact q,fun q=>⟨_,rfl,q⟩⟩
theorem end_nx(Q:Hh->Prop)(ρ:En):wa Q (.nx ρ)=Q .none:=nr rfl
theorem sq_nx:sq (ret (.nx ρ)) k=k ρ:=nr rfl
theorem sq_rt(w:W):sq (ret (.rt w)) k=ret (.rt w):=nr rfl
theorem sq_bk:sq (ret (.bk ρ)) k=ret (.bk ρ):=nr rfl
theorem sq_ct:sq (ret (.ct ρ)) k=ret (.ct ρ):=nr rfl
theorem sq_grd(P:Prop)(m:Mo Fl):sq (FJ P m) k=FJ P (sq m k):=nr rfl
theorem sq_stk:sq stk k=stk:=nr rfl
theorem sq_ite(c:Prop)[Decidable c](a b:Mo Fl):sq (if c then a else b) k=if c then sq a k else sq b k:=by split<;>rfl
theorem xF(o:Option α)(h:α->Mo Fl):sq (aO o h) k=aO o fun a=>sq (h a) k:=by cases o<;>rfl
theorem s_next:mS xk ρ=ret (.nx ρ):=nr rfl
theorem s_seq:mS (Cq t u) ρ=sq (mS t ρ) (mS u):=by
 refine ah fun Q=>?_
 show t ⟨fun ρ=>u ⟨_,_,_,_⟩ ρ,_,_,_⟩ ρ↔_
 exact Ls
theorem s_ret:mS (Cr fa) ρ=FV (fa ρ) fun w=>ret (.rt w):=nr rfl
theorem s_ifS:mS (Aj f t u) ρ=FV (f ρ) fun b=>if b=true then mS t ρ else mS u ρ:=by
 refine ah fun Q=>?_
 simp only[mS,Aj,FV,fL]
theorem s_set(i:Nat):mS (Ag i fa) ρ=FV (fa ρ) fun w=>FJ (w.isPk=false) (ret (.nx (ρ.set i (some w)))):=nr rfl
theorem s_never:mS (fun _ _=>False) ρ=stk:=nr rfl
theorem m_hName(i:Nat)(x:Hh):rR i x ρ=ret (ρ.set i (some (.d x))):=nr rfl
theorem yR(xs:List Hh):Be xs ρ=FJ (xs=[]) (ret ρ):=nr rfl
theorem vH{g:Go}{gs:qy}(xs:List Hh):rS g gs xs ρ=aO (match xs with | []=>none|y::r=>some (y,r)) fun p=>FV (g p.1 ρ) fun ρ'=>gs p.2 ρ':=by
 refine ah fun Q=>?_
 simp only[aq,rS,FV]
 constructor
 · rintro⟨y,r,rfl,q⟩;exact⟨(y,r),rfl,q⟩
 · rintro⟨p,e,q⟩
   cases xs with
   | nil=>cases e
   | cons y r=>cases e;exact⟨y,r,rfl,q⟩
theorem m_hCons_c{g:Go}{gs:qy}(y:Hh)(r:List Hh):rS g gs (y::r) ρ=FV (g y ρ) fun ρ'=>gs r ρ':=by rw[vH];rfl
theorem m_hNil_n:Be [] ρ=ret ρ:=by rw[yR,ag rfl]
theorem m_hTup(n:Nat){gs:qy}(x:Hh):Bd n gs x ρ=aO (tupD x) fun xs=>FJ (xs.length=n) (gs xs ρ):=by
 refine ah fun Q=>?_
 simp only[aq,ut,Bd,FJ]
theorem s_asg{g:Go}:mS (Am fa g) ρ=FV (fa ρ) fun w=>aO (asD w) fun x=>FV (g x ρ) fun ρ'=>ret (.nx ρ'):=by
 refine ah fun Q=>?_
 simp only[mS,Am,FV,aq,gX,ret]
theorem s_par(i j:Nat):mS (Cs i j fs) ρ=FV (fs ρ) fun ws=>aO (gQ ws) fun ds=>aO (match ds with | [x,y]=>some (x,y)|_=>none) fun p=>ret (.nx ((ρ.set i (some (.d p.1))).set j (some (.d p.2)))):=by
 show(FV (fs ρ) fun ws=>fun(Q:Fl->Prop)=>∃x y,gQ ws=some [x,y]/\Q (.nx ((ρ.set i (some (.d x))).set j (some (.d y)))))=_
 congr 1;funext ws
 refine ah fun Q=>?_
 simp only[aq,ret]
 constructor
 · rintro⟨x,y,e,q⟩;exact⟨_,e,(x,y),rfl,q⟩
 · rintro⟨ds,e,p,e2,q⟩
   split at e2
   · cases e2;exact⟨_,_,e,q⟩
   · cases e2
noncomputable def ED(ρ:En)(i:Nat):Option Int:=((ρ[i]?).join).bind asI
noncomputable def asM:W->Option (List Hh)
 | .ml xs=>some xs
 | _=>none
noncomputable def EC(ρ:En)(i:Nat):Option (List Hh):=((ρ[i]?).join).bind asM
theorem asM_ml(xs:List Hh):asM (.ml xs)=some xs:=rfl
theorem CP:asM w=some xs↔w = .ml xs:=by
 constructor
 · intro h;unfold asM at h;split at h<;>simp_all
 · rintro rfl;rfl
theorem lI:EC ρ i=some xs↔ρ[i]?=some (some (.ml xs)):=by
 unfold EC
 constructor
 · intro h
   cases q:ρ[i]? with
   | none=>rw[q]at h;cases h
   | some o=>rw[q]at h;cases o with
     | none=>cases h
     | some w=>rw[CP.mp h]
 · intro h;rw[h];rfl
theorem xM{n:Int}:ED ρ i=some n↔ρ[i]?=some (some (.d (.int n))):=by
 unfold ED
 constructor
 · intro h
   cases q:ρ[i]? with
   | none=>rw[q]at h;cases h
   | some o=>rw[q]at h;cases o with
     | none=>cases h
     | some w=>rw[dg.mp h]
 · intro h;rw[h];rfl
theorem s_aug(i:Nat)(C:Int->Int->Prop)(h:Int->Int->Int):mS (Al i C h fa) ρ=aO (ED ρ i) fun n=>FV (fa ρ) fun w=>aO (asI w) fun m=>FJ (C n m) (ret (.nx (ρ.set i (some (.d (.int (h n m))))))):=by
 refine ah fun Q=>?_
 simp only[mS,Al,FV,aq,xM,dg,FJ,ret]
theorem s_frz(i:Nat):mS (Ak i t) ρ=aO (EC ρ i) fun xs=>mS t (ρ.set i (some (.d (.list xs)))):=by
 refine ah fun Q=>?_
 simp only[mS,Ak,aq,lI]
theorem s_mut(i:Nat)(h:List Hh->List W->(List Hh->Prop)->Prop):mS (wA i h fs) ρ=aO (EC ρ i) fun xs=>FV (fs ρ) fun ws=>FV (h xs ws) fun ys=>ret (.nx (ρ.set i (some (.ml ys)))):=by
 refine ah fun Q=>?_
 simp only[mS,wA,FV,aq,lI,ret]
theorem m_gApp(xs:List Hh)(w:W):zU xs [w]=aO (asD w) fun x=>FJ (xs.length<sizeLine) (ret (xs++[x])):=by
 refine ah fun Q=>?_
 simp only[zU,aq,gX,FJ,ret]
 constructor
 · rintro⟨x,e,a,q⟩
   cases w<;>first|(cases e;exact⟨_,rfl,a,q⟩)|cases e
 · rintro⟨x,rfl,a,q⟩;exact⟨x,rfl,a,q⟩
theorem m_gExt(xs:List Hh)(w:W):zR xs [w]=aO ((asD w).bind lstD) fun ys=>FJ (xs.length+ys.length<=sizeLine) (ret (xs++ys)):=by
 refine ah fun Q=>?_
 simp only[zR,aq,FJ,ret]
 constructor
 · rintro⟨x,e,a,q⟩
   cases w<;>first|(cases e;exact⟨_,rfl,a,q⟩)|cases e
 · rintro⟨x,e,a,q⟩
   cases h:asD w with
   | none=>rw[h]at e;cases e
   | some d=>rw[h]at e;rw[gX.mp h,A6.mp e];exact⟨x,rfl,a,q⟩
end
noncomputable def Le(a b:En):Prop:=a.length=b.length/\∀(i:Nat) w,a[i]?=some (some w)->b[i]?=some (some w)
theorem Le.refl(a:En):Le a a:=⟨rfl,fun _ _ h=>h⟩
theorem Le.trans{a b c:En}(h:Le a b)(h':Le b c):Le a c:=⟨h.1.trans h'.1,fun i w e=>h'.2 i w (h.2 i w e)⟩
theorem le_nil:Le [] []=True:=propext ⟨fun _=>trivial,fun _=>Le.refl _⟩
theorem le_cn(x:Option W)(a b:En):Le (none::a) (x::b)=Le a b:=by
 refine propext ⟨fun h=>⟨by have:=h.1;simpa using this,fun i w e=>by have:=h.2 (i+1) w (by simpa using e);simpa using this⟩,fun h=>⟨by simp[h.1],fun i w e=>?_⟩⟩
 cases i with
 | zero=>simp at e
 | succ i=>simpa using h.2 i w (by simpa using e)
theorem le_cs(x:Option W)(a b:En):Le (x::a) (x::b)=Le a b:=by
 refine propext ⟨fun h=>⟨by have:=h.1;simpa using this,fun i w e=>by have:=h.2 (i+1) w (by simpa using e);simpa using this⟩,fun h=>⟨by simp[h.1],fun i w e=>?_⟩⟩
 cases i with
 | zero=>simpa using e
 | succ i=>simpa using h.2 i w (by simpa using e)
theorem VR.le{K:W.Frag}{ρ0:En}(R:VR K rl F₀ H₀ F H σ ρ)(h:Le ρ0 ρ):VR K rl F₀ H₀ F H σ ρ0 :=
 ⟨R.g,fun i w e=>R.sl i w (h.2 i w e),fun i j x y v n e1 e2=>R.ap i j x y v n (h.2 i x e1) (h.2 j y e2),fun i xs e=>R.np i xs (h.2 i _ e),h.1.trans R.len⟩
noncomputable def fo:List Nat->En->En
 | [],ρ=>ρ
 | i::l,ρ=>fo l (ρ.set i none)
theorem yX(ρ:En)(i:Nat):Le (ρ.set i none) ρ:=by
 refine⟨by simp,fun j w e=>?_⟩
 rw[Jc]at e
 split at e
 · split at e
   · cases e
   · cases e
 · exact e
theorem je:∀(l:List Nat)(ρ:En),Le (fo l ρ) ρ
 | [],ρ=>Le.refl ρ
 | i::l,ρ=>(je l (ρ.set i none)).trans (yX ρ i)
theorem fo_nil(ρ:En):fo [] ρ=ρ:=rfl
theorem fo_cons(i:Nat)(l:List Nat)(ρ:En):fo (i::l) ρ=fo l (ρ.set i none):=rfl
noncomputable def dr(fl:List Nat)(g:Go)(t:Gj):List Hh->Gj
 | [],D,ρ=>D.nx ρ
 | x::xs,D,ρ=>g x ρ fun ρ2=>t {D with nx:=fun ρ'=>dr fl g t xs D (fo fl ρ'),ct:=fun ρ'=>dr fl g t xs D (fo fl ρ'),bk:=fun ρ'=>D.nx (fo fl ρ')} ρ2
noncomputable def xn(fl:List Nat)(fi:En->(List Hh->Prop)->Prop)(g:Go)(t:Gj):Gj:=fun D ρ=>fi ρ fun xs=>dr fl g t xs D (fo fl ρ)
section
variable{X:Cx}{rl:RlT}{st:Stmt}{rest body:List Stmt}{t u:Gj}{a b c e:Expr}{es:List Expr}{fa fb:TV}{fs:Gi}{f:TB}{pos p:Pos}
theorem bo(fl:List Nat){g:Go}(hp:Na (Il X.prog X.w) X.A X.env X.xe)(hc:X.calm=true)(hi:GJ X rl tg iter fi)(hg:GM X rl tg g)(hb:ly X rl body t)
 (hs:∀x,H0 iter X.env x=pure x:=by intro _;rfl):GF X rl (.For tg iter body [] pos) (xn fl fi g t):=by
 obtain⟨wi,p0,k0⟩:=hi
 obtain⟨G,p1,k1⟩:=hg
 obtain⟨T,p2,k2⟩:=hb
 refine⟨_,sZ hp hc p0 p1 p2 hs,fun{F₀ H₀ F H σ ρ} R Dv D ok q=>k0 R _ _ q fun J xs F1 H1 g1 vi q1=>?_⟩
 refine⟨fun i m σ H=>m=xs.length-i/\i<=xs.length/\∃F ρ,bL F1 F/\VR X.K rl F₀ H₀ F H σ ρ/\dr fl g t (xs.drop i) Dv ρ,⟨xs.length,by simp,HS _,F1,fo fl ρ,.refl _,(R.grow g1).le (je fl ρ),by simpa using q1⟩,?_⟩
 rintro i m σ H ⟨rfl,hi,F2,ρ2,s2,R2,j2⟩
 have sH:bL F1 H:=s2.trans R2.sub
 by_cases hlt:i<xs.length
 · have ei:xs[i]?=some xs[i]:=by simp[hlt]
   rw[IP hlt]at j2
   refine .inr ⟨vi.go i H _ ei sH,fun σ' H'=>∃F ρ,bL F1 F/\VR X.K rl F₀ H₀ F H' σ' ρ/\dr fl g t (xs.drop (i+1)) Dv ρ,fun σ' H' z=>⟨xs.length-(i+1),by omega,rfl,hlt,z⟩,fun v H' y=>?_⟩
   obtain⟨Fy,gy,rv⟩:=vi.yld i H v H' _ F2 ei s2 R2.sub R2.reel y
   refine k1 (R2.grow gy) v _ _ _ rv j2 fun F3 H3 σ3 ρ3 s3 n3 R3 q3=>?_
   have s13:bL F1 F3:=s2.trans (gy.fs.trans s3.fs)
   exact k2 R3 {Dv with nx:=fun ρ'=>dr fl g t (xs.drop (i+1)) Dv (fo fl ρ'),ct:=fun ρ'=>dr fl g t (xs.drop (i+1)) Dv (fo fl ρ'),bk:=fun ρ'=>Dv.nx (fo fl ρ')} _
    ⟨fun F4 H4 σ4 ρ4 s4 R4 q4=>⟨F4,fo fl ρ4,s13.trans s4,R4.le (je fl ρ4),q4⟩,ok.rt,fun F4 H4 σ4 ρ4 s4 R4 q4=>ok.nx _ _ _ _ (g1.fs.trans (s13.trans s4)) (R4.le (je fl ρ4)) q4,fun F4 H4 σ4 ρ4 s4 R4 q4=>⟨F4,fo fl ρ4,s13.trans s4,R4.le (je fl ρ4),q4⟩⟩ q3
 · have e:i=xs.length:=by omega
   subst e
   rw[JL]at j2
   exact .inl ⟨vi.stop _ H (Hs _) sH,ok.nx _ _ _ _ (g1.fs.trans s2) R2 j2⟩
noncomputable def D1(fl:List Nat)(f:TB)(t:Gj)(m:Nat):Gj:=fun D ρ=>f ρ fun b=>if b=true then t {D with nx:=fun ρ'=>∃k,∃h:k<m,D1 fl f t k D (fo fl ρ'),ct:=fun ρ'=>∃k,∃h:k<m,D1 fl f t k D (fo fl ρ'),bk:=fun ρ'=>D.nx (fo fl ρ')} ρ else D.nx ρ
termination_by m
noncomputable def nS(fl:List Nat)(f:TB)(t:Gj):Gj:=fun D ρ=>∃m,D1 fl f t m D (fo fl ρ)
theorem sL(fl:List Nat)(f:TB)(t:Gj)(m:Nat)(D:VEnds)(ρ:En):D1 fl f t m D ρ=f ρ fun b=>if b=true then t {D with nx:=fun ρ'=>∃k,∃h:k<m,D1 fl f t k D (fo fl ρ'),ct:=fun ρ'=>∃k,∃h:k<m,D1 fl f t k D (fo fl ρ'),bk:=fun ρ'=>D.nx (fo fl ρ')} ρ else D.nx ρ:=by
 conv=>lhs;unfold D1
theorem gh(fl:List Nat)(hp:Na (Il X.prog X.w) X.A X.env X.xe)(hc:PB X rl c f)(hb:ly X rl body t):GF X rl (.While c body [] pos) (nS fl f t):=by
 obtain⟨t0,p0,k0⟩:=hc
 obtain⟨t1,p1,k1⟩:=hb
 refine⟨_,qZ hp p0 p1,fun{F₀ H₀ F H σ ρ} R Dv D ok q=>?_⟩
 obtain⟨m,j0⟩:=q
 refine⟨fun m σ' H'=>∃F' ρ',bL F F'/\VR X.K rl F₀ H₀ F' H' σ' ρ'/\D1 fl f t m Dv ρ',⟨m,F,fo fl ρ,.refl _,R.le (je fl ρ),j0⟩,?_⟩
 rintro m σ2 H2 ⟨F2,ρ2,s2,R2,j⟩
 rw[sL]at j
 refine k0 R2 _ _ j fun b F1 H1 g1 q1=>?_
 cases b with
 | false=>exact ok.nx _ _ _ _ (s2.trans g1.fs) (R2.grow g1) q1
 | true =>
   refine⟨fun σ' H'=>∃F' ρ',bL F F'/\VR X.K rl F₀ H₀ F' H' σ' ρ'/\∃m',m'<m/\D1 fl f t m' Dv ρ',fun σ' H' ⟨F',ρ',s',R',m',hm,j⟩=>⟨m',hm,F',ρ',s',R',j⟩,?_⟩
   exact k1 (R2.grow g1) {Dv with nx:=fun ρ'=>∃k,∃h:k<m,D1 fl f t k Dv (fo fl ρ'),ct:=fun ρ'=>∃k,∃h:k<m,D1 fl f t k Dv (fo fl ρ'),bk:=fun ρ'=>Dv.nx (fo fl ρ')} _
    ⟨fun F3 H3 σ3 ρ3 s3 R3 ⟨m',hm,q3⟩=>⟨F3,fo fl ρ3,(s2.trans g1.fs).trans s3,R3.le (je fl ρ3),m',hm,q3⟩,ok.rt,fun F3 H3 σ3 ρ3 s3 R3 q3=>ok.nx _ _ _ _ ((s2.trans g1.fs).trans s3) (R3.le (je fl ρ3)) q3,fun F3 H3 σ3 ρ3 s3 R3 ⟨m',hm,q3⟩=>⟨F3,fo fl ρ3,(s2.trans g1.fs).trans s3,R3.le (je fl ρ3),m',hm,q3⟩⟩ q1
end
noncomputable def Fp(fl:List Nat)(k:En->Mo Fl):Fl->Mo Fl
 | .nx ρ=>k (fo fl ρ)
 | .ct ρ=>k (fo fl ρ)
 | .bk ρ=>ret (.nx (fo fl ρ))
 | .rt w=>ret (.rt w)
noncomputable def fW(fl:List Nat)(b:Hh->En->Mo Fl):List Hh->En->Mo Fl
 | [],ρ=>ret (.nx ρ)
 | x::xs,ρ=>FV (b x ρ) (Fp fl (fW fl b xs))
theorem pv(fl:List Nat)(g:Go)(t:Gj):∀(xs:List Hh)(ρ:En),mS (dr fl g t xs) ρ=fW fl (fun x ρ=>FV (g x ρ) (mS t)) xs ρ
 | [],ρ=>rfl
 | x::xs,ρ=>by
   refine ah fun Q=>?_
   show(g x ρ fun ρ2=>t ⟨fun ρ'=>mS (dr fl g t xs) (fo fl ρ') Q,fun w=>Q (.rt w),fun ρ'=>Q (.nx (fo fl ρ')),fun ρ'=>mS (dr fl g t xs) (fo fl ρ') Q⟩ ρ2)↔_
   simp only[pv fl g t xs]
   exact Ls
noncomputable def FX(g:Go)(t:Gj):Hh->En->Mo Fl:=fun x ρ=>FV (g x ρ) (mS t)
theorem bdy_ap(g:Go)(t:Gj)(x:Hh)(ρ:En):FX g t x ρ=FV (g x ρ) (mS t):=nr rfl
theorem s_for(fl:List Nat)(fi:En->(List Hh->Prop)->Prop)(g:Go)(t:Gj)(ρ:En):mS (xn fl fi g t) ρ=FV (fi ρ) fun xs=>fW fl (FX g t) xs (fo fl ρ):=by
 refine ah fun Q=>?_
 show(fi ρ fun xs=>mS (dr fl g t xs) (fo fl ρ) Q)↔_
 simp only[pv]
 exact Ls
noncomputable def Fo(fl:List Nat)(J:En->Prop)(Q:Fl->Prop):Fl->Prop
 | .nx ρ=>J (fo fl ρ)
 | .ct ρ=>J (fo fl ρ)
 | .bk ρ=>Q (.nx (fo fl ρ))
 | .rt w=>Q (.rt w)
section
variable{α σ:Type}{fl:List Nat}{b:Hh->En->Mo Fl}
theorem lT(J:Nat->En->Prop){Q:Fl->Prop}:∀{xs:List Hh}{ρ:En}(n:Nat),J n ρ->(∀i x ρ,xs[i]?=some x->J (n+i) ρ->∀k:Fl->Prop,(∀r,Fo fl (J (n+i+1)) Q r->k r)->b x ρ k)->(∀ρ,J (n+xs.length) ρ->Q (.nx ρ))->fW fl b xs ρ Q
 | [],ρ,n,h0,_,fin=>fin ρ h0
 | x::xs,ρ,n,h0,step,fin=>by
   refine step 0 x ρ rfl h0 (fun r=>Fp fl (fW fl b xs) r Q) fun r hr=>?_
   have rc:∀ρ',J (n+1) ρ'->fW fl b xs ρ' Q:=fun ρ' h'=>lT J (n+1) h' (fun i y ρ e j k hk=>step (i+1) y ρ (by simpa using e) (by rw[show n+(i+1)=n+1+i by omega];exact j) k (by rw[show n+(i+1)+1=n+1+i+1 by omega];exact hk)) (fun ρ j=>fin ρ (by rw[HV,show n+(xs.length+1)=n+1+xs.length by omega];exact j))
   cases r with
   | nx ρ'=>exact rc _ hr
   | ct ρ'=>exact rc _ hr
   | bk ρ'=>exact hr
   | rt w=>exact hr
theorem pz{xs:List α}{enc:α->Hh}{Q:Fl->Prop}(J:Nat->En->Prop)(h0:J 0 ρ)
 (step:∀i (h:i<xs.length) ρ,J i ρ->∀k:Fl->Prop,(∀r,Fo fl (J (i+1)) Q r->k r)->b (enc xs[i]) ρ k)(fin:∀ρ,J xs.length ρ->Q (.nx ρ)):fW fl b (xs.map enc) ρ Q:=by
 refine lT J 0 h0 (fun i x ρ e j k hk=>?_) (fun ρ j=>fin ρ (by simpa using j))
 have hi:i<xs.length:=by have:=(HY.mp e).1;simpa using this
 rw[Ix,HP hi]at e
 cases e
 rw[Nat.zero_add]at j hk
 exact step i hi ρ j k hk
theorem rH{lo:Int}{Q:Fl->Prop}(J:Nat->En->Prop)(h0:J 0 ρ)
 (step:∀i,i<n->∀ρ,J i ρ->∀k:Fl->Prop,(∀r,Fo fl (J (i+1)) Q r->k r)->b (.int (lo+i)) ρ k)(fin:∀ρ,J n ρ->Q (.nx ρ)):fW fl b (be lo n) ρ Q:=by
 refine pz (xs:=Ip n) J h0 (fun i h ρ j k hk=>?_) (fun ρ j=>fin ρ (by simpa using j))
 rw[List.getElem_range]
 exact step i (by simpa using h) ρ j k hk
end
noncomputable def hZ(fl:List Nat)(f:TB)(t:Gj)(ρ:En):Mo Fl:=fun Q=>∃m,mS (D1 fl f t m) ρ Q
theorem s_while(fl:List Nat)(f:TB)(t:Gj)(ρ:En):mS (nS fl f t) ρ=hZ fl f t (fo fl ρ):=nr rfl
theorem qB(fl:List Nat)(f:TB)(t:Gj)(m:Nat)(ρ:En):mS (D1 fl f t m) ρ=FV (f ρ) fun b=>if b=true then FV (mS t ρ) (Fp fl fun ρ'=>fun Q=>∃k,∃h:k<m,mS (D1 fl f t k) ρ' Q)else ret (.nx ρ):=by
 refine ah fun Q=>?_
 show D1 fl f t m _ ρ↔_
 rw[sL]
 simp only[FV,fL]
 exact Ls
theorem tZ{fl:List Nat}{f:TB}{t:Gj}(h:f ρ=ret false):hZ fl f t ρ=ret (.nx ρ):=by
 refine ah fun Q=>?_
 constructor
 · rintro⟨m,q⟩;rw[qB,h,bnd_ret,if_neg (by decide)]at q;exact q
 · intro q;refine⟨0,?_⟩;rw[qB,h,bnd_ret,if_neg (by decide)];exact q
theorem tX{fl:List Nat}{f:TB}{t:Gj}{ρ':En}(h:f ρ=ret true)(h2:mS t ρ=ret (.nx ρ')):hZ fl f t ρ=hZ fl f t (fo fl ρ'):=by
 refine ah fun Q=>?_
 constructor
 · rintro⟨m,q⟩;rw[qB,h,bnd_ret,if_pos rfl,h2,bnd_ret]at q;obtain⟨k,_,q⟩:=q;exact⟨k,q⟩
 · rintro⟨m,q⟩;refine⟨m+1,?_⟩;rw[qB,h,bnd_ret,if_pos rfl,h2,bnd_ret];exact⟨m,Mk m,q⟩
theorem nB{σ:Type}{fl:List Nat}{f:TB}{t:Gj}(st:σ->En)(c:σ->Bool)(nxt:σ->σ)(μ:σ->Nat)(I:σ->Prop)
 (hf:∀s,I s->f (st s)=ret (c s))(ht:∀s,I s->c s=true->I (nxt s)/\μ (nxt s)<μ s/\∃ρ',mS t (st s)=ret (.nx ρ')/\fo fl ρ'=st (nxt s))(s:σ)(hs:I s):∃s',I s'/\c s'=false/\hZ fl f t (st s)=ret (.nx (st s')):=by
 induction hm:μ s using Nat.strongRecOn generalizing s with
 | ind n ih =>
   subst hm
   cases hc:c s with
   | false=>exact⟨s,hs,hc,tZ (by rw[hf s hs,hc])⟩
   | true =>
     obtain⟨i1,m1,ρ',e1,e2⟩:=ht s hs hc
     obtain⟨s',a,b,e⟩:=ih _ m1 (nxt s) i1 rfl
     exact⟨s',a,b,by rw[tX (by rw[hf s hs,hc]) e1,e2,e]⟩
noncomputable def nw(ρ0:En)(g:Go)(ft:TB)(fe:TV):List Hh->List Hh->(List Hh->Prop)->Prop
 | [],acc,Q=>Q acc
 | x::xs,acc,Q=>g x ρ0 fun ρ2=>Le ρ0 ρ2/\ft ρ2 fun b=>if b=true then fe ρ2 fun w=>∃d,w.fz = .d d/\acc.length<sizeLine/\nw ρ0 g ft fe xs (acc++[d]) Q else nw ρ0 g ft fe xs acc Q
noncomputable def ii(fi:En->(List Hh->Prop)->Prop)(fr:List (Option Nat))(g:Go)(ft:TB)(fe:TV):TV:=fun ρ Q=>fi ρ fun xs=>nw (dH fr ρ) g ft fe xs [] fun ds=>Q (.ml ds)
section
variable{X:Cx}{rl:RlT}{elt tg iter:Expr}{ifs:List Expr}{scope:Scope}{pos:Pos}{fi:En->(List Hh->Prop)->Prop}{g:Go}{ft:TB}{fe:TV}
theorem lV{wi:TI}(fr:List (Option Nat))(k0:∀{F₀ H₀ F H:Hp}{σ:St}{ρ:En},VR X.K rl F₀ H₀ F H σ ρ->∀(Qd:List Hh->Prop)(R:It->Hp->Prop),fi ρ Qd ->
 (∀J xs F' H',Grow rl F H F' H'->VIt X.K rl F' J xs->Qd xs->R J H')->wi σ H R)
 (hg:∀y,GM (blk X N' scope y) rl tg g)(ht:∀y,kD (blk X N' scope y) rl ifs ft)(he:∀y,PV (blk X N' scope y) rl elt fe)
 (R:VR X.K rl F₀ H₀ F H σ ρ)(Qd:W->Prop)(Q:VK)(q:ii fi fr g ft fe ρ Qd)
 (k:∀v w F' H',Grow rl F H F' H'->di X.K rl F' H' v w->dj H v w->Qd w->Q v H'):qM wi fr (fun y=>ID (hg y)) (fun y=>ID (ht y)) (fun y=>ID (he y)) σ H Q:=by
 refine k0 R _ _ q fun J xs F1 H1 g1 vi q1=>?_
 intro D hD
 have rD:rl.a≠some D:=fun e=>by obtain⟨o,z⟩:=g1.reel.live e;rw[hD]at z;cases z
 have FD:F1 D=none:=g1.sub.free hD
 have gD:Grow rl F1 H1 F1 (D8 H1 D (.lst [])):=Grow.laid g1.sub g1.reel hD
 have R1:=R.grow g1
 have n0:kz (dH fr ρ):=cR
 refine⟨fun i m acc σc Hc=>m=xs.length-i/\i<=xs.length/\∃Fc ds,VR X.K rl F1 H1 Fc Hc σc (dH fr ρ)/\Hc D=some (.lst acc)/\Fc D=none/\Reps X.K Fc acc ds/\nw (dH fr ρ) g ft fe (xs.drop i) ds (fun ds=>Qd (.ml ds)),
  ⟨xs.length,by simp,HS _,F1,[],ee R1 gD,au,FD,.nil,by simpa using q1⟩,?_⟩
 rintro z i m acc σc Hc ⟨rfl,hi,Fc,ds,Rc,hDc,fDc,rs,q2⟩
 have sH:bL F1 Hc:=Rc.g.fs.trans Rc.sub
 by_cases hlt:i<xs.length
 · have ei:xs[i]?=some xs[i]:=by simp[hlt]
   have ed:xs.drop i=xs[i]::xs.drop (i+1):=IP hlt
   rw[ed]at q2
   refine .inr ⟨vi.go i Hc _ ei sH,fun v H' y=>?_⟩
   obtain⟨Fy,gy,rv⟩:=vi.yld i Hc v H' _ Fc ei Rc.g.fs Rc.sub Rc.reel y
   refine(Ho (hg z)).2 (Rc.grow gy) v _ _ _ rv q2 fun F3 H3 σ3 ρ3 g3 n3 R3 ⟨le3,q3⟩=>?_
   refine(Ho (ht z)).2 R3 _ _ q3 fun b F4 H4 g4 q4=>?_
   have R4:=R3.grow g4
   have g34:=(gy.trans g3).trans g4
   have keepD:∀{Fx Hx:Hp},Grow rl Fc Hc Fx Hx->Hx D=some (.lst acc)/\Fx D=none:=fun gx=>⟨gx.same D _ hDc rD,by rw[gx.old D _ hDc];exact fDc⟩
   cases b with
   | false=>exact⟨xs.length-(i+1),by omega,rfl,hlt,F4,ds,R4.le le3,(keepD g34).1,(keepD g34).2,rs.mono g34.fs,q4⟩
   | true =>
     refine(Ho (he z)).2 R4 _ _ q4 fun v5 w5 F5 H5 g5 r5 n5 ⟨d,ed5,hl,q5⟩=>?_
     obtain⟨F6,g6,s6,r6⟩:=di.fz g5 r5 n5
     rw[ed5]at r6
     have g36:=g34.trans g6
     refine⟨(keepD g36).1,by rw[rs.length];exact hl,xs.length-(i+1),by omega,rfl,hlt,F6,ds++[d],((R4.grow g6).le le3).other n0 hD (keepD g36).2 rD,au,(keepD g36).2,(rs.mono g36.fs).snoc r6,q5⟩
 · have e:i=xs.length:=by omega
   subst e
   rw[JL]at q2
   refine .inl ⟨vi.stop _ Hc (Hs _) sH,k _ (.ml ds) Fc Hc (g1.trans Rc.g) ⟨D,acc,rfl,fDc,rD,hDc,rs⟩ (fun a ea=>by cases ea;exact g1.freeB hD) q2⟩
theorem bc(N':List Str)(fr:List (Option Nat))(hc:X.calm=true)(hi:GJ X rl tg iter fi)
 (hg:∀y,GM (blk X N' scope y) rl tg g)(ht:∀y,kD (blk X N' scope y) rl ifs ft)(he:∀y,PV (blk X N' scope y) rl elt fe)
 (hfr:lg fr N' X.N scope X.env.scope=true:=by rfl)(hsc:lK scope X.env.scope=true:=by rfl)
 (hs:∀x,H0 iter X.env x=pure x:=by intro _;rfl):PV X rl (.ListComp elt [⟨tg,iter,ifs,0⟩] scope pos) (ii fi fr g ft fe):=by
 obtain⟨wi,p0,k0⟩:=hi
 exact⟨_,i_ N' fr hc p0 hfr hsc (fun y=>(Ho (hg y)).1) (fun y=>(Ho (ht y)).1) (fun y=>(Ho (he y)).1) hs,fun R Qd Q q k=>lV fr k0 hg ht he R Qd Q q k⟩
end
noncomputable def FB(ρ0:En)(g:Go)(ft:TB)(fe:TV)(x:Hh):Mo (Option Hh):=FV (g x ρ0) fun ρ2=>FJ (Le ρ0 ρ2) (FV (ft ρ2) fun b=>if b=true then FV (fe ρ2) fun w=>aO (asD w.fz) fun d=>ret (some d)else ret none)
noncomputable def cw(b:Hh->Mo (Option Hh)):List Hh->List Hh->Mo (List Hh)
 | [],acc=>ret acc
 | x::xs,acc=>FV (b x) fun o=>match o with
   | some d=>FJ (acc.length<sizeLine) (cw b xs (acc++[d]))
   | none=>cw b xs acc
theorem lq(ρ0:En)(g:Go)(ft:TB)(fe:TV):∀(xs acc:List Hh),nw ρ0 g ft fe xs acc=cw (FB ρ0 g ft fe) xs acc
 | [],acc=>rfl
 | x::xs,acc=>by
   refine ah fun Q=>?_
   show(g x ρ0 fun ρ2=>Le ρ0 ρ2/\ft ρ2 fun b=>if b=true then fe ρ2 fun w=>∃d,w.fz = .d d/\acc.length<sizeLine/\nw ρ0 g ft fe xs (acc++[d]) Q else nw ρ0 g ft fe xs acc Q)↔(FV (FB ρ0 g ft fe x) _) Q
   simp only[lq ρ0 g ft fe xs]
   have:∀(ρ2:En)(b:Bool),(if b=true then fe ρ2 fun w=>∃d,w.fz = .d d/\acc.length<sizeLine/\cw (FB ρ0 g ft fe) xs (acc++[d]) Q else cw (FB ρ0 g ft fe) xs acc Q)=(FV (if b=true then FV (fe ρ2) fun w=>aO (asD w.fz) fun d=>ret (some d)else ret none) fun o=>match o with
   | some d=>FJ (acc.length<sizeLine) (cw (FB ρ0 g ft fe) xs (acc++[d]))
   | none=>cw (FB ρ0 g ft fe) xs acc) Q:=by
     intro ρ2 b
     cases b with
     | false=>rfl
     | true =>
       rw[if_pos rfl,if_pos rfl]
       show _=fe ρ2 fun w=>_
       congr 1
       funext w
       refine propext ?_
       show _↔(FV (aO (asD w.fz) fun d=>ret (some d)) _) Q
       rw[bnd_opt,aq]
       simp only[gX]
       exact Ls
   simp only[this]
   exact Ls
theorem m_comp(fi:En->(List Hh->Prop)->Prop)(fr:List (Option Nat))(g:Go)(ft:TB)(fe:TV)(ρ:En):ii fi fr g ft fe ρ=FV (fi ρ) fun xs=>FV (cw (FB (dH fr ρ) g ft fe) xs []) fun ds=>ret (.ml ds):=by
 refine ah fun Q=>?_
 show(fi ρ fun xs=>nw (dH fr ρ) g ft fe xs [] fun ds=>Q (.ml ds))↔_
 simp only[lq]
 exact Ls
section
variable{α:Type}{b:Hh->Mo (Option Hh)}
theorem eR{enc:α->Hh}(f:α->Option Hh):∀(xs:List α)(acc:List Hh),(∀x∈xs,b (enc x)=ret (f x))->acc.length+xs.length<=sizeLine->cw b (xs.map enc) acc=ret (acc++xs.filterMap f)
 | [],acc,_,_=>by simp[cw]
 | x::xs,acc,h,hl=>by
   show FV (b (enc x)) _=_
   rw[h x Hy,bnd_ret]
   simp at hl
   cases e:f x with
   | none =>
     show cw b (xs.map enc) acc=_
     rw[eR f xs acc (fun y hy=>h y (Ht _ hy)) (by omega),List.filterMap_cons_none e]
   | some d =>
     show FJ (acc.length<sizeLine) (cw b (xs.map enc) (acc++[d]))=_
     rw[ag (by omega),eR f xs (acc++[d]) (fun y hy=>h y (Ht _ hy)) (by simp;omega),List.filterMap_cons_some e]
     simp
theorem lm{xs:List α}{enc:α->Hh}(f:α->Option Hh)(h:∀x∈xs,b (enc x)=ret (f x))(hl:xs.length<=sizeLine):cw b (xs.map enc) []=ret (xs.filterMap f):=by
 have:=eR f xs [] h (by simpa using hl)
 simpa using this
theorem comp_map{xs:List α}{enc:α->Hh}(f:α->Hh)(h:∀x∈xs,b (enc x)=ret (some (f x)))(hl:xs.length<=sizeLine):cw b (xs.map enc) []=ret (xs.map f):=by
 rw[lm (fun x=>some (f x)) h hl,Ms]
theorem p7{lo:Int}(f:Nat->Hh)(h:∀j,j<n->b (.int (lo+j))=ret (some (f j)))(hl:n<=sizeLine):cw b (be lo n) []=ret ((Ip n).map f) :=
 comp_map (xs:=Ip n) f (fun j hj=>h j (JU.mp hj)) (by simpa using hl)
theorem sA{lo:Int}(f:Nat->Option Hh)(h:∀j,j<n->b (.int (lo+j))=ret (f j))(hl:n<=sizeLine):cw b (be lo n) []=ret ((Ip n).filterMap f) :=
 lm (xs:=Ip n) f (fun j hj=>h j (JU.mp hj)) (by simpa using hl)
end
section
variable(c:Prop)[Decidable c]
theorem ite_nx(a b:En):(if c then ret (Fl.nx a)else ret (Fl.nx b))=ret (Fl.nx (if c then a else b)):=by split<;>rfl
theorem ite_rt(a b:W):(if c then ret (Fl.rt a)else ret (Fl.rt b))=ret (Fl.rt (if c then a else b)):=by split<;>rfl
theorem ite_retd(a b:Hh):(if c then ret (W.d a)else ret (W.d b))=ret (W.d (if c then a else b)):=by split<;>rfl
theorem ite_retb(a b:Bool):(if c then ret a else ret b)=ret (if c then a else b):=by split<;>rfl
theorem ite_rets(a b:Hh):(if c then ret (some a)else ret (some b))=ret (some (if c then a else b)):=by split<;>rfl
theorem ite_cons{α:Type}(x y:α)(l m:List α):(if c then x::l else y::m)=(if c then x else y)::(if c then l else m):=by split<;>rfl
theorem ite_some{α:Type}(x y:α):(if c then some x else some y)=some (if c then x else y):=by split<;>rfl
theorem ite_d(a b:Hh):(if c then W.d a else W.d b)=W.d (if c then a else b):=by split<;>rfl
theorem ite_pi(a b:Int):(if c then HB a else HB b)=HB (if c then a else b):=by split<;>rfl
theorem ite_pb(a b:Bool):(if c then IG a else IG b)=IG (if c then a else b):=by split<;>rfl
theorem itb_tt(b y:Bool):(if b=true then true else y)=(b||y):=by cases b<;>rfl
theorem itb_ff(b y:Bool):(if b=true then y else false)=(b&&y):=by cases b<;>rfl
theorem itb_ft(b y:Bool):(if b=true then false else y)=(!b&&y):=by cases b<;>rfl
theorem itb_tf(b y:Bool):(if b=true then y else true)=(!b||y):=by cases b<;>rfl
end
theorem ae(h:n<=1000):(n<=sizeLine)=True:=by have:=HM;exact propext ⟨fun _=>trivial,fun _=>by omega⟩
theorem tup2(x y:Hh):(match [x,y]with | [x,y]=>some (x,y)|_=>none)=some (x,y):=rfl
theorem bnd_tt{α β:Type}(a:α)(f:α->Mo β):FV (fun Q=>Q a) f=f a:=nr rfl
section
variable{α β:Type}
theorem aP{P:α->Prop}{f:α->Mo β}{Q:β->Prop}(h:∀a,P a->f a Q):FV (anyM P) f Q:=h
theorem cj{P:Prop}{m:Mo α}{Q:α->Prop}(h:P)(h':m Q):FJ P m Q:=⟨h,h'⟩
theorem dD{c:Prop}[Decidable c]{a b:Mo α}{Q:α->Prop}(h:c->a Q)(h':¬c->b Q):(if c then a else b) Q:=by split<;>simp_all
theorem rM{b:Bool}{x y:Mo α}{Q:α->Prop}(h:b=true->x Q)(h':b=false->y Q):(if b=true then x else y) Q:=by cases b<;>simp_all
end
theorem ax{Q:Hh->Prop}(h:Q d):ret (Fl.rt (.d d)) (wa Q):=⟨d,rfl,h⟩
theorem i8{Q:Hh->Prop}{d:List Hh}(h:Q (.list d)):ret (Fl.rt (.ml d)) (wa Q):=⟨_,rfl,h⟩
section
variable{α:Type}{k:En->Mo Fl}{Q:Fl->Prop}
theorem Ey{m:Mo α}{h:α->Mo Fl}(z:FV m (fun a=>sq (h a) k) Q):sq (FV m h) k Q:=z
theorem Ex{o:Option α}{h:α->Mo Fl}(z:aO o (fun a=>sq (h a) k) Q):sq (aO o h) k Q:=by rw[xF];exact z
noncomputable def kc(k1 k2:En->Mo Fl):En->Mo Fl:=fun ρ=>sq (k1 ρ) k2
theorem kc_ap(k1 k2:En->Mo Fl)(ρ:En):kc k1 k2 ρ=sq (k1 ρ) k2:=nr rfl
theorem sq_sq(m:Mo Fl)(k1 k2:En->Mo Fl):sq (sq m k1) k2=sq m (kc k1 k2):=by
 refine ah fun Q=>?_
 show m _↔m _
 have:∀fl:Fl,(sq (match fl with | .nx ρ=>k1 ρ | .rt w=>ret (.rt w) | .bk ρ=>ret (.bk ρ) | .ct ρ=>ret (.ct ρ)) k2) Q=(match fl with | .nx ρ=>kc k1 k2 ρ | .rt w=>ret (.rt w) | .bk ρ=>ret (.bk ρ) | .ct ρ=>ret (.ct ρ):Mo Fl) Q:=by intro fl;cases fl<;>rfl
 exact Iff.of_eq (congrArg m (funext this))
theorem bh{P:α->Prop}{f:α->Mo Fl}(z:∀a,P a->sq (f a) k Q):sq (FV (anyM P) f) k Q:=z
end
theorem pk_sc(x:List Int):L2.VL.W.peek (.sc x) = .sc x:=rfl
theorem fz_sc(x:List Int):(W.sc x).fz = .sc x:=rfl
theorem arg_sc(x:List Int):eV (.sc x)=true:=rfl
theorem isPk_sc(x:List Int):(W.sc x).isPk=false:=rfl
section
variable{X:Cx}{rl:RlT}{a b c e:Expr}{es:List Expr}{fa fb fc:TV}{fs:Gi}{pos p p2:Pos}{ρ:En}
noncomputable def asSc:W->Option (List Int)
 | .sc ns=>some ns
 | _=>none
theorem asSc_s(ns:List Int):asSc (.sc ns)=some ns:=rfl
theorem wu{i:List Int}:asSc w=some i↔w = .sc i:=by
 constructor
 · intro h;unfold asSc at h;split at h<;>simp_all
 · rintro rfl;rfl
theorem cr(f:α->β)(xs:List α)(i:Int):atI (xs.map f) i=(atI xs i).map f:=by
 unfold atI
 rw[Hu]
 cases ixN xs.length i<;>simp
theorem oA{K:W.Frag}{F:Hp}:∀ns:List Int,Reps K F (ns.map V.int) (ns.map HB)
 | []=>.nil
 | n::ns=>.cons (.int n) (oA ns)
noncomputable def Ae(fa:TV)(fl fh:Gm):TV:=fun ρ Q=>fa ρ fun w=>fl ρ fun l=>fh ρ fun h=>∃ns:List Int,w = .sc ns/\Q (.ml (cutD (ns.map .int) l h))
theorem w_{lo hi:Option Expr}{fl fh:Gm}(ha:PV X rl a fa)(hl:GC X rl lo fl)(hh:GC X rl hi fh):PV X rl (.Subscript a (.Slice lo hi none p2) pos) (Ae fa fl fh):=by
 obtain⟨t,p,k⟩:=ha
 obtain⟨tl,pl,kl⟩:=hl
 obtain⟨th,ph,kh⟩:=hh
 refine⟨_,lL uB p pl ph,fun R Qd Q q h=>k R _ _ q fun v w F1 H1 g1 r1 n1 q1=>?_⟩
 refine kl (R.grow g1) _ _ q1 fun l F2 H2 g2 q2=>kh ((R.grow g1).grow g2) _ _ q2 fun u F3 H3 g3 q3=>?_
 obtain⟨ns,rfl,q3⟩:=q3
 obtain⟨a,rfl,sq⟩:=(r1.grow g2).grow g3
 have g:=(g1.trans g2).trans g3
 exact⟨a,_,rfl,qR g3.sub sq,fun p hp=>h _ (.ml _) _ _ (g.trans (Grow.laid g3.sub g3.reel hp)) (cL g3.sub g3.reel hp ((oA ns).cut l u)) (fun a ea=>by cases ea;exact g.freeB hp) q3⟩
theorem m_vSlS{fl fh:Gm}:Ae fa fl fh ρ=FV (fa ρ) fun w=>FV (fl ρ) fun l=>FV (fh ρ) fun h=>aO (asSc w) fun ns=>ret (.ml (cutD (ns.map .int) l h)):=by
 refine ah fun Q=>?_
 simp only[Ae,FV,aq,wu,ret]
end
noncomputable def EB(K:W.Frag)(pre:List W->Prop):Sp:=fun vs H Q _=>∃F ws,bL F H/\fu K RlT.no F H vs ws/\ws.all eV=true/\pre ws/\∀r n' F' H',H r=none->Grow RlT.no F H F' H'->Gz (RlT.at' r n') F' H'->Q (.ref r) H'
structure DfnR (P:Ij) (w:IV) (K:W.Frag) (mg:Str->Option Hq) (base:Heap) (x:Str) (ps:List Str) (k:Nat) (pre:List W->Prop):Prop where
 ex:∃f fd,mg x=some (.ref f)/\W.keepIn K (.ref f)=true/\Binds K fd ps []/\FnOk P w K mg base G8 k f fd ps (EB K pre)
noncomputable def EY:Option W->Option W
 | some .reel=>none
 | o=>o
noncomputable def nR(ρ:En):En:=ρ.map EY
noncomputable def W.isR:W->Bool
 | .reel=>true
 | _=>false
noncomputable def xm(i:Nat)(pre:List W->Prop)(fs:Gi)(t:Gj):Gj:=fun D ρ=>fs ρ fun ws=>ws.all eV=true/\pre ws/\t ⟨fun ρ'=>D.nx (nR ρ'),fun w=>w.isR=false/\D.rt w,fun ρ'=>D.bk (nR ρ'),fun ρ'=>D.ct (nR ρ')⟩ (ρ.set i (some .reel))
theorem vW{r:Addr}(g:Grow RlT.no F₀ H₀ F H)(ra:Gz (RlT.at' r n') F H):Grow (RlT.at' r n') F₀ H₀ F H:=⟨fun b o e _=>g.same b o e (by simp),g.fs,g.sub,g.old,ra⟩
theorem l_{r:Addr}(g:Grow (RlT.at' r n') F₀ H₀ F H)(n:H₀ r=none):Grow RlT.no F₀ H₀ F H:=⟨fun b o e _=>g.same b o e (fun z=>by cases z;rw[n]at e;cases e),g.fs,g.sub,g.old,fun _ z=>by cases z⟩
theorem xV{K:W.Frag}{r:Addr}(h:di K RlT.no F H v w)(ne:∀a,w.own=true\/(∃xs,w = .pk xs)->v = .ref a->a≠r):di K (RlT.at' r n') F H v w:=by
 cases w with
 | d x=>exact h
 | ml xs=>obtain⟨a,vs,e,f,_,g⟩:=h;exact⟨a,vs,e,f,fun z=>ne a (.inl rfl) e (by cases z;rfl),g⟩
 | pk xs=>obtain⟨a,vs,e,f,_,g⟩:=h;exact⟨a,vs,e,f,fun z=>ne a (.inr ⟨_,rfl⟩) e (by cases z;rfl),g⟩
 | reel=>obtain⟨_,z,_⟩:=h;cases z
 | vv u=>exact h
 | md kvs=>obtain⟨a,vs,e,f,_,g⟩:=h;exact⟨a,vs,e,f,fun z=>ne a (.inl rfl) e (by cases z;rfl),g⟩
 | mk kvs=>obtain⟨a,vs,e,f,_,g⟩:=h;exact⟨a,vs,e,f,fun z=>ne a (.inl rfl) e (by cases z;rfl),g⟩
 | nt ds=>exact h
 | lk=>trivial
 | sc ns=>exact h
 | fd _=>exact h
 | fw _=>exact h
 | ft _=>exact h
 | xc _ _=>exact h
 | dp _ _=>exact h
theorem oC{K:W.Frag}{r:Addr}(h:di K (RlT.at' r n') F H v w)(n:w.isR=false):di K RlT.no F H v w:=by
 cases w with
 | d x=>exact h
 | ml xs=>obtain⟨a,vs,e,f,_,g⟩:=h;exact⟨a,vs,e,f,by simp,g⟩
 | pk xs=>obtain⟨a,vs,e,f,_,g⟩:=h;exact⟨a,vs,e,f,by simp,g⟩
 | reel=>cases n
 | vv u=>exact h
 | md kvs=>obtain⟨a,vs,e,f,_,g⟩:=h;exact⟨a,vs,e,f,by simp,g⟩
 | mk kvs=>obtain⟨a,vs,e,f,_,g⟩:=h;exact⟨a,vs,e,f,by simp,g⟩
 | nt ds=>exact h
 | lk=>trivial
 | sc ns=>exact h
 | fd _=>exact h
 | fw _=>exact h
 | ft _=>exact h
 | xc _ _=>exact h
 | dp _ _=>exact h
theorem lQ(h:(nR ρ)[i]?=some (some w)):ρ[i]?=some (some w)/\w.isR=false:=by
 unfold nR at h
 rw[Ix]at h
 cases e:ρ[i]? with
 | none=>rw[e]at h;cases h
 | some o =>
   rw[e]at h
   cases o with
   | none=>cases h
   | some u=>cases u<;>first|(cases h;exact⟨rfl,rfl⟩)|cases h
theorem VR.out{K:W.Frag}{r:Addr}(R:VR K (RlT.at' r n') F₀ H₀ F H σ ρ)(n:H₀ r=none):VR K RlT.no F₀ H₀ F H σ (nR ρ):=by
 refine⟨l_ R.g n,fun i w e=>?_,fun i j x y v hn e1 e2=>R.ap i j x y v hn (lQ e1).1 (lQ e2).1,fun i xs e=>R.np i xs (lQ e).1,?_⟩
 · obtain⟨e1,e2⟩:=lQ e
   obtain⟨v,h1,h2,h3⟩:=R.sl i w e1
   exact⟨v,h1,oC h2 e2,h3⟩
 · have:=R.len;simpa[nR]using this
theorem VR.into{K:W.Frag}{r:Addr}(R:VR K RlT.no F₀ H₀ F H σ ρ)(n:H r=none)(g:Grow RlT.no F H F' H')(ra:Gz (RlT.at' r n') F' H')(i:Nat):VR K (RlT.at' r n') F₀ H₀ F' H' (σ.set i (some (.ref r))) (ρ.set i (some .reel)):=by
 have R1:=R.grow g
 refine⟨vW R1.g ra,fun j w e=>?_,fun j k x y v hn e1 e2 o1 o2 s1 s2=>?_,fun j xs e=>?_,by simp[R.len]⟩
 · by_cases hj:i=j
   · subst hj
     have hi:i<ρ.length:=by
      rw[Jc]at e
      by_cases hi:i<ρ.length
      · exact hi
      · simp[hi]at e
     rw[Ii hi]at e
     cases e
     exact⟨.ref r,by rw[Ii (by rw[<- R.len];exact hi)],⟨r,rfl,rfl⟩,trivial⟩
   · rw[Ib hj]at e
     obtain⟨v,h1,h2,h3⟩:=R1.sl j w e
     refine⟨v,by rw[Ib hj];exact h1,xV h2 fun a ow ea z=>?_,h3⟩
     obtain⟨v0,h10,h20,_⟩:=R.sl j w e
     rw[h1]at h10
     cases h10
     rcases ow with ow|⟨xs,rfl⟩
     · obtain⟨b,o,eb,hb⟩:=h20.live ow
       rw[ea]at eb
       cases eb
       rw[z,n]at hb
       cases hb
     · exact absurd e (R.np j xs)
 · have key:∀(m:Nat)(z:W),(ρ.set i (some W.reel))[m]?=some (some z)->z.own=true->i≠m/\ρ[m]?=some (some z):=fun m z e o=>by
     by_cases hm:i=m
     · subst hm
       rw[Jc]at e
       split at e
       · split at e
         · cases e;cases o
         · cases e
       · exact absurd rfl (by assumption)
     · rw[Ib hm]at e;exact⟨hm,e⟩
   obtain⟨n1,d1⟩:=key j x e1 o1
   obtain⟨n2,d2⟩:=key k y e2 o2
   rw[Ib n1]at s1
   rw[Ib n2]at s2
   exact R1.ap j k x y v hn d1 d2 o1 o2 s1 s2
 · rw[Jc]at e
   split at e
   · split at e
     · cases e
     · cases e
   · exact R1.np j xs e
section
variable{X:Cx}{st:Stmt}{rest body:List Stmt}{t u:Gj}{a b c e:Expr}{es:List Expr}{fa fb:TV}{fs:Gi}{pos p px cpos:Pos}{ρ:En}
theorem t6(i:Nat){f:Str}{ps:List Str}{k:Nat}{pre:List W->Prop}(D:DfnR X.prog X.w X.K X.mg X.base f ps k pre)(hr:Room k X.A)(hN:X.N.Nodup)(ha:GB X RlT.no (e::es) fs)(hrest:∀r n',ly X (RlT.at' r n') rest t)
 (hi:X.N[i]?=some x:=by rfl)(hx:Loc X.env.scope x:=by first|exact Js rfl|exact IR rfl)(hg:Gl X f:=by rfl)(hdb:(f==("__debug__" : Str))=false:=by decide)
 (he:Hw (e::es) X.env=(false,eval e X.env)::Hw es X.env:=by rfl)(hpl:(I0 cpos (Hw es X.env)).any (·.1)=false:=by rfl)
 (hs:Jr (.Call (.Name f p) (e::es) [] cpos) (some (.Name x px)) pos.line X.env=pure false:=by rfl)(hf:X.fn x=true\/X.env.scope.names.lookup x=some .local:=by first|exact .inl rfl|exact .inr rfl) :
 ly X RlT.no (.Assign [.Name x px] (.Call (.Name f p) (e::es) [] cpos) pos::rest) (xm i pre fs t):=by
 obtain⟨fa,fd,hm,hk,hb,F⟩:=D.ex
 obtain⟨ta,p1,k1⟩:=ha
 refine⟨_,gc (gC hN hi hx (jb F hr hg hm hk hb .nil ro p1 hdb he hpl) hs hf) (uS X rest),fun{F₀ H₀ F H σ ρ} R Dv D ok q=>k1 R _ _ q fun vs ws F1 H1 g1 r1 ⟨ao,pw,q1⟩=>?_⟩
 have R1:=R.grow g1
 refine⟨F1,ws,g1.sub,by rw[JX];exact r1,ao,pw,fun r n' F2 H2 hr2 g2 ra=>?_⟩
 intro pins s I
 obtain⟨T,pT,kT⟩:=hrest r n'
 have h0:H₀ r=none:=R1.g.freeB hr2
 refine pT pins s _ H2 D I (kT (R1.into hr2 g2 ra i) _ D ⟨fun F3 H3 σ3 ρ3 s3 R3 q3=>?_,fun v w F3 H3 g3 r3 n3 q3=>?_,fun F3 H3 σ3 ρ3 s3 R3 q3=>?_,fun F3 H3 σ3 ρ3 s3 R3 q3=>?_⟩ q1)
 · exact ok.nx F3 H3 σ3 _ (g1.fs.trans (g2.fs.trans s3)) (R3.out h0) q3
 · exact ok.rt v w F3 H3 (l_ g3 h0) (oC r3 q3.1) n3 q3.2
 · exact ok.bk F3 H3 σ3 _ (g1.fs.trans (g2.fs.trans s3)) (R3.out h0) q3
 · exact ok.ct F3 H3 σ3 _ (g1.fs.trans (g2.fs.trans s3)) (R3.out h0) q3
end
noncomputable def D9:Fl->Mo Fl
 | .nx ρ=>ret (.nx (nR ρ))
 | .rt w=>FJ (w.isR=false) (ret (.rt w))
 | .bk ρ=>ret (.bk (nR ρ))
 | .ct ρ=>ret (.ct (nR ρ))
theorem s_newR(i:Nat)(pre:List W->Prop)(fs:Gi)(t:Gj)(ρ:En):mS (xm i pre fs t) ρ=FV (fs ρ) fun ws=>FJ (ws.all eV=true) (FJ (pre ws) (FV (mS t (ρ.set i (some .reel))) D9)):=nr rfl
theorem nR_nil:nR []=[]:=rfl
theorem nR_r(l:En):nR (some .reel::l)=none::nR l:=rfl
theorem nR_n(l:En):nR (none::l)=none::nR l:=rfl
theorem nR_d(x:Hh)(l:En):nR (some (.d x)::l)=some (.d x)::nR l:=rfl
theorem nR_ml(x:List Hh)(l:En):nR (some (.ml x)::l)=some (.ml x)::nR l:=rfl
theorem nR_sc(x:List Int)(l:En):nR (some (.sc x)::l)=some (.sc x)::nR l:=rfl
noncomputable def ip(K:W.Frag):Sp:=fun vs H Q _=>∃(a:Addr)(ns:List Int),vs=[.ref a]/\Gr K H a (ns.map V.int)/\ns.length<=63/\∀H',Q (.bl true) H'
noncomputable def Do:VEnds:=⟨fun _=>False,fun w=>w = .d (.bool true),fun _=>False,fun _=>False⟩
noncomputable def wE:Fl->Prop
 | .rt w=>w = .d (.bool true)
 | _=>False
theorem un_law(m:Mo Fl):FV m D9 wE=m wE:=by
 show m (fun fl=>D9 fl wE)=m wE
 congr 1
 funext fl
 cases fl with
 | rt w=>exact propext ⟨fun⟨_,h⟩=>h,fun h=>⟨by rw[show w = .d (.bool true)from h];rfl,h⟩⟩
 | _=>rfl
theorem vN:ret (Fl.rt (.d (.bool true))) wE:=rfl
section
variable{P:Ij}{w:IV}{K:W.Frag}{mg:Str->Option Hq}{base:Heap}{st:Stmt}{N:List Str}{k:Nat}{t:Gj}{x:Str}
theorem vt{f:Addr}(F:Fun K "law" "law" st f fd)(S:FnScope N [x] (defScope st))
 (hbody:∀(cdv:Hq)(A:IU)(outer:List Env)(s:Hv)(H:Hp)(E:XK),Room k (A.deeper (Mh "law" (defScope st) s.heap.objs.size f cdv))->ly (p5 G8 P w K mg base N "law" (defScope st) f cdv A outer s H E).nox RlT.no (defBody st) t)
 (hread:∀ns:List Int,ns.length<=63->mS t (du N [.sc ns]) wE):FnOk P w K mg base G8 (k+1) f fd [x] (ip K):=by
 refine F.ok S (fun vs H Q E h=>?_) (fun cdv A outer s H vs Q E hr h=>?_)
 · obtain⟨a,ns,rfl,_⟩:=h
   rfl
 · obtain⟨a,ns,rfl,hS,hl,kq⟩:=h
   obtain⟨T,p,kk⟩:=hbody cdv A outer s H E hr
   have rw0:fu K RlT.no H H [.ref a] [.sc ns]:=.cons ⟨a,rfl,hS⟩ .nil
   have R:VR K RlT.no H H H H (start N [.ref a]) (du N [.sc ns]):=fY (.refl H) (fun _ z=>by cases z) rw0 rfl
   refine⟨T,p,kk R Do _ ⟨fun _ _ _ _ _ _ z=>Jb z,?_,fun _ _ _ _ _ _ z=>Jb z,fun _ _ _ _ _ _ z=>Jb z⟩ (hread ns hl)⟩
   rintro v w1 F1 H1 g1 r1 n1 z
   have z:w1 = .d (.bool true):=z
   subst z
   have e:=fD r1
   subst e
   exact kq H1
end
noncomputable def qH(i:Nat)(fa:TV):Gj:=fun D ρ=>fa ρ fun w=>∃d,w.fz = .d d/\D.nx (ρ.set i (some (.d d)))
section
variable{X:Cx}{rl:RlT}{st:Stmt}{rest body:List Stmt}{t u:Gj}{a b c e:Expr}{es:List Expr}{fa fb:TV}{fs:Gi}{f:TB}{pos p:Pos}{ρ:En}
theorem al(i:Nat)(hN:X.N.Nodup)(he:PV X rl e fa)(hi:X.N[i]?=some x:=by rfl)(hx:Loc X.env.scope x:=by first|exact Js rfl|exact IR rfl)
 (hs:Jr e (some (.Name x pos')) pos.line X.env=pure false:=by rfl)(hf:X.fn x=true\/X.env.scope.names.lookup x=some .local:=by first|exact .inl rfl|exact .inr rfl) :
 GF X rl (.Assign [.Name x pos'] e pos) (qH i fa):=by
 obtain⟨t,p,k⟩:=he
 refine⟨_,gC hN hi hx p hs hf,fun R Dv D ok q=>k R _ _ q fun v w F1 H1 g1 r1 n1 ⟨d,ed,q1⟩=>?_⟩
 obtain⟨F2,g2,s2,r2⟩:=di.fz g1 r1 n1
 rw[ed]at r2
 exact ok.nx _ _ _ _ g2.fs (R.set g2 r2 trivial (fun xs z=>by cases z) i) q1
theorem s_setZ(i:Nat):mS (qH i fa) ρ=FV (fa ρ) fun w=>aO (asD w.fz) fun d=>ret (.nx (ρ.set i (some (.d d)))):=by
 show(FV (fa ρ) fun w=>fun(Q:Fl->Prop)=>∃d,w.fz = .d d/\Q (.nx (ρ.set i (some (.d d)))))=_
 congr 1;funext w
 refine ah fun Q=>?_
 simp only[aq,gX,ret]
end
section
variable{X:Cx}{rl:RlT}{elt tg iter:Expr}{ifs:List Expr}{scope:Scope}{pos:Pos}{fi:En->(List Hh->Prop)->Prop}{g:Go}{ft:TB}{fe:TV}
theorem cn(i:Nat){b:Bool}(hN:X.N.Nodup)(N':List Str)(fr:List (Option Nat))(hc:X.calm=true)(hi:GJ X rl tg iter fi)
 (hg:∀y,GM (blk X N' scope y) rl tg g)(ht:∀y,kD (blk X N' scope y) rl ifs ft)(he:∀y,PV (blk X N' scope y) rl elt fe)
 (hsw:Jr (.ListComp elt [⟨tg,iter,ifs,0⟩] scope pos) (some (.Name x px)) spos.line X.env=pure b:=by rfl)
 (hix:X.N[i]?=some x:=by rfl)(hx:Loc X.env.scope x:=by first|exact Js rfl|exact IR rfl)(hf:X.fn x=true\/X.env.scope.names.lookup x=some .local:=by first|exact .inl rfl|exact .inr rfl)
 (hfr:lg fr N' X.N scope X.env.scope=true:=by rfl)(hsc:lK scope X.env.scope=true:=by rfl)
 (hs:∀x,H0 iter X.env x=pure x:=by intro _;rfl):GF X rl (.Assign [.Name x px] (.ListComp elt [⟨tg,iter,ifs,0⟩] scope pos) spos) (qH i (ii fi fr g ft fe)):=by
 obtain⟨wi,p0,k0⟩:=hi
 refine⟨_,iB N' fr hc p0 hfr hsc (fun y=>(Ho (hg y)).1) (fun y=>(Ho (ht y)).1) (fun y=>(Ho (he y)).1) hN hix hx hf hsw hs,fun R Dv D ok q=>lV fr k0 hg ht he R _ _ q fun v w F1 H1 g1 r1 n1 ⟨d,ed,q1⟩=>?_⟩
 obtain⟨F2,g2,s2,r2⟩:=di.fz g1 r1 n1
 rw[ed]at r2
 exact ok.nx _ _ _ _ g2.fs (R.set g2 r2 trivial (fun xs z=>by cases z) i) q1
end
noncomputable def xt(xs:List Int):Hh:=.tuple (xs.map .int)
noncomputable def wC(xs:List Int):Hh:=.list (xs.map .int)
theorem d9:∀{xs ys:List Int},xs.map HB=ys.map HB↔xs=ys:=by
 intro xs ys
 constructor
 · intro h
   have:=congrArg jj h
   rw[intsD_map,intsD_map]at this
   exact IJ this
 · rintro rfl;rfl
theorem lG{xs ys:List Int}:xt xs=xt ys↔xs=ys:=by
 unfold xt
 rw[Je,d9]
theorem rG{xs ys:List Int}:wC xs=wC ys↔xs=ys:=by
 unfold wC
 rw[Ld,d9]
theorem b4{α:Type}{f:α->Hh}(h:∀a b,f a=f b↔a=b):∀{xs ys:List α},xs.map f=ys.map f↔xs=ys
 | [],[]=>by simp
 | [],_::_=>by simp
 | _::_,[]=>by simp
 | x::xs,y::ys=>by simp[h,b4 h (xs:=xs) (ys:=ys)]
noncomputable def Ao(xs:List (List Int)):Hh:=.tuple (xs.map xt)
theorem qL{xs ys:List (List Int)}:Ao xs=Ao ys↔xs=ys:=by
 unfold Ao
 rw[Je,b4 fun _ _=>lG]
theorem zB{xs:List α}{i:Int}(h0:0<=i)(h1:i<(xs.length:Int)):atI xs i=some (xs[i.toNat]'(by omega)):=by
 obtain⟨n,rfl⟩:=JT h0
 exact cP (HP (by omega))
section
variable{α σ:Type}{fl:List Nat}{b:Hh->En->Mo Fl}{k:En->Mo Fl}{Q:Fl->Prop}{ρ:En}
theorem iQ{f:TB}{t:Gj}(st:σ->En)(c:σ->Bool)(nxt:σ->σ)(μ:σ->Nat)(I:σ->Prop)(s:σ)(h0:ρ=st s)(hs:I s)
 (hf:∀s,I s->f (st s)=ret (c s))(ht:∀s,I s->c s=true->I (nxt s)/\μ (nxt s)<μ s/\∃ρ',mS t (st s)=ret (.nx ρ')/\fo fl ρ'=st (nxt s))(fin:∀s,I s->c s=false->k (st s) Q):sq (hZ fl f t ρ) k Q:=by
 subst h0
 obtain⟨s',a,b,e⟩:=nB st c nxt μ I hf ht s hs
 rw[e]
 exact fin s' a b
noncomputable def Fm(fl:List Nat)(J:En->Prop)(k:En->Mo Fl)(Q:Fl->Prop):Fl->Prop
 | .nx ρ=>J (fo fl ρ)
 | .ct ρ=>J (fo fl ρ)
 | .bk ρ=>k (fo fl ρ) Q
 | .rt w=>Q (.rt w)
theorem bK{J:En->Prop}{ρ:En}(h:J (fo fl ρ)):Fm fl J k Q (.nx ρ):=h
theorem cy{xs:List α}{enc:α->Hh}(J:Nat->En->Prop)(hx:xs'=xs.map enc)(h0:J 0 ρ)
 (step:∀i (h:i<xs.length) ρ,J i ρ->∀K:Fl->Prop,(∀r,Fm fl (J (i+1)) k Q r->K r)->b (enc xs[i]) ρ K)(fin:∀ρ,J xs.length ρ->k ρ Q):sq (fW fl b xs' ρ) k Q:=by
 subst hx
 refine pz (Q:=fun r=>(match r with | .nx ρ=>k ρ | .rt w=>ret (.rt w) | .bk ρ=>ret (.bk ρ) | .ct ρ=>ret (.ct ρ):Mo Fl) Q) J h0 (fun i hi ρ j K hK=>step i hi ρ j K fun r hr=>hK r ?_) fin
 cases r<;>exact hr
theorem jg{lo:Int}(J:Nat->En->Prop)(h0:J 0 ρ)
 (step:∀i,i<n->∀ρ,J i ρ->∀K:Fl->Prop,(∀r,Fm fl (J (i+1)) k Q r->K r)->b (.int (lo+i)) ρ K)(fin:∀ρ,J n ρ->k ρ Q):sq (fW fl b (be lo n) ρ) k Q:=by
 refine rH (Q:=fun r=>(match r with | .nx ρ=>k ρ | .rt w=>ret (.rt w) | .bk ρ=>ret (.bk ρ) | .ct ρ=>ret (.ct ρ):Mo Fl) Q) J h0 (fun i hi ρ j K hK=>step i hi ρ j K fun r hr=>hK r ?_) fin
 cases r<;>exact hr
theorem li{xs:List α}{enc:α->Hh}(hx:xs'=xs.map enc)(step:∀x∈xs,∀K:Fl->Prop,(∀r,Fm fl (fun ρ'=>ρ'=ρ) k Q r->K r)->b (enc x) ρ K)(fin:k ρ Q):sq (fW fl b xs' ρ) k Q :=
 cy (fun _ ρ'=>ρ'=ρ) hx rfl (fun i h ρ' e K hK=>by subst e;exact step _ (Iv h) K hK) fun ρ' e=>by subst e;exact fin
theorem mo{lo:Int}(step:∀i,i<n->∀K:Fl->Prop,(∀r,Fm fl (fun ρ'=>ρ'=ρ) k Q r->K r)->b (.int (lo+i)) ρ K)(fin:k ρ Q):sq (fW fl b (be lo n) ρ) k Q :=
 jg (fun _ ρ'=>ρ'=ρ) rfl (fun i h ρ' e K hK=>by subst e;exact step i h K hK) fun ρ' e=>by subst e;exact fin
end
theorem CN{m:Mo Fl}{Q:Fl->Prop}(h:sq m (fun ρ=>ret (.nx ρ)) Q):m Q:=by
 have e:(fun fl:Fl=>(match fl with | .nx ρ=>ret (.nx ρ) | .rt w=>ret (.rt w) | .bk ρ=>ret (.bk ρ) | .ct ρ=>ret (.ct ρ):Mo Fl) Q)=Q:=by
  funext fl;cases fl<;>rfl
 have h:m (fun fl:Fl=>(match fl with | .nx ρ=>ret (.nx ρ) | .rt w=>ret (.rt w) | .bk ρ=>ret (.bk ρ) | .ct ρ=>ret (.ct ρ):Mo Fl) Q):=h
 rw[e]at h
 exact h
section
variable{α β:Type}{b:Hh->Mo (Option Hh)}{k:List Hh->Mo β}{Q:β->Prop}
theorem fN{xs:List α}{enc:α->Hh}(f:α->Option Hh)(hx:xs'=xs.map enc)(h:∀x∈xs,b (enc x)=ret (f x))(hl:xs.length<=sizeLine)(fin:k (xs.filterMap f) Q):FV (cw b xs' []) k Q:=by
 subst hx;rw[lm f h hl];exact fin
theorem bH{xs:List α}{enc:α->Hh}(f:α->Hh)(hx:xs'=xs.map enc)(h:∀x∈xs,b (enc x)=ret (some (f x)))(hl:xs.length<=sizeLine)(fin:k (xs.map f) Q):FV (cw b xs' []) k Q:=by
 subst hx;rw[comp_map f h hl];exact fin
theorem mB{lo:Int}(f:Nat->Hh)(h:∀j,j<n->b (.int (lo+j))=ret (some (f j)))(hl:n<=sizeLine)(fin:k ((Ip n).map f) Q):FV (cw b (be lo n) []) k Q:=by
 rw[p7 f h hl];exact fin
theorem wm{lo:Int}(f:Nat->Option Hh)(h:∀j,j<n->b (.int (lo+j))=ret (f j))(hl:n<=sizeLine)(fin:k ((Ip n).filterMap f) Q):FV (cw b (be lo n) []) k Q:=by
 rw[sA f h hl];exact fin
end
section
variable{α β:Type}
theorem pj{i:Int}{k:Hh->Mo β}{Q:β->Prop}(h0:0<=i)(h1:i<(xs.length:Int))(h:∀z∈xs,k z Q):aO (atI xs i) k Q:=by
 obtain⟨z,e,m⟩:=sG h0 h1
 rw[e]
 exact h z m
theorem cD{xs:List α}{enc:α->Hh}{i:Int}{k:Hh->Mo β}{Q:β->Prop}(P:α->Prop)(hx:xs'=xs.map enc)(h0:0<=i)(h1:i<(xs.length:Int))(hP:∀z∈xs,P z)(h:∀z,P z->k (enc z) Q):aO (atI xs' i) k Q:=by
 subst hx
 refine pj h0 (by simpa using h1) fun z mz=>?_
 obtain⟨x,hx,rfl⟩:=IA.mp mz
 exact h x (hP x hx)
end
section
variable{X:Cx}{rl:RlT}{a b c o e:Expr}{es:List Expr}{fa fb:TV}{fs:Gi}{pos p apos cpos:Pos}{ρ:En}
noncomputable def Gf(X:Cx)(rl:RlT)(r:V->List V->Hp->VK->Prop)(g:List Hh->List W->(W->Prop)->Prop):Prop :=
 ∀ {F H:Hp}{v:V}{args:List V}{xs:List Hh}{ws:List W}(Qd:W->Prop)(Q:VK),bL F H->Gz rl F H->Rep X.K H v (.list xs)->fu X.K rl F H args ws->g xs ws Qd ->
   (∀v w F' H',Grow rl F H F' H'->di X.K rl F' H' v w->dj H v w->Qd w->Q v H')->r v args H Q
noncomputable def D6(g:List Hh->List W->(W->Prop)->Prop)(fa:TV)(fs:Gi):TV:=fun ρ Q=>fa ρ fun x=>∃xs,x.dat=some (.list xs)/\fs ρ fun ws=>g xs ws Q
theorem C1{nm:Str}{id:String}{r:V->List V->Hp->VK->Prop}{g:List Hh->List W->(W->Prop)->Prop}(slot:Slot "list" nm id)(hty:typeOf (.builtin id)=pure (.type "method_descriptor"))(hm:GR X id r)(vm:Gf X rl r g)(ho:PV X rl o fa)(ha:GB X rl (e::es) fs)
 (hbase:JR o nm X.env (eval o X.env)=eval o X.env:=by rfl)
 (hfew:((I0 cpos (Hw (e::es) X.env)).all (fun x=>!x.1)&&(Lx cpos (Kp [] X.env)).all (fun x=>x.1.isSome)
  && decide ((e::es).length+([]:List KC).length+(if([]:List KC).isEmpty then 0 else 1)<30))=true:=by rfl)
 (hline:(apos.endLine==cpos.line)=true:=by rfl)(hs:Hw (e::es) X.env=(false,eval e X.env)::Hw es X.env:=by rfl)(hplain:(I0 cpos (Hw es X.env)).any (·.1)=false:=by rfl) :
 PV X rl (.Call (.Attribute o nm apos) (e::es) [] cpos) (D6 g fa fs):=by
 obtain⟨to,po,ko⟩:=ho
 obtain⟨t,p1,k⟩:=ha
 refine⟨_,vb Kr slot hty hm po p1 hbase hfew hline hs hplain,fun{F₀ H₀ F H σ ρ} R Qd Q q h=>ko R _ _ q fun v w F1 H1 g1 r1 n1 ⟨xs,ed,q1⟩=>?_⟩
 obtain⟨a,vs,rfl,sq,rs⟩:=r1.items g1.sub ed
 refine⟨.inl ⟨rfl,vs,sq⟩,k (R.grow g1) _ _ q1 fun args ws F2 H2 g2 r2 q2=>?_⟩
 have rd:Rep X.K H2 (.ref a) (.list xs):=(r1.grow g2).dat g2.sub ed
 exact vm Qd Q g2.sub g2.reel rd r2 q2 fun v3 w3 F3 H3 g3 r3 n3 q3=>h v3 w3 F3 H3 ((g1.trans g2).trans g3) r3 ((n3.back g2).back g1) q3
theorem m_vML(g:List Hh->List W->(W->Prop)->Prop):D6 g fa fs ρ=FV (fa ρ) fun x=>aO (Ga x) fun xs=>FV (fs ρ) fun ws=>g xs ws:=by
 show(FV (fa ρ) fun x=>fun(Q:W->Prop)=>∃xs,x.dat=some (.list xs)/\fs ρ fun ws=>g xs ws Q)=_
 congr 1;funext x
 refine ah fun Q=>?_
 rw[aq]
 simp only[mJ]
 exact Ls
end
end L2.VL
namespace L2
section
variable{X:Cx}{pos:Pos}
end
end L2
namespace L2.VL
section
variable{X:Cx}{rl:RlT}{es:List Expr}{pos:Pos}{ρ:En}
end
noncomputable def Bw:=Hj @bnd_tt (Hj @bnd_ret (Hj @bnd_bnd (Hj @bnd_grd (Hj @bnd_stk (Hj @bnd_ite (Hj @bnd_opt (Hj @opt_some (Hj @opt_none (Hj @grd_T (Hj @sq_nx (Hj @sq_rt (Hj @sq_bk (Hj @sq_ct (Hj @sq_grd (Hj @sq_stk (Hj @sq_ite (Hj @sq_sq (@kc_ap))))))))))))))))))
noncomputable def BA:=Hj @ite_nx (Hj @ite_rt (Hj @ite_retd (Hj @ite_retb (Hj @ite_rets (Hj @ite_cons (Hj @ite_some (Hj @ite_d (Hj @ite_pi (Hj @ite_pb (Hj @itb_tt (Hj @itb_ff (Hj @itb_ft (Hj @itb_tf (@ite_self.{1}))))))))))))))
noncomputable def BD:=Hj @m_vC (Hj @m_vVar (Hj @m_vNil (Hj @m_vCons (Hj @m_vOp (Hj @m_gI (Hj @m_gI0 (Hj @m_vNeg (Hj @m_vTest (Hj @m_gEqD (Hj @m_gInD (Hj @m_vAnd (Hj @m_vOr (Hj @m_vNot (Hj @m_vAndV (Hj @m_vOrV (Hj @m_vNotV (Hj @m_vIf (Hj @m_vTup (Hj @m_vLst (Hj @m_gIx (Hj @m_vCall (Hj @m_gAbs (@m_gLen)))))))))))))))))))))))
noncomputable def BC:=Hj @m_gRepr (Hj @m_gIsi (Hj @m_gTupO (Hj @m_gLstO (Hj @m_gI2 (Hj @m_gInt1 (Hj @m_oNo (Hj @m_oIt (Hj @m_vSlL (Hj @m_vSlA (Hj @m_gCatD (Hj @m_gCatA (Hj @m_vChain (Hj @m_vLR1 (Hj @m_iL (Hj @m_iT (@m_iR1))))))))))))))))
noncomputable def BB:=Hj @m_vUse (Hj @m_vUseL (Hj @m_gAll (Hj @m_gRepL (Hj @m_gEqS (Hj @m_comp (Hj @m_vSlS (@m_vML)))))))
noncomputable def Bs:=Hj @s_next (Hj @s_seq (Hj @s_ret (Hj @s_ifS (Hj @s_set (Hj @s_setZ (Hj @s_never (Hj @s_asg (Hj @s_par (Hj @s_aug (Hj @s_frz (Hj @s_mut (Hj @s_for (Hj @bdy_ap (Hj @s_while (Hj @s_newR (Hj @m_hName (@m_hNil_n)))))))))))))))))
noncomputable def Br:=Hj @m_hCons_c (Hj @m_hTup (Hj @m_gApp (@m_gExt)))
noncomputable def Bv:=Hj @pk_sc (Hj @fz_sc (Hj @arg_sc (Hj @isPk_sc (Hj @asI_d (Hj @asB_d (Hj @asS_d (Hj @asD_d (Hj @asT_d (Hj @asL_d (Hj @asL_ml (Hj @asL_pk (Hj @asQ_d (Hj @asQ_ml (Hj @asQ_pk (Hj @lstD_l (Hj @tupD_t (Hj @toI_i (Hj @toI_b (Hj @isiT_t (Hj @asM_ml (Hj @asSc_s (Hj @two_d (@fz_d)))))))))))))))))))))))
noncomputable def Bu:=Hj @fz_ml (Hj @fz_pk (Hj @fz_reel (Hj @fz_vv (Hj @pk_d (Hj @pk_ml (Hj @pk_reel (Hj @pk_vv (Hj @dat_d (Hj @dat_ml (Hj @dat_pk (Hj @isPk_d (Hj @isPk_ml (Hj @isPk_reel (Hj @dats_nil (Hj @dats_d (Hj @arg_d (Hj @arg_reel (Hj @item_l (Hj @item_t (Hj @len_l (Hj @len_t (Hj @seq_l (@seq_t)))))))))))))))))))))))
noncomputable def Bt:=Hj @at0 (Hj @at1 (Hj @blsD_map (Hj @tup2 (Hj @fo_nil (Hj @fo_cons (Hj @nR_nil (Hj @nR_r (Hj @nR_n (Hj @nR_d (Hj @nR_ml (Hj @nR_sc (Hj @le_nil (Hj @le_cn (Hj @le_cs (Hj @end_d (Hj @end_ml (Hj @end_nx (@un_law))))))))))))))))))
noncomputable def By:=Hj @IF.{0,0} (Hj @LU.{0,0} (Hj @HV.{0} (Hj @LF.{0} (Hj @List.getElem?_cons_zero.{0} (Hj @List.getElem?_cons_succ.{0} (Hj @List.set_cons_zero.{0} (Hj @List.set_cons_succ.{0} (Hj @List.set_nil.{0} (Hj @Lq.{0} (Hj @List.nil_append.{0} (Hj @List.all_cons.{0} (Hj @List.all_nil.{0} (Hj @List.head?_cons.{0} (Hj @Bool.and_true (Hj @Option.some.injEq.{0} (Hj @Option.map_some.{0,0} (Hj @Option.bind_some.{0,0} (Hj @Option.bind_none.{0,0} (Hj @Option.join_some.{0} (Hj @Option.join_none.{0} (Hj @IT (Hj @and_self (@and_true)))))))))))))))))))))))
noncomputable def Bx:=Hj @true_and (Hj @shaped_i (Hj @eqv_ii (Hj @shaped_b (Hj @Bool.true_and (Hj @Bool.and_self (Hj @KJ (Hj @Kx (Hj @Hu.{0,0} (Hj @Ji (Hj @Bool.true_eq_false (Hj @decide_true (Hj @decide_false (Hj @List.isEmpty_cons.{0} (Hj @List.isEmpty_nil.{0} (@List.isEmpty_map.{0,0})))))))))))))))
noncomputable def kC:GU:=IC "cells"
noncomputable def kA:GU:=IC "at"
noncomputable def kL:GU:=IC "left"
noncomputable def kT:GU:=IC "turn"
theorem A9:¬kC=kA:=by decide +kernel
theorem A8:¬kC=kL:=by decide +kernel
theorem A7:¬kC=kT:=by decide +kernel
theorem zM:¬kA=kL:=by decide +kernel
theorem zL:¬kA=kT:=by decide +kernel
theorem zK:¬kL=kT:=by decide +kernel
noncomputable def bJ(c:Addr)(a l t:Int):List (GU×V):=[(kC,.ref c),(kA,.int a),(kL,.int l),(kT,.int t)]
theorem cb{p:GU×V}{r:List (GU×V)}{k:GU}(e:¬p.1=k):fR (p::r) k=fR r k:=by
 unfold fR
 rw[I_]
 simp[e]
theorem xY(c:Addr)(a l t:Int):fR (bJ c a l t) kC=some (.ref c):=cV rfl
theorem xZ(c:Addr)(a l t:Int):fR (bJ c a l t) kA=some (.int a):=by unfold bJ;rw[cb A9];exact cV rfl
theorem xX(c:Addr)(a l t:Int):fR (bJ c a l t) kL=some (.int l):=by unfold bJ;rw[cb A8,cb zM];exact cV rfl
theorem xW(c:Addr)(a l t:Int):fR (bJ c a l t) kT=some (.int t):=by unfold bJ;rw[cb A7,cb zL,cb zK];exact cV rfl
theorem ne'{a b:GU}(h:¬a=b):¬b=a:=fun e=>h e.symm
theorem AL(c:Addr)(a l t n:Int):dC (bJ c a l t) kA (.int n)=bJ c n l t:=by
 unfold dC bJ
 rw[if_pos (by simp)]
 simp[A9,ne' zM,ne' zL]
theorem AK(c:Addr)(a l t n:Int):dC (bJ c a l t) kL (.int n)=bJ c a n t:=by
 unfold dC bJ
 rw[if_pos (by simp)]
 simp[A8,zM,ne' zK]
theorem AJ(c:Addr)(a l t n:Int):dC (bJ c a l t) kT (.int n)=bJ c a l n:=by
 unfold dC bJ
 rw[if_pos (by simp)]
 simp[A7,zL,zK]
theorem ReelOk.kv{c:Nat×List Int}{r:Addr}(h:ReelOk c F H r):∃(a l t:Int),H r=some (.dK (bJ c.1 a l t))/\F c.1=some (.lst (c.2.map V.int))/\c.2.length<=63/\0<=a/\0<=l/\0<=t:=by
 obtain⟨o,e,a,l,t,rfl,q⟩:=h.ex
 exact⟨a,l,t,e,q⟩
theorem Gz.put{K:W.Frag}{r:Addr}{a l t:Int}(R:VR K rl F₀ H₀ F H σ ρ)(e:rl.a=some r)(h:F rl.b.1=some (.lst (rl.b.2.map V.int))/\rl.b.2.length<=63/\0<=a/\0<=l/\0<=t) :
 VR K rl F₀ H₀ F (D8 H r (.dK (bJ rl.b.1 a l t))) σ ρ:=by
 have fr:F r=none:=(R.reel r e).1
 have neF:∀b u,F b=some u->b≠r:=fun b u q z=>by subst z;rw[fr]at q;cases q
 have g:Grow rl F H F (D8 H r (.dK (bJ rl.b.1 a l t))):=by
  refine⟨fun b o q n=>by rw[am (fun z=>n (by rw[z];exact e))];exact q,.refl F,fun b o q=>by rw[am (neF b o q)];exact R.sub b o q,fun _ _ _=>rfl,fun y z=>?_⟩
  have:y=r:=IJ (z.symm.trans e)
  subst this
  exact⟨fr,⟨_,au,a,l,t,rfl,h⟩⟩
 exact R.grow g
section
variable{X:Cx}{rl:RlT}{e:Expr}{fa:TV}{pos p p1 p2:Pos}
noncomputable def D2(i:Nat):TV:=fun ρ Q=>ρ[i]?=some (some .reel)/\∀n:Int,0<=n->Q (.d (.int n))
noncomputable def D3(cs:List Int)(i:Nat):TV:=fun ρ Q=>ρ[i]?=some (some .reel)/\(cs.length<=63->Q (.d (.list (cs.map .int))))
theorem gw{K:W.Frag}{F:Hp}:∀ns:List Int,Reps K F (ns.map V.int) (ns.map HB)
 | []=>.nil
 | n::ns=>.cons (.int n) (gw ns)
theorem gr{k:Str}{j}(hr:Room 0 X.A)(hk:(IC k:GU)=kA\/(IC k:GU)=kL\/(IC k:GU)=kT)(hN:X.N[i]?=some x:=by rfl)(hv:Gc X.env.scope x:=by first|exact Js rfl|exact IR (Js rfl)|exact IR (IR rfl))
 (hd:(x==("__debug__" : Str))=false:=by decide)(hcd:(x==("__classdict__" : Str))=false:=by decide)(hs:wI (.Constant (.str k) j p2):=by exact fun _ _=>rfl):PV X rl (.Subscript (.Name x p1) (.Constant (.str k) j p2) pos) (D2 i):=by
 refine⟨_,ja (rN hr) (cQ hN hv hd hcd) dw hs,fun{F₀ H₀ F H σ ρ} R Qd Q ⟨e1,q⟩ h=>?_⟩
 obtain⟨v,s1,⟨r,er,ev⟩,_⟩:=R.sl i _ e1
 subst ev
 obtain⟨_,ok⟩:=R.reel r er
 obtain⟨a,l,t,hH,_,_,b1,b2,b3⟩:=ok.kv
 have go:∀n:Int,0<=n->fR (bJ rl.b.1 a l t) (IC k)=some (.int n)->xy (Cv i) (tC (.str k)) σ H Q:=fun n hn e=>by
  refine⟨.ref r,s1,r,.int n,rfl,?_,h _ (.d _) F H (Grow.refl R.sub R.reel) (.int n) trivial (q n hn)⟩
  have g:=z9.k (k:=(IC k:GU)) hH
  rw[e]at g
  exact g
 rcases hk with hk|hk|hk
 · exact go a b1 (by rw[hk];exact xZ rl.b.1 a l t)
 · exact go l b2 (by rw[hk];exact xX rl.b.1 a l t)
 · exact go t b3 (by rw[hk];exact xW rl.b.1 a l t)
theorem fZ{j}(hr:Room 0 X.A)(hN:X.N[i]?=some x:=by rfl)(hv:Gc X.env.scope x:=by first|exact Js rfl|exact IR (Js rfl)|exact IR (IR rfl))
 (hd:(x==("__debug__" : Str))=false:=by decide)(hcd:(x==("__classdict__" : Str))=false:=by decide)(hs:wI (.Constant (.str "cells") j p2):=by exact fun _ _=>rfl):PV X rl (.Subscript (.Name x p1) (.Constant (.str "cells") j p2) pos) (D3 rl.b.2 i):=by
 refine⟨_,ja (rN hr) (cQ hN hv hd hcd) dw hs,fun{F₀ H₀ F H σ ρ} R Qd Q ⟨e1,q⟩ h=>?_⟩
 obtain⟨v,s1,⟨r,er,ev⟩,_⟩:=R.sl i _ e1
 subst ev
 obtain⟨_,ok⟩:=R.reel r er
 obtain⟨a,l,t,hH,hc,hl,_⟩:=ok.kv
 refine⟨.ref r,s1,r,.ref rl.b.1,rfl,?_,h _ (.d _) F H (Grow.refl R.sub R.reel) (Rep.lst hc (gw _)) trivial (q hl)⟩
 have g:=z9.k (k:=kC) hH
 rw[xY]at g
 exact g
noncomputable def xj(i:Nat)(fa:TV):Gj:=fun D ρ=>fa ρ fun w=>∃n,w = .d (.int n)/\0<=n/\ρ[i]?=some (some .reel)/\D.nx ρ
theorem iR{k:Str}{j}(hr:Room 0 X.A)(hk:(IC k:GU)=kA\/(IC k:GU)=kL\/(IC k:GU)=kT)(ha:PV X rl e fa)(hN:X.N[i]?=some x:=by rfl)(hv:Gc X.env.scope x:=by first|exact Js rfl|exact IR (Js rfl)|exact IR (IR rfl))
 (hd:(x==("__debug__" : Str))=false:=by decide)(hcd:(x==("__classdict__" : Str))=false:=by decide)(hsw:Jr e (some (.Subscript (.Name x p1) (.Constant (.str k) j p2) pos')) pos.line X.env=pure false:=by rfl) :
 GF X rl (.Assign [.Subscript (.Name x p1) (.Constant (.str k) j p2) pos'] e pos) (xj i fa):=by
 obtain⟨t,p3,kk⟩:=ha
 refine⟨_,uT (rN hr) (cQ hN hv hd hcd) dw p3 hsw,fun{F₀ H₀ F H σ ρ} R Dv D ok q=>kk R _ _ q fun v w F1 H1 g1 r1 n1 ⟨n,ew,hn,e1,q1⟩=>?_⟩
 subst ew
 have ev:=aQ r1
 subst ev
 have R1:=R.grow g1
 obtain⟨v,s1,⟨r,er,ev⟩,_⟩:=R1.sl i _ e1
 subst ev
 obtain⟨_,okr⟩:=R1.reel r er
 obtain⟨a,l,t,hH,hc,hl,b1,b2,b3⟩:=okr.kv
 refine⟨.ref r,s1,r,_,rfl,Bq.k (k:=(IC k:GU)) hH (oi (by show 4<=1000;decide)),?_⟩
 have go:∀a' l' t':Int,0<=a'->0<=l'->0<=t'->dC (bJ rl.b.1 a l t) (IC k) (.int n)=bJ rl.b.1 a' l' t'->D.nx σ (D8 H1 r (.dK (dC (bJ rl.b.1 a l t) (IC k) (.int n)))):=fun a' l' t' x1 x2 x3 e=>by
  rw[e]
  exact ok.nx _ _ _ _ g1.fs (Gz.put R1 er ⟨hc,hl,x1,x2,x3⟩) q1
 rcases hk with hk|hk|hk
 · exact go n l t hn b2 b3 (by rw[hk];exact AL rl.b.1 a l t n)
 · exact go a n t b1 hn b3 (by rw[hk];exact AK rl.b.1 a l t n)
 · exact go a l n b1 b2 hn (by rw[hk];exact AJ rl.b.1 a l t n)
end
theorem ng(c:Addr):eM [] [(kC,V.ref c),(kA,.int 0),(kL,.int 0),(kT,.int 0)]=bJ c 0 0 0:=by
 unfold eM bJ
 simp only[Kg,List.foldl_nil]
 have p0:dC ([]:List (GU×V)) kC (V.ref c)=[(kC,V.ref c)]:=rfl
 rw[p0]
 unfold dC
 simp[A9,A8,A7,zM,zL,zK]
section
variable{X:Cx}{rl:RlT}{e:Expr}{fa:TV}{pos p p1 p2:Pos}{ρ:En}
noncomputable def F0:W->Option Unit
 | .reel=>some ()
 | _=>none
theorem cC:F0 .reel=some ():=rfl
theorem Cy:(((ρ[i]?).join).bind F0=some ())↔ρ[i]?=some (some .reel):=by
 constructor
 · intro h
   cases q:ρ[i]? with
   | none=>rw[q]at h;cases h
   | some o=>rw[q]at h;cases o with
     | none=>cases h
     | some w=>cases w<;>first|rfl|cases h
 · intro h;rw[h];rfl
theorem xL{k:Unit->Mo β}{Q:β->Prop}:aO (((ρ[i]?).join).bind F0) k Q↔ρ[i]?=some (some .reel)/\k () Q:=by
 rw[aq]
 exact⟨fun⟨u,a,q⟩=>⟨Cy.mp a,q⟩,fun⟨a,q⟩=>⟨(),Cy.mpr a,q⟩⟩
theorem cA(i:Nat):D2 i ρ=aO (((ρ[i]?).join).bind F0) fun _=>FV (anyM fun n:Int=>0<=n) fun n=>ret (.d (.int n)):=ah fun Q=>(Iff.intro (fun⟨a,q⟩=>xL.mpr ⟨a,fun n h=>q n h⟩) fun h=>⟨(xL.mp h).1,fun n hn=>(xL.mp h).2 n hn⟩)
theorem cB(cs:List Int)(i:Nat):D3 cs i ρ=aO (((ρ[i]?).join).bind F0) fun _=>FV (anyM fun _:Unit=>cs.length<=63) fun _=>ret (.d (wC cs)):=ah fun Q=>(Iff.intro (fun⟨a,q⟩=>xL.mpr ⟨a,fun _ h=>q h⟩) fun h=>⟨(xL.mp h).1,fun hn=>(xL.mp h).2 () hn⟩)
theorem bQ(i:Nat):mS (xj i fa) ρ=FV (fa ρ) fun w=>aO (asI w) fun n=>FJ (0<=n) (aO (((ρ[i]?).join).bind F0) fun _=>ret (.nx ρ)):=by
 show(FV (fa ρ) fun w=>fun(Q:Fl->Prop)=>∃n,w = .d (.int n)/\0<=n/\ρ[i]?=some (some .reel)/\Q (.nx ρ))=_
 congr 1;funext w
 refine ah fun Q=>?_
 simp only[aq (o:=asI w),dg,FJ,xL,ret]
end
theorem bR(xs:List Int):kB (wC xs)=some xs.length:=by show some (xs.map HB).length=_;rw[Hu]
theorem aW(xs:List Int)(i:Int):itemAt (wC xs) i=(atI xs i).map .int:=cr _ _ _
section
variable{X:Cx}{rl:RlT}{e:Expr}{fa:TV}{pos dpos q1 q2 q3 q4:Pos}{ρ:En}{j1 j2 j3 j4:Nat}{a b x y:Str}
end
end L2.VL
namespace L2
theorem nq{prog:Ij}{w:IV}{R:NC->Hv->Prop}{kx vx target:Expr}{it:Hq}{D:Addr}{env:Env}(I:Nat->Hv->Prop)
 (turn:∀n s,I n s->Ia (Il prog w) A (Mw it) (fun r s₁=>(r=none/\R (.ok .next) s₁)\/∃v,r=some v /\
  Ia (Il prog w) A (JG target it v) (fun _ s₂=>Ia (Il prog w) A (KM target env v) (fun _ s₃=>Ia (Il prog w) A (dS ifs env) (fun ok s₄ =>
   if ok=true then Ia (Il prog w) A (eval kx env) (fun x s₅=>Ia (Il prog w) A (eval vx env) (fun y s₆=>Ia (Il prog w) A (dictSet D x y) (fun _ s₇=>∃m,m<n/\I m s₇) (fun _ _=>False) s₆) (fun _ _=>False) s₅) (fun _ _=>False) s₄
   else ∃m,m<n/\I m s₄) (fun _ _=>False) s₃) (fun _ _=>False) s₂) (fun _ _=>False) s₁) (fun _ _=>False) s)
 (n:Nat)(h:I n s):JW (Il prog w) A (.compLoop (.DictComp kx vx [⟨target,iter,ifs,0⟩] scope pos) 0 it (.ref D) env) R s:=by
 refine Mz rfl I (fun n s hI=>?_) n h
 show Ia _ A ((Nf (.DictComp kx vx [⟨target,iter,ifs,0⟩] scope pos) 0 it (.ref D) env).onRaise (fun x=>do Ng x env;LH x)) _ _ s
 refine M1 ?_
 rw[compTurn_dict]
 refine Hl (Jq (Hl (Is (turn n s hI) (fun r s₁ h₁=>?_) fun _ _ h'=>h'.elim)))
 rcases h₁ with⟨rfl,h₁⟩|⟨v,rfl,h₁⟩
 · exact HD h₁
 · refine Hl (Is h₁ (fun _ s₂ h₂=>Hl (Is h₂ (fun _ s₃ h₃=>Hl (Is h₃ (fun ok s₄ h₄=>?_) fun _ _ z=>z.elim)) fun _ _ z=>z.elim)) fun _ _ z=>z.elim)
   cases ok with
   | false=>exact HD ⟨rfl,h₄⟩
   | true=>exact Hl (Hl (Is h₄ (fun x s₅ h₅=>Hl (Kq (Is h₅ (fun y s₆ h₆=>Hl (Jq (Kq (Is h₆ (fun _ s₇ h₇=>HD ⟨rfl,h₇⟩) fun _ _ z=>z.elim)))) fun _ _ z=>z.elim))) fun _ _ z=>z.elim))
noncomputable def nZ(wi:TI)(fr:List (Option Nat))(g:CompA->TG)(tt:CompA->TT)(tk te:CompA->TE):TE:=fun σ H Q=>wi σ H fun J H1=>∀D,H1 D=none->∃Wv:Nat->Nat->List (GU×V)->St->Hp->Prop,(∃m,Wv 0 m [] (nA fr σ) (D8 H1 D (.dK []))) /\
 ∀ (z:CompA) i m acc σc H,Wv i m acc σc H->(J.stop i H/\Q (.ref D) H)\/(J.go i H/\∀x H',J.yld i H x H'->g z x σc H' fun σ2 H2=>tt z σ2 H2 fun b H3 =>
   if b=true then tk z σ2 H3 fun ky H4=>te z σ2 H4 fun y H5=>∃k:GU,ky=kV k/\H5 D=some (.dK acc)/\acc.length<sizeLine/\∃m',m'<m/\Wv (i+1) m' (dC acc k y) σ2 (D8 H5 D (.dK (dC acc k y)))else ∃m',m'<m/\Wv (i+1) m' acc σ2 H3)
theorem gT{kx vx:Expr}{g:TG}{tt:TT}{tk te:TE}{H3:Hp}{s3:Hv}{D:Addr}{J:It}{Q:VK}
 (N':List Str)(fr:List (Option Nat))(hc:X.calm=true)(hkind:scope.kind = .function)(hcell:∀y∈scope.names,y.2 = .cell->scope.names.lookup y.1=some .cell)
 (hfree:∀y∈scope.names,y.2 = .free->X.env.kindOf y.1=some .cell\/X.env.kindOf y.1=some .free)(frl:fr.length=N'.length)
 (frg:∀(i j:Nat),fr[i]?=some (some j)->∃x,N'[i]?=some x/\X.N[j]?=some x/\scope.names.lookup x=some .free/\(X.env.scope.names.lookup x=some .cell\/X.env.scope.names.lookup x=some .free))
 (cl1:∀x c,cl.lookup x=some c->X.env.cells.lookup x=some c)(cl2:∀x,(x,IN)∈scope.names->(cl.lookup x).isSome=true)
 (I3:Inv X pins σ H3 s3)(T:Turn X.prog X.w X.K tg J fp it tn)(tn3:tn 0 s3.heap)(fpD:∀b∈fp,H3 b=none)(fp3:∀b∈fp,b<s3.heap.objs.size)
 (fpk:∀b∈fp,b≠X.env.locals/\b∉X.fs/\(b∈X.ex\/X.s₀.heap.objs.size<=b)/\(∀x c,X.env.cells.lookup x=some c->c≠b)/\∀p∈X.pn++pins,p.1≠b)
 (hg:PG (bf X N' scope cl fp (X.pn++pins) s3 H3) tg g)(ht:GD (bf X N' scope cl fp (X.pn++pins) s3 H3) ifs tt)(hk:PE (bf X N' scope cl fp (X.pn++pins) s3 H3) kx tk)(he:PE (bf X N' scope cl fp (X.pn++pins) s3 H3) vx te)
 {Wv:Nat->Nat->List (GU×V)->St->Hp->Prop}{m0:Nat}(w0:Wv 0 m0 [] (nA fr σ) H3)
 (turn:∀i m acc σc H,Wv i m acc σc H->(J.stop i H/\Q (.ref D) H)\/(J.go i H/\∀x H',J.yld i H x H'->g x σc H' fun σ2 H2=>tt σ2 H2 fun b H3 =>
  if b=true then tk σ2 H3 fun ky H4=>te σ2 H4 fun y H5=>∃k:GU,ky=kV k/\H5 D=some (.dK acc)/\acc.length<sizeLine/\∃m',m'<m/\Wv (i+1) m' (dC acc k y) σ2 (D8 H5 D (.dK (dC acc k y)))else ∃m',m'<m/\Wv (i+1) m' acc σ2 H3))
 (fin:∀s5 H4 m,s5.heap.Ns s3.heap.objs.size m->(∀h',Kj s3.heap.objs.size s5.heap h'->Inv X pins σ H4 {s5 with heap:=h' })->kE X pins H4 s3.heap.objs.size->Q (.ref D) H4->Rp s3.heap.objs.size (.ok .next) s5) :
 Ia (Il X.prog X.w) X.A (Lj scope X.env.globals cl [] X.env.qual none .none (some X.env)) (fun cenv s₄ =>
  JW (Il X.prog X.w) X.A (.compStart (.DictComp kx vx [⟨tg,iter,ifs,0⟩] scope pos) 0 (.ref it) (.ref D) {cenv with scope:=NQ scope X.env})
   (Rp cenv.locals) s₄) X.xe s3:=by
 refine db N' fr hc hkind hcell hfree frl frg cl1 cl2 I3 T tn3 fpD fp3 fpk (fun s' IY tY stat=>?_) fin
 have loop:JW (Il X.prog X.w) X.A (.compLoop (.DictComp kx vx [⟨tg,iter,ifs,0⟩] scope pos) 0 (.ref it) (.ref D) (bf X N' scope cl fp (X.pn++pins) s3 H3).env)
  (fun r s5=>r = .ok .next/\∃σ5 H4,Inv (bf X N' scope cl fp (X.pn++pins) s3 H3) [] σ5 H4 s5/\Q (.ref D) H4) s':=by
  refine nq (fun n s'=>∃i acc σ' H',Inv (bf X N' scope cl fp (X.pn++pins) s3 H3) [] σ' H' s'/\tn i s'.heap/\(∀b∈fp,H' b=none)/\Wv i n acc σ' H') ?_ m0
   ⟨0,[],_,_,IY,tY,fpD,w0⟩
  rintro n s4 ⟨i,acc,σ4,H4,I4,st4,fr4,w4⟩
  rcases turn i n acc σ4 H4 w4 with⟨stop,qn⟩|⟨go,step⟩
  · exact Eg (T.done (bf X N' scope cl fp (X.pn++pins) s3 H3) rfl rfl rfl hc i [] s4 σ4 H4 (fun _ _=>False) I4 (stat fr4) st4 stop) fun r s5 ⟨hr,I5⟩=>.inl ⟨hr,rfl,σ4,H4,I5,qn⟩
  · refine Eg (T.item (bf X N' scope cl fp (X.pn++pins) s3 H3) rfl rfl rfl hc i [] s4 σ4 H4 (fun _ _=>False) I4 (stat fr4) st4 go) fun r s5 ⟨u,hr,h5⟩=>.inr ⟨u,hr,?_⟩
    refine Eg h5 fun _ s6 ⟨x,H6,I6,r6,y6,st6,fr6⟩=>?_
    have I6':=I6.pinned (stat fr6) (T.obj _ _ st6)
    have again:∀{σ7:St}{H7:Hp}{s7:Hv},Inv (bf X N' scope cl fp (X.pn++pins) s3 H3) ([]++fF fp s6.heap) σ7 H7 s7->∀{acc':List (GU×V)}{m':Nat},m'<n->Wv (i+1) m' acc' σ7 H7 ->
     ∃m,m<n/\∃i acc σ' H',Inv (bf X N' scope cl fp (X.pn++pins) s3 H3) [] σ' H' s7/\tn i s7.heap/\(∀b∈fp,H' b=none)/\Wv i m acc σ' H':=fun{σ7 H7 s7} I7 {acc' m'} hm w7=>by
     refine⟨m',hm,i+1,acc',σ7,H7,I7.unpinned,T.keep _ _ _ st6 fun b hb o e=>(I7.pin (b,o) (HK _ (HK _ (bN hb e)))).1,fun b hb=>?_,w7⟩
     obtain⟨o,e,d⟩:=T.obj _ _ st6 b hb
     exact(I7.pin (b,o) (HK _ (HK _ (bN hb e)))).2.1
    refine Eg (hg _ s6 σ4 H6 x u _ I6' r6 (step x H6 y6)) fun _ s7 ⟨σ7,H7,I7,q7⟩=>?_
    refine Eg (ht _ s7 σ7 H7 _ I7 q7) fun ok s8 ⟨H8,I8,q8⟩=>?_
    cases ok with
    | false =>
      rw[if_neg Ic]at q8 ⊢
      obtain⟨m',hm,w8⟩:=q8
      exact again I8 hm w8
    | true =>
      rw[if_pos rfl]at q8 ⊢
      refine Eg (hk _ s8 σ7 H8 _ I8 q8) fun ku s9 ⟨ky,H9,I9,rk,q9⟩=>?_
      refine Eg (he _ s9 σ7 H9 _ I9 q9) fun y s10 ⟨yv,H10,I10,r10,k,ek,eD,hl,m',hm,w10⟩=>?_
      subst ek
      obtain⟨z,hd,vs,rel,dd⟩:=wf I10.hok eD
      have hz:vs.length<=sizeLine:=by rw[<- rel.length];exact z
      have hl2:(dC acc k yv).length<=sizeLine:=by have:=c_ acc k yv;omega
      refine wpAny_dictSet_pairs (hsz:=hz) (pG rk) dd fun h' dd' hs=>?_
      have hex:∃q,h'.get? D=some q:=let ⟨q,_,_,hq,_⟩:=dd';⟨q,hq⟩
      exact again (jr I10 (by rw[eD];exact Kv) hs hex (dk_new hl2 hd (rel.put k r10) dd')) hm w10
 exact codeAny_compStart_dict loop (T.self X.A 0 _ _ _ tY loop)
section
variable{X:Cx}{kx vx tg iter:Expr}{ifs:List Expr}{scope:Scope}{pos:Pos}{wi:TI}{g:CompA->TG}{tt:CompA->TT}{tk te:CompA->TE}
theorem rh(N':List Str)(fr:List (Option Nat))(hc:X.calm=true)(hi:PI X tg iter wi)(hfr:lg fr N' X.N scope X.env.scope=true)(hsc:lK scope X.env.scope=true)
 (hg:∀y,PG (blk X N' scope y) tg (g y))(ht:∀y,GD (blk X N' scope y) ifs (tt y))(hk:∀y,PE (blk X N' scope y) kx (tk y))(he:∀y,PE (blk X N' scope y) vx (te y))
 (hs:∀x,H0 iter X.env x=pure x:=by intro _;rfl):PE X (.DictComp kx vx [⟨tg,iter,ifs,0⟩] scope pos) (nZ wi fr g tt tk te):=by
 intro pins s σ H Q I h
 obtain⟨sk,sn⟩:=Hz.mp hsc
 have hkind:scope.kind = .function:=of_decide_eq_true sk
 have hall:=Jy.mp sn
 have hcell:∀y∈scope.names,y.2 = .cell->scope.names.lookup y.1=some .cell:=fun y hy hl=>by
  rcases HW.mp (Hz.mp (Hz.mp (hall y hy)).1).1 with z|z
  · exact absurd hl (of_decide_eq_true z)
  · exact of_decide_eq_true z
 have hnames:∀y∈scope.names,y.2 = .local->scope.names.lookup y.1=some .local:=fun y hy hl=>by
  rcases HW.mp (Hz.mp (Hz.mp (hall y hy)).1).2 with z|z
  · exact absurd hl (of_decide_eq_true z)
  · exact of_decide_eq_true z
 have hfree:∀y∈scope.names,y.2 = .free->X.env.kindOf y.1=some .cell\/X.env.kindOf y.1=some .free:=fun y hy hl=>by
  rcases HW.mp (Hz.mp (hall y hy)).2 with z|z
  · exact absurd hl (of_decide_eq_true z)
  · exact(HW.mp z).imp of_decide_eq_true of_decide_eq_true
 obtain⟨frl,frg⟩:=lg.get hfr
 obtain⟨cl,hclos,cl1,cl2⟩:=cq (env:=X.env) (scope:=scope) fun y hy hl=>I.ok.has y.1 (hfree y hy hl)
 rw[arm_eval_DictComp]
 refine Jt (use:=none) rfl hs hclos hkind hnames (Eg (hi pins s σ H _ I h) fun v s1 h1=>Eg h1 fun itv s2 h2=>?_)
 obtain⟨it,fp,tn,J,H2,e,I2,T,st2,f2,q2⟩:=h2
 subst e
 refine IL ?_
 have hD:H2 s2.heap.objs.size=none:=I2.hok.fresh (Hs _)
 have I3:Inv X pins σ (D8 H2 s2.heap.objs.size (.dK [])) {s2 with heap:=s2.heap.push {cls:=.type "dict", data:=.dict #[]}} :=
  I2.laid (t':=s2.toks) (fun b u e=>Hm _ e) (Hs _) (jq s2.heap I2.big)
 obtain⟨Wv,⟨m0,w0⟩,turn⟩:=q2 _ hD
 have tn3:tn 0 (s2.heap.push {cls:=.type "dict", data:=.dict #[]}):=T.keep _ _ _ st2 fun b _ o e=>Hm _ e
 have fpD:∀b∈fp,(D8 H2 s2.heap.objs.size (.dK [])) b=none:=fun b hb=>by
  obtain⟨o,e,_⟩:=T.obj _ _ st2 b hb
  rw[am (Im (HJ e))]
  exact(f2 b hb).1
 have fp3:∀b∈fp,b<(s2.heap.push {cls:=.type "dict", data:=.dict #[]}).objs.size:=fun b hb=>by
  obtain⟨o,e,_⟩:=T.obj _ _ tn3 b hb
  exact HJ e
 exact gT N' fr hc hkind hcell hfree frl frg cl1 cl2 I3 T tn3 fpD fp3 (fun b hb=>(f2 b hb).2) (hg ⟨cl,fp,X.pn++pins,_,_⟩) (ht ⟨cl,fp,X.pn++pins,_,_⟩) (hk ⟨cl,fp,X.pn++pins,_,_⟩) (he ⟨cl,fp,X.pn++pins,_,_⟩) w0 (turn ⟨cl,fp,X.pn++pins,_,_⟩)
  (Rp:=Nh (Il X.prog X.w) X.A X.xe none (EP X pins σ Q) (.ref s2.heap.objs.size)) fun s5 H4 m hn k _ qn=>⟨m,hn,fun h' hs'=>⟨.ref _,H4,k h' hs',rfl,qn⟩⟩
theorem kS{b:Bool}{ix:Nat}(N':List Str)(fr:List (Option Nat))(hc:X.calm=true)(hi:PI X tg iter wi)(hfr:lg fr N' X.N scope X.env.scope=true)(hsc:lK scope X.env.scope=true)
 (hg:∀y,PG (blk X N' scope y) tg (g y))(ht:∀y,GD (blk X N' scope y) ifs (tt y))(hk:∀y,PE (blk X N' scope y) kx (tk y))(he:∀y,PE (blk X N' scope y) vx (te y))(hN:X.N.Nodup)(hix:X.N[ix]?=some x)(hx:Loc X.env.scope x)
 (hf:X.fn x=true\/X.env.scope.names.lookup x=some .local)(hsw:Jr (.DictComp kx vx [⟨tg,iter,ifs,0⟩] scope pos) (some (.Name x px)) spos.line X.env=pure b)
 (hs:∀x,H0 iter X.env x=pure x):PS X (.Assign [.Name x px] (.DictComp kx vx [⟨tg,iter,ifs,0⟩] scope pos) spos) (xC (nZ wi fr g tt tk te) (jn ix)):=by
 cases b with
 | false=>exact gC hN hix hx (rh N' fr hc hi hfr hsc hg ht hk he hs) hsw hf
 | true =>
 intro pins s σ H DD I h
 obtain⟨sk,sn⟩:=Hz.mp hsc
 have hkind:scope.kind = .function:=of_decide_eq_true sk
 have hall:=Jy.mp sn
 have hcell:∀y∈scope.names,y.2 = .cell->scope.names.lookup y.1=some .cell:=fun y hy hl=>by
  rcases HW.mp (Hz.mp (Hz.mp (hall y hy)).1).1 with z|z
  · exact absurd hl (of_decide_eq_true z)
  · exact of_decide_eq_true z
 have hnames:∀y∈scope.names,y.2 = .local->scope.names.lookup y.1=some .local:=fun y hy hl=>by
  rcases HW.mp (Hz.mp (Hz.mp (hall y hy)).1).2 with z|z
  · exact absurd hl (of_decide_eq_true z)
  · exact of_decide_eq_true z
 have hfree:∀y∈scope.names,y.2 = .free->X.env.kindOf y.1=some .cell\/X.env.kindOf y.1=some .free:=fun y hy hl=>by
  rcases HW.mp (Hz.mp (hall y hy)).2 with z|z
  · exact absurd hl (of_decide_eq_true z)
  · exact(HW.mp z).imp of_decide_eq_true of_decide_eq_true
 obtain⟨frl,frg⟩:=lg.get hfr
 obtain⟨cl,hclos,cl1,cl2⟩:=cq (env:=X.env) (scope:=scope) fun y hy hl=>I.ok.has y.1 (hfree y hy hl)
 rw[Ll _ _ _ _ hsw]
 refine Hl (Jq (Hl ?_))
 show Ia _ X.A (do let _ <- Ni (.DictComp kx vx [⟨tg,iter,ifs,0⟩] scope pos) scope X.env _ newDict false (eval iter X.env) (some (KM (.Name x px) X.env))) _ _ s
 refine Hl (Is (Jt (use:=some (KM (.Name x px) X.env)) (Q:=fun _ s'=>SP X pins DD .next s') rfl hs hclos hkind hnames
  (Eg (hi pins s σ H _ I h) fun v s1 h1=>Eg h1 fun itv s2 h2=>?_)) (fun _ s' hq=>HD (HD hq)) fun _ _ e=>e)
 obtain⟨it,fp,tn,J,H2,e,I2,T,st2,f2,q2⟩:=h2
 subst e
 refine IL ?_
 have hD:H2 s2.heap.objs.size=none:=I2.hok.fresh (Hs _)
 have I3:Inv X pins σ (D8 H2 s2.heap.objs.size (.dK [])) {s2 with heap:=s2.heap.push {cls:=.type "dict", data:=.dict #[]}} :=
  I2.laid (t':=s2.toks) (fun b u e=>Hm _ e) (Hs _) (jq s2.heap I2.big)
 obtain⟨Wv,⟨m0,w0⟩,turn⟩:=q2 _ hD
 have tn3:tn 0 (s2.heap.push {cls:=.type "dict", data:=.dict #[]}):=T.keep _ _ _ st2 fun b _ o e=>Hm _ e
 have fpD:∀b∈fp,(D8 H2 s2.heap.objs.size (.dK [])) b=none:=fun b hb=>by
  obtain⟨o,e,_⟩:=T.obj _ _ st2 b hb
  rw[am (Im (HJ e))]
  exact(f2 b hb).1
 have fp3:∀b∈fp,b<(s2.heap.push {cls:=.type "dict", data:=.dict #[]}).objs.size:=fun b hb=>by
  obtain⟨o,e,_⟩:=T.obj _ _ tn3 b hb
  exact HJ e
 refine gT (Q:=fun v H1=>jn ix v σ H1 DD.nx) N' fr hc hkind hcell hfree frl frg cl1 cl2 I3 T tn3 fpD fp3 (fun b hb=>(f2 b hb).2) (hg ⟨cl,fp,X.pn++pins,_,_⟩) (ht ⟨cl,fp,X.pn++pins,_,_⟩) (hk ⟨cl,fp,X.pn++pins,_,_⟩) (he ⟨cl,fp,X.pn++pins,_,_⟩) w0 (turn ⟨cl,fp,X.pn++pins,_,_⟩)
  (Rp:=Nh (Il X.prog X.w) X.A X.xe (some (KM (.Name x px) X.env)) (fun _ s'=>SP X pins DD .next s') (.ref s2.heap.objs.size)) fun s5 H4 m hn k fpo qn=>?_
 show Ia _ X.A (KM (.Name x px) X.env (.ref s2.heap.objs.size)) _ _ s5
 have I5:Inv X pins σ H4 s5:=k s5.heap (L8 _ _)
 obtain⟨f0,f1,f2',f3,f4,f5⟩:=fpo
 refine La (eC I5 hN hix hx (v:=.ref s2.heap.objs.size) rfl (fun s6 I6 sb=>?_) hf)
 obtain⟨a,sb,ha⟩:=sb
 have hne:(s2.heap.push {cls:=.type "dict", data:=.dict #[]}).objs.size≠a:=by
  rcases ha with rfl|ha
  · exact f1
  · exact fun z=>f4 x a ha z.symm
 refine⟨m,hn.at' fun o e=>sb.extBut _ o hne e,fun h' hs'=>?_⟩
 exact⟨_,H4,I6.turned (t':=s6.toks) (fun b o hb e=>hs'.extBut b o hb e) f0 f1 f3 f4 f5,qn⟩
end
noncomputable def cG:Option Int->List Int->Option Int
 | o,[]=>o
 | none,n::r=>cG (some n) r
 | some m,n::r=>cG (some (if n>m then n else m)) r
theorem qt(a d:Hq):argsOk "max" ⟨[a],[(Hi "default", d)]⟩:=by unfold argsOk;kernel_rfl
section
variable{prog:Ij}{w:IV}{A:IU}{E:Hq->Hv->Prop}
noncomputable def zF(o:Option Int)(arr:Array Hq):Prop:=match o with
 | none=>arr = #[]
 | some m=>∃t,arr = #[.int m t,.int m t]
theorem pq{R:NC->Hv->Prop}{I l S:Addr}{vs:List Hq}{d:Hq}(hh:A.handled=none)(hI:LD vs ns)(hl:l≠I)(hSI:S≠I)(hSl:S≠l) :
 ∀ (k j:Nat)(s:Hv)(o:Option Int)(arr:Array Hq)(c:Nat),vs.length-j=k->j<=vs.length->zF o arr->s.heap.IsListIter I l j->s.heap.IsList l vs.toArray ->
   s.heap.get? S=some {cls:=.type "list", dict:=none,data:=.seq arr c,slots:=#[]} ->
   (∀v h' tk,(cG o (ns.drop j)=none/\v=d\/∃m t,cG o (ns.drop j)=some m/\v = .int m t)->(∀b q,b≠I->b≠S->s.heap.get? b=some q->h'.get? b=some q)->R (.ok (.ret v)) {s with heap:=h',toks:=tk}) ->
   JW (Il prog w) A (.builtin "max.loop" ⟨[.ref I,.none,.ref S],[(Hi "default", d)]⟩) R s:=by
 have hn:(MM "max" ++ MM ".loop" : String) = "max.loop" := by decide
 have W:=Walks.list (prog:=prog) (w:=w) (A:=A.in1) hh I l hl vs.toArray
 have hz:vs.toArray.size=vs.length:=HL ..
 have len:vs.length=ns.length:=hI.length
 intro k
 induction k with
 | zero =>
   intro j s o arr c hk hj hb h1 h2 hS hR
   have ej:j=vs.length:=by omega
   subst ej
   have ed:ns.drop vs.length=[]:=by rw[len];exact JL
   rw[ed]at hR
   refine codeAny_builtin (Mt) ?_;rw[MR JB _]
   show Ia _ A.in1 (NH (.ref S) >>= _) _ _ s;refine Hl (L0 hS rfl ?_)
   show Ia _ A.in1 (tryCatch (Mw (.ref I)) _ >>= _) _ _ s;refine Hl (MV (W.done s _ _ (by rw[hz];exact⟨h1,h2⟩) fun h' tk kp=>?_))
   have kp':∀b q,b≠I->s.heap.get? b=some q->h'.get? b=some q:=fun b q n e=>kp b q (by simpa using n) e
   cases o with
   | none =>
     cases(show arr = #[]from hb)
     exact Hl (Ly (HD (hR d h' tk (.inl ⟨rfl,rfl⟩) fun b q n _ e=>kp' b q n e)))
   | some m =>
     obtain⟨t,rfl⟩:=(show ∃t,arr = #[.int m t,.int m t]from hb)
     show Ia _ A.in1 (updateSeq S (fun _=>#[]) >>= _) _ _ _;refine Hl (MC (kp' S _ hSI hS) rfl (Hl (Mc (HD ?_))))
     exact hR _ _ tk (.inr ⟨m,t,rfl,rfl⟩) fun b q n n2 e=>(Jm _ _ n2.symm).trans (kp' b q n e)
 | succ k ih =>
   intro j s o arr c hk hj hb h1 h2 hS hR
   have hlt:j<vs.length:=by omega
   refine codeAny_builtin (Mt) ?_;rw[MR JB _]
   show Ia _ A.in1 (NH (.ref S) >>= _) _ _ s;refine Hl (L0 hS rfl ?_)
   show Ia _ A.in1 (tryCatch (Mw (.ref I)) _ >>= _) _ _ s;refine Hl (MV (W.item j s _ _ (by rw[hz];exact hlt) ⟨h1,h2⟩ fun v h' tk hP st kp=>?_))
   have kp':∀b q,b≠I->s.heap.get? b=some q->h'.get? b=some q:=fun b q n e=>kp b q (by simpa using n) e
   have hS':=kp' S _ hSI hS
   have hv:vs[j]?=some v:=by simpa using hP
   obtain⟨n,t,en,rfl⟩:∃n t,ns[j]?=some n/\v = .int n t:=by
    have hv':=hv
    clear hR ih hk hj hlt h1 h2 hP st W hz len
    induction hI generalizing j with
    | nil=>simp at hv'
    | cons n t r ih2 =>
      cases j with
      | zero=>simp at hv';subst hv';exact⟨n,t,rfl,rfl⟩
      | succ j=>simp at hv';simpa using ih2 j (by simpa using hv) hv'
   have ed:ns.drop j=n::ns.drop (j+1):=by
    have hj2:j<ns.length:=by omega
    rw[IP hj2]
    rw[HP hj2]at en
    cases en
    rfl
   rw[ed]at hR
   have put:∀(o2:Option Int)(t2:Tok),o2=some n->t2=t->cG o (n::ns.drop (j+1))=cG (some n) (ns.drop (j+1)) ->
    JW (Il prog w) A (.builtin "max.loop" ⟨[.ref I,.none,.ref S],[(Hi "default", d)]⟩) R {s with heap:=h'.update S (Nk fun _=>#[.int n t,.int n t]),toks:=tk}:=fun o2 t2 _ _ er=>by
    refine ih (j+1) _ (some n) #[.int n t,.int n t] _ (by omega) (by omega) ⟨t,rfl⟩ (st.1.at fun q e=>(Jm _ _ hSI).trans e) (st.2.at fun q e=>(Jm _ _ hSl).trans e) (MB _ hS' rfl) fun v2 h2 tk2 hv2 kp2=>?_
    rw[<- er]at hv2
    exact hR v2 h2 tk2 hv2 fun b q n1 n2 e=>kp2 b q n1 n2 ((Jm _ _ n2.symm).trans (kp' b q n1 e))
   cases o with
   | none =>
     cases(show arr = #[]from hb)
     show Ia _ A.in1 (updateSeq S (fun _=>#[.int n t,.int n t]) >>= _) _ _ _;refine Hl (MC hS' rfl ?_)
     rw[hn]
     exact HD ⟨Md JB _,put _ _ rfl rfl rfl⟩
   | some m =>
     obtain⟨t0,rfl⟩:=(show ∃t,arr = #[.int m t,.int m t]from hb)
     show Ia _ A.in1 (tryCatch (holding [.int n t,.int n t] (richCompare .Gt (.int n t) (.int m t0) >>= _)) _ >>= _) _ _ _
     have cm:CmpOf prog w A.in1 .Gt (fun i v=>∃x t,v=L3 x t/\x=(if i=0 then m else n)) (fun i j=>decide ((if i=0 then m else n)>(if j=0 then m else n))):=PySem.CmpOf.ints_gt (fun i=>if i=0 then m else n) fun i v ⟨x,t,e,e2⟩=>⟨t,by rw[e,e2]⟩
     refine Hl (MV (Kq (Hl (cm 1 0 _ _ _ _ _ ⟨n,t,rfl,rfl⟩ ⟨m,t0,rfl,rfl⟩ ?_))))
     refine Hl (Kq (JC (Hl (Mc (HD ?_)))))
     by_cases hg:n>m
     · simp only[if_neg (show ¬((1:Nat)=0) by decide),if_pos (show(0:Nat)=0 from rfl),decide_eq_true hg,if_true]
       refine Hl (MC hS' rfl (Hl (Mc ?_)))
       rw[hn]
       exact HD ⟨Md JB _,put _ _ rfl rfl (by simp only[cG,if_pos hg])⟩
     · simp only[if_neg (show ¬((1:Nat)=0) by decide),if_pos (show(0:Nat)=0 from rfl),if_true,decide_eq_false hg,IT,if_false]
       refine Hl (Mc ?_)
       rw[hn]
       refine HD ⟨Md JB _,ih (j+1) _ (some m) _ c (by omega) (by omega) ⟨t0,rfl⟩ st.1 st.2 hS' fun v2 h2 tk2 hv2 kp2=>?_⟩
       refine hR v2 h2 tk2 ?_ fun b q n1 n2 e=>kp2 b q n1 n2 (kp' b q n1 e)
       simp only[cG,if_neg hg]
       exact hv2
theorem lb{l:Addr}{vs:List Hq}{d:Hq}(hh:A.handled=none)(hI:LD vs ns)(hls:s.heap.IsList l vs.toArray)
 (hQ:∀v h' tk,(cG none ns=none/\v=d\/∃m t,cG none ns=some m/\v = .int m t)->(∀b q,s.heap.get? b=some q->h'.get? b=some q)->Q v {s with heap:=h',toks:=tk}) :
 Ia (Il prog w) A (call (.builtin "max") [.ref l] [(Hi "default", d)]) Q E s:=by
 have hn:(MM "max" ++ MM ".loop" : String) = "max.loop" := by decide
 obtain⟨ol,hol,_⟩:=id hls
 have hll:l<s.heap.objs.size:=HJ hol
 refine PyProof.Rows.kmk_tree (PySem.F.kind_max) PySem.F.plain_max PySem.F.entry_max (qt _ _) ?_
 show Ia _ A.in1 (LJ "max" ["key", "default"] 0 ⟨[],[(Hi "default", d)]⟩ >>= _) _ _ s
 refine Hl (NJ (show LJ "max" ["key", "default"] 0 ⟨[],[(Hi "default", d)]⟩=pure [none,some d]from rfl) ?_)
 refine Hl (HD (Hl (Kc hls (Hl (wpAny_newList ?_ (HS _))))))
 rw[hn]
 have zI:(s.heap.push {cls:=.type "list_iterator", data:=.fields #[.ref l,.int 0 0]}).objs.size=s.heap.objs.size+1:=size_push' ..
 refine HD ⟨Md JB _,?_⟩
 refine pq (I:=s.heap.objs.size) (l:=l) hh hI (Im hll) (by rw[zI];exact KB (Mk _)) (by rw[zI];exact KB (Lg hll)) vs.length 0 _ none #[] 0 (by omega) (HS _) rfl
  ⟨_,Hm _ (HR _ rfl),rfl,rfl⟩ (hls.at fun q e=>Hm _ (Hm _ e)) (HR _ rfl) fun v h' tk hv kp=>?_
 refine hQ v h' tk (by simpa using hv) fun b q e=>?_
 have hb:=HJ e
 exact kp b q (Im hb) (by rw[zI];exact Im (Lg hb)) (Hm _ (Hm _ e))
end
section
variable{X:Cx}
theorem eP{P:Ij}{w:IV}:∀{vs:List (GU×Hq)}{ns:List Int}{l:List Hq},vs.map (·.1)=ns.map JQ->l.length=vs.length ->
 (∀(i:Nat) v,l[i]?=some v->∃k x,vs[i]?=some (k,x)/\(bP P w).is k v=true)->LD l ns
 | [],[],[],_,_,_=>.nil
 | [],[],_::_,_,h,_=>by simp at h
 | [],_::_,_,h,_,_=>by simp at h
 | _::_,[],_,h,_,_=>by simp at h
 | _::_,_::_,[],_,h,_=>by simp at h
 | (k,x)::vs,n::ns,v::l,h1,h2,h3=>by
   simp only[IF,IE]at h1
   obtain⟨k',x',e,hv⟩:=h3 0 v rfl
   simp at e
   obtain⟨rfl,rfl⟩:=e
   rw[h1.1]at hv
   have hv:lf (JQ n) v=true:=hv
   rcases bj hv with⟨i,t,e1,e2⟩|⟨y,t,e1,e2⟩
   · cases e1
     subst e2
     exact .cons n t (eP (P:=P) (w:=w) h1.2 (by simpa using h2) fun i v hv=>by simpa using h3 (i+1) v (by simpa using hv))
   · cases e1
theorem kH{prog:Ij}{w:IV}{vs:List (GU×Hq)}(hh:A.handled=none)(hd:(a==KF)=false)
 (dd:s.heap.DictOf (bP prog w) a vs)(hk:vs.map (·.1)=ns.map JQ)(h64:ns.length<64)
 (h:∀(h0 h':Heap)(tk:Nat)(out:Array Hq)(ns':List Int)(c:Nat),(∀b o,s.heap.get? b=some o->h0.get? b=some o)->(∀b o,h0.get? b=some o->h'.get? b=some o)->h'.get? h0.objs.size=some (NK "list" out c) ->
  LD out.toList ns'->ns'.Perm ns->ns'.Pairwise (· <= ·)->Q (.ref h0.objs.size) {s with heap:=h',toks:=tk}) :
 Ia (Il prog w) A (call (.builtin "sorted") [.ref a]) Q E s:=by
 obtain⟨ep,da⟩:=dd.dictAt
 have sz:=HM
 have hl:vs.length=ns.length:=by have:=congrArg NE hk;simpa using this
 refine Calls.call_function_entry kind_sorted plain_sorted entry_sorted (args_sorted1 (.ref a)) ?_;unfold Builtin.«sorted»
 refine Hl (m:=checkCount "sorted" 1 1 _) (HD (Hl (W.kdu_collect (A:=A.in1) (W.kdl_dict (knd:=bP prog w) (kvs:=vs) (ep:=ep) hd) hh da (by omega) fun h0 tk acc k0 hacc=>Hl (wpAny_newList ?_ ?_))))
 · have iA:LD acc.toList ns:=eP (P:=prog) (w:=w) hk (by rw[Km];exact hacc.1) fun i v e=>hacc.2 i v (by rw[<- Array.getElem?_toList];exact e)
   have l64:acc.toList.length<64:=by rw[iA.length];exact h64
   have hoL:(h0.push (NK "list" acc.toList.toArray 0)).get? h0.objs.size=some (NK "list" acc.toList.toArray 0):=HR _ rfl
   show Ia _ _ _ _ _ {s with heap:=h0.push (NK "list" acc.toList.toArray 0),toks:=tk}
   refine Hl (Kq (J5 slot_list_sort ⟨_,hoL,rfl⟩ entry_list_sort (list_sort_tree (s:={s with heap:=h0.push (NK "list" acc.toList.toArray 0),toks:=tk}) hoL iA l64 fun out ns' q1 q2 q3=>⟨_,rfl,?_⟩) (args_list_sort _)))
   have e1:=get?_update_seq hoL (fun _=>#[])
   have e2:((((h0.push (NK "list" acc.toList.toArray 0)).update h0.objs.size (Nk fun _=>#[])).push (NK "tuple" acc.toList.toArray 0)).push (NK "list" #[] 0)).get? h0.objs.size=_ :=
    Hm _ (Hm _ e1)
   have e3:=get?_update_seq e2 (fun _=>out)
   refine HD ⟨_,rfl,h h0 _ _ out ns' _ k0 (fun b ob eb=>?_) e3 q1 q2 q3⟩
   have ne:h0.objs.size≠b:=KB (HJ eb)
   exact(Jm _ _ ne).trans (Hm _ (Hm _ ((Jm _ _ ne).trans (Hm _ eb))))
 · rw[Km,hacc.1];omega
theorem ke(hc:X.calm=true):dB X (.builtin "sorted") (fun xs H Q=>∃(a:Addr)(us:List (GU×V))(ns:List Int),xs=[.ref a]/\Rd H a (.dK us)/\us.map (·.1)=ns.map JQ/\ns.length<64 /\
 ∀ns':List Int,ns'.Perm ns->ns'.Pairwise (· <= ·)->∀l,H l=none->Q (.ref l) (D8 H l (.lst (ns'.map V.int)))):=by
 intro pins s σ H xs us Q I r ⟨a,vs,ns,ex,hq,hk,h64,q⟩
 subst ex
 obtain⟨u,rfl,ru⟩:=vals1 r
 cases ru
 obtain⟨z,hd,ws,rel,dd⟩:=sr I.hok hq
 have sz:=HM
 refine kH (I.ok.hd hc) hd dd (by rw[<- rel.keys];exact hk) h64 fun h0 h' tk out ns' c k0 k1 e a1 a2 a3=>?_
 have I1:Inv X pins σ H {s with heap:=h0}:=I.kept (t':=s.toks) k0
 refine⟨.ref h0.objs.size,_,I1.laid (t':=tk) (o:=.lst (ns'.map V.int)) k1 (Hs _) ⟨?_,out.toList,c,mM a1,by rw[MQ];exact e⟩,rfl,q ns' a2 a3 _ (I1.hok.fresh (Hs _))⟩
 rw[Hu,a2.length_eq]
 omega
noncomputable def EZ(d:V)(ns:List Int):V:=match cG none ns with
 | none=>d
 | some m=>.int m
noncomputable def At(K:W.Frag)(t tk:TA):TE:=fun σ H Q=>t σ H fun vs H1=>tk σ H1 fun zs H2=>∃l ns d,vs=[.ref l]/\zs=[d]/\Gr K H2 l (ns.map V.int)/\Q (EZ d ns) H2
theorem u8{t tk:TA}{p kpos:Pos}(hc:X.calm=true)(hm:X.mg "max" = none)(ha:PA X [e] t)(hk:PK X [⟨some "default", c,kpos⟩] tk)(hg:Gl X "max")
 (he:I0 pos (Hw [e] X.env)=(false,eval e X.env)::I0 pos (Hw [] X.env):=by rfl)(hpl:(I0 pos (Hw [e] X.env)).any (·.1)=false:=by rfl) :
 PE X (.Call (.Name "max" p) [e] [⟨some "default", c,kpos⟩] pos) (At X.K t tk):=by
 intro pins s σ H Q I h
 refine Ky (fK I hg hm (by rfl) ?_ (by decide) (by decide))
 refine PyProof.Rows.callWith_kw (Eg (ha pos pins s σ H _ I h) fun us s1 ⟨vs,H1,I1,r1,q1⟩=>?_) he hpl
 refine Eg (hk pos pins s1 σ H1 _ I1 q1) fun ws s2 ⟨zs,H2,I2,r2,l,ns,d,e1,e2,sq,q2⟩=>?_
 subst e1 e2
 obtain⟨u,rfl,ru⟩:=vals1 r1
 obtain⟨w',rfl,rw'⟩:=vals1 r2
 cases ru
 obtain⟨its,rv,pl,hz⟩:=I2.list sq
 show Ia _ _ (call (.builtin "max") [.ref l] [(Hi "default", w')]) _ _ _
 refine lb (I.ok.hd hc) (intsAre_of rv) pl.isList fun v h' tk hv kp=>⟨EZ d ns,H2,I2.kept kp,?_,q2⟩
 rcases hv with⟨e,rfl⟩|⟨m,t,e,rfl⟩
 · unfold EZ;rw[e];exact rw'
 · unfold EZ;rw[e];exact⟨t,rfl⟩
end
end L2
theorem L2.Room.un1{k:Nat}{A:PySem.Around}(r:L2.Room k A):A.units+1<PySem.cLine:=by have:=r.un;omega
namespace L2.VL
noncomputable def ib(kvs:List (GU×Hh))(k:GU):Option Hh:=(kvs.find? fun kv=>decide (kv.1=k)).map (·.2)
noncomputable def putF(kvs:List (GU×Hh))(k:GU)(x:Hh):List (GU×Hh) :=
 if(kvs.any fun kv=>decide (kv.1=k))=true then kvs.map (fun kv=>if kv.1=k then(kv.1,x)else kv)else kvs++[(k,x)]
section
variable{K:W.Frag}{F:Hp}{us:List (GU×V)}{kvs:List (GU×Hh)}
theorem GW.val(r:GW K F us kvs)(k:GU):(fR us k=none/\ib kvs k=none)\/∃v d,fR us k=some v/\ib kvs k=some d/\Rep K F v d:=by
 induction r with
 | nil=>exact .inl ⟨rfl,rfl⟩
 | @cons p q ps qs h t ih =>
   unfold fR ib at *
   rw[I_,I_,h.1]
   by_cases e:q.1=k
   · simp only[e,decide_true]
     exact .inr ⟨p.2,q.2,rfl,rfl,h.2⟩
   · simp only[e,decide_false]
     exact ih
theorem GW.any(r:GW K F us kvs)(k:GU):(us.any fun kv=>decide (kv.1=k))=kvs.any fun kv=>decide (kv.1=k):=by
 induction r with
 | nil=>rfl
 | cons h t ih=>rw[K1,K1,ih,h.1]
theorem GW.keys(r:GW K F us kvs):us.map (·.1)=kvs.map (·.1):=by
 induction r with
 | nil=>rfl
 | cons h t ih=>rw[IF,IF,ih,h.1]
theorem GW.repl(r:GW K F us kvs)(k:GU)(rv:Rep K F v d):GW K F (us.map fun kv=>if kv.1=k then(kv.1,v)else kv) (kvs.map fun kv=>if kv.1=k then(kv.1,d)else kv):=by
 induction r with
 | nil=>exact .nil
 | @cons p q ps qs h t ih =>
   refine .cons ?_ ih
   show(if p.1=k then(p.1,v)else p).1=(if q.1=k then(q.1,d)else q).1/\Rep K F (if p.1=k then(p.1,v)else p).2 (if q.1=k then(q.1,d)else q).2
   by_cases e:q.1=k
   · have e':p.1=k:=h.1.trans e
     rw[if_pos e,if_pos e']
     exact⟨h.1,rv⟩
   · have e':¬p.1=k:=fun z=>e (h.1.symm.trans z)
     rw[if_neg e,if_neg e']
     exact h
theorem GW.snoc(r:GW K F us kvs)(k:GU)(rv:Rep K F v d):GW K F (us++[(k,v)]) (kvs++[(k,d)]):=by
 induction r with
 | nil=>exact .cons ⟨rfl,rv⟩ .nil
 | cons h t ih=>exact .cons h ih
theorem GW.put(r:GW K F us kvs)(k:GU)(rv:Rep K F v d):GW K F (dC us k v) (putF kvs k d):=by
 unfold dC putF
 rw[r.any k]
 split
 · exact r.repl k rv
 · exact r.snoc k rv
theorem GW.mono{F':Hp}(s:bL F F')(r:GW K F us kvs):GW K F' us kvs:=IQ.mapP r fun _ _ z=>⟨z.1,z.2.mono s⟩
end
noncomputable def ny:W->Option GU
 | .d (.int i)=>some (.inl i)
 | .d (.str x)=>some (.inr x)
 | _=>none
noncomputable def asFd:W->Option (List (GU×Hh))
 | .fd kvs=>some kvs
 | _=>none
theorem keyW_i(i:Int):ny (.d (.int i))=some (.inl i):=rfl
theorem keyW_s(x:Str):ny (.d (.str x))=some (.inr x):=rfl
theorem asFd_f(kvs:List (GU×Hh)):asFd (.fd kvs)=some kvs:=rfl
theorem wv{kvs:List (GU×Hh)}:asFd w=some kvs↔w = .fd kvs:=by
 constructor
 · intro h;unfold asFd at h;split at h<;>simp_all
 · rintro rfl;rfl
theorem lX{K:W.Frag}{k:GU}(e:ny w=some k)(r:di K rl F H v w):v=kV k:=by
 unfold ny at e
 split at e
 · cases e;exact aQ r
 · cases e;exact gz r
 · cases e
theorem isPk_fd(kvs:List (GU×Hh)):(W.fd kvs).isPk=false:=rfl
theorem fz_fd(kvs:List (GU×Hh)):(W.fd kvs).fz = .fd kvs:=rfl
theorem pk_fd(kvs:List (GU×Hh)):(W.fd kvs).peek = .fd kvs:=rfl
noncomputable def sN(ρ0:En)(g:Go)(ft:TB)(fk fe:TV):List Hh->List (GU×Hh)->(List (GU×Hh)->Prop)->Prop
 | [],acc,Q=>Q acc
 | x::xs,acc,Q=>g x ρ0 fun ρ2=>Le ρ0 ρ2/\ft ρ2 fun b=>if b=true then fk ρ2 fun wk=>∃k,ny wk=some k/\fe ρ2 fun w=>∃d,w.fz = .d d/\acc.length<sizeLine/\sN ρ0 g ft fk fe xs (putF acc k d) Q else sN ρ0 g ft fk fe xs acc Q
noncomputable def nV(fi:En->(List Hh->Prop)->Prop)(fr:List (Option Nat))(g:Go)(ft:TB)(fk fe:TV):TV:=fun ρ Q=>fi ρ fun xs=>sN (dH fr ρ) g ft fk fe xs [] fun kvs=>Q (.fd kvs)
section
variable{X:Cx}{rl:RlT}{kx vx tg iter:Expr}{ifs:List Expr}{scope:Scope}{pos:Pos}{fi:En->(List Hh->Prop)->Prop}{g:Go}{ft:TB}{fk fe:TV}
theorem wg{wi:TI}(fr:List (Option Nat))(k0:∀{F₀ H₀ F H:Hp}{σ:St}{ρ:En},VR X.K rl F₀ H₀ F H σ ρ->∀(Qd:List Hh->Prop)(R:It->Hp->Prop),fi ρ Qd ->
 (∀J xs F' H',Grow rl F H F' H'->VIt X.K rl F' J xs->Qd xs->R J H')->wi σ H R)
 (hg:∀y,GM (blk X N' scope y) rl tg g)(ht:∀y,kD (blk X N' scope y) rl ifs ft)(hk:∀y,PV (blk X N' scope y) rl kx fk)(he:∀y,PV (blk X N' scope y) rl vx fe)
 (R:VR X.K rl F₀ H₀ F H σ ρ)(Qd:W->Prop)(Q:VK)(q:nV fi fr g ft fk fe ρ Qd)
 (k:∀v w F' H',Grow rl F H F' H'->di X.K rl F' H' v w->dj H v w->Qd w->Q v H'):nZ wi fr (fun y=>ID (hg y)) (fun y=>ID (ht y)) (fun y=>ID (hk y)) (fun y=>ID (he y)) σ H Q:=by
 refine k0 R _ _ q fun J xs F1 H1 g1 vi q1=>?_
 intro D hD
 have rD:rl.a≠some D:=fun e=>by obtain⟨o,z⟩:=g1.reel.live e;rw[hD]at z;cases z
 have FD:F1 D=none:=g1.sub.free hD
 have gD:Grow rl F1 H1 F1 (D8 H1 D (.dK [])):=Grow.laid g1.sub g1.reel hD
 have R1:=R.grow g1
 have n0:kz (dH fr ρ):=cR
 refine⟨fun i m acc σc Hc=>m=xs.length-i/\i<=xs.length/\∃Fc ds,VR X.K rl F1 H1 Fc Hc σc (dH fr ρ)/\Hc D=some (.dK acc)/\Fc D=none/\GW X.K Fc acc ds/\sN (dH fr ρ) g ft fk fe (xs.drop i) ds (fun ds=>Qd (.fd ds)),
  ⟨xs.length,by simp,HS _,F1,[],ee R1 gD,au,FD,.nil,by simpa using q1⟩,?_⟩
 rintro z i m acc σc Hc ⟨rfl,hi,Fc,ds,Rc,hDc,fDc,rs,q2⟩
 have sH:bL F1 Hc:=Rc.g.fs.trans Rc.sub
 by_cases hlt:i<xs.length
 · have ei:xs[i]?=some xs[i]:=by simp[hlt]
   have ed:xs.drop i=xs[i]::xs.drop (i+1):=IP hlt
   rw[ed]at q2
   refine .inr ⟨vi.go i Hc _ ei sH,fun v H' y=>?_⟩
   obtain⟨Fy,gy,rv⟩:=vi.yld i Hc v H' _ Fc ei Rc.g.fs Rc.sub Rc.reel y
   refine(Ho (hg z)).2 (Rc.grow gy) v _ _ _ rv q2 fun F3 H3 σ3 ρ3 g3 n3 R3 ⟨le3,q3⟩=>?_
   refine(Ho (ht z)).2 R3 _ _ q3 fun b F4 H4 g4 q4=>?_
   have R4:=R3.grow g4
   have g34:=(gy.trans g3).trans g4
   have keepD:∀{Fx Hx:Hp},Grow rl Fc Hc Fx Hx->Hx D=some (.dK acc)/\Fx D=none:=fun gx=>⟨gx.same D _ hDc rD,by rw[gx.old D _ hDc];exact fDc⟩
   cases b with
   | false=>exact⟨xs.length-(i+1),by omega,rfl,hlt,F4,ds,R4.le le3,(keepD g34).1,(keepD g34).2,rs.mono g34.fs,q4⟩
   | true =>
     refine(Ho (hk z)).2 R4 _ _ q4 fun vk wk Fk Hk gk rk nk ⟨kk,ekk,qk⟩=>?_
     have evk:=lX ekk rk
     have R5:=R4.grow gk
     refine(Ho (he z)).2 R5 _ _ qk fun v5 w5 F5 H5 g5 r5 n5 ⟨d,ed5,hl,q5⟩=>?_
     obtain⟨F6,g6,s6,r6⟩:=di.fz g5 r5 n5
     rw[ed5]at r6
     have g36:=(g34.trans gk).trans g6
     have lds:acc.length=ds.length:=Kl rs
     refine⟨kk,evk,(keepD g36).1,by rw[lds];exact hl,xs.length-(i+1),by omega,rfl,hlt,F6,putF ds kk d,((R5.grow g6).le le3).other n0 hD (keepD g36).2 rD,au,(keepD g36).2,(rs.mono g36.fs).put kk r6,q5⟩
 · have e:i=xs.length:=by omega
   subst e
   rw[JL]at q2
   have neF:∀b u,Fc b=some u->b≠D:=fun b u q z=>by subst z;rw[fDc]at q;cases q
   have fsm:bL Fc (D8 Fc D (.dK acc)):=fun b u z=>by rw[am (neF b u z)];exact z
   refine .inl ⟨vi.stop _ Hc (Hs _) sH,k _ (.fd ds) (D8 Fc D (.dK acc)) Hc ((g1.trans Rc.g).freeze (g1.freeB hD) hDc fDc rD) ⟨D,acc,rfl,au,rs.mono fsm⟩ trivial q2⟩
theorem kF(i:Nat){b:Bool}(hN:X.N.Nodup)(N':List Str)(fr:List (Option Nat))(hc:X.calm=true)(hi:GJ X rl tg iter fi)
 (hg:∀y,GM (blk X N' scope y) rl tg g)(ht:∀y,kD (blk X N' scope y) rl ifs ft)(hk:∀y,PV (blk X N' scope y) rl kx fk)(he:∀y,PV (blk X N' scope y) rl vx fe)
 (hsw:Jr (.DictComp kx vx [⟨tg,iter,ifs,0⟩] scope pos) (some (.Name x px)) spos.line X.env=pure b:=by rfl)
 (hix:X.N[i]?=some x:=by rfl)(hx:Loc X.env.scope x:=by first|exact Js rfl|exact IR rfl)(hf:X.fn x=true\/X.env.scope.names.lookup x=some .local:=by first|exact .inl rfl|exact .inr rfl)
 (hfr:lg fr N' X.N scope X.env.scope=true:=by rfl)(hsc:lK scope X.env.scope=true:=by rfl)
 (hs:∀x,H0 iter X.env x=pure x:=by intro _;rfl):GF X rl (.Assign [.Name x px] (.DictComp kx vx [⟨tg,iter,ifs,0⟩] scope pos) spos) (Ag i (nV fi fr g ft fk fe)):=by
 obtain⟨wi,p0,k0⟩:=hi
 refine⟨_,kS N' fr hc p0 hfr hsc (fun y=>(Ho (hg y)).1) (fun y=>(Ho (ht y)).1) (fun y=>(Ho (hk y)).1) (fun y=>(Ho (he y)).1) hN hix hx hf hsw hs,fun R Dv D ok q=>wg fr k0 hg ht hk he R _ _ q fun v w F1 H1 g1 r1 n1 ⟨hp,q1⟩=>?_⟩
 exact ok.nx _ _ _ _ g1.fs (R.set g1 r1 n1 (fun xs z=>by subst z;cases hp) i) q1
end
noncomputable def FC(ρ0:En)(g:Go)(ft:TB)(fk fe:TV)(x:Hh):Mo (Option (GU×Hh)):=FV (g x ρ0) fun ρ2=>FJ (Le ρ0 ρ2) (FV (ft ρ2) fun b=>if b=true then FV (fk ρ2) fun wk=>aO (ny wk) fun k=>FV (fe ρ2) fun w=>aO (asD w.fz) fun d=>ret (some (k,d))else ret none)
noncomputable def eT(b:Hh->Mo (Option (GU×Hh))):List Hh->List (GU×Hh)->Mo (List (GU×Hh))
 | [],acc=>ret acc
 | x::xs,acc=>FV (b x) fun o=>match o with
   | some d=>FJ (acc.length<sizeLine) (eT b xs (putF acc d.1 d.2))
   | none=>eT b xs acc
theorem mv(ρ0:En)(g:Go)(ft:TB)(fk fe:TV):∀(xs:List Hh)(acc:List (GU×Hh)),sN ρ0 g ft fk fe xs acc=eT (FC ρ0 g ft fk fe) xs acc
 | [],acc=>rfl
 | x::xs,acc=>by
   refine ah fun Q=>?_
   show(g x ρ0 fun ρ2=>Le ρ0 ρ2/\ft ρ2 fun b=>if b=true then fk ρ2 fun wk=>∃k,ny wk=some k/\fe ρ2 fun w=>∃d,w.fz = .d d/\acc.length<sizeLine/\sN ρ0 g ft fk fe xs (putF acc k d) Q else sN ρ0 g ft fk fe xs acc Q)↔(FV (FC ρ0 g ft fk fe x) _) Q
   simp only[mv ρ0 g ft fk fe xs]
   have:∀(ρ2:En)(b:Bool),(if b=true then fk ρ2 fun wk=>∃k,ny wk=some k/\fe ρ2 fun w=>∃d,w.fz = .d d/\acc.length<sizeLine/\eT (FC ρ0 g ft fk fe) xs (putF acc k d) Q else eT (FC ρ0 g ft fk fe) xs acc Q)=(FV (if b=true then FV (fk ρ2) fun wk=>aO (ny wk) fun k=>FV (fe ρ2) fun w=>aO (asD w.fz) fun d=>ret (some (k,d))else ret none) fun o=>match o with
   | some d=>FJ (acc.length<sizeLine) (eT (FC ρ0 g ft fk fe) xs (putF acc d.1 d.2))
   | none=>eT (FC ρ0 g ft fk fe) xs acc) Q:=by
     intro ρ2 b
     cases b with
     | false=>rfl
     | true =>
       rw[if_pos rfl,if_pos rfl]
       show _=fk ρ2 fun wk=>_
       congr 1
       funext wk
       refine propext ?_
       show _↔(FV (aO (ny wk) fun k=>FV (fe ρ2) fun w=>aO (asD w.fz) fun d=>ret (some (k,d))) _) Q
       rw[bnd_opt,aq]
       have e2:∀(k:GU),(fe ρ2 fun w=>∃d,w.fz = .d d/\acc.length<sizeLine/\eT (FC ρ0 g ft fk fe) xs (putF acc k d) Q)=(FV (FV (fe ρ2) fun w=>aO (asD w.fz) fun d=>ret (some (k,d))) fun o=>match o with
        | some d=>FJ (acc.length<sizeLine) (eT (FC ρ0 g ft fk fe) xs (putF acc d.1 d.2))
        | none=>eT (FC ρ0 g ft fk fe) xs acc) Q:=fun k=>by
        show _=fe ρ2 fun w=>_
        congr 1
        funext w
        refine propext ?_
        show _↔(FV (aO (asD w.fz) fun d=>ret (some (k,d))) _) Q
        rw[bnd_opt,aq]
        simp only[gX]
        exact Ls
       simp only[e2]
   simp only[this]
   exact Ls
theorem m_compD(fi:En->(List Hh->Prop)->Prop)(fr:List (Option Nat))(g:Go)(ft:TB)(fk fe:TV)(ρ:En):nV fi fr g ft fk fe ρ=FV (fi ρ) fun xs=>FV (eT (FC (dH fr ρ) g ft fk fe) xs []) fun kvs=>ret (.fd kvs):=by
 refine ah fun Q=>?_
 show(fi ρ fun xs=>sN (dH fr ρ) g ft fk fe xs [] fun ds=>Q (.fd ds))↔_
 simp only[mv]
 exact Ls
theorem qY(kvs:List (GU×Hh))(k:GU)(x:Hh):(putF kvs k x).length<=kvs.length+1:=by
 unfold putF;split<;>simp
section
variable{α:Type}{b:Hh->Mo (Option (GU×Hh))}
theorem kd{enc:α->Hh}(f:α->GU×Hh):∀(xs:List α)(acc:List (GU×Hh)),(∀x∈xs,b (enc x)=ret (some (f x)))->acc.length+xs.length<=sizeLine->eT b (xs.map enc) acc=ret ((xs.map f).foldl (fun a p=>putF a p.1 p.2) acc)
 | [],acc,_,_=>rfl
 | x::xs,acc,h,hl=>by
   show FV (b (enc x)) _=_
   rw[h x Hy,bnd_ret]
   show FJ (acc.length<sizeLine) (eT b (xs.map enc) (putF acc (f x).1 (f x).2))=_
   simp only[HV]at hl
   have:=qY acc (f x).1 (f x).2
   rw[ag (by omega),kd f xs _ (fun y hy=>h y (Ht _ hy)) (by omega)]
   rfl
theorem wd{Q:β->Prop}{k:List (GU×Hh)->Mo β}{xs:List α}{enc:α->Hh}(f:α->GU×Hh)(hx:xs'=xs.map enc)(h:∀x∈xs,b (enc x)=ret (some (f x)))(hl:xs.length<=sizeLine)
 (fin:k ((xs.map f).foldl (fun a p=>putF a p.1 p.2) []) Q):FV (eT b xs' []) k Q:=by
 subst hx
 rw[kd f xs [] h (by simpa using hl)]
 exact fin
end
section
variable{X:Cx}{rl:RlT}{a c e o i:Expr}{es:List Expr}{fa fb:TV}{fs:Gi}{pos p kpos:Pos}{ρ:En}
noncomputable def nU(fa fb:TV):TV:=fun ρ Q=>fa ρ fun x=>fb ρ fun y=>∃kvs k d,x = .fd kvs/\ny y=some k/\ib kvs k=some d/\Q (.d d)
theorem ue(hu:X.A.units+1<Mn)(ho:PV X rl o fa)(hi:PV X rl i fb)(hs:wI i:=by intro _ _;rfl):PV X rl (.Subscript o i pos) (nU fa fb):=by
 obtain⟨t1,p1,k1⟩:=ho
 obtain⟨t2,p2,k2⟩:=hi
 refine⟨_,ja hu p1 p2 hs,fun R Qd Q q h=>k1 R _ _ q fun v w F1 H1 g1 r1 n1 q1=>k2 (R.grow g1) _ _ q1 fun v2 w2 F2 H2 g2 r2 n2 ⟨kvs,k,d,ex,ek,ed,q2⟩=>?_⟩
 subst ex
 obtain⟨x,us,rfl,hx,rk⟩:=r1.grow g2
 have ev:=lX ek r2
 subst ev
 rcases rk.val k with⟨_,z⟩|⟨v3,d3,e1,e2,r3⟩
 · rw[ed]at z;cases z
 · rw[ed]at e2
   cases e2
   refine⟨x,v3,rfl,?_,h v3 (.d d) F2 H2 (g1.trans g2) r3 trivial q2⟩
   rw[<- e1]
   exact z9.k (g2.sub _ _ hx)
theorem m_vDGetF:nU fa fb ρ=FV (fa ρ) fun x=>FV (fb ρ) fun y=>aO (asFd x) fun kvs=>aO (ny y) fun k=>aO (ib kvs k) fun d=>ret (.d d):=by
 refine ah fun Q=>?_
 simp only[nU,FV,aq,wv,ret]
 constructor
 · intro h;refine cast ?_ h;congr 1;funext x;congr 1;funext y;exact propext ⟨fun⟨a,b,c,d,e,f,g⟩=>⟨a,d,b,e,c,f,g⟩,fun⟨a,d,b,e,c,f,g⟩=>⟨a,b,c,d,e,f,g⟩⟩
 · intro h;refine cast ?_ h;congr 1;funext x;congr 1;funext y;exact propext ⟨fun⟨a,d,b,e,c,f,g⟩=>⟨a,b,c,d,e,f,g⟩,fun⟨a,b,c,d,e,f,g⟩=>⟨a,d,b,e,c,f,g⟩⟩
noncomputable def zh:List W->(W->Prop)->Prop:=fun ws Q=>∃(kvs:List (GU×Hh))(ns:List Int),ws=[.fd kvs]/\kvs.map (·.1)=ns.map JQ/\ns.length<64/\∀ns':List Int,ns'.Perm ns->ns'.Pairwise (· <= ·)->Q (.ml (ns'.map .int))
theorem nK(hc:X.calm=true)(hm:X.mg "sorted" = none)(ha:GB X rl [a] fs)(hg:Gl X "sorted" := by rfl)(he:Hw [a] X.env=(false,eval a X.env)::Hw [] X.env:=by rfl)(hpl:(I0 pos (Hw [] X.env)).any (·.1)=false:=by rfl) :
 PV X rl (.Call (.Name "sorted" p) [a] [] pos) (dt zh fs):=by
 refine cO (ke hc) (fun{F H vs ws} Qd Q s ra r ⟨kvs,ns,ew,ek,hl,q⟩ k=>?_) hm (by rfl) ha hg (by decide) (by decide) he hpl
 subst ew
 obtain⟨v,rfl,b,us,rfl,hb,rk⟩:=kP r
 exact⟨b,us,ns,rfl,.inl (s _ _ hb),by rw[rk.keys];exact ek,hl,fun ns' h1 h2 l hl=>k _ (.ml _) _ _ (Grow.laid s ra hl) (cL s ra hl lZ) (fun a ea=>by cases ea;exact hl) (q ns' h1 h2)⟩
theorem uz{Q:α->Prop}{K:W->Mo α}{kvs:List (GU×Hh)}(ns:List Int)(e:kvs.map (·.1)=ns.map JQ)(hl:ns.length<64)(h:∀ns':List Int,ns'.Perm ns->ns'.Pairwise (· <= ·)->K (.ml (ns'.map .int)) Q):FV (zh [.fd kvs]) K Q :=
 ⟨kvs,ns,rfl,e,hl,fun ns' h1 h2=>h ns' h1 h2⟩
noncomputable def E4(d:Int)(ns:List Int):Int:=(cG none ns).getD d
noncomputable def uj(fs:Gi)(fc:TV):TV:=fun ρ Q=>fs ρ fun ws=>fc ρ fun y=>∃ns d,gQ ws=some [.list (ns.map .int)]/\y = .d (.int d)/\Q (.d (.int (E4 d ns)))
theorem xf(hc:X.calm=true)(hm:X.mg "max" = none)(ha:GB X rl [e] fs)(hk:PV X rl c fb)(hg:Gl X "max" := by rfl)
 (he:I0 pos (Hw [e] X.env)=(false,eval e X.env)::I0 pos (Hw [] X.env):=by rfl)(hpl:(I0 pos (Hw [e] X.env)).any (·.1)=false:=by rfl) :
 PV X rl (.Call (.Name "max" p) [e] [⟨some "default", c,kpos⟩] pos) (uj fs fb):=by
 obtain⟨t1,p1,k1⟩:=ha
 obtain⟨t2,p2,k2⟩:=hk
 refine⟨_,u8 hc hm p1 (uY p2 ym) hg he hpl,fun R Qd Q q h=>k1 R _ _ q fun vs ws F1 H1 g1 r1 q1=>k2 (R.grow g1) _ _ q1 fun v2 w2 F2 H2 g2 r2 n2 ⟨ns,d,ed,ew,q2⟩=>?_⟩
 subst ew
 have e2:=aQ r2
 subst e2
 have rs:=cN r1 ed
 cases rs with
 | cons rx rs =>
   cases rs
   cases rx with
   | @lst l us _ hb ry =>
     have eu:=eJ ry
     subst eu
     refine⟨l,ns,.int d,rfl,rfl,.inl (.inl (g2.sub _ _ (g2.fs _ _ hb))),h _ (.d (.int (E4 d ns))) F2 H2 (g1.trans g2) ?_ trivial q2⟩
     have:EZ (.int d) ns = .int (E4 d ns):=by unfold EZ E4;cases cG none ns<;>rfl
     rw[this]
     exact .int _
noncomputable def oY(ws:List W):Option (List Int):=match gQ ws with
 | some [.list xs]=>jj xs
 | _=>none
theorem m_vMaxD{fc:TV}:uj fs fc ρ=FV (fs ρ) fun ws=>FV (fc ρ) fun y=>aO (oY ws) fun ns=>aO (asI y) fun d=>ret (.d (.int (E4 d ns))):=by
 have key:∀(ws:List W)(ns:List Int),oY ws=some ns↔gQ ws=some [.list (ns.map .int)]:=by
  intro ws ns
  unfold oY
  constructor
  · intro h
    split at h
    · rename_i xs e;rw[e,ji h]
    · cases h
  · intro h;rw[h];exact intsD_map ns
 refine ah fun Q=>?_
 simp only[uj,FV,aq,dg,ret,key]
 constructor
 · intro h;refine cast ?_ h;congr 1;funext x;congr 1;funext y;exact propext ⟨fun⟨a,b,c,d,e⟩=>⟨a,c,b,d,e⟩,fun⟨a,c,b,d,e⟩=>⟨a,b,c,d,e⟩⟩
 · intro h;refine cast ?_ h;congr 1;funext x;congr 1;funext y;exact propext ⟨fun⟨a,c,b,d,e⟩=>⟨a,b,c,d,e⟩,fun⟨a,b,c,d,e⟩=>⟨a,c,b,d,e⟩⟩
theorem oneIs_l(ns:List Int):oY [.d (.list (ns.map .int))]=some ns:=by
 unfold oY gQ
 exact intsD_map ns
end
noncomputable def Hf:=Hj @m_compD (Hj @m_vDGetF (Hj @m_vMaxD (Hj @keyW_i (Hj @keyW_s (Hj @asFd_f (Hj @isPk_fd (Hj @fz_fd (Hj @pk_fd (@oneIs_l)))))))))
end L2.VL
namespace L2
noncomputable def Dr(K:W.Frag)(tl:TE):TI:=fun σ H R=>tl σ H fun x H1=>∃a,x = .ref a/\(((∃xs,Gr K H1 a xs)/\R (G0 K a) H1)\/((∃xs,Gq K H1 a xs)/\R (GY K a) H1))
theorem yo{l:Expr}{tl:TE}(hl:PE X l tl):PI X tg l (Dr X.K tl):=by
 intro pins s σ H R I h
 refine Eg (hl pins s σ H _ I h) fun v s1 ⟨x,H1,I1,r1,q1⟩=>?_
 obtain⟨a,e,q1⟩:=q1
 subst e
 cases r1
 have fin:∀b∈[s1.heap.objs.size],kE X pins H1 b:=fun b hb=>by
  have e:b=s1.heap.objs.size:=by simpa using hb
  subst e
  exact I1.fpOk (Hs _) (I1.hok.fresh (Hs _))
 rcases q1 with⟨⟨xs,hq⟩,q⟩|⟨⟨xs,hq⟩,q⟩
 · obtain⟨its,rv,p,hz⟩:=I1.list hq
   exact Kc p.isList ⟨s1.heap.objs.size,[s1.heap.objs.size],_,_,H1,rfl,I1.kept (t':=s1.toks) fun b o e=>Hm _ e,jD a _,⟨_,HR _ rfl,rfl,rfl⟩,fin,q⟩
 · obtain⟨its,rv,p,hz⟩:=I1.tuple hq
   exact LR (show s1.heap.IsTuple a its.toArray from p) ⟨s1.heap.objs.size,[s1.heap.objs.size],_,_,H1,rfl,I1.kept (t':=s1.toks) fun b o e=>Hm _ e,ij a _,⟨_,HR _ rfl,rfl,rfl⟩,fin,q⟩
end L2
namespace L2.VL
section
variable{X:Cx}{rl:RlT}{tg:Expr}{fa:TV}{ρ:En}
noncomputable def iS(fa:TV):En->(List Hh->Prop)->Prop:=fun ρ Q=>fa ρ fun w=>∃xs,(w.fz = .d (.list xs)\/w.fz = .d (.tuple xs))/\Q xs
theorem sK{l:Expr}(hl:PV X rl l fa):GJ X rl tg l (iS fa):=by
 obtain⟨t,p,k⟩:=hl
 refine⟨_,yo p,fun R Qd Q q h=>k R _ _ q fun v w F1 H1 g1 r1 n1 ⟨xs,ew,q1⟩=>?_⟩
 obtain⟨F2,g2,s2,r2⟩:=di.fz g1 r1 n1
 rcases ew with ew|ew
 · rw[ew]at r2
   cases(show Rep X.K F2 v (.list xs)from r2)with
   | @lst a vs _ sq rs =>
     have sqH:∀H,bL F2 H->Gr X.K H a vs:=fun H s=>.inl (.inl (s _ _ sq))
     refine⟨a,rfl,.inl ⟨⟨vs,sqH H1 g2.sub⟩,h _ xs F2 H1 g2 (.of (fun i H x e s=>?_) (fun i H hl s=>⟨vs,sqH H s,by rw[rs.length];exact hl⟩) (fun i H v H' x e s y=>?_)) q1⟩⟩
     · obtain⟨v,ev,_⟩:=rs.get e
       exact⟨vs,v,sqH H s,ev⟩
     · obtain⟨e',hy⟩:=y
       obtain⟨v',ev,rv⟩:=rs.get e
       have:=hy vs (sqH H s)
       rw[ev]at this
       cases this
       exact⟨e',rv⟩
 · rw[ew]at r2
   cases(show Rep X.K F2 v (.tuple xs)from r2)with
   | @tup a vs _ sq rs =>
     have sqH:∀H,bL F2 H->Gq X.K H a vs:=fun H s=>eI s sq
     refine⟨a,rfl,.inr ⟨⟨vs,sqH H1 g2.sub⟩,h _ xs F2 H1 g2 (.of (fun i H x e s=>?_) (fun i H hl s=>⟨vs,sqH H s,by rw[rs.length];exact hl⟩) (fun i H v H' x e s y=>?_)) q1⟩⟩
     · obtain⟨v,ev,_⟩:=rs.get e
       exact⟨vs,v,sqH H s,ev⟩
     · obtain⟨e',hy⟩:=y
       obtain⟨v',ev,rv⟩:=rs.get e
       have:=hy vs (sqH H s)
       rw[ev]at this
       cases this
       exact⟨e',rv⟩
noncomputable def seqW:W->Option (List Hh)
 | .d (.list xs)=>some xs
 | .d (.tuple xs)=>some xs
 | _=>none
theorem seqW_l(xs:List Hh):seqW (.d (.list xs))=some xs:=rfl
theorem seqW_t(xs:List Hh):seqW (.d (.tuple xs))=some xs:=rfl
theorem uF:seqW w=some xs↔(w = .d (.list xs)\/w = .d (.tuple xs)):=by
 constructor
 · intro h;unfold seqW at h;split at h<;>simp_all
 · rintro(rfl|rfl)<;>rfl
theorem m_iS:iS fa ρ=FV (fa ρ) fun w=>aO (seqW w.fz) ret:=by
 refine ah fun Q=>?_
 simp only[iS,FV,aq,uF,ret]
noncomputable def Ha:=Hj @m_iS (Hj @seqW_l (@seqW_t))
end
end L2.VL
namespace L2
noncomputable def insAt{α:Type}(xs:List α)(k:Nat)(y:α):List α:=xs.take k++y::xs.drop k
theorem cz.insAt{xs:List V}{its:List Hq}{y:V}{u:Hq}(r:cz xs its)(ry:RelV y u)(k:Nat):cz (L2.insAt xs k y) (L2.insAt its k u):=by
 unfold L2.insAt
 induction r generalizing k with
 | nil=>simp;exact .cons ry .nil
 | cons h t ih =>
   cases k with
   | zero=>exact .cons ry (.cons h t)
   | succ k=>exact .cons h (ih k)
variable{X:Cx}
noncomputable def oF:V->List V->Hp->VK->Prop:=fun x vs H Q=>∃l xs i y,x = .ref l/\vs=[.int i,y]/\H l=some (.lst xs)/\0<=i/\i<=xs.length/\xs.length<sizeLine/\Q .non (D8 H l (.lst (insAt xs i.toNat y)))
theorem o0:GR X "list.insert" oF:=by
 intro pins s σ H x vs v us Q I rx rv h
 obtain⟨l,xs,i,y,rfl,rfl,hH,h0,h1,hz,q⟩:=h
 cases rx
 obtain⟨u,u2,rfl,⟨t,rfl⟩,ru⟩:=vals2 rv
 obtain⟨z,its,n,r,hl,e⟩:=I.lstM hH
 have len:xs.length=its.length:=r.length
 have sz:=HM
 have fit:KN i=true:=by simp[KN];omega
 refine Lz F.slot_list_insert ⟨_,e,rfl⟩ F.entry_list_insert (F.args_list_insert_3 _ _ _) (PySem.AutoSeq1.list_insert_list_int_val_1 l its.toArray n i t u2 (by simp[fit]) (by rw[HL];omega)) ⟨e,?_⟩
 refine⟨.non,_,I.lset (its':=insAt its i.toNat u2) hH e ?_ (r.insAt ru _) ?_,rfl,q⟩
 · have hn:¬i<0:=by omega
   have hm:min i.toNat its.length=i.toNat:=by omega
   simp only[hn,if_false,HL,hm]
   unfold insAt
   simp[List.extract_eq_drop_take]
   rw[HE (by rw[Kt];omega)]
 · unfold insAt
   rw[HC,HV,Iz,Kt]
   omega
end L2
namespace L2.VL
section
variable{X:Cx}{rl:RlT}{a e:Expr}{es:List Expr}{fs:Gi}{pos:Pos}
theorem Reps.insAt{K:W.Frag}{F:Hp}{vs:List V}{ds:List Hh}{v:V}{d:Hh}(r:Reps K F vs ds)(h:Rep K F v d)(k:Nat):Reps K F (L2.insAt vs k v) (L2.insAt ds k d):=by
 unfold L2.insAt
 exact(r.take k).append (.cons h (r.drop k))
noncomputable def zQ:List Hh->List W->(List Hh->Prop)->Prop:=fun xs ws Q=>∃i x,gQ ws=some [.int i,x]/\0<=i/\i<=xs.length/\xs.length<sizeLine/\Q (insAt xs i.toNat x)
theorem wP{K:W.Frag}:zX K rl oF zQ:=fun{F H a vs args xs ws} Qn Q s ha rs ra ⟨i,x,e,h0,h1,z,q⟩ k=>by
 have r2:=cN ra e
 cases r2 with
 | cons ri r3 =>
   cases r3 with
   | cons rx r4 =>
     cases r4
     have ei:=aQ ri
     subst ei
     exact⟨a,vs,i,_,rfl,rfl,ha,h0,by rw[rs.length];exact h1,by rw[rs.length];exact z,k _ _ (rs.insAt rx _) q⟩
theorem sI(i:Nat)(ha:GB X rl [a,e] fs)(hN:X.N[i]?=some x:=by rfl)(hv:Gc X.env.scope x:=by first|exact Js rfl|exact IR (Js rfl)|exact IR (IR rfl))
 (hd:(x==("__debug__" : Str))=false:=by decide)(hcd:(x==("__classdict__" : Str))=false:=by decide)
 (hbase:JR (.Name x px) "insert" X.env (eval (.Name x px) X.env)=eval (.Name x px) X.env:=by rfl)
 (hfew:((I0 cpos (Hw [a,e] X.env)).all (fun x=>!x.1)&&(Lx cpos (Kp [] X.env)).all (fun x=>x.1.isSome)
  && decide (([a,e]).length+([]:List KC).length+(if([]:List KC).isEmpty then 0 else 1)<30))=true:=by rfl)
 (hline:(apos.endLine==cpos.line)=true:=by rfl)(hs:Hw [a,e] X.env=(false,eval a X.env)::Hw [e] X.env:=by rfl)(hplain:(I0 cpos (Hw [e] X.env)).any (·.1)=false:=by rfl)
 (hsw:Jr (.Call (.Attribute (.Name x px) "insert" apos) [a,e] [] cpos) none pos.line X.env=pure false:=by rfl) :
 GF X rl (.Expr (.Call (.Attribute (.Name x px) "insert" apos) [a,e] [] cpos) pos) (wA i zQ fs) :=
 nD i PySem.F.slot_list_insert PySem.F.type_list_insert o0 wP ha hN hv hd hcd hbase hfew hline hs hplain hsw
noncomputable def insW(ws:List W):Option (Int×Hh):=match gQ ws with
 | some [.int i,x]=>some (i,x)
 | _=>none
theorem insW_d(i:Int)(x:Hh):insW [.d (.int i),.d x]=some (i,x):=rfl
theorem vV{ws:List W}{p:Int×Hh}:insW ws=some p↔gQ ws=some [.int p.1,p.2]:=by
 constructor
 · intro h
   unfold insW at h
   split at h
   · rename_i i x e;cases h;exact e
   · cases h
 · intro h;unfold insW;rw[h]
theorem m_gIns(xs:List Hh)(ws:List W):zQ xs ws=aO (insW ws) fun p=>FJ (0<=p.1) (FJ (p.1<=xs.length) (FJ (xs.length<sizeLine) (ret (insAt xs p.1.toNat p.2)))):=by
 refine ah fun Q=>?_
 simp only[zQ,aq,vV,FJ,ret]
 exact⟨fun⟨i,x,e,a,b,c,q⟩=>⟨(i,x),e,a,b,c,q⟩,fun⟨p,e,a,b,c,q⟩=>⟨p.1,p.2,e,a,b,c,q⟩⟩
noncomputable def Hb:=Hj @m_gIns (@insW_d)
end
noncomputable def G5(K:W.Frag)(rl:RlT)(H₀ F₁ H₁ F:Hp)(b:Addr)(xs:List Hh):Prop:=∃vs,H₁ b=some (.lst vs)/\F₁ b=none/\rl.a≠some b/\H₀ b=none/\Reps K F vs xs
structure Cl (K:W.Frag) (rl:RlT) (F₀ H₀ F₁ H₁ F:Hp) (a:Addr) (as:List Addr) (xss:List (List Hh)):Prop where
 g:Grow rl F₀ H₀ F₁ H₁
 ha:H₁ a=some (.lst (as.map V.ref))
 ra:rl.a≠some a
 nd:as.Nodup
 nm:a∉as
 inn:IQ (G5 K rl H₀ F₁ H₁ F) as xss
theorem Cl.mono{K:W.Frag}{rl:RlT}{F₀ H₀ F₁ H₁ F F':Hp}{a:Addr}{as:List Addr}{xss:List (List Hh)}(c:Cl K rl F₀ H₀ F₁ H₁ F a as xss)(s:bL F F'):Cl K rl F₀ H₀ F₁ H₁ F' a as xss :=
 ⟨c.g,c.ha,c.ra,c.nd,c.nm,IQ.mapP c.inn fun _ _ ⟨vs,h1,h2,h3,h4,h5⟩=>⟨vs,h1,h2,h3,h4,h5.mono s⟩⟩
theorem gE{α β:Type}{R:α->β->Prop}:∀{xs:List α}{ys:List β},IQ R xs ys->∀{n:Nat}{y:β},ys[n]?=some y->∃x,xs[n]?=some x/\R x y
 | _,_,.nil,n,y,e=>by simp at e
 | _,_,.cons r rs,0,y,e=>by simp at e;subst e;exact⟨_,rfl,r⟩
 | _,_,.cons r rs,n+1,y,e=>by simpa using gE rs (n:=n) (by simpa using e)
theorem jV{α β:Type}{R R':α->β->Prop}{x:α}(k:∀a b,a≠x->R a b->R' a b):∀{xs:List α}{ys:List β},IQ R xs ys->x∉xs->IQ R' xs ys
 | _,_,.nil,_=>.nil
 | _,_,.cons r rs,n=>.cons (k _ _ (fun z=>n (z▸Hy)) r) (jV k rs fun z=>n (Ht _ z))
theorem iC{α β:Type}{R R':α->β->Prop}{x:α}{y:β}(h:R' x y)(k:∀a b,a≠x->R a b->R' a b):∀{xs:List α}{ys:List β},IQ R xs ys->xs.Nodup->∀{n:Nat},xs[n]?=some x->IQ R' xs (ys.set n y)
 | _,_,.nil,_,n,e=>by simp at e
 | x0::xs,y0::ys,.cons r rs,nd,0,e=>by
   simp at e
   subst e
   rw[List.set_cons_zero]
   exact .cons h (jV k rs (JY.mp nd).1)
 | x0::xs,y0::ys,.cons r rs,nd,n+1,e=>by
   rw[List.set_cons_succ]
   have e':xs[n]?=some x:=by simpa using e
   exact .cons (k _ _ (fun z=>(JY.mp nd).1 (z▸JP e')) r) (iC h k rs (JY.mp nd).2 e')
theorem di.apart{K:W.Frag}{o:HO}(r:di K rl F H v w)(ne:w.own=true->v ≠ .ref b)(np:∀xs,w ≠ .pk xs):di K rl F (D8 H b o) v w:=by
 cases w with
 | ml xs=>obtain⟨a,vs,e,h1,h2,h3,h4⟩:=r;exact⟨a,vs,e,h1,h2,by rw[am (fun z=>ne rfl (by rw[e,z]))];exact h3,h4⟩
 | pk xs=>exact absurd rfl (np xs)
 | md kvs=>obtain⟨a,vs,e,h1,h2,h3,h4⟩:=r;exact⟨a,vs,e,h1,h2,by rw[am (fun z=>ne rfl (by rw[e,z]))];exact h3,h4⟩
 | mk kvs=>obtain⟨a,vs,e,h1,h2,h3,h4⟩:=r;exact⟨a,vs,e,h1,h2,by rw[am (fun z=>ne rfl (by rw[e,z]))];exact h3,h4⟩
 | _=>exact r
theorem VR.moved{K:W.Frag}{F₁ H₁:Hp}{o o':HO}(R:VR K rl F₁ H₁ F H σ ρ)(hb:H₁ b=some o)(fb:F₁ b=none)(rb:rl.a≠some b):VR K rl F₁ (D8 H₁ b o') F (D8 H b o') σ ρ:=by
 have f:F b=none:=by rw[R.g.old b _ hb];exact fb
 have neF:∀c u,F c=some u->c≠b:=fun c u q z=>by subst z;rw[f]at q;cases q
 have own:∀{v w},dj H₁ v w->w.own=true->v ≠ .ref b:=fun n ow z=>by have:=n.none ow z;rw[hb]at this;cases this
 refine⟨⟨fun c u q n=>?_,R.g.fs,fun c u q=>by rw[am (neF c u q)];exact R.sub c u q,fun c u q=>?_,fun r er=>?_⟩,fun i w e=>?_,R.ap,R.np,R.len⟩
 · by_cases z:c=b
   · subst z;rw[au]at q ⊢;exact q
   · rw[am z]at q ⊢;exact R.g.same c u q n
 · by_cases z:c=b
   · subst z;rw[f,fb]
   · rw[am z]at q;exact R.g.old c u q
 · obtain⟨h1,⟨o2,h2,h3⟩⟩:=R.g.reel r er
   exact⟨h1,⟨o2,by rw[am (fun z=>rb (by rw[<- z];exact er))];exact h2,h3⟩⟩
 · obtain⟨v,h1,h2,h3⟩:=R.sl i w e
   refine⟨v,h1,h2.apart (own h3) (fun xs z=>R.np i xs (z▸e)),?_⟩
   cases w with
   | ml xs=>exact fun a ea=>by rw[am (fun z=>own h3 rfl (by rw[ea,z]))];exact h3 a ea
   | md xs=>exact fun a ea=>by rw[am (fun z=>own h3 rfl (by rw[ea,z]))];exact h3 a ea
   | mk xs=>exact fun a ea=>by rw[am (fun z=>own h3 rfl (by rw[ea,z]))];exact h3 a ea
   | _=>trivial
theorem Cl.moved{K:W.Frag}{F₁ H₁:Hp}{as:List Addr}(c:Cl K rl F₀ H₀ F₁ H₁ F a as xss)(e:as[n]?=some b)(fb:F₁ b=none)(rb:rl.a≠some b)(h0:H₀ b=none)(rs:Reps K F vs xs) :
 Cl K rl F₀ H₀ F₁ (D8 H₁ b (.lst vs)) F a as (xss.set n xs):=by
 have nb:∀d u,F₁ d=some u->d≠b:=fun d u q z=>by subst z;rw[fb]at q;cases q
 refine⟨⟨fun d u q m=>by rw[am (aX q h0)];exact c.g.same d u q m,c.g.fs,fun d u q=>by rw[am (nb d u q)];exact c.g.sub d u q,c.g.old,fun r er=>?_⟩,?_,c.ra,c.nd,c.nm,iC (R':=G5 K rl H₀ F₁ (D8 H₁ b (.lst vs)) F) (x:=b) ⟨vs,au,fb,rb,h0,rs⟩ (fun d ys nd ⟨us,h1,h2⟩=>⟨us,by rw[am nd];exact h1,h2⟩) c.inn c.nd e⟩
 · obtain⟨h1,⟨o2,h2,h3⟩⟩:=c.g.reel r er
   exact⟨h1,⟨o2,by rw[am (fun z=>rb (by rw[<- z];exact er))];exact h2,h3⟩⟩
 · rw[am (show a≠b from fun z=>by subst z;exact c.nm (JP e))]
   exact c.ha
structure MEnds where
 nx:List (List Hh)->En->Prop
 rt:W->Prop
structure EndsM (K:W.Frag) (rl:RlT) (F₀ H₀:Hp) (a:Addr) (as:List Addr) (Fs:Hp) (Dm:MEnds) (D:Ends):Prop where
 nx:∀F₁ H₁ F H σ ρ xss,bL Fs F->Cl K rl F₀ H₀ F₁ H₁ F a as xss->VR K rl F₁ H₁ F H σ ρ->Dm.nx xss ρ->D.nx σ H
 rt:∀v w F H,Grow rl F₀ H₀ F H->di K rl F H v w->dj H₀ v w->Dm.rt w->D.rt v H
theorem EndsM.on{K:W.Frag}{as:List Addr}{Fs:Hp}{Dm:MEnds}{D:Ends}(ok:EndsM K rl F₀ H₀ a as Fs Dm D)(s:bL Fs F):EndsM K rl F₀ H₀ a as F Dm D :=
 ⟨fun F₁ H₁ F' H σ ρ xss s'=>ok.nx F₁ H₁ F' H σ ρ xss (s.trans s'),ok.rt⟩
abbrev Gk:=Addr->MEnds->List (List Hh)->En->Prop
noncomputable def GG(X:Cx)(rl:RlT)(st:Stmt)(t:Gk):Prop:=∃T,PS X st T/\∀{F₀ H₀ F₁ H₁ F H:Hp}{σ:St}{ρ:En}{a:Addr}{as:List Addr}{xss:List (List Hh)},Cl X.K rl F₀ H₀ F₁ H₁ F a as xss->VR X.K rl F₁ H₁ F H σ ρ->∀Dm D,EndsM X.K rl F₀ H₀ a as F Dm D->t a Dm xss ρ->T D σ H
noncomputable def zD(X:Cx)(rl:RlT)(st:List Stmt)(t:Gk):Prop:=∃T,GE X st T/\∀{F₀ H₀ F₁ H₁ F H:Hp}{σ:St}{ρ:En}{a:Addr}{as:List Addr}{xss:List (List Hh)},Cl X.K rl F₀ H₀ F₁ H₁ F a as xss->VR X.K rl F₁ H₁ F H σ ρ->∀Dm D,EndsM X.K rl F₀ H₀ a as F Dm D->t a Dm xss ρ->T D σ H
noncomputable def yU:Gk:=fun _ Dm xss ρ=>Dm.nx xss ρ
noncomputable def CK(t u:Gk):Gk:=fun a Dm xss ρ=>t a {Dm with nx:=u a Dm} xss ρ
noncomputable def Fb(t:Gj):Gk:=fun _ Dm xss ρ=>t ⟨fun ρ'=>Dm.nx xss ρ',Dm.rt,fun _=>False,fun _=>False⟩ ρ
section
variable{X:Cx}{rl:RlT}{st:Stmt}{rest body:List Stmt}{t:Gj}{u v:Gk}{e:Expr}{fa:TV}{pos p:Pos}
theorem vG:zD X rl [] yU:=⟨_,oN,fun C R Dm D ok q=>ok.nx _ _ _ _ _ _ _ (.refl _) C R q⟩
theorem dO(h:GG X rl st u)(h2:zD X rl rest v):zD X rl (st::rest) (CK u v):=by
 obtain⟨T,p,k⟩:=h
 obtain⟨T2,p2,k2⟩:=h2
 exact⟨_,gc p p2,fun C R Dm D ok q=>k C R {Dm with nx:=v _ Dm} {D with nx:=T2 D} ⟨fun F₁ H₁ F' H' σ' ρ' xss' s' C' R' q'=>k2 C' R' Dm D (ok.on s') q',ok.rt⟩ q⟩
theorem wB(h:GF X rl st t):GG X rl st (Fb t):=by
 obtain⟨T,p,k⟩:=h
 exact⟨T,p,fun C R Dm D ok q=>k R _ D ⟨fun F' H' σ' ρ' s R' q'=>ok.nx _ _ _ _ _ _ _ s (C.mono s) R' q',fun v w F' H' g r n q'=>ok.rt v w F' H' (C.g.trans g) r (dj.back C.g n) q',fun _ _ _ _ _ _ z=>Jb z,fun _ _ _ _ _ _ z=>Jb z⟩ q⟩
noncomputable def CL(fi:En->(List Hh->Prop)->Prop)(g:Go)(t:Gk):Gk:=fun a Dm xss ρ=>fi ρ fun ys=>∃J:Nat->List (List Hh)->En->Prop,J 0 xss ρ /\
 (∀i y xss ρ,ys[i]?=some y->J i xss ρ->g y ρ fun ρ2=>t a {Dm with nx:=J (i+1)} xss ρ2)/\∀xss ρ,J ys.length xss ρ->Dm.nx xss ρ
theorem yT{g:Go}(hp:Na (Il X.prog X.w) X.A X.env X.xe)(hc:X.calm=true)(hi:GJ X rl tg iter fi)(hg:GM X rl tg g)(hb:zD X rl body u)
 (hs:∀x,H0 iter X.env x=pure x:=by intro _;rfl):GG X rl (.For tg iter body [] pos) (CL fi g u):=by
 obtain⟨wi,p0,k0⟩:=hi
 obtain⟨G,p1,k1⟩:=hg
 obtain⟨T,p2,k2⟩:=hb
 refine⟨_,sZ hp hc p0 p1 p2 hs,fun{F₀ H₀ F₁ H₁ F H σ ρ a as xss} C R Dm D ok q=>k0 R _ _ q fun I xs F1 H1 g1 vi ⟨J,j0,turn,fin⟩=>?_⟩
 refine⟨fun i m σ H=>m=xs.length-i/\i<=xs.length/\∃F₁ H₁ F ρ xss,bL F1 F/\Cl X.K rl F₀ H₀ F₁ H₁ F a as xss/\VR X.K rl F₁ H₁ F H σ ρ/\J i xss ρ,⟨xs.length,by simp,HS _,F₁,H₁,F1,ρ,xss,.refl _,C.mono g1.fs,R.grow g1,j0⟩,?_⟩
 rintro i m σ H ⟨rfl,hi,E₁,G₁,F2,ρ2,xs2,s2,C2,R2,j2⟩
 have sH:bL F1 H:=s2.trans R2.sub
 by_cases hlt:i<xs.length
 · have ei:xs[i]?=some xs[i]:=by simp[hlt]
   refine .inr ⟨vi.go i H _ ei sH,fun σ' H'=>∃F₁ H₁ F ρ xss,bL F1 F/\Cl X.K rl F₀ H₀ F₁ H₁ F a as xss/\VR X.K rl F₁ H₁ F H' σ' ρ/\J (i+1) xss ρ,fun σ' H' z=>⟨xs.length-(i+1),by omega,rfl,hlt,z⟩,fun v H' y=>?_⟩
   obtain⟨Fy,gy,rv⟩:=vi.yld i H v H' _ F2 ei s2 R2.sub R2.reel y
   refine k1 (R2.grow gy) v _ _ _ rv (turn i _ xs2 ρ2 ei j2) fun F3 H3 σ3 ρ3 s3 n3 R3 q3=>?_
   have s13:bL F1 F3:=s2.trans (gy.fs.trans s3.fs)
   exact k2 (C2.mono (gy.fs.trans s3.fs)) R3 {Dm with nx:=J (i+1)} _ ⟨fun E' G' F4 H4 σ4 ρ4 xs4 s4 C4 R4 q4=>⟨E',G',F4,ρ4,xs4,s13.trans s4,C4,R4,q4⟩,ok.rt⟩ q3
 · have e:i=xs.length:=by omega
   subst e
   exact .inl ⟨vi.stop _ H (Hs _) sH,ok.nx _ _ _ _ _ _ _ (g1.fs.trans s2) C2 R2 (fin _ _ j2)⟩
noncomputable def Dn(ic ik ix:Nat):Gk:=fun a Dm xss ρ=>ρ[ic]?=some (some (.vv (.ref a)))/\∃(n:Nat)(xs:List Hh)(d:Hh),ρ[ik]?=some (some (.d (.int n)))/\xss[n]?=some xs/\ρ[ix]?=some (some (.d d))/\xs.length<sizeLine/\Dm.nx (xss.set n (xs++[d])) ρ
theorem qr{as:List Addr}(e:as[n]?=some b):atI (as.map V.ref) (n:Int)=some (V.ref b):=by
 have hl:n<as.length:=(HY.mp e).1
 rw[cr]
 unfold atI
 rw[show ixN as.length (n:Int)=some n by unfold ixN;simp;omega,Option.bind_some,e]
 rfl
theorem A5(ic ik ix:Nat){c k:Str}{pc pk p1:Pos} 
 (hc:X.N[ic]?=some c:=by rfl)(vc:Gc X.env.scope c:=by first|exact Js rfl|exact IR (Js rfl)|exact IR (IR rfl))(dc:(c==("__debug__" : Str))=false:=by decide)(ec:(c==("__classdict__" : Str))=false:=by decide)
 (hk:X.N[ik]?=some k:=by rfl)(vk:Gc X.env.scope k:=by first|exact Js rfl|exact IR (Js rfl)|exact IR (IR rfl))(dk:(k==("__debug__" : Str))=false:=by decide)(ek:(k==("__classdict__" : Str))=false:=by decide)
 (hx:X.N[ix]?=some x:=by rfl)(vx:Gc X.env.scope x:=by first|exact Js rfl|exact IR (Js rfl)|exact IR (IR rfl))(dx:(x==("__debug__" : Str))=false:=by decide)(ex:(x==("__classdict__" : Str))=false:=by decide)
 (hs:jx (.Name k pk):=by exact fun _ _=>rfl)
 (hbase:JR (.Subscript (.Name c pc) (.Name k pk) p1) "append" X.env (eval (.Subscript (.Name c pc) (.Name k pk) p1) X.env)=eval (.Subscript (.Name c pc) (.Name k pk) p1) X.env:=by rfl)
 (hfew:((I0 cpos (Hw [.Name x px] X.env)).all (fun x=>!x.1)&&(Lx cpos (Kp [] X.env)).all (fun x=>x.1.isSome)
  && decide (([.Name x px]:List Expr).length+([]:List KC).length+(if([]:List KC).isEmpty then 0 else 1)<30))=true:=by rfl)
 (hline:(apos.endLine==cpos.line)=true:=by rfl)(hst:Hw [.Name x px] X.env=(false,eval (.Name x px) X.env)::Hw [] X.env:=by rfl)(hplain:(I0 cpos (Hw [] X.env)).any (·.1)=false:=by rfl)
 (hsw:Jr (.Call (.Attribute (.Subscript (.Name c pc) (.Name k pk) p1) "append" apos) [.Name x px] [] cpos) none pos.line X.env=pure false:=by rfl) :
 GG X rl (.Expr (.Call (.Attribute (.Subscript (.Name c pc) (.Name k pk) p1) "append" apos) [.Name x px] [] cpos) pos) (Dn ic ik ix):=by
 refine⟨_,kW (vb Kr L6 L7 eL (u9 pH (cQ hc vc dc ec) (cQ hk vk dk ek) hs) (gF (cQ hx vx dx ex) oU hst) hbase hfew hline hst hplain) hsw,fun{F₀ H₀ F₁ H₁ F H σ ρ a as xss} C R Dm D ok ⟨e1,n,xs,d,e2,e3,e4,hl,q⟩=>?_⟩
 obtain⟨v1,s1,rfl,_⟩:=R.sl ic _ e1
 obtain⟨v2,s2,r2,_⟩:=R.sl ik _ e2
 have ev2:=aQ r2
 subst ev2
 obtain⟨v3,s3,r3,_⟩:=R.sl ix _ e4
 obtain⟨b,eb,vs,h1,h2,h3,h4,h5⟩:=gE C.inn e3
 have ha:H a=some (.lst (as.map V.ref)):=R.g.same a _ C.ha C.ra
 have hb:H b=some (.lst vs):=R.g.same b _ h1 h3
 refine⟨_,s1,_,s2,.inl ⟨a,_,_,_,rfl,rfl,.inl (.inl ha),qr eb,.inl ⟨rfl,vs,.inl (.inl hb)⟩,_,s3,b,vs,_,rfl,rfl,hb,by rw[h5.length];exact hl,?_⟩⟩
 exact ok.nx F₁ _ F _ σ ρ _ (.refl _) (C.moved eb h2 h3 h4 (h5.snoc r3)) (R.moved h1 h2 h3) q
noncomputable def Dl(i jf ic ik:Nat)(Pd:List W->(Hh->Prop)->Prop)(f3:TV):Gk:=fun a Dm xss ρ=>ρ[jf]?=some (some .reel)/\ρ[ic]?=some (some (.vv (.ref a)))/\∃(n:Nat)(xs:List Hh),ρ[ik]?=some (some (.d (.int n)))/\xss[n]?=some xs /\
 f3 ρ fun w=>∃b:Bool,w = .d (.bool b)/\Pd [.reel,.d (.list xs),.d (.bool b)] fun d=>(∃p q:Int,d = .tuple [.int p,.int q])/\Dm.nx xss (ρ.set i (some (.d d)))
theorem A3(i jf ic ik:Nat){f h c k:Str}{pf ph pc pk p1:Pos}{e3:Expr}{f3:TV}{ps:List Str}{kk:Nat}{Pd:List W->(Hh->Prop)->Prop}(hN:X.N.Nodup)(Dd:Dfn X.prog X.w X.K X.mg X.base rl f ps kk Pd)(hr:Room kk X.A)(h3:PV X rl e3 f3)
 (hi:X.N[i]?=some x:=by rfl)(hx:Loc X.env.scope x:=by first|exact Js rfl|exact IR rfl)(hf:X.fn x=true\/X.env.scope.names.lookup x=some .local:=by first|exact .inl rfl|exact .inr rfl)
 (hh:X.N[jf]?=some h:=by rfl)(vh:Gc X.env.scope h:=by first|exact Js rfl|exact IR (Js rfl)|exact IR (IR rfl))(dh:(h==("__debug__" : Str))=false:=by decide)(eh:(h==("__classdict__" : Str))=false:=by decide)
 (hc:X.N[ic]?=some c:=by rfl)(vc:Gc X.env.scope c:=by first|exact Js rfl|exact IR (Js rfl)|exact IR (IR rfl))(dc:(c==("__debug__" : Str))=false:=by decide)(ec:(c==("__classdict__" : Str))=false:=by decide)
 (hk:X.N[ik]?=some k:=by rfl)(vk:Gc X.env.scope k:=by first|exact Js rfl|exact IR (Js rfl)|exact IR (IR rfl))(dk:(k==("__debug__" : Str))=false:=by decide)(ek:(k==("__classdict__" : Str))=false:=by decide)
 (hs:jx (.Name k pk):=by exact fun _ _=>rfl)(hg:Gl X f:=by rfl)(hdb:(f==("__debug__" : Str))=false:=by decide)
 (st1:Hw [.Name h ph,.Subscript (.Name c pc) (.Name k pk) p1,e3] X.env=(false,eval (.Name h ph) X.env)::Hw [.Subscript (.Name c pc) (.Name k pk) p1,e3] X.env:=by rfl)
 (st2:Hw [.Subscript (.Name c pc) (.Name k pk) p1,e3] X.env=(false,eval (.Subscript (.Name c pc) (.Name k pk) p1) X.env)::Hw [e3] X.env:=by rfl)(st3:Hw [e3] X.env=(false,eval e3 X.env)::Hw [] X.env:=by rfl)
 (hpl:(I0 cpos (Hw [.Subscript (.Name c pc) (.Name k pk) p1,e3] X.env)).any (·.1)=false:=by rfl)
 (hsw:Jr (.Call (.Name f pf) [.Name h ph,.Subscript (.Name c pc) (.Name k pk) p1,e3] [] cpos) (some (.Name x px)) pos.line X.env=pure false:=by rfl) :
 GG X rl (.Assign [.Name x px] (.Call (.Name f pf) [.Name h ph,.Subscript (.Name c pc) (.Name k pk) p1,e3] [] cpos) pos) (Dl i jf ic ik Pd f3):=by
 obtain⟨fa,fd,hm,hkp,hb,Fk⟩:=Dd.ex
 obtain⟨t3,p3,k3⟩:=h3
 refine⟨_,gC hN hi hx (jb Fk hr hg hm hkp hb .nil ro (gF (cQ hh vh dh eh) (gF (u9 pH (cQ hc vc dc ec) (cQ hk vk dk ek) hs) (gF p3 oU st3) st2) st1) hdb st1 hpl) hsw hf,fun{F₀ H₀ F₁ H₁ F H σ ρ a as xss} C R Dm D ok ⟨e0,e1,n,xs,e2,e3,q⟩=>?_⟩
 obtain⟨v0,s0,⟨r,er,rfl⟩,_⟩:=R.sl jf _ e0
 obtain⟨v1,s1,rfl,_⟩:=R.sl ic _ e1
 obtain⟨v2,s2,r2,_⟩:=R.sl ik _ e2
 have ev2:=aQ r2
 subst ev2
 obtain⟨b,eb,vs,h1,h2,h3,h4,h5⟩:=gE C.inn e3
 have ha:H a=some (.lst (as.map V.ref)):=R.g.same a _ C.ha C.ra
 have hb:H b=some (.lst vs):=R.g.same b _ h1 h3
 refine⟨_,s0,_,s1,_,s2,.inl ⟨a,_,_,_,rfl,rfl,.inl (.inl ha),qr eb,k3 R _ _ q fun v3 w3 F3 H3 g3 r3 n3 ⟨bb,ew,q3⟩=>?_⟩⟩
 subst ew
 have hb3:H3 b=some (.lst vs):=g3.same b _ hb h3
 have fb3:F3 b=none:=by rw[g3.old b _ hb,R.g.old b _ h1];exact h2
 have nb3:∀d u,F3 d=some u->d≠b:=fun d u z y=>by subst y;rw[fb3]at z;cases z
 have fsm:bL F3 (D8 F3 b (.lst vs)):=fun d u z=>by rw[am (nb3 d u z)];exact z
 have sub:bL (D8 F3 b (.lst vs)) H3:=fun d u z=>by
  by_cases y:d=b
  · subst y;rw[au]at z;cases z;exact hb3
  · rw[am y]at z;exact g3.sub d u z
 have ra:Gz rl (D8 F3 b (.lst vs)) H3:=fun r er=>by
  obtain⟨z1,⟨o,z2,z3⟩⟩:=g3.reel r er
  exact⟨by rw[am (fun y=>h3 (by rw[<- y];exact er))];exact z1,⟨o,z2,z3.mono fsm⟩⟩
 have rb:rl.b.1≠b:=by
  obtain⟨_,⟨o,_,_,_,_,_,z,_⟩⟩:=g3.reel r er
  exact nb3 _ _ z
 refine⟨D8 F3 b (.lst vs),[.reel,.d (.list xs),.d (.bool bb)],sub,ra,.cons ⟨r,er,rfl⟩ (.cons (Rep.lst au (h5.mono (g3.fs.trans fsm))) (.cons (Rep.mono fsm r3) .nil)),rfl,Dd.mono _ _ _ (fun d ⟨⟨p,q,ed⟩,qn⟩ v F4 H4 g4 r4=>?_) q3⟩
 subst ed
 have f4b:F4 b=some (.lst vs):=g4.fs b _ au
 let F5:Hp:=fun d=>if d=b then none else F4 d
 have e5:∀d,d≠b->F5 d=F4 d:=fun d y=>if_neg y
 have e5b:F5 b=none:=if_pos rfl
 have g5:Grow rl F3 H3 F5 H4:=by
  refine⟨g4.same,fun d u z=>?_,fun d u z=>?_,fun d u z=>?_,fun r er=>?_⟩
  · rw[e5 d (nb3 d u z)];exact g4.fs d u (fsm d u z)
  · by_cases y:d=b
    · subst y;rw[e5b]at z;cases z
    · rw[e5 d y]at z;exact g4.sub d u z
  · by_cases y:d=b
    · subst y;rw[e5b,fb3]
    · rw[e5 d y,g4.old d u z,am y]
  · obtain⟨z1,⟨o,z2,x1,x2,x3,z3,z4,z5⟩⟩:=g4.reel r er
    exact ⟨by by_cases y:r=b
              · subst y;exact e5b
              · rw[e5 r y];exact z1,⟨o,z2,x1,x2,x3,z3,by rw[e5 _ rb];exact z4,z5⟩⟩
 have r5:Rep X.K F5 v (.tuple [.int p,.int q]):=by
  cases r4 with
  | @tup a' us _ sq rs =>
    have ev:=eJ (ns:=[p,q]) rs
    subst ev
    refine .tup ?_ (gw [p,q])
    rcases sq with(z|⟨o,z⟩)|z
    · exact .inl (.inl (by rw[e5 _ (fun y=>by subst y;rw[f4b]at z;cases z)];exact z))
    · exact .inl (.inr ⟨o,by rw[e5 _ (fun y=>by subst y;rw[f4b]at z;cases z)];exact z⟩)
    · exact .inr z
 exact ok.nx F₁ H₁ F5 H4 _ _ xss (g3.fs.trans g5.fs) (C.mono (g3.fs.trans g5.fs)) (R.set (g3.trans g5) (w:=.d _) r5 trivial (fun _ z=>by cases z) i) qn
end
theorem VR.here{K:W.Frag}(R:VR K rl F₀ H₀ F H σ ρ)(n:kz ρ):VR K rl F H F H σ ρ:=by
 refine⟨Grow.refl R.sub R.reel,fun i w e=>?_,R.ap,R.np,R.len⟩
 obtain⟨v,h1,h2,_⟩:=R.sl i w e
 have ow:=n i w e
 refine⟨v,h1,h2,?_⟩
 cases w with
 | ml _=>cases ow
 | md _=>cases ow
 | mk _=>cases ow
 | _=>trivial
theorem iD{α β:Type}{R:α->β->Prop}{y:β}:∀{xs:List α},(∀x∈xs,R x y)->IQ R xs (Ih xs.length y)
 | [],_=>.nil
 | x::xs,h=>by rw[HV,Jf];exact .cons (h x Hy) (iD fun z mz=>h z (Ht _ mz))
section
variable{X:Cx}{rl:RlT}{rest:List Stmt}{u:Gk}{tg iter:Expr}{scope:Scope}{fi:En->(List Hh->Prop)->Prop}
noncomputable def Fd(ic:Nat)(fi:En->(List Hh->Prop)->Prop)(fr:List (Option Nat))(u:Gk):Gj:=fun Dv ρ=>fi ρ fun xs=>kz ρ/\(∀x,Le (dH fr ρ) ((dH fr ρ).set 0 (some (.d x))))/\xs.length<=sizeLine/\∀a,u a ⟨fun _ _=>False,Dv.rt⟩ (Ih xs.length []) (ρ.set ic (some (.vv (.ref a))))
theorem AY(ic:Nat){b:Bool}{lp:Pos}(hN:X.N.Nodup)(N':List Str)(fr:List (Option Nat))(hc:X.calm=true)(hi:GJ X rl tg iter fi)
 (hg:∀y,GM (blk X N' scope y) rl tg (rR 0))(hrest:zD X rl rest u)
 (hsw:Jr (.ListComp (.List [] lp) [⟨tg,iter,[],0⟩] scope pos) (some (.Name x px)) spos.line X.env=pure b:=by rfl)
 (hix:X.N[ic]?=some x:=by rfl)(hx:Loc X.env.scope x:=by first|exact Js rfl|exact IR rfl)(hf:X.fn x=true\/X.env.scope.names.lookup x=some .local:=by first|exact .inl rfl|exact .inr rfl)
 (hfr:lg fr N' X.N scope X.env.scope=true:=by rfl)(hsc:lK scope X.env.scope=true:=by rfl)
 (hs:∀x,H0 iter X.env x=pure x:=by intro _;rfl):ly X rl (.Assign [.Name x px] (.ListComp (.List [] lp) [⟨tg,iter,[],0⟩] scope pos) spos::rest) (Fd ic fi fr u):=by
 have ht:∀y,kD (blk X N' scope y) rl [] (fun _ Q=>Q true):=fun _=>b8
 have he:∀y,PV (blk X N' scope y) rl (.List [] lp) (zG sM):=fun _=>cf ab
 obtain⟨wi,p0,k0⟩:=hi
 obtain⟨T2,p2,k2⟩:=hrest
 refine⟨_,gc (iB N' fr hc p0 hfr hsc (fun y=>(Ho (hg y)).1) (fun y=>(Ho (ht y)).1) (fun y=>(Ho (he y)).1) hN hix hx hf hsw hs) p2,fun{F₀ H₀ F H σ ρ} R Dv D ok q=>k0 R _ _ q fun J xs F1 H1 g1 vi ⟨nm,le,hz,q1⟩=>?_⟩
 intro a hD
 have rne:∀c,H1 c=none->rl.a≠some c:=fun c z e=>by obtain⟨o,y⟩:=g1.reel.live e;rw[z]at y;cases y
 have rD:=rne a hD
 have FD:F1 a=none:=g1.sub.free hD
 have gD:Grow rl F1 H1 F1 (D8 H1 a (.lst [])):=Grow.laid g1.sub g1.reel hD
 have R1:=R.grow g1
 have n0:kz (dH fr ρ):=cR
 refine⟨fun i m acc σc Hc=>m=xs.length-i/\i<=xs.length/\∃Fc as,acc=as.map V.ref/\as.length=i/\as.Nodup/\a∉as/\(∀b∈as,H1 b=none/\Hc b=some (.lst [])/\Fc b=none)/\VR X.K rl F1 H1 Fc Hc σc (dH fr ρ)/\Hc a=some (.lst acc)/\Fc a=none,
  ⟨xs.length,by simp,HS _,F1,[],rfl,rfl,List.nodup_nil,by simp,by simp,ee R1 gD,au,FD⟩,?_⟩
 rintro z i m acc σc Hc ⟨rfl,hi,Fc,as,rfl,hl,nd,na,hin,Rc,hac,fac⟩
 have sH:bL F1 Hc:=Rc.g.fs.trans Rc.sub
 by_cases hlt:i<xs.length
 · have ei:xs[i]?=some xs[i]:=by simp[hlt]
   refine .inr ⟨vi.go i Hc _ ei sH,fun v H' y=>?_⟩
   obtain⟨Fy,gy,rv⟩:=vi.yld i Hc v H' _ Fc ei Rc.g.fs Rc.sub Rc.reel y
   refine(Ho (hg z)).2 (Rc.grow gy) v _ (fun ρ3=>Le (dH fr ρ) ρ3) _ rv (le _) fun F3 H3 σ3 ρ3 g3 n3 R3 le3=>?_
   refine(Ho (ht z)).2 R3 (fun b=>b=true) _ rfl fun b F4 H4 g4 eb=>?_
   subst eb
   rw[if_pos rfl]
   have R4:=R3.grow g4
   have g34:=(gy.trans g3).trans g4
   refine(Ho (he z)).2 R4 (fun w=>w = .ml []) _ ⟨[],rfl,HS _,rfl⟩ fun v5 w5 F5 H5 g5 r5 n5 ew=>?_
   subst ew
   obtain⟨b,us,rfl,f5,rb,hb5,rs⟩:=(show gZ X.K rl F5 H5 v5 []from r5)
   cases rs
   have hb4:H4 b=none:=n5 b rfl
   have g35:=g34.trans g5
   have hb1:H1 b=none:=(Rc.g.trans g34).freeB hb4
   have ne4:∀c o,Hc c=some o->rl.a≠some c->c≠b:=fun c o e n y=>by have:=g34.same c o e n;rw[y,hb4]at this;cases this
   have nba:a≠b:=ne4 a _ hac rD
   have nb:b∉as:=fun mb=>ne4 b _ (hin b mb).2.1 (rne b hb1) rfl
   refine⟨g35.same a _ hac rD,by rw[Hu];omega,xs.length-(i+1),by omega,rfl,hlt,F5,as++[b],by rw[Iu];rfl,by rw[HC,hl];rfl,?_,?_,fun c mc=>?_,((R4.grow g5).le le3).other n0 hD (by rw[g35.old a _ hac];exact fac) rD,au,by rw[g35.old a _ hac];exact fac⟩
   · refine List.nodup_append.mpr ⟨nd,by simp,fun c mc d md y=>?_⟩
     cases Ie.mp md
     exact nb (y▸mc)
   · simp only[Ik,Ie,not_or]
     exact⟨na,nba⟩
   · rcases Ik.mp mc with mc|mc
     · obtain⟨x1,x2,x3⟩:=hin c mc
       have nc:c≠a:=fun y=>na (y▸mc)
       exact⟨x1,by rw[am nc];exact g35.same c _ x2 (rne c x1),by rw[g35.old c _ x2];exact x3⟩
     · cases Ie.mp mc
       exact⟨hb1,by rw[am nba.symm];exact hb5,f5⟩
 · have e:i=xs.length:=by omega
   subst e
   refine .inl ⟨vi.stop _ Hc (Hs _) sH,?_⟩
   have gg:Grow rl F₀ H₀ Fc Hc:=(R.g.trans g1).trans Rc.g
   have Rn:=(R.grow (g1.trans Rc.g)).here nm
   have inn:IQ (G5 X.K rl H₀ Fc Hc Fc) as (Ih xs.length []):=by
    rw[<- hl]
    exact iD fun b mb=>by
     obtain⟨x1,x2,x3⟩:=hin b mb
     exact⟨[],x2,x3,rne b x1,(R.g.trans g1).freeB x1,.nil⟩
   exact k2 ⟨gg,hac,rD,nd,na,inn⟩ (Rn.set (Grow.refl Rn.sub Rn.reel) (w:=.vv (.ref a)) rfl trivial (fun _ y=>by cases y) ic) _ D ⟨fun _ _ _ _ _ _ _ _ _ _ y=>Jb y,ok.rt⟩ (q1 a)
end
theorem vy(h:ρ.all (fun o=>match o with|some w=>!w.own|none=>true)=true):kz ρ:=fun i w e=>by
 have:=Jy.mp h _ (JP e)
 simpa using this
noncomputable def mQ(Dm:MEnds)(xss:List (List Hh)):Fl->Prop
 | .nx ρ=>Dm.nx xss ρ
 | .rt w=>Dm.rt w
 | _=>False
theorem pd{Dm:MEnds}(h:Dm.nx xss ρ):ret (Fl.nx ρ) (mQ Dm xss):=h
theorem A0{Dm:MEnds}(h:Dm.rt w):ret (Fl.rt w) (mQ Dm xss):=h
theorem cZ{t u:Gk}{Dm:MEnds}(h:t a {Dm with nx:=u a Dm} xss ρ):CK t u a Dm xss ρ:=h
theorem ze{x:Hh}{Q:En->Prop}(h:Q (ρ.set i (some (.d x)))):rR i x ρ Q:=h
theorem pi{g:Go}{t:Gk}{Dm:MEnds}(h:fi ρ fun ys=>∃J:Nat->List (List Hh)->En->Prop,J 0 xss ρ /\
 (∀i y xss ρ,ys[i]?=some y->J i xss ρ->g y ρ fun ρ2=>t a {Dm with nx:=J (i+1)} xss ρ2)/\∀xss ρ,J ys.length xss ρ->Dm.nx xss ρ):CL fi g t a Dm xss ρ:=h
theorem lS{Dm:MEnds}(h:Dm.nx xss ρ):yU a Dm xss ρ:=h
theorem iG{t:Gj}{Dm:MEnds}(h:mS t ρ (mQ Dm xss)):Fb t a Dm xss ρ:=by
 have e:Fb t a Dm xss ρ=mS t ρ (mQ Dm xss):=rfl
 rw[e];exact h
section
variable{X:Cx}{e1:Expr}{f1:TV}{pos dpos q1 q2 q3 q4 q5 q6 q7:Pos}{j1 j2 j3 j4 j5 j6 j7:Nat}
theorem pR{j1 j2 j3 j4 j5 j6 j7}(h1:PV X RlT.no e1 f1) :
 ∃ T,GE X [.Return (some (.Dict [some (.Constant (.str "cells") j1 q1),some (.Constant (.str "at") j2 q2),some (.Constant (.str "left") j3 q3),some (.Constant (.str "turn") j6 q6)] [e1,.Constant (.int 0) j4 q4,.Constant (.int 0) j5 q5,.Constant (.int 0) j7 q7] dpos)) pos] T /\
   ∀ {F H:Hp}{σ:St}{ρ:En},VR X.K RlT.no F H F H σ ρ->∀D:Ends,(f1 ρ fun w=>∃ns:List Int,w = .ml (ns.map .int)/\ns.length<=63) ->
     (∀r n' F' H',H r=none->Grow RlT.no F H F' H'->Gz (RlT.at' r n') F' H'->D.rt (.ref r) H')->T D σ H:=by
 obtain⟨g1,pe1,ke1⟩:=h1
 refine⟨_,oM (sY (oS (cW dw pe1 (cW dw lM (cW dw lM (cW dw lM oO)))) rfl rfl (by intro z;cases z) (by show 4<=15;decide))),fun{F H σ ρ} R D q fin=>?_⟩
 intro p hp
 have gp:Grow RlT.no F H F (D8 H p (.dK [])):=Grow.laid R.sub R.reel hp
 refine ke1 (R.grow gp) _ _ q fun v1 w1 F3 H3 g3 r1 n1 qc=>?_
 obtain⟨ns,rfl,hl⟩:=qc
 obtain⟨F4,g4,s4,r4⟩:=di.fz (w:=.ml (ns.map .int)) g3 r1 n1
 have r4:Rep X.K F4 v1 (.list (ns.map .int)):=r4
 cases r4 with
 | @lst a vs _ hc rs =>
   have ev:=eJ rs
   subst ev
   have hp5:H3 p=some (.dK []):=g3.same p _ au (by simp)
   refine⟨hp5,[(kC,.ref a),(kA,.int 0),(kL,.int 0),(kT,.int 0)],rfl,(by show 4<=15;decide),?_⟩
   rw[ng]
   have f5:F4 p=none:=by rw[g4.old p _ au];exact R.sub.free hp
   have g0:Grow RlT.no F H F4 H3:=gp.trans g4
   refine fin p (a,ns) F4 _ hp ⟨fun b o eb _=>by rw[am (aX eb hp)];exact g0.same b o eb (by simp),g0.fs,fun b o eb=>?_,g0.old,fun _ z=>by cases z⟩ (fun r er=>?_)
   · have:b≠p:=fun z=>by subst z;rw[f5]at eb;cases eb
     rw[am this]
     exact g0.sub b o eb
   · cases er
     exact⟨f5,⟨_,au,0,0,0,rfl,hc,hl,by omega,by omega,by omega⟩⟩
end
end L2.VL
namespace L2
abbrev Fw(elt t1 i1:Expr)(f1:List Expr)(t2 i2:Expr)(f2:List Expr)(scope:Scope)(pos:Pos):Expr:=.ListComp elt [⟨t1,i1,f1,0⟩,⟨t2,i2,f2,0⟩] scope pos
theorem uq(elt t1 i1:Expr)(f1:List Expr)(t2 i2:Expr)(f2:List Expr)(scope:Scope)(pos:Pos)(it acc:Hq)(env:Env) :
 Nf (Fw elt t1 i1 f1 t2 i2 f2 scope pos) 0 it acc env=(MZ i1.pos >>= fun _=>Mw it >>= fun r=>match r with
  | none=>pure (.done .next)
  | some v=>JG t1 it v >>= fun _=>KM t1 env v >>= fun _=>dS f1 env >>= fun ok=>(if ok=true then
      (eval i2 env >>= fun x=>MZ i2.pos >>= fun _=>H0 i2 env x >>= fun x=>holding [x] (NA x) >>= fun y=>runOwn (.compStart (Fw elt t1 i1 f1 t2 i2 f2 scope pos) 1 y acc env) env >>= fun _=>again (.compLoop (Fw elt t1 i1 f1 t2 i2 f2 scope pos) 0 it acc env))
      else again (.compLoop (Fw elt t1 i1 f1 t2 i2 f2 scope pos) 0 it acc env))):=by rfl
theorem uo(elt t1 i1:Expr)(f1:List Expr)(t2 i2:Expr)(f2:List Expr)(scope:Scope)(pos:Pos)(it acc:Hq)(env:Env) :
 Nf (Fw elt t1 i1 f1 t2 i2 f2 scope pos) 1 it acc env=(MZ i2.pos >>= fun _=>Mw it >>= fun r=>match r with
  | none=>pure (.done .next)
  | some v=>JG t2 it v >>= fun _=>KM t2 env v >>= fun _=>dS f2 env >>= fun ok=>(if ok=true then
      ((eval elt env >>= fun x=>call (.builtin "list.append") [acc,x] >>= fun _=>pure ()) >>= fun _=>again (.compLoop (Fw elt t1 i1 f1 t2 i2 f2 scope pos) 1 it acc env))
      else again (.compLoop (Fw elt t1 i1 f1 t2 i2 f2 scope pos) 1 it acc env))):=by rfl
section
variable{prog:Ij}{w:IV}{A:IU}{R:NC->Hv->Prop}{s:Hv}{elt t1 i1 t2 i2:Expr}{f1 f2:List Expr}{scope:Scope}{pos:Pos}{it acc:Hq}{env:Env}
theorem vK(I:Nat->Hv->Prop)(hs:∀x,H0 i2 env x=pure x)
 (turn:∀n s,I n s->Ia (Il prog w) A (Mw it) (fun r s₁=>(r=none/\R (.ok .next) s₁)\/∃v,r=some v /\
  Ia (Il prog w) A (JG t1 it v) (fun _ s₂=>Ia (Il prog w) A (KM t1 env v) (fun _ s₃=>Ia (Il prog w) A (dS f1 env) (fun ok s₄ =>
   if ok=true then Ia (Il prog w) A (eval i2 env) (fun x s₅=>Ia (Il prog w) A (NA x) (fun y s₆=>JW (Il prog w) A (.compStart (Fw elt t1 i1 f1 t2 i2 f2 scope pos) 1 y acc env) (fun r s₇=>r = .ok .next/\∃m,m<n/\I m s₇) s₆) (fun _ _=>False) s₅) (fun _ _=>False) s₄
   else ∃m,m<n/\I m s₄) (fun _ _=>False) s₃) (fun _ _=>False) s₂) (fun _ _=>False) s₁) (fun _ _=>False) s)
 (n:Nat)(h:I n s):JW (Il prog w) A (.compLoop (Fw elt t1 i1 f1 t2 i2 f2 scope pos) 0 it acc env) R s:=by
 refine Mz rfl I (fun n s hI=>?_) n h
 show Ia _ A ((Nf (Fw elt t1 i1 f1 t2 i2 f2 scope pos) 0 it acc env).onRaise (fun x=>do Ng x env;LH x)) _ _ s
 refine M1 ?_
 rw[uq]
 refine Hl (Jq (Hl (Is (turn n s hI) (fun r s₁ h₁=>?_) fun _ _ h'=>h'.elim)))
 rcases h₁ with⟨rfl,h₁⟩|⟨v,rfl,h₁⟩
 · exact HD h₁
 · refine Hl (Is h₁ (fun _ s₂ h₂=>Hl (Is h₂ (fun _ s₃ h₃=>Hl (Is h₃ (fun ok s₄ h₄=>?_) fun _ _ z=>z.elim)) fun _ _ z=>z.elim)) fun _ _ z=>z.elim)
   cases ok with
   | false=>exact HD ⟨rfl,h₄⟩
   | true =>
     refine Hl (Is h₄ (fun x s₅ h₅=>Hl (Jq (Hl (NJ (hs x) (Hl (Kq (Is h₅ (fun y s₆ h₆=>?_) fun _ _ z=>z.elim))))))) fun _ _ z=>z.elim)
     refine Hl (wpAny_runOwn (LS h₆ fun r s₇ ⟨hr,h₇⟩=>?_))
     subst hr
     exact HD ⟨rfl,h₇⟩
theorem vJ(I:Nat->Hv->Prop)
 (turn:∀n s,I n s->Ia (Il prog w) A (Mw it) (fun r s₁=>(r=none/\R (.ok .next) s₁)\/∃v,r=some v /\
  Ia (Il prog w) A (JG t2 it v) (fun _ s₂=>Ia (Il prog w) A (KM t2 env v) (fun _ s₃=>Ia (Il prog w) A (dS f2 env) (fun ok s₄ =>
   if ok=true then Ia (Il prog w) A (eval elt env) (fun x s₅=>Ia (Il prog w) A (call (.builtin "list.append") [acc,x]) (fun _ s₆=>∃m,m<n/\I m s₆) (fun _ _=>False) s₅) (fun _ _=>False) s₄
   else ∃m,m<n/\I m s₄) (fun _ _=>False) s₃) (fun _ _=>False) s₂) (fun _ _=>False) s₁) (fun _ _=>False) s)
 (n:Nat)(h:I n s):JW (Il prog w) A (.compLoop (Fw elt t1 i1 f1 t2 i2 f2 scope pos) 1 it acc env) R s:=by
 refine Mz rfl I (fun n s hI=>?_) n h
 show Ia _ A ((Nf (Fw elt t1 i1 f1 t2 i2 f2 scope pos) 1 it acc env).onRaise (fun x=>do Ng x env;LH x)) _ _ s
 refine M1 ?_
 rw[uo]
 refine Hl (Jq (Hl (Is (turn n s hI) (fun r s₁ h₁=>?_) fun _ _ h'=>h'.elim)))
 rcases h₁ with⟨rfl,h₁⟩|⟨v,rfl,h₁⟩
 · exact HD h₁
 · refine Hl (Is h₁ (fun _ s₂ h₂=>Hl (Is h₂ (fun _ s₃ h₃=>Hl (Is h₃ (fun ok s₄ h₄=>?_) fun _ _ z=>z.elim)) fun _ _ z=>z.elim)) fun _ _ z=>z.elim)
   cases ok with
   | false=>exact HD ⟨rfl,h₄⟩
   | true=>exact Hl (Hl (Is h₄ (fun x s₅ h₅=>Hl (Is h₅ (fun _ s₆ h₆=>HD (HD ⟨rfl,h₆⟩)) fun _ _ z=>z.elim)) fun _ _ z=>z.elim))
theorem qN
 (h0:JW (Il prog w) A (.compLoop (Fw elt t1 i1 f1 t2 i2 f2 scope pos) 1 it acc env) R s)
 (h:Ia (Il prog w) A (NA it) (fun it' s'=>JW (Il prog w) A (.compLoop (Fw elt t1 i1 f1 t2 i2 f2 scope pos) 1 it' acc env) R s') (notedBy (Il prog w) A env fun x s'=>R (.error x) s') s) :
 JW (Il prog w) A (.compStart (Fw elt t1 i1 f1 t2 i2 f2 scope pos) 1 it acc env) R s:=by
 refine codeAny_of_tree ?_
 show Ia _ _ ((compStart (Fw elt t1 i1 f1 t2 i2 f2 scope pos) 1 it acc env).onRaise (fun x=>do Ng x env;MZ theWindowsPlace)) _ _ s
 refine wpAny_notedAt ?_
 unfold compStart
 show Ia _ _ (ask >>= _) _ _ s
 refine Hl (wpAny_askSetting (wpAny_ite ?_))
 split
 · first
     | exact Hl (HD (HD (Hj rfl h0)))
     | exact HD (Hj rfl h0)
 · first
     | exact Hl (Ly (Hl (Jq (Hl (Is h (fun it' s' h'=>HD (Hj rfl h')) fun _ _ x=>x)))))
     | (refine Hl (Ly ?_);show Ia _ _ (MZ i2.pos >>= _) _ _ s;exact Hl (Jq (Hl (Is h (fun it' s' h'=>HD (Hj rfl h')) fun _ _ x=>x))))
end
noncomputable def Em(wi:TI)(g:TG)(tt:TT)(te:TE)(D:Addr)(acc:List V)(σ:St)(H:Hp)(R:List V->St->Hp->Prop):Prop:=wi σ H fun J H1=>∃Wv:Nat->Nat->List V->St->Hp->Prop,(∃m,Wv 0 m acc σ H1) /\
 ∀ i m acc σc H,Wv i m acc σc H->(J.stop i H/\R acc σc H)\/(J.go i H/\∀x H',J.yld i H x H'->g x σc H' fun σ2 H2=>tt σ2 H2 fun b H3 =>
   if b=true then te σ2 H3 fun y H4=>H4 D=some (.lst acc)/\acc.length<sizeLine/\∃m',m'<m/\Wv (i+1) m' (acc++[y]) σ2 (D8 H4 D (.lst (acc++[y])))else ∃m',m'<m/\Wv (i+1) m' acc σ2 H3)
section
variable{Y:Cx}{elt t1 i1 t2 i2:Expr}{f1 f2:List Expr}{scope:Scope}{pos:Pos}{wi:TI}{g:TG}{tt:TT}{te:TE}{D:Addr}
theorem zd(hc:Y.calm=true)(hx:Y.xe=fun _ _=>False)(hi:PI Y t2 i2 wi)(hg:PG Y t2 g)(ht:GD Y f2 tt)(he:PE Y elt te){acc:List V}{R:List V->St->Hp->Prop}{Rp:Hv->Prop}
 (I:Inv Y pins σ H s)(q:Em wi g tt te D acc σ H R)(fin:∀acc σ5 H5 s5,Inv Y pins σ5 H5 s5->R acc σ5 H5->Rp s5) :
 Ia (Il Y.prog Y.w) Y.A (eval i2 Y.env) (fun x s₅=>Ia (Il Y.prog Y.w) Y.A (NA x) (fun y s₆=>JW (Il Y.prog Y.w) Y.A (.compStart (Fw elt t1 i1 f1 t2 i2 f2 scope pos) 1 y (.ref D) Y.env) (fun r s₇=>r = .ok .next/\Rp s₇) s₆) (fun _ _=>False) s₅) (fun _ _=>False) s:=by
 have hi':=hi pins s σ H _ I q
 rw[hx]at hi'
 refine Eg hi' fun v s1 h1=>Eg h1 fun itv s2 h2=>?_
 obtain⟨it,fp,tn,J,H2,e,I2,T,st2,f2',Wv,⟨m0,w0⟩,turn⟩:=h2
 subst e
 have stat:∀{H':Hp},(∀b∈fp,H' b=none)->∀b∈fp,kE Y pins H' b:=fun hn b hb=>⟨hn b hb,(f2' b hb).2⟩
 have loop:JW (Il Y.prog Y.w) Y.A (.compLoop (Fw elt t1 i1 f1 t2 i2 f2 scope pos) 1 (.ref it) (.ref D) Y.env) (fun r s₇=>r = .ok .next/\Rp s₇) s2:=by
  refine vJ (fun n s'=>∃i acc σ' H',Inv Y pins σ' H' s'/\tn i s'.heap/\(∀b∈fp,H' b=none)/\Wv i n acc σ' H') ?_ m0 ⟨0,acc,σ,H2,I2,st2,fun b hb=>(f2' b hb).1,w0⟩
  rintro n s4 ⟨i,acc,σ4,H4,I4,st4,fr4,w4⟩
  rcases turn i n acc σ4 H4 w4 with⟨stop,qn⟩|⟨go,step⟩
  · exact Eg (T.done Y rfl rfl rfl hc i pins s4 σ4 H4 (fun _ _=>False) I4 (stat fr4) st4 stop) fun r s5 ⟨hr,I5⟩=>.inl ⟨hr,rfl,fin acc σ4 H4 s5 I5 qn⟩
  · refine Eg (T.item Y rfl rfl rfl hc i pins s4 σ4 H4 (fun _ _=>False) I4 (stat fr4) st4 go) fun r s5 ⟨u,hr,h5⟩=>.inr ⟨u,hr,?_⟩
    refine Eg h5 fun _ s6 ⟨x,H6,I6,r6,y6,st6,fr6⟩=>?_
    have I6':=I6.pinned (stat fr6) (T.obj _ _ st6)
    have again:∀{σ7:St}{H7:Hp}{s7:Hv},Inv Y (pins++fF fp s6.heap) σ7 H7 s7->∀{acc':List V}{m':Nat},m'<n->Wv (i+1) m' acc' σ7 H7 ->
     ∃m,m<n/\∃i acc σ' H',Inv Y pins σ' H' s7/\tn i s7.heap/\(∀b∈fp,H' b=none)/\Wv i m acc σ' H':=fun{σ7 H7 s7} I7 {acc' m'} hm w7=>by
     refine⟨m',hm,i+1,acc',σ7,H7,I7.unpinned,T.keep _ _ _ st6 fun b hb o e=>(I7.pin (b,o) (HK _ (HK _ (bN hb e)))).1,fun b hb=>?_,w7⟩
     obtain⟨o,e,d⟩:=T.obj _ _ st6 b hb
     exact(I7.pin (b,o) (HK _ (HK _ (bN hb e)))).2.1
    have h7:=hg _ s6 σ4 H6 x u _ I6' r6 (step x H6 y6)
    rw[hx]at h7
    refine Eg h7 fun _ s7 ⟨σ7,H7,I7,q7⟩=>?_
    have h8:=ht _ s7 σ7 H7 _ I7 q7
    rw[hx]at h8
    refine Eg h8 fun ok s8 ⟨H8,I8,q8⟩=>?_
    cases ok with
    | false =>
      rw[if_neg Ic]at q8 ⊢
      obtain⟨m',hm,w8⟩:=q8
      exact again I8 hm w8
    | true =>
      rw[if_pos rfl]at q8 ⊢
      have h9:=he _ s8 σ7 H8 _ I8 q8
      rw[hx]at h9
      refine Eg h9 fun y s9 ⟨yv,H9,I9,r9,eD,hl,m',hm,w9⟩=>?_
      have h10:=eL (X:=Y) _ s9 σ7 H9 (.ref D) [yv] (.ref D) [y] (fun _ H'=>H'=D8 H9 D (.lst (acc++[yv]))) I9 rfl (.cons r9 .nil) ⟨D,acc,yv,rfl,rfl,eD,hl,rfl⟩
      rw[hx]at h10
      exact Eg h10 fun _ s10 ⟨_,H10,I10,_,e10⟩=>by subst e10;exact again I10 hm w9
 exact qN loop (T.self Y.A 0 _ _ _ st2 loop)
end
noncomputable def n6(wi:TI)(fr:List (Option Nat))(g:CompA->TG)(tt:CompA->TT)(wj:CompA->TI)(g2:CompA->TG)(tt2:CompA->TT)(te:CompA->TE):TE:=fun σ H Q=>wi σ H fun J H1=>∀D,H1 D=none->∃Wv:Nat->Nat->List V->St->Hp->Prop,(∃m,Wv 0 m [] (nA fr σ) (D8 H1 D (.lst []))) /\
 ∀ (z:CompA) i m acc σc H,Wv i m acc σc H->(J.stop i H/\Q (.ref D) H)\/(J.go i H/\∀x H',J.yld i H x H'->g z x σc H' fun σ2 H2=>tt z σ2 H2 fun b H3 =>
   if b=true then Em (wj z) (g2 z) (tt2 z) (te z) D acc σ2 H3 fun acc' σ5 H5=>∃m',m'<m/\Wv (i+1) m' acc' σ5 H5 else ∃m',m'<m/\Wv (i+1) m' acc σ2 H3)
section
variable{Y:Cx}{elt t1 i1 t2 i2:Expr}{f1 f2:List Expr}{scope:Scope}{pos:Pos}{wj:TI}{g g2:TG}{tt tt2:TT}{te:TE}{D:Addr}
theorem tm(hc:Y.calm=true)(hx:Y.xe=fun _ _=>False)(hg:PG Y t1 g)(ht:GD Y f1 tt)(hj:PI Y t2 i2 wj)(hg2:PG Y t2 g2)(ht2:GD Y f2 tt2)(he:PE Y elt te)(hs:∀x,H0 i2 Y.env x=pure x)
 {J:It}{Q:VK}(T:Turn Y.prog Y.w Y.K t1 J fp it tn)(I:Inv Y [] σ H s)(st0:tn 0 s.heap)(fp0:∀b∈fp,H b=none)(stat:∀{H':Hp},(∀b∈fp,H' b=none)->∀b∈fp,kE Y [] H' b)
 {Wv:Nat->Nat->List V->St->Hp->Prop}{m0:Nat}(w0:Wv 0 m0 [] σ H)
 (turn:∀i m acc σc H,Wv i m acc σc H->(J.stop i H/\Q (.ref D) H)\/(J.go i H/\∀x H',J.yld i H x H'->g x σc H' fun σ2 H2=>tt σ2 H2 fun b H3 =>
  if b=true then Em wj g2 tt2 te D acc σ2 H3 fun acc' σ5 H5=>∃m',m'<m/\Wv (i+1) m' acc' σ5 H5 else ∃m',m'<m/\Wv (i+1) m' acc σ2 H3)) :
 JW (Il Y.prog Y.w) Y.A (.compStart (Fw elt t1 i1 f1 t2 i2 f2 scope pos) 0 (.ref it) (.ref D) Y.env) (fun r s5=>r = .ok .next/\∃σ5 H4,Inv Y [] σ5 H4 s5/\Q (.ref D) H4) s:=by
 have loop:JW (Il Y.prog Y.w) Y.A (.compLoop (Fw elt t1 i1 f1 t2 i2 f2 scope pos) 0 (.ref it) (.ref D) Y.env) (fun r s5=>r = .ok .next/\∃σ5 H4,Inv Y [] σ5 H4 s5/\Q (.ref D) H4) s:=by
  refine vK (fun n s'=>∃i acc σ' H',Inv Y [] σ' H' s'/\tn i s'.heap/\(∀b∈fp,H' b=none)/\Wv i n acc σ' H') hs ?_ m0 ⟨0,[],_,_,I,st0,fp0,w0⟩
  rintro n s4 ⟨i,acc,σ4,H4,I4,st4,fr4,w4⟩
  rcases turn i n acc σ4 H4 w4 with⟨stop,qn⟩|⟨go,step⟩
  · exact Eg (T.done Y rfl rfl rfl hc i [] s4 σ4 H4 (fun _ _=>False) I4 (stat fr4) st4 stop) fun r s5 ⟨hr,I5⟩=>.inl ⟨hr,rfl,σ4,H4,I5,qn⟩
  · refine Eg (T.item Y rfl rfl rfl hc i [] s4 σ4 H4 (fun _ _=>False) I4 (stat fr4) st4 go) fun r s5 ⟨u,hr,h5⟩=>.inr ⟨u,hr,?_⟩
    refine Eg h5 fun _ s6 ⟨x,H6,I6,r6,y6,st6,fr6⟩=>?_
    have I6':=I6.pinned (stat fr6) (T.obj _ _ st6)
    have again:∀{σ7:St}{H7:Hp}{s7:Hv},Inv Y ([]++fF fp s6.heap) σ7 H7 s7->∀{acc':List V}{m':Nat},m'<n->Wv (i+1) m' acc' σ7 H7 ->
     ∃m,m<n/\∃i acc σ' H',Inv Y [] σ' H' s7/\tn i s7.heap/\(∀b∈fp,H' b=none)/\Wv i m acc σ' H':=fun{σ7 H7 s7} I7 {acc' m'} hm w7=>by
     refine⟨m',hm,i+1,acc',σ7,H7,I7.unpinned,T.keep _ _ _ st6 fun b hb o e=>(I7.pin (b,o) (HK _ (HK _ (bN hb e)))).1,fun b hb=>?_,w7⟩
     obtain⟨o,e,d⟩:=T.obj _ _ st6 b hb
     exact(I7.pin (b,o) (HK _ (HK _ (bN hb e)))).2.1
    have h7:=hg _ s6 σ4 H6 x u _ I6' r6 (step x H6 y6)
    rw[hx]at h7
    refine Eg h7 fun _ s7 ⟨σ7,H7,I7,q7⟩=>?_
    have h8:=ht _ s7 σ7 H7 _ I7 q7
    rw[hx]at h8
    refine Eg h8 fun ok s8 ⟨H8,I8,q8⟩=>?_
    cases ok with
    | false =>
      rw[if_neg Ic]at q8 ⊢
      obtain⟨m',hm,w8⟩:=q8
      exact again I8 hm w8
    | true =>
      rw[if_pos rfl]at q8 ⊢
      exact zd hc hx hj hg2 ht2 he I8 q8 fun acc' σ9 H9 s9 I9 ⟨m',hm,w9⟩=>again I9 hm w9
 exact Mr loop (T.self Y.A 0 _ _ _ st0 loop)
end
section
variable{X:Cx}{elt t1 i1 t2 i2:Expr}{f1 f2:List Expr}{scope:Scope}{pos:Pos}{wi:TI}{wj:CompA->TI}{g g2:CompA->TG}{tt tt2:CompA->TT}{te:CompA->TE}
theorem lK.get{scope scX:Scope}(hsc:lK scope scX=true):scope.kind = .function/\(∀y∈scope.names,y.2 = .cell->scope.names.lookup y.1=some .cell)/\(∀y∈scope.names,y.2 = .local->scope.names.lookup y.1=some .local) /\
 ∀y∈scope.names,y.2 = .free->scX.names.lookup y.1=some .cell\/scX.names.lookup y.1=some .free:=by
 obtain⟨sk,sn⟩:=Hz.mp hsc
 have hall:=Jy.mp sn
 refine⟨of_decide_eq_true sk,fun y hy hl=>?_,fun y hy hl=>?_,fun y hy hl=>?_⟩
 · rcases HW.mp (Hz.mp (Hz.mp (hall y hy)).1).1 with z|z
   · exact absurd hl (of_decide_eq_true z)
   · exact of_decide_eq_true z
 · rcases HW.mp (Hz.mp (Hz.mp (hall y hy)).1).2 with z|z
   · exact absurd hl (of_decide_eq_true z)
   · exact of_decide_eq_true z
 · rcases HW.mp (Hz.mp (hall y hy)).2 with z|z
   · exact absurd hl (of_decide_eq_true z)
   · exact(HW.mp z).imp of_decide_eq_true of_decide_eq_true
theorem jU(N':List Str)(fr:List (Option Nat))(hc:X.calm=true)(hi:PI X t1 i1 wi)(hfr:lg fr N' X.N scope X.env.scope=true)(hsc:lK scope X.env.scope=true)
 (hg:∀y,PG (blk X N' scope y) t1 (g y))(ht:∀y,GD (blk X N' scope y) f1 (tt y))(hj:∀y,PI (blk X N' scope y) t2 i2 (wj y))(hg2:∀y,PG (blk X N' scope y) t2 (g2 y))(ht2:∀y,GD (blk X N' scope y) f2 (tt2 y))(he:∀y,PE (blk X N' scope y) elt (te y))
 (hs:∀x,H0 i1 X.env x=pure x:=by intro _;rfl)(hs2:∀y x,H0 i2 (blk X N' scope y).env x=pure x:=by intro _ _;rfl):PE X (Fw elt t1 i1 f1 t2 i2 f2 scope pos) (n6 wi fr g tt wj g2 tt2 te):=by
 intro pins s σ H Q I h
 obtain⟨hkind,hcell,hnames,hfree⟩:=lK.get hsc
 obtain⟨frl,frg⟩:=lg.get hfr
 obtain⟨cl,hclos,cl1,cl2⟩:=cq (env:=X.env) (scope:=scope) fun y hy hl=>I.ok.has y.1 (hfree y hy hl)
 rw[eval_ListComp]
 refine Jt (use:=none) rfl hs hclos hkind hnames (Eg (hi pins s σ H _ I h) fun v s1 h1=>Eg h1 fun itv s2 h2=>?_)
 obtain⟨it,fp,tn,J,H2,e,I2,T,st2,f2,q2⟩:=h2
 subst e
 refine IL ?_
 have hD:H2 s2.heap.objs.size=none:=I2.hok.fresh (Hs _)
 have I3:Inv X pins σ (D8 H2 s2.heap.objs.size (.lst [])) {s2 with heap:=s2.heap.push {cls:=.type "list", data:=.seq ([]:List Hq).toArray}} :=
  I2.laid (t':=s2.toks) (fun b u e=>Hm _ e) (Hs _) ⟨by show 0<=sizeLine;exact HS _,[],0,.nil,HR _ rfl⟩
 obtain⟨Wv,⟨m0,w0⟩,turn⟩:=q2 _ hD
 have tn3:tn 0 (s2.heap.push {cls:=.type "list", data:=.seq ([]:List Hq).toArray}):=T.keep _ _ _ st2 fun b _ o e=>Hm _ e
 have fpD:∀b∈fp,(D8 H2 s2.heap.objs.size (.lst [])) b=none:=fun b hb=>by
  obtain⟨o,e,_⟩:=T.obj _ _ st2 b hb
  rw[am (Im (HJ e))]
  exact(f2 b hb).1
 have fp3:∀b∈fp,b<(s2.heap.push {cls:=.type "list", data:=.seq ([]:List Hq).toArray}).objs.size:=fun b hb=>by
  obtain⟨o,e,_⟩:=T.obj _ _ tn3 b hb
  exact HJ e
 exact db N' fr hc hkind hcell hfree frl frg cl1 cl2 I3 T tn3 fpD fp3 (fun b hb=>(f2 b hb).2)
  (fun s' IY tY stat=>tm (Y:=blk X N' scope ⟨cl,fp,X.pn++pins,_,_⟩) hc rfl (hg ⟨cl,fp,X.pn++pins,_,_⟩) (ht ⟨cl,fp,X.pn++pins,_,_⟩) (hj ⟨cl,fp,X.pn++pins,_,_⟩) (hg2 ⟨cl,fp,X.pn++pins,_,_⟩) (ht2 ⟨cl,fp,X.pn++pins,_,_⟩) (he ⟨cl,fp,X.pn++pins,_,_⟩) (hs2 ⟨cl,fp,X.pn++pins,_,_⟩) T IY tY fpD stat w0 (turn ⟨cl,fp,X.pn++pins,_,_⟩))
  (Rp:=Nh (Il X.prog X.w) X.A X.xe none (EP X pins σ Q) (.ref s2.heap.objs.size)) fun s5 H4 m hn k _ qn=>⟨m,hn,fun h' hs'=>⟨.ref _,H4,k h' hs',rfl,qn⟩⟩
theorem kU{b:Bool}{ix:Nat}(N':List Str)(fr:List (Option Nat))(hc:X.calm=true)(hi:PI X t1 i1 wi)(hfr:lg fr N' X.N scope X.env.scope=true)(hsc:lK scope X.env.scope=true)
 (hg:∀y,PG (blk X N' scope y) t1 (g y))(ht:∀y,GD (blk X N' scope y) f1 (tt y))(hj:∀y,PI (blk X N' scope y) t2 i2 (wj y))(hg2:∀y,PG (blk X N' scope y) t2 (g2 y))(ht2:∀y,GD (blk X N' scope y) f2 (tt2 y))(he:∀y,PE (blk X N' scope y) elt (te y))
 (hN:X.N.Nodup)(hix:X.N[ix]?=some x)(hx:Loc X.env.scope x)(hf:X.fn x=true\/X.env.scope.names.lookup x=some .local)(hsw:Jr (Fw elt t1 i1 f1 t2 i2 f2 scope pos) (some (.Name x px)) spos.line X.env=pure b)
 (hs:∀x,H0 i1 X.env x=pure x)(hs2:∀y x,H0 i2 (blk X N' scope y).env x=pure x):PS X (.Assign [.Name x px] (Fw elt t1 i1 f1 t2 i2 f2 scope pos) spos) (xC (n6 wi fr g tt wj g2 tt2 te) (jn ix)):=by
 cases b with
 | false=>exact gC hN hix hx (jU N' fr hc hi hfr hsc hg ht hj hg2 ht2 he hs hs2) hsw hf
 | true =>
 intro pins s σ H DD I h
 obtain⟨hkind,hcell,hnames,hfree⟩:=lK.get hsc
 obtain⟨frl,frg⟩:=lg.get hfr
 obtain⟨cl,hclos,cl1,cl2⟩:=cq (env:=X.env) (scope:=scope) fun y hy hl=>I.ok.has y.1 (hfree y hy hl)
 rw[Ll _ _ _ _ hsw]
 refine Hl (Jq (Hl ?_))
 show Ia _ X.A (do let _ <- Ni (Fw elt t1 i1 f1 t2 i2 f2 scope pos) scope X.env _ (newList []) false (eval i1 X.env) (some (KM (.Name x px) X.env))) _ _ s
 refine Hl (Is (Jt (use:=some (KM (.Name x px) X.env)) (Q:=fun _ s'=>SP X pins DD .next s') rfl hs hclos hkind hnames
  (Eg (hi pins s σ H _ I h) fun v s1 h1=>Eg h1 fun itv s2 h2=>?_)) (fun _ s' hq=>HD (HD hq)) fun _ _ e=>e)
 obtain⟨it,fp,tn,J,H2,e,I2,T,st2,f2,q2⟩:=h2
 subst e
 refine IL ?_
 have hD:H2 s2.heap.objs.size=none:=I2.hok.fresh (Hs _)
 have I3:Inv X pins σ (D8 H2 s2.heap.objs.size (.lst [])) {s2 with heap:=s2.heap.push {cls:=.type "list", data:=.seq ([]:List Hq).toArray}} :=
  I2.laid (t':=s2.toks) (fun b u e=>Hm _ e) (Hs _) ⟨by show 0<=sizeLine;exact HS _,[],0,.nil,HR _ rfl⟩
 obtain⟨Wv,⟨m0,w0⟩,turn⟩:=q2 _ hD
 have tn3:tn 0 (s2.heap.push {cls:=.type "list", data:=.seq ([]:List Hq).toArray}):=T.keep _ _ _ st2 fun b _ o e=>Hm _ e
 have fpD:∀b∈fp,(D8 H2 s2.heap.objs.size (.lst [])) b=none:=fun b hb=>by
  obtain⟨o,e,_⟩:=T.obj _ _ st2 b hb
  rw[am (Im (HJ e))]
  exact(f2 b hb).1
 have fp3:∀b∈fp,b<(s2.heap.push {cls:=.type "list", data:=.seq ([]:List Hq).toArray}).objs.size:=fun b hb=>by
  obtain⟨o,e,_⟩:=T.obj _ _ tn3 b hb
  exact HJ e
 refine db (Q:=fun v H1=>jn ix v σ H1 DD.nx) N' fr hc hkind hcell hfree frl frg cl1 cl2 I3 T tn3 fpD fp3 (fun b hb=>(f2 b hb).2)
  (fun s' IY tY stat=>tm (Y:=blk X N' scope ⟨cl,fp,X.pn++pins,_,_⟩) (Q:=fun v H1=>jn ix v σ H1 DD.nx) hc rfl (hg ⟨cl,fp,X.pn++pins,_,_⟩) (ht ⟨cl,fp,X.pn++pins,_,_⟩) (hj ⟨cl,fp,X.pn++pins,_,_⟩) (hg2 ⟨cl,fp,X.pn++pins,_,_⟩) (ht2 ⟨cl,fp,X.pn++pins,_,_⟩) (he ⟨cl,fp,X.pn++pins,_,_⟩) (hs2 ⟨cl,fp,X.pn++pins,_,_⟩) T IY tY fpD stat w0 (turn ⟨cl,fp,X.pn++pins,_,_⟩))
  (Rp:=Nh (Il X.prog X.w) X.A X.xe (some (KM (.Name x px) X.env)) (fun _ s'=>SP X pins DD .next s') (.ref s2.heap.objs.size)) fun s5 H4 m hn k fpo qn=>?_
 show Ia _ X.A (KM (.Name x px) X.env (.ref s2.heap.objs.size)) _ _ s5
 have I5:Inv X pins σ H4 s5:=k s5.heap (L8 _ _)
 obtain⟨f0,f1,f2',f3,f4,f5⟩:=fpo
 refine La (eC I5 hN hix hx (v:=.ref s2.heap.objs.size) rfl (fun s6 I6 sb=>?_) hf)
 obtain⟨a,sb,ha⟩:=sb
 have hne:(s2.heap.push {cls:=.type "list", data:=.seq ([]:List Hq).toArray}).objs.size≠a:=by
  rcases ha with rfl|ha
  · exact f1
  · exact fun z=>f4 x a ha z.symm
 refine⟨m,hn.at' fun o e=>sb.extBut _ o hne e,fun h' hs'=>?_⟩
 exact⟨_,H4,I6.turned (t':=s6.toks) (fun b o hb e=>hs'.extBut b o hb e) f0 f1 f3 f4 f5,qn⟩
end
end L2
namespace L2.VL
noncomputable def qI(ρ0:En)(g:Go)(ft:TB)(fj:En->(List Hh->Prop)->Prop)(g2:Go)(ft2:TB)(fe:TV):List Hh->List Hh->(List Hh->Prop)->Prop
 | [],acc,Q=>Q acc
 | x::xs,acc,Q=>g x ρ0 fun ρ2=>Le ρ0 ρ2/\ft ρ2 fun b=>if b=true then fj ρ2 fun ys=>nw ρ2 g2 ft2 fe ys acc fun acc'=>qI ρ0 g ft fj g2 ft2 fe xs acc' Q else qI ρ0 g ft fj g2 ft2 fe xs acc Q
noncomputable def lF(fi:En->(List Hh->Prop)->Prop)(fr:List (Option Nat))(g:Go)(ft:TB)(fj:En->(List Hh->Prop)->Prop)(g2:Go)(ft2:TB)(fe:TV):TV:=fun ρ Q=>fi ρ fun xs=>qI (dH fr ρ) g ft fj g2 ft2 fe xs [] fun ds=>Q (.ml ds)
section
variable{X:Cx}{rl:RlT}{elt t1 i1 t2 i2:Expr}{f1 f2:List Expr}{scope:Scope}{pos:Pos}{fi fj:En->(List Hh->Prop)->Prop}{g g2:Go}{ft ft2:TB}{fe:TV}
theorem lW{wi:TI}(fr:List (Option Nat))(k0:∀{F₀ H₀ F H:Hp}{σ:St}{ρ:En},VR X.K rl F₀ H₀ F H σ ρ->∀(Qd:List Hh->Prop)(R:It->Hp->Prop),fi ρ Qd ->
 (∀J xs F' H',Grow rl F H F' H'->VIt X.K rl F' J xs->Qd xs->R J H')->wi σ H R)
 (hg:∀y,GM (blk X N' scope y) rl t1 g)(ht:∀y,kD (blk X N' scope y) rl f1 ft)(hj:∀y,GJ (blk X N' scope y) rl t2 i2 fj)(hg2:∀y,GM (blk X N' scope y) rl t2 g2)(ht2:∀y,kD (blk X N' scope y) rl f2 ft2)(he:∀y,PV (blk X N' scope y) rl elt fe)
 (R:VR X.K rl F₀ H₀ F H σ ρ)(Qd:W->Prop)(Q:VK)(q:lF fi fr g ft fj g2 ft2 fe ρ Qd)
 (k:∀v w F' H',Grow rl F H F' H'->di X.K rl F' H' v w->dj H v w->Qd w->Q v H') :
 n6 wi fr (fun y=>ID (hg y)) (fun y=>ID (ht y)) (fun y=>ID (hj y)) (fun y=>ID (hg2 y)) (fun y=>ID (ht2 y)) (fun y=>ID (he y)) σ H Q:=by
 refine k0 R _ _ q fun J xs F1 H1 g1 vi q1=>?_
 intro D hD
 have rD:rl.a≠some D:=fun e=>by obtain⟨o,z⟩:=g1.reel.live e;rw[hD]at z;cases z
 have FD:F1 D=none:=g1.sub.free hD
 have gD:Grow rl F1 H1 F1 (D8 H1 D (.lst [])):=Grow.laid g1.sub g1.reel hD
 have R1:=R.grow g1
 have n0:kz (dH fr ρ):=cR
 have keepD:∀{acc:List V}{Fc Hc Fx Hx:Hp},Hc D=some (.lst acc)->Fc D=none->Grow rl Fc Hc Fx Hx->Hx D=some (.lst acc)/\Fx D=none:=fun hDc fDc gx=>⟨gx.same D _ hDc rD,by rw[gx.old D _ hDc];exact fDc⟩
 refine⟨fun i m acc σc Hc=>m=xs.length-i/\i<=xs.length/\∃Fc ds,VR X.K rl F1 H1 Fc Hc σc (dH fr ρ)/\Hc D=some (.lst acc)/\Fc D=none/\Reps X.K Fc acc ds/\qI (dH fr ρ) g ft fj g2 ft2 fe (xs.drop i) ds (fun ds=>Qd (.ml ds)),
  ⟨xs.length,by simp,HS _,F1,[],ee R1 gD,au,FD,.nil,by simpa using q1⟩,?_⟩
 rintro z i m acc σc Hc ⟨rfl,hi,Fc,ds,Rc,hDc,fDc,rs,q2⟩
 have sH:bL F1 Hc:=Rc.g.fs.trans Rc.sub
 by_cases hlt:i<xs.length
 · have ei:xs[i]?=some xs[i]:=by simp[hlt]
   have ed:xs.drop i=xs[i]::xs.drop (i+1):=IP hlt
   rw[ed]at q2
   refine .inr ⟨vi.go i Hc _ ei sH,fun v H' y=>?_⟩
   obtain⟨Fy,gy,rv⟩:=vi.yld i Hc v H' _ Fc ei Rc.g.fs Rc.sub Rc.reel y
   refine(Ho (hg z)).2 (Rc.grow gy) v _ _ _ rv q2 fun F3 H3 σ3 ρ3 g3 n3 R3 ⟨le3,q3⟩=>?_
   refine(Ho (ht z)).2 R3 _ _ q3 fun b F4 H4 g4 q4=>?_
   have R4:=R3.grow g4
   have g34:=(gy.trans g3).trans g4
   have nm3:kz ρ3:=n3 n0
   cases b with
   | false=>exact⟨xs.length-(i+1),by omega,rfl,hlt,F4,ds,R4.le le3,(keepD hDc fDc g34).1,(keepD hDc fDc g34).2,rs.mono g34.fs,q4⟩
   | true =>
     refine(Ho (hj z)).2 R4 _ _ q4 fun J2 ys F5 H5 g5 vi2 q5=>?_
     have g35:=g34.trans g5
     refine⟨fun j m acc σe He=>m=ys.length-j/\j<=ys.length/\∃Fe es,VR X.K rl F1 H1 Fe He σe ρ3/\bL F5 Fe/\He D=some (.lst acc)/\Fe D=none/\Reps X.K Fe acc es /\
      nw ρ3 g2 ft2 fe (ys.drop j) es (fun es=>qI (dH fr ρ) g ft fj g2 ft2 fe (xs.drop (i+1)) es (fun ds=>Qd (.ml ds))),
      ⟨ys.length,by simp,HS _,F5,ds,R4.grow g5,.refl _,(keepD hDc fDc g35).1,(keepD hDc fDc g35).2,rs.mono g35.fs,by simpa using q5⟩,?_⟩
     rintro j m acc2 σe He ⟨rfl,hj',Fe,es,Re,s5,hDe,fDe,res,q6⟩
     have sHe:bL F5 He:=s5.trans Re.sub
     by_cases hlt2:j<ys.length
     · have ej:ys[j]?=some ys[j]:=by simp[hlt2]
       have edj:ys.drop j=ys[j]::ys.drop (j+1):=IP hlt2
       rw[edj]at q6
       refine .inr ⟨vi2.go j He _ ej sHe,fun v2 H2' y2=>?_⟩
       obtain⟨Fy2,gy2,rv2⟩:=vi2.yld j He v2 H2' _ Fe ej s5 Re.sub Re.reel y2
       refine(Ho (hg2 z)).2 (Re.grow gy2) v2 _ _ _ rv2 q6 fun F7 H7 σ7 ρ7 g7 n7 R7 ⟨le7,q7⟩=>?_
       refine(Ho (ht2 z)).2 R7 _ _ q7 fun b2 F8 H8 g8 q8=>?_
       have R8:=R7.grow g8
       have g78:=(gy2.trans g7).trans g8
       cases b2 with
       | false=>exact⟨ys.length-(j+1),by omega,rfl,hlt2,F8,es,R8.le le7,s5.trans g78.fs,(keepD hDe fDe g78).1,(keepD hDe fDe g78).2,res.mono g78.fs,q8⟩
       | true =>
         refine(Ho (he z)).2 R8 _ _ q8 fun v9 w9 F9 H9 g9 r9 n9 ⟨d,ed9,hl,q9⟩=>?_
         obtain⟨F10,g10,s10,r10⟩:=di.fz g9 r9 n9
         rw[ed9]at r10
         have g710:=g78.trans g10
         refine⟨(keepD hDe fDe g710).1,by rw[res.length];exact hl,ys.length-(j+1),by omega,rfl,hlt2,F10,es++[d],((R8.grow g10).le le7).other nm3 hD (keepD hDe fDe g710).2 rD,s5.trans g710.fs,au,(keepD hDe fDe g710).2,(res.mono g710.fs).snoc r10,q9⟩
     · have e:j=ys.length:=by omega
       subst e
       rw[JL]at q6
       exact .inl ⟨vi2.stop _ He (Hs _) sHe,xs.length-(i+1),by omega,rfl,hlt,Fe,es,Re.le le3,hDe,fDe,res,q6⟩
 · have e:i=xs.length:=by omega
   subst e
   rw[JL]at q2
   refine .inl ⟨vi.stop _ Hc (Hs _) sH,k _ (.ml ds) Fc Hc (g1.trans Rc.g) ⟨D,acc,rfl,fDc,rD,hDc,rs⟩ (fun a ea=>by cases ea;exact g1.freeB hD) q2⟩
theorem qE(N':List Str)(fr:List (Option Nat))(hc:X.calm=true)(hi:GJ X rl t1 i1 fi)
 (hg:∀y,GM (blk X N' scope y) rl t1 g)(ht:∀y,kD (blk X N' scope y) rl f1 ft)(hj:∀y,GJ (blk X N' scope y) rl t2 i2 fj)(hg2:∀y,GM (blk X N' scope y) rl t2 g2)(ht2:∀y,kD (blk X N' scope y) rl f2 ft2)(he:∀y,PV (blk X N' scope y) rl elt fe)
 (hfr:lg fr N' X.N scope X.env.scope=true:=by rfl)(hsc:lK scope X.env.scope=true:=by rfl)
 (hs:∀x,H0 i1 X.env x=pure x:=by intro _;rfl)(hs2:∀y x,H0 i2 (blk X N' scope y).env x=pure x:=by intro _ _;rfl):PV X rl (.ListComp elt [⟨t1,i1,f1,0⟩,⟨t2,i2,f2,0⟩] scope pos) (lF fi fr g ft fj g2 ft2 fe):=by
 obtain⟨wi,p0,k0⟩:=hi
 exact⟨_,jU N' fr hc p0 hfr hsc (fun y=>(Ho (hg y)).1) (fun y=>(Ho (ht y)).1) (fun y=>(Ho (hj y)).1) (fun y=>(Ho (hg2 y)).1) (fun y=>(Ho (ht2 y)).1) (fun y=>(Ho (he y)).1) hs hs2,
  fun R Qd Q q k=>lW fr k0 hg ht hj hg2 ht2 he R Qd Q q k⟩
theorem gi(i:Nat){b:Bool}(hN:X.N.Nodup)(N':List Str)(fr:List (Option Nat))(hc:X.calm=true)(hi:GJ X rl t1 i1 fi)
 (hg:∀y,GM (blk X N' scope y) rl t1 g)(ht:∀y,kD (blk X N' scope y) rl f1 ft)(hj:∀y,GJ (blk X N' scope y) rl t2 i2 fj)(hg2:∀y,GM (blk X N' scope y) rl t2 g2)(ht2:∀y,kD (blk X N' scope y) rl f2 ft2)(he:∀y,PV (blk X N' scope y) rl elt fe)
 (hsw:Jr (.ListComp elt [⟨t1,i1,f1,0⟩,⟨t2,i2,f2,0⟩] scope pos) (some (.Name x px)) spos.line X.env=pure b:=by rfl)
 (hix:X.N[i]?=some x:=by rfl)(hx:Loc X.env.scope x:=by first|exact Js rfl|exact IR rfl)(hf:X.fn x=true\/X.env.scope.names.lookup x=some .local:=by first|exact .inl rfl|exact .inr rfl)
 (hfr:lg fr N' X.N scope X.env.scope=true:=by rfl)(hsc:lK scope X.env.scope=true:=by rfl)
 (hs:∀x,H0 i1 X.env x=pure x:=by intro _;rfl)(hs2:∀y x,H0 i2 (blk X N' scope y).env x=pure x:=by intro _ _;rfl) :
 GF X rl (.Assign [.Name x px] (.ListComp elt [⟨t1,i1,f1,0⟩,⟨t2,i2,f2,0⟩] scope pos) spos) (qH i (lF fi fr g ft fj g2 ft2 fe)):=by
 obtain⟨wi,p0,k0⟩:=hi
 refine⟨_,kU N' fr hc p0 hfr hsc (fun y=>(Ho (hg y)).1) (fun y=>(Ho (ht y)).1) (fun y=>(Ho (hj y)).1) (fun y=>(Ho (hg2 y)).1) (fun y=>(Ho (ht2 y)).1) (fun y=>(Ho (he y)).1) hN hix hx hf hsw hs hs2,
  fun R Dv D ok q=>lW fr k0 hg ht hj hg2 ht2 he R _ _ q fun v w F1 H1 g1 r1 n1 ⟨d,ed,q1⟩=>?_⟩
 obtain⟨F2,g2,s2,r2⟩:=di.fz g1 r1 n1
 rw[ed]at r2
 exact ok.nx _ _ _ _ g2.fs (R.set g2 r2 trivial (fun xs z=>by cases z) i) q1
end
noncomputable def pI(ρ0:En)(g:Go)(ft:TB)(fj:En->(List Hh->Prop)->Prop)(g2:Go)(ft2:TB)(fe:TV)(x:Hh)(acc:List Hh):Mo (List Hh) :=
 FV (g x ρ0) fun ρ2=>FJ (Le ρ0 ρ2) (FV (ft ρ2) fun b=>if b=true then FV (fj ρ2) fun ys=>cw (FB ρ2 g2 ft2 fe) ys acc else ret acc)
noncomputable def eS(b:Hh->List Hh->Mo (List Hh)):List Hh->List Hh->Mo (List Hh)
 | [],acc=>ret acc
 | x::xs,acc=>FV (b x acc) (eS b xs)
theorem mw(ρ0:En)(g:Go)(ft:TB)(fj:En->(List Hh->Prop)->Prop)(g2:Go)(ft2:TB)(fe:TV):∀(xs acc:List Hh),qI ρ0 g ft fj g2 ft2 fe xs acc=eS (pI ρ0 g ft fj g2 ft2 fe) xs acc
 | [],acc=>rfl
 | x::xs,acc=>by
   refine ah fun Q=>?_
   show(g x ρ0 fun ρ2=>Le ρ0 ρ2/\ft ρ2 fun b=>if b=true then fj ρ2 fun ys=>nw ρ2 g2 ft2 fe ys acc fun acc'=>qI ρ0 g ft fj g2 ft2 fe xs acc' Q else qI ρ0 g ft fj g2 ft2 fe xs acc Q)↔(FV (pI ρ0 g ft fj g2 ft2 fe x acc) (eS (pI ρ0 g ft fj g2 ft2 fe) xs)) Q
   simp only[mw ρ0 g ft fj g2 ft2 fe xs,lq]
   have:∀(ρ2:En)(b:Bool),(if b=true then fj ρ2 fun ys=>cw (FB ρ2 g2 ft2 fe) ys acc fun acc'=>eS (pI ρ0 g ft fj g2 ft2 fe) xs acc' Q else eS (pI ρ0 g ft fj g2 ft2 fe) xs acc Q)
    = (FV (if b=true then FV (fj ρ2) fun ys=>cw (FB ρ2 g2 ft2 fe) ys acc else ret acc) (eS (pI ρ0 g ft fj g2 ft2 fe) xs)) Q:=by
    intro ρ2 b
    cases b<;>rfl
   simp only[this]
   exact Ls
theorem m_comp2(fi:En->(List Hh->Prop)->Prop)(fr:List (Option Nat))(g:Go)(ft:TB)(fj:En->(List Hh->Prop)->Prop)(g2:Go)(ft2:TB)(fe:TV)(ρ:En) :
 lF fi fr g ft fj g2 ft2 fe ρ=FV (fi ρ) fun xs=>FV (eS (pI (dH fr ρ) g ft fj g2 ft2 fe) xs []) fun ds=>ret (.ml ds):=by
 refine ah fun Q=>?_
 show(fi ρ fun xs=>qI (dH fr ρ) g ft fj g2 ft2 fe xs [] fun ds=>Q (.ml ds))↔_
 simp only[mw]
 exact Ls
section
variable{α β:Type}{b:Hh->Mo (Option Hh)}
theorem lv{c:Hh->List Hh->Mo (List Hh)}{xs:List α}{enc:α->Hh}(F:α->List Hh)(h:∀x∈xs,∀acc:List Hh,acc.length+(F x).length<=sizeLine->c (enc x) acc=ret (acc++F x)) :
 ∀acc:List Hh,acc.length+(xs.flatMap F).length<=sizeLine->eS c (xs.map enc) acc=ret (acc++xs.flatMap F):=by
 induction xs with
 | nil=>intro acc _;show ret acc=_;simp
 | cons x xs ih =>
   intro acc hl
   rw[IB,HC]at hl
   show FV (c (enc x) acc) _=_
   rw[h x Hy acc (by omega),bnd_ret,ih (fun y my=>h y (Ht _ my)) (acc++F x) (by rw[HC];omega),IB,KG]
theorem sF{γ:Type}{c:Hh->List Hh->Mo (List Hh)}{k:List Hh->Mo γ}{Q:γ->Prop}{xs:List α}{enc:α->Hh}(F:α->List Hh)(hx:xs'=xs.map enc)
 (h:∀x∈xs,∀acc:List Hh,acc.length+(F x).length<=sizeLine->c (enc x) acc=ret (acc++F x))(hl:(xs.flatMap F).length<=sizeLine)(fin:k (xs.flatMap F) Q):FV (eS c xs' []) k Q:=by
 subst hx
 rw[lv F h [] (by simpa using hl),bnd_ret]
 simpa using fin
end
noncomputable def Hg:=Hj @m_comp2 (@bnd_ret)
noncomputable def fr(q:Rat):Hh:=.tuple [.int q.num,.int q.den]
theorem iJ(h:fr q=fr r):q=r:=by
 simp only[fr,Je,IE,Ml,and_true]at h
 exact Rat.ext h.1 (by omega)
theorem eN(n:Int)(d:Nat)(h:d≠0):wD n d=fr (Me n d h):=by
 unfold wD fr
 rw[Rat.normalize_eq]
 have g:(Jz n d:Int)=((n.natAbs.gcd d:Nat):Int):=by simp[Jz]
 have gp:0<n.natAbs.gcd d:=Nat.gcd_pos_of_pos_right _ (by omega)
 have e1:n.fdiv (Jz n d)=n / ((n.natAbs.gcd d:Nat):Int):=by rw[g,J4 _ (by omega)]
 have e2:(d:Int).fdiv (Jz n d)=((d / n.natAbs.gcd d:Nat):Int):=by rw[g,J4 _ (by omega),Int.natCast_ediv]
 rw[e1,e2]
theorem gK{a b:Int}(hb:0<b):wD a b=fr ((a:Rat) / (b:Rat)):=by
 obtain⟨d,rfl⟩:=JT (show 0<=b by omega)
 rw[eN a d (by omega)]
 congr 1
 have:(Me a d (by omega))=mkRat a d:=by rw[Rat.normalize_eq_mkRat]
 rw[this,Rat.mkRat_eq_div]
 rfl
theorem zk(q r:Rat):wD (q.num*r.den+r.num*q.den) (q.den*r.den)=fr (q+r):=by
 have:=eN (q.num*r.den+r.num*q.den) (q.den*r.den) (MD q.den_nz r.den_nz)
 rw[ME]at this
 rw[this,Rat.add_def]
theorem zi(q r:Rat):wD (q.num*r.den-r.num*q.den) (q.den*r.den)=fr (q-r):=by
 have:=eN (q.num*r.den-r.num*q.den) (q.den*r.den) (MD q.den_nz r.den_nz)
 rw[ME]at this
 rw[this,Rat.sub_def]
theorem zj(q r:Rat):wD (q.num*r.num) (q.den*r.den)=fr (q*r):=by
 have:=eN (q.num*r.num) (q.den*r.den) (MD q.den_nz r.den_nz)
 rw[ME]at this
 rw[this,Rat.mul_def]
theorem v4(q r:Rat):decide (q.num*r.den<r.num*q.den)=decide (q<r):=by
 rw[decide_eq_decide]
 exact(Rat.lt_iff q r).symm
noncomputable def EN(n:Nat)(q:Rat):Prop:=q.num.natAbs<2^n/\q.den<2^n
theorem EN.mono{m:Nat}(h:EN n q)(hm:n<=m):EN m q:=⟨Hr h.1 (HF (by decide) hm),Hr h.2 (HF (by decide) hm)⟩
theorem jw{i:Int}(h:i.natAbs<2^2000):G_ i:=Hr h (HF (by decide) (by decide))
theorem EN.bn(h:EN 2000 q):G_ q.num:=jw h.1
theorem EN.bd(h:EN 2000 q):G_ (q.den:Int):=jw (by rw[Iq];exact h.2)
theorem den_pos(q r:Rat):(0:Int)<(q.den:Int)*(r.den:Int):=M3 (by have:=q.den_nz;omega) (by have:=r.den_nz;omega)
theorem gP(h:EN 2000 q)(h':EN 2000 r):((q.den:Int)*(r.den:Int)).natAbs<2^8000:=by
 rw[Jv,Iq,Iq]
 have:q.den*r.den<2^2000*2^2000:=Mm h.2 h'.2
 rw[<- NL]at this
 exact Hr this (HF (by decide) (by decide))
inductive Sd where
 | to (t:Rat)|from(a b:Rat)|round (a b:Rat)
noncomputable def Sd.last:Sd->Rat
 | .to t=>t | .from _ b=>b | .round _ b=>b
noncomputable def Sd.first:Sd->Rat
 | .to t=>t | .from a _=>a | .round a _=>a
noncomputable def EG:Sd->Hh
 | .to t=>.tuple [.str "to", fr t]
 | .from a b=>.tuple [.str "from", fr a,fr b]
 | .round a b=>.tuple [.str "round", fr a,fr b]
noncomputable def mx(q r:Rat):Rat:=if q<r then r else q
noncomputable def mn(q r:Rat):Rat:=if q<r then q else r
noncomputable def Es:Sd->Rat
 | .to t=>mx t 0
 | .from a b=>mx (mx b 0-mx a 0) 0
 | .round a b=>mn (1+(mx b 0-mx a 0)) 1
noncomputable def Sd.Sm(s:Sd):Prop:=EN 60 s.first/\EN 60 s.last
theorem fr0:pr 0 1=fr 0:=rfl
theorem fr1:pr 1 1=fr 1:=rfl
theorem qW:EN 60 0:=⟨by decide,by decide⟩
theorem CJ:EN 60 1:=⟨by decide,by decide⟩
theorem eK(h:EN n q)(h':EN n r):EN n (mx q r):=by unfold mx;split<;>assumption
theorem A1(h:EN n q)(h':EN n r):EN n (mn q r):=by unfold mn;split<;>assumption
theorem kY{n:Int}{d k:Nat}(hd:d≠0)(h1:n.natAbs<2^k)(h2:d<2^k):EN k (Me n d hd):=by
 rw[Rat.normalize_eq]
 refine⟨?_,J6 (Nat.div_le_self _ _) h2⟩
 show(n / ((n.natAbs.gcd d:Nat):Int)).natAbs<2^k
 have hdv:((n.natAbs.gcd d:Nat):Int)∣n:=Int.ofNat_dvd_left.mpr (Nat.gcd_dvd_left _ _)
 rw[Int.natAbs_ediv_of_dvd hdv,Iq]
 exact J6 (Nat.div_le_self _ _) h1
theorem bZ{a b m:Nat}(h1:a<2^m)(h2:b<2^n):a*b<2^(m+n):=by
 rw[NL]
 exact Mm h1 h2
theorem yK{m:Nat}(h:EN m q)(h':EN n r):EN (m+n) (q*r):=by
 rw[Rat.mul_def]
 refine kY _ ?_ (bZ h.2 h'.2)
 rw[Jv]
 exact bZ h.1 h'.1
theorem qu{m:Nat}(h:EN m q)(h':EN n r):EN (m+n+1) (q+r):=by
 rw[Rat.add_def]
 have a1:=bZ h.1 h'.2
 have a2:=bZ h'.1 h.2
 rw[Nat.add_comm n m]at a2
 have a3:=bZ h.2 h'.2
 refine kY _ ?_ (Hr a3 (HF (by decide) (by omega)))
 have t:=Int.natAbs_add_le (q.num*r.den) (r.num*q.den)
 rw[Jv,Jv,Iq,Iq]at t
 rw[MF]
 omega
theorem gu{m:Nat}(h:EN m q)(h':EN n r):EN (m+n+1) (q-r):=by
 rw[Rat.sub_eq_add_neg]
 exact qu h ⟨by rw[Rat.neg_num,Int.natAbs_neg];exact h'.1,h'.2⟩
theorem eQ(a b:Str):HQ (.str a) (.str b)=decide (a=b):=by
 rw[zo]
 by_cases h:a=b
 · simp[h]
 · rw[decide_eq_false h];simp[h]
theorem EN.up(h:EN 60 q):EN 2000 q:=h.mono (by decide)
noncomputable def FO(x y:Rat)(b:Bool):Bool:=if b then !decide (y<x)else decide (x<y)
noncomputable def FE(w:Str):Prop:=w = "half" \/ w = "shut" \/ w = "open"
noncomputable def Fg(s:Sd)(w:Str)(x:Rat):Bool :=
 let ahead:=FO x s.last (decide (w = "shut"))
 let behind:=FO s.first x (!decide (w = "open"))
 match s with
 | .to _=>ahead
 | .from _ _=>behind&&ahead
 | .round _ _=>behind||ahead
noncomputable def uU(qs:List Rat):Rat:=qs.foldl (· * ·) 1
noncomputable def df(ss:List Sd):Hh:=.tuple (ss.map EG)
noncomputable def dv(ss:List Sd):Rat:=uU (ss.map Es)
noncomputable def EQ(qs:List Rat):Hh:=.tuple (qs.map fr)
noncomputable def Fv(qs:List Rat)(ss:List Sd)(w:Str):Bool:=(qs.zip ss).all fun p=>Fg p.2 w p.1
noncomputable def ptsQ(ps:List (List Rat)):Hh:=.tuple (ps.map EQ)
noncomputable def cntN(ps:List (List Rat))(ss:List Sd)(w:Str):Nat:=(ps.filter fun p=>Fv p ss w).length
theorem at_last2{α:Type}(x y:α):L2.atI [x,y] (-1)=some y:=rfl
theorem at_last3{α:Type}(x y z:α):L2.atI [x,y,z] (-1)=some z:=rfl
theorem lc:∀qs:List Rat,H_ (qs.map fr)=true
 | []=>rfl
 | q::qs=>by simp[H_,Ju,fr,lc qs]
theorem ll:∀qs:List Rat,IS (qs.map fr)<=3
 | []=>by simp[IS]
 | q::qs=>by
   have:=ll qs
   simp[IS,J9,fr]at this ⊢
   omega
theorem mU(qs:List Rat):HU (.list (qs.map fr))=true:=by
 have:=ll qs
 simp[HU,Ju,J9,lc]
 omega
theorem at_last1{α:Type}(x:α):L2.atI [x] (-1)=some x:=rfl
theorem cM:fr q=fr r↔q=r:=⟨iJ,fun h=>by rw[h]⟩
theorem br{s t:Sd}:EG s=EG t↔s=t:=by
 constructor
 · intro h
   have n1:¬(Hi "from" = Hi "round"):=by decide +kernel
   cases s<;>cases t<;>simp[EG,cM,n1,MX n1]at h ⊢ <;> first|exact h|exact(n1 h.1.symm).elim|exact(n1 h.1).elim
 · rintro rfl;rfl
theorem bv{a b:List Rat}:EQ a=EQ b↔a=b:=by
 unfold EQ
 rw[Je,b4 fun _ _=>cM]
theorem aE{a b:List Sd}:df a=df b↔a=b:=by
 unfold df
 rw[Je,b4 fun _ _=>br]
theorem aH{a b:List (List Rat)}:ptsQ a=ptsQ b↔a=b:=by
 unfold ptsQ
 rw[Je,b4 fun _ _=>bv]
theorem bG{a b:List Rat}:a.map fr=b.map fr↔a=b:=b4 fun _ _=>cM
theorem item_fr0(q:Rat):itemAt (fr q) 0=some (.int q.num):=rfl
theorem item_fr1(q:Rat):itemAt (fr q) 1=some (.int q.den):=rfl
theorem tupD_pt(a:List Rat):tupD (EQ a)=some (a.map fr):=rfl
theorem seqD_pt(a:List Rat):kI (EQ a)=some (a.map fr):=rfl
theorem lenD_pt(a:List Rat):kB (EQ a)=some a.length:=by show some (a.map fr).length=_;rw[Hu]
theorem item_pt(a:List Rat)(i:Int):itemAt (EQ a) i=(atI a i).map fr:=cr _ _ _
theorem tupD_bx(a:List Sd):tupD (df a)=some (a.map EG):=rfl
theorem seqD_bx(a:List Sd):kI (df a)=some (a.map EG):=rfl
theorem lenD_bx(a:List Sd):kB (df a)=some a.length:=by show some (a.map EG).length=_;rw[Hu]
theorem item_bx(a:List Sd)(i:Int):itemAt (df a) i=(atI a i).map EG:=cr _ _ _
theorem tupD_ps(a:List (List Rat)):tupD (ptsQ a)=some (a.map EQ):=rfl
theorem seqD_ps(a:List (List Rat)):kI (ptsQ a)=some (a.map EQ):=rfl
theorem lenD_ps(a:List (List Rat)):kB (ptsQ a)=some a.length:=by show some (a.map EQ).length=_;rw[Hu]
theorem item_ps(a:List (List Rat))(i:Int):itemAt (ptsQ a) i=(atI a i).map EQ:=cr _ _ _
theorem kind_pt(a:List Rat):hW (EQ a)=hW (.tuple []):=rfl
theorem kind_bx(a:List Sd):hW (df a)=hW (.tuple []):=rfl
noncomputable def qd(a b:Int):Rat:=(a:Rat) / (b:Rat)
theorem tF{a b:Int}(hb:0<b):Io [.int (a.fdiv (Jz a b)),.int (b.fdiv (Jz a b))]=fr (qd a b):=gK hb
theorem kQ(q:Rat):qd q.num q.den=q:=by
 unfold qd
 have:=Rat.mkRat_self q
 rw[Rat.mkRat_eq_div]at this
 exact this
theorem yd(q r:Rat):qd (q.num*r.den+r.num*q.den) (q.den*r.den)=q+r:=iJ (by rw[<- zk];exact(gK (den_pos q r)).symm)
theorem oJ(q r:Rat):qd (q.num*r.den-r.num*q.den) (q.den*r.den)=q-r:=iJ (by rw[<- zi];exact(gK (den_pos q r)).symm)
theorem yb(q r:Rat):qd (q.num*r.num) (q.den*r.den)=q*r:=iJ (by rw[<- zj];exact(gK (den_pos q r)).symm)
theorem pV(q:Rat):(0:Int)<(q.den:Int):=by have:=q.den_nz;omega
theorem uM{a b:Int}{k:Nat}(hb:0<b)(h1:a.natAbs<2^k)(h2:b.natAbs<2^k):EN k (qd a b):=by
 obtain⟨d,rfl⟩:=JT (show 0<=b by omega)
 have hd:d≠0:=by omega
 have e:qd a d=Me a d hd:=iJ (by rw[<- eN,gK (by omega)];rfl)
 rw[e]
 exact kY _ h1 (by simpa using h2)
theorem sa(h:EN n q)(hn:n<=1000):Sm 2 2 (fr q) :=
 Sm.pair (Hr h.1 (HF (by decide) hn)) (by rw[Iq];exact Hr h.2 (HF (by decide) hn))
theorem jE{s:Sd}(h:s.Sm):EN 190 (Es s):=by
 cases s with
 | to t=>exact(eK h.2 qW).mono (by decide)
 | «from» a b=>exact(eK (gu (eK h.2 qW) (eK h.1 qW)) (qW.mono (by decide))).mono (by decide)
 | round a b=>exact(A1 (qu CJ (gu (eK h.2 qW) (eK h.1 qW))) (CJ.mono (by decide))).mono (by decide)
theorem pC:∀ps:List (List Rat),H_ (ps.map EQ)=true
 | []=>rfl
 | p::ps=>by simp[H_,Ju,EQ,lc,pC ps]
theorem pU:∀ps:List (List Rat),IS (ps.map EQ)<=5
 | []=>by simp[IS]
 | p::ps=>by
   have:=pU ps
   have:=ll p
   simp[IS,J9,EQ]at *
   omega
theorem mT(ps:List (List Rat)):HU (.list (ps.map EQ))=true:=by
 have:=pU ps
 simp[HU,Ju,J9,pC]
 omega
noncomputable def Sd.In1(s:Sd):Prop:=(-1<=s.first/\s.first<=1)/\(-1<=s.last/\s.last<=1)
theorem qU{a b:Int}(hb:0<b)(h:0<=a):0<=qd a b:=by
 unfold qd
 have h1:(0:Rat)<=(a:Rat):=by exact_mod_cast h
 have h2:(0:Rat)<(b:Rat):=by exact_mod_cast hb
 rw[KE]
 exact Rat.mul_nonneg h1 (Jl (Rat.inv_pos.mpr h2))
theorem sX{a b:Int}(hb:0<b)(h:a<b):qd a b<1:=by
 unfold qd
 have h1:(a:Rat)<(b:Rat):=by exact_mod_cast h
 have h2:(0:Rat)<(b:Rat):=by exact_mod_cast hb
 exact(Rat.div_lt_iff h2).mpr (by rw[Rat.one_mul];exact h1)
noncomputable def Hd:=Hj @item_fr0 (Hj @item_fr1 (Hj @tupD_pt (Hj @seqD_pt (Hj @lenD_pt (Hj @item_pt (Hj @tupD_bx (Hj @seqD_bx (Hj @lenD_bx (Hj @item_bx (Hj @tupD_ps (Hj @seqD_ps (Hj @lenD_ps (Hj @item_ps (Hj @at_last1 (Hj @at_last2 (Hj @at_last3 (Hj @kind_pt (Hj @kind_bx (Hj @fr0 (@fr1))))))))))))))))))))
theorem tG(i:Int):lY (.int i) "int" = true:=rfl
theorem tH(i:Int):lY (.int i) "bool" = false:=by show("int" == "bool" || ("int" == "bool" && "bool" == "int"))=false;decide
theorem mj(a b:Rat):HQ (fr a) (fr b)=decide (a=b):=by
 unfold fr
 simp only[HQ,Hh.eqvAll]
 by_cases h:a=b
 · subst h;simp[HQ]
 · have:¬(a.num=b.num/\a.den=b.den):=fun z=>h (Rat.ext z.1 z.2)
   simp only[h,decide_false,Bool.and_true,HQ]
   rw[Bool.and_eq_false_iff]
   by_cases h1:a.num=b.num
   · right
     have:a.den≠b.den:=fun z=>this ⟨h1,z⟩
     simp;omega
   · left;simpa using h1
theorem cF(q:Rat):HU (fr q)=true:=by
 simp[HU,fr,Ju,H_,J9,IS]
noncomputable def q9:Rat:=⟨999999999998,999999999999,by decide,by decide⟩
noncomputable def Ez(b:Bool)(qs:List Rat):Hh:=if b then .tuple (qs.map fr)else .list (qs.map fr)
theorem Ay{b c:Bool}{qs:List Rat}:Ez b qs=Ez c rs↔b=c/\qs=rs:=by
 cases b<;>cases c<;>simp[Ez,bG]
theorem dW(b:Bool)(qs:List Rat):seqW (.d (Ez b qs))=some (qs.map fr):=by cases b<;>rfl
noncomputable def qx(kvs:List (GU×Hh))(k:GU):Bool:=kvs.any fun kv=>decide (kv.1=k)
theorem rQ{kvs:List (GU×Hh)}{k:GU}:qx kvs k=true↔k∈kvs.map (·.1):=by
 unfold qx
 simp only[List.any_eq_true,decide_eq_true_iff,IA]
theorem jT(kvs:List (GU×Hh))(k:GU)(x:Hh):(putF kvs k x).map (·.1)=if qx kvs k=true then kvs.map (·.1)else kvs.map (·.1)++[k]:=by
 unfold putF
 show MN _ (if qx kvs k=true then _ else _)=_
 split
 · rw[Jg]
   congr 1;funext kv;simp only[Function.comp];split<;>rfl
 · rw[Iu];rfl
theorem qX(kvs:List (GU×Hh))(k j:GU)(x:Hh):ib (putF kvs k x) j=if j=k then some x else ib kvs j:=by
 have one:∀l:List (GU×Hh),ib (l.map fun kv=>if kv.1=k then(kv.1,x)else kv) j=if j=k then(if qx l k=true then some x else none)else ib l j:=by
  intro l
  induction l with
  | nil=>by_cases h:j=k<;>simp[ib,qx,h]
  | cons p r ih =>
    unfold ib qx at *
    rw[IF,I_,I_,K1]
    by_cases h1:p.1=k
    · by_cases h:j=k
      · subst h;simp[h1]
      · have h2:¬k=j:=fun z=>h z.symm
        rw[if_pos h1,if_neg h]
        rw[if_neg h]at ih
        simp only[h1,h2,decide_false]
        exact ih
    · rw[if_neg h1]
      by_cases h:j=k
      · subst h
        rw[if_pos rfl]
        rw[if_pos rfl]at ih
        simp only[h1,decide_false,Bool.false_or]
        exact ih
      · rw[if_neg h]
        rw[if_neg h]at ih
        cases decide (p.1=j)with
        | true=>rfl
        | false=>exact ih
 unfold putF
 show ib (if qx kvs k=true then _ else _) j=_
 by_cases hm:qx kvs k=true
 · rw[if_pos hm,one]
   by_cases h:j=k<;>simp[h,hm]
 · rw[if_neg hm]
   unfold ib
   rw[List.find?_append]
   by_cases h:j=k
   · subst h
     have:kvs.find? (fun kv=>decide (kv.1=j))=none:=by
      rw[List.find?_eq_none];intro p hp z
      exact hm (rQ.mpr (IA.mpr ⟨p,hp,by simpa using z⟩))
     simp[this]
   · have h2:¬k=j:=fun z=>h z.symm
     simp[h,h2]
noncomputable def v8(f:Rat->Int)(qs:List Rat):List (GU×Hh):=(qs.map fun q=>((JQ (f q):GU),fr q)).foldl (fun a p=>putF a p.1 p.2) []
theorem jp(f:Rat->Int):∀(qs:List Rat)(acc:List (GU×Hh))(ns:List Int),acc.map (·.1)=ns.map JQ->ns.Nodup->(∀q r,q∈qs->r∈qs->f q=f r->q=r) ->
 ∃ ms:List Int,((qs.map fun q=>((JQ (f q):GU),fr q)).foldl (fun a p=>putF a p.1 p.2) acc).map (·.1)=ms.map JQ/\ms.Nodup/\(∀n,n∈ms↔n∈ns\/∃q∈qs,f q=n) /\
   ∀n,ib ((qs.map fun q=>((JQ (f q):GU),fr q)).foldl (fun a p=>putF a p.1 p.2) acc) (.inl n)=(match qs.find? (fun q=>decide (f q=n))with|some q=>some (fr q)|none=>ib acc (.inl n))/\ms.length<=ns.length+qs.length
 | [],acc,ns,h,nd,_=>⟨ns,h,nd,fun n=>by simp,fun n=>⟨rfl,by simp⟩⟩
 | q::qs,acc,ns,h,nd,inj=>by
   have hmem:qx acc (JQ (f q))=true↔f q∈ns:=by
    rw[rQ,h,IA];constructor
    · rintro⟨x,hx,e⟩;cases e;exact hx
    · intro hx;exact⟨_,hx,rfl⟩
   have inj':∀a b,a∈qs->b∈qs->f a=f b->a=b:=fun a b ha hb=>inj a b (Ht _ ha) (Ht _ hb)
   have val:∀n:Int,∀r,ib (putF acc (.inl (f q)) (fr q)) (.inl n)=r->(match qs.find? (fun q=>decide (f q=n))with|some q=>some (fr q)|none=>ib (putF acc (.inl (f q)) (fr q)) (.inl n))=(match(q::qs).find? (fun q=>decide (f q=n))with|some q=>some (fr q)|none=>ib acc (.inl n)):=by
    intro n r _
    rw[qX,I_]
    by_cases e:f q=n
    · subst e
      simp only[decide_true]
      cases e2:qs.find? (fun q'=>decide (f q'=f q))with
      | none=>simp
      | some q' =>
        have m:=L1 e2
        have p:f q'=f q:=by simpa using List.find?_some e2
        have:=inj q' q (Ht _ m) Hy p
        rw[this]
    · have e':¬n=f q:=fun z=>e z.symm
      simp only[e,decide_false,JQ.injEq,e',if_false]
   by_cases hq:f q∈ns
   · obtain⟨ms,a1,a2,a3,a4⟩:=jp f qs (putF acc (.inl (f q)) (fr q)) ns (by rw[jT,if_pos (hmem.mpr hq)];exact h) nd inj'
     refine⟨ms,a1,a2,fun n=>?_,fun n=>⟨?_,?_⟩⟩
     · rw[a3 n]
       simp only[HN]
       constructor
       · rintro(z|⟨r,hr,e⟩)
         · exact .inl z
         · exact .inr ⟨r,.inr hr,e⟩
       · rintro(z|⟨r,rfl|hr,e⟩)
         · exact .inl z
         · exact .inl (e▸hq)
         · exact .inr ⟨r,hr,e⟩
     · rw[<- val n _ rfl];exact(a4 n).1
     · have:=(a4 n).2;simp only[HV];omega
   · obtain⟨ms,a1,a2,a3,a4⟩:=jp f qs (putF acc (.inl (f q)) (fr q)) (ns++[f q]) (by rw[jT,if_neg (fun z=>hq (hmem.mp z)),h,Iu];rfl)
       (List.nodup_append.mpr ⟨nd,by simp,fun a ha b hb=>by simp at hb;subst hb;rintro rfl;exact hq ha⟩) inj'
     refine⟨ms,a1,a2,fun n=>?_,fun n=>⟨?_,?_⟩⟩
     · rw[a3 n]
       simp only[HN,Ik,JM,or_false]
       constructor
       · rintro((z|z)|⟨r,hr,e⟩)
         · exact .inl z
         · exact .inr ⟨q,.inl rfl,z.symm⟩
         · exact .inr ⟨r,.inr hr,e⟩
       · rintro(z|⟨r,rfl|hr,e⟩)
         · exact .inl (.inl z)
         · exact .inl (.inr e.symm)
         · exact .inr ⟨r,hr,e⟩
     · rw[<- val n _ rfl];exact(a4 n).1
     · have:=(a4 n).2;simp only[HC,HV,LF]at this ⊢;omega
theorem v7(f:Rat->Int)(qs:List Rat)(inj:∀q r,q∈qs->r∈qs->f q=f r->q=r) :
 ∃ms:List Int,(v8 f qs).map (·.1)=ms.map JQ/\ms.Nodup/\(∀n,n∈ms↔∃q∈qs,f q=n)/\(∀q∈qs,ib (v8 f qs) (.inl (f q))=some (fr q))/\ms.length<=qs.length:=by
 obtain⟨ms,a1,a2,a3,a4⟩:=jp f qs [] [] rfl List.nodup_nil inj
 refine⟨ms,a1,a2,fun n=>by rw[a3 n];simp,fun q hq=>?_,by have:=(a4 0).2;simpa using this⟩
 have:=(a4 (f q)).1
 show ib ((qs.map fun q=>((JQ (f q):GU),fr q)).foldl (fun a p=>putF a p.1 p.2) []) _=_
 rw[this]
 cases e:qs.find? (fun q'=>decide (f q'=f q))with
 | none =>
   rw[List.find?_eq_none]at e
   exact absurd (e q hq) (by simp)
 | some q' =>
   have m:=L1 e
   have p:f q'=f q:=by simpa using List.find?_some e
   rw[inj q' q m hq p]
noncomputable def Et(S:Int)(q:Rat):Int:=(q.num*S).fdiv q.den
theorem sS(S:Int)(q:Rat):Et S q*q.den<=q.num*S/\q.num*S<(Et S q+1)*q.den:=by
 have h0:(0:Int)<q.den:=pV q
 unfold Et
 rw[J4 _ (by omega)]
 have h1:=Int.emod_nonneg (q.num*S) (show(q.den:Int)≠0 by omega)
 have h2:=Int.emod_lt_of_pos (q.num*S) h0
 have h3:=Int.mul_ediv_add_emod (q.num*S) q.den
 have e1:q.num*S / (q.den:Int)*(q.den:Int)=(q.den:Int)*(q.num*S / (q.den:Int)):=Nu _ _
 have e2:(q.num*S / (q.den:Int)+1)*(q.den:Int)=(q.den:Int)*(q.num*S / (q.den:Int))+(q.den:Int):=by rw[Int.add_mul,Int.one_mul,e1]
 rw[e1,e2]
 constructor<;>omega
theorem mZ(q r:Rat):q<r↔q.num*r.den<r.num*q.den:=Rat.lt_iff q r
theorem n_{B:Int}(hq:(q.den:Int)<=B)(hr:(r.den:Int)<=B)(h:q<r):Et (B*B) q<Et (B*B) r:=by
 have h0:(0:Int)<q.den:=pV q
 have h1:(0:Int)<r.den:=pV r
 rw[mZ]at h
 obtain⟨a1,a2⟩:=sS (B*B) q
 obtain⟨b1,b2⟩:=sS (B*B) r
 generalize Et (B*B) q=a at *
 generalize Et (B*B) r=b at *
 generalize (q.den:Int)=x at *
 generalize (r.den:Int)=y at *
 by_cases hab:a<b
 · exact hab
 · exfalso
   have hba:b+1<=a+1:=by omega
   have e1:a*x*y<=q.num*(B*B)*y:=JI a1 (by omega)
   have e2:r.num*(B*B)*x<(b+1)*y*x:=Int.mul_lt_mul_of_pos_right b2 h0
   have e3:(b+1)*y*x<=(a+1)*y*x:=JI (JI hba (by omega)) (by omega)
   have hs:x*y<=B*B:=Int.mul_le_mul hq hr (by omega) (by omega)
   have h2:q.num*y+1<=r.num*x:=h
   have e4:(q.num*y+1)*(B*B)<=r.num*x*(B*B):=JI h2 (Int.mul_nonneg (by omega) (by omega))
   have e5:(q.num*y+1)*(B*B)=q.num*(B*B)*y+B*B:=by grind
   have e6:r.num*x*(B*B)=r.num*(B*B)*x:=by grind
   have e7:(a+1)*y*x=a*x*y+x*y:=by grind
   omega
theorem oD(q r:Rat):q<r\/q=r\/r<q:=by
 by_cases h:q<r
 · exact .inl h
 · by_cases h2:r<q
   · exact .inr (.inr h2)
   · exact .inr (.inl (Rat.le_antisymm (Jx.mp h2) (Jx.mp h)))
theorem oa{B:Int}(hq:(q.den:Int)<=B)(hr:(r.den:Int)<=B)(h:Et (B*B) q=Et (B*B) r):q=r:=by
 rcases oD q r with z|z|z
 · have:=n_ hq hr z;omega
 · exact z
 · have:=n_ hr hq z;omega
theorem ux{B:Int}(hq:(q.den:Int)<=B)(hr:(r.den:Int)<=B)(h:Et (B*B) q<Et (B*B) r):q<r:=by
 rcases oD q r with z|z|z
 · exact z
 · subst z;omega
 · have:=n_ hr hq z;omega
theorem gv:∀(ns:List Int)(m:Int),∃k,cG (some m) ns=some k/\m<=k/\(∀n∈ns,n<=k)/\(k=m\/k∈ns)
 | [],m=>⟨m,rfl,Int.le_refl _,by simp,.inl rfl⟩
 | n::ns,m=>by
   obtain⟨k,e,h1,h2,h3⟩:=gv ns (if n>m then n else m)
   refine⟨k,e,by split at h1<;>omega,fun x hx=>?_,?_⟩
   · rcases HN.mp hx with rfl|hx
     · split at h1<;>omega
     · exact h2 x hx
   · rcases h3 with h3|h3
     · split at h3
       · exact .inr (by rw[h3];exact Hy)
       · exact .inl h3
     · exact .inr (Ht _ h3)
theorem yJ(ns:List Int):(∀n∈ns,n<=E4 1 ns)/\(E4 1 ns=1\/E4 1 ns∈ns):=by
 unfold E4
 cases ns with
 | nil=>exact⟨by simp,.inl rfl⟩
 | cons n ns =>
   obtain⟨k,e,h1,h2,h3⟩:=gv ns n
   have e':cG none (n::ns)=some k:=e
   rw[e']
   refine⟨fun x hx=>?_,.inr ?_⟩
   · rcases HN.mp hx with rfl|hx
     · exact h1
     · exact h2 x hx
   · rcases h3 with rfl|h3
     · exact Hy
     · exact Ht _ h3
theorem mI(f:Rat->Int){qs:List Rat}:∀(ns:List Int),(∀n∈ns,∃q∈qs,f q=n)->∃rs:List Rat,ns=rs.map f/\∀r∈rs,r∈qs
 | [],_=>⟨[],rfl,by simp⟩
 | n::ns,h=>by
   obtain⟨rs,e,hr⟩:=mI f ns fun m hm=>h m (Ht _ hm)
   obtain⟨q,hq,eq⟩:=h n Hy
   exact⟨q::rs,by rw[IF,eq,<- e],fun r hr'=>(HN.mp hr').elim (fun z=>z▸hq) (hr r)⟩
noncomputable def fP(qs rs:List Rat):Prop:=rs.Pairwise (· < ·)/\∀q,q∈rs↔q∈qs
theorem og{B:Int}{qs:List Rat}{ms:List Int}(hB:∀q∈qs,(q.den:Int)<=B)(nd:ms.Nodup)(hm:∀n,n∈ms↔∃q∈qs,Et (B*B) q=n)(pm:ns.Perm ms)(pw:ns.Pairwise (· <= ·)) :
 ∃rs:List Rat,ns=rs.map (Et (B*B))/\(∀r∈rs,r∈qs)/\fP qs rs:=by
 obtain⟨rs,e,hr⟩:=mI (Et (B*B)) ns fun n hn=>(hm n).mp (pm.mem_iff.mp hn)
 refine⟨rs,e,hr,?_,fun q=>⟨hr q,fun hq=>?_⟩⟩
 · have nd':ns.Nodup:=pm.nodup_iff.mpr nd
   subst e
   have lt:(rs.map (Et (B*B))).Pairwise (· < ·):=by
    have:=pw.and nd'
    exact this.imp fun z=>by have:=z.1;have:=z.2;omega
   rw[List.pairwise_map]at lt
   exact lt.imp_of_mem fun ha hb z=>ux (hB _ (hr _ ha)) (hB _ (hr _ hb)) z
 · have:Et (B*B) q∈ns:=pm.mem_iff.mpr ((hm _).mpr ⟨q,hq,rfl⟩)
   rw[e,IA]at this
   obtain⟨r,hr',e2⟩:=this
   rw[<- oa (hB r (hr r hr')) (hB q hq) e2]
   exact hr'
theorem jX:∀{rs qs:List Rat},rs.Nodup->(∀x∈rs,x∈qs)->rs.length<=qs.length
 | [],_,_,_=>HS _
 | r::rs,qs,nd,h=>by
   rw[JY]at nd
   have hm:=h r Hy
   have:=jX (rs:=rs) (qs:=qs.erase r) nd.2 fun x hx=>(List.mem_erase_of_ne (fun(z:x=r)=>nd.1 (by rw[<- z];exact hx))).mpr (h x (Ht _ hx))
   rw[List.length_erase_of_mem hm]at this
   have:=List.length_pos_of_mem hm
   simp only[HV]
   omega
theorem iu{qs:List Rat}(h:fP qs rs):rs.length<=qs.length:=by
 have nd:rs.Nodup:=h.1.imp fun z e=>by subst e;exact absurd z (KL)
 exact jX nd fun x hx=>(h.2 x).mp hx
theorem iq:∀{rs ss:List Rat},rs.Pairwise (· < ·)->ss.Pairwise (· < ·)->(∀q,q∈rs↔q∈ss)->rs=ss
 | [],[],_,_,_=>rfl
 | [],s::_,_,_,h=>by have:=(h s).mpr Hy;simp at this
 | r::_,[],_,_,h=>by have:=(h r).mp Hy;simp at this
 | r::rs,s::ss,h1,h2,h=>by
   rw[Kz]at h1 h2
   have e:r=s:=by
    rcases HN.mp ((h r).mp Hy)with z|z
    · exact z
    · rcases HN.mp ((h s).mpr Hy)with y|y
      · exact y.symm
      · have a:=h2.1 r z;have b:=h1.1 s y;exact absurd (show r<r by grind) KL
   subst e
   congr 1
   refine iq h1.2 h2.2 fun q=>?_
   constructor
   · intro hq
     rcases HN.mp ((h q).mp (Ht _ hq))with z|z
     · subst z;exact absurd (h1.1 q hq) KL
     · exact z
   · intro hq
     rcases HN.mp ((h q).mpr (Ht _ hq))with z|z
     · subst z;exact absurd (h2.1 q hq) KL
     · exact z
noncomputable def tv(b:Int)(ds:List Int):Int:=ds.foldl (fun t d=>t*b+d) 0
theorem dM{b:Int}(h:0<b):(b:Rat)≠0:=by
 intro z
 have:b=0:=by exact_mod_cast z
 omega
noncomputable def Pw(b B:Int):Prop:=∃m:Nat,B∣b^m
noncomputable def ix(p:List Int)(f:Int):Int:=(p.idxOf f:Int)
theorem qV{a c:Int}(hc:0<c):(qd a c).num*c=a*(qd a c).den:=by
 have h1:=dM hc
 have h2:=dM (pV (qd a c))
 have e:qd (qd a c).num (qd a c).den=qd a c:=kQ _
 have e':((qd a c).num:Rat) / (((qd a c).den:Int):Rat)=(a:Rat) / (c:Rat):=e
 generalize (qd a c).num=x at *
 generalize ((qd a c).den:Int)=y at *
 have:(x:Rat)*(c:Rat)=(a:Rat)*(y:Rat):=by grind
 exact_mod_cast this
noncomputable def Fx(b:Int)(N:Nat)(q:Rat):Prop:=∃(T:Int)(k:Nat),q=qd T (b^k)/\0<=T/\T<b^k/\b^k<2^N
end L2.VL
variable{ss:List L2.VL.Sd}
namespace L2
section
variable{X:Cx}
theorem vT{its:List Hq}(r:cz (ns.map V.int) its){v:Hq}(e:its[i]?=some v):∃t,v = .int (ns.getD i 0) t:=by
 have hl:=r.length
 rw[Hu]at hl
 have hi:i<ns.length:=by have:=(HY.mp e).1;omega
 have hb:(ns.map V.int)[i]?=some (.int ns[i]):=by simp[hi]
 obtain⟨u,hu,ru⟩:=r.get hb
 rw[e]at hu
 cases hu
 have:ns.getD i 0=ns[i]:=by simp[NG,hi]
 rw[this]
 exact ru
theorem preSum_eq(ns:List Int):preSum (fun i=>ns.getD i 0) ns.length=ns.sum:=by
 have key:∀k,k<=ns.length->preSum (fun i=>ns.getD i 0) k=(ns.take k).sum:=by
  intro k
  induction k with
  | zero=>intro _;rfl
  | succ k ih =>
    intro hk
    have hk':k<ns.length:=by omega
    show preSum _ k+ns.getD k 0=_
    rw[ih (by omega),HI hk',List.sum_append]
    simp[NG,hk']
 rw[key _ (Hs _),HE (Hs _)]
theorem qi(hc:X.calm=true):dB X (.builtin "sum") (fun xs H Q=>∃(p:Addr)(ns:List Int),xs=[.ref p]/\Gr X.K H p (ns.map V.int)/\Q (.int ns.sum) H):=by
 intro pins s σ H xs us Q I r ⟨p,ns,ex,hq,q⟩
 subst ex
 obtain⟨u,rfl,ru⟩:=vals1 r
 cases ru
 obtain⟨its,rv,pl,hz⟩:=I.list hq
 have hl:=rv.length
 rw[Hu]at hl
 refine call_sum_walkG (Kc pl.isList ?_)
 have ne:p≠s.heap.objs.size:=by obtain⟨o,ho,_⟩:=pl.isList;exact Im (HJ ho)
 refine⟨s.heap.objs.size,_,_,_,_,_,fun i=>ns.getD i 0,rfl,Walks.list (A:=X.A.in1) (I.ok.hd hc) s.heap.objs.size p ne its.toArray,⟨⟨_,HR _ rfl,rfl,rfl⟩,pl.isList.push _⟩,?_,?_,?_⟩
 · intro b hb
   have hb:b=s.heap.objs.size\/b=p:=by simpa using hb
   show b<(Heap.push _ _).objs.size
   rw[Kw]
   rcases hb with rfl|rfl
   · exact Mk _
   · obtain⟨o,ho,_⟩:=pl.isList;exact Lg (HJ ho)
 · intro i v hP
   exact vT rv (by simpa using hP)
 · intro h' tk t' k
   have e:preSum (fun i=>ns.getD i 0) its.toArray.size=ns.sum:=by rw[HL,<- hl];exact preSum_eq ns
   rw[e]
   exact⟨.int _,H,I.kept (t':=tk) fun b o eb=>k b o (by simp;exact Im (HJ eb)) (Hm _ eb),⟨t',rfl⟩,q⟩
end
end L2
namespace L2.VL
section
variable{X:Cx}{rl:RlT}{a:Expr}{fs:Gi}{pos p:Pos}
noncomputable def Bf:List W->(W->Prop)->Prop:=fun ws Q=>∃(w:W)(ns:List Int),ws=[w]/\w.dat=some (.list (ns.map .int))/\Q (.d (.int ns.sum))
theorem wU:eW X rl (fun xs H Q=>∃(p:Addr)(ns:List Int),xs=[.ref p]/\Gr X.K H p (ns.map V.int)/\Q (.int ns.sum) H) Bf:=fun{F H vs ws} Qd Q s ra r ⟨w,ns,ew,ed,q⟩ k=>by
 subst ew
 obtain⟨v,rfl,r1⟩:=kP r
 obtain⟨a,us,rfl,sq,rs⟩:=r1.items s ed
 have e:=eJ rs
 subst e
 exact⟨a,ns,rfl,sq,k _ (.d _) _ _ (Grow.refl s ra) (.int _) trivial q⟩
theorem v_sum(hm:X.mg "sum" = none)(ha:GB X rl [a] fs)(hc:X.calm=true:=by rfl)(hg:Gl X "sum" := by rfl)(he:Hw [a] X.env=(false,eval a X.env)::Hw [] X.env:=by rfl)(hpl:(I0 pos (Hw [] X.env)).any (·.1)=false:=by rfl) :
 PV X rl (.Call (.Name "sum" p) [a] [] pos) (dt Bf fs):=cO (qi hc) wU hm (by rfl) ha hg (by decide) (by decide) he hpl
noncomputable def vU:Hh->Option (List Int)
 | .list xs=>jj xs
 | _=>none
theorem zN:vU d=some ns↔d = .list (ns.map .int):=by
 constructor
 · intro h
   cases d with
   | list xs=>rw[ji h]
   | _=>cases h
 · rintro rfl;exact intsD_map _
theorem yS(w:W):Bf [w]=aO (w.dat.bind vU) fun ns=>ret (.d (.int ns.sum)):=by
 refine ah fun Q=>?_
 rw[aq]
 constructor
 · rintro⟨w',ns,e,ed,q⟩
   cases e
   exact⟨ns,by rw[ed];exact intsD_map ns,q⟩
 · rintro⟨ns,e,q⟩
   cases ed:w.dat with
   | none=>rw[ed]at e;cases e
   | some d =>
     rw[ed]at e
     exact⟨w,ns,rfl,by rw[ed,zN.mp e],q⟩
end
open PySem PySem.Spec
noncomputable def lim(c:List Rat):List Rat:=0::(c++[1])
theorem getD_mem{xs:List α}{k:Nat}{d:α}(h:k<xs.length):xs.getD k d∈xs:=by
 rw[Ir,HP h];exact Iv h
theorem xq(xs:List Int):Io (xs.map HB)=xt xs:=rfl
theorem jk{xs:List α}{k:Nat}{d:α}(h:k<xs.length):xs.getD k d=xs[k]:=by rw[Ir,HP h];rfl
theorem eU{xs:List α}{i:Int}(d:α)(h0:0<=i)(h1:i<(xs.length:Int)):atI xs i=some (xs.getD i.toNat d):=by rw[zB h0 h1,jk (by omega)]
open PySem PySem.Spec
theorem oh{α:Type}:∀{l:List α}{n:Nat},l.length=n+1->∃b t,l=b++[t]
 | [],_,h=>by simp at h
 | [x],_,_=>⟨[],x,rfl⟩
 | x::y::l,n,h=>by
   obtain⟨b,t,e⟩:=oh (l:=y::l) (n:=l.length) (by simp)
   exact⟨x::b,t,by rw[e];rfl⟩
noncomputable def chP{α:Type}(rows:List (List α)):List (List α):=rows.foldl (fun ch r=>ch.flatMap fun b=>r.map fun t=>b++[t]) [[]]
theorem mC(rows:List (List α))(r:List α):chP (rows++[r])=(chP rows).flatMap fun b=>r.map fun t=>b++[t]:=by
 unfold chP;rw[JD];rfl
noncomputable def EF(p es:List Rat):Bool:=(p.zip es).all fun z=>!decide (z.2<z.1)
noncomputable def Eu(es:List Rat):Rat:=uU (es.map fun e=>mx e 0)
noncomputable def EE(ps:List (List Rat))(es:List Rat):Nat:=(ps.filter fun p=>EF p es).length
noncomputable def ov(ps:List (List Rat))(es:List Rat):Rat:=qd (EE ps es) ps.length-Eu es
theorem qz{p:List α}{es:List β}{e:β}(d:α)(hl:es.length=i)(hi:i<p.length):p.zip (es++[e])=p.zip es++[(p.getD i d,e)]:=by
 have hp:p=p.take i++(p.getD i d)::p.drop (i+1):=by
  rw[jk hi,<- IP hi,Lm]
 have e1:p.zip es=(p.take i).zip es:=by
  conv=>lhs;rw[hp]
  rw[show es=es++[]from(JX _).symm,List.zip_append (by rw[Iz];omega)]
  simp
 rw[e1]
 conv=>lhs;rw[hp]
 rw[List.zip_append (by rw[Iz];omega)]
 simp
noncomputable def plc(f:List Rat->Bool)(ps:List (List Rat)):List Nat:=(Ip ps.length).filter fun k=>f (ps.getD k [])
theorem kX(f:List Rat->Bool)(ps:List (List Rat)):(plc f ps).length=(ps.filter f).length:=by
 unfold plc
 have:ps.filter f=((Ip ps.length).filter fun k=>f (ps.getD k [])).map fun k=>ps.getD k []:=by
  have e:(Ip ps.length).map (fun k=>ps.getD k [])=ps:=by
   refine Lr (by simp) fun i h1 h2=>?_
   simp[Ir,HP h2]
  conv=>lhs;rw[<- e,List.filter_map]
  rfl
 rw[this,Hu]
theorem tf{f:List Rat->Bool}:∀k∈plc f ps,k<ps.length:=fun k mk=>JU.mp (LA.mp mk).1
theorem uX{f g h:List Rat->Bool}(e:∀p∈ps,h p=(f p&&g p)):(plc f ps).filter (fun k=>g (ps.getD k []))=plc h ps:=by
 unfold plc
 rw[List.filter_filter]
 refine List.filter_congr fun k mk=>?_
 rw[e _ (getD_mem (JU.mp mk)),Bool.and_comm]
noncomputable def sB{ps:List (List Rat)}(h1:1<=ps.length)(h:ps.length<=60)(f:List Rat->Bool):EN 60 (qd (ps.filter f).length ps.length) :=
 uM (by omega) (by have:=JJ f ps;omega) (by omega)
end L2.VL
namespace L2.ZP
section
variable{prog:Ij}{w:IV}{A:IU}{E:Hq->Hv->Prop}{s:Hv}{z it a:Addr}{k:Nat}{xs:Array Hq}{x p:Hq}{b:Bool}
abbrev e2(h:Heap)(b:Bool)(a:Addr):Heap:=(y1 h b a).push {cls:=.type "enumerate", data:=.fields #[.none,.bool false,.ref h.objs.size,rawInt 0,.none,.none]}
theorem sj(b:Bool)(a:Addr)(o:Obj)(xs:Array Hq)(hr:∀h:Heap,h.get? a=some o->Gu b h a xs) :
 Meets (Builtin.«enumerate.__new__» ⟨[.type "enumerate", .ref a],[]⟩) (fun _ R s=>s.heap.get? a=some o/\R (.ok (.ret (.ref (y1 s.heap b a).objs.size))) {s with heap:=e2 s.heap b a}) :=
 .of_wp fun prog w A R s h=>by
  obtain⟨hp,g,d,tk,os⟩:=s
  obtain⟨l0,h⟩:=h
  have hsub:=sub_enumerate
  have k1:Gu b (Hv.heap ⟨hp,g,d,tk,os⟩) a xs:=hr _ l0
  wp_walk using KW l0
  refine wpAny_stack_any fun st=>HD ?_
  split
  · rename_i c _ _ _ _ _
    cases(c==Hq.type "enumerate")<;>(wp_walk using KW l0,y_ k1;exact⟨_,rfl,h⟩)
  · wp_walk using KW l0,y_ k1
    exact⟨_,rfl,h⟩
theorem Gu.obj(q:Gu b h a xs):∃o,h.get? a=some o/\∀h':Heap,h'.get? a=some o->Gu b h' a xs:=by
 cases b with
 | true=>obtain⟨o,h1,r⟩:=(show h.IsTuple a xs from q);exact⟨o,h1,fun h' e=>⟨o,e,r⟩⟩
 | false=>obtain⟨o,h1,r⟩:=(show h.IsList a xs from q);exact⟨o,h1,fun h' e=>⟨o,e,r⟩⟩
theorem qp(q1:Gu b s.heap a xs)
 (done:∀g,NM g (s.heap.objs.size+1) s.heap.objs.size 0 .none->G3 g s.heap.objs.size a xs 0->g.objs.size=s.heap.objs.size+2->(∀c o,s.heap.get? c=some o->g.get? c=some o)->Q (.ref (s.heap.objs.size+1)) {s with heap:=g}) :
 Ia (Il prog w) A (call (.type "enumerate") [.ref a]) Q E s:=by
 obtain⟨o,h1,hr⟩:=q1.obj
 refine callType_new F.called_enumerate (by decide) (F.typeCall_enumerate_1 _) (F.newCall_enumerate_1 _) (fun u=>F.args_object_init_2 u _) F.entry_enumerate_new (sj b a o xs hr) ⟨h1,?_⟩
 have n1:(y1 s.heap b a).objs.size=s.heap.objs.size+1:=Kw ..
 have n2:(e2 s.heap b a).objs.size=s.heap.objs.size+2:=by rw[Kw,n1]
 have pu:∀{h:Heap}{o u:Obj}{c:Addr},h.get? c=some u->(h.push o).get? c=some u:=fun e=>Hm _ e
 have kp:∀c o,s.heap.get? c=some o->(e2 s.heap b a).get? c=some o:=fun c o e=>pu (pu e)
 have f2:(e2 s.heap b a).get? (y1 s.heap b a).objs.size=some _:=HR _ rfl
 have f1:(e2 s.heap b a).get? s.heap.objs.size=some _:=pu (HR _ rfl)
 show _/\_
 rw[n1]at f2
 rw[n1]
 have mk:G3 (e2 s.heap b a) s.heap.objs.size a xs 0:=by
  have e:=hr _ (kp _ _ h1)
  cases b with
  | true=>exact .inr ⟨⟨_,f1,rfl,rfl⟩,e⟩
  | false=>exact .inl ⟨⟨_,f1,rfl,rfl⟩,e⟩
 exact⟨⟨_,f2,rfl⟩,done _ f2 mk n2 kp⟩
theorem wb(oz:NM s.heap z it k p)(s1:G3 s.heap it a xs k)(ex:xs[k]?=some x)(ne:z≠it)(nz:a≠z)(ni:a≠it)
 (done:∀g,IsEnumOut g z it ((k:Int)+1) x s.heap.objs.size->G3 g it a xs (k+1)->g.get? s.heap.objs.size=some {cls:=.type "tuple", data:=.seq #[.int k s.toks,x]}->g.objs.size=s.heap.objs.size+1 ->
  (∀b o,b≠z->b≠it->s.heap.get? b=some o->g.get? b=some o)->Q (.ref s.heap.objs.size) {s with heap:=g,toks:=s.toks+1}) :
 Ia (Il prog w) A (Builtin.«enumerate.__next__» ⟨[.ref z],[]⟩) (fun r s'=>∃u,r = .done (.ret u)/\Q u s') E s:=by
 show Ia _ _ (do let c <- field (.ref z) 2;_) _ _ _
 refine Hl (JK oz rfl (x:=.ref it) rfl ?_)
 refine Hl (s1.item ni ex fun g1 s1a b1=>?_)
 have z1:NM g1 z it k p:=b1.extBut _ _ ne oz
 show Ia _ _ (do let c <- field (.ref z) 3;_) _ _ _
 refine Hl (JK z1 rfl (x:=rawInt k) rfl ?_)
 show Ia _ _ (do let c <- field (.ref z) 4;_) _ _ _
 refine Hl (JK z1 rfl (x:=.none) rfl ?_)
 show Ia _ _ (do let c <- mkInt k;_) _ _ _
 refine Hl (wpAny_mkInt ?_)
 show Ia _ _ (do setField (.ref z) 3 (rawInt ((k:Int)+1));_) _ _ _
 refine Hl (KA z1 (by simp) fun g2 z2 b2=>?_)
 have z2:NM g2 z it ((k:Int)+1) p:=z2
 show Ia _ _ (do setField (.ref z) 4 .none;_) _ _ _
 refine Hl (KA z2 (by simp) fun g3 z3 b3=>?_)
 have z3:NM g3 z it ((k:Int)+1) p:=z3
 have size:g3.objs.size=s.heap.objs.size:=by rw[b3.1,b2.1,b1.1]
 have s3:G3 g3 it a xs (k+1):=(s1a.keep (SameBut.keep b2 ne.symm) (SameBut.keep b2 nz)).keep (SameBut.keep b3 ne.symm) (SameBut.keep b3 nz)
 have k3:∀b o,b≠z->b≠it->s.heap.get? b=some o->g3.get? b=some o:=fun b o n1 n2 e=>b3.extBut _ _ n1 (b2.extBut _ _ n1 (b1.extBut _ _ n2 e))
 have zl:z<g3.objs.size:=HJ z3
 show Ia _ _ (do let c <- newTuple [.int k s.toks,x];_) _ _ _
 refine Hl (wpAny_newTuple ?_)
 have z4:NM (g3.push {cls:=.type "tuple", data:=.seq #[.int k s.toks,x]}) z it ((k:Int)+1) p:=Hm _ z3
 show Ia _ _ (do let c <- KS (.ref z);_) _ _ _
 refine Hl ?_
 unfold KS
 refine Hl (JK z4 rfl (x:=K_) rfl (HD ?_))
 simp only[if_true]
 refine Hl (Ly (Hl (JK z4 rfl (x:=p) rfl (Hl (KA z4 (by simp) fun g5 z5 b5=>?_)))))
 have z5:NM g5 z it ((k:Int)+1) x:=z5
 show Ia _ _ (do KR (.ref z) (.ref g3.objs.size);_) _ _ _
 refine Hl ?_
 unfold KR
 refine Hl (KA z5 (by simp) fun g6 z6 b6=>?_)
 have z6:IsEnumOut g6 z it ((k:Int)+1) x g3.objs.size:=z6
 refine KA z6 (by simp) fun g7 z7 b7=>?_
 have z7:IsEnumOut g7 z it ((k:Int)+1) x g3.objs.size:=z7
 have up:∀b o,b≠z->g3.get? b=some o->g7.get? b=some o:=fun b o n e=>b7.extBut _ _ n (b6.extBut _ _ n (b5.extBut _ _ n (Hm _ e)))
 have t7:g7.get? g3.objs.size=some {cls:=.type "tuple", data:=.seq #[.int k s.toks,x]} :=
  b7.extBut _ _ (KB zl) (b6.extBut _ _ (KB zl) (b5.extBut _ _ (KB zl) (HR _ rfl)))
 have l7:g7.objs.size=g3.objs.size+1:=by rw[b7.1,b6.1,b5.1,Kw]
 rw[size]at z7 t7 l7
 refine Hl (Mc (HD ⟨_,rfl,?_⟩))
 show Q (.ref g3.objs.size) _
 rw[size]
 exact done g7 z7 (s3.keep (fun o e=>up _ o ne.symm e) fun o e=>up _ o nz e) t7 l7 fun b o n1 n2 e=>up b o n1 (k3 b o n1 n2 e)
end
end L2.ZP
namespace L2
open PySem PySem.Spec PyProof.Rows L2.ZP
noncomputable def G1(K:W.Frag)(b:Bool)(a:Addr):It :=
 ⟨fun i H=>∃xs x,Gs b K H a xs/\xs[i]?=some x,
  fun i H v H'=>∃x p,(∀xs,Gs b K H a xs->xs[i]?=some x)/\H p=none/\v = .ref p/\H'=D8 H p (.tup [.int i,x]),
  fun i H=>∃xs,Gs b K H a xs/\xs.length<=i⟩
noncomputable def ES(b:Bool)(z it a:Addr)(i:Nat)(h:Heap):Prop:=(∃p,NM h z it i p)/\G4 b h it a i
theorem nX{w:IV}{K:W.Frag}{elts:List Expr}{kt:Nat}{pt:Pos}(b:Bool)(z it a:Addr)(ne:z≠it)(nz:a≠z)(ni:a≠it) :
 Turn P w K (.Tuple elts kt pt) (G1 K b a) [z,it] z (ES b z it a) where
 mem:=by simp
 obj:=fun i h ⟨⟨p,h1⟩,h4⟩ c hb=>by
  simp at hb
  rcases hb with rfl|rfl
  · exact⟨_,h1,fun v c=>by cases c⟩
  · exact h4.obj
 keep:=fun i h h' ⟨⟨p,h1⟩,h4⟩ k=>⟨⟨p,k z (by simp) _ h1⟩,h4.keep fun o e=>k it (by simp) o e⟩
 item:=by
  intro X hP hw hK hc i pins s σ H E I hf st hg
  subst hP hw hK
  obtain⟨⟨p,h1⟩,h4⟩:=st
  obtain⟨xs,x,q1,ex⟩:=hg
  obtain⟨its,r1,t1⟩:=I.sqB q1
  obtain⟨u,hu,ru⟩:=r1.get ex
  have ty:s.TypeIs (.ref z) "enumerate" := ⟨_,h1,rfl⟩
  unfold Mw
  refine Hl (wpAny_attempt (Jj (name:=Hi "__next__") ty F.slot_enumerate_next (J5 F.slot_enumerate_next ty F.entry_enumerate_next
   (wb h1 (h4.it1 t1) (by simpa using hu) ne nz ni fun g e1 e3 e5 e6 e7=>HD ?_) (F.args_enumerate_next_1 _))))
  have hz:s.heap.objs.size≠z:=KB (HJ h1)
  refine⟨.ref s.heap.objs.size,rfl,wpAny_letOwnedTupleGo_enum e1 fun g' f1 fb=>?_⟩
  have hp:H s.heap.objs.size=none:=I.hok.fresh (Hs _)
  have I1:Inv X pins σ (D8 H s.heap.objs.size (.tup [.int i,x])) {s with heap:=s.heap.push {cls:=.type "tuple", data:=.seq [.int i s.toks,u].toArray},toks:=s.toks+1} :=
   I.laid (t':=s.toks+1) (o:=.tup [.int i,x]) (fun b ob e=>Hm _ e) (Hs _) ⟨(by show 2<=sizeLine;decide),[.int i s.toks,u],.cons ⟨_,rfl⟩ (.cons ru .nil),qw.new _ _⟩
  have ne':∀b∈[z,it],b≠s.heap.objs.size:=fun b hb e=>by
   simp at hb
   rcases hb with rfl|rfl
   · exact hz e.symm
   · obtain⟨o,ho,_⟩:=h4.obj
     exact absurd (HJ ho) (by rw[e];exact JF _)
  have kg:∀b o,b∉[z,it]->(s.heap.push {cls:=.type "tuple", data:=.seq [.int i s.toks,u].toArray}).get? b=some o->g'.get? b=some o:=fun b o hb e=>by
   simp at hb
   obtain⟨n1,n2⟩:=hb
   refine fb.extBut _ _ n1 ?_
   by_cases hbn:b=s.heap.objs.size
   · subst hbn
     rw[HR _ rfl]at e
     cases e
     exact e5
   · exact e7 b o n1 n2 (by rw[Heap.get?_push_ne _ _ _ hbn]at e;exact e)
  have fp1:∀b∈[z,it],kE X pins (D8 H s.heap.objs.size (.tup [.int i,x])) b:=fun b hb=>by
   obtain⟨f0,fr⟩:=hf b hb
   exact⟨by rw[am (ne' b hb)];exact f0,fr⟩
  have I2:Inv X pins σ (D8 H s.heap.objs.size (.tup [.int i,x])) {s with heap:=g',toks:=s.toks+1}:=I1.turnedL (t':=s.toks+1) kg fp1
  have k8:∀b o,b≠z->g.get? b=some o->g'.get? b=some o:=fun b o n e=>fb.extBut _ _ n e
  have t1':Gu b g a its.toArray:=Gu.of t1 fun o e=>e7 _ o nz ni e
  refine⟨.ref s.heap.objs.size,_,I2,rfl,⟨x,_,fun xs' q'=>by rw[I.sqB_inj q' q1];exact ex,hp,rfl,rfl⟩,⟨⟨_,by simpa using f1⟩,(G3.ir e3 h4 t1').keep fun o e=>k8 _ o ne.symm e⟩,fun b hb=>(fp1 b hb).1⟩
 done:=by
  intro X hP hw hK hc i pins s σ H E I hf st hg
  subst hP hw hK
  obtain⟨⟨p,h1⟩,h4⟩:=st
  obtain⟨xs,q1,ex⟩:=hg
  obtain⟨its,r1,t1⟩:=I.sqB q1
  have l1:=r1.length
  have ty:s.TypeIs (.ref z) "enumerate" := ⟨_,h1,rfl⟩
  unfold Mw
  refine Hl (wpAny_attempt (Jj (name:=Hi "__next__") ty F.slot_enumerate_next (J5 F.slot_enumerate_next ty F.entry_enumerate_next ?_ (F.args_enumerate_next_1 _))))
  show Ia _ _ (do let c <- field (.ref z) 2;_) _ _ _
  refine Hl (JK h1 rfl (x:=.ref it) rfl ?_)
  refine Hl ((h4.it1 t1).fin (I.ok.hd hc) (by simp;omega) fun g e kg ⟨o,ho,hoc⟩=>?_)
  refine Hl (wpAny_isInstance (T := "StopIteration") (b:=true) ⟨o,ho,hoc⟩ isSubtype_stop (HD ⟨rfl,?_⟩))
  exact I.turnedL (t':=s.toks) (fun b o hb e=>by simp at hb;exact kg b o hb.2 e) hf
 self:=fun _ _ _ _ _ st h=>by
  obtain⟨⟨p,h1⟩,_⟩:=st
  exact wpAny_pyIter_enum h1 h
section
variable{X:Cx}{e1:Expr}{ta:TA}{elts:List Expr}{kt:Nat}{pt p pos:Pos}
noncomputable def Ds(K:W.Frag)(b:Bool)(t:TA):TI:=fun σ H R=>t σ H fun vs H1=>∃a xs,vs=[.ref a]/\Gs b K H1 a xs/\R (G1 K b a) H1
theorem uZ(b:Bool)(hg:Gl X "enumerate")(hm:X.mg "enumerate" = none)(ha:PA X [e1] ta)(hs:Hw [e1] X.env=(false,eval e1 X.env)::Hw [] X.env:=by rfl)(hpl:(I0 pos (Hw [] X.env)).any (·.1)=false:=by rfl) :
 PI X (.Tuple elts kt pt) (.Call (.Name "enumerate" p) [e1] [] pos) (Ds X.K b ta):=by
 intro pins s σ H R I h
 refine Call_ (fK I hg hm (by rfl) (Jw (Eg (ha pos pins s σ H _ I h) fun us s1 ⟨vs,H1,I1,r1,q1⟩=>?_) hs hpl) (by decide) (by decide))
 obtain⟨a,xs,ev,q1,q⟩:=q1
 subst ev
 cases r1 with
 | cons r rr =>
   cases rr
   cases r
   obtain⟨its,v1,t1⟩:=I1.sqB q1
   refine qp t1 fun g f1 f4 f6 kp=>wpAny_pyIter_enum f1 ?_
   have l1:a<s1.heap.objs.size:=by
    obtain⟨o,ho,_⟩:=t1.obj
    exact HJ ho
   have I2:Inv X pins σ H1 {s1 with heap:=g}:=I1.kept (t':=s1.toks) kp
   have ir:G4 b g s1.heap.objs.size a 0:=by
    have r':=Gu.of t1 fun o e=>kp _ o e
    cases b with
    | true =>
      rcases f4 with⟨_,⟨o,e,c,_⟩⟩|⟨q,_⟩
      · obtain⟨o',e',c',_⟩:=(show g.IsTuple a _ from r')
        rw[e]at e';cases e';rw[c]at c';injection c' with z;exact absurd z (by decide)
      · exact q
    | false =>
      rcases f4 with⟨q,_⟩|⟨_,⟨o,e,c,_⟩⟩
      · exact q
      · obtain⟨o',e',c',_⟩:=(show g.IsList a _ from r')
        rw[e]at e';cases e';rw[c]at c';injection c' with z;exact absurd z (by decide)
   refine⟨_,[s1.heap.objs.size+1,s1.heap.objs.size],_,_,H1,rfl,I2,nX b _ _ a (by simp) (Im (Lg l1)) (Im l1),⟨⟨_,f1⟩,ir⟩,fun b hb=>?_,q⟩
   have hb':s1.heap.objs.size<=b:=by
    simp at hb
    rcases hb with rfl|rfl
    · exact Nat.le_add_right _ 1
    · exact Hs _
   exact I1.fpOk hb' (I1.hok.fresh hb')
end
end L2
namespace L2.VL
section
variable{X:Cx}{rl:RlT}{a:Expr}{elts:List Expr}{kt:Nat}{pt p pos:Pos}{fs:Gi}
noncomputable def hX(xs:List Hh):List Hh:=xs.zipIdx.map fun z=>.tuple [.int (z.2:Nat),z.1]
theorem ka(h:(hX xs)[i]?=some d):∃x,xs[i]?=some x/\d = .tuple [.int (i:Nat),x]:=by
 unfold hX at h
 rw[Ix,List.getElem?_zipIdx]at h
 cases ex:xs[i]? with
 | none=>rw[ex]at h;cases h
 | some x=>rw[ex]at h;simp at h;exact⟨x,rfl,h.symm⟩
noncomputable def FI(b:Bool)(fs:Gi):En->(List Hh->Prop)->Prop:=fun ρ Q=>fs ρ fun ws=>∃dx xs,ws=[.d dx]/\kI dx=some xs/\hW dx=b/\Q (hX xs)
theorem ub(b:Bool)(hm:X.mg "enumerate" = none)(ha:GB X rl [a] fs)(hg:Gl X "enumerate" := by rfl)(hs:Hw [a] X.env=(false,eval a X.env)::Hw [] X.env:=by rfl)(hpl:(I0 pos (Hw [] X.env)).any (·.1)=false:=by rfl) :
 GJ X rl (.Tuple elts kt pt) (.Call (.Name "enumerate" p) [a] [] pos) (FI b fs):=by
 obtain⟨t,p1,k⟩:=ha
 refine⟨_,uZ b hg hm p1 hs hpl,fun R Qd Q q h=>k R _ _ q fun vs ws F1 H1 g1 r1 ⟨dx,xs,ew,e1,kb1,q1⟩=>?_⟩
 subst ew kb1
 obtain⟨v,rfl,rv⟩:=kP r1
 obtain⟨a1,vs,rfl,rs,sq1⟩:=xU rv e1
 refine⟨a1,vs,rfl,sq1 _ g1.sub,h _ (hX xs) F1 H1 g1 ⟨fun i H x e s=>?_,fun i H hl s=>?_,fun i H v H' x F2 e s s2 ra y=>?_⟩ q1⟩
 · obtain⟨x1,ex,_⟩:=ka e
   obtain⟨v1,ev1,_⟩:=rs.get ex
   exact⟨vs,v1,sq1 _ s,ev1⟩
 · refine⟨vs,sq1 _ s,?_⟩
   unfold hX at hl
   rw[Hu,LW]at hl
   rw[rs.length]
   omega
 · obtain⟨x1,ex,ed⟩:=ka e
   obtain⟨vx,pp,hx,hp,ev,eH⟩:=y
   obtain⟨v1,ev1,rv1⟩:=rs.get ex
   have h1:=hx vs (sq1 _ (s.trans s2))
   rw[ev1]at h1
   cases h1
   subst ev eH ed
   have g:=Grow.data (a:=pp) (o:=.tup [.int (i:Nat),vx]) s2 ra hp
   exact⟨_,g,.tup (.inl (.inl au)) (.cons (.int _) (.cons ((rv1.mono s).mono g.fs) .nil))⟩
theorem iU(hm:X.mg "enumerate" = none)(ha:GB X rl [a] fs)(hg:Gl X "enumerate" := by rfl)(hs:Hw [a] X.env=(false,eval a X.env)::Hw [] X.env:=by rfl)(hpl:(I0 pos (Hw [] X.env)).any (·.1)=false:=by rfl) :
 GJ X rl (.Tuple elts kt pt) (.Call (.Name "enumerate" p) [a] [] pos) (FI false fs):=ub false hm ha hg hs hpl
end
theorem pS(xs:List α)(enc:α->Hh):hX (xs.map enc)=xs.zipIdx.map fun z=>Io [.int (z.2:Nat),enc z.1]:=by
 unfold hX
 rw[List.zipIdx_map,Jg]
 rfl
section
variable{α β:Type}{b:Hh->Mo (Option Hh)}
end
open PySem PySem.Spec
noncomputable def FW(bs:List Bool):Hh:=.list (bs.map .bool)
theorem dI{a b:List Bool}:FW a=FW b↔a=b:=by
 unfold FW;rw[Ld]
 exact b4 fun x y=>by rw[IG.injEq]
noncomputable def EX(ns:List Nat):Hh:=.list (ns.map fun k:Nat=>.int (k:Int))
theorem dG{a b:List Nat}:EX a=EX b↔a=b:=by
 unfold EX;rw[Ld]
 exact b4 fun x y=>by rw[Ml];omega
noncomputable def colQ(ps:List (List Rat))(i:Nat):List Rat:=ps.map fun p=>p.getD i 0
theorem p9{k:Nat}(f:Rat->Bool)(hk:k<ps.length):((colQ ps i).map f).getD k false=f ((ps.getD k []).getD i 0):=by
 rw[jk (show k<((colQ ps i).map f).length by unfold colQ;rw[Hu,Hu];exact hk),jk hk]
 unfold colQ
 rw[List.getElem_map,List.getElem_map]
noncomputable def Bl(ws:List W):Option (List Hh):=match ws with
 | [.d (.list xs)]=>some (hX xs)
 | _=>none
theorem zp(xs:List Hh):Bl [.d (.list xs)]=some (hX xs):=rfl
theorem yQ{fs:Gi}:FI false fs ρ=FV (fs ρ) fun ws=>aO (Bl ws) ret:=by
 show(FV (fs ρ) fun ws=>fun(Q:List Hh->Prop)=>∃dx xs,ws=[.d dx]/\kI dx=some xs/\hW dx=false/\Q (hX xs))=_
 congr 1;funext ws
 refine ah fun Q=>?_
 simp only[aq,ret]
 constructor
 · rintro⟨dx,xs,rfl,a,b,q⟩
   cases dx with
   | list ys=>cases a;exact⟨_,rfl,q⟩
   | tuple ys=>cases b
   | _=>cases a
 · rintro⟨zs,e,q⟩
   unfold Bl at e
   split at e
   · cases e;exact⟨_,_,rfl,rfl,rfl,q⟩
   · cases e
noncomputable def nT(k1 k2 k3:Str)(f1 f2 f3 fa:TV):TV:=fun ρ Q=>f1 ρ fun w1=>∃d1,w1.fz = .d d1/\f2 ρ fun w2=>∃d2,w2.fz = .d d2/\f3 ρ fun w3=>∃d3,w3.fz = .d d3/\fa ρ fun w=>∃k,w = .d (.str k)/\∃d,[(k1,d1),(k2,d2),(k3,d3)].lookup k=some d/\Q (.d d)
theorem nI(ps:List (Str×V))(k:Str):fR (ps.map fun p=>((IC p.1:GU),p.2)) (IC k)=ps.lookup k:=by
 induction ps with
 | nil=>rfl
 | cons p ps ih =>
   unfold fR at ih ⊢
   rw[IF,I_,IM]
   by_cases h:p.1=k
   · simp[h]
   · have h1:(k==p.1)=false:=by simpa using fun z=>h z.symm
     have h2:decide ((IC p.1:GU)=IC k)=false:=by simpa using h
     rw[h1]
     simp only[h2,IT,if_false]
     exact ih
theorem vL{K:W.Frag}{k1 k2 k3 k:Str}{v1 v2 v3:V}{d1 d2 d3:Hh}(r1:Rep K F v1 d1)(r2:Rep K F v2 d2)(r3:Rep K F v3 d3)(h:[(k1,d1),(k2,d2),(k3,d3)].lookup k=some d):∃v,[(k1,v1),(k2,v2),(k3,v3)].lookup k=some v/\Rep K F v d:=by
 simp only[JN]at h ⊢
 split at h
 · cases h;exact⟨v1,rfl,r1⟩
 · split at h
   · cases h;exact⟨v2,rfl,r2⟩
   · split at h
     · cases h;exact⟨v3,rfl,r3⟩
     · cases h
section
variable{X:Cx}{rl:RlT}{e e1 e2 e3:Expr}{fa f1 f2 f3:TV}{pos dpos q1 q2 q3:Pos}{ρ:En}{j1 j2 j3}
theorem nP{k1 k2 k3:Str}(hr:Room 0 X.A)(hd:k1≠k2/\k1≠k3/\k2≠k3)(h1:PV X rl e1 f1)(h2:PV X rl e2 f2)(h3:PV X rl e3 f3)(h:PV X rl e fa)(hs:wI e:=by exact fun _ _=>rfl) :
 PV X rl (.Subscript (.Dict [some (.Constant (.str k1) j1 q1),some (.Constant (.str k2) j2 q2),some (.Constant (.str k3) j3 q3)] [e1,e2,e3] dpos) e pos) (nT k1 k2 k3 f1 f2 f3 fa):=by
 obtain⟨t,p,k⟩:=h
 obtain⟨t1,p1,c1⟩:=h1
 obtain⟨t2,p2,c2⟩:=h2
 obtain⟨t3,p3,c3⟩:=h3
 obtain⟨d12,d13,d23⟩:=hd
 refine⟨_,ja (rN hr) (oS (cW dw p1 (cW dw p2 (cW dw p3 oO))) rfl rfl (by intro z;cases z) (by show 3<=15;decide)) p hs,fun{F₀ H₀ F H σ ρ} R Qd Q q h=>?_⟩
 intro d hd
 have rd:rl.a≠some d:=fun z=>by obtain⟨o,zz⟩:=R.reel.live z;rw[hd]at zz;cases zz
 have g0:Grow rl F H F (D8 H d (.dK [])):=Grow.laid R.sub R.reel hd
 refine c1 (R.grow g0) _ _ q fun v1 w1 F1 H1 g1 r1 n1 ⟨d1,e1,q1⟩=>?_
 obtain⟨E1,g1',s1,r1'⟩:=di.fz g1 r1 n1
 rw[e1]at r1'
 refine c2 ((R.grow g0).grow g1') _ _ q1 fun v2 w2 F2 H2 g2 r2 n2 ⟨d2,e2,q2⟩=>?_
 obtain⟨E2,g2',s2,r2'⟩:=di.fz g2 r2 n2
 rw[e2]at r2'
 refine c3 (((R.grow g0).grow g1').grow g2') _ _ q2 fun v3 w3 F3 H3 g3 r3 n3 ⟨d3,e3,q3⟩=>?_
 obtain⟨E3,g3',s3,r3'⟩:=di.fz g3 r3 n3
 rw[e3]at r3'
 have ga:Grow rl F (D8 H d (.dK [])) E3 H3:=(g1'.trans g2').trans g3'
 have hD3:H3 d=some (.dK []):=ga.same d _ au rd
 have fd:E3 d=none:=by rw[ga.old d _ au];exact R.sub.free hd
 refine⟨hD3,[(IC k1,v1),(IC k2,v2),(IC k3,v3)],rfl,(by show 3<=15;decide),?_⟩
 have em:eM [] [((IC k1:GU),v1),(IC k2,v2),(IC k3,v3)]=[(IC k1,v1),(IC k2,v2),(IC k3,v3)]:=by
  unfold eM
  simp only[Kg,List.foldl_nil]
  have p0:dC ([]:List (GU×V)) (IC k1) v1=[(IC k1,v1)]:=rfl
  rw[p0]
  unfold dC
  simp[d12,d13,d23]
 rw[em]
 have gb:Grow rl F H E3 (D8 H3 d (.dK [(IC k1,v1),(IC k2,v2),(IC k3,v3)])):=by
  have g:=g0.trans ga
  refine⟨fun b o eb n=>by rw[am (aX eb hd)];exact g.same b o eb n,g.fs,fun b o eb=>?_,g.old,fun r er=>?_⟩
  · rw[am (fun z=>by rw[z,fd]at eb;cases eb)];exact g.sub b o eb
  · obtain⟨z1,⟨o,z2,z3⟩⟩:=g.reel r er
    exact⟨z1,⟨o,by rw[am (fun z=>rd (by rw[<- z];exact er))];exact z2,z3⟩⟩
 refine k (R.grow gb) _ _ q3 fun v w F4 H4 g4 r4 n4 ⟨kk,ew,dd,lk,q4⟩=>?_
 subst ew
 have ev:v = .str kk:=by cases(show Rep X.K F4 v (.str kk)from r4);rfl
 subst ev
 have hD:H4 d=some (.dK [(IC k1,v1),(IC k2,v2),(IC k3,v3)]):=g4.same d _ au rd
 obtain⟨u,lu,ru⟩:=vL (Rep.mono (g3'.fs.trans g4.fs) (Rep.mono g2'.fs r1')) (Rep.mono (g3'.fs.trans g4.fs) r2') (Rep.mono g4.fs r3') lk
 have gd:=z9.k (k:=(IC kk:GU)) hD
 have:fR [((IC k1:GU),v1),(IC k2,v2),(IC k3,v3)] (IC kk)=some u:=(nI [(k1,v1),(k2,v2),(k3,v3)] kk).trans lu
 rw[this]at gd
 exact⟨d,u,rfl,gd,h _ (.d dd) _ _ (gb.trans g4) ru trivial q4⟩
theorem ge(k1 k2 k3:Str):nT k1 k2 k3 f1 f2 f3 fa ρ=FV (f1 ρ) fun w1=>aO (asD w1.fz) fun d1=>FV (f2 ρ) fun w2=>aO (asD w2.fz) fun d2=>FV (f3 ρ) fun w3=>aO (asD w3.fz) fun d3=>FV (fa ρ) fun w=>aO (asS w) fun k=>aO ([(k1,d1),(k2,d2),(k3,d3)].lookup k) fun d=>ret (.d d):=by
 refine ah fun Q=>?_
 simp only[nT,FV,aq,gX,tT,ret]
end
section
variable{X:Cx}{rl:RlT}{elt t1 i1 t2 i2:Expr}{f1 f2:List Expr}{scope:Scope}{pos:Pos}{fi fj:En->(List Hh->Prop)->Prop}{g g2:Go}{ft ft2:TB}{fe:TV}
end
noncomputable def Gy(d:Hh):Prop:=wz d/\d.depth<=60/\d.shown.length<=sizeLine
section
variable{X:Cx}{rl:RlT}{a b e:Expr}{es:List Expr}{fa fb fc:TV}{fs:Gi}{pos p:Pos}
noncomputable def sV(K:W.Frag):List V->Hp->VK->Prop:=fun xs H Q=>∃x d,xs=[x]/\Rep K H x d/\Gy d/\Q (.str d.shown) H
theorem nu(hgd:X.A.guards=some [])(hu:X.A.units+64<Mn):dB X (.builtin "repr") (sV X.K):=by
 intro pins s σ H xs us Q I r ⟨x,d,ex,rx,sh,q⟩
 subst ex
 obtain⟨u,rfl,ru⟩:=vals1 r
 have fin:∀tk h' , (∀b o,s.heap.get? b=some o->h'.get? b=some o)->∀t,EP X pins σ Q (.str d.shown t) {s with heap:=h',toks:=tk}:=fun tk h' k t=>⟨.str d.shown,H,I.kept k,⟨t,rfl⟩,q⟩
 obtain⟨as,rd⟩:=Rep.reads I (.refl H) rx u ru
 have hs:=(wz.facts d sh.1)
 cases rx with
 | non=>cases(show u=K_ from ru);exact P.repr_of_none (fin _ _ (fun _ _ e=>e) _)
 | bl b=>cases(show u=ML b from ru);exact P.repr_of_bool (fin _ _ (fun _ _ e=>e) _)
 | int i =>
   obtain⟨t,e⟩:=(show ∃t,u=L3 i t from ru)
   cases e
   exact P.repr_of_int (by simpa[K4]using hs.1) (fin _ _ (fun _ _ e=>e) _)
 | str x =>
   obtain⟨t,e⟩:=(show ∃t,u=Mv x t from ru)
   cases e
   exact P.repr_of_str (fin _ _ (fun _ _ e=>e) _) sh.2.2
 | tup sq rs =>
   cases(show u=JV _ from ru)
   exact LY rd hs.1 (Lc hs.2.2.1) hgd (by have:=sh.2.1;omega) (fun _ _ e=>e) (fun h' t tk hk=>fin tk h' hk t) sh.2.2
 | lst sq rs =>
   cases(show u=JV _ from ru)
   exact LY rd hs.1 (Lc hs.2.2.1) hgd (by have:=sh.2.1;omega) (fun _ _ e=>e) (fun h' t tk hk=>fin tk h' hk t) sh.2.2
noncomputable def mh:List W->(W->Prop)->Prop:=fun ws Q=>∃w d,ws=[w]/\w.dat=some d/\Gy d/\Q (.d (.str d.shown))
theorem qC:eW X rl (sV X.K) mh:=fun{F H vs ws} Qd Q s ra r ⟨w,d,ew,e1,sh,q⟩ k=>by
 subst ew
 obtain⟨v,rfl,r1⟩:=kP r
 exact⟨v,d,rfl,r1.dat s e1,sh,k _ (.d _) _ _ (Grow.refl s ra) (.str _) trivial q⟩
theorem nL(hr:Room 0 X.A)(hm:X.mg "repr" = none)(ha:GB X rl [e] fs)(hg:Gl X "repr" := by rfl)(he:Hw [e] X.env=(false,eval e X.env)::Hw [] X.env:=by rfl)(hpl:(I0 pos (Hw [] X.env)).any (·.1)=false:=by rfl) :
 PV X rl (.Call (.Name "repr" p) [e] [] pos) (dt mh fs):=cO (nu hr.gd hr.units) qC hm (by first|rfl|exact boot_repr) ha hg (by decide) (by decide) he hpl
theorem rF(w:W):mh [w]=aO w.dat fun d=>FJ (Gy d) (ret (.d (.str d.shown))):=by
 refine ah fun Q=>?_
 simp only[mh,aq,ret,FJ,IE,and_true]
 exact⟨fun⟨w',d,e,a,b,q⟩=>by subst e;exact⟨d,a,b,q⟩,fun⟨d,a,b,q⟩=>⟨w,d,rfl,a,b,q⟩⟩
end
structure VItG (K:W.Frag) (rl:RlT) (F H1:Hp) (J:It) (xs:List Hh):Prop where
 go:∀i F2 H x,xs[i]?=some x->Grow rl F H1 F2 H->J.go i H
 stop:∀i F2 H,xs.length<=i->Grow rl F H1 F2 H->J.stop i H
 yld:∀i H v H' x F2,xs[i]?=some x->Grow rl F H1 F2 H->J.yld i H v H'->∃F3,Grow rl F2 H F3 H'/\Rep K F3 v x
noncomputable def CQ(X:Cx)(rl:RlT)(tg l:Expr)(fi:En->(List Hh->Prop)->Prop):Prop:=∃t,PI X tg l t/\∀{F₀ H₀ F H:Hp}{σ:St}{ρ:En},VR X.K rl F₀ H₀ F H σ ρ->∀(Qd:List Hh->Prop)(R:It->Hp->Prop),fi ρ Qd ->
 (∀J xs F' H',Grow rl F H F' H'->VItG X.K rl F' H' J xs->Qd xs->R J H')->t σ H R
section
variable{X:Cx}{rl:RlT}{elt tg iter:Expr}{ifs:List Expr}{scope:Scope}{pos px:Pos}{fi:En->(List Hh->Prop)->Prop}{g:Go}{ft:TB}{fe:TV}{ρ:En}
noncomputable def FH(i:Nat):En->(List Hh->Prop)->Prop:=fun ρ Q=>∃xs,ρ[i]?=some (some (.ml xs))/\Q xs
theorem wS(i:Nat)(hN:X.N[i]?=some x:=by rfl)(hv:Gc X.env.scope x:=by first|exact Js rfl|exact IR (Js rfl)|exact IR (IR rfl))
 (hd:(x==("__debug__" : Str))=false:=by decide)(hcd:(x==("__classdict__" : Str))=false:=by decide):CQ X rl tg (.Name x px) (FH i):=by
 refine⟨_,oR (cQ hN hv hd hcd),fun{F₀ H₀ F H σ ρ} R Qd Q ⟨xs,e,q⟩ h=>?_⟩
 obtain⟨v,h1,h2,h3⟩:=R.sl i _ e
 obtain⟨a,vs,rfl,f,hr,hh,rs⟩:=(show gZ X.K rl F H v xs from h2)
 have sq:∀{F2 H2:Hp},Grow rl F H F2 H2->Gr X.K H2 a vs:=fun g=>.inl (.inl (g.same a _ hh hr))
 refine⟨.ref a,h1,a,rfl,⟨vs,.inl (.inl hh)⟩,h _ xs F H (Grow.refl R.sub R.reel) ⟨fun i F2 H2 x e g=>?_,fun i F2 H2 hl g=>⟨vs,sq g,by rw[rs.length];exact hl⟩,fun i H2 v H' x F2 e g y=>?_⟩ q⟩
 · obtain⟨v,ev,_⟩:=rs.get e
   exact⟨vs,v,sq g,ev⟩
 · obtain⟨e',hy⟩:=y
   obtain⟨v',ev,rv⟩:=rs.get e
   have:=hy vs (sq g)
   rw[ev]at this
   cases this
   subst e'
   exact⟨F2,Grow.refl g.sub g.reel,rv.mono g.fs⟩
theorem rJ{wi:TI}(fr:List (Option Nat))(k0:∀{F₀ H₀ F H:Hp}{σ:St}{ρ:En},VR X.K rl F₀ H₀ F H σ ρ->∀(Qd:List Hh->Prop)(R:It->Hp->Prop),fi ρ Qd ->
 (∀J xs F' H',Grow rl F H F' H'->VItG X.K rl F' H' J xs->Qd xs->R J H')->wi σ H R)
 (hg:∀y,GM (blk X N' scope y) rl tg g)(ht:∀y,kD (blk X N' scope y) rl ifs ft)(he:∀y,PV (blk X N' scope y) rl elt fe)
 {ρ:En}(R:VR X.K rl F₀ H₀ F H σ ρ)(Qd:W->Prop)(Q:VK)(q:ii fi fr g ft fe ρ Qd)
 (k:∀v w F' H',Grow rl F H F' H'->di X.K rl F' H' v w->dj H v w->Qd w->Q v H'):qM wi fr (fun y=>ID (hg y)) (fun y=>ID (ht y)) (fun y=>ID (he y)) σ H Q:=by
 refine k0 R _ _ q fun J xs F1 H1 g1 vi q1=>?_
 intro D hD
 have rD:rl.a≠some D:=fun e=>by obtain⟨o,z⟩:=g1.reel.live e;rw[hD]at z;cases z
 have FD:F1 D=none:=g1.sub.free hD
 have gD:Grow rl F1 H1 F1 (D8 H1 D (.lst [])):=Grow.laid g1.sub g1.reel hD
 have R1:=R.grow g1
 have n0:kz (dH fr ρ):=cR
 refine⟨fun i m acc σc Hc=>m=xs.length-i/\i<=xs.length/\∃Fc ds,VR X.K rl F1 H1 Fc Hc σc (dH fr ρ)/\Hc D=some (.lst acc)/\Fc D=none/\Reps X.K Fc acc ds/\nw (dH fr ρ) g ft fe (xs.drop i) ds (fun ds=>Qd (.ml ds)),
  ⟨xs.length,by simp,HS _,F1,[],ee R1 gD,au,FD,.nil,by simpa using q1⟩,?_⟩
 rintro z i m acc σc Hc ⟨rfl,hi,Fc,ds,Rc,hDc,fDc,rs,q2⟩
 have sH:bL F1 Hc:=Rc.g.fs.trans Rc.sub
 by_cases hlt:i<xs.length
 · have ei:xs[i]?=some xs[i]:=by simp[hlt]
   have ed:xs.drop i=xs[i]::xs.drop (i+1):=IP hlt
   rw[ed]at q2
   refine .inr ⟨vi.go i Fc Hc _ ei Rc.g,fun v H' y=>?_⟩
   obtain⟨Fy,gy,rv⟩:=vi.yld i Hc v H' _ Fc ei Rc.g y
   refine(Ho (hg z)).2 (Rc.grow gy) v _ _ _ rv q2 fun F3 H3 σ3 ρ3 g3 n3 R3 ⟨le3,q3⟩=>?_
   refine(Ho (ht z)).2 R3 _ _ q3 fun b F4 H4 g4 q4=>?_
   have R4:=R3.grow g4
   have g34:=(gy.trans g3).trans g4
   have keepD:∀{Fx Hx:Hp},Grow rl Fc Hc Fx Hx->Hx D=some (.lst acc)/\Fx D=none:=fun gx=>⟨gx.same D _ hDc rD,by rw[gx.old D _ hDc];exact fDc⟩
   cases b with
   | false=>exact⟨xs.length-(i+1),by omega,rfl,hlt,F4,ds,R4.le le3,(keepD g34).1,(keepD g34).2,rs.mono g34.fs,q4⟩
   | true =>
     refine(Ho (he z)).2 R4 _ _ q4 fun v5 w5 F5 H5 g5 r5 n5 ⟨d,ed5,hl,q5⟩=>?_
     obtain⟨F6,g6,s6,r6⟩:=di.fz g5 r5 n5
     rw[ed5]at r6
     have g36:=g34.trans g6
     refine⟨(keepD g36).1,by rw[rs.length];exact hl,xs.length-(i+1),by omega,rfl,hlt,F6,ds++[d],((R4.grow g6).le le3).other n0 hD (keepD g36).2 rD,au,(keepD g36).2,(rs.mono g36.fs).snoc r6,q5⟩
 · have e:i=xs.length:=by omega
   subst e
   rw[JL]at q2
   refine .inl ⟨vi.stop _ Fc Hc (Hs _) Rc.g,k _ (.ml ds) Fc Hc (g1.trans Rc.g) ⟨D,acc,rfl,fDc,rD,hDc,rs⟩ (fun a ea=>by cases ea;exact g1.freeB hD) q2⟩
theorem qD(N':List Str)(fr:List (Option Nat))(hc:X.calm=true)(hi:CQ X rl tg iter fi)
 (hg:∀y,GM (blk X N' scope y) rl tg g)(ht:∀y,kD (blk X N' scope y) rl ifs ft)(he:∀y,PV (blk X N' scope y) rl elt fe)
 (hfr:lg fr N' X.N scope X.env.scope=true:=by rfl)(hsc:lK scope X.env.scope=true:=by rfl)
 (hs:∀x,H0 iter X.env x=pure x:=by intro _;rfl):PV X rl (.ListComp elt [⟨tg,iter,ifs,0⟩] scope pos) (ii fi fr g ft fe):=by
 obtain⟨wi,p0,k0⟩:=hi
 exact⟨_,i_ N' fr hc p0 hfr hsc (fun y=>(Ho (hg y)).1) (fun y=>(Ho (ht y)).1) (fun y=>(Ho (he y)).1) hs,fun R Qd Q q k=>rJ fr k0 hg ht he R Qd Q q k⟩
theorem A4(i:Nat):FH i ρ=aO (EC ρ i) ret:=by
 refine ah fun Q=>?_
 simp only[FH,aq,lI,ret]
end
section
variable{X:Cx}{rl:RlT}{a b c o e:Expr}{es:List Expr}{fa fb:TV}{fs:Gi}{pos p apos cpos:Pos}{ρ:En}
end
end L2.VL
namespace L2
section
variable{prog:Ij}{w:IV}{A:IU}{E:Hq->Hv->Prop}{s:Hv}
end
section
variable{X:Cx}
end
end L2
namespace L2.VL
section
variable{X:Cx}{rl:RlT}{e:Expr}{fa:TV}{pos:Pos}{ρ:En}
end
theorem GlK.int{K:W.Frag}{x:Str}{a:Int}{t:Tok}(h1:W.nsIn K II x=some (some (.int a t))):GlK K x (.int a):=⟨.int a,.int a t,h1,⟨t,rfl⟩,fun F=>.int a⟩
section
variable{X:Cx}{rl:RlT}{a b e:Expr}{fa fb:TV}{pos:Pos}{ρ:En}
end
noncomputable def CO(Q:List Hh->Prop):Fl->Prop
 | .rt w=>∃xs,w = .ml xs/\Q xs
 | _=>False
theorem qS{t:Gj}{Q:List Hh->Prop}(h:mS t ρ (CO Q)):t (vO Q) ρ:=h
theorem uJ{Q:List Hh->Prop}{d:List Hh}(h:Q d):ret (Fl.rt (.ml d)) (CO Q):=⟨_,rfl,h⟩
end L2.VL
namespace L2
open L2.ZP
section
variable{X:Cx}{e1 e2:Expr}{elts:List Expr}{kt:Nat}{pt p pos:Pos}{ta:TA}
end
end L2
namespace L2.VL
section
variable{X:Cx}{rl:RlT}{a b:Expr}{elts:List Expr}{kt:Nat}{pt p pos:Pos}{fs:Gi}
end
end L2.VL
namespace L2
section
variable{X:Cx}
end
end L2
namespace L2.VL
section
variable{X:Cx}{rl:RlT}{a e:Expr}{fs:Gi}{pos p:Pos}
end
end L2.VL
namespace L2
section
variable{X:Cx}
end
end L2
namespace L2.VL
section
variable{X:Cx}{rl:RlT}{a e:Expr}{fs:Gi}{pos p:Pos}
end
end L2.VL
namespace L2
section
variable{X:Cx}
end
end L2
namespace L2.VL
section
variable{X:Cx}{rl:RlT}{a e:Expr}{fs:Gi}{pos p:Pos}
end
section
variable{X:Cx}{rl:RlT}{e:Expr}{fa:TV}{pos:Pos}{ρ:En}
end
section
variable{X:Cx}{rl:RlT}{a b:Expr}{fa fb:TV}{pos:Pos}
theorem v_shl(ha:PV X rl a fa)(hb:PV X rl b fb):PV X rl (.BinOp a .LShift b pos) (D5 (gI tU fun i j=>.int (i*2^j.toNat)) fa fb):=gB yA (gj fun _ _ _ _=>.int _) ha hb
theorem v_band(ha:PV X rl a fa)(hb:PV X rl b fb):PV X rl (.BinOp a .BitAnd b pos) (D5 (FR fun i j=>.int (Li i j)) fa fb):=gB yE (cU fun _ _ _ _=>.int _) ha hb
end
theorem mH(a b:Nat):Li (a:Int) (b:Int)=((a &&& b:Nat):Int):=rfl
noncomputable def E6:List Bool->Nat
 | []=>0
 | b::bs=>b.toNat+2*E6 bs
theorem jc:∀(bs:List Bool)(i:Nat),(E6 bs).testBit i=bs.getD i false
 | [],i=>by simp[E6]
 | b::bs,0=>by
   rw[E6,Nat.testBit_zero]
   cases b<;>simp<;>omega
 | b::bs,i+1=>by
   rw[E6,Nat.testBit_succ]
   have e:(b.toNat+2*E6 bs) / 2=E6 bs:=by cases b<;>simp<;>omega
   rw[e,jc bs i]
   simp
theorem vA(xs:List α)(f g:α->Bool):E6 (xs.map f) &&& E6 (xs.map g)=E6 (xs.map fun k=>f k&&g k):=by
 refine Nat.eq_of_testBit_eq fun i=>?_
 rw[Nat.testBit_and,jc,jc,jc,Ir,Ir,Ir,Ix,Ix,Ix]
 cases xs[i]?<;>rfl
theorem tq:∀(bs:List Bool)(b:Bool),E6 (bs++[b])=E6 bs+b.toNat*2^bs.length
 | [],b=>by simp[E6]
 | c::bs,b=>by
   rw[Lq,E6,tq bs b,E6,HV,MF]
   have:b.toNat*(2^bs.length*2)=2*(b.toNat*2^bs.length):=by rw[LV,Nat.mul_right_comm,LV];congr 1;rw[LV]
   omega
theorem tw:∀bs:List Bool,E6 bs<2^bs.length
 | []=>by simp[E6]
 | b::bs=>by
   have:=tw bs
   have h:b.toNat<=1:=by cases b<;>decide
   rw[E6,HV,MF]
   omega
theorem vB(n:Nat):E6 (Ih n true)+1=2^n:=by
 induction n with
 | zero=>rfl
 | succ n ih=>rw[Jf,E6,MF,<- ih];show 1+2*_+1=_;omega
theorem vz(b:Nat->Bool)(n:Nat):((Ip n).filterMap fun j=>if b j=true then some ((1:Int)*2^j)else none).sum=(E6 ((Ip n).map b):Int):=by
 induction n with
 | zero=>rfl
 | succ n ih =>
   rw[List.range_succ,MG,List.sum_append,ih,Iu,List.map_singleton,tq,Hu,KI]
   by_cases c:b n=true
   · simp[c]
   · simp[c]
theorem o9(d:α)(xs:List α)(f:α->Bool):((Ip xs.length).map fun j=>f (xs.getD j d))=xs.map f:=by
 refine Lr (by simp) fun i h1 h2=>?_
 have:i<xs.length:=by simpa using h2
 simp[Ir,HP this]
noncomputable def pcF:Nat->Nat->Nat
 | 0,_=>0
 | f+1,n=>n%2+pcF f (n / 2)
theorem tj:∀(f:Nat)(bs:List Bool),bs.length<=f->pcF f (E6 bs)=(bs.filter id).length
 | 0,bs,h=>by
   cases Mf.mp (Nat.le_zero.mp h);rfl
 | f+1,[],h=>by
   have z:∀f,pcF f 0=0:=fun f=>by induction f with
    | zero=>rfl
    | succ f ih=>rw[pcF];simpa using ih
   exact z _
 | f+1,b::bs,h=>by
   have e1:(b.toNat+2*E6 bs) / 2=E6 bs:=by cases b<;>simp<;>omega
   have e2:(b.toNat+2*E6 bs)%2=b.toNat:=by cases b<;>simp<;>omega
   rw[pcF,E6,e1,e2,tj f bs (by simpa using h)]
   cases b<;>simp<;>omega
theorem ve:∀m:Fin 256,m.val≠0->(m.val &&& (m.val-1))<m.val/\pcF 8 (m.val &&& (m.val-1))+1=pcF 8 m.val:=by decide +kernel
open PySem PySem.Spec
noncomputable def Ff(w:Str)(xs:List Rat)(s:Sd):List Bool:=xs.map fun x=>Fg s w x
noncomputable def E_(s:Sd)(a b:List Bool):Hh:=.tuple [EG s,FW a,FW b,fr (Es s)]
theorem d8{e e':Sd}{s f s' f':List Bool}:E_ e s f=E_ e' s' f'↔e=e'/\s=s'/\f=f':=by
 unfold E_
 simp only[Je,IE,and_true,br,dI,cM]
 constructor
 · rintro⟨h1,h2,h3,_⟩;exact⟨h1,h2,h3⟩
 · rintro⟨rfl,rfl,rfl⟩;exact⟨rfl,rfl,rfl,rfl⟩
structure Rv where
 es:List Sd
 sh:List Nat
 op:List Nat
 sz:Rat
noncomputable def EH(r:Rv):Hh:=.tuple [df r.es,EX r.sh,EX r.op,fr r.sz]
theorem dY{a b:Rv}:EH a=EH b↔a=b:=by
 unfold EH
 simp only[Je,IE,and_true,aE,dG,cM]
 constructor
 · rintro⟨h1,h2,h3,h4⟩;cases a;cases b;simp_all
 · rintro rfl;exact⟨rfl,rfl,rfl,rfl⟩
noncomputable def rvO(ps:List (List Rat))(ss:List Sd):Rv:=⟨ss,plc (fun p=>Fv p ss "shut") ps,plc (fun p=>Fv p ss "open") ps,dv ss⟩
noncomputable def Rv.wid(r:Rv)(s:Sd)(a b:List Bool):Rv:=⟨r.es++[s],r.sh.filter fun k=>a.getD k false,r.op.filter fun k=>b.getD k false,r.sz*Es s⟩
theorem pA{p:List Rat}{s:Sd}{w:Str}(hl:ss.length=i)(hi:i<p.length):Fv p (ss++[s]) w=(Fv p ss w&&Fg s w (p.getD i 0)):=by
 unfold Fv;rw[qz 0 hl hi,List.all_append];simp
theorem jI(ss:List Sd)(s:Sd):dv (ss++[s])=dv ss*Es s:=by
 unfold dv uU;rw[Iu,JD];rfl
theorem tW(hp:∀p∈ps,p.length=n)(hl:ss.length=i)(hi:i<n)(s:Sd):(rvO ps ss).wid s (Ff "shut" (ps.map fun p=>p.getD i 0) s) (Ff "open" (ps.map fun p=>p.getD i 0) s)=rvO ps (ss++[s]):=by
 unfold Rv.wid rvO Ff
 have h:∀w:Str,(plc (fun p=>Fv p ss w) ps).filter (fun k=>((ps.map fun p=>p.getD i 0).map fun x=>Fg s w x).getD k false)=plc (fun p=>Fv p (ss++[s]) w) ps:=fun w=>by
  rw[<- uX (f:=fun p=>Fv p ss w) (g:=fun p=>Fg s w (p.getD i 0)) fun p mp=>pA hl (by rw[hp p mp];exact hi)]
  exact List.filter_congr fun k mk=>p9 (ps:=ps) (i:=i) (fun x=>Fg s w x) (tf k mk)
 rw[h,h,jI]
noncomputable def teD(t:Rat×Str×List Sd):Hh:=.tuple [fr t.1,.str t.2.1,df t.2.2]
theorem dE{a b:Rat×Str×List Sd}:teD a=teD b↔a=b:=by
 unfold teD
 simp only[Je,IE,and_true,aE,cM,Iw.injEq]
 constructor
 · rintro⟨h1,h2,h3⟩;exact Prod.ext h1 (Prod.ext h2 h3)
 · rintro rfl;exact⟨rfl,rfl,rfl⟩
theorem dU{a b:List (Rat×Str×List Sd)}:a.map teD=b.map teD↔a=b:=b4 fun _ _=>dE
noncomputable def ET(ps:List (List Rat))(ss:List Sd):Rat:=qd (cntN ps ss "shut") ps.length-dv ss
noncomputable def Fz(ps:List (List Rat))(ss:List Sd):Rat:=dv ss-qd (cntN ps ss "open") ps.length
noncomputable def E7(ps:List (List Rat))(ss:List Sd):List (Rat×Str×List Sd):=[(ET ps ss, "over", ss),(Fz ps ss, "lack", ss)]
noncomputable def FS{α:Type}(ts:List (Rat×α))(t0:Rat×α):Rat×α:=ts.foldl (fun b r=>if b.1<r.1 then r else b) t0
theorem qg(g:α->β)(rows:List (List α)):chP (rows.map (MN g))=(chP rows).map (MN g):=by
 have key:∀(rows:List (List α))(ch:List (List α)),(rows.map (MN g)).foldl (fun ch r=>ch.flatMap fun b=>r.map fun t=>b++[t]) (ch.map (MN g))=(rows.foldl (fun ch r=>ch.flatMap fun b=>r.map fun t=>b++[t]) ch).map (MN g):=by
  intro rows
  induction rows with
  | nil=>intro ch;rfl
  | cons r rows ih =>
    intro ch
    rw[IF,Kg,Kg,<- ih]
    congr 1
    rw[Lu,List.flatMap_map]
    congr 1
    funext b
    rw[Jg,Jg]
    refine JZ fun t _=>?_
    simp
 exact key rows [[]]
theorem s_:∀(qs:List Rat)(k:Nat)(a:Rat),EN k a->(∀q∈qs,EN 190 q)->EN (k+190*qs.length) (qs.foldl (· * ·) a)
 | [],k,a,h,_=>h
 | q::qs,k,a,h,hq=>by
   have:=s_ qs (k+190) (a*q) (yK h (hq q Hy)) fun r hr=>hq r (Ht _ hr)
   rw[Kg]
   refine this.mono ?_
   rw[HV];omega
theorem uE(h4:ss.length<=4)(h:∀s∈ss,s.Sm):EN 761 (dv ss):=by
 refine(s_ _ 1 1 ⟨by decide,by decide⟩ fun q mq=>?_).mono (by rw[Hu];omega)
 obtain⟨s,ms,rfl⟩:=IA.mp mq
 exact jE (h s ms)
theorem oV(h1:1<=ps.length)(h:ps.length<=60)(h4:ss.length<=4)(hs:∀s∈ss,s.Sm):EN 900 (ET ps ss)/\EN 900 (Fz ps ss):=by
 have s:=uE h4 hs
 exact⟨(gu (sB h1 h fun p=>Fv p ss "shut") s).mono (by decide),(gu s (sB h1 h fun p=>Fv p ss "open")).mono (by decide)⟩
section
variable{X:Cx}{rl:RlT}{a b e:Expr}{fa fb:TV}{pos:Pos}{ρ:En}
noncomputable def uk(i:Nat):Gj:=fun D ρ=>∃xs,ρ[i]?=some (some (.ml xs))/\D.nx (ρ.set i (some (.ml [])))
theorem wM(i:Nat)(hN:X.N[i]?=some x:=by rfl)(hv:Gc X.env.scope x:=by first|exact Js rfl|exact IR (Js rfl)|exact IR (IR rfl))
 (hd:(x==("__debug__" : Str))=false:=by decide)(hcd:(x==("__classdict__" : Str))=false:=by decide)
 (hbase:JR (.Name x px) "clear" X.env (eval (.Name x px) X.env)=eval (.Name x px) X.env:=by rfl)
 (hline:(apos.endLine==cpos.line)=true:=by rfl)
 (hsw:Jr (.Call (.Attribute (.Name x px) "clear" apos) [] [] cpos) none pos.line X.env=pure false:=by rfl) :
 GF X rl (.Expr (.Call (.Attribute (.Name x px) "clear" apos) [] [] cpos) pos) (uk i):=by
 refine⟨_,kW (yw Kr PySem.F.slot_list_clear PySem.F.type_list_clear rC (cQ hN hv hd hcd) hbase hline) hsw,fun{F₀ H₀ F H σ ρ} R Dv D ok ⟨xs,e1,q⟩=>?_⟩
 obtain⟨v,h1,h2,h3⟩:=R.sl i _ e1
 obtain⟨a,vs,rfl,f,hr,hh,rs⟩:=(show gZ X.K rl F H v xs from h2)
 refine⟨.ref a,h1,.inl ⟨rfl,vs,.inl (.inl hh)⟩,a,vs,rfl,rfl,hh,?_⟩
 exact ok.nx _ _ _ _ (fun _ _ z=>z) (R.own e1 h1 (Reps.nil)) q
theorem AA(i:Nat):mS (uk i) ρ=aO (EC ρ i) fun xs=>ret (.nx (ρ.set i (some (.ml [])))):=by
 refine ah fun Q=>?_
 simp only[mS,uk,aq,lI,ret]
end
section
variable{X:Cx}{rl:RlT}{a b c o e:Expr}{es:List Expr}{fa fb:TV}{fs:Gi}{pos p apos cpos:Pos}{ρ:En}
noncomputable def oG(K:W.Frag):V->List V->Hp->VK->Prop:=fun x vs H Q=>∃(ys:List Hh)(d:Hh)(v:V)(j:Nat),Rep K H x (.list ys)/\vs=[v]/\Rep K H v d/\HU d=true/\H_ ys=true/\ys.length<=sizeLine/\ys.findIdx? (fun z=>HQ z d)=some j/\Q (.int j) H
theorem o3(hu:X.A.units+65<Mn):GR X "list.index" (oG X.K):=by
 intro pins s σ H x xs v us Q I rx rs ⟨ys,d,u0,j,rp,ev,rd,sd,hc,hz,hj,q⟩
 subst ev
 obtain⟨u,rfl,ru⟩:=rs.one
 obtain⟨as,a2⟩:=Rep.reads I (.refl H) rp v rx
 obtain⟨bs,a1⟩:=Rep.reads I (.refl H) rd u ru
 cases a2 with
 | @list a o vs n xs as h1 h2 h3 ra =>
   obtain⟨cls,dd,data,sl⟩:=o
   simp only at h2 h3
   subst h2 h3
   have em:=SeqAt.readsAll_map ys _ _ hc ra
   have el:vs.toList.length=ys.length:=by have:=congrArg NE em;simpa using this
   have at_:∀m (hm:m<vs.size) (hm':m<ys.length),SeqAt.readOf s.heap vs[m]=ys[m]:=fun m hm hm'=>by
    have:=congrArg (fun l=>l[m]?) em
    simpa[hm,hm']using this
   obtain⟨k1,k2,k3⟩:=List.findIdx?_eq_some_iff_getElem.mp hj
   have sz:=HM
   have js : j < vs.size := by have:vs.size=ys.length:=by simpa using el
                               omega
   refine Lz Mg ⟨_,h1,rfl⟩ PySem.F.entry_list_index (PySem.F.args_list_index_2 _ _) (PySem.SeqAt.list_indexAt a vs n dd sl u (fun y=>HQ (SeqAt.readOf s.heap y) d) j js (by omega) ?_ ?_) ⟨h1,SeqAt.items_eqAt ra a1 hc (J1 sd) (gM (ys:=ys) hu sd),?_⟩
   · rw[at_ j js k1];exact k2
   · intro m hm lt
     rw[at_ m hm (by omega)]
     simpa using k3 m lt
   · exact⟨.int _,H,I.tok _,⟨_,rfl⟩,q⟩
noncomputable def jo:List Hh->List W->(W->Prop)->Prop:=fun ys ws Q=>∃d j,ws=[.d d]/\HU d=true/\H_ ys=true/\ys.length<=sizeLine/\ys.findIdx? (fun z=>HQ z d)=some j/\Q (.d (.int (j:Nat)))
theorem nF:Gf X rl (oG X.K) jo:=fun{F H v args xs ws} Qd Q s ra rp rw' ⟨d,j,ew,sd,hc,hz,hj,q⟩ h=>by
 subst ew
 obtain⟨u,rfl,r1⟩:=kP rw'
 exact⟨xs,d,u,j,rp,rfl,Rep.mono s r1,sd,hc,hz,hj,h _ (.d _) _ _ (Grow.refl s ra) (.int _) trivial q⟩
theorem qF(hu:X.A.units+65<Mn)(ho:PV X rl o fa)(ha:GB X rl [e] fs) 
 (hbase:JR o "index" X.env (eval o X.env)=eval o X.env:=by rfl)
 (hfew:((I0 cpos (Hw [e] X.env)).all (fun x=>!x.1)&&(Lx cpos (Kp [] X.env)).all (fun x=>x.1.isSome)
  && decide (([e]).length+([]:List KC).length+(if([]:List KC).isEmpty then 0 else 1)<30))=true:=by rfl)
 (hline:(apos.endLine==cpos.line)=true:=by rfl)(hs:Hw [e] X.env=(false,eval e X.env)::Hw [] X.env:=by rfl)(hplain:(I0 cpos (Hw [] X.env)).any (·.1)=false:=by rfl) :
 PV X rl (.Call (.Attribute o "index" apos) [e] [] cpos) (D6 jo fa fs) :=
 C1 Mg PySem.F.type_list_index (o3 hu) nF ho ha hbase hfew hline hs hplain
theorem jY(ys:List Hh)(w:W):jo ys [w]=aO (asD w) fun d=>FJ (HU d=true) (FJ (H_ ys=true) (FJ (ys.length<=sizeLine) (aO (ys.findIdx? fun z=>HQ z d) fun j=>ret (.d (.int (j:Nat)))))):=by
 refine ah fun Q=>?_
 simp only[jo,aq,gX,FJ,ret,IE,and_true]
 constructor
 · rintro⟨d,j,e,a,b,c,f,q⟩;exact⟨d,e,a,b,c,j,f,q⟩
 · rintro⟨d,e,a,b,c,j,f,q⟩;exact⟨d,j,e,a,b,c,f,q⟩
end
end L2.VL
namespace K21
open PySem PySem.Spec PyProof.Rows L2 L2.VL
local macro_rules | `(tactic| simp_arith only [$xs,*])=>`(tactic| simp (maxSteps:=2000000) (disch:=(first | assumption | omega | decide)) only [Bw,BA,BD,BC,BB,Bs,Br,Bv,Bu,Bt,By,Bx,CY,ED,EC,hW,du,dH,W.cap,Fo,List.replicate,id,↓reduceIte,if_true,Nat.reduceAdd,Nat.reduceSub,Nat.reduceLeDiff,Int.cast_ofNat_Int,Int.reduceBEq,Int.reduceSub,Int.reduceAdd,Int.reduceLT,Int.reduceLE,Int.reduceMul,Int.reduceNeg,reduceCtorEq,zb,$xs,*])
local macro_rules | `(tactic| simp_arith only [$xs,*] at $h:ident)=>`(tactic| simp only [List.cons.injEq,W.d.injEq,PyData.int.injEq,PyData.bool.injEq,PyData.str.injEq,PyData.list.injEq,PyData.tuple.injEq,lG,rG,qL,d9,and_true,true_and,reduceCtorEq,$xs,*] at $h:ident)
section
variable{P:Ij}{w:IV}{K:Kk}{mg:Str->Option Hq}{base:Heap}{rl:RlT}
noncomputable def zH(ws:List W):Prop:=∃ns:List Int,ws=[.sc ns]/\ns.length<=63
theorem zH.eq(h:ns.length<=63):zH [.sc ns]=True:=propext ⟨fun _=>trivial,fun _=>⟨ns,rfl,h⟩⟩
theorem xG{m:Mo Fl}{k:En->Mo Fl}{Q:Fl->Prop}(P:α->Prop)(g:α->Fl)(h:∀Q':Fl->Prop,(∀a,P a->Q' (g a))->m Q')(fin:∀a,P a->sq (VL.ret (g a)) k Q):sq m k Q:=h _ fun a ha=>fin a ha
theorem Dw(xs:List α)(f:α->Hh)(k:Nat):VL.cutD (xs.map f) none (some (k:Int))=(xs.take k).map f:=by
 unfold VL.cutD
 rw[HT.sIx_none,HT.sIx_nat,List.drop_zero,Hu,Nat.sub_zero,<- K5]
 congr 1
 by_cases z:k<=xs.length
 · rw[LI z]
 · rw[Mj (by omega),HE (by omega),HE (by omega)]
theorem jO:FnScope ["_law_script"] ["_law_script"] (defScope (Ee 38)):=⟨rfl,rfl,rfl,by decide +kernel,rfl,by decide +kernel,by decide +kernel⟩
theorem d__law_feed(Fn:FnIn K mg "_law_feed" (Ee 38) ["_law_script"])(Z:Bz mg):DfnR P w K mg base "_law_feed" ["_law_script"] 2 zH:=by
 have sc:=jO
 obtain⟨f,fd,hm,F,hb⟩:=Fn.ex
 refine⟨f,fd,hm,F.kp,hb,?_⟩
 refine F.ok (k:=1) sc (fun vs H Q E h=>?_) (fun cdv A outer s H vs Q E hr h=>?_)
 · obtain⟨F,ws,_,r,_,⟨ns,rfl,_⟩,_⟩:=h
   have:=Kl r
   simpa using this
 · obtain⟨F,ws,sm,r,ao,⟨ns,rfl,hn⟩,fin⟩:=h
   obtain⟨T,p,kk⟩:=pR (X:=(p5 G8 P w K mg base ["_law_script"] "_law_feed" (defScope (Ee 38)) f cdv A outer s H E).nox) (iX Z.list_ (aa (w_ (vn 0) dR (dQ ac)) ab))
   refine⟨T,p,kk (fY sm (fun _ z=>by cases z) r ao) _ ?_ fin⟩
   simp_arith only[ae]
   exact⟨ns.take 63,by rw[show(63:Int)=((63:Nat):Int)from rfl,Dw],by rw[Iz];omega⟩
noncomputable def bi:List W->(Hh->Prop)->Prop:=fun ws Q=>∃(m:Int),ws=[.reel,.d (.int m)]/\((0<m)/\(m<2^60))/\∀k:Int,(0<=k/\k<m)->Q (.int k)
theorem bi.mono:∀ws (Q Q':Hh->Prop),(∀d,Q d->Q' d)->bi ws Q->bi ws Q':=fun _ _ _ h_=>HA fun _=>Hn (Hn fun q_ o_ ho_=>h_ _ (q_ o_ ho_))
theorem bi.len:∀ws (Q:Hh->Prop),bi ws Q->ws.length=2:=fun _ _ h_=>by obtain⟨_,e_,_⟩:=h_;subst e_;rfl
theorem bi.eq(m:Int)(hm:0<m)(hb:m<2^60):bi [.reel,.d (.int m)]=FV (anyM fun k:Int=>0<=k/\k<m) fun k=>VL.ret (.int k:Hh):=by
 refine ah fun Q=>⟨?_,fun q_=>⟨m,rfl,⟨hm,hb⟩,q_⟩⟩
 rintro⟨m',e_,_,q_⟩
 simp_arith only[and_true]at e_
 obtain rfl:=e_
 exact q_
theorem jP:FnScope ["_law_feed_here", "_law_many", "_law_found", "_law_spot", "_law_cell", "_law_mixed"] ["_law_feed_here", "_law_many"] (defScope (Ee 39)):=⟨rfl,rfl,rfl,by decide +kernel,rfl,by decide +kernel,by decide +kernel⟩
theorem d__law_draw(Fn:FnIn K mg "_law_draw" (Ee 39) ["_law_feed_here", "_law_many"])(Z:Bz mg)    : Dfn P w K mg base rl "_law_draw" ["_law_feed_here", "_law_many"] 1 bi:=by
 have sc:=jP
 refine Dfn.of Fn sc (bi.mono) (bi.len) (fun cdv A outer s H E hr=>(af (iR (i:=0) (hr.mono (HS _)) (.inr (.inr rfl)) (v_add (gr (i:=0) (hr.mono (HS _)) (.inr (.inr rfl))) ac))
  (af (bO (aA m_ mL (av _) (gr (i:=0) (hr.mono (HS _)) (.inr (.inl rfl))) ac) (af (al 2 sc.nd (v_mod (gr (i:=0) (hr.mono (HS _)) (.inr (.inl rfl))) (vn 1)))
  (af (iR (i:=0) (hr.mono (HS _)) (.inr (.inl rfl)) (v_div (gr (i:=0) (hr.mono (HS _)) (.inr (.inl rfl))) (vn 1)))
  (aj (ar (vn 2))))) aK)
  (af (al 3 sc.nd (gr (i:=0) (hr.mono (HS _)) (.inl rfl)))
  (af (iR (i:=0) (hr.mono (HS _)) (.inl rfl) (v_add (vn 3) ac))
  (af (al 4 sc.nd ac)
  (af (bO (aA (dN hr.units) b9 (av _) (fZ (i:=0) (hr.mono (HS _))) (cf ab)) (aj (al 4 sc.nd (aL (fZ (i:=0) (hr.mono (HS _))) (v_mod (vn 3) (ce Z.len_ (aa (fZ (i:=0) (hr.mono (HS _))) ab)))))) aK)
  (af (bO (GN.pb (nH (aA AU Ab (av _) (vn 4) (v_pow ac ac)) (kG (aA gJ gl (av _) (vn 3) (ce Z.len_ (aa (fZ (i:=0) (hr.mono (HS _))) ab)))))) (af (iR (i:=0) (hr.mono (HS _)) (.inr (.inl rfl)) (v_div (vn 4) (vn 1)))
  (aj (ar (v_mod (vn 4) (vn 1))))) aK)
  (af (al 5 sc.nd (v_mod (v_mul (v_add (v_add (v_mod (vn 4) ac) (v_mul ac (gr (i:=0) (hr.mono (HS _)) (.inr (.inr rfl))))) ac) ac) ac))
  (af (al 5 sc.nd (v_mod (v_mul (v_add (v_div (vn 5) ac) (v_mul ac (gr (i:=0) (hr.mono (HS _)) (.inr (.inr rfl))))) ac) ac))
  (aj (ar (v_mod (v_div (vn 5) ac) (vn 1)))))))))))))) ?_
 rintro ws Q ⟨m,rfl,⟨hm,hb⟩,hQ⟩
 have hm0:m≠0:=by omega
 have hmd:∀i:Int,fX i m:=fun i=>fX.of hm0 (by omega)
 have hnn:∀i:Int,0<=i->0<=i.fdiv m:=fun i hi=>Int.fdiv_nonneg hi (by omega)
 have fm:∀i:Int,0<=i.fmod m/\i.fmod m<m:=fun i=>⟨Jn _ hm,J8 _ hm⟩
 refine az ?_
 have c1:∀z:Int,aV 1013 z:=fun z=>.lt (by decide)
 have c2:∀z:Int,aV 37 z:=fun z=>.lt (by decide)
 have c3:∀z:Int,aV z 48271:=fun z=>.rt (by decide)
 have c4:∀z:Int,aV z 69621:=fun z=>.rt (by decide)
 have d6:∀z:Int,fX z 64:=fun z=>fX.of (by decide) (by decide)
 simp_arith only[ag,ae,cA,cB,bQ,cC,bR,aW]
 (with_reducible (first|refine aP fun n hn=>?_|refine bh fun n hn=>?_))
 try simp_arith only[ag,ae,cA,cB,bQ,cC,bR,aW]
 (with_reducible (first|refine aP fun l hl=>?_|refine bh fun l hl=>?_))
 try rw[sq_ite]
 refine dD (fun _=>?_) fun _=>?_
 · simp_arith only[ag,ae,cA,cB,bQ,cC,bR,aW]
   (with_reducible (first|refine aP fun l2 hl2=>?_|refine bh fun l2 hl2=>?_))
   try simp_arith only[ag,ae,cA,cB,bQ,cC,bR,aW]
   (with_reducible (first|refine aP fun l3 hl3=>?_|refine bh fun l3 hl3=>?_))
   have h0:=hnn l3 hl3
   try simp_arith only[ag,ae,cA,cB,bQ,cC,bR,aW]
   exact cj (hmd _) (ax (hQ _ (fm _)))
 · simp_arith only[ag,ae,cA,cB,bQ,cC,bR,aW]
   (with_reducible (first|refine aP fun a ha=>?_|refine bh fun a ha=>?_))
   try simp_arith only[ag,ae,cA,cB,bQ,cC,bR,aW]
   generalize rl.b.snd=cs
   refine xG (fun _:Int=>True) (fun z=>.nx [some .reel,some (.d (.int m)),none,some (.d (.int a)),some (.d (.int z)),none]) ?_ ?_
   · intro Q' hQ' _ _
     refine cj (shaped_ints cs) (rM (fun he=>?_) fun _=>hQ' 0 trivial)
     intro _ _ _ _
     have he:cs≠[]:=by rintro rfl;exact absurd he (by decide)
     have hz:(0:Int)<(cs.length:Int):=by have:=M4.mpr he;omega
     refine cj (by omega) ?_
     obtain⟨z,ez,_⟩:=sG (xs:=cs) (Jn a hz) (J8 a hz)
     rw[ez]
     exact hQ' z trivial
   · intro z _
     have t0:(10:Int)^J0 18<=z->0<=z:=fun h=>Nv (by decide) h
     repeat' (first|exact ax (hQ _ (fm _))|((with_reducible refine cj ?_ ?_);(first|exact hmd _|exact hnn _ (by assumption)|exact hnn _ (t0 (by simp_all))|exact c1 _|exact c2 _|exact c3 _|exact c4 _|exact d6 _|exact fX.of (by decide) (by decide)|exact⟨by decide,by decide,by decide⟩|omega|assumption|decide))|(with_reducible refine aP fun _ _=>?_)|(with_reducible refine bh fun _ _=>?_)|(with_reducible refine dD (fun _=>?_) fun _=>?_)|(simp_arith only[ae,cA,cB,bQ,cC,bR,aW]))
noncomputable def a_:List W->(Hh->Prop)->Prop:=fun ws Q=>∃(a b:Int),ws=[.d (.int a),.d (.int b)]/\((0<b)/\(b.natAbs<2^8000))/\Q (fr (qd a b))
theorem a_.mono:∀ws (Q Q':Hh->Prop),(∀d,Q d->Q' d)->a_ ws Q->a_ ws Q':=fun _ _ _ h_=>HA fun _=>HA fun _=>Hn (Hn (h_ _))
theorem a_.len:∀ws (Q:Hh->Prop),a_ ws Q->ws.length=2:=fun _ _ h_=>by obtain⟨_,_,e_,_⟩:=h_;subst e_;rfl
theorem a_.eq(a b:Int)(hb:0<b)(hz:b.natAbs<2^8000):a_ [.d (.int a),.d (.int b)]=VL.ret (fr (qd a b):Hh):=by
 refine ah fun Q=>⟨?_,fun q_=>⟨a,b,rfl,⟨hb,hz⟩,q_⟩⟩
 rintro⟨a',b',e_,_,q_⟩
 simp_arith only[cM,br,bv,aE,aH,bG]at e_
 obtain⟨rfl,rfl⟩:=e_
 exact q_
theorem jN:FnScope ["_law_top", "_law_bottom", "_law_one", "_law_other"] ["_law_top", "_law_bottom"] (defScope (Ee 40)):=⟨rfl,rfl,rfl,by decide +kernel,rfl,by decide +kernel,by decide +kernel⟩
theorem d__law_frac(Fn:FnIn K mg "_law_frac" (Ee 40) ["_law_top", "_law_bottom"])(Z:Bz mg)    : Dfn P w K mg base rl "_law_frac" ["_law_top", "_law_bottom"] 1 a_:=by
 have sc:=jN
 refine Dfn.of Fn sc (a_.mono) (a_.len) (fun cdv A outer s H E hr=>(af (lA 2 3 rfl sc.nd (aa (xh Z.abs_ (aa (vn 0) ab)) (aa (vn 1) ab)))
  (af (gh [] Ig (aA m_ mL (av _) (vn 3) ac) (aj (lA 2 3 rfl sc.nd (aa (vn 3) (aa (v_mod (vn 2) (vn 3)) ab)))))
  (aj (ar (bp (aa (v_div (vn 0) (vn 2)) (aa (v_div (vn 1) (vn 2)) ab)))))))) ?_
 rintro ws Q ⟨a,b,rfl,⟨hb,hz⟩,hQ⟩
 refine az ?_
 have e:Jz (if a<0 then -a else a) b=Jz a b:=by split<;>simp[Jz]
 simp_arith only[ae]
 refine iQ (σ:=Int×Int) (fun s=>[some (.d (.int a)),some (.d (.int b)),some (.d (.int s.1)),some (.d (.int s.2))]) (fun s=>decide (0<s.2)) (fun s=>(s.2,s.1.fmod s.2)) (fun s=>s.2.natAbs) (fun s=>0<=s.1/\0<=s.2/\Jz s.1 s.2=Jz a b) (if a<0 then -a else a,b) rfl ⟨by dsimp only;split<;>omega,by dsimp only;omega,e⟩ ?_ ?_ ?_
 · intro s _
   simp_arith only[ae]
 · rintro s ⟨h1,h2,e⟩ c
   have hc:0<s.2:=by simpa using c
   have hc':s.2≠0:=by omega
   refine⟨⟨h2,Jn _ hc,by rw[mf];exact e⟩,gN hc',_,?_,rfl⟩
   simp_arith only[ag,ae]
 · rintro s ⟨h1,h2,e⟩ c
   have hc:¬0<s.2:=by simpa using c
   have hc:s.2=0:=by omega
   rw[hc,Int.gcd_zero_right]at e
   have ex:s.1=(Jz a b:Int):=by omega
   have c1:fX a (Jz a b:Int):=jm hb hz _
   have c2:fX b (Jz a b:Int):=jm hb hz _
   simp_arith only[ag,ae,ex]
   rw[tF hb]
   exact ax hQ
noncomputable def Gd(q:Rat):Prop:=EN 45 q/\0<=q/\q<1
noncomputable def FU(x y:Int):Int:=(if decide (y<x)=true then(1:Int)else 0)-(if decide (x<y)=true then(1:Int)else 0)
noncomputable def FT(q r:Rat):Int:=if r<q then 1 else if q<r then -1 else 0
theorem qb(q r:Rat):decide (FT q r<=0)=decide (q<=r):=by
 unfold FT
 by_cases h:r<q
 · rw[if_pos h];simp;exact Nn.mpr h
 · rw[if_neg h];have:=Jx.mp h;split<;>simp[this]
theorem gU(q r:Rat):decide (FT q r<0)=decide (q<r):=by
 unfold FT
 by_cases h:r<q
 · rw[if_pos h];simp;exact Jx.mpr (Jl h)
 · rw[if_neg h]
   by_cases h2:q<r
   · rw[if_pos h2];simp[h2]
   · rw[if_neg h2];simp[h2]
noncomputable def ER(x:Int×Int):Hh:=.tuple [.int x.1,.int x.2]
theorem AO{x y:Int×Int}:ER x=ER y↔x=y:=⟨fun h=>by obtain⟨a,b⟩:=x;obtain⟨c,d⟩:=y;unfold ER at h;cases h;rfl,fun h=>by rw[h]⟩
noncomputable def aS:List W->(Hh->Prop)->Prop:=fun ws Q=>∃(x y:Int×Int),ws=[.d (ER x),.d (ER y)]/\((G_ x.1)/\(G_ x.2)/\(G_ y.1)/\(G_ y.2))/\Q (.int (FU (x.1*y.2) (y.1*x.2)))
theorem aS.mono:∀ws (Q Q':Hh->Prop),(∀d,Q d->Q' d)->aS ws Q->aS ws Q':=fun _ _ _ h_=>HA fun _=>HA fun _=>Hn (Hn (h_ _))
theorem aS.len:∀ws (Q:Hh->Prop),aS ws Q->ws.length=2:=fun _ _ h_=>by obtain⟨_,_,e_,_⟩:=h_;subst e_;rfl
theorem aS.eq(x y:Int×Int)(h1:G_ x.1)(h2:G_ x.2)(h3:G_ y.1)(h4:G_ y.2):aS [.d (ER x),.d (ER y)]=VL.ret (.int (FU (x.1*y.2) (y.1*x.2)):Hh):=by
 refine ah fun Q=>⟨?_,fun q_=>⟨x,y,rfl,⟨h1,h2,h3,h4⟩,q_⟩⟩
 rintro⟨x',y',e_,_,q_⟩
 simp_arith only[cM,br,bv,aE,aH,bG,AO]at e_
 obtain⟨rfl,rfl⟩:=e_
 exact q_
theorem kN:FnScope ["_law_one", "_law_other", "_law_left", "_law_right"] ["_law_one", "_law_other"] (defScope (Ee 41)):=⟨rfl,rfl,rfl,by decide +kernel,rfl,by decide +kernel,by decide +kernel⟩
theorem d__law_cmp(Fn:FnIn K mg "_law_cmp" (Ee 41) ["_law_one", "_law_other"])(Z:Bz mg)    : Dfn P w K mg base rl "_law_cmp" ["_law_one", "_law_other"] 1 aS:=by
 have sc:=kN
 refine Dfn.of Fn sc (aS.mono) (aS.len) (fun cdv A outer s H E hr=>(af (al 2 sc.nd (v_mul (aL (vn 0) ac) (aL (vn 1) ac)))
  (af (al 3 sc.nd (v_mul (aL (vn 1) ac) (aL (vn 0) ac)))
  (aj (ar (v_sub (ie Z.int_ (aa (eB m_ mL (av _) (vn 2) (vn 3)) ab)) (ie Z.int_ (aa (eB gJ gl (av _) (vn 2) (vn 3)) ab)))))))) ?_
 rintro ws Q ⟨x,y,rfl,⟨h1,h2,h3,h4⟩,hQ⟩
 refine az ?_
 have m1:aV x.1 y.2:=.bb h1 h4
 have m2:aV y.1 x.2:=.bb h3 h2
 simp_arith only[ag,ae,Hd,ER]
 exact ax hQ
theorem aS.eqQ(q r:Rat)(h1:EN 2000 q)(h2:EN 2000 r):aS [.d (fr q),.d (fr r)]=VL.ret (.int (FT q r):Hh):=by
 have e:=aS.eq (q.num,(q.den:Int)) (r.num,(r.den:Int)) h1.bn h1.bd h2.bn h2.bd
 have z:FU (q.num*(r.den:Int)) (r.num*(q.den:Int))=FT q r:=by
  unfold FU FT
  rw[v4,v4]
  by_cases a:r<q
  · have b:¬q<r:=Jx.mpr (Jl a)
    simp[a,b]
  · by_cases b:q<r<;>simp[a,b]
 have e:aS [.d (fr q),.d (fr r)]=VL.ret (.int (FU (q.num*(r.den:Int)) (r.num*(q.den:Int))):Hh):=e
 rw[z]at e
 exact e
theorem pP{a b:List Rat}:a.map fr=b.map fr↔a=b:=List.map_inj_right fun x y h=>iJ h
noncomputable def bC:List W->(Hh->Prop)->Prop:=fun ws Q=>∃(qs:List Rat)(b:Bool),ws=[.reel,.d (.list (qs.map fr)),.d (.bool b)]/\((∀q∈qs,Gd q)/\(qs.length<1000))/\∀q:Rat,(Gd q)->Q (fr q)
theorem bC.mono:∀ws (Q Q':Hh->Prop),(∀d,Q d->Q' d)->bC ws Q->bC ws Q':=fun _ _ _ h_=>HA fun _=>HA fun _=>Hn (Hn fun q_ o_ ho_=>h_ _ (q_ o_ ho_))
theorem bC.len:∀ws (Q:Hh->Prop),bC ws Q->ws.length=3:=fun _ _ h_=>by obtain⟨_,_,e_,_⟩:=h_;subst e_;rfl
theorem bC.eq(qs:List Rat)(b:Bool)(hq:∀q∈qs,Gd q)(hl:qs.length<1000):bC [.reel,.d (.list (qs.map fr)),.d (.bool b)]=FV (anyM fun q:Rat=>Gd q) fun q=>VL.ret (fr q:Hh):=by
 refine ah fun Q=>⟨?_,fun q_=>⟨qs,b,rfl,⟨hq,hl⟩,q_⟩⟩
 rintro⟨qs',b',e_,_,q_⟩
 simp_arith only[cM,br,bv,aE,aH,bG,pP]at e_
 obtain⟨rfl,rfl⟩:=e_
 exact q_
theorem hG:FnScope ["_law_feed_here", "_law_seen", "_law_is_first", "_law_way", "_law_some", "_law_bottom", "_law_top"] ["_law_feed_here", "_law_seen", "_law_is_first"] (defScope (Ee 42)):=⟨rfl,rfl,rfl,by decide +kernel,rfl,by decide +kernel,by decide +kernel⟩
theorem d__law_number(Fn:FnIn K mg "_law_number" (Ee 42) ["_law_feed_here", "_law_seen", "_law_is_first"])(Z:Bz mg)(d__law_draw:∀rl,Dfn P w K mg base rl "_law_draw" ["_law_feed_here", "_law_many"] 1 bi)(d__law_frac:∀rl,Dfn P w K mg base rl "_law_frac" ["_law_top", "_law_bottom"] 1 a_)   : Dfn P w K mg base rl "_law_number" ["_law_feed_here", "_law_seen", "_law_is_first"] 2 bC:=by
 have sc:=hG
 refine Dfn.of Fn sc (bC.mono) (bC.len) (fun cdv A outer s H E hr=>(af (al 3 sc.nd (ak (d__law_draw _) (hr.mono (by decide)) (aa (vn 0) (aa ac ab))))
  (af (bO (aA (dz hr.units) b9 (av _) (vn 3) ac) (aj (ar (bp (aa ac (aa ac ab))))) aK)
  (af (bO (GN.pb (nH (aA gJ gl (av _) (vn 3) ac) (kG (aA (dN hr.units) b9 (av _) (vn 1) (cf ab))))) (aj (ar (aL (vn 1) (ak (d__law_draw _) (hr.mono (by decide)) (aa (vn 0) (aa (ce Z.len_ (aa (vn 1) ab)) ab)))))) aK)
  (af (al 4 sc.nd (cf (aa ac (aa ac (aa ac (aa ac (aa ac (aa ac (aa ac (aa ac (aa ac (aa ac ab))))))))))))
  (af (bO (cu (vn 2)) (aj (al 4 sc.nd (ig (cf (aa ac (aa ac (aa ac (aa ac (aa ac (aa ac (aa ac ab)))))))) (xa (cf (aa (v_sub (v_pow ac ac) ac) ab)) ac)))) aK)
  (af (al 5 sc.nd (aL (vn 4) (ak (d__law_draw _) (hr.mono (by decide)) (aa (vn 0) (aa ac ab)))))
  (af (al 6 sc.nd (v_mod (v_add (v_mul (ak (d__law_draw _) (hr.mono (by decide)) (aa (vn 0) (aa (v_pow ac ac) ab))) (v_pow ac ac)) (ak (d__law_draw _) (hr.mono (by decide)) (aa (vn 0) (aa (v_pow ac ac) ab)))) (vn 5)))
  (aj (ar (ak (d__law_frac _) (hr.mono (by decide)) (aa (aL (cf (aa (vn 6) (aa (vn 6) (aa (v_sub (vn 5) ac) (aa ac ab))))) (ak (d__law_draw _) (hr.mono (by decide)) (aa (vn 0) (aa ac ab)))) (aa (vn 5) ab))))))))))))) ?_
 rintro ws Q ⟨qs,b,rfl,⟨hq,hl⟩,hQ⟩
 refine az ?_
 have sz:=HM
 simp_arith only[ag,ae,cA,cB,bQ,cC,bR,aW,Hd,bi.eq]
 (with_reducible (first|refine aP fun w hw=>?_|refine bh fun w hw=>?_))
 have s0:HU (.list [])=true:=rfl
 have sf:=mU qs
 have ev:HQ (.list (qs.map fr)) (.list [])=qs.isEmpty:=by rw[v_];cases qs<;>rfl
 have eqi:∀i j:Int,HQ (.int i) (.int j)=(i==j):=fun i j=>by simp[HQ]
 have g0:Gd 0:=⟨⟨by decide,by decide⟩,NN,by decide⟩
 simp_arith only[ag,ae,cA,cB,bQ,cC,bR,aW,Hd,bi.eq,s0,sf,ev,eqi]
 refine dD (fun _=>ax (hQ 0 g0)) fun _=>?_
 refine dD (fun hc=>?_) fun _=>?_
 · have hn:qs≠[]:=by rintro rfl;simp at hc
   have hz:(0:Int)<(qs.length:Int):=by have:=M4.mpr hn;omega
   have hb:(qs.length:Int)<2^60:=by omega
   simp_arith only[ag,ae,cA,cB,bQ,cC,bR,aW,Hd,bi.eq]
   (with_reducible (first|refine aP fun j hj=>?_|refine bh fun j hj=>?_))
   obtain⟨r,er,mr⟩:=sG (xs:=qs) hj.1 hj.2
   rw[cr,er]
   exact ax (hQ r (hq r mr))
 · have c12:tU 10 12:=⟨by decide,by decide,by decide⟩
   have c6:tU 10 6:=⟨by decide,by decide,by decide⟩
   refine dD (fun _=>?_) fun _=>?_
   · refine cj c12 ?_
     (with_reducible (first|refine aP fun t ht=>?_|refine bh fun t ht=>?_))
     refine Ex (cD (xs:=[2,3,5,12,97,1000,1000,10^J0 12-11,10^J0 12-11,10^J0 12-11]) (enc:=HB) (fun y:Int=>2<=y/\y<2^41) rfl ht.1 (by simpa using ht.2) (by decide) fun y hy=>?_)
     have y0:y≠0:=by omega
     have h6a:(0:Int)<10^J0 6:=by decide
     have h6b:(10:Int)^J0 6<2^60:=by decide
     have cm:∀z:Int,aV z (10^J0 6):=fun z=>.rt (by decide)
     simp_arith only[ag,ae,cA,cB,bQ,cC,bR,aW,Hd,bi.eq,c6,cm]
     (with_reducible (first|refine aP fun u hu=>?_|refine bh fun u hu=>?_))
     try simp_arith only[ag,ae,cA,cB,bQ,cC,bR,aW,Hd,bi.eq]
     (with_reducible (first|refine aP fun v hv=>?_|refine bh fun v hv=>?_))
     have hx0:=Jn (u*10^J0 6+v) (show 0<y by omega)
     have hx1:=J8 (u*10^J0 6+v) (show 0<y by omega)
     generalize (u*10^J0 6+v).fmod y=x at hx0 hx1 ⊢
     try simp_arith only[ag,ae,cA,cB,bQ,cC,bR,aW,Hd,bi.eq]
     (with_reducible (first|refine aP fun e he=>?_|refine bh fun e he=>?_))
     have hb:0<y:=by omega
     have hz:y.natAbs<2^8000:=Hr (show y.natAbs<2^41 by omega) (HF (by decide) (by decide))
     refine cD (xs:=[x,x,y-1,1]) (enc:=HB) (fun z:Int=>0<=z/\z<y) rfl he.1 (by simpa using he.2) (by intro z hz;simp at hz;omega) fun z hz1=>?_
     simp_arith only[ag,ae,a_.eq]
     exact ax (hQ _ ⟨uM hb (by omega) (by omega),qU hb hz1.1,sX hb hz1.2⟩)
   · (with_reducible (first|refine aP fun t ht=>?_|refine bh fun t ht=>?_))
     refine Ex (cD (xs:=[2,3,4,5,6,8,12,97,7,11]) (enc:=HB) (fun y:Int=>2<=y/\y<2^41) rfl ht.1 (by simpa using ht.2) (by decide) fun y hy=>?_)
     have y0:y≠0:=by omega
     have h6a:(0:Int)<10^J0 6:=by decide
     have h6b:(10:Int)^J0 6<2^60:=by decide
     have cm:∀z:Int,aV z (10^J0 6):=fun z=>.rt (by decide)
     simp_arith only[ag,ae,cA,cB,bQ,cC,bR,aW,Hd,bi.eq,c6,cm]
     (with_reducible (first|refine aP fun u hu=>?_|refine bh fun u hu=>?_))
     try simp_arith only[ag,ae,cA,cB,bQ,cC,bR,aW,Hd,bi.eq]
     (with_reducible (first|refine aP fun v hv=>?_|refine bh fun v hv=>?_))
     have hx0:=Jn (u*10^J0 6+v) (show 0<y by omega)
     have hx1:=J8 (u*10^J0 6+v) (show 0<y by omega)
     generalize (u*10^J0 6+v).fmod y=x at hx0 hx1 ⊢
     try simp_arith only[ag,ae,cA,cB,bQ,cC,bR,aW,Hd,bi.eq]
     (with_reducible (first|refine aP fun e he=>?_|refine bh fun e he=>?_))
     have hb:0<y:=by omega
     have hz:y.natAbs<2^8000:=Hr (show y.natAbs<2^41 by omega) (HF (by decide) (by decide))
     refine cD (xs:=[x,x,y-1,1]) (enc:=HB) (fun z:Int=>0<=z/\z<y) rfl he.1 (by simpa using he.2) (by intro z hz;simp at hz;omega) fun z hz1=>?_
     simp_arith only[ag,ae,a_.eq]
     exact ax (hQ _ ⟨uM hb (by omega) (by omega),qU hb hz1.1,sX hb hz1.2⟩)
noncomputable def Pg(s:Nat)(ps:List (List Rat)):Prop:=∀p∈ps,p.length=s/\∀q∈p,Gd q
noncomputable def zZ(s m:Nat)(ps:List (List Rat)):Prop:=1<=ps.length/\ps.length<=m+2/\Pg s ps/\∃bs:List (List Rat),bs.length<=m/\∀p∈ps,p∈bs
noncomputable def tP(cols:List (List Rat)):List (List Hh):=cols.map fun c=>c.map fr
theorem tO{cols:List (List Rat)}(h:n<cols.length):(tP cols)[n]?=some (cols[n].map fr):=by unfold tP;rw[Ix,HP h];rfl
theorem wl{cols:List (List Rat)}(h:n<cols.length):(tP cols).set n (cols[n].map fr++[fr q])=tP (cols.set n (cols[n]++[q])):=by unfold tP;rw[List.map_set,Iu];rfl
noncomputable def CS(s i n:Nat)(cols:List (List Rat)):Prop:=cols.length=s/\(∀j (h:j<cols.length),cols[j].length<=i+(if j<n then 1 else 0))/\∀c∈cols,∀q∈c,Gd q
theorem yM{m:(W->Prop)->Prop}{Q:W->Prop}(h:∀Q':W->Prop,(∀b,Q' (.d (.bool b)))->m Q')(fin:∀b,Q (.d (.bool b))):m Q:=h Q fin
theorem jS{y:Hh}(h:(be 0 n)[i]?=some y):i<n/\y = .int (i:Int):=by
 have e:be 0 n=(Ip n).map fun j:Nat=>HB (0+(j:Int)):=rfl
 rw[e,Ix]at h
 cases q:(Ip n)[i]? with
 | none=>rw[q]at h;cases h
 | some z =>
   rw[q]at h
   obtain⟨hl,hz⟩:=HY.mp q
   rw[KI]at hl
   rw[List.getElem_range]at hz
   subst hz
   cases h
   exact⟨hl,by show HB (0+(i:Int))=_;rw[Int.zero_add]⟩
noncomputable def bx:List W->(Hh->Prop)->Prop:=fun ws Q=>∃(s m:Int),ws=[.reel,.d (.int s),.d (.int m)]/\((1<=s)/\(s<=4)/\(1<=m)/\(m<=6))/\∀ps:List (List Rat),(zZ s.toNat m.toNat ps)->Q (ptsQ ps)
theorem bx.mono:∀ws (Q Q':Hh->Prop),(∀d,Q d->Q' d)->bx ws Q->bx ws Q':=fun _ _ _ h_=>HA fun _=>HA fun _=>Hn (Hn fun q_ o_ ho_=>h_ _ (q_ o_ ho_))
theorem bx.len:∀ws (Q:Hh->Prop),bx ws Q->ws.length=3:=fun _ _ h_=>by obtain⟨_,_,e_,_⟩:=h_;subst e_;rfl
theorem bx.eq(s m:Int)(s1:1<=s)(s4:s<=4)(m1:1<=m)(m6:m<=6):bx [.reel,.d (.int s),.d (.int m)]=FV (anyM fun ps:List (List Rat)=>zZ s.toNat m.toNat ps) fun ps=>VL.ret (ptsQ ps:Hh):=by
 refine ah fun Q=>⟨?_,fun q_=>⟨s,m,rfl,⟨s1,s4,m1,m6⟩,q_⟩⟩
 rintro⟨s',m',e_,_,q_⟩
 simp_arith only[and_true]at e_
 obtain⟨rfl,rfl⟩:=e_
 exact q_
theorem hC:FnScope ["_law_feed_here", "_law_s", "_law_most", "_law_columns", "_law_found", "_law_j", "_law_point", "_law_k", "_law_x", "_law_again"] ["_law_feed_here", "_law_s", "_law_most"] (defScope (Ee 43)):=⟨rfl,rfl,rfl,by decide +kernel,rfl,by decide +kernel,by decide +kernel⟩
theorem d__law_points(Fn:FnIn K mg "_law_points" (Ee 43) ["_law_feed_here", "_law_s", "_law_most"])(Z:Bz mg)(d__law_draw:∀rl,Dfn P w K mg base rl "_law_draw" ["_law_feed_here", "_law_many"] 1 bi)(d__law_number:∀rl,Dfn P w K mg base rl "_law_number" ["_law_feed_here", "_law_seen", "_law_is_first"] 2 bC)   : Dfn P w K mg base rl "_law_points" ["_law_feed_here", "_law_s", "_law_most"] 3 bx:=by
 have sc:=hC
 refine Dfn.of Fn sc (bx.mono) (bx.len) (fun cdv A outer s H E hr=>(AY 3 sc.nd ["_law_k"] [none] rfl (bT Z.range_ (aa (vn 1) ab)) (fun _=>ai 0 (show Iy (["_law_k"]:List Str) by decide +kernel)) (dO (wB (d_ 4 sc.nd (cf ab))) (dO (yT Ig rfl (bT Z.range_ (aa (v_add ac (ak (d__law_draw _) (hr.mono (by decide)) (aa (vn 0) (aa (vn 2) ab)))) ab)) (ai 5 sc.nd) (dO (wB (al 6 sc.nd (bp ab))) (dO (yT Ig rfl (bT Z.range_ (aa (vn 1) ab)) (ai 7 sc.nd) (dO (A3 8 0 3 7 sc.nd (d__law_number _) (hr.mono (by decide)) (v_and (eB (dz hr.units) b9 (av _) (vn 4) (cf ab)) (nM (eB (dz hr.units) b9 (av _) (vn 7) ac)))) (dO (A5 3 7 8) (dO (wB (al 6 sc.nd (nQ (vn 6) (bp (aa (vn 8) ab))))) vG)))) (dO (wB (fv 4 (aa (vn 6) ab))) vG)))) (dO (wB (bo [5,9] Ig rfl (bT Z.range_ (aa (ak (d__law_draw _) (hr.mono (by decide)) (aa (vn 0) (aa ac ab))) ab)) (ai 5 sc.nd) (af (al 9 sc.nd (aL (vn 4) (ak (d__law_draw _) (hr.mono (by decide)) (aa (vn 0) (aa (ce Z.len_ (aa (vn 4) ab)) ab)))))
  (aj (sI 4 (aa (ak (d__law_draw _) (hr.mono (by decide)) (aa (vn 0) (aa (v_add (ce Z.len_ (aa (vn 4) ab)) ac) ab))) (aa (vn 9) ab))))))) (dO (wB (ar (nJ Z.tuple_ (aa (vn 4) ab)))) vG)))))) ?_
 rintro ws Q ⟨s,m,rfl,⟨s1,s4,m1,m6⟩,hQ⟩
 have sz:=HM
 have gs : -(2^62)<=s/\s<2^62:=by omega
 unfold Fd
 have e0:FG (jC (uh 1) sM) [some .reel,some (.d (.int s)),some (.d (.int m)),none,none,none,none,none,none,none]=VL.ret (be 0 s.toNat):=by
  simp_arith only[ag,ae]
 refine(show FG (jC (uh 1) sM) [some .reel,some (.d (.int s)),some (.d (.int m)),none,none,none,none,none,none,none] _ from ?_)
 rw[e0]
 refine⟨vy rfl,fun x=>by show Le [none] [some (.d x)];rw[le_cn,le_nil];trivial,by rw[ci];omega,fun a=>iG ?_⟩
 rw[ci]
 simp_arith only[ag,ae]
 refine pd ?_
 dsimp only
 refine cZ ?_
 have e1:FG (jC (D5 (FR fun i j=>HB (i+j)) (vC (HB 1)) (Ac bi (jC (uh 0) (jC (uh 2) sM)))) sM) [some .reel,some (.d (.int s)),some (.d (.int m)),some (.vv (.ref a)),some (.ml []),none,none,none,none,none]=FV (anyM fun k:Int=>0<=k/\k<m) fun k=>FJ (-(2^62)<=1+k/\1+k<2^62) (VL.ret (be 0 (1+k).toNat)):=by
  have g1:0<m:=by omega
  have g2:m<2^60:=by omega
  simp_arith only[ag,ae,bi.eq]
 refine pi ?_
 rw[e1]
 intro k hk
 refine⟨by omega,fun i xss ρ=>∃(cols bs:List (List Rat))(o5 o6 o7 o8:Option W),xss=tP cols/\CS s.toNat i 0 cols/\bs.length=i/\Pg s.toNat bs/\ρ=[some .reel,some (.d (.int s)),some (.d (.int m)),some (.vv (.ref a)),some (.ml (bs.map EQ)),o5,o6,o7,o8,none],?_,?_,?_⟩
 · exact⟨Ih s.toNat [],[],none,none,none,none,by simp[tP],⟨by simp,by simp,by simp⟩,rfl,by simp[Pg],rfl⟩
 · rintro i y xss ρ ey ⟨cols,bs,o5,o6,o7,o8,rfl,hc,hb,hp,rfl⟩
   obtain⟨hi,rfl⟩:=jS ey
   refine ze ?_
   dsimp only
   refine cZ (iG ?_)
   simp_arith only[ag,ae]
   refine pd ?_
   dsimp only
   refine cZ ?_
   refine pi ?_
   have e2:FG (jC (uh 1) sM) [some .reel,some (.d (.int s)),some (.d (.int m)),some (.vv (.ref a)),some (.ml (bs.map EQ)),some (.d (.int (i:Int))),some (.d (.tuple [])),o7,o8,none]=VL.ret (be 0 s.toNat):=by
    simp_arith only[ag,ae]
   rw[e2]
   refine⟨fun n xss ρ=>∃(cols:List (List Rat))(pt:List Rat)(o7 o8:Option W),xss=tP cols/\CS s.toNat i n cols/\pt.length=n/\(∀q∈pt,Gd q)/\ρ=[some .reel,some (.d (.int s)),some (.d (.int m)),some (.vv (.ref a)),some (.ml (bs.map EQ)),some (.d (.int (i:Int))),some (.d (EQ pt)),o7,o8,none],⟨cols,[],o7,o8,rfl,hc,rfl,by simp,rfl⟩,?_,?_⟩
   · rintro n y xss ρ ey ⟨cols,pt,o7,o8,rfl,⟨cl,c1,c2⟩,pl,hpt,rfl⟩
     obtain⟨hn,rfl⟩:=jS ey
     have hnl:n<cols.length:=by omega
     refine ze ?_
     dsimp only
     refine cZ ⟨rfl,rfl,n,_,rfl,tO hnl,?_⟩
     refine yM (fun Q' hQ'=>?_) fun bb=>⟨bb,rfl,?_⟩
     · have s0:HU (.list [])=true:=rfl
       have sp:=mT bs
       have eqi:∀i j:Int,HQ (.int i) (.int j)=(i==j):=fun i j=>by simp[HQ]
       simp_arith only[ag,ae,s0,sp,eqi]
       first|exact hQ' _|(split<;>exact hQ' _)|(refine dD (fun _=>?_) (fun _=>?_)<;>exact hQ' _)
     · have hq:∀q∈cols[n],Gd q:=c2 _ (Iv hnl)
       have hl:cols[n].length<1000:=by have:=c1 n hnl;rw[if_neg (by omega)]at this;omega
       rw[bC.eq _ _ hq hl]
       intro q hqq
       refine⟨⟨q.num,q.den,rfl⟩,?_⟩
       dsimp only
       refine cZ ⟨rfl,n,_,_,rfl,tO hnl,rfl,by rw[Hu];omega,?_⟩
       rw[wl hnl]
       dsimp only
       refine cZ (iG ?_)
       have pl4:pt.length+1<=sizeLine:=by omega
       simp_arith only[ag,ae,Hd]
       refine pd ?_
       dsimp only
       refine lS ?_
       dsimp only
       refine⟨cols.set n (cols[n]++[q]),pt++[q],some (.d (.int (n:Int))),some (.d (fr q)),rfl,⟨by simp[cl],fun j hj=>?_,fun c mc r mr=>?_⟩,by simp[pl],fun r mr=>?_,by simp[EQ,Iu]⟩
       · by_cases e:n=j
         · subst e
           rw[List.getElem_set_self,HC,if_pos (by omega)]
           have:=c1 n hnl
           rw[if_neg (by omega)]at this
           simp;omega
         · rw[List.getElem_set_ne e]
           have:=c1 j (by simpa using hj)
           by_cases l:j<n
           · rw[if_pos l]at this;rw[if_pos (by omega)];exact this
           · rw[if_neg l]at this;rw[if_neg (by omega)];exact this
       · rcases List.mem_or_eq_of_mem_set mc with h|h
         · exact c2 c h r mr
         · subst h
           rcases Ik.mp mr with h|h
           · exact hq r h
           · cases Ie.mp h;exact hqq
       · rcases Ik.mp mr with h|h
         · exact hpt r h
         · cases Ie.mp h;exact hqq
   · rintro xss ρ ⟨cols,pt,o7,o8,rfl,hc,pl,hpt,rfl⟩
     rw[ci]at pl hc
     dsimp only
     refine cZ (iG ?_)
     have bl:bs.length<sizeLine:=by omega
     simp_arith only[ag,ae,Hd]
     refine pd ?_
     dsimp only
     refine lS ?_
     dsimp only
     refine⟨cols,bs++[pt],some (.d (.int (i:Int))),some (.d (EQ pt)),o7,o8,rfl,⟨hc.1,fun j hj=>?_,hc.2.2⟩,by simp[hb],fun p mp=>?_,by simp[Iu]⟩
     · have:=hc.2.1 j hj
       split at this<;>simp<;>omega
     · rcases Ik.mp mp with h|h
       · exact hp p h
       · cases Ie.mp h;exact⟨pl,hpt⟩
 · rintro xss ρ ⟨cols,bs,o5,o6,o7,o8,rfl,hc,hb,hp,rfl⟩
   rw[ci]at hb
   dsimp only
   refine cZ (iG ?_)
   simp_arith only[ag,ae,bi.eq]
   intro c hc3
   refine⟨by omega,CN ?_⟩
   refine jg (fun i ρ=>∃ps:List (List Rat),1<=ps.length/\ps.length<=bs.length+i/\(∀p∈ps,p∈bs)/\ρ=[some .reel,some (.d (.int s)),some (.d (.int m)),some (.vv (.ref a)),some (.ml (ps.map EQ)),none,o6,o7,o8,none]) ⟨bs,by omega,by omega,fun p h=>h,rfl⟩ ?_ ?_
   · rintro i hi ρ ⟨ps,p1,p2,pm,rfl⟩ K hK
     have g1:0<(ps.length:Int):=by omega
     have g2:(ps.length:Int)<2^60:=by omega
     have g3:0<(ps.length:Int)+1:=by omega
     have g4:(ps.length:Int)+1<2^60:=by omega
     simp_arith only[ag,ae,Hd,bi.eq]
     (with_reducible (first|refine aP fun e he=>?_|refine bh fun e he=>?_))
     obtain⟨r,er,mr⟩:=sG (xs:=ps) he.1 he.2
     have er2:atI (ps.map EQ) e=some (EQ r):=by rw[cr,er];rfl
     simp_arith only[ag,ae,Hd,bi.eq,er2]
     intro u hu
     have ls:ps.length<sizeLine:=by omega
     simp_arith only[ag,ae,Hb]
     have ei:insAt (ps.map EQ) u.toNat (EQ r)=(insAt ps u.toNat r).map EQ:=by unfold insAt;simp[Iu,K5,Nj]
     rw[ei]
     have ml:(insAt ps u.toNat r).length=ps.length+1:=by unfold insAt;simp;omega
     have mm:∀p∈insAt ps u.toNat r,p∈bs:=fun p mp=>by
      have:p=r\/p∈ps:=by
       unfold insAt at mp
       simp only[Ik,HN,JM,or_false]at mp
       rcases mp with h|h
       · first|exact .inr (Ka h)|(rcases h with h|h;exact .inr (Ka h);exact .inl h)
       · first|exact .inr (MS h)|(rcases h with h|h;exact .inl h;exact .inr (MS h))
      rcases this with rfl|h
      · exact pm _ mr
      · exact pm p h
     exact hK _ (bK ⟨insAt ps u.toNat r,by omega,by omega,mm,rfl⟩)
   · rintro ρ ⟨ps,p1,p2,pm,rfl⟩
     refine pd ?_
     dsimp only
     refine cZ (iG ?_)
     have ls:ps.length<=sizeLine:=by omega
     simp_arith only[ag,ae,Hd,xq]
     exact A0 ⟨_,rfl,hQ ps ⟨p1,by omega,fun p mp=>hp p (pm p mp),bs,by omega,pm⟩⟩
theorem aS.eq6(q r:Rat)(h1:EN 60 q)(h2:EN 60 r):aS [.d (fr q),.d (fr r)]=VL.ret (.int (FT q r):Hh):=aS.eqQ q r h1.up h2.up
noncomputable def sg(f:Nat):Str:=if f=0 then "corner" else if f=1 then "inner" else "round"
noncomputable def mst(f s:Nat):Nat:=((if f=0 then [6,6,4,2]else if f=1 then [6,4,2,1]else [6,2,1,1]):List Nat).getD (s-1) 1
noncomputable def Wd(f s:Nat)(ps:List (List Rat)):Prop:=f<3/\1<=s/\s<=4/\¬(f=2/\s=4)/\zZ s (mst f s) ps
noncomputable def bX:List W->(Hh->Prop)->Prop:=fun ws Q=>ws=[.reel]/\(True)/\∀z:Nat×Nat×List (List Rat),(Wd z.1 z.2.1 z.2.2)->Q (.tuple [.str (sg z.1),ptsQ z.2.2])
theorem bX.mono:∀ws (Q Q':Hh->Prop),(∀d,Q d->Q' d)->bX ws Q->bX ws Q':=fun _ _ _ h_=>Hn (Hn fun q_ o_ ho_=>h_ _ (q_ o_ ho_))
theorem bX.len:∀ws (Q:Hh->Prop),bX ws Q->ws.length=1:=fun _ _ h_=>by obtain⟨e_,_⟩:=h_;subst e_;rfl
theorem bX.eq   : bX [.reel]=FV (anyM fun z:Nat×Nat×List (List Rat)=>Wd z.1 z.2.1 z.2.2) fun z=>VL.ret (.tuple [.str (sg z.1),ptsQ z.2.2]:Hh):=by
 refine ah fun Q=>⟨?_,fun q_=>⟨rfl,trivial,q_⟩⟩
 rintro⟨e_,_,q_⟩
 simp_arith only[and_true]at e_
 exact q_
theorem i7:FnScope ["_law_feed_here", "_law_s", "_law_family", "_law_most"] ["_law_feed_here"] (defScope (Ee 44)):=⟨rfl,rfl,rfl,by decide +kernel,rfl,by decide +kernel,by decide +kernel⟩
theorem d__law_world(Fn:FnIn K mg "_law_world" (Ee 44) ["_law_feed_here"])(Z:Bz mg)(d__law_draw:∀rl,Dfn P w K mg base rl "_law_draw" ["_law_feed_here", "_law_many"] 1 bi)(d__law_points:∀rl,Dfn P w K mg base rl "_law_points" ["_law_feed_here", "_law_s", "_law_most"] 3 bx)   : Dfn P w K mg base rl "_law_world" ["_law_feed_here"] 4 bX:=by
 have sc:=i7
 refine Dfn.of Fn sc (bX.mono) (bX.len) (fun cdv A outer s H E hr=>(af (al 1 sc.nd (aL (cf (aa ac (aa ac (aa ac (aa ac (aa ac (aa ac ab))))))) (ak (d__law_draw _) (hr.mono (by decide)) (aa (vn 0) (aa ac ab)))))
  (af (al 2 sc.nd (aL (cf (aa aD (aa aD (aa aD ab)))) (ak (d__law_draw _) (hr.mono (by decide)) (aa (vn 0) (aa ac ab)))))
  (af (bO (GN.pb (nH (aA (dz hr.units) b9 (av _) (vn 1) ac) (kG (aA dF cx (av _) (vn 2) aD)))) (aj (al 2 sc.nd aD)) aK)
  (af (al 3 sc.nd (aL (nP (hr.mono (HS _)) (by decide +kernel) (bp (aa ac (aa ac (aa ac (aa ac ab))))) (bp (aa ac (aa ac (aa ac (aa ac ab))))) (bp (aa ac (aa ac (aa ac (aa ac ab))))) (vn 2)) (v_sub (vn 1) ac)))
  (aj (ar (bp (aa (vn 2) (aa (ak (d__law_points _) (hr.mono (by decide)) (aa (vn 0) (aa (vn 1) (aa (vn 3) ab)))) ab)))))))))) ?_
 rintro ws Q ⟨rfl,_,hQ⟩
 refine az ?_
 have sz:=HM
 simp_arith only[ag,ae,cA,cB,bQ,cC,bR,aW,Hd,bi.eq]
 (with_reducible (first|refine aP fun a ha=>?_|refine bh fun a ha=>?_))
 refine Ex (cD (xs:=[1,2,2,3,1,4]) (enc:=HB) (fun y:Int=>1<=y/\y<=4) rfl ha.1 (by simpa using ha.2) (by decide) fun s hs=>?_)
 simp_arith only[ag,ae,cA,cB,bQ,cC,bR,aW,Hd,bi.eq]
 (with_reducible (first|refine aP fun b hb=>?_|refine bh fun b hb=>?_))
 refine Ex (cD (xs:=[0,1,2]) (enc:=fun f:Nat=>Iw (sg f)) (fun f:Nat=>f<3) rfl hb.1 (by simpa using hb.2) (by decide) fun f hf=>?_)
 have q1:(Hi "inner" == Hi "corner")=false:=by decide +kernel
 have q2:(Hi "round" == Hi "corner")=false:=by decide +kernel
 have q3:(Hi "round" == Hi "inner")=false:=by decide +kernel
 have n1:decide (Hi "corner" = Hi "round")=false:=by decide +kernel
 have n2:decide (Hi "inner" = Hi "round")=false:=by decide +kernel
 have n3:decide (Hi "round" = Hi "round")=true:=by decide +kernel
 have f0:sg 0=Hi "corner" := rfl
 have f1:sg 1=Hi "inner" := rfl
 have f2:sg 2=Hi "round" := rfl
 have lk0:∀a b c:Hh,JN (Hi "corner") [(Hi "corner", a),(Hi "inner", b),(Hi "round", c)]=some a:=fun a b c=>by simp[JN]
 have lk1:∀a b c:Hh,JN (Hi "inner") [(Hi "corner", a),(Hi "inner", b),(Hi "round", c)]=some b:=fun a b c=>by simp[JN,q1]
 have lk2:∀a b c:Hh,JN (Hi "round") [(Hi "corner", a),(Hi "inner", b),(Hi "round", c)]=some c:=fun a b c=>by simp[JN,q2,q3]
 have eqi:∀i j:Int,HQ (.int i) (.int j)=(i==j):=fun i j=>by simp[HQ]
 have it:∀a b c d:Int,VL.itemAt (.tuple [.int a,.int b,.int c,.int d]) 0=some (.int a)/\VL.itemAt (.tuple [.int a,.int b,.int c,.int d]) 1=some (.int b)/\VL.itemAt (.tuple [.int a,.int b,.int c,.int d]) 2=some (.int c)/\VL.itemAt (.tuple [.int a,.int b,.int c,.int d]) 3=some (.int d):=fun a b c d=>⟨rfl,rfl,rfl,rfl⟩
 have fin:∀(f s:Nat)(x:Str),sg f=x->f<3->1<=s->s<=4->¬(f=2/\s=4)->∀ps,zZ s (mst f s) ps->VL.ret (Fl.rt (W.d (Io [.str x,ptsQ ps]))) (wa Q):=fun f s x e h1 h2 h3 h4 ps hp=>by subst e;exact ax (hQ (f,s,ps) ⟨h1,h2,h3,h4,hp⟩)
 obtain rfl|rfl|rfl:f=0\/f=1\/f=2:=by omega
 all_goals obtain rfl|rfl|rfl|rfl:s=1\/s=2\/s=3\/s=4:=by omega
 all_goals simp_arith only[ag,ae,cA,cB,bQ,cC,bR,aW,Hd,bi.eq,bx.eq,ge,f0,f1,f2,lk0,lk1,lk2,n1,n2,n3,eqi,it]
 all_goals intro ps hp
 · exact fin 0 1 _ f0 (by decide) (by decide) (by decide) (by decide) ps hp
 · exact fin 0 2 _ f0 (by decide) (by decide) (by decide) (by decide) ps hp
 · exact fin 0 3 _ f0 (by decide) (by decide) (by decide) (by decide) ps hp
 · exact fin 0 4 _ f0 (by decide) (by decide) (by decide) (by decide) ps hp
 · exact fin 1 1 _ f1 (by decide) (by decide) (by decide) (by decide) ps hp
 · exact fin 1 2 _ f1 (by decide) (by decide) (by decide) (by decide) ps hp
 · exact fin 1 3 _ f1 (by decide) (by decide) (by decide) (by decide) ps hp
 · exact fin 1 4 _ f1 (by decide) (by decide) (by decide) (by decide) ps hp
 · exact fin 2 1 _ f2 (by decide) (by decide) (by decide) (by decide) ps hp
 · exact fin 2 2 _ f2 (by decide) (by decide) (by decide) (by decide) ps hp
 · exact fin 2 3 _ f2 (by decide) (by decide) (by decide) (by decide) ps hp
 · exact fin 0 4 _ f0 (by decide) (by decide) (by decide) (by decide) ps hp
noncomputable def aT:List W->(Hh->Prop)->Prop:=fun ws Q=>∃(i j:Int),ws=[.d (.int i),.d (.int j)]/\(True)/\Q (.int (Jz i j:Nat))
theorem aT.mono:∀ws (Q Q':Hh->Prop),(∀d,Q d->Q' d)->aT ws Q->aT ws Q':=fun _ _ _ h_=>HA fun _=>HA fun _=>Hn (Hn (h_ _))
theorem aT.len:∀ws (Q:Hh->Prop),aT ws Q->ws.length=2:=fun _ _ h_=>by obtain⟨_,_,e_,_⟩:=h_;subst e_;rfl
theorem aT.eq(i j:Int)  : aT [.d (.int i),.d (.int j)]=VL.ret (.int (Jz i j:Nat):Hh):=by
 refine ah fun Q=>⟨?_,fun q_=>⟨i,j,rfl,trivial,q_⟩⟩
 rintro⟨i',j',e_,_,q_⟩
 simp_arith only[and_true]at e_
 obtain⟨rfl,rfl⟩:=e_
 exact q_
theorem eY:FnScope ["one", "other"] ["one", "other"] (defScope (Ee 7)):=⟨rfl,rfl,rfl,by decide +kernel,rfl,by decide +kernel,by decide +kernel⟩
theorem d_common_divisor(Fn:FnIn K mg "common_divisor" (Ee 7) ["one", "other"])(Z:Bz mg)    : Dfn P w K mg base rl "common_divisor" ["one", "other"] 1 aT:=by
 have sc:=eY
 refine Dfn.of Fn sc (aT.mono) (aT.len) (fun cdv A outer s H E hr=>(af (gh [] Ig (aA (dN hr.units) b9 (av _) (vn 1) ac) (aj (lA 0 1 rfl sc.nd (aa (vn 1) (aa (v_mod (vn 0) (vn 1)) ab)))))
  (aj (ar (xh Z.abs_ (aa (vn 0) ab)))))) ?_
 rintro ws Q ⟨i,j,rfl,_,hQ⟩
 refine az ?_
 simp_arith only[ae]
 refine iQ (σ:=Int×Int) (fun s=>[some (.d (.int s.1)),some (.d (.int s.2))]) (fun s=>!(s.2==0)) (fun s=>(s.2,s.1.fmod s.2)) (fun s=>s.2.natAbs) (fun s=>Jz s.1 s.2=Jz i j) (i,j) rfl rfl ?_ ?_ ?_
 · intro s _
   simp_arith only[ae]
 · intro s e c
   have hc:s.2≠0:=by simpa using c
   refine⟨by rw[mf];exact e,gN hc,_,?_,rfl⟩
   simp_arith only[ag,ae]
 · intro s e c
   have hc:s.2=0:=by simpa using c
   simp_arith only[ae]
   rw[hc,Int.gcd_zero_right]at e
   refine ax ?_
   have:(if s.1<0 then -s.1 else s.1)=((Jz i j:Nat):Int):=by rw[<- e];split<;>omega
   rw[this]
   exact hQ
noncomputable def bM:List W->(Hh->Prop)->Prop:=fun ws Q=>∃(a b:Int),ws=[.d (.int a),.d (.int b)]/\((0<b)/\(b.natAbs<2^8000))/\Q (fr (qd a b))
theorem bM.mono:∀ws (Q Q':Hh->Prop),(∀d,Q d->Q' d)->bM ws Q->bM ws Q':=fun _ _ _ h_=>HA fun _=>HA fun _=>Hn (Hn (h_ _))
theorem bM.len:∀ws (Q:Hh->Prop),bM ws Q->ws.length=2:=fun _ _ h_=>by obtain⟨_,_,e_,_⟩:=h_;subst e_;rfl
theorem bM.eq(a b:Int)(hb:0<b)(hz:b.natAbs<2^8000):bM [.d (.int a),.d (.int b)]=VL.ret (fr (qd a b):Hh):=by
 refine ah fun Q=>⟨?_,fun q_=>⟨a,b,rfl,⟨hb,hz⟩,q_⟩⟩
 rintro⟨a',b',e_,_,q_⟩
 simp_arith only[and_true]at e_
 obtain⟨rfl,rfl⟩:=e_
 exact q_
theorem kM:FnScope ["top", "bottom", "divisor"] ["top", "bottom"] (defScope (Ee 8)):=⟨rfl,rfl,rfl,by decide +kernel,rfl,by decide +kernel,by decide +kernel⟩
theorem d_fraction(Fn:FnIn K mg "fraction" (Ee 8) ["top", "bottom"])(Z:Bz mg)(d_common_divisor:∀rl,Dfn P w K mg base rl "common_divisor" ["one", "other"] 1 aT)   : Dfn P w K mg base rl "fraction" ["top", "bottom"] 2 bM:=by
 have sc:=kM
 refine Dfn.of Fn sc (bM.mono) (bM.len) (fun cdv A outer s H E hr=>(af (bO (aA (dz hr.units) b9 (av _) (vn 1) ac) (aj lB) aK)
  (af (al 2 sc.nd (ak (d_common_divisor _) (hr.mono (by decide)) (aa (vn 0) (aa (vn 1) ab))))
  (af (bO (aA gJ gl (av _) (vn 1) ac) (aj (al 2 sc.nd (nN (vn 2)))) aK)
  (aj (ar (bp (aa (v_div (vn 0) (vn 2)) (aa (v_div (vn 1) (vn 2)) ab))))))))) ?_
 rintro ws Q ⟨a,b,rfl,⟨hb,hz⟩,hQ⟩
 refine az ?_
 have c1:fX a (Jz a b:Int):=jm hb hz _
 have c2:fX b (Jz a b:Int):=jm hb hz _
 have h0:(b==0)=false:=by simp;omega
 have h1:decide (b<0)=false:=by simp;omega
 simp_arith only[ag,ae,aT.eq,h0,h1]
 rw[tF hb]
 exact ax hQ
noncomputable def gG:List W->(Hh->Prop)->Prop:=fun ws Q=>∃(q r:Rat),ws=[.d (fr q),.d (fr r)]/\((EN 2000 q)/\(EN 2000 r))/\Q (fr (q+r))
theorem gG.mono:∀ws (Q Q':Hh->Prop),(∀d,Q d->Q' d)->gG ws Q->gG ws Q':=fun _ _ _ h_=>HA fun _=>HA fun _=>Hn (Hn (h_ _))
theorem gG.len:∀ws (Q:Hh->Prop),gG ws Q->ws.length=2:=fun _ _ h_=>by obtain⟨_,_,e_,_⟩:=h_;subst e_;rfl
theorem gG.eq(q r:Rat)(h1:EN 2000 q)(h2:EN 2000 r):gG [.d (fr q),.d (fr r)]=VL.ret (fr (q+r):Hh):=by
 refine ah fun Q=>⟨?_,fun q_=>⟨q,r,rfl,⟨h1,h2⟩,q_⟩⟩
 rintro⟨q',r',e_,_,q_⟩
 simp_arith only[cM,br,bv,aE,aH,bG]at e_
 obtain⟨rfl,rfl⟩:=e_
 exact q_
theorem uG:FnScope ["one", "other"] ["one", "other"] (defScope (Ee 9)):=⟨rfl,rfl,rfl,by decide +kernel,rfl,by decide +kernel,by decide +kernel⟩
theorem d_plus(Fn:FnIn K mg "plus" (Ee 9) ["one", "other"])(Z:Bz mg)(d_fraction:∀rl,Dfn P w K mg base rl "fraction" ["top", "bottom"] 2 bM)   : Dfn P w K mg base rl "plus" ["one", "other"] 3 gG:=by
 have sc:=uG
 refine Dfn.of Fn sc (gG.mono) (gG.len) (fun cdv A outer s H E hr=>(aj (ar (ak (d_fraction _) (hr.mono (by decide)) (aa (v_add (v_mul (aL (vn 0) ac) (aL (vn 1) ac)) (v_mul (aL (vn 1) ac) (aL (vn 0) ac))) (aa (v_mul (aL (vn 0) ac) (aL (vn 1) ac)) ab)))))) ?_
 rintro ws Q ⟨q,r,rfl,⟨h1,h2⟩,hQ⟩
 refine az ?_
 have m1:aV q.num r.den:=.bb h1.bn h2.bd
 have m2:aV r.num q.den:=.bb h2.bn h1.bd
 have m3:aV q.den r.den:=.bb h1.bd h2.bd
 have m4:aV q.num r.num:=.bb h1.bn h2.bn
 have d1:=den_pos q r
 have d2:=gP h1 h2
 simp_arith only[ag,ae,bM.eq,Hd,yd]
 exact ax hQ
noncomputable def fG:List W->(Hh->Prop)->Prop:=fun ws Q=>∃(q r:Rat),ws=[.d (fr q),.d (fr r)]/\((EN 2000 q)/\(EN 2000 r))/\Q (fr (q-r))
theorem fG.mono:∀ws (Q Q':Hh->Prop),(∀d,Q d->Q' d)->fG ws Q->fG ws Q':=fun _ _ _ h_=>HA fun _=>HA fun _=>Hn (Hn (h_ _))
theorem fG.len:∀ws (Q:Hh->Prop),fG ws Q->ws.length=2:=fun _ _ h_=>by obtain⟨_,_,e_,_⟩:=h_;subst e_;rfl
theorem fG.eq(q r:Rat)(h1:EN 2000 q)(h2:EN 2000 r):fG [.d (fr q),.d (fr r)]=VL.ret (fr (q-r):Hh):=by
 refine ah fun Q=>⟨?_,fun q_=>⟨q,r,rfl,⟨h1,h2⟩,q_⟩⟩
 rintro⟨q',r',e_,_,q_⟩
 simp_arith only[cM,br,bv,aE,aH,bG]at e_
 obtain⟨rfl,rfl⟩:=e_
 exact q_
theorem uI:FnScope ["one", "other"] ["one", "other"] (defScope (Ee 10)):=⟨rfl,rfl,rfl,by decide +kernel,rfl,by decide +kernel,by decide +kernel⟩
theorem d_less(Fn:FnIn K mg "less" (Ee 10) ["one", "other"])(Z:Bz mg)(d_fraction:∀rl,Dfn P w K mg base rl "fraction" ["top", "bottom"] 2 bM)   : Dfn P w K mg base rl "less" ["one", "other"] 3 fG:=by
 have sc:=uI
 refine Dfn.of Fn sc (fG.mono) (fG.len) (fun cdv A outer s H E hr=>(aj (ar (ak (d_fraction _) (hr.mono (by decide)) (aa (v_sub (v_mul (aL (vn 0) ac) (aL (vn 1) ac)) (v_mul (aL (vn 1) ac) (aL (vn 0) ac))) (aa (v_mul (aL (vn 0) ac) (aL (vn 1) ac)) ab)))))) ?_
 rintro ws Q ⟨q,r,rfl,⟨h1,h2⟩,hQ⟩
 refine az ?_
 have m1:aV q.num r.den:=.bb h1.bn h2.bd
 have m2:aV r.num q.den:=.bb h2.bn h1.bd
 have m3:aV q.den r.den:=.bb h1.bd h2.bd
 have m4:aV q.num r.num:=.bb h1.bn h2.bn
 have d1:=den_pos q r
 have d2:=gP h1 h2
 simp_arith only[ag,ae,bM.eq,Hd,oJ]
 exact ax hQ
noncomputable def d7:List W->(Hh->Prop)->Prop:=fun ws Q=>∃(q r:Rat),ws=[.d (fr q),.d (fr r)]/\((EN 2000 q)/\(EN 2000 r))/\Q (fr (q*r))
theorem d7.mono:∀ws (Q Q':Hh->Prop),(∀d,Q d->Q' d)->d7 ws Q->d7 ws Q':=fun _ _ _ h_=>HA fun _=>HA fun _=>Hn (Hn (h_ _))
theorem d7.len:∀ws (Q:Hh->Prop),d7 ws Q->ws.length=2:=fun _ _ h_=>by obtain⟨_,_,e_,_⟩:=h_;subst e_;rfl
theorem d7.eq(q r:Rat)(h1:EN 2000 q)(h2:EN 2000 r):d7 [.d (fr q),.d (fr r)]=VL.ret (fr (q*r):Hh):=by
 refine ah fun Q=>⟨?_,fun q_=>⟨q,r,rfl,⟨h1,h2⟩,q_⟩⟩
 rintro⟨q',r',e_,_,q_⟩
 simp_arith only[cM,br,bv,aE,aH,bG]at e_
 obtain⟨rfl,rfl⟩:=e_
 exact q_
theorem qQ:FnScope ["one", "other"] ["one", "other"] (defScope (Ee 11)):=⟨rfl,rfl,rfl,by decide +kernel,rfl,by decide +kernel,by decide +kernel⟩
theorem d_times(Fn:FnIn K mg "times" (Ee 11) ["one", "other"])(Z:Bz mg)(d_fraction:∀rl,Dfn P w K mg base rl "fraction" ["top", "bottom"] 2 bM)   : Dfn P w K mg base rl "times" ["one", "other"] 3 d7:=by
 have sc:=qQ
 refine Dfn.of Fn sc (d7.mono) (d7.len) (fun cdv A outer s H E hr=>(aj (ar (ak (d_fraction _) (hr.mono (by decide)) (aa (v_mul (aL (vn 0) ac) (aL (vn 1) ac)) (aa (v_mul (aL (vn 0) ac) (aL (vn 1) ac)) ab)))))) ?_
 rintro ws Q ⟨q,r,rfl,⟨h1,h2⟩,hQ⟩
 refine az ?_
 have m1:aV q.num r.den:=.bb h1.bn h2.bd
 have m2:aV r.num q.den:=.bb h2.bn h1.bd
 have m3:aV q.den r.den:=.bb h1.bd h2.bd
 have m4:aV q.num r.num:=.bb h1.bn h2.bn
 have d1:=den_pos q r
 have d2:=gP h1 h2
 simp_arith only[ag,ae,bM.eq,Hd,yb]
 exact ax hQ
noncomputable def bq:List W->(Hh->Prop)->Prop:=fun ws Q=>∃(q r:Rat),ws=[.d (fr q),.d (fr r)]/\((EN 2000 q)/\(EN 2000 r))/\Q (.bool (decide (q<r)))
theorem bq.mono:∀ws (Q Q':Hh->Prop),(∀d,Q d->Q' d)->bq ws Q->bq ws Q':=fun _ _ _ h_=>HA fun _=>HA fun _=>Hn (Hn (h_ _))
theorem bq.len:∀ws (Q:Hh->Prop),bq ws Q->ws.length=2:=fun _ _ h_=>by obtain⟨_,_,e_,_⟩:=h_;subst e_;rfl
theorem bq.eq(q r:Rat)(h1:EN 2000 q)(h2:EN 2000 r):bq [.d (fr q),.d (fr r)]=VL.ret (.bool (decide (q<r)):Hh):=by
 refine ah fun Q=>⟨?_,fun q_=>⟨q,r,rfl,⟨h1,h2⟩,q_⟩⟩
 rintro⟨q',r',e_,_,q_⟩
 simp_arith only[cM,br,bv,aE,aH,bG]at e_
 obtain⟨rfl,rfl⟩:=e_
 exact q_
theorem kK:FnScope ["one", "other"] ["one", "other"] (defScope (Ee 12)):=⟨rfl,rfl,rfl,by decide +kernel,rfl,by decide +kernel,by decide +kernel⟩
theorem d_is_below(Fn:FnIn K mg "is_below" (Ee 12) ["one", "other"])(Z:Bz mg)    : Dfn P w K mg base rl "is_below" ["one", "other"] 1 bq:=by
 have sc:=kK
 refine Dfn.of Fn sc (bq.mono) (bq.len) (fun cdv A outer s H E hr=>(aj (ar (eB gJ gl (av _) (v_mul (aL (vn 0) ac) (aL (vn 1) ac)) (v_mul (aL (vn 1) ac) (aL (vn 0) ac)))))) ?_
 rintro ws Q ⟨q,r,rfl,⟨h1,h2⟩,hQ⟩
 refine az ?_
 have m1:aV q.num r.den:=.bb h1.bn h2.bd
 have m2:aV r.num q.den:=.bb h2.bn h1.bd
 simp_arith only[ag,ae,Hd,v4]
 exact ax hQ
noncomputable def cY:List W->(Hh->Prop)->Prop:=fun ws Q=>∃(q r:Rat),ws=[.d (fr q),.d (fr r)]/\((EN 2000 q)/\(EN 2000 r))/\Q (fr (mn q r))
theorem cY.mono:∀ws (Q Q':Hh->Prop),(∀d,Q d->Q' d)->cY ws Q->cY ws Q':=fun _ _ _ h_=>HA fun _=>HA fun _=>Hn (Hn (h_ _))
theorem cY.len:∀ws (Q:Hh->Prop),cY ws Q->ws.length=2:=fun _ _ h_=>by obtain⟨_,_,e_,_⟩:=h_;subst e_;rfl
theorem cY.eq(q r:Rat)(h1:EN 2000 q)(h2:EN 2000 r):cY [.d (fr q),.d (fr r)]=VL.ret (fr (mn q r):Hh):=by
 refine ah fun Q=>⟨?_,fun q_=>⟨q,r,rfl,⟨h1,h2⟩,q_⟩⟩
 rintro⟨q',r',e_,_,q_⟩
 simp_arith only[cM,br,bv,aE,aH,bG]at e_
 obtain⟨rfl,rfl⟩:=e_
 exact q_
theorem ou:FnScope ["one", "other"] ["one", "other"] (defScope (Ee 13)):=⟨rfl,rfl,rfl,by decide +kernel,rfl,by decide +kernel,by decide +kernel⟩
theorem d_lesser(Fn:FnIn K mg "lesser" (Ee 13) ["one", "other"])(Z:Bz mg)(d_is_below:∀rl,Dfn P w K mg base rl "is_below" ["one", "other"] 1 bq)   : Dfn P w K mg base rl "lesser" ["one", "other"] 2 cY:=by
 have sc:=ou
 refine Dfn.of Fn sc (cY.mono) (cY.len) (fun cdv A outer s H E hr=>(aj (ar (gt (cu (ak (d_is_below _) (hr.mono (by decide)) (aa (vn 0) (aa (vn 1) ab)))) (vn 0) (vn 1))))) ?_
 rintro ws Q ⟨q,r,rfl,⟨h1,h2⟩,hQ⟩
 refine az ?_
 simp_arith only[ag,ae,bq.eq,Hd]
 unfold mn at hQ
 refine ax ?_
 by_cases h:q<r<;>simp[h]at hQ ⊢ <;> exact hQ
noncomputable def cJ:List W->(Hh->Prop)->Prop:=fun ws Q=>∃(q r:Rat),ws=[.d (fr q),.d (fr r)]/\((EN 2000 q)/\(EN 2000 r))/\Q (fr (mx q r))
theorem cJ.mono:∀ws (Q Q':Hh->Prop),(∀d,Q d->Q' d)->cJ ws Q->cJ ws Q':=fun _ _ _ h_=>HA fun _=>HA fun _=>Hn (Hn (h_ _))
theorem cJ.len:∀ws (Q:Hh->Prop),cJ ws Q->ws.length=2:=fun _ _ h_=>by obtain⟨_,_,e_,_⟩:=h_;subst e_;rfl
theorem cJ.eq(q r:Rat)(h1:EN 2000 q)(h2:EN 2000 r):cJ [.d (fr q),.d (fr r)]=VL.ret (fr (mx q r):Hh):=by
 refine ah fun Q=>⟨?_,fun q_=>⟨q,r,rfl,⟨h1,h2⟩,q_⟩⟩
 rintro⟨q',r',e_,_,q_⟩
 simp_arith only[cM,br,bv,aE,aH,bG]at e_
 obtain⟨rfl,rfl⟩:=e_
 exact q_
theorem mX:FnScope ["one", "other"] ["one", "other"] (defScope (Ee 14)):=⟨rfl,rfl,rfl,by decide +kernel,rfl,by decide +kernel,by decide +kernel⟩
theorem d_greater(Fn:FnIn K mg "greater" (Ee 14) ["one", "other"])(Z:Bz mg)(d_is_below:∀rl,Dfn P w K mg base rl "is_below" ["one", "other"] 1 bq)   : Dfn P w K mg base rl "greater" ["one", "other"] 2 cJ:=by
 have sc:=mX
 refine Dfn.of Fn sc (cJ.mono) (cJ.len) (fun cdv A outer s H E hr=>(aj (ar (gt (cu (ak (d_is_below _) (hr.mono (by decide)) (aa (vn 0) (aa (vn 1) ab)))) (vn 1) (vn 0))))) ?_
 rintro ws Q ⟨q,r,rfl,⟨h1,h2⟩,hQ⟩
 refine az ?_
 simp_arith only[ag,ae,bq.eq,Hd]
 unfold mx at hQ
 refine ax ?_
 by_cases h:q<r<;>simp[h]at hQ ⊢ <;> exact hQ
theorem AH(h:EN 2000 q):(q.den:Int).natAbs<2^2000:=by rw[Iq];exact h.2
noncomputable def cv:List W->(Hh->Prop)->Prop:=fun ws Q=>∃(b:Bool)(qs:List Rat),ws=[.d (Ez b qs)]/\((qs.length<60)/\(∀q∈qs,EN 2000 q))/\∀rs:List Rat,(fP qs rs)->Q (.tuple (rs.map fr))
theorem cv.mono:∀ws (Q Q':Hh->Prop),(∀d,Q d->Q' d)->cv ws Q->cv ws Q':=fun _ _ _ h_=>HA fun _=>HA fun _=>Hn (Hn fun q_ o_ ho_=>h_ _ (q_ o_ ho_))
theorem cv.len:∀ws (Q:Hh->Prop),cv ws Q->ws.length=1:=fun _ _ h_=>by obtain⟨_,_,e_,_⟩:=h_;subst e_;rfl
theorem cv.eq(b:Bool)(qs:List Rat)(hl:qs.length<60)(hq:∀q∈qs,EN 2000 q):cv [.d (Ez b qs)]=FV (anyM fun rs:List Rat=>fP qs rs) fun rs=>VL.ret (.tuple (rs.map fr):Hh):=by
 refine ah fun Q=>⟨?_,fun q_=>⟨b,qs,rfl,⟨hl,hq⟩,q_⟩⟩
 rintro⟨b',qs',e_,_,q_⟩
 simp_arith only[cM,br,bv,aE,aH,bG,Ay]at e_
 obtain⟨rfl,rfl⟩:=e_
 exact q_
theorem mW:FnScope ["some", "bottom", "scale", "by_size"] ["some"] (defScope (Ee 15)):=⟨rfl,rfl,rfl,by decide +kernel,rfl,by decide +kernel,by decide +kernel⟩
theorem d_in_size(Fn:FnIn K mg "in_size" (Ee 15) ["some"])(Z:Bz mg)    : Dfn P w K mg base rl "in_size" ["some"] 1 cv:=by
 have sc:=mW
 refine Dfn.of Fn sc (cv.mono) (cv.len) (fun cdv A outer s H E hr=>(af (al 1 sc.nd (xf rfl Z.max_ (aa (bc ["one"] [none] rfl (sK (vn 0)) (fun _=>(ai 0 (show Iy (["one"]:List Str) by decide +kernel))) (fun _=>b8) (fun _=>(aL (vn 0) ac))) ab) ac))
  (af (al 2 sc.nd (v_mul (vn 1) (vn 1)))
  (af (kF 3 sc.nd ["one", "scale"] [none,some 2] rfl (sK (vn 0)) (fun _=>(ai 0 (show Iy (["one", "scale"]:List Str) by decide +kernel))) (fun _=>b8) (fun _=>(v_div (v_mul (aL (vn 0) ac) (vn 1)) (aL (vn 0) ac))) (fun _=>(vn 0)))
  (aj (ar (nJ Z.tuple_ (aa (bc ["size", "by_size"] [none,some 3] rfl (aJ (nK rfl Z.sorted_ (aa (vn 3) ab))) (fun _=>(ai 0 (show Iy (["size", "by_size"]:List Str) by decide +kernel))) (fun _=>b8) (fun _=>(ue hr.un1 (vn 1) (vn 0)))) ab)))))))) ?_
 rintro ws Q ⟨b,qs,rfl,⟨hl,hq⟩,hQ⟩
 refine az ?_
 have sz:=HM
 simp_arith only[ag,ae,Hf,Ha,Hb,dW,Hd]
 refine Ey (bH (xs:=qs) (enc:=fr) (fun q=>.int q.den) rfl ?_ (by omega) ?_)
 · intro q mq
   simp_arith only[ag,ae,FB,Hd]
 have e1:qs.map (fun q=>HB q.den)=(qs.map fun q=>(q.den:Int)).map .int:=by rw[Jg];rfl
 rw[e1]
 obtain⟨mx1,mx2⟩:=yJ (qs.map fun q=>(q.den:Int))
 have hB:∀q∈qs,(q.den:Int)<=E4 1 (qs.map fun q=>(q.den:Int)):=fun q mq=>mx1 _ (IA.mpr ⟨q,mq,rfl⟩)
 have bB:G_ (E4 1 (qs.map fun q=>(q.den:Int))):=by
  rcases mx2 with z|z
  · rw[z];exact jw (by decide)
  · obtain⟨q,mq,e⟩:=IA.mp z
    rw[<- e];exact jw (AH (hq q mq))
 have b2:(E4 1 (qs.map fun q=>(q.den:Int))).natAbs<2^2000:=by
  rcases mx2 with z|z
  · rw[z];decide
  · obtain⟨q,mq,e⟩:=IA.mp z
    rw[<- e];exact AH (hq q mq)
 simp_arith only[ag,ae,Hf,Ha,Hb,dW,Hd]
 generalize E4 1 (qs.map fun q=>(q.den:Int))=B at *
 have cm:aV B B:=.bb bB bB
 have bS:G_ (B*B):=by
  unfold G_
  rw[Jv]
  exact Hr (Mm b2 b2) (by rw[<- NL];exact HF (by decide) (by decide))
 simp_arith only[ag,ae,Hf,Ha,Hb,dW,Hd]
 refine Ey (wd (xs:=qs) (enc:=fr) (fun q=>((JQ (Et (B*B) q):GU),fr q)) rfl ?_ (by omega) ?_)
 · intro q mq
   have c1:aV q.num (B*B):=.bb (hq q mq).bn bS
   have c2:fX (q.num*(B*B)) q.den:=⟨by have:=pV q;omega,Hr (AH (hq q mq)) (HF (by decide) (by decide))⟩
   simp_arith only[ag,ae,FC,Hf,Ha,Hb,dW,Hd]
   rfl
 obtain⟨ms,f1,f2,f3,f4,f5⟩:=v7 (Et (B*B)) qs fun q r mq mr e=>oa (hB q mq) (hB r mr) e
 have ef:((qs.map fun q=>((JQ (Et (B*B) q):GU),fr q)).foldl (fun a p=>VL.putF a p.1 p.2) [])=v8 (Et (B*B)) qs:=rfl
 rw[ef]
 simp_arith only[ag,ae,Hf,Ha,Hb,dW,Hd]
 refine uz ms f1 (by omega) ?_
 intro ns pm pw
 obtain⟨rs,er,hr,so⟩:=og hB f2 f3 pm pw
 subst er
 have lr:=iu so
 simp_arith only[ag,ae,Hf,Ha,Hb,dW,Hd]
 refine bH (xs:=rs) (enc:=fun r=>HB (Et (B*B) r)) fr (by rw[Jg];rfl) ?_ (by omega) ?_
 · intro r mr
   have v:=f4 r (hr r mr)
   simp_arith only[ag,ae,FB,Hf,Ha,Hb,dW,Hd,v]
 exact ax (hQ rs so)
theorem cv.eqL(qs:List Rat)(hl:qs.length<60)(hq:∀q∈qs,EN 2000 q):cv [.d (.list (qs.map fr))]=FV (anyM fun rs:List Rat=>fP qs rs) fun rs=>VL.ret (.tuple (rs.map fr):Hh):=cv.eq false qs hl hq
noncomputable def colQ(ps:List (List Rat))(j:Nat):List Rat:=ps.map fun p=>p.getD j 0
theorem ju{k s:Nat}(hp:∀p∈ps,p.length=s/\∀q∈p,EN k q)(hj:j<s):∀p∈ps,atI p (j:Int)=some (p.getD j 0):=fun p mp=>cP (by
 have:=(hp p mp).1
 rw[Ir,HP (by omega)];rfl)
theorem tN{k s:Nat}(hp:∀p∈ps,p.length=s/\∀q∈p,EN k q)(hj:j<s):∀q∈colQ ps j,EN k q:=fun q mq=>by
 obtain⟨p,mp,rfl⟩:=IA.mp mq
 have:=(hp p mp).1
 have e:p.getD j 0=p[j]'(by omega):=by rw[Ir,HP (by omega)];rfl
 show EN k (p.getD j 0)
 rw[e]
 exact(hp p mp).2 _ (Iv _)
noncomputable def stQ(xs:List Rat)(x:Rat):List Rat:=if xs[(xs.filter (· < x)).length]?=some x then xs else insAt xs (xs.filter (· < x)).length x
noncomputable def Ev(qs:List Rat):List Rat:=qs.foldl stQ []
theorem tM{x:Rat}:∀{xs:List Rat},xs.Pairwise (· < ·)->xs.take (xs.filter (· < x)).length=xs.filter (· < x)/\∀y∈xs.drop (xs.filter (· < x)).length,x<=y
 | [],_=>by simp
 | y::ys,h=>by
   obtain⟨h1,h2⟩:=Kz.mp h
   by_cases c:y<x
   · obtain⟨a,b⟩:=tM (x:=x) h2
     rw[List.filter_cons_of_pos (by simpa using c),HV,List.take_succ_cons,List.drop_succ_cons,a]
     exact⟨rfl,b⟩
   · have e:(y::ys).filter (· < x)=[]:=by
       rw[List.filter_eq_nil_iff]
       intro z mz
       rcases HN.mp mz with rfl|mz
       · simpa using c
       · have:=h1 z mz
         simp
         exact Jx.mpr (Ln (Jx.mp c) (Jl this))
     rw[e]
     refine⟨rfl,fun z mz=>?_⟩
     rcases HN.mp mz with rfl|mz
     · exact Jx.mp c
     · exact Ln (Jx.mp c) (Jl (h1 z mz))
theorem xD{xs:List Rat}{x:Rat}(h:xs.Pairwise (· < ·)):(stQ xs x).Pairwise (· < ·)/\∀q,q∈stQ xs x↔q∈xs\/q=x:=by
 unfold stQ
 obtain⟨a,b⟩:=tM (x:=x) h
 split
 · rename_i e
   exact⟨h,fun q=>⟨.inl,fun z=>z.elim id fun z=>z▸JP e⟩⟩
 · rename_i e
   unfold insAt
   have hp:=MT.mp (show(xs.take (xs.filter (· < x)).length++xs.drop (xs.filter (· < x)).length).Pairwise (· < ·) by rw[Lm];exact h)
   have hd:∀y∈xs.drop (xs.filter (· < x)).length,x<y:=fun y my=>by
    refine LX (b y my) fun z=>e ?_
    subst z
    obtain⟨i,hi,ei⟩:=List.getElem_of_mem my
    rw[List.getElem_drop]at ei
    rw[Kt]at hi
    cases i with
    | zero=>rw[HP (by omega)];simpa using ei
    | succ i =>
      exfalso
      have hl:(xs.filter (· < x)).length<xs.length:=by omega
      have m0:xs[(xs.filter (· < x)).length]∈xs.drop (xs.filter (· < x)).length:=List.mem_drop_iff_getElem.mpr ⟨0,by omega,by simp⟩
      have l0:=b _ m0
      have:=List.pairwise_iff_getElem.mp h (xs.filter (· < x)).length ((xs.filter (· < x)).length+(i+1)) hl (by omega) (by omega)
      rw[ei]at this
      exact absurd this (Jx.mpr l0)
   refine⟨MT.mpr ⟨hp.1,Kz.mpr ⟨hd,hp.2.1⟩,fun y my z mz=>?_⟩,fun q=>?_⟩
   · rw[a]at my
     have yx:y<x:=by simpa using(LA.mp my).2
     rcases HN.mp mz with rfl|mz
     · exact yx
     · have xz:=hd z mz
       exact LX (Ln (Jl yx) (Jl xz)) fun e=>by subst e;exact Jx.mpr (Jl xz) yx
   · have:q∈xs↔q∈xs.take (xs.filter (· < x)).length\/q∈xs.drop (xs.filter (· < x)).length:=by rw[<- Ik,Lm]
     rw[Ik,HN,this]
     constructor
     · rintro(z|z|z)
       · exact .inl (.inl z)
       · exact .inr z
       · exact .inl (.inr z)
     · rintro((z|z)|z)
       · exact .inl z
       · exact .inr (.inr z)
       · exact .inr (.inl z)
theorem sU:∀(qs xs:List Rat),xs.Pairwise (· < ·)->(qs.foldl stQ xs).Pairwise (· < ·)/\∀q,q∈qs.foldl stQ xs↔q∈xs\/q∈qs
 | [],xs,h=>⟨h,by simp⟩
 | x::qs,xs,h=>by
   obtain⟨a,b⟩:=xD (x:=x) h
   obtain⟨c,d⟩:=sU qs (stQ xs x) a
   refine⟨c,fun q=>?_⟩
   rw[Kg,d,b,HN]
   constructor
   · rintro((z|z)|z)
     · exact .inl z
     · exact .inr (.inl z)
     · exact .inr (.inr z)
   · rintro(z|z|z)
     · exact .inl (.inl z)
     · exact .inl (.inr z)
     · exact .inr z
theorem se{α β:Type}(p:α->Prop)[DecidablePred p](g:α->β):∀xs:List α,(xs.filterMap fun y=>if p y then some (g y)else none)=(xs.filter fun y=>decide (p y)).map g
 | []=>rfl
 | x::xs=>by
   have ih:=se p g xs
   by_cases c:p x
   · simp[c,ih]
   · simp[c,ih]
theorem im(qs:List Rat):fP qs (Ev qs):=by
 obtain⟨a,b⟩:=sU qs [] L5
 exact⟨a,fun q=>by rw[Ev,b];simp⟩
theorem xE{qs:List Rat}(h:fP qs rs):rs=Ev qs:=iq h.1 (im qs).1 fun q=>by rw[h.2,(im qs).2]
theorem pN{s:Nat}(h:Pg s ps):∀p∈ps,p.length=s/\∀q∈p,EN 45 q:=fun p mp=>⟨(h p mp).1,fun q mq=>((h p mp).2 q mq).1⟩
noncomputable def dimP(ps:List (List Rat)):Nat:=(ps.headD []).length
theorem zq{s:Nat}(h:Pg s ps)(h1:1<=ps.length):dimP ps=s:=by
 cases ps with
 | nil=>simp at h1
 | cons p ps=>exact(h p Hy).1
noncomputable def nuQ(ps:List (List Rat))(j:Nat):List Rat:=Ev (colQ ps j)
noncomputable def Pw(ps:List (List Rat)):Prop:=1<=ps.length/\ps.length<=40/\Pg (dimP ps) ps/\1<=dimP ps/\dimP ps<=4
noncomputable def cc:List W->(Hh->Prop)->Prop:=fun ws Q=>∃(ps:List (List Rat)),ws=[.d (ptsQ ps)]/\((1<=ps.length))/\Q (.int ((dimP ps:Nat):Int))
theorem cc.mono:∀ws (Q Q':Hh->Prop),(∀d,Q d->Q' d)->cc ws Q->cc ws Q':=fun _ _ _ h_=>HA fun _=>Hn (Hn (h_ _))
theorem cc.len:∀ws (Q:Hh->Prop),cc ws Q->ws.length=1:=fun _ _ h_=>by obtain⟨_,e_,_⟩:=h_;subst e_;rfl
theorem cc.eq(ps:List (List Rat))(h:1<=ps.length):cc [.d (ptsQ ps)]=VL.ret (.int ((dimP ps:Nat):Int):Hh):=by
 refine ah fun Q=>⟨?_,fun q_=>⟨ps,rfl,h,q_⟩⟩
 rintro⟨ps',e_,_,q_⟩
 simp_arith only[cM,br,bv,aE,aH,bG]at e_
 obtain rfl:=e_
 exact q_
theorem kJ:FnScope ["points"] ["points"] (defScope (Ee 21)):=⟨rfl,rfl,rfl,by decide +kernel,rfl,by decide +kernel,by decide +kernel⟩
theorem d_sides_of(Fn:FnIn K mg "sides_of" (Ee 21) ["points"])(Z:Bz mg)    : Dfn P w K mg base rl "sides_of" ["points"] 1 cc:=by
 have sc:=kJ
 refine Dfn.of Fn sc (cc.mono) (cc.len) (fun cdv A outer s H E hr=>(aj (ar (ce Z.len_ (aa (aL (vn 0) ac) ab))))) ?_
 rintro ws Q ⟨ps,rfl,h,hQ⟩
 refine az ?_
 cases ps with
 | nil=>simp at h
 | cons p ps =>
   have e:atI (p::ps) 0=some p:=cP rfl
   simp_arith only[ag,ae,Hd,e]
   exact ax hQ
noncomputable def bu:List W->(Hh->Prop)->Prop:=fun ws Q=>∃(ps:List (List Rat))(j:Int),ws=[.d (ptsQ ps),.d (.int j)]/\((Pw ps)/\(0<=j)/\(j<dimP ps))/\Q (EQ (nuQ ps j.toNat))
theorem bu.mono:∀ws (Q Q':Hh->Prop),(∀d,Q d->Q' d)->bu ws Q->bu ws Q':=fun _ _ _ h_=>HA fun _=>HA fun _=>Hn (Hn (h_ _))
theorem bu.len:∀ws (Q:Hh->Prop),bu ws Q->ws.length=2:=fun _ _ h_=>by obtain⟨_,_,e_,_⟩:=h_;subst e_;rfl
theorem bu.eq(ps:List (List Rat))(j:Int)(h:Pw ps)(j0:0<=j)(jl:j<dimP ps):bu [.d (ptsQ ps),.d (.int j)]=VL.ret (EQ (nuQ ps j.toNat):Hh):=by
 refine ah fun Q=>⟨?_,fun q_=>⟨ps,j,rfl,⟨h,j0,jl⟩,q_⟩⟩
 rintro⟨ps',j',e_,_,q_⟩
 simp_arith only[cM,br,bv,aE,aH,bG]at e_
 obtain⟨rfl,rfl⟩:=e_
 exact q_
theorem i4:FnScope ["points", "side"] ["points", "side"] (defScope (Ee 22)):=⟨rfl,rfl,rfl,by decide +kernel,rfl,by decide +kernel,by decide +kernel⟩
theorem d_numbers_at(Fn:FnIn K mg "numbers_at" (Ee 22) ["points", "side"])(Z:Bz mg)(d_in_size:∀rl,Dfn P w K mg base rl "in_size" ["some"] 1 cv)   : Dfn P w K mg base rl "numbers_at" ["points", "side"] 2 bu:=by
 have sc:=i4
 refine Dfn.of Fn sc (bu.mono) (bu.len) (fun cdv A outer s H E hr=>(aj (ar (ak (d_in_size _) (hr.mono (by decide)) (aa (bc ["point", "side"] [none,some 1] rfl (dn (vn 0)) (fun _=>(ai 0 (show Iy (["point", "side"]:List Str) by decide +kernel))) (fun _=>b8) (fun _=>(aL (vn 0) (vn 1)))) ab))))) ?_
 rintro ws Q ⟨ps,j,rfl,⟨h,j0,jl⟩,hQ⟩
 refine az ?_
 have sz:=HM
 obtain⟨h1,h40,hp,d1,d4⟩:=h
 have ej:((j.toNat:Nat):Int)=j:=by omega
 have hj:j.toNat<dimP ps:=by omega
 have hc:(colQ ps j.toNat).length<60:=by unfold colQ;rw[Hu];omega
 have hq:∀q∈colQ ps j.toNat,EN 2000 q:=fun q mq=>(tN (pN hp) hj q mq).mono (by decide)
 simp_arith only[ag,ae,Hd]
 refine bH (xs:=ps) (enc:=EQ) (fun p=>fr (p.getD j.toNat 0)) rfl ?_ (by omega) ?_
 · intro p mp
   have e:=ju (pN hp) hj p mp
   rw[ej]at e
   simp_arith only[ag,ae,FB,Hd,e]
 have e1:ps.map (fun p=>fr (p.getD j.toNat 0))=(colQ ps j.toNat).map fr:=by unfold colQ;rw[Jg];rfl
 rw[e1]
 simp_arith only[ag,ae,cv.eqL]
 (with_reducible (first|refine aP fun rs hrs=>?_|refine bh fun rs hrs=>?_))
 rw[xE hrs]
 exact ax hQ
noncomputable def bw:List W->(Hh->Prop)->Prop:=fun ws Q=>∃(qs:List Rat),ws=[.d (.list (qs.map fr))]/\((qs.length<=40)/\(∀q∈qs,Gd q))/\Q (.list ((Ev qs).map fr))
theorem bw.mono:∀ws (Q Q':Hh->Prop),(∀d,Q d->Q' d)->bw ws Q->bw ws Q':=fun _ _ _ h_=>HA fun _=>Hn (Hn (h_ _))
theorem bw.len:∀ws (Q:Hh->Prop),bw ws Q->ws.length=1:=fun _ _ h_=>by obtain⟨_,e_,_⟩:=h_;subst e_;rfl
theorem bw.eq(qs:List Rat)(hl:qs.length<=40)(hq:∀q∈qs,Gd q):bw [.d (.list (qs.map fr))]=VL.ret (.list ((Ev qs).map fr):Hh):=by
 refine ah fun Q=>⟨?_,fun q_=>⟨qs,rfl,⟨hl,hq⟩,q_⟩⟩
 rintro⟨qs',e_,_,q_⟩
 simp_arith only[cM,br,bv,aE,aH,bG,pP]at e_
 obtain rfl:=e_
 exact q_
theorem g_:FnScope ["_law_some", "_law_found", "_law_x", "_law_spot"] ["_law_some"] (defScope (Ee 45)):=⟨rfl,rfl,rfl,by decide +kernel,rfl,by decide +kernel,by decide +kernel⟩
theorem d__law_sorted(Fn:FnIn K mg "_law_sorted" (Ee 45) ["_law_some"])(Z:Bz mg)(d__law_cmp:∀rl,Dfn P w K mg base rl "_law_cmp" ["_law_one", "_law_other"] 1 aS)   : Dfn P w K mg base rl "_law_sorted" ["_law_some"] 2 bw:=by
 have sc:=g_
 refine Dfn.of Fn sc (bw.mono) (bw.len) (fun cdv A outer s H E hr=>(af (d_ 1 sc.nd (cf ab))
  (af (bo [2,3] Ig rfl (aJ (vn 0)) (ai 2 sc.nd) (af (al 3 sc.nd (ce Z.len_ (aa (qD ["_law_one", "_law_x"] [none,some 2] rfl (wS 1) (fun _=>(ai 0 (show Iy (["_law_one", "_law_x"]:List Str) by decide +kernel))) (fun _=>dJ (aA gJ gl (av _) (ak (d__law_cmp _) (hr.mono (by decide)) (aa (vn 0) (aa (vn 1) ab))) ac)) (fun _=>(vn 0))) ab)))
  (aj (bO (GN.pb (fQ (aA (dz hr.units) b9 (av _) (vn 3) (ce Z.len_ (aa (vn 1) ab))) (gm (aA (dN hr.units) b9 (av _) (aL (vn 1) (vn 3)) (vn 2))))) (aj (sI 1 (aa (vn 3) (aa (vn 2) ab)))) aK))))
  (aj (ia 1 (ar (vn 1))))))) ?_
 rintro ws Q ⟨qs,rfl,⟨hl,hq⟩,hQ⟩
 refine az ?_
 have sz:=HM
 simp_arith only[ag,ae,Hd]
 refine cy (xs:=qs) (enc:=fr) (fun i ρ=>ρ=[some (.d (.list (qs.map fr))),some (.ml (((qs.take i).foldl stQ []).map fr)),none,none]) rfl rfl ?_ ?_
 · rintro i hi ρ rfl K hK
   have hs:fP (qs.take i) ((qs.take i).foldl stQ []):=im _
   have hlen:=iu hs
   rw[Iz]at hlen
   have hx:=hq _ (Iv hi)
   have fin:∀ρ,fo [2,3] ρ=[some (.d (.list (qs.map fr))),some (.ml ((stQ ((qs.take i).foldl stQ []) qs[i]).map fr)),none,none]->K (.nx ρ):=fun ρ e=>hK _ (bK (by rw[e,HI hi,JD];rfl))
   have hg:∀q∈(qs.take i).foldl stQ [],Gd q:=fun q mq=>hq q (Ka ((hs.2 q).mp mq))
   generalize (qs.take i).foldl stQ []=xs at hs hlen fin hg ⊢
   generalize qs[i]=x at hx fin ⊢
   simp_arith only[ag,ae,Hd,A4]
   refine Ey (fN (xs:=xs) (enc:=fr) (fun y=>if y<x then some (fr y)else none) rfl ?_ (by omega) ?_)
   · intro y my
     have y60:EN 60 y:=(hg y my).1.mono (by decide)
     have x60:EN 60 x:=hx.1.mono (by decide)
     simp_arith only[ag,ae,FB,aS.eq6,gU]
     by_cases c:y<x<;>simp[c]
   have ek:(xs.filterMap fun y=>if y<x then some (fr y)else none).length=(xs.filter (· < x)).length:=by rw[se,Hu]
   rw[ek]
   have kl:(xs.filter (· < x)).length<=xs.length:=JJ ..
   have est:stQ xs x=if xs[(xs.filter (· < x)).length]?=some x then xs else insAt xs (xs.filter (· < x)).length x:=rfl
   generalize (xs.filter (· < x)).length=k at kl est ⊢
   have eqi:∀i j:Int,HQ (.int i) (.int j)=(i==j):=fun i j=>by simp[HQ]
   have xl:xs.length<sizeLine:=by omega
   have k0:(0:Int)<=(k:Int):=by omega
   have k1:(k:Int)<=(xs.length:Int):=by omega
   have ei:insAt (xs.map fr) k (fr x)=(insAt xs k x).map fr:=by unfold insAt;simp[Iu,K5,Nj]
   have sx:=cF x
   by_cases hk:k=xs.length
   · have e1:((k:Int)==(xs.length:Int))=true:=by simp[hk]
     rw[if_neg (by rw[hk];simp)]at est
     simp_arith only[ag,ae,Hd,Hb,eqi,e1,Ji]
     try rw[ei]
     exact fin _ (by rw[est];rfl)
   · have e1:((k:Int)==(xs.length:Int))=false:=by simp;omega
     have kk:k<xs.length:=by omega
     have e2:atI (xs.map fr) (k:Int)=some (fr xs[k]):=cP (by rw[Ix,HP kk];rfl)
     have sk:=cF xs[k]
     have ev:=mj xs[k] x
     rw[HP kk]at est
     by_cases c:xs[k]=x
     · rw[if_pos (by rw[c])]at est
       have ev1:HQ (fr xs[k]) (fr x)=true:=by rw[ev];simp[c]
       simp_arith only[ag,ae,Hd,Hb,eqi,e1,e2,ev1,Ji]
       exact fin _ (by rw[est];rfl)
     · rw[if_neg (by intro z;exact c (IJ z))]at est
       have ev1:HQ (fr xs[k]) (fr x)=false:=by rw[ev];simp[c]
       simp_arith only[ag,ae,Hd,Hb,eqi,e1,e2,ev1,Ji]
       try rw[ei]
       exact fin _ (by rw[est];rfl)
 · rintro ρ rfl
   rw[HE (Hs _)]
   simp_arith only[ag,ae]
   exact ax hQ
noncomputable def Fq(t:Rat):Hh:=.tuple [.str "to", fr t]
noncomputable def Fu(a b:Rat):Hh:=.tuple [.str "from", fr a,fr b]
noncomputable def Ft(a b:Rat):Hh:=.tuple [.str "round", fr a,fr b]
noncomputable def slF(rs:List Rat):List Hh:=((-1)::rs).flatMap fun a=>(rs++[1]).filterMap fun b=>if a<=b then some (Fu a b)else none
noncomputable def slR(rs:List Rat):List Hh:=(rs++[1]).flatMap fun a=>((-1)::rs).filterMap fun b=>if b<=a then some (Ft a b)else none
noncomputable def sl(f:Nat)(rs:List Rat):List Hh:=if f=0 then(rs++[1]).map Fq else if f=1 then slF rs else slF rs++slR rs
noncomputable def Rs(rs:List Rat):Prop:=rs.length<=8/\∀q∈rs,Gd q
theorem dA{α:Type}{b:Hh->Mo (Option Hh)}{enc:α->Hh}(f:α->Option Hh):∀(xs:List α)(acc:List Hh),(∀x∈xs,b (enc x)=VL.ret (f x))->acc.length+(xs.filterMap f).length<=sizeLine->cw b (xs.map enc) acc=VL.ret (acc++xs.filterMap f)
 | [],acc,_,_=>by simp[cw]
 | x::xs,acc,h,hl=>by
   show FV (b (enc x)) _=_
   rw[h x Hy,bnd_ret]
   cases e:f x with
   | none =>
     have e2:(x::xs).filterMap f=xs.filterMap f:=by rw[IW,e]
     rw[e2]at hl ⊢
     exact dA f xs acc (fun y my=>h y (Ht _ my)) hl
   | some d =>
     have e2:(x::xs).filterMap f=d::xs.filterMap f:=by rw[IW,e]
     rw[e2,HV]at hl
     show FJ (acc.length<sizeLine) (cw b (xs.map enc) (acc++[d]))=_
     rw[dA f xs (acc++[d]) (fun y my=>h y (Ht _ my)) (by rw[HC,Lk];omega),e2,KG]
     exact ag (by omega) _
theorem tK(rs:List Rat):rs.map fr++[fr 1]=(rs++[1]).map fr:=by rw[Iu];rfl
theorem dP(h:Rs rs):∀q∈rs++[1],EN 60 q:=fun q mq=>by
 rcases Ik.mp mq with h'|h'
 · exact(h.2 q h').1.mono (by decide)
 · cases Ie.mp h';exact⟨by decide,by decide⟩
theorem fO(h:Rs rs):∀q∈(-1)::rs,EN 60 q:=fun q mq=>by
 rcases HN.mp mq with rfl|h'
 · exact⟨by decide,by decide⟩
 · exact(h.2 q h').1.mono (by decide)
theorem iI{α β:Type}{n:Nat}{f:α->List β}:∀{l:List α},(∀x∈l,(f x).length<=n)->(l.flatMap f).length<=l.length*n
 | [],_=>by simp
 | x::l,h=>by
   have h1:=h x Hy
   have h2:=iI (l:=l) fun y my=>h y (Ht _ my)
   rw[IB,HC,HV,Nat.succ_mul];omega
theorem iy(h:rs.length<=8):(slF rs).length<=81:=HX (iI (n:=9) fun a _=>HX (IK ..) (by simp;omega)) (by simp;omega)
theorem lH(h:rs.length<=8):(slR rs).length<=81:=HX (iI (n:=9) fun a _=>HX (IK ..) (by simp;omega)) (by simp;omega)
noncomputable def ck(f:Fin 3):Str:=sg f.val
theorem cS{a b:Fin 3}:ck a=ck b↔a=b:=by revert a b;decide +kernel
theorem zm:∀f:Fin 3,f=0\/f=1\/f=2:=by decide
noncomputable def bU:List W->(Hh->Prop)->Prop:=fun ws Q=>∃(rs:List Rat)(f:Fin 3),ws=[.d (EQ rs),.d (.str (ck f))]/\((Rs rs))/\Q (.list (sl f.val rs))
theorem bU.mono:∀ws (Q Q':Hh->Prop),(∀d,Q d->Q' d)->bU ws Q->bU ws Q':=fun _ _ _ h_=>HA fun _=>HA fun _=>Hn (Hn (h_ _))
theorem bU.len:∀ws (Q:Hh->Prop),bU ws Q->ws.length=2:=fun _ _ h_=>by obtain⟨_,_,e_,_⟩:=h_;subst e_;rfl
theorem bU.eq(rs:List Rat)(f:Fin 3)(hr:Rs rs):bU [.d (EQ rs),.d (.str (ck f))]=VL.ret (.list (sl f.val rs):Hh):=by
 refine ah fun Q=>⟨?_,fun q_=>⟨rs,f,rfl,hr,q_⟩⟩
 rintro⟨rs',f',e_,_,q_⟩
 simp_arith only[cM,br,bv,aE,aH,bG,cS]at e_
 obtain⟨rfl,rfl⟩:=e_
 exact q_
theorem i3:FnScope ["numbers", "family", "ends", "begins", "inner"] ["numbers", "family"] (defScope (Ee 26)):=⟨rfl,rfl,rfl,by decide +kernel,rfl,by decide +kernel,by decide +kernel⟩
theorem d_side_looks(Fn:FnIn K mg "side_looks" (Ee 26) ["numbers", "family"])(Z:Bz mg)(d_is_below:∀rl,Dfn P w K mg base rl "is_below" ["one", "other"] 1 bq)(gl_ONE:GlD K mg "ONE" (pr 1 1))(gl_BELOW_ALL:GlD K mg "BELOW_ALL" (.tuple [.int (-1),.int 1]))  : Dfn P w K mg base rl "side_looks" ["numbers", "family"] 2 bU:=by
 have sc:=i3
 refine Dfn.of Fn sc (bU.mono) (bU.len) (fun cdv A outer s H E hr=>(af (al 2 sc.nd (ig (iX Z.list_ (aa (vn 0) ab)) (cf (aa (eA gl_ONE) ab))))
  (af (bO (aA dF cx (av _) (vn 1) aD) (aj (ar (bc ["end"] [none] rfl (aJ (vn 2)) (fun _=>(ai 0 (show Iy (["end"]:List Str) by decide +kernel))) (fun _=>b8) (fun _=>(bp (aa aD (aa (vn 0) ab))))))) aK)
  (af (al 3 sc.nd (ig (cf (aa (eA gl_BELOW_ALL) ab)) (iX Z.list_ (aa (vn 0) ab))))
  (af (gi 4 sc.nd ["a", "b", "ends"] [none,none,some 2] rfl (aJ (vn 3)) (fun _=>(ai 0 (show Iy (["a", "b", "ends"]:List Str) by decide +kernel))) (fun _=>b8) (fun _=>(aJ (vn 2))) (fun _=>(ai 1 (show Iy (["a", "b", "ends"]:List Str) by decide +kernel))) (fun _=>dJ (fx (cu (ak (d_is_below _) (hr.mono (by decide)) (aa (vn 1) (aa (vn 0) ab)))))) (fun _=>(bp (aa aD (aa (vn 0) (aa (vn 1) ab))))))
  (af (bO (aA dF cx (av _) (vn 1) aD) (aj (ar (vn 4))) aK)
  (aj (ar (ig (vn 4) (qE ["a", "b", "begins"] [none,none,some 3] rfl (aJ (vn 2)) (fun _=>(ai 0 (show Iy (["a", "b", "begins"]:List Str) by decide +kernel))) (fun _=>b8) (fun _=>(aJ (vn 2))) (fun _=>(ai 1 (show Iy (["a", "b", "begins"]:List Str) by decide +kernel))) (fun _=>dJ (fx (cu (ak (d_is_below _) (hr.mono (by decide)) (aa (vn 0) (aa (vn 1) ab)))))) (fun _=>(bp (aa aD (aa (vn 0) (aa (vn 1) ab))))))))))))))) ?_
 rintro ws Q ⟨rs,f,rfl,hr,hQ⟩
 refine az ?_
 have sz:=HM
 have q1:decide (Hi "inner" = Hi "corner")=false:=by decide +kernel
 have q2:decide (Hi "round" = Hi "corner")=false:=by decide +kernel
 have q3:decide (Hi "round" = Hi "inner")=false:=by decide +kernel
 have q4:decide (Hi "corner" = Hi "corner")=true:=by decide +kernel
 have q5:decide (Hi "inner" = Hi "inner")=true:=by decide +kernel
 have q6:decide (Hi "corner" = Hi "round")=false:=by decide +kernel
 have q7:decide (Hi "inner" = Hi "round")=false:=by decide +kernel
 have q8:decide (Hi "round" = Hi "round")=true:=by decide +kernel
 have f0:ck 0=Hi "corner" := rfl
 have f1:ck 1=Hi "inner" := rfl
 have f2:ck 2=Hi "round" := rfl
 have l8:=hr.1
 have g1:rs.length+1<=sizeLine:=by omega
 have em:rs.map fr++[fr 1]=(rs++[1]).map fr:=tK rs
 have eb:Io [HB (-1),HB 1]::rs.map fr=((-1)::rs).map fr:=rfl
 have nlt:∀a b:Rat,(!decide (b<a))=decide (a<=b):=fun a b=>by
  by_cases c:a<=b
  · have:=Jx.mpr c;simp[c,this]
  · have:=Nn.mp c;simp[c,this]
 obtain rfl|rfl|rfl:=zm f
 · simp_arith only[ag,ae,Hd,q1,q2,q3,q4,q5,q6,q7,q8,f0,f1,f2]
   refine Ey (bH (xs:=rs++[1]) (enc:=fr) Fq em ?_ (by simp;omega) ?_)
   · intro e me
     simp_arith only[ag,ae,FB]
     rfl
   · simp_arith only[ag,ae]
     exact i8 hQ
 · simp_arith only[ag,ae,Hd,q1,q2,q3,q4,q5,q6,q7,q8,f0,f1,f2,m_comp2]
   refine Ey ?_
   rw[eb]
   refine sF (xs:=(-1)::rs) (enc:=fr) (fun a=>(rs++[1]).filterMap fun b=>if a<=b then some (Fu a b)else none) rfl ?_ ?_ ?_
   · intro a ma acc hl
     simp_arith only[ag,ae,pI]
     rw[em]
     refine(dA (enc:=fr) (fun b=>if a<=b then some (Fu a b)else none) (rs++[1]) acc ?_ hl).trans rfl
     intro b mb
     have h1:EN 2000 a:=(fO hr a ma).mono (by decide)
     have h2:EN 2000 b:=(dP hr b mb).mono (by decide)
     simp_arith only[ag,ae,FB,bq.eq,nlt]
     by_cases c:a<=b<;>simp[c,Fu]
   · exact HX (iy l8) (by omega)
   · simp_arith only[ag,ae,Hd,q1,q2,q3,q4,q5,q6,q7,q8,f0,f1,f2]
     exact ax hQ
 · simp_arith only[ag,ae,Hd,q1,q2,q3,q4,q5,q6,q7,q8,f0,f1,f2,m_comp2]
   refine Ey ?_
   rw[eb]
   refine sF (xs:=(-1)::rs) (enc:=fr) (fun a=>(rs++[1]).filterMap fun b=>if a<=b then some (Fu a b)else none) rfl ?_ ?_ ?_
   · intro a ma acc hl
     simp_arith only[ag,ae,pI]
     rw[em]
     refine(dA (enc:=fr) (fun b=>if a<=b then some (Fu a b)else none) (rs++[1]) acc ?_ hl).trans rfl
     intro b mb
     have h1:EN 2000 a:=(fO hr a ma).mono (by decide)
     have h2:EN 2000 b:=(dP hr b mb).mono (by decide)
     simp_arith only[ag,ae,FB,bq.eq,nlt]
     by_cases c:a<=b<;>simp[c,Fu]
   · exact HX (iy l8) (by omega)
   · simp_arith only[ag,ae,Hd,q1,q2,q3,q4,q5,q6,q7,q8,f0,f1,f2,m_comp2]
     rw[em]
     refine sF (xs:=rs++[1]) (enc:=fr) (fun a=>((-1)::rs).filterMap fun b=>if b<=a then some (Ft a b)else none) rfl ?_ ?_ ?_
     · intro a ma acc hl
       simp_arith only[ag,ae,pI]
       try rw[eb]
       refine(dA (enc:=fr) (fun b=>if b<=a then some (Ft a b)else none) ((-1)::rs) acc ?_ hl).trans rfl
       intro b mb
       have h1:EN 2000 a:=(dP hr a ma).mono (by decide)
       have h2:EN 2000 b:=(fO hr b mb).mono (by decide)
       simp_arith only[ag,ae,FB,bq.eq,nlt]
       by_cases c:b<=a<;>simp[c,Ft]
     · exact HX (lH l8) (by omega)
     · have hF:=iy l8
       have hR:=lH l8
       unfold slF at hF
       unfold slR at hR
       exact cj (by omega) (i8 hQ)
noncomputable def inr(n:Int):Int:=((n+1)*(n+2)).fdiv 2+n
noncomputable def E5(f:Nat)(n:Int):Int:=if f=0 then n+1 else if f=1 then inr n else 2*inr n
noncomputable def E9(f:Nat)(ps:List (List Rat))(d:Nat):Int:=(Ip d).foldl (fun m j=>m*E5 f ((nuQ ps j).length:Nat)) 1
theorem jd(f:Nat)(ps:List (List Rat))(d:Nat):E9 f ps (d+1)=E9 f ps d*E5 f ((nuQ ps d).length:Nat):=by unfold E9;rw[List.range_succ,JD];rfl
theorem zc{n:Int}(h0:0<=n)(h8:n<=8):0<=inr n/\inr n<=100:=by
 unfold inr
 have:n=0\/n=1\/n=2\/n=3\/n=4\/n=5\/n=6\/n=7\/n=8:=by omega
 rcases this with rfl|rfl|rfl|rfl|rfl|rfl|rfl|rfl|rfl<;>decide
theorem tp{n:Int}(h0:0<=n)(h8:n<=8):0<=E5 f n/\E5 f n<=200:=by
 have:=zc h0 h8
 unfold E5
 split
 · omega
 · split<;>omega
noncomputable def GA(ps:List (List Rat)):Prop:=Pw ps/\∀j,j<dimP ps->Rs (nuQ ps j)
noncomputable def aM:List W->(Hh->Prop)->Prop:=fun ws Q=>∃(n:Int)(f:Fin 3),ws=[.d (.int n),.d (.str (ck f))]/\((0<=n)/\(n<=8))/\Q (.int (E5 f.val n))
theorem aM.mono:∀ws (Q Q':Hh->Prop),(∀d,Q d->Q' d)->aM ws Q->aM ws Q':=fun _ _ _ h_=>HA fun _=>HA fun _=>Hn (Hn (h_ _))
theorem aM.len:∀ws (Q:Hh->Prop),aM ws Q->ws.length=2:=fun _ _ h_=>by obtain⟨_,_,e_,_⟩:=h_;subst e_;rfl
theorem aM.eq(n:Int)(f:Fin 3)(n0:0<=n)(n8:n<=8):aM [.d (.int n),.d (.str (ck f))]=VL.ret (.int (E5 f.val n):Hh):=by
 refine ah fun Q=>⟨?_,fun q_=>⟨n,f,rfl,⟨n0,n8⟩,q_⟩⟩
 rintro⟨n',f',e_,_,q_⟩
 simp_arith only[cM,br,bv,aE,aH,bG,cS]at e_
 obtain⟨rfl,rfl⟩:=e_
 exact q_
theorem eF:FnScope ["many", "family", "inner"] ["many", "family"] (defScope (Ee 27)):=⟨rfl,rfl,rfl,by decide +kernel,rfl,by decide +kernel,by decide +kernel⟩
theorem d_many_side_looks(Fn:FnIn K mg "many_side_looks" (Ee 27) ["many", "family"])(Z:Bz mg)    : Dfn P w K mg base rl "many_side_looks" ["many", "family"] 1 aM:=by
 have sc:=eF
 refine Dfn.of Fn sc (aM.mono) (aM.len) (fun cdv A outer s H E hr=>(af (bO (aA dF cx (av _) (vn 1) aD) (aj (ar (v_add (vn 0) ac))) aK)
  (af (al 2 sc.nd (v_add (v_div (v_mul (v_add (vn 0) ac) (v_add (vn 0) ac)) ac) (vn 0)))
  (aj (ar (gt (aA dF cx (av _) (vn 1) aD) (vn 2) (v_mul ac (vn 2)))))))) ?_
 rintro ws Q ⟨n,f,rfl,⟨n0,n8⟩,hQ⟩
 refine az ?_
 have q1:decide (Hi "inner" = Hi "corner")=false:=by decide +kernel
 have q2:decide (Hi "round" = Hi "corner")=false:=by decide +kernel
 have q3:decide (Hi "round" = Hi "inner")=false:=by decide +kernel
 have q4:decide (Hi "corner" = Hi "corner")=true:=by decide +kernel
 have q5:decide (Hi "inner" = Hi "inner")=true:=by decide +kernel
 have q6:decide (Hi "corner" = Hi "round")=false:=by decide +kernel
 have q7:decide (Hi "inner" = Hi "round")=false:=by decide +kernel
 have q8:decide (Hi "round" = Hi "round")=true:=by decide +kernel
 have f0:ck 0=Hi "corner" := rfl
 have f1:ck 1=Hi "inner" := rfl
 have f2:ck 2=Hi "round" := rfl
 have c1:aV (n+1) (n+2):=.lt (by omega)
 have c2:aV 2 (inr n):=.lt (by decide)
 have d2:fX ((n+1)*(n+2)) 2:=fX.of (by decide) (by decide)
 have ei:((n+1)*(n+2)).fdiv 2+n=inr n:=rfl
 obtain rfl|rfl|rfl:=zm f
 · simp_arith only[ag,ae,q1,q2,q3,q4,q5,q6,q7,q8,f0,f1,f2]
   exact ax hQ
 · simp_arith only[ag,ae,q1,q2,q3,q4,q5,q6,q7,q8,f0,f1,f2,ei]
   exact ax hQ
 · simp_arith only[ag,ae,q1,q2,q3,q4,q5,q6,q7,q8,f0,f1,f2,ei]
   exact ax hQ
noncomputable def bV:List W->(Hh->Prop)->Prop:=fun ws Q=>∃(ps:List (List Rat))(f:Fin 3),ws=[.d (ptsQ ps),.d (.str (ck f))]/\((GA ps))/\Q (.int (E9 f.val ps (dimP ps)))
theorem bV.mono:∀ws (Q Q':Hh->Prop),(∀d,Q d->Q' d)->bV ws Q->bV ws Q':=fun _ _ _ h_=>HA fun _=>HA fun _=>Hn (Hn (h_ _))
theorem bV.len:∀ws (Q:Hh->Prop),bV ws Q->ws.length=2:=fun _ _ h_=>by obtain⟨_,_,e_,_⟩:=h_;subst e_;rfl
theorem bV.eq(ps:List (List Rat))(f:Fin 3)(hw:GA ps):bV [.d (ptsQ ps),.d (.str (ck f))]=VL.ret (.int (E9 f.val ps (dimP ps)):Hh):=by
 refine ah fun Q=>⟨?_,fun q_=>⟨ps,f,rfl,hw,q_⟩⟩
 rintro⟨ps',f',e_,_,q_⟩
 simp_arith only[cM,br,bv,aE,aH,bG,cS]at e_
 obtain⟨rfl,rfl⟩:=e_
 exact q_
theorem i5:FnScope ["points", "family", "many", "side"] ["points", "family"] (defScope (Ee 28)):=⟨rfl,rfl,rfl,by decide +kernel,rfl,by decide +kernel,by decide +kernel⟩
theorem d_many_looks(Fn:FnIn K mg "many_looks" (Ee 28) ["points", "family"])(Z:Bz mg)(d_sides_of:∀rl,Dfn P w K mg base rl "sides_of" ["points"] 1 cc)(d_many_side_looks:∀rl,Dfn P w K mg base rl "many_side_looks" ["many", "family"] 1 aM)(d_numbers_at:∀rl,Dfn P w K mg base rl "numbers_at" ["points", "side"] 2 bu)   : Dfn P w K mg base rl "many_looks" ["points", "family"] 3 bV:=by
 have sc:=i5
 refine Dfn.of Fn sc (bV.mono) (bV.len) (fun cdv A outer s H E hr=>(af (al 2 sc.nd ac)
  (af (bo [3] Ig rfl (bT Z.range_ (aa (ak (d_sides_of _) (hr.mono (by decide)) (aa (vn 0) ab)) ab)) (ai 3 sc.nd) (aj (wN 2 sc.nd vR (ak (d_many_side_looks _) (hr.mono (by decide)) (aa (ce Z.len_ (aa (ak (d_numbers_at _) (hr.mono (by decide)) (aa (vn 0) (aa (vn 3) ab))) ab)) (aa (vn 1) ab))))))
  (aj (ar (vn 2)))))) ?_
 rintro ws Q ⟨ps,f,rfl,hw,hQ⟩
 refine az ?_
 have sz:=HM
 obtain⟨h,hN⟩:=hw
 have h1:=h.1
 have d4:=h.2.2.2.2
 have gn : -(2^62)<=((dimP ps:Nat):Int)/\((dimP ps:Nat):Int)<2^62:=by omega
 simp_arith only[ag,ae,cc.eq]
 refine jg (fun i ρ=>ρ=[some (.d (ptsQ ps)),some (.d (.str (ck f))),some (.d (.int (E9 f.val ps i))),none]) rfl ?_ ?_
 · rintro i hi ρ rfl K hK
   have j0:0<=0+(i:Int):=by omega
   have jl:0+(i:Int)<dimP ps:=by omega
   have hr:=hN i hi
   have et:(0+(i:Int)).toNat=i:=by omega
   have n0:(0:Int)<=((nuQ ps i).length:Nat):=by omega
   have n8:((nuQ ps i).length:Int)<=8:=by have:=hr.1;omega
   have cm:∀x:Int,aV x (E5 f.val ((nuQ ps i).length:Nat)):=fun x=>.rt (by have:=tp (f:=f.val) n0 n8;omega)
   simp_arith only[ag,ae,Hd,bu.eq,aM.eq,et,cm]
   exact hK _ (bK (by rw[jd];rfl))
 · rintro ρ rfl
   simp_arith only[ag,ae]
   exact ax hQ
noncomputable def aY:List W->(Hh->Prop)->Prop:=fun ws Q=>∃(ps:List (List Rat))(f:Fin 3),ws=[.d (ptsQ ps),.d (.str (ck f))]/\((GA ps)/\(E9 f.val ps (dimP ps)<=3000))/\Q (.list ((Ip (dimP ps)).map fun j=>Ks (sl f.val (nuQ ps j))))
theorem aY.mono:∀ws (Q Q':Hh->Prop),(∀d,Q d->Q' d)->aY ws Q->aY ws Q':=fun _ _ _ h_=>HA fun _=>HA fun _=>Hn (Hn (h_ _))
theorem aY.len:∀ws (Q:Hh->Prop),aY ws Q->ws.length=2:=fun _ _ h_=>by obtain⟨_,_,e_,_⟩:=h_;subst e_;rfl
theorem aY.eq(ps:List (List Rat))(f:Fin 3)(hw:GA ps)(hm:E9 f.val ps (dimP ps)<=3000):aY [.d (ptsQ ps),.d (.str (ck f))]=VL.ret (.list ((Ip (dimP ps)).map fun j=>Ks (sl f.val (nuQ ps j))):Hh):=by
 refine ah fun Q=>⟨?_,fun q_=>⟨ps,f,rfl,⟨hw,hm⟩,q_⟩⟩
 rintro⟨ps',f',e_,_,q_⟩
 simp_arith only[cM,br,bv,aE,aH,bG,cS]at e_
 obtain⟨rfl,rfl⟩:=e_
 exact q_
theorem fS:FnScope ["points", "family"] ["points", "family"] (defScope (Ee 29)):=⟨rfl,rfl,rfl,by decide +kernel,rfl,by decide +kernel,by decide +kernel⟩
theorem d_looks_by_side(Fn:FnIn K mg "looks_by_side" (Ee 29) ["points", "family"])(Z:Bz mg)(d_many_looks:∀rl,Dfn P w K mg base rl "many_looks" ["points", "family"] 3 bV)(d_side_looks:∀rl,Dfn P w K mg base rl "side_looks" ["numbers", "family"] 2 bU)(d_numbers_at:∀rl,Dfn P w K mg base rl "numbers_at" ["points", "side"] 2 bu)(d_sides_of:∀rl,Dfn P w K mg base rl "sides_of" ["points"] 1 cc)(gl_MOST_LOOKS:GlD K mg "MOST_LOOKS" (.int 3000))  : Dfn P w K mg base rl "looks_by_side" ["points", "family"] 4 aY:=by
 have sc:=fS
 refine Dfn.of Fn sc (aY.mono) (aY.len) (fun cdv A outer s H E hr=>(af (bO (aA m_ mL (av _) (ak (d_many_looks _) (hr.mono (by decide)) (aa (vn 0) (aa (vn 1) ab))) (eA gl_MOST_LOOKS)) (aj lB) aK)
  (aj (ar (bc ["side", "points", "family"] [none,some 0,some 1] rfl (bT Z.range_ (aa (ak (d_sides_of _) (hr.mono (by decide)) (aa (vn 0) ab)) ab)) (fun _=>(ai 0 (show Iy (["side", "points", "family"]:List Str) by decide +kernel))) (fun _=>b8) (fun _=>(ak (d_side_looks _) (hr.mono (by decide)) (aa (ak (d_numbers_at _) (hr.mono (by decide)) (aa (vn 1) (aa (vn 0) ab))) (aa (vn 2) ab))))))))) ?_
 rintro ws Q ⟨ps,f,rfl,⟨hw,hm⟩,hQ⟩
 refine az ?_
 have sz:=HM
 obtain⟨h,hN⟩:=id hw
 have h1:=h.1
 have d4:=h.2.2.2.2
 have gn : -(2^62)<=((dimP ps:Nat):Int)/\((dimP ps:Nat):Int)<2^62:=by omega
 have dm:decide (3000<E9 f.val ps (dimP ps))=false:=by simp;omega
 simp_arith only[ag,ae,bV.eq,cc.eq,dm]
 refine mB (fun j=>Ks (sl f.val (nuQ ps j))) ?_ (by omega) ?_
 · intro j hj
   have j0:0<=0+(j:Int):=by omega
   have jl:0+(j:Int)<dimP ps:=by omega
   have et:(0+(j:Int)).toNat=j:=by omega
   have hr:=hN j hj
   simp_arith only[ag,ae,FB,bu.eq,bU.eq,et]
 · exact i8 hQ
theorem qf{rows:List (List α)}(h:i<rows.length):chP (rows.take (i+1))=(chP (rows.take i)).flatMap fun b=>rows[i].map fun t=>b++[t]:=by rw[HI h,mC]
noncomputable def kO(f:Nat)(ps:List (List Rat)):List (List Hh):=(Ip (dimP ps)).map fun j=>sl f (nuQ ps j)
noncomputable def aN:List W->(Hh->Prop)->Prop:=fun ws Q=>∃(rs:List Rat)(f:Fin 3),ws=[.d (.list (rs.map fr)),.d (.str (ck f))]/\((Rs rs))/\Q (.list (sl f.val rs))
theorem aN.mono:∀ws (Q Q':Hh->Prop),(∀d,Q d->Q' d)->aN ws Q->aN ws Q':=fun _ _ _ h_=>HA fun _=>HA fun _=>Hn (Hn (h_ _))
theorem aN.len:∀ws (Q:Hh->Prop),aN ws Q->ws.length=2:=fun _ _ h_=>by obtain⟨_,_,e_,_⟩:=h_;subst e_;rfl
theorem aN.eq(rs:List Rat)(f:Fin 3)(hr:Rs rs):aN [.d (.list (rs.map fr)),.d (.str (ck f))]=VL.ret (.list (sl f.val rs):Hh):=by
 refine ah fun Q=>⟨?_,fun q_=>⟨rs,f,rfl,hr,q_⟩⟩
 rintro⟨rs',f',e_,_,q_⟩
 simp_arith only[cM,br,bv,aE,aH,bG,pP,cS]at e_
 obtain⟨rfl,rfl⟩:=e_
 exact q_
theorem eG:FnScope ["_law_numbers", "_law_family", "_law_lasts", "_law_firsts", "_law_found", "_law_a"] ["_law_numbers", "_law_family"] (defScope (Ee 46)):=⟨rfl,rfl,rfl,by decide +kernel,rfl,by decide +kernel,by decide +kernel⟩
theorem d__law_side_looks(Fn:FnIn K mg "_law_side_looks" (Ee 46) ["_law_numbers", "_law_family"])(Z:Bz mg)(d__law_cmp:∀rl,Dfn P w K mg base rl "_law_cmp" ["_law_one", "_law_other"] 1 aS)   : Dfn P w K mg base rl "_law_side_looks" ["_law_numbers", "_law_family"] 2 aN:=by
 have sc:=eG
 refine Dfn.of Fn sc (aN.mono) (aN.len) (fun cdv A outer s H E hr=>(af (al 2 sc.nd (ig (vn 0) (cf (aa (bp (aa ac (aa ac ab))) ab))))
  (af (bO (aA dF cx (av _) (vn 1) aD) (aj (ar (bc ["_law_t"] [none] rfl (aJ (vn 2)) (fun _=>(ai 0 (show Iy (["_law_t"]:List Str) by decide +kernel))) (fun _=>b8) (fun _=>(bp (aa aD (aa (vn 0) ab))))))) aK)
  (af (al 3 sc.nd (ig (cf (aa (bp (aa (nN ac) (aa ac ab))) ab)) (vn 0)))
  (af (d_ 4 sc.nd (cf ab))
  (af (bo [5] Ig rfl (aJ (vn 3)) (ai 5 sc.nd) (aj (sJ 4 (aa (bc ["_law_b", "_law_a"] [none,some 5] rfl (aJ (vn 2)) (fun _=>(ai 0 (show Iy (["_law_b", "_law_a"]:List Str) by decide +kernel))) (fun _=>dJ (aA rq wO (av _) (ak (d__law_cmp _) (hr.mono (by decide)) (aa (vn 1) (aa (vn 0) ab))) ac)) (fun _=>(bp (aa aD (aa (vn 1) (aa (vn 0) ab)))))) ab))))
  (af (bO (aA dF cx (av _) (vn 1) aD) (aj (bo [5] Ig rfl (aJ (vn 2)) (ai 5 sc.nd) (aj (sJ 4 (aa (bc ["_law_b", "_law_a"] [none,some 5] rfl (aJ (vn 3)) (fun _=>(ai 0 (show Iy (["_law_b", "_law_a"]:List Str) by decide +kernel))) (fun _=>dJ (aA rq wO (av _) (ak (d__law_cmp _) (hr.mono (by decide)) (aa (vn 0) (aa (vn 1) ab))) ac)) (fun _=>(bp (aa aD (aa (vn 1) (aa (vn 0) ab)))))) ab))))) aK)
  (aj (ia 4 (ar (vn 4))))))))))) ?_
 rintro ws Q ⟨rs,f,rfl,hr,hQ⟩
 refine az ?_
 have sz:=HM
 have q1:decide (Hi "inner" = Hi "corner")=false:=by decide +kernel
 have q2:decide (Hi "round" = Hi "corner")=false:=by decide +kernel
 have q3:decide (Hi "round" = Hi "inner")=false:=by decide +kernel
 have q4:decide (Hi "corner" = Hi "corner")=true:=by decide +kernel
 have q5:decide (Hi "inner" = Hi "inner")=true:=by decide +kernel
 have q6:decide (Hi "corner" = Hi "round")=false:=by decide +kernel
 have q7:decide (Hi "inner" = Hi "round")=false:=by decide +kernel
 have q8:decide (Hi "round" = Hi "round")=true:=by decide +kernel
 have f0:ck 0=Hi "corner" := rfl
 have f1:ck 1=Hi "inner" := rfl
 have f2:ck 2=Hi "round" := rfl
 have l8:=hr.1
 have g1:rs.length+1<=sizeLine:=by omega
 have em:rs.map fr++[Io [HB 1,HB 1]]=(rs++[1]).map fr:=tK rs
 have eb:Io [HB (-1),HB 1]::rs.map fr=((-1)::rs).map fr:=rfl
 have e9:(((-1)::rs).flatMap fun a=>(rs++[1]).filterMap fun b=>if a<=b then some (Fu a b)else none)=slF rs:=rfl
 have e8:((rs++[1]).flatMap fun a=>((-1)::rs).filterMap fun b=>if b<=a then some (Ft a b)else none)=slR rs:=rfl
 obtain rfl|rfl|rfl:=zm f
 · simp_arith only[ag,ae,Hd,q1,q2,q3,q4,q5,q6,q7,q8,f0,f1,f2]
   refine Ey (bH (xs:=rs++[1]) (enc:=fr) Fq em ?_ (by simp;omega) ?_)
   · intro e me
     simp_arith only[ag,ae,FB]
     rfl
   · simp_arith only[ag,ae]
     exact i8 hQ
 · simp_arith only[ag,ae,Hd,q1,q2,q3,q4,q5,q6,q7,q8,f0,f1,f2]
   refine cy (xs:=(-1)::rs) (enc:=fr) (fun i ρ=>ρ=[some (.d (.list (rs.map fr))),some (.d (.str (Hi "inner"))),some (.d (.list (rs.map fr++[Io [HB 1,HB 1]]))),some (.d (.list (Io [HB (-1),HB 1]::rs.map fr))),some (.ml ((((-1)::rs).take i).flatMap fun a=>(rs++[1]).filterMap fun b=>if a<=b then some (Fu a b)else none)),none]) rfl rfl ?_ ?_
   · rintro i hi ρ rfl K hK
     have ma:((-1)::rs)[i]∈(-1)::rs:=Iv hi
     have tl:((((-1)::rs).take i).flatMap fun a=>(rs++[1]).filterMap fun b=>if a<=b then some (Fu a b)else none).length<=81:=HX (iI (n:=9) fun a _=>HX (IK ..) (by simp;omega)) (by rw[Iz];simp;omega)
     have fl:(((rs++[1]).filterMap fun b=>if((-1)::rs)[i]<=b then some (Fu ((-1)::rs)[i] b)else none)).length<=9:=HX (IK ..) (by simp;omega)
     have fin:K (.nx [some (.d (.list (rs.map fr))),some (.d (.str (Hi "inner"))),some (.d (.list (rs.map fr++[Io [HB 1,HB 1]]))),some (.d (.list (Io [HB (-1),HB 1]::rs.map fr))),some (.ml (((((-1)::rs).take i).flatMap fun a=>(rs++[1]).filterMap fun b=>if a<=b then some (Fu a b)else none)++((rs++[1]).filterMap fun b=>if((-1)::rs)[i]<=b then some (Fu ((-1)::rs)[i] b)else none))),some (.d (fr ((-1)::rs)[i]))]):=hK _ (bK (by rw[HI hi,JE,J3];simp[fo]))
     generalize ((-1)::rs)[i]=a at ma fl fin ⊢
     simp_arith only[ag,ae]
     refine fN (xs:=rs++[1]) (enc:=fr) (fun b=>if a<=b then some (Fu a b)else none) em ?_ (by simp;omega) ?_
     · intro b mb
       have h1:=fO hr a ma
       have h2:=dP hr b mb
       simp_arith only[ag,ae,FB,aS.eq6,qb]
       by_cases c:a<=b<;>simp[c,Fu]
     · exact cj (by(try simp only[HC]);omega) fin
   · rintro ρ rfl
     rw[HE (Hs _)]
     rw[e9]
     simp_arith only[ag,ae,q1,q2,q3,q4,q5,q6,q7,q8,f0,f1,f2]
     exact ax hQ
 · simp_arith only[ag,ae,Hd,q1,q2,q3,q4,q5,q6,q7,q8,f0,f1,f2]
   refine cy (xs:=(-1)::rs) (enc:=fr) (fun i ρ=>ρ=[some (.d (.list (rs.map fr))),some (.d (.str (Hi "round"))),some (.d (.list (rs.map fr++[Io [HB 1,HB 1]]))),some (.d (.list (Io [HB (-1),HB 1]::rs.map fr))),some (.ml ((((-1)::rs).take i).flatMap fun a=>(rs++[1]).filterMap fun b=>if a<=b then some (Fu a b)else none)),none]) rfl rfl ?_ ?_
   · rintro i hi ρ rfl K hK
     have ma:((-1)::rs)[i]∈(-1)::rs:=Iv hi
     have tl:((((-1)::rs).take i).flatMap fun a=>(rs++[1]).filterMap fun b=>if a<=b then some (Fu a b)else none).length<=81:=HX (iI (n:=9) fun a _=>HX (IK ..) (by simp;omega)) (by rw[Iz];simp;omega)
     have fl:(((rs++[1]).filterMap fun b=>if((-1)::rs)[i]<=b then some (Fu ((-1)::rs)[i] b)else none)).length<=9:=HX (IK ..) (by simp;omega)
     have fin:K (.nx [some (.d (.list (rs.map fr))),some (.d (.str (Hi "round"))),some (.d (.list (rs.map fr++[Io [HB 1,HB 1]]))),some (.d (.list (Io [HB (-1),HB 1]::rs.map fr))),some (.ml (((((-1)::rs).take i).flatMap fun a=>(rs++[1]).filterMap fun b=>if a<=b then some (Fu a b)else none)++((rs++[1]).filterMap fun b=>if((-1)::rs)[i]<=b then some (Fu ((-1)::rs)[i] b)else none))),some (.d (fr ((-1)::rs)[i]))]):=hK _ (bK (by rw[HI hi,JE,J3];simp[fo]))
     generalize ((-1)::rs)[i]=a at ma fl fin ⊢
     simp_arith only[ag,ae]
     refine fN (xs:=rs++[1]) (enc:=fr) (fun b=>if a<=b then some (Fu a b)else none) em ?_ (by simp;omega) ?_
     · intro b mb
       have h1:=fO hr a ma
       have h2:=dP hr b mb
       simp_arith only[ag,ae,FB,aS.eq6,qb]
       by_cases c:a<=b<;>simp[c,Fu]
     · exact cj (by(try simp only[HC]);omega) fin
   · rintro ρ rfl
     rw[HE (Hs _)]
     rw[e9]
     simp_arith only[ag,ae,q1,q2,q3,q4,q5,q6,q7,q8,f0,f1,f2]
     refine cy (xs:=rs++[1]) (enc:=fr) (fun i ρ=>ρ=[some (.d (.list (rs.map fr))),some (.d (.str (Hi "round"))),some (.d (.list (rs.map fr++[Io [HB 1,HB 1]]))),some (.d (.list (Io [HB (-1),HB 1]::rs.map fr))),some (.ml (slF rs++((rs++[1]).take i).flatMap fun a=>((-1)::rs).filterMap fun b=>if b<=a then some (Ft a b)else none)),none]) em (by simp) ?_ ?_
     · rintro i hi ρ rfl K hK
       have ma:(rs++[1])[i]∈rs++[1]:=Iv hi
       have pl:=iy l8
       have tl:(((rs++[1]).take i).flatMap fun a=>((-1)::rs).filterMap fun b=>if b<=a then some (Ft a b)else none).length<=81:=HX (iI (n:=9) fun a _=>HX (IK ..) (by simp;omega)) (by rw[Iz];simp;omega)
       have fl:((((-1)::rs).filterMap fun b=>if b<=(rs++[1])[i]then some (Ft (rs++[1])[i] b)else none)).length<=9:=HX (IK ..) (by simp;omega)
       have fin:K (.nx [some (.d (.list (rs.map fr))),some (.d (.str (Hi "round"))),some (.d (.list (rs.map fr++[Io [HB 1,HB 1]]))),some (.d (.list (Io [HB (-1),HB 1]::rs.map fr))),some (.ml ((slF rs++((rs++[1]).take i).flatMap fun a=>((-1)::rs).filterMap fun b=>if b<=a then some (Ft a b)else none)++(((-1)::rs).filterMap fun b=>if b<=(rs++[1])[i]then some (Ft (rs++[1])[i] b)else none))),some (.d (fr (rs++[1])[i]))]):=hK _ (bK (by rw[HI hi,JE,J3];simp[fo]))
       generalize (rs++[1])[i]=a at ma fl fin ⊢
       simp_arith only[ag,ae]
       refine fN (xs:=(-1)::rs) (enc:=fr) (fun b=>if b<=a then some (Ft a b)else none) eb ?_ (by simp;omega) ?_
       · intro b mb
         have h1:=dP hr a ma
         have h2:=fO hr b mb
         simp_arith only[ag,ae,FB,aS.eq6,qb]
         by_cases c:b<=a<;>simp[c,Ft]
       · exact cj (by(try simp only[HC]);omega) fin
     · rintro ρ rfl
       rw[HE (Hs _)]
       rw[e8]
       simp_arith only[ag,ae,q1,q2,q3,q4,q5,q6,q7,q8,f0,f1,f2]
       exact ax hQ
theorem EA(n:Nat):(n+1)*(n+2)=n*(n+1)+2*(n+1):=by rw[LV,LL]
theorem qa{x:Rat}{g:Rat->Hh}:∀{xs:List Rat},(∀b∈xs,x<=b)->(xs.filterMap fun b=>if x<=b then some (g b)else none).length=xs.length
 | [],_=>rfl
 | y::ys,h=>by rw[IW,if_pos (h y Hy)];simp[qa (g:=g) fun b mb=>h b (Ht _ mb)]
theorem xQ(E:List Rat)(g:Rat->Rat->Hh):∀{rs:List Rat},rs.Pairwise (· < ·)->(∀a∈rs,∀b∈E,a<=b)->2*(rs.flatMap fun a=>(rs++E).filterMap fun b=>if a<=b then some (g a b)else none).length=rs.length*(rs.length+1)+2*rs.length*E.length
 | [],_,_=>by simp
 | x::xs,h,hE=>by
   obtain⟨h1,h2⟩:=Kz.mp h
   have ih:=xQ E g h2 fun a ma=>hE a (Ht _ ma)
   have e1:((x::xs++E).filterMap fun b=>if x<=b then some (g x b)else none).length=xs.length+1+E.length:=by
    rw[qa]
    · simp;omega
    · intro b mb
      rcases Ik.mp mb with mb|mb
      · rcases HN.mp mb with rfl|mb
        · exact NN
        · exact Jl (h1 b mb)
      · exact hE x Hy b mb
   have e2:(xs.flatMap fun a=>(x::xs++E).filterMap fun b=>if a<=b then some (g a b)else none)=xs.flatMap fun a=>(xs++E).filterMap fun b=>if a<=b then some (g a b)else none:=by
    rw[List.flatMap_def,List.flatMap_def]
    congr 1
    refine JZ fun a ma=>?_
    rw[Lq,IW,if_neg (Nn.mpr (h1 a ma))]
   rw[IB,HC,e1,e2,Lh,ih,HV]
   have:(xs.length+1)*(xs.length+1+1)=xs.length*(xs.length+1)+2*(xs.length+1):=EA _
   have:2*(xs.length+1)*E.length=2*xs.length*E.length+2*E.length:=by rw[Lh,LL]
   omega
theorem uD(h:rs.Pairwise (· < ·))(hg:∀q∈rs,Gd q):2*(slF rs).length=(rs.length+1)*(rs.length+2)+2*rs.length:=by
 unfold slF
 have e1:((rs++[1]).filterMap fun b=>if(-1:Rat)<=b then some (Fu (-1) b)else none).length=rs.length+1:=by
  rw[qa]
  · simp
  · intro b mb
    rcases Ik.mp mb with mb|mb
    · exact Ln (by decide) (hg b mb).2.1
    · cases Ie.mp mb;decide
 have e2:=xQ [1] Fu h fun a ma b mb=>by cases Ie.mp mb;exact Jl (hg a ma).2.2
 rw[IB,HC,e1,Lh,e2]
 have:(rs.length+1)*(rs.length+2)=rs.length*(rs.length+1)+2*(rs.length+1):=EA _
 simp
 omega
theorem p_{x:Rat}{g:Rat->Hh}:∀{xs:List Rat},(∀b∈xs,b<=x)->(xs.filterMap fun b=>if b<=x then some (g b)else none).length=xs.length
 | [],_=>rfl
 | y::ys,h=>by rw[IW,if_pos (h y Hy)];simp[p_ (g:=g) fun b mb=>h b (Ht _ mb)]
theorem xO(E:List Rat)(g:Rat->Rat->Hh):∀{rs:List Rat},rs.Pairwise (· < ·)->(∀a∈rs,∀b∈E,b<=a)->2*(rs.flatMap fun a=>(E++rs).filterMap fun b=>if b<=a then some (g a b)else none).length=rs.length*(rs.length+1)+2*rs.length*E.length
 | [],_,_=>by simp
 | x::xs,h,hE=>by
   obtain⟨h1,h2⟩:=Kz.mp h
   have ih:=xO (E++[x]) g h2 fun a ma b mb=>by
    rcases Ik.mp mb with mb|mb
    · exact hE a (Ht _ ma) b mb
    · cases Ie.mp mb;exact Jl (h1 a ma)
   have e1:((E++x::xs).filterMap fun b=>if b<=x then some (g x b)else none).length=E.length+1:=by
    rw[show E++x::xs=(E++[x])++xs by simp,MG,HC,p_]
    · have:(xs.filterMap fun b=>if b<=x then some (g x b)else none)=[]:=by
        rw[List.filterMap_eq_nil_iff]
        intro b mb
        rw[if_neg (Nn.mpr (h1 b mb))]
      rw[this];simp
    · intro b mb
      rcases Ik.mp mb with mb|mb
      · exact hE x Hy b mb
      · cases Ie.mp mb;exact NN
   have e2:(fun a=>(E++x::xs).filterMap fun b=>if b<=a then some (g a b)else none)=fun a=>((E++[x])++xs).filterMap fun b=>if b<=a then some (g a b)else none:=by
    funext a;rw[show E++x::xs=(E++[x])++xs by simp]
   rw[IB,HC,e1,e2,Lh,ih,HV,HC,Lk]
   have:(xs.length+1)*(xs.length+1+1)=xs.length*(xs.length+1)+2*(xs.length+1):=EA _
   have:2*(xs.length+1)*E.length=2*xs.length*E.length+2*E.length:=by rw[Lh,LL]
   have:2*xs.length*(E.length+1)=2*xs.length*E.length+2*xs.length:=by rw[Lh];omega
   omega
theorem uC(h:rs.Pairwise (· < ·))(hg:∀q∈rs,Gd q):2*(slR rs).length=(rs.length+1)*(rs.length+2)+2*rs.length:=by
 unfold slR
 have e1:(((-1)::rs).filterMap fun b=>if b<=(1:Rat)then some (Ft 1 b)else none).length=rs.length+1:=by
  rw[p_]
  · simp
  · intro b mb
    rcases HN.mp mb with rfl|mb
    · decide
    · exact Jl (hg b mb).2.2
 have e2:=xO [-1] Ft h fun a ma b mb=>by cases Ie.mp mb;exact Ln (by decide) (hg a ma).2.1
 rw[JE,HC,J3,e1,Lh]
 have e3:(rs.flatMap fun a=>((-1)::rs).filterMap fun b=>if b<=a then some (Ft a b)else none)=rs.flatMap fun a=>([-1]++rs).filterMap fun b=>if b<=a then some (Ft a b)else none:=rfl
 rw[e3,e2]
 have:(rs.length+1)*(rs.length+2)=rs.length*(rs.length+1)+2*(rs.length+1):=EA _
 simp
 omega
theorem tI{l:Nat}(h:2*l=(n+1)*(n+2)+2*n):inr (n:Int)=(l:Int):=by
 unfold inr
 have e:((n:Int)+1)*((n:Int)+2)=((2*(l-n):Nat):Int):=by
  have:2*(l-n)=(n+1)*(n+2):=by omega
  rw[this];push_cast;rfl
 rw[e,J4 _ (by decide)]
 have:n<=l:=by have:0<=(n+1)*(n+2):=HS _;omega
 omega
theorem xI(h:rs.Pairwise (· < ·))(hg:∀q∈rs,Gd q):((sl f rs).length:Int)=E5 f (rs.length:Nat):=by
 have h1:=tI (uD h hg)
 have h2:=tI (uC h hg)
 unfold sl E5
 split
 · simp
 · split
   · exact h1.symm
   · rw[HC];push_cast;omega
theorem qh(f:Nat)(ps:List (List Rat))(hs:∀j,j<dimP ps->(nuQ ps j).Pairwise (· < ·)/\∀q∈nuQ ps j,Gd q):∀i,i<=dimP ps->((chP ((kO f ps).take i)).length:Int)=E9 f ps i
 | 0,_=>by simp[chP,E9]
 | i+1,h=>by
   have hl:i<(kO f ps).length:=by unfold kO;rw[Hu,KI];omega
   have e:(kO f ps)[i]=sl f (nuQ ps i):=by simp[kO]
   have ih:=qh f ps hs i (by omega)
   rw[qf hl,jd,<- ih,<- xI (hs i (by omega)).1 (hs i (by omega)).2,e]
   have:∀(l:List (List Hh))(r:List Hh),(l.flatMap fun b=>r.map fun t=>b++[t]).length=l.length*r.length:=fun l r=>by
    induction l with
    | nil=>simp
    | cons x l ih=>rw[IB,HC,Hu,ih,HV,LL];omega
   rw[this];push_cast;rfl
theorem mD{α:Type}:∀(n:Nat)(rows:List (List α)),rows.length=n->∀b∈chP rows,b.length=n/\∀t∈b,∃r∈rows,t∈r
 | 0,rows,h,b,mb=>by
   cases Lv h
   simp[chP]at mb
   subst mb
   exact⟨rfl,by simp⟩
 | n+1,rows,h,b,mb=>by
   rcases List.eq_nil_or_concat rows with rfl|⟨init,l,rfl⟩
   · simp at h
   · rw[List.concat_eq_append]at mb h ⊢
     have hl:init.length=n:=by simpa using h
     rw[mC]at mb
     obtain⟨b',mb',z⟩:=Jh.mp mb
     obtain⟨t,mt,rfl⟩:=IA.mp z
     obtain⟨h1,h2⟩:=mD n init hl b' mb'
     refine⟨by simp[h1],fun u mu=>?_⟩
     rcases Ik.mp mu with m|m
     · obtain⟨r,mr,ur⟩:=h2 u m
       exact⟨r,JO _ mr,ur⟩
     · cases Ie.mp m
       exact⟨l,HK _ (Ie.mpr rfl),mt⟩
theorem rE{n m:Int}(h0:0<=n)(h:n<=m)(h8:m<=8):E5 f n<=E5 f m:=by
 have hi:inr n<=inr m:=by
  have hn:n=0\/n=1\/n=2\/n=3\/n=4\/n=5\/n=6\/n=7\/n=8:=by omega
  have hm:m=0\/m=1\/m=2\/m=3\/m=4\/m=5\/m=6\/m=7\/m=8:=by omega
  have:∀a:Fin 9,∀b:Fin 9,a.val<=b.val->inr (a.val:Int)<=inr (b.val:Int):=by decide +kernel
  have z:=this ⟨n.toNat,by omega⟩ ⟨m.toNat,by omega⟩ (by show n.toNat<=m.toNat;omega)
  have e1:((n.toNat:Nat):Int)=n:=by omega
  have e2:((m.toNat:Nat):Int)=m:=by omega
  simp only[e1,e2]at z
  exact z
 unfold E5
 split
 · omega
 · split<;>omega
theorem tE{f:Nat}{ps:List (List Rat)}{M:Int}(M8:M<=8)(h:∀j,j<dimP ps->((nuQ ps j).length:Int)<=M):∀i,i<=dimP ps->0<=E9 f ps i/\E9 f ps i<=(E5 f M)^i
 | 0,_=>by simp[E9]
 | i+1,hi=>by
   obtain⟨a,b⟩:=tE (f:=f) M8 h i (by omega)
   have hj:=h i (by omega)
   have m1:=rE (f:=f) (n:=((nuQ ps i).length:Nat)) (by omega) hj M8
   have m0:=(tp (f:=f) (n:=((nuQ ps i).length:Nat)) (by omega) (by omega)).1
   rw[jd,Int.pow_succ]
   exact⟨Int.mul_nonneg a m0,Int.mul_le_mul b m1 m0 (Nv a b)⟩
theorem sR:∀f:Fin 3,∀s:Fin 5,1<=s.val->¬(f.val=2/\s.val=4)->∀i:Fin 5,i.val<=s.val->(E5 f.val (mst f.val s.val:Nat))^i.val<=512/\mst f.val s.val<=6/\1<=mst f.val s.val:=by decide +kernel
theorem rB(h:rs.Pairwise (· < ·)):rs.Nodup:=h.imp fun{a b} l e=>by subst e;exact KL l
theorem AW{s m:Nat}{bs:List (List Rat)}(hb:∀p∈ps,p∈bs)(j:Nat):(nuQ ps j).length<=bs.length:=by
 have hs:=im (colQ ps j)
 have h1:nuQ ps j ⊆ bs.map fun p=>p.getD j 0:=fun q mq=>by
  obtain⟨p,mp,rfl⟩:=IA.mp ((hs.2 q).mp mq)
  exact IA.mpr ⟨p,hb p mp,rfl⟩
 have:=(rB hs.1).length_le_of_subset h1
 rwa [Hu]at this
theorem lz{s:Nat}(h:Wd f s ps):dimP ps=s/\GA ps/\(∀i,i<=s->E9 f ps i<=512)/\∀j,j<dimP ps->(nuQ ps j).Pairwise (· < ·)/\∀q∈nuQ ps j,Gd q:=by
 obtain⟨hf,s1,s4,hn,h1,h2,hp,bs,hb,hm⟩:=h
 have tb:=fun i (hi:i<=s)=>sR ⟨f,hf⟩ ⟨s,by omega⟩ s1 hn ⟨i,by omega⟩ hi
 have hd:=zq hp h1
 have hM:=(tb 0 (by omega)).2.1
 simp only at hM
 have hN:∀j,(nuQ ps j).length<=mst f s:=fun j=>HX (AW (s:=s) (m:=s) hm j) hb
 have gd:∀j,j<dimP ps->(nuQ ps j).Pairwise (· < ·)/\∀q∈nuQ ps j,Gd q:=fun j hj=>by
  have hs:=im (colQ ps j)
  refine⟨hs.1,fun q mq=>?_⟩
  obtain⟨p,mp,rfl⟩:=IA.mp ((hs.2 q).mp mq)
  obtain⟨pl,pg⟩:=hp p mp
  have hj':j<p.length:=by omega
  have e:p.getD j 0=p[j]:=by rw[Ir,HP hj'];rfl
  show Gd (p.getD j 0)
  rw[e]
  exact pg _ (Iv _)
 refine⟨hd,⟨⟨h1,by omega,by rw[hd];exact hp,by omega,by omega⟩,fun j hj=>⟨by have:=hN j;omega,(gd j hj).2⟩⟩,fun i hi=>?_,gd⟩
 have:=(tE (f:=f) (ps:=ps) (M:=(mst f s:Nat)) (by omega) (fun j _=>by have:=hN j;omega) i (by omega)).2
 exact Nv this (tb i hi).1
noncomputable def b_:List W->(Hh->Prop)->Prop:=fun ws Q=>∃(s:Sd),ws=[.d (EG s)]/\((s.Sm))/\Q (fr (Es s))
theorem b_.mono:∀ws (Q Q':Hh->Prop),(∀d,Q d->Q' d)->b_ ws Q->b_ ws Q':=fun _ _ _ h_=>HA fun _=>Hn (Hn (h_ _))
theorem b_.len:∀ws (Q:Hh->Prop),b_ ws Q->ws.length=1:=fun _ _ h_=>by obtain⟨_,e_,_⟩:=h_;subst e_;rfl
theorem b_.eq(s:Sd)(sm:s.Sm):b_ [.d (EG s)]=VL.ret (fr (Es s):Hh):=by
 refine ah fun Q=>⟨?_,fun q_=>⟨s,rfl,sm,q_⟩⟩
 rintro⟨s',e_,_,q_⟩
 simp_arith only[cM,br,bv,aE,aH,bG]at e_
 obtain rfl:=e_
 exact q_
theorem jJ:FnScope ["side", "end", "width"] ["side"] (defScope (Ee 17)):=⟨rfl,rfl,rfl,by decide +kernel,rfl,by decide +kernel,by decide +kernel⟩
theorem d_side_size(Fn:FnIn K mg "side_size" (Ee 17) ["side"])(Z:Bz mg)(d_greater:∀rl,Dfn P w K mg base rl "greater" ["one", "other"] 2 cJ)(d_less:∀rl,Dfn P w K mg base rl "less" ["one", "other"] 3 fG)(d_lesser:∀rl,Dfn P w K mg base rl "lesser" ["one", "other"] 2 cY)(d_plus:∀rl,Dfn P w K mg base rl "plus" ["one", "other"] 3 gG)(gl_ZERO:GlD K mg "ZERO" (pr 0 1))(gl_ONE:GlD K mg "ONE" (pr 1 1))  : Dfn P w K mg base rl "side_size" ["side"] 4 b_:=by
 have sc:=jJ
 refine Dfn.of Fn sc (b_.mono) (b_.len) (fun cdv A outer s H E hr=>(af (al 1 sc.nd (ak (d_greater _) (hr.mono (by decide)) (aa (aL (vn 0) (nN ac)) (aa (eA gl_ZERO) ab))))
  (af (bO (aA dF cx (av _) (aL (vn 0) ac) aD) (aj (ar (vn 1))) aK)
  (af (al 2 sc.nd (ak (d_less _) (hr.mono (by decide)) (aa (vn 1) (aa (ak (d_greater _) (hr.mono (by decide)) (aa (aL (vn 0) ac) (aa (eA gl_ZERO) ab))) ab))))
  (af (bO (aA dF cx (av _) (aL (vn 0) ac) aD) (aj (ar (ak (d_greater _) (hr.mono (by decide)) (aa (vn 2) (aa (eA gl_ZERO) ab))))) aK)
  (aj (ar (ak (d_lesser _) (hr.mono (by decide)) (aa (ak (d_plus _) (hr.mono (by decide)) (aa (eA gl_ONE) (aa (vn 2) ab))) (aa (eA gl_ONE) ab)))))))))) ?_
 rintro ws Q ⟨s,rfl,sm,hQ⟩
 have w1:decide (Hi "from" = Hi "to")=false:=by decide +kernel
 have w2:decide (Hi "round" = Hi "to")=false:=by decide +kernel
 have w3:decide (Hi "round" = Hi "from")=false:=by decide +kernel
 have w4:decide (Hi "to" = Hi "to")=true:=by decide +kernel
 have w5:decide (Hi "from" = Hi "from")=true:=by decide +kernel
 refine az ?_
 have z0:EN 2000 0:=qW.up
 have z1:EN 2000 1:=CJ.up
 cases s with
 | to t =>
   have a1:EN 2000 t:=sm.2.up
   simp_arith only[ag,ae,cJ.eq,fG.eq,cY.eq,gG.eq,Hd,w1,w2,w3,w4,w5,EG]
   exact ax hQ
 | «from» a b =>
   have a1:EN 2000 b:=sm.2.up
   have a2:EN 2000 a:=sm.1.up
   have m1:EN 60 (mx b 0):=eK sm.2 qW
   have m2:EN 60 (mx a 0):=eK sm.1 qW
   have m3:=m1.up
   have m4:=m2.up
   have m5:EN 2000 (mx b 0-mx a 0):=(gu m1 m2).mono (by decide)
   simp_arith only[ag,ae,cJ.eq,fG.eq,cY.eq,gG.eq,Hd,w1,w2,w3,w4,w5,EG]
   exact ax hQ
 | round a b =>
   have a1:EN 2000 b:=sm.2.up
   have a2:EN 2000 a:=sm.1.up
   have m1:EN 60 (mx b 0):=eK sm.2 qW
   have m2:EN 60 (mx a 0):=eK sm.1 qW
   have m3:=m1.up
   have m4:=m2.up
   have m5:EN 2000 (mx b 0-mx a 0):=(gu m1 m2).mono (by decide)
   have m6:EN 2000 (1+(mx b 0-mx a 0)):=(qu CJ (gu m1 m2)).mono (by decide)
   simp_arith only[ag,ae,cJ.eq,fG.eq,cY.eq,gG.eq,Hd,w1,w2,w3,w4,w5,EG]
   exact ax hQ
noncomputable def bW:List W->(Hh->Prop)->Prop:=fun ws Q=>∃(x y:Rat)(b:Bool),ws=[.d (fr x),.d (fr y),.d (.bool b)]/\((EN 2000 x)/\(EN 2000 y))/\Q (.bool (FO x y b))
theorem bW.mono:∀ws (Q Q':Hh->Prop),(∀d,Q d->Q' d)->bW ws Q->bW ws Q':=fun _ _ _ h_=>HA fun _=>HA fun _=>HA fun _=>Hn (Hn (h_ _))
theorem bW.len:∀ws (Q:Hh->Prop),bW ws Q->ws.length=3:=fun _ _ h_=>by obtain⟨_,_,_,e_,_⟩:=h_;subst e_;rfl
theorem bW.eq(x y:Rat)(b:Bool)(h1:EN 2000 x)(h2:EN 2000 y):bW [.d (fr x),.d (fr y),.d (.bool b)]=VL.ret (.bool (FO x y b):Hh):=by
 refine ah fun Q=>⟨?_,fun q_=>⟨x,y,b,rfl,⟨h1,h2⟩,q_⟩⟩
 rintro⟨x',y',b',e_,_,q_⟩
 simp_arith only[cM,br,bv,aE,aH,bG]at e_
 obtain⟨rfl,rfl,rfl⟩:=e_
 exact q_
theorem i6:FnScope ["one", "other", "may_meet"] ["one", "other", "may_meet"] (defScope (Ee 18)):=⟨rfl,rfl,rfl,by decide +kernel,rfl,by decide +kernel,by decide +kernel⟩
theorem d_goes_ahead(Fn:FnIn K mg "goes_ahead" (Ee 18) ["one", "other", "may_meet"])(Z:Bz mg)(d_is_below:∀rl,Dfn P w K mg base rl "is_below" ["one", "other"] 1 bq)   : Dfn P w K mg base rl "goes_ahead" ["one", "other", "may_meet"] 2 bW:=by
 have sc:=i6
 refine Dfn.of Fn sc (bW.mono) (bW.len) (fun cdv A outer s H E hr=>(af (bO (cu (vn 2)) (aj (ar (v_not (ak (d_is_below _) (hr.mono (by decide)) (aa (vn 1) (aa (vn 0) ab)))))) aK)
  (aj (ar (ak (d_is_below _) (hr.mono (by decide)) (aa (vn 0) (aa (vn 1) ab))))))) ?_
 rintro ws Q ⟨x,y,b,rfl,⟨h1,h2⟩,hQ⟩
 refine az ?_
 simp_arith only[ag,ae,bq.eq,Hd]
 cases b<;>simp only[FO,IT,↓reduceIte]at hQ ⊢ <;> exact ax hQ
noncomputable def gH:List W->(Hh->Prop)->Prop:=fun ws Q=>∃(x:Rat)(s:Sd)(w:Str),ws=[.d (fr x),.d (EG s),.d (.str w)]/\((EN 60 x)/\(s.Sm)/\(FE w))/\Q (.bool (Fg s w x))
theorem gH.mono:∀ws (Q Q':Hh->Prop),(∀d,Q d->Q' d)->gH ws Q->gH ws Q':=fun _ _ _ h_=>HA fun _=>HA fun _=>HA fun _=>Hn (Hn (h_ _))
theorem gH.len:∀ws (Q:Hh->Prop),gH ws Q->ws.length=3:=fun _ _ h_=>by obtain⟨_,_,_,e_,_⟩:=h_;subst e_;rfl
theorem gH.eq(x:Rat)(s:Sd)(w:Str)(sx:EN 60 x)(sm:s.Sm)(hw:FE w):gH [.d (fr x),.d (EG s),.d (.str w)]=VL.ret (.bool (Fg s w x):Hh):=by
 refine ah fun Q=>⟨?_,fun q_=>⟨x,s,w,rfl,⟨sx,sm,hw⟩,q_⟩⟩
 rintro⟨x',s',w',e_,_,q_⟩
 simp_arith only[cM,br,bv,aE,aH,bG]at e_
 obtain⟨rfl,rfl,rfl⟩:=e_
 exact q_
theorem uH:FnScope ["x", "side", "way", "ahead", "behind"] ["x", "side", "way"] (defScope (Ee 19)):=⟨rfl,rfl,rfl,by decide +kernel,rfl,by decide +kernel,by decide +kernel⟩
theorem d_lies(Fn:FnIn K mg "lies" (Ee 19) ["x", "side", "way"])(Z:Bz mg)(d_goes_ahead:∀rl,Dfn P w K mg base rl "goes_ahead" ["one", "other", "may_meet"] 2 bW)   : Dfn P w K mg base rl "lies" ["x", "side", "way"] 3 gH:=by
 have sc:=uH
 refine Dfn.of Fn sc (gH.mono) (gH.len) (fun cdv A outer s H E hr=>(af (al 3 sc.nd (ak (d_goes_ahead _) (hr.mono (by decide)) (aa (vn 0) (aa (aL (vn 1) (nN ac)) (aa (eB dF cx (av _) (vn 2) aD) ab)))))
  (af (bO (aA dF cx (av _) (aL (vn 1) ac) aD) (aj (ar (vn 3))) aK)
  (af (al 4 sc.nd (ak (d_goes_ahead _) (hr.mono (by decide)) (aa (aL (vn 1) ac) (aa (vn 0) (aa (eB oW jz (av _) (vn 2) aD) ab)))))
  (af (bO (aA dF cx (av _) (aL (vn 1) ac) aD) (aj (ar (v_and (vn 4) (nM (vn 3))))) aK)
  (aj (ar (v_or (vn 4) (nM (vn 3)))))))))) ?_
 rintro ws Q ⟨x,s,w,rfl,⟨sx,sm,hw⟩,hQ⟩
 have w1:decide (Hi "from" = Hi "to")=false:=by decide +kernel
 have w2:decide (Hi "round" = Hi "to")=false:=by decide +kernel
 have w3:decide (Hi "round" = Hi "from")=false:=by decide +kernel
 have w4:decide (Hi "to" = Hi "to")=true:=by decide +kernel
 have w5:decide (Hi "from" = Hi "from")=true:=by decide +kernel
 refine az ?_
 have sx':=sx.up
 have a1:EN 2000 s.last:=sm.2.up
 have a2:EN 2000 s.first:=sm.1.up
 cases s with
 | to t =>
   have a1:EN 2000 t:=a1
   simp_arith only[ag,ae,bW.eq,Hd,w1,w2,w3,w4,w5,EG]
   exact ax hQ
 | «from» a b =>
   have a1:EN 2000 b:=a1
   have a2:EN 2000 a:=a2
   simp_arith only[ag,ae,bW.eq,Hd,w1,w2,w3,w4,w5,EG]
   exact ax hQ
 | round a b =>
   have a1:EN 2000 b:=a1
   have a2:EN 2000 a:=a2
   simp_arith only[ag,ae,bW.eq,Hd,w1,w2,w3,w4,w5,EG]
   exact ax hQ
noncomputable def slFS(rs:List Rat):List Sd:=((-1)::rs).flatMap fun a=>(rs++[1]).filterMap fun b=>if a<=b then some (.from a b)else none
noncomputable def slRS(rs:List Rat):List Sd:=(rs++[1]).flatMap fun a=>((-1)::rs).filterMap fun b=>if b<=a then some (.round a b)else none
noncomputable def slS(f:Nat)(rs:List Rat):List Sd:=if f=0 then(rs++[1]).map Sd.to else if f=1 then slFS rs else slFS rs++slRS rs
theorem lh{γ:Type}(p:α->Prop)[DecidablePred p](g:α->β)(h:β->γ)(xs:List α):(xs.filterMap fun b=>if p b then some (h (g b))else none)=(xs.filterMap fun b=>if p b then some (g b)else none).map h:=by
 rw[List.map_filterMap]
 congr 1
 funext b
 by_cases c:p b<;>simp[c]
theorem lJ(rs:List Rat):slF rs=(slFS rs).map EG:=by
 unfold slF slFS
 rw[Lu]
 congr 1
 funext a
 exact lh (fun b=>a<=b) (fun b=>Sd.from a b) EG _
theorem om(rs:List Rat):slR rs=(slRS rs).map EG:=by
 unfold slR slRS
 rw[Lu]
 congr 1
 funext a
 exact lh (fun b=>b<=a) (fun b=>Sd.round a b) EG _
theorem qO(f:Nat)(rs:List Rat):sl f rs=(slS f rs).map EG:=by
 unfold sl slS
 split
 · rw[Jg];rfl
 · split
   · exact lJ rs
   · rw[Iu,lJ,om]
theorem jH(h:Rs rs):∀s∈slS f rs,s.Sm:=by
 have hF:∀s∈slFS rs,s.Sm:=fun s ms=>by
  obtain⟨a,ma,h1⟩:=Jh.mp ms
  obtain⟨b,mb,h2⟩:=Jd.mp h1
  split at h2
  · cases h2;exact⟨fO h a ma,dP h b mb⟩
  · cases h2
 have hR:∀s∈slRS rs,s.Sm:=fun s ms=>by
  obtain⟨a,ma,h1⟩:=Jh.mp ms
  obtain⟨b,mb,h2⟩:=Jd.mp h1
  split at h2
  · cases h2;exact⟨dP h a ma,fO h b mb⟩
  · cases h2
 intro s ms
 unfold slS at ms
 split at ms
 · obtain⟨t,mt,rfl⟩:=IA.mp ms
   exact⟨dP h t mt,dP h t mt⟩
 · split at ms
   · exact hF s ms
   · rcases Ik.mp ms with m|m
     · exact hF s m
     · exact hR s m
noncomputable def rowsS(f:Nat)(ps:List (List Rat)):List (List Sd):=(Ip (dimP ps)).map fun j=>slS f (nuQ ps j)
theorem oy(f:Nat)(ps:List (List Rat)):kO f ps=(rowsS f ps).map (MN EG):=by
 unfold kO rowsS
 rw[Jg]
 exact JZ fun j _=>qO f (nuQ ps j)
theorem uK(f:Nat)(ps:List (List Rat)):((Ip (dimP ps)).map fun j=>Ks (sl f (nuQ ps j)))=(rowsS f ps).map fun r=>Ks (r.map EG):=by
 unfold rowsS
 rw[Jg]
 exact JZ fun j _=>by rw[qO];rfl
theorem cH(f:Nat)(ps:List (List Rat)):(rowsS f ps).length=dimP ps:=by unfold rowsS;rw[Hu,KI]
theorem i9(h:i<(rowsS f ps).length):(rowsS f ps)[i]=slS f (nuQ ps i):=by simp[rowsS]
noncomputable def Gb(f:Nat)(ps:List (List Rat)):Prop:=GA ps/\ps.length<=8/\(∀j,j<dimP ps->(nuQ ps j).Pairwise (· < ·))/\∀i,i<=dimP ps->E9 f ps i<=3000
theorem Gb.gd(h:Gb f ps):∀j,j<dimP ps->(nuQ ps j).Pairwise (· < ·)/\∀q∈nuQ ps j,Gd q:=fun j hj=>⟨h.2.2.1 j hj,(h.1.2 j hj).2⟩
theorem Gb.len(h:Gb f ps)(hi:i<=dimP ps):(chP ((rowsS f ps).take i)).length<=3000:=by
 have e:=qh f ps h.gd i hi
 have m:=h.2.2.2 i hi
 rw[oy,<- K5,qg,Hu]at e
 omega
theorem Gb.sm(h:Gb f ps)(hi:i<=dimP ps):∀ss∈chP ((rowsS f ps).take i),ss.length=i/\∀s∈ss,s.Sm:=fun ss ms=>by
 obtain⟨h1,h2⟩:=mD i _ (by rw[Iz,cH];omega) ss ms
 refine⟨h1,fun s mt=>?_⟩
 obtain⟨r,mr,hr⟩:=h2 s mt
 obtain⟨j,hj,rfl⟩:=IA.mp (Ka mr)
 exact jH (h.1.2 j (JU.mp hj)) s hr
theorem AC(ps:List (List Rat)):Io [Io [],Ks (be 0 ps.length),Ks (be 0 ps.length),fr 1]=EH (rvO ps []):=by
 have h:∀f:List Rat->Bool,(∀p,f p=true)->EX (plc f ps)=Ks (be 0 ps.length):=fun f hf=>by
  unfold plc EX
  rw[List.filter_eq_self.mpr fun k _=>hf _]
  congr 1
  exact JZ fun k _=>by show HB _=HB (0+(k:Int));rw[Int.zero_add]
 unfold EH rvO
 dsimp only
 rw[h _ fun p=>by simp[Fv],h _ fun p=>by simp[Fv]];rfl
noncomputable def cX:List W->(Hh->Prop)->Prop:=fun ws Q=>∃(xs:List Rat)(s:Sd),ws=[.d (.list (xs.map fr)),.d (EG s)]/\((xs.length<=60)/\(∀x∈xs,EN 60 x)/\(s.Sm))/\Q (E_ s (Ff "shut" xs s) (Ff "open" xs s))
theorem cX.mono:∀ws (Q Q':Hh->Prop),(∀d,Q d->Q' d)->cX ws Q->cX ws Q':=fun _ _ _ h_=>HA fun _=>HA fun _=>Hn (Hn (h_ _))
theorem cX.len:∀ws (Q:Hh->Prop),cX ws Q->ws.length=2:=fun _ _ h_=>by obtain⟨_,_,e_,_⟩:=h_;subst e_;rfl
theorem cX.eq(xs:List Rat)(s:Sd)(hl:xs.length<=60)(hx:∀x∈xs,EN 60 x)(hs:s.Sm):cX [.d (.list (xs.map fr)),.d (EG s)]=VL.ret (E_ s (Ff "shut" xs s) (Ff "open" xs s):Hh):=by
 refine ah fun Q=>⟨?_,fun q_=>⟨xs,s,rfl,⟨hl,hx,hs⟩,q_⟩⟩
 rintro⟨xs',s',e_,_,q_⟩
 simp_arith only[cM,br,bv,aE,aH,bG,cS,dI,d8,dG,dY,dE,dU,and_assoc]at e_
 obtain⟨rfl,rfl⟩:=e_
 exact q_
theorem ot:FnScope ["numbers", "look", "shut", "free"] ["numbers", "look"] (defScope (Ee 30)):=⟨rfl,rfl,rfl,by decide +kernel,rfl,by decide +kernel,by decide +kernel⟩
theorem d_marked(Fn:FnIn K mg "marked" (Ee 30) ["numbers", "look"])(Z:Bz mg)(d_lies:∀rl,Dfn P w K mg base rl "lies" ["x", "side", "way"] 3 gH)(d_side_size:∀rl,Dfn P w K mg base rl "side_size" ["side"] 4 b_)   : Dfn P w K mg base rl "marked" ["numbers", "look"] 5 cX:=by
 have sc:=ot
 refine Dfn.of Fn sc (cX.mono) (cX.len) (fun cdv A outer s H E hr=>(af (cn 2 sc.nd ["x", "look"] [none,some 1] rfl (aJ (vn 0)) (fun _=>(ai 0 (show Iy (["x", "look"]:List Str) by decide +kernel))) (fun _=>b8) (fun _=>(ak (d_lies _) (hr.mono (by decide)) (aa (vn 0) (aa (vn 1) (aa aD ab))))))
  (af (cn 3 sc.nd ["x", "look"] [none,some 1] rfl (aJ (vn 0)) (fun _=>(ai 0 (show Iy (["x", "look"]:List Str) by decide +kernel))) (fun _=>b8) (fun _=>(ak (d_lies _) (hr.mono (by decide)) (aa (vn 0) (aa (vn 1) (aa aD ab))))))
  (aj (ar (bp (aa (vn 1) (aa (vn 2) (aa (vn 3) (aa (ak (d_side_size _) (hr.mono (by decide)) (aa (vn 1) ab)) ab)))))))))) ?_
 rintro ws Q ⟨xs,s,rfl,⟨hl,hx,hs⟩,hQ⟩
 refine az ?_
 have sz:=HM
 have ws:FE "shut" := .inr (.inl rfl)
 have wo:FE "open" := .inr (.inr rfl)
 simp_arith only[ag,ae]
 refine Ey (bH (xs:=xs) (enc:=fr) (fun x=>.bool (Fg s "shut" x)) rfl ?_ (by omega) ?_)
 · intro x mx
   have h:=hx x mx
   simp_arith only[ag,ae,FB,gH.eq]
 simp_arith only[ag,ae]
 refine Ey (bH (xs:=xs) (enc:=fr) (fun x=>.bool (Fg s "open" x)) rfl ?_ (by omega) ?_)
 · intro x mx
   have h:=hx x mx
   simp_arith only[ag,ae,FB,gH.eq]
 simp_arith only[ag,ae,b_.eq]
 refine ax ?_
 unfold E_ FW Ff at hQ
 rw[Jg,Jg]at hQ
 exact hQ
noncomputable def cI:List W->(Hh->Prop)->Prop:=fun ws Q=>∃(r:Rv)(e:Sd)(s f:List Bool),ws=[.d (EH r),.d (E_ e s f)]/\((∀k∈r.sh,k<s.length)/\(∀k∈r.op,k<f.length)/\(r.es.length<=60)/\(r.sh.length<=60)/\(r.op.length<=60)/\(EN 2000 r.sz)/\(EN 2000 (Es e)))/\Q (EH (r.wid e s f))
theorem cI.mono:∀ws (Q Q':Hh->Prop),(∀d,Q d->Q' d)->cI ws Q->cI ws Q':=fun _ _ _ h_=>HA fun _=>HA fun _=>HA fun _=>HA fun _=>Hn (Hn (h_ _))
theorem cI.len:∀ws (Q:Hh->Prop),cI ws Q->ws.length=2:=fun _ _ h_=>by obtain⟨_,_,_,_,e_,_⟩:=h_;subst e_;rfl
theorem cI.eq(r:Rv)(e:Sd)(s f:List Bool)(hs:∀k∈r.sh,k<s.length)(ho:∀k∈r.op,k<f.length)(hl:r.es.length<=60)(sl:r.sh.length<=60)(ol:r.op.length<=60)(q1:EN 2000 r.sz)(q2:EN 2000 (Es e)):cI [.d (EH r),.d (E_ e s f)]=VL.ret (EH (r.wid e s f):Hh):=by
 refine ah fun Q=>⟨?_,fun q_=>⟨r,e,s,f,rfl,⟨hs,ho,hl,sl,ol,q1,q2⟩,q_⟩⟩
 rintro⟨r',e',s',f',e_,_,q_⟩
 simp_arith only[cM,br,bv,aE,aH,bG,cS,dI,d8,dG,dY,dE,dU,and_assoc]at e_
 obtain⟨rfl,rfl,rfl,rfl⟩:=e_
 exact q_
theorem mV:FnScope ["row", "mark", "box", "shut", "free", "size", "look", "shut_there", "free_there", "size_there"] ["row", "mark"] (defScope (Ee 31)):=⟨rfl,rfl,rfl,by decide +kernel,rfl,by decide +kernel,by decide +kernel⟩
theorem d_widened(Fn:FnIn K mg "widened" (Ee 31) ["row", "mark"])(Z:Bz mg)(d_times:∀rl,Dfn P w K mg base rl "times" ["one", "other"] 3 d7)   : Dfn P w K mg base rl "widened" ["row", "mark"] 4 cI:=by
 have sc:=mV
 refine Dfn.of Fn sc (cI.mono) (cI.len) (fun cdv A outer s H E hr=>(af (jy (vn 0) (dq (n:=4) rfl (ay (ai 2 sc.nd) (ay (ai 3 sc.nd) (ay (ai 4 sc.nd) (ay (ai 5 sc.nd) cE))))))
  (af (jy (vn 1) (dq (n:=4) rfl (ay (ai 6 sc.nd) (ay (ai 7 sc.nd) (ay (ai 8 sc.nd) (ay (ai 9 sc.nd) cE))))))
  (aj (ar (bp (aa (nQ (vn 2) (bp (aa (vn 6) ab))) (aa (bc ["place", "shut_there"] [none,some 7] rfl (aJ (vn 3)) (fun _=>(ai 0 (show Iy (["place", "shut_there"]:List Str) by decide +kernel))) (fun _=>dJ (cu (aL (vn 1) (vn 0)))) (fun _=>(vn 0))) (aa (bc ["place", "free_there"] [none,some 8] rfl (aJ (vn 4)) (fun _=>(ai 0 (show Iy (["place", "free_there"]:List Str) by decide +kernel))) (fun _=>dJ (cu (aL (vn 1) (vn 0)))) (fun _=>(vn 0))) (aa (ak (d_times _) (hr.mono (by decide)) (aa (vn 5) (aa (vn 9) ab))) ab)))))))))) ?_
 rintro ws Q ⟨r,e,s,f,rfl,⟨hs,ho,hl,sl,ol,q1,q2⟩,hQ⟩
 refine az ?_
 have sz:=HM
 have g1:(r.es.map EG).length+1<=sizeLine:=by rw[Hu];omega
 have tb:tupD (df r.es)=some (r.es.map EG):=rfl
 simp_arith only[ag,ae,EH,E_,EX,FW,tb]
 refine fN (xs:=r.sh) (enc:=fun k:Nat=>HB (k:Int)) (fun k=>if s.getD k false=true then some (HB (k:Int))else none) rfl ?_ (by omega) ?_
 · intro k mk
   have e1:=eU (xs:=s) false (show(0:Int)<=(k:Int) by omega) (by have:=hs k mk;omega)
   rw[Ji]at e1
   have e2:atI (s.map IG) (k:Int)=some (.bool (s.getD k false)):=by rw[cr,e1];rfl
   simp_arith only[ag,ae,FB,e2]
   try rfl
   try (split<;>rfl)
 refine fN (xs:=r.op) (enc:=fun k:Nat=>HB (k:Int)) (fun k=>if f.getD k false=true then some (HB (k:Int))else none) rfl ?_ (by omega) ?_
 · intro k mk
   have e1:=eU (xs:=f) false (show(0:Int)<=(k:Int) by omega) (by have:=ho k mk;omega)
   rw[Ji]at e1
   have e2:atI (f.map IG) (k:Int)=some (.bool (f.getD k false)):=by rw[cr,e1];rfl
   simp_arith only[ag,ae,FB,e2]
   try rfl
   try (split<;>rfl)
 rw[se (fun k=>s.getD k false=true) (fun k:Nat=>HB (k:Int)),se (fun k=>f.getD k false=true) (fun k:Nat=>HB (k:Int))]
 simp_arith only[ag,ae,d7.eq]
 refine ax ?_
 have eq:EH (r.wid e s f) = .tuple [.tuple (r.es.map EG++[EG e]),.list ((r.sh.filter fun k=>decide (s.getD k false=true)).map fun k:Nat=>.int (k:Int)),.list ((r.op.filter fun k=>decide (f.getD k false=true)).map fun k:Nat=>.int (k:Int)),fr (r.sz*Es e)]:=by
  unfold EH Rv.wid df EX
  rw[Iu]
  simp
 rw[eq]at hQ
 exact hQ
noncomputable def aZ:List W->(Hh->Prop)->Prop:=fun ws Q=>∃(ps:List (List Rat))(f:Fin 3),ws=[.d (ptsQ ps),.d (.str (ck f))]/\((Gb f.val ps))/\Q (.list ((chP (rowsS f.val ps)).map fun ss=>EH (rvO ps ss)))
theorem aZ.mono:∀ws (Q Q':Hh->Prop),(∀d,Q d->Q' d)->aZ ws Q->aZ ws Q':=fun _ _ _ h_=>HA fun _=>HA fun _=>Hn (Hn (h_ _))
theorem aZ.len:∀ws (Q:Hh->Prop),aZ ws Q->ws.length=2:=fun _ _ h_=>by obtain⟨_,_,e_,_⟩:=h_;subst e_;rfl
theorem aZ.eq(ps:List (List Rat))(f:Fin 3)(hw:Gb f.val ps):aZ [.d (ptsQ ps),.d (.str (ck f))]=VL.ret (.list ((chP (rowsS f.val ps)).map fun ss=>EH (rvO ps ss)):Hh):=by
 refine ah fun Q=>⟨?_,fun q_=>⟨ps,f,rfl,hw,q_⟩⟩
 rintro⟨ps',f',e_,_,q_⟩
 simp_arith only[cM,br,bv,aE,aH,bG,cS,dI,d8,dG,dY,dE,dU,and_assoc]at e_
 obtain⟨rfl,rfl⟩:=e_
 exact q_
theorem fT:FnScope ["points", "family", "places", "rows", "side", "side_rows", "numbers", "marks"] ["points", "family"] (defScope (Ee 32)):=⟨rfl,rfl,rfl,by decide +kernel,rfl,by decide +kernel,by decide +kernel⟩
theorem d_counted_looks(Fn:FnIn K mg "counted_looks" (Ee 32) ["points", "family"])(Z:Bz mg)(d_looks_by_side:∀rl,Dfn P w K mg base rl "looks_by_side" ["points", "family"] 4 aY)(d_marked:∀rl,Dfn P w K mg base rl "marked" ["numbers", "look"] 5 cX)(d_widened:∀rl,Dfn P w K mg base rl "widened" ["row", "mark"] 4 cI)(gl_ONE:GlD K mg "ONE" (pr 1 1))  : Dfn P w K mg base rl "counted_looks" ["points", "family"] 6 aZ:=by
 have sc:=fT
 refine Dfn.of Fn sc (aZ.mono) (aZ.len) (fun cdv A outer s H E hr=>(af (al 2 sc.nd (nO Z.list_ Z.range_ (aa (ce Z.len_ (aa (vn 0) ab)) ab)))
  (af (al 3 sc.nd (cf (aa (bp (aa (bp ab) (aa (vn 2) (aa (vn 2) (aa (eA gl_ONE) ab))))) ab)))
  (af (bo [4,5,6,7] Ig rfl (iU Z.enumerate_ (aa (ak (d_looks_by_side _) (hr.mono (by decide)) (aa (vn 0) (aa (vn 1) ab))) ab)) (dq (n:=2) rfl (ay (ai 4 sc.nd) (ay (ai 5 sc.nd) cE))) (af (cn 6 sc.nd ["point", "side"] [none,some 4] rfl (dn (vn 0)) (fun _=>(ai 0 (show Iy (["point", "side"]:List Str) by decide +kernel))) (fun _=>b8) (fun _=>(aL (vn 0) (vn 1))))
  (af (cn 7 sc.nd ["look", "numbers"] [none,some 6] rfl (aJ (vn 5)) (fun _=>(ai 0 (show Iy (["look", "numbers"]:List Str) by decide +kernel))) (fun _=>b8) (fun _=>(ak (d_marked _) (hr.mono (by decide)) (aa (vn 1) (aa (vn 0) ab)))))
  (aj (gi 3 sc.nd ["row", "mark", "marks"] [none,none,some 7] rfl (aJ (vn 3)) (fun _=>(ai 0 (show Iy (["row", "mark", "marks"]:List Str) by decide +kernel))) (fun _=>b8) (fun _=>(aJ (vn 2))) (fun _=>(ai 1 (show Iy (["row", "mark", "marks"]:List Str) by decide +kernel))) (fun _=>b8) (fun _=>(ak (d_widened _) (hr.mono (by decide)) (aa (vn 0) (aa (vn 1) ab)))))))))
  (aj (ar (vn 3))))))) ?_
 rintro ws Q ⟨ps,f,rfl,hw,hQ⟩
 refine az ?_
 have sz:=HM
 have hN:=hw.1
 have hP:=hN.1
 have h8:=hw.2.1
 have hpl:∀p∈ps,p.length=dimP ps:=fun p mp=>(hP.2.2.1 p mp).1
 have hm:=hw.2.2.2 (dimP ps) (Hs _)
 have gn : -(2^62)<=((ps.length:Nat):Int)/\((ps.length:Nat):Int)<2^62:=by omega
 have er:=uK f.val ps
 have rl:=cH f.val ps
 have d4:=hP.2.2.2.2
 have r0:=AC ps
 simp_arith only[ag,ae,Hd,aY.eq,yQ,er,zp,pS,r0]
 refine cy (xs:=(rowsS f.val ps).zipIdx) (enc:=fun z=>Io [HB ((z.2:Nat):Int),Ks (z.1.map EG)]) (fun i ρ=>ρ=[some (.d (ptsQ ps)),some (.d (.str (ck f))),some (.d (.list (be 0 ps.length))),some (.d (.list ((chP ((rowsS f.val ps).take i)).map fun ss=>EH (rvO ps ss)))),none,none,none,none]) rfl rfl ?_ ?_
 · rintro i hi ρ rfl K hK
   have hi1:i<(rowsS f.val ps).length:=by rw[LW]at hi;exact hi
   have hin:i<dimP ps:=by rw[<- rl];exact hi1
   have ez:(rowsS f.val ps).zipIdx[i]=((rowsS f.val ps)[i],i):=by rw[List.getElem_zipIdx];simp
   rw[ez]
   have tk:=qf hi1
   have rl1:=hw.len (show i<=dimP ps by omega)
   have rl2:=hw.len (show i+1<=dimP ps by omega)
   have hsm:=hw.sm (show i<=dimP ps by omega)
   have hEs:∀s∈(rowsS f.val ps)[i],s.Sm:=by rw[i9 hi1];exact jH (hN.2 i hin)
   have El:(rowsS f.val ps)[i].length<=200:=by
    have h1:=iy (hN.2 i hin).1
    have h2:=lH (hN.2 i hin).1
    have h3:=(hN.2 i hin).1
    rw[lJ,Hu]at h1
    rw[om,Hu]at h2
    rw[i9 hi1]
    unfold slS
    split
    · simp;omega
    · split
      · omega
      · rw[HC];omega
   generalize (rowsS f.val ps)[i]=E at tk hEs El ⊢
   generalize chP ((rowsS f.val ps).take i)=C at tk rl1 hsm ⊢
   simp_arith only[ag,ae,Hd]
   refine Ey (bH (xs:=ps) (enc:=EQ) (fun p=>fr (p.getD i 0)) rfl ?_ (by omega) ?_)
   · intro p mp
     have e:=ju (pN hP.2.2.1) hin p mp
     simp_arith only[ag,ae,FB,Hd,e]
   have em:ps.map (fun p=>fr (p.getD i 0))=(ps.map fun p=>p.getD i 0).map fr:=by rw[Jg];rfl
   rw[em]
   have cl:(ps.map fun p=>p.getD i 0).length<=60:=by rw[Hu];omega
   have c60:∀x∈ps.map (fun p=>p.getD i 0),EN 60 x:=fun x mx=>(tN (pN hP.2.2.1) hin x mx).mono (by decide)
   have we:∀ss∈C,∀s:Sd,(rvO ps ss).wid s (Ff "shut" (ps.map fun p=>p.getD i 0) s) (Ff "open" (ps.map fun p=>p.getD i 0) s)=rvO ps (ss++[s]):=fun ss ms s=>tW hpl (hsm ss ms).1 hin s
   have cll:(ps.map fun p=>p.getD i 0).length=ps.length:=Hu ..
   generalize (ps.map fun p=>p.getD i 0)=col at cl c60 we cll ⊢
   simp_arith only[ag,ae]
   refine Ey (bH (xs:=E) (enc:=EG) (fun s=>E_ s (Ff "shut" col s) (Ff "open" col s)) rfl ?_ (by omega) ?_)
   · intro s ms
     have h60:=hEs s ms
     simp_arith only[ag,ae,FB,cX.eq]
   simp_arith only[ag,ae,Hg]
   have lens:(C.flatMap fun ss=>E.map fun s=>EH (rvO ps (ss++[s]))).length<=3000:=by
    rw[tk]at rl2
    refine HX (Nat.le_of_eq ?_) rl2
    rw[M5,M5]
    simp
   refine sF (xs:=C) (enc:=fun ss=>EH (rvO ps ss)) (fun ss=>E.map fun s=>EH (rvO ps (ss++[s]))) rfl ?_ (by omega) ?_
   · intro ss ms acc ha
     obtain⟨el,hes⟩:=hsm ss ms
     rw[Hu]at ha
     simp_arith only[ag,ae,pI]
     rw[eR (enc:=fun s=>E_ s (Ff "shut" col s) (Ff "open" col s)) (fun s=>some (EH (rvO ps (ss++[s])))) E acc ?_ ha,Ms]
     intro s mE
     have pl:∀w:Str,∀k∈plc (fun p=>Fv p ss w) ps,k<(Ff w col s).length:=fun w k mk=>by
      have:=tf (f:=fun p=>Fv p ss w) (ps:=ps) k mk
      unfold Ff;rw[Hu,cll];exact this
     have k1:∀k∈(rvO ps ss).sh,k<(Ff "shut" col s).length:=pl "shut"
     have k2:∀k∈(rvO ps ss).op,k<(Ff "open" col s).length:=pl "open"
     have k3:(rvO ps ss).es.length<=60:=by show ss.length<=60;omega
     have kl:∀w:Str,(plc (fun p=>Fv p ss w) ps).length<=60:=fun w=>by rw[kX];have:=JJ (fun p=>Fv p ss w) ps;omega
     have k4:(rvO ps ss).sh.length<=60:=kl "shut"
     have k5:(rvO ps ss).op.length<=60:=kl "open"
     have k6:EN 2000 (rvO ps ss).sz:=(uE (by omega) hes).mono (by decide)
     have k7:EN 2000 (Es s):=(jE (hEs s mE)).mono (by decide)
     have we:=we ss ms s
     simp_arith only[ag,ae,FB,cI.eq,we]
   · try simp_arith only[ag,ae]
     refine hK _ (bK ?_)
     rw[tk]
     simp[fo,Lu]
     rfl
 · rintro ρ rfl
   have le:(rowsS f.val ps).zipIdx.length=(rowsS f.val ps).length:=LW ..
   rw[le,HE (Hs _)]
   simp_arith only[ag,ae]
   exact ax hQ
noncomputable def cK:List W->(Hh->Prop)->Prop:=fun ws Q=>∃(ps:List (List Rat))(f:Fin 3),ws=[.d (ptsQ ps),.d (.str (ck f))]/\((Gb f.val ps))/\Q (.list (((chP (rowsS f.val ps)).flatMap (E7 ps)).map teD))
theorem cK.mono:∀ws (Q Q':Hh->Prop),(∀d,Q d->Q' d)->cK ws Q->cK ws Q':=fun _ _ _ h_=>HA fun _=>HA fun _=>Hn (Hn (h_ _))
theorem cK.len:∀ws (Q:Hh->Prop),cK ws Q->ws.length=2:=fun _ _ h_=>by obtain⟨_,_,e_,_⟩:=h_;subst e_;rfl
theorem cK.eq(ps:List (List Rat))(f:Fin 3)(hw:Gb f.val ps):cK [.d (ptsQ ps),.d (.str (ck f))]=VL.ret (.list (((chP (rowsS f.val ps)).flatMap (E7 ps)).map teD):Hh):=by
 refine ah fun Q=>⟨?_,fun q_=>⟨ps,f,rfl,hw,q_⟩⟩
 rintro⟨ps',f',e_,_,q_⟩
 simp_arith only[cM,br,bv,aE,aH,bG,cS,dI,d8,dG,dY,dE,dU,and_assoc]at e_
 obtain⟨rfl,rfl⟩:=e_
 exact q_
theorem oq:FnScope ["points", "family", "many", "told", "box", "shut", "free", "size"] ["points", "family"] (defScope (Ee 33)):=⟨rfl,rfl,rfl,by decide +kernel,rfl,by decide +kernel,by decide +kernel⟩
theorem d_misses(Fn:FnIn K mg "misses" (Ee 33) ["points", "family"])(Z:Bz mg)(d_counted_looks:∀rl,Dfn P w K mg base rl "counted_looks" ["points", "family"] 6 aZ)(d_less:∀rl,Dfn P w K mg base rl "less" ["one", "other"] 3 fG)(d_fraction:∀rl,Dfn P w K mg base rl "fraction" ["top", "bottom"] 2 bM)   : Dfn P w K mg base rl "misses" ["points", "family"] 7 cK:=by
 have sc:=oq
 refine Dfn.of Fn sc (cK.mono) (cK.len) (fun cdv A outer s H E hr=>(af (al 2 sc.nd (ce Z.len_ (aa (vn 0) ab)))
  (af (d_ 3 sc.nd (cf ab))
  (af (bo [4,5,6,7] Ig rfl (aJ (ak (d_counted_looks _) (hr.mono (by decide)) (aa (vn 0) (aa (vn 1) ab)))) (dq (n:=4) rfl (ay (ai 4 sc.nd) (ay (ai 5 sc.nd) (ay (ai 6 sc.nd) (ay (ai 7 sc.nd) cE))))) (af (fv 3 (aa (bp (aa (ak (d_less _) (hr.mono (by decide)) (aa (ak (d_fraction _) (hr.mono (by decide)) (aa (ce Z.len_ (aa (vn 5) ab)) (aa (vn 2) ab))) (aa (vn 7) ab))) (aa aD (aa (vn 4) ab)))) ab))
  (aj (fv 3 (aa (bp (aa (ak (d_less _) (hr.mono (by decide)) (aa (vn 7) (aa (ak (d_fraction _) (hr.mono (by decide)) (aa (ce Z.len_ (aa (vn 6) ab)) (aa (vn 2) ab))) ab))) (aa aD (aa (vn 4) ab)))) ab)))))
  (aj (ia 3 (ar (vn 3)))))))) ?_
 rintro ws Q ⟨ps,f,rfl,hw,hQ⟩
 refine az ?_
 have sz:=HM
 have hN:=hw.1
 have hP:=hN.1
 have h1:=hP.1
 have h8:=hw.2.1
 have d4:=hP.2.2.2.2
 have b0:(ps.length:Int)≠0:=by omega
 have bz:(ps.length:Int).natAbs<2^8000:=Hr (show(ps.length:Int).natAbs<2^60 by omega) (HF (by decide) (by decide))
 have rl:=hw.len (Hs _)
 have hsm:=hw.sm (Hs _)
 have el:=cH f.val ps
 rw[HE (by omega)]at rl hsm
 simp_arith only[ag,ae,Hd,aZ.eq]
 generalize chP (rowsS f.val ps)=C at rl hsm hQ ⊢
 refine cy (xs:=C) (enc:=fun ss=>EH (rvO ps ss)) (fun i ρ=>ρ=[some (.d (ptsQ ps)),some (.d (.str (ck f))),some (.d (.int ps.length)),some (.ml (((C.take i).flatMap (E7 ps)).map teD)),none,none,none,none]) rfl rfl ?_ ?_
 · rintro i hi ρ rfl K hK
   obtain⟨sl,ss⟩:=hsm _ (Iv hi)
   have tl:∀l:List (List Sd),(l.flatMap (E7 ps)).length=2*l.length:=fun l=>by
    induction l with
    | nil=>rfl
    | cons x l ih=>rw[IB,HC,ih,HV];show 2+_=_;omega
   have tz:((C.take i).flatMap (E7 ps)).length+1<sizeLine:=by rw[tl,Iz];omega
   have tz0:((C.take i).flatMap (E7 ps)).length<sizeLine:=by omega
   have tz1:((C.take i).flatMap (E7 ps)).length+1<=sizeLine:=by omega
   have tk:(C.take (i+1)).flatMap (E7 ps)=(C.take i).flatMap (E7 ps)++E7 ps C[i]:=by rw[HI hi,JE];simp
   generalize C[i]=es at sl ss tk ⊢
   generalize (C.take i).flatMap (E7 ps)=T at tz tz0 tz1 tk ⊢
   have s1:EN 2000 (dv es):=(uE (by omega) ss).mono (by decide)
   have s2:EN 2000 (qd (cntN ps es "shut") ps.length):=(sB h1 (by omega) fun p=>Fv p es "shut").mono (by decide)
   have s3:EN 2000 (qd (cntN ps es "open") ps.length):=(sB h1 (by omega) fun p=>Fv p es "open").mono (by decide)
   have c1:(plc (fun p=>Fv p es "shut") ps).length=cntN ps es "shut" := kX _ _
   have c2:(plc (fun p=>Fv p es "open") ps).length=cntN ps es "open" := kX _ _
   simp_arith only[ag,ae,EH,rvO,EX,c1,c2,bM.eq,fG.eq]
   refine cj (by rw[HC,Hu];exact tz) (hK _ (bK ?_))
   rw[tk]
   simp[fo,Iu,E7,teD,ET,Fz]
 · rintro ρ rfl
   rw[HE (Hs _)]
   simp_arith only[ag,ae]
   exact ax hQ
abbrev Gh:=Rat×Str×List Sd
theorem pQ{α:Type}:∀(ts:List (Rat×α))(t0:Rat×α),FS ts t0=t0\/FS ts t0∈ts
 | [],t0=>.inl rfl
 | t::ts,t0=>by
   have e:FS (t::ts) t0=FS ts (if t0.1<t.1 then t else t0):=rfl
   rw[e]
   by_cases c:t0.1<t.1
   · rw[if_pos c]
     rcases pQ ts t with h|h
     · exact .inr (HN.mpr (.inl h))
     · exact .inr (Ht _ h)
   · rw[if_neg c]
     rcases pQ ts t0 with h|h
     · exact .inl h
     · exact .inr (Ht _ h)
noncomputable def aB:List W->(Hh->Prop)->Prop:=fun ws Q=>∃(t0:Gh)(ts:List Gh),ws=[.d (.list ((t0::ts).map teD))]/\((∀t∈t0::ts,EN 2000 t.1))/\Q (teD (FS (t0::ts) t0))
theorem aB.mono:∀ws (Q Q':Hh->Prop),(∀d,Q d->Q' d)->aB ws Q->aB ws Q':=fun _ _ _ h_=>HA fun _=>HA fun _=>Hn (Hn (h_ _))
theorem aB.len:∀ws (Q:Hh->Prop),aB ws Q->ws.length=1:=fun _ _ h_=>by obtain⟨_,_,e_,_⟩:=h_;subst e_;rfl
theorem aB.eq(t0:Gh)(ts:List Gh)(hq:∀t∈t0::ts,EN 2000 t.1):aB [.d (.list ((t0::ts).map teD))]=VL.ret (teD (FS (t0::ts) t0):Hh):=by
 refine ah fun Q=>⟨?_,fun q_=>⟨t0,ts,rfl,hq,q_⟩⟩
 rintro⟨t0',ts',e_,_,q_⟩
 simp_arith only[cM,br,bv,aE,aH,bG,cS,dI,d8,dG,dY,dE,dU,and_assoc]at e_
 obtain⟨rfl,rfl⟩:=e_
 exact q_
theorem eX:FnScope ["rows", "best", "row"] ["rows"] (defScope (Ee 34)):=⟨rfl,rfl,rfl,by decide +kernel,rfl,by decide +kernel,by decide +kernel⟩
theorem d_first_greatest(Fn:FnIn K mg "first_greatest" (Ee 34) ["rows"])(Z:Bz mg)(d_is_below:∀rl,Dfn P w K mg base rl "is_below" ["one", "other"] 1 bq)   : Dfn P w K mg base rl "first_greatest" ["rows"] 2 aB:=by
 have sc:=eX
 refine Dfn.of Fn sc (aB.mono) (aB.len) (fun cdv A outer s H E hr=>(af (al 1 sc.nd (aL (vn 0) ac))
  (af (bo [2] Ig rfl (aJ (vn 0)) (ai 2 sc.nd) (aj (bO (cu (ak (d_is_below _) (hr.mono (by decide)) (aa (aL (vn 1) ac) (aa (aL (vn 2) ac) ab)))) (aj (al 1 sc.nd (vn 2))) aK)))
  (aj (ar (vn 1)))))) ?_
 rintro ws Q ⟨t0,ts,rfl,hq,hQ⟩
 refine az ?_
 have e0:atI ((t0::ts).map teD) 0=some (teD t0):=by rw[cr,show(0:Int)=((0:Nat):Int)from rfl,cP (by rfl)];rfl
 simp_arith only[ag,ae,e0]
 refine cy (xs:=t0::ts) (enc:=teD) (fun i ρ=>FS ((t0::ts).take i) t0∈t0::ts/\ρ=[some (.d (.list ((t0::ts).map teD))),some (.d (teD (FS ((t0::ts).take i) t0))),none]) rfl ⟨Hy,rfl⟩ ?_ ?_
 · rintro i hi ρ ⟨mt,rfl⟩ K hK
   have mi:=Iv hi
   have tk:FS ((t0::ts).take (i+1)) t0=if(FS ((t0::ts).take i) t0).1<((t0::ts)[i]).1 then(t0::ts)[i]else FS ((t0::ts).take i) t0:=by
    unfold FS;rw[HI hi,JD];rfl
   generalize (t0::ts)[i]=r at mi tk ⊢
   generalize FS ((t0::ts).take i) t0=t at mt tk ⊢
   have q1:=hq t mt
   have q2:=hq r mi
   have i1:∀t:Gh,itemAt (teD t) 0=some (fr t.1):=fun t=>rfl
   by_cases hlt:t.1<r.1
   · have d:decide (t.1<r.1)=true:=decide_eq_true hlt
     rw[if_pos hlt]at tk
     simp_arith only[ag,ae,i1,bq.eq,d]
     exact hK _ (bK ⟨by rw[tk];exact mi,by rw[tk];rfl⟩)
   · have d:decide (t.1<r.1)=false:=decide_eq_false hlt
     rw[if_neg hlt]at tk
     simp_arith only[ag,ae,i1,bq.eq,d]
     exact hK _ (bK ⟨by rw[tk];exact mt,by rw[tk];rfl⟩)
 · rintro ρ ⟨mt,rfl⟩
   rw[HE (Hs _)]
   simp_arith only[ag,ae]
   exact ax hQ
theorem tR{α:Type}:∀(rows:List (List α))(ch:List (List α)),ch≠[]->(∀r∈rows,r≠[])->rows.foldl (fun ch r=>ch.flatMap fun b=>r.map fun t=>b++[t]) ch≠[]
 | [],ch,h,_=>h
 | r::rows,ch,h,hr=>by
   refine tR rows _ ?_ fun x mx=>hr x (Ht _ mx)
   obtain⟨b,bs,rfl⟩:=KO h
   obtain⟨t,ts,e⟩:=KO (hr r Hy)
   rw[e]
   simp
theorem xK(f:Nat)(rs:List Rat):slS f rs≠[]:=by
 have h:Sd.from (-1) 1∈slFS rs:=Jh.mpr ⟨-1,Hy,Jd.mpr ⟨1,HK _ Hy,by rw[if_pos (by decide)]⟩⟩
 unfold slS
 split
 · simp
 · split
   · exact List.ne_nil_of_mem h
   · exact List.ne_nil_of_mem (JO _ h)
noncomputable def msL(f:Nat)(ps:List (List Rat)):List Gh:=(chP (rowsS f ps)).flatMap (E7 ps)
theorem lR(f:Nat)(ps:List (List Rat)):∃t ts,msL f ps=t::ts:=by
 have h:chP (rowsS f ps)≠[]:=tR (rowsS f ps) [[]] (by simp) fun r mr=>by
  obtain⟨j,_,rfl⟩:=IA.mp mr
  exact xK f _
 obtain⟨b,bs,e⟩:=KO h
 refine⟨(ET ps b, "over", b),(Fz ps b, "lack", b)::bs.flatMap (E7 ps),?_⟩
 unfold msL
 rw[e,IB]
 rfl
noncomputable def DY(f:Nat)(ps:List (List Rat)):Gh:=FS (msL f ps) ((msL f ps).headD (0, "", []))
theorem tD(hw:Gb f ps):∀t∈msL f ps,EN 900 t.1:=fun t mt=>by
 have hsm:=hw.sm (Hs _)
 have el:=cH f ps
 rw[HE (by omega)]at hsm
 obtain⟨ss,ms,h⟩:=Jh.mp mt
 obtain⟨sl,sm⟩:=hsm ss ms
 have o:=oV hw.1.1.1 (by have:=hw.2.1;omega) (show ss.length<=4 by have:=hw.1.1.2.2.2.2;omega) sm
 rcases HN.mp h with rfl|h
 · exact o.1
 · rw[Ie.mp h];exact o.2
noncomputable def d0:List W->(Hh->Prop)->Prop:=fun ws Q=>∃(ps:List (List Rat))(f:Fin 3),ws=[.d (ptsQ ps),.d (.str (ck f))]/\((Gb f.val ps))/\Q (teD (DY f.val ps))
theorem d0.mono:∀ws (Q Q':Hh->Prop),(∀d,Q d->Q' d)->d0 ws Q->d0 ws Q':=fun _ _ _ h_=>HA fun _=>HA fun _=>Hn (Hn (h_ _))
theorem d0.len:∀ws (Q:Hh->Prop),d0 ws Q->ws.length=2:=fun _ _ h_=>by obtain⟨_,_,e_,_⟩:=h_;subst e_;rfl
theorem d0.eq(ps:List (List Rat))(f:Fin 3)(hw:Gb f.val ps):d0 [.d (ptsQ ps),.d (.str (ck f))]=VL.ret (teD (DY f.val ps):Hh):=by
 refine ah fun Q=>⟨?_,fun q_=>⟨ps,f,rfl,hw,q_⟩⟩
 rintro⟨ps',f',e_,_,q_⟩
 simp_arith only[cM,br,bv,aE,aH,bG,cS,dI,d8,dG,dY,dE,dU,and_assoc]at e_
 obtain⟨rfl,rfl⟩:=e_
 exact q_
theorem qP:FnScope ["points", "family"] ["points", "family"] (defScope (Ee 35)):=⟨rfl,rfl,rfl,by decide +kernel,rfl,by decide +kernel,by decide +kernel⟩
theorem d_worst(Fn:FnIn K mg "worst" (Ee 35) ["points", "family"])(Z:Bz mg)(d_first_greatest:∀rl,Dfn P w K mg base rl "first_greatest" ["rows"] 2 aB)(d_misses:∀rl,Dfn P w K mg base rl "misses" ["points", "family"] 7 cK)   : Dfn P w K mg base rl "worst" ["points", "family"] 8 d0:=by
 have sc:=qP
 refine Dfn.of Fn sc (d0.mono) (d0.len) (fun cdv A outer s H E hr=>(aj (ar (ak (d_first_greatest _) (hr.mono (by decide)) (aa (ak (d_misses _) (hr.mono (by decide)) (aa (vn 0) (aa (vn 1) ab))) ab))))) ?_
 rintro ws Q ⟨ps,f,rfl,hw,hQ⟩
 refine az ?_
 have em:((chP (rowsS f.val ps)).flatMap (E7 ps)).map teD=(msL f.val ps).map teD:=rfl
 have hq:=fun t mt=>(tD hw t mt).mono (show 900<=2000 by decide)
 have ew:DY f.val ps=FS (msL f.val ps) ((msL f.val ps).headD (0, "", [])):=rfl
 simp_arith only[ag,ae,cK.eq,em]
 obtain⟨t,ts,e⟩:=lR f.val ps
 rw[e]at hq ew ⊢
 rw[ew]at hQ
 have pf:aB [.d (.list (teD t::ts.map teD))]=VL.ret (teD (FS (t::ts) t):Hh):=aB.eq t ts hq
 simp_arith only[ag,ae,pf]
 exact ax hQ
theorem Dz:EN 1 0:=⟨by decide,by decide⟩
noncomputable def Gv(s:Sd):Prop:=EN 2000 s.first/\EN 2000 s.last
theorem oj{s:Sd}(h:s.Sm):Gv s:=⟨h.1.up,h.2.up⟩
noncomputable def DX(b:Bool):Int:=if b then 1 else 2
noncomputable def DW(b:Bool):Str:=if b then "shut" else "open"
theorem wJ{a b:Bool}:DX a=DX b↔a=b:=by revert a b;decide
theorem jt(xs:List α)(f:α->Hh){k:Int}(h:0<=k):VL.cutD (xs.map f) (some k) none=(xs.drop k.toNat).map f:=by
 unfold VL.cutD
 rw[HT.sIx_none,ox h,Hu,<- Nj,<- K5]
 congr 1
 by_cases z:k.toNat<=xs.length
 · rw[LI z,HE (by rw[Kt];omega)]
 · rw[Mj (by omega),K9 (by omega),K9 (by omega)];simp
theorem iN(q r:Rat):decide (FT q r<1) = !decide (r<q):=by
 unfold FT
 by_cases h:r<q
 · rw[if_pos h];simp[h]
 · rw[if_neg h];split<;>simp[h]
theorem gS(x:Hh)(xs:List Hh):VL.cutD (x::xs) (some 1) none=xs:=by
 have h:VL.cutD ((x::xs).map id) (some 1) none=((x::xs).drop (1:Int).toNat).map id:=jt (x::xs) id (by decide)
 rw[M6,M6]at h
 exact h
theorem oK{x d:Int}(hd:0<d)(h:0<x):0<qd x d:=by
 refine LX (qU hd (by omega)) fun e=>?_
 have:=qV (a:=x) hd
 rw[<- e]at this
 simp at this
 omega
theorem ya(x:Int){d:Int}:qd (-x) d = -(qd x d):=by
 unfold qd
 rw[Rat.intCast_neg,KE,KE,Rat.neg_mul]
theorem AF{x d:Int}(hd:0<d):qd (max 0 x) d=mx (qd x d) 0:=by
 unfold mx
 rcases Int.lt_trichotomy x 0 with h|h|h
 · have e:max 0 x=0:=by omega
   have p:=oK hd (show 0 < -x by omega)
   rw[ya]at p
   have:qd x d<0:=by grind
   rw[if_pos this,e]
   unfold qd;rw[KE];show(0:Rat)*_=0;rw[Rat.zero_mul]
 · subst h
   have e:qd 0 d=0:=by unfold qd;rw[KE];show(0:Rat)*_=0;rw[Rat.zero_mul]
   rw[show max 0 (0:Int)=0 from rfl,e,if_neg (by decide)]
 · have e:max 0 x=x:=by omega
   rw[e,if_neg (Jx.mpr (Jl (oK hd h)))]
theorem sW{d:Int}(hd:0<d):qd d d=1:=by
 unfold qd
 rw[KE]
 exact Rat.mul_inv_cancel _ (by intro z;have e:d=0:=by exact_mod_cast z
                                omega)
theorem yc(a b:Int){d:Int}(h:0<d):qd (a+b) d=qd a d+qd b d:=by
 unfold qd
 rw[Rat.intCast_add,KE,KE,KE,Rat.add_mul]
theorem AG{x d:Int}(hd:0<d):qd (min d (d+x)) d=mn (1+qd x d) 1:=by
 unfold mn
 by_cases h:x<0
 · have p:=oK hd (show 0 < -x by omega)
   rw[ya]at p
   rw[show min d (d+x)=d+x by omega,yc _ _ hd,sW hd,if_pos (by grind)]
 · have p:=qU hd (show 0<=x by omega)
   rw[show min d (d+x)=d by omega,sW hd,if_neg (by grind)]
theorem nl(x y z:Hh):atI [x,y,z] 2=some z:=rfl
theorem nn(x y z:Hh):atI [x,y,z] 1=some y:=rfl
noncomputable def aI:List W->(Hh->Prop)->Prop:=fun ws Q=>∃(s:Sd),ws=[.d (EG s)]/\((Gv s))/\Q (fr (Es s))
theorem aI.mono:∀ws (Q Q':Hh->Prop),(∀d,Q d->Q' d)->aI ws Q->aI ws Q':=fun _ _ _ h_=>HA fun _=>Hn (Hn (h_ _))
theorem aI.len:∀ws (Q:Hh->Prop),aI ws Q->ws.length=1:=fun _ _ h_=>by obtain⟨_,e_,_⟩:=h_;subst e_;rfl
theorem aI.eq(s:Sd)(hs:Gv s):aI [.d (EG s)]=VL.ret (fr (Es s):Hh):=by
 refine ah fun Q=>⟨?_,fun q_=>⟨s,rfl,hs,q_⟩⟩
 rintro⟨s',e_,_,q_⟩
 simp_arith only[cM,br,bv,aE,aH,bG]at e_
 obtain rfl:=e_
 exact q_
theorem eZ:FnScope ["_law_side", "_law_ends", "_law_bottom", "_law_more"] ["_law_side"] (defScope (Ee 48)):=⟨rfl,rfl,rfl,by decide +kernel,rfl,by decide +kernel,by decide +kernel⟩
theorem d__law_side_size(Fn:FnIn K mg "_law_side_size" (Ee 48) ["_law_side"])(Z:Bz mg)(d__law_frac:∀rl,Dfn P w K mg base rl "_law_frac" ["_law_top", "_law_bottom"] 1 a_)   : Dfn P w K mg base rl "_law_side_size" ["_law_side"] 2 aI:=by
 have sc:=eZ
 refine Dfn.of Fn sc (aI.mono) (aI.len) (fun cdv A outer s H E hr=>(af (cn 1 sc.nd ["_law_one"] [none] rfl (dn (mN (vn 0) (dQ ac) dR)) (fun _=>(ai 0 (show Iy (["_law_one"]:List Str) by decide +kernel))) (fun _=>b8) (fun _=>(gt (aA m_ mL (av _) (aL (vn 0) ac) ac) (vn 0) (bp (aa ac (aa ac ab))))))
  (af (bO (aA dF cx (av _) (aL (vn 0) ac) aD) (aj (ar (aL (vn 1) ac))) aK)
  (af (al 2 sc.nd (v_mul (aL (aL (vn 1) ac) ac) (aL (aL (vn 1) ac) ac)))
  (af (al 3 sc.nd (v_sub (v_mul (aL (aL (vn 1) ac) ac) (aL (aL (vn 1) ac) ac)) (v_mul (aL (aL (vn 1) ac) ac) (aL (aL (vn 1) ac) ac))))
  (af (bO (aA dF cx (av _) (aL (vn 0) ac) aD) (aj (ar (ak (d__law_frac _) (hr.mono (by decide)) (aa (xg Z.max_ (aa ac (aa (vn 3) ab))) (aa (vn 2) ab))))) aK)
  (aj (ar (ak (d__law_frac _) (hr.mono (by decide)) (aa (xb Z.min_ (aa (vn 2) (aa (v_add (vn 2) (vn 3)) ab))) (aa (vn 2) ab))))))))))) ?_
 rintro ws Q ⟨s,rfl,hs,hQ⟩
 have w1:decide (Hi "from" = Hi "to")=false:=by decide +kernel
 have w2:decide (Hi "round" = Hi "to")=false:=by decide +kernel
 have w3:decide (Hi "round" = Hi "from")=false:=by decide +kernel
 have w4:decide (Hi "to" = Hi "to")=true:=by decide +kernel
 have w5:decide (Hi "from" = Hi "from")=true:=by decide +kernel
 have s1:HU (Iw "to")=true:=by decide +kernel
 have s2:HU (Iw "from")=true:=by decide +kernel
 have s3:HU (Iw "round")=true:=by decide +kernel
 have hw1:decide (Hi "half" = Hi "shut")=false:=by decide +kernel
 have hw2:decide (Hi "half" = Hi "open")=false:=by decide +kernel
 have eqi:∀i j:Int,HQ (.int i) (.int j)=(i==j):=fun i j=>by simp[HQ]
 refine az ?_
 have sz:=HM
 have mxe:∀q:Rat,(if decide (0<q.num)=true then fr q else Io [.int 0,.int 1])=fr (mx q 0):=fun q=>by
  unfold mx
  by_cases h:0<q.num
  · rw[if_pos (by simpa using h),if_neg];exact Jx.mpr (Rat.num_nonneg.mp (by omega))
  · rw[if_neg (by simpa using h)]
    by_cases h2:q<0
    · rw[if_pos h2];rfl
    · rw[if_neg h2]
      have h3:=Rat.num_nonneg.mpr (Jx.mp h2)
      have e:q=0:=Rat.num_eq_zero.mp (by omega)
      rw[e];rfl
 obtain⟨a1,a2⟩:=hs
 cases s with
 | to t =>
   simp_arith only[ag,ae,Hd,w1,w2,w3,w4,w5,EG,gS]
   refine Ey (bH (xs:=[t]) (enc:=fr) (fun q=>fr (mx q 0)) rfl ?_ (by simp;omega) ?_)
   · intro q mq
     simp_arith only[ag,ae,FB,Hd]
     rw[mxe q]
   · simp_arith only[ag,ae,Hd,w1,w2,w3,w4,w5,eQ]
     exact ax hQ
 | «from» a b =>
   have a1:EN 2000 a:=a1
   have a2:EN 2000 b:=a2
   simp_arith only[ag,ae,Hd,w1,w2,w3,w4,w5,EG,gS]
   refine Ey (bH (xs:=[a,b]) (enc:=fr) (fun q=>fr (mx q 0)) rfl ?_ (by simp;omega) ?_)
   · intro q mq
     simp_arith only[ag,ae,FB,Hd]
     rw[mxe q]
   have x1:EN 2000 (mx a 0):=eK a1 (Dz.mono (by decide))
   have x2:EN 2000 (mx b 0):=eK a2 (Dz.mono (by decide))
   have n1:aV ((mx a 0).den:Int) ((mx b 0).den:Int):=.bb x1.bd x2.bd
   have n2:aV (mx b 0).num ((mx a 0).den:Int):=.bb x2.bn x1.bd
   have n3:aV (mx a 0).num ((mx b 0).den:Int):=.bb x1.bn x2.bd
   have hb:0<((mx a 0).den:Int)*((mx b 0).den:Int):=den_pos _ _
   have hz:(((mx a 0).den:Int)*((mx b 0).den:Int)).natAbs<2^8000:=by
    rw[Jv,Iq,Iq]
    exact Hr (bZ x1.2 x2.2) (HF (by decide) (by decide))
   have ed:qd ((mx b 0).num*((mx a 0).den:Int)-(mx a 0).num*((mx b 0).den:Int)) (((mx a 0).den:Int)*((mx b 0).den:Int))=mx b 0-mx a 0:=by rw[Nu ((mx a 0).den:Int)];exact oJ (mx b 0) (mx a 0)
   simp_arith only[ag,ae,Hd,w1,w2,w3,w4,w5,eQ,a_.eq]
   rw[AF hb,ed]
   exact ax hQ
 | round a b =>
   have a1:EN 2000 a:=a1
   have a2:EN 2000 b:=a2
   simp_arith only[ag,ae,Hd,w1,w2,w3,w4,w5,EG,gS]
   refine Ey (bH (xs:=[a,b]) (enc:=fr) (fun q=>fr (mx q 0)) rfl ?_ (by simp;omega) ?_)
   · intro q mq
     simp_arith only[ag,ae,FB,Hd]
     rw[mxe q]
   have x1:EN 2000 (mx a 0):=eK a1 (Dz.mono (by decide))
   have x2:EN 2000 (mx b 0):=eK a2 (Dz.mono (by decide))
   have n1:aV ((mx a 0).den:Int) ((mx b 0).den:Int):=.bb x1.bd x2.bd
   have n2:aV (mx b 0).num ((mx a 0).den:Int):=.bb x2.bn x1.bd
   have n3:aV (mx a 0).num ((mx b 0).den:Int):=.bb x1.bn x2.bd
   have hb:0<((mx a 0).den:Int)*((mx b 0).den:Int):=den_pos _ _
   have hz:(((mx a 0).den:Int)*((mx b 0).den:Int)).natAbs<2^8000:=by
    rw[Jv,Iq,Iq]
    exact Hr (bZ x1.2 x2.2) (HF (by decide) (by decide))
   have ed:qd ((mx b 0).num*((mx a 0).den:Int)-(mx a 0).num*((mx b 0).den:Int)) (((mx a 0).den:Int)*((mx b 0).den:Int))=mx b 0-mx a 0:=by rw[Nu ((mx a 0).den:Int)];exact oJ (mx b 0) (mx a 0)
   simp_arith only[ag,ae,Hd,w1,w2,w3,w4,w5,eQ,a_.eq]
   rw[AG hb,ed]
   exact ax hQ
noncomputable def bY:List W->(Hh->Prop)->Prop:=fun ws Q=>∃(x:Rat)(s:Sd)(b:Bool),ws=[.d (fr x),.d (EG s),.d (.int (DX b))]/\((EN 2000 x)/\(Gv s))/\Q (.bool (Fg s (DW b) x))
theorem bY.mono:∀ws (Q Q':Hh->Prop),(∀d,Q d->Q' d)->bY ws Q->bY ws Q':=fun _ _ _ h_=>HA fun _=>HA fun _=>HA fun _=>Hn (Hn (h_ _))
theorem bY.len:∀ws (Q:Hh->Prop),bY ws Q->ws.length=3:=fun _ _ h_=>by obtain⟨_,_,_,e_,_⟩:=h_;subst e_;rfl
theorem bY.eq(x:Rat)(s:Sd)(b:Bool)(h1:EN 2000 x)(hs:Gv s):bY [.d (fr x),.d (EG s),.d (.int (DX b))]=VL.ret (.bool (Fg s (DW b) x):Hh):=by
 refine ah fun Q=>⟨?_,fun q_=>⟨x,s,b,rfl,⟨h1,hs⟩,q_⟩⟩
 rintro⟨x',s',b',e_,_,q_⟩
 simp_arith only[cM,br,bv,aE,aH,bG,wJ]at e_
 obtain⟨rfl,rfl,rfl⟩:=e_
 exact q_
theorem jM:FnScope ["_law_x", "_law_side", "_law_way", "_law_ahead", "_law_behind"] ["_law_x", "_law_side", "_law_way"] (defScope (Ee 47)):=⟨rfl,rfl,rfl,by decide +kernel,rfl,by decide +kernel,by decide +kernel⟩
theorem d__law_lies(Fn:FnIn K mg "_law_lies" (Ee 47) ["_law_x", "_law_side", "_law_way"])(Z:Bz mg)(d__law_cmp:∀rl,Dfn P w K mg base rl "_law_cmp" ["_law_one", "_law_other"] 1 aS)   : Dfn P w K mg base rl "_law_lies" ["_law_x", "_law_side", "_law_way"] 2 bY:=by
 have sc:=jM
 refine Dfn.of Fn sc (bY.mono) (bY.len) (fun cdv A outer s H E hr=>(af (al 3 sc.nd (eB gJ gl (av _) (ak (d__law_cmp _) (hr.mono (by decide)) (aa (vn 0) (aa (aL (vn 1) (v_sub (ce Z.len_ (aa (vn 1) ab)) ac)) ab))) (ie Z.int_ (aa (eB (dz hr.units) b9 (av _) (vn 2) ac) ab))))
  (af (bO (aA dF cx (av _) (aL (vn 1) ac) aD) (aj (ar (vn 3))) aK)
  (af (al 4 sc.nd (eB gJ gl (av _) (ak (d__law_cmp _) (hr.mono (by decide)) (aa (aL (vn 1) ac) (aa (vn 0) ab))) (ie Z.int_ (aa (eB (dN hr.units) b9 (av _) (vn 2) ac) ab))))
  (aj (ar (gt (aA dF cx (av _) (aL (vn 1) ac) aD) (v_and (vn 4) (nM (vn 3))) (v_or (vn 4) (nM (vn 3)))))))))) ?_
 rintro ws Q ⟨x,s,b,rfl,⟨h1,hs⟩,hQ⟩
 have w1:decide (Hi "from" = Hi "to")=false:=by decide +kernel
 have w2:decide (Hi "round" = Hi "to")=false:=by decide +kernel
 have w3:decide (Hi "round" = Hi "from")=false:=by decide +kernel
 have w4:decide (Hi "to" = Hi "to")=true:=by decide +kernel
 have w5:decide (Hi "from" = Hi "from")=true:=by decide +kernel
 have s1:HU (Iw "to")=true:=by decide +kernel
 have s2:HU (Iw "from")=true:=by decide +kernel
 have s3:HU (Iw "round")=true:=by decide +kernel
 have eqi:∀i j:Int,HQ (.int i) (.int j)=(i==j):=fun i j=>by simp[HQ]
 have hw1:decide (Hi "shut" = Hi "shut")=true:=by decide +kernel
 have hw2:decide (Hi "shut" = Hi "open")=false:=by decide +kernel
 have hw3:decide (Hi "open" = Hi "shut")=false:=by decide +kernel
 have hw4:decide (Hi "open" = Hi "open")=true:=by decide +kernel
 have y1:DX true=1:=rfl
 have y2:DX false=2:=rfl
 have z1:DW true=Hi "shut" := rfl
 have z2:DW false=Hi "open" := rfl
 refine az ?_
 obtain⟨a1,a2⟩:=hs
 cases s with
 | to t =>
   have a2:EN 2000 t:=a2
   cases b
   · rw[y2]
     rw[z2]at hQ
     simp_arith only[ag,ae,Hd,w1,w2,w3,w4,w5,EG,eqi,eQ,nl,nn,aS.eqQ,gU,iN]
     simp only[Fg,FO,Sd.last,Sd.first,hw1,hw2,hw3,hw4,IT,↓reduceIte,Kx,KJ,if_true,if_false]at hQ
     exact ax hQ
   · rw[y1]
     rw[z1]at hQ
     simp_arith only[ag,ae,Hd,w1,w2,w3,w4,w5,EG,eqi,eQ,nl,nn,aS.eqQ,gU,iN]
     simp only[Fg,FO,Sd.last,Sd.first,hw1,hw2,hw3,hw4,IT,↓reduceIte,Kx,KJ,if_true,if_false]at hQ
     exact ax hQ
 | «from» a c =>
   have a1:EN 2000 a:=a1
   have a2:EN 2000 c:=a2
   cases b
   · rw[y2]
     rw[z2]at hQ
     simp_arith only[ag,ae,Hd,w1,w2,w3,w4,w5,EG,eqi,eQ,nl,nn,aS.eqQ,gU,iN]
     simp only[Fg,FO,Sd.last,Sd.first,hw1,hw2,hw3,hw4,IT,↓reduceIte,Kx,KJ,if_true,if_false]at hQ
     exact ax hQ
   · rw[y1]
     rw[z1]at hQ
     simp_arith only[ag,ae,Hd,w1,w2,w3,w4,w5,EG,eqi,eQ,nl,nn,aS.eqQ,gU,iN]
     simp only[Fg,FO,Sd.last,Sd.first,hw1,hw2,hw3,hw4,IT,↓reduceIte,Kx,KJ,if_true,if_false]at hQ
     exact ax hQ
 | round a c =>
   have a1:EN 2000 a:=a1
   have a2:EN 2000 c:=a2
   cases b
   · rw[y2]
     rw[z2]at hQ
     simp_arith only[ag,ae,Hd,w1,w2,w3,w4,w5,EG,eqi,eQ,nl,nn,aS.eqQ,gU,iN]
     simp only[Fg,FO,Sd.last,Sd.first,hw1,hw2,hw3,hw4,IT,↓reduceIte,Kx,KJ,if_true,if_false]at hQ
     exact ax hQ
   · rw[y1]
     rw[z1]at hQ
     simp_arith only[ag,ae,Hd,w1,w2,w3,w4,w5,EG,eqi,eQ,nl,nn,aS.eqQ,gU,iN]
     simp only[Fg,FO,Sd.last,Sd.first,hw1,hw2,hw3,hw4,IT,↓reduceIte,Kx,KJ,if_true,if_false]at hQ
     exact ax hQ
noncomputable def Ew(col:List Rat)(s:Sd):Hh:=.tuple [EG s,fr (Es s),.int (E6 (Ff "shut" col s):Nat),.int (E6 (Ff "open" col s):Nat)]
theorem vS(b:Nat->Bool)(n:Nat):((Ip n).filterMap fun j=>if b j=true then some (HB ((1:Int)*2^j))else none)=((Ip n).filterMap fun j=>if b j=true then some ((1:Int)*2^j)else none).map HB:=lh (fun j=>b j=true) (fun j=>(1:Int)*2^j) HB _
noncomputable def aU:List W->(Hh->Prop)->Prop:=fun ws Q=>∃(ps:List (List Rat))(j:Int)(f:Fin 3),ws=[.d (ptsQ ps),.d (.int j),.d (.str (ck f))]/\((Gb f.val ps)/\(0<=j)/\(j<dimP ps))/\Q (.list ((slS f.val (nuQ ps j.toNat)).map (Ew (colQ ps j.toNat))))
theorem aU.mono:∀ws (Q Q':Hh->Prop),(∀d,Q d->Q' d)->aU ws Q->aU ws Q':=fun _ _ _ h_=>HA fun _=>HA fun _=>HA fun _=>Hn (Hn (h_ _))
theorem aU.len:∀ws (Q:Hh->Prop),aU ws Q->ws.length=3:=fun _ _ h_=>by obtain⟨_,_,_,e_,_⟩:=h_;subst e_;rfl
theorem aU.eq(ps:List (List Rat))(j:Int)(f:Fin 3)(hw:Gb f.val ps)(j0:0<=j)(jl:j<dimP ps):aU [.d (ptsQ ps),.d (.int j),.d (.str (ck f))]=VL.ret (.list ((slS f.val (nuQ ps j.toNat)).map (Ew (colQ ps j.toNat))):Hh):=by
 refine ah fun Q=>⟨?_,fun q_=>⟨ps,j,f,rfl,⟨hw,j0,jl⟩,q_⟩⟩
 rintro⟨ps',j',f',e_,_,q_⟩
 simp_arith only[cM,br,bv,aE,aH,bG,cS,dI,d8,dG,dY,dE,dU,and_assoc]at e_
 obtain⟨rfl,rfl,rfl⟩:=e_
 exact q_
theorem ff:FnScope ["_law_points_here", "_law_side", "_law_family", "_law_column", "_law_found", "_law_one", "_law_bits", "_law_way"] ["_law_points_here", "_law_side", "_law_family"] (defScope (Ee 49)):=⟨rfl,rfl,rfl,by decide +kernel,rfl,by decide +kernel,by decide +kernel⟩
theorem d__law_side_rows(Fn:FnIn K mg "_law_side_rows" (Ee 49) ["_law_points_here", "_law_side", "_law_family"])(Z:Bz mg)(d__law_side_looks:∀rl,Dfn P w K mg base rl "_law_side_looks" ["_law_numbers", "_law_family"] 2 aN)(d__law_sorted:∀rl,Dfn P w K mg base rl "_law_sorted" ["_law_some"] 2 bw)(d__law_side_size:∀rl,Dfn P w K mg base rl "_law_side_size" ["_law_side"] 2 aI)(d__law_lies:∀rl,Dfn P w K mg base rl "_law_lies" ["_law_x", "_law_side", "_law_way"] 2 bY)   : Dfn P w K mg base rl "_law_side_rows" ["_law_points_here", "_law_side", "_law_family"] 3 aU:=by
 have sc:=ff
 refine Dfn.of Fn sc (aU.mono) (aU.len) (fun cdv A outer s H E hr=>(af (cn 3 sc.nd ["_law_point", "_law_side"] [none,some 1] rfl (dn (vn 0)) (fun _=>(ai 0 (show Iy (["_law_point", "_law_side"]:List Str) by decide +kernel))) (fun _=>b8) (fun _=>(aL (vn 0) (vn 1))))
  (af (d_ 4 sc.nd (cf ab))
  (af (bo [5,6,7] Ig rfl (aJ (ak (d__law_side_looks _) (hr.mono (by decide)) (aa (ak (d__law_sorted _) (hr.mono (by decide)) (aa (vn 3) ab)) (aa (vn 2) ab)))) (ai 5 sc.nd) (af (d_ 6 sc.nd (cf ab))
  (af (bo [7] Ig rfl (dn (bp (aa ac (aa ac ab)))) (ai 7 sc.nd) (aj (fv 6 (aa (v_sum Z.sum_ (aa (bc ["_law_k", "_law_column", "_law_one", "_law_way"] [none,some 3,some 5,some 7] rfl (bT Z.range_ (aa (ce Z.len_ (aa (vn 3) ab)) ab)) (fun _=>(ai 0 (show Iy (["_law_k", "_law_column", "_law_one", "_law_way"]:List Str) by decide +kernel))) (fun _=>dJ (cu (ak (d__law_lies _) (hr.mono (by decide)) (aa (aL (vn 1) (vn 0)) (aa (vn 2) (aa (vn 3) ab)))))) (fun _=>(v_shl ac (vn 0)))) ab)) ab))))
  (aj (fv 4 (aa (bp (aa (vn 5) (aa (ak (d__law_side_size _) (hr.mono (by decide)) (aa (vn 5) ab)) (aa (aL (vn 6) ac) (aa (aL (vn 6) ac) ab))))) ab))))))
  (aj (ia 4 (ar (vn 4)))))))) ?_
 rintro ws Q ⟨ps,j,f,rfl,⟨hw,j0,jl⟩,hQ⟩
 refine az ?_
 have sz:=HM
 have hN:=hw.1
 have hP:=hN.1
 have h8:=hw.2.1
 have hj:j.toNat<dimP ps:=by omega
 have ej:((j.toNat:Nat):Int)=j:=by omega
 have hr:=hN.2 j.toNat hj
 have c40:(colQ ps j.toNat).length<=40:=by unfold colQ;rw[Hu];omega
 have c8:(colQ ps j.toNat).length<=8:=by unfold colQ;rw[Hu];omega
 have cg:∀q∈colQ ps j.toNat,Gd q:=fun q mq=>hr.2 q (((im (colQ ps j.toNat)).2 q).mpr mq)
 have en:Ev (colQ ps j.toNat)=nuQ ps j.toNat:=rfl
 have esl:=qO f.val (nuQ ps j.toNat)
 have hEs:=jH (f:=f.val) hr
 have El:(slS f.val (nuQ ps j.toNat)).length<=200:=by
  have h1:=iy hr.1
  have h2:=lH hr.1
  have h3:=hr.1
  rw[lJ,Hu]at h1
  rw[om,Hu]at h2
  unfold slS
  split
  · simp;omega
  · split
    · omega
    · rw[HC];omega
 simp_arith only[ag,ae,Hd]
 refine Ey (bH (xs:=ps) (enc:=EQ) (fun p=>fr (p.getD j.toNat 0)) rfl ?_ (by omega) ?_)
 · intro p mp
   have e:=ju (pN hP.2.2.1) hj p mp
   rw[ej]at e
   simp_arith only[ag,ae,FB,Hd,e]
 have e1:ps.map (fun p=>fr (p.getD j.toNat 0))=(colQ ps j.toNat).map fr:=by unfold colQ;rw[Jg];rfl
 rw[e1]
 simp_arith only[ag,ae,bw.eq,en,aN.eq,esl]
 generalize slS f.val (nuQ ps j.toNat)=E at hEs El hQ ⊢
 generalize colQ ps j.toNat=col at c40 c8 cg hQ ⊢
 refine cy (xs:=E) (enc:=EG) (fun i ρ=>ρ=[some (.d (ptsQ ps)),some (.d (.int j)),some (.d (.str (ck f))),some (.d (.list (col.map fr))),some (.ml ((E.take i).map (Ew col))),none,none,none]) rfl rfl ?_ ?_
 · rintro i hi ρ rfl K hK
   have hs:=oj (hEs _ (Iv hi))
   have fin:∀ρ,fo [5,6,7] ρ=[some (.d (ptsQ ps)),some (.d (.int j)),some (.d (.str (ck f))),some (.d (.list (col.map fr))),some (.ml ((E.take i).map (Ew col)++[Ew col E[i]])),none,none,none]->K (.nx ρ):=fun ρ e=>hK _ (bK (by rw[e,HI hi,Iu];rfl))
   generalize E[i]=s at hs fin ⊢
   have tz:(E.take i).length<sizeLine:=by rw[Iz];omega
   generalize E.take i=T at tz fin ⊢
   simp_arith only[ag,ae]
   refine cy (xs:=[true,false]) (enc:=fun b=>HB (DX b)) (fun m ρ=>ρ=[some (.d (ptsQ ps)),some (.d (.int j)),some (.d (.str (ck f))),some (.d (.list (col.map fr))),some (.ml (T.map (Ew col))),some (.d (EG s)),some (.ml (([true,false].take m).map fun b=>HB (E6 (Ff (DW b) col s):Nat))),none]) rfl rfl ?_ ?_
   · rintro m hm ρ rfl K2 hK2
     have hm2:m<2:=hm
     have fin2:∀ρ,fo [7] ρ=[some (.d (ptsQ ps)),some (.d (.int j)),some (.d (.str (ck f))),some (.d (.list (col.map fr))),some (.ml (T.map (Ew col))),some (.d (EG s)),some (.ml (([true,false].take m).map (fun b=>HB (E6 (Ff (DW b) col s):Nat))++[HB (E6 (Ff (DW [true,false][m]) col s):Nat)])),none]->K2 (.nx ρ):=fun ρ e=>hK2 _ (bK (by rw[e,HI hm,Iu];rfl))
     have ul:([true,false].take m).length<sizeLine:=by rw[Iz];show min m 2<_;omega
     generalize [true,false][m]=b at fin2 ⊢
     generalize [true,false].take m=U at ul fin2 ⊢
     have gn : -(2^62)<=((col.length:Nat):Int)/\((col.length:Nat):Int)<2^62:=by omega
     simp_arith only[ag,ae]
     refine wm (fun k=>if Fg s (DW b) (col.getD k 0)=true then some (HB ((1:Int)*2^k))else none) ?_ (by omega) ?_
     · intro k hk
       have e:=eU (xs:=col) 0 (show(0:Int)<=0+(k:Int) by omega) (by omega)
       rw[show(0+(k:Int)).toNat=k by omega]at e
       have x1:EN 2000 (col.getD k 0):=((cg _ (getD_mem hk)).1).mono (by decide)
       have cp:tU 1 (0+(k:Int)):=⟨by omega,by omega,by decide⟩
       have tk:(0+(k:Int)).toNat=k:=by omega
       have e2:atI (col.map fr) (0+(k:Int))=some (fr (col.getD k 0)):=by rw[cr,e];rfl
       simp_arith only[ag,ae,FB,Hd,e2,bY.eq,cp,tk]
       split<;>rfl
     · have io:∀ns:List Int,vU (.list (ns.map .int))=some ns:=fun ns=>zN.mpr rfl
       rw[vS (fun k=>Fg s (DW b) (col.getD k 0))]
       have ms:=vz (fun k=>Fg s (DW b) (col.getD k 0)) col.length
       rw[o9 0 col (fun x=>Fg s (DW b) x)]at ms
       simp_arith only[ag,ae,yS,io]
       rw[ms]
       exact fin2 _ rfl
   · rintro ρ rfl
     simp_arith only[ag,ae,aI.eq]
     exact fin _ rfl
 · rintro ρ rfl
   rw[HE (Hs _)]
   simp_arith only[ag,ae]
   exact ax hQ
noncomputable def bA:List W->(Hh->Prop)->Prop:=fun ws Q=>∃(m:Nat),ws=[.d (.int (m:Int))]/\((m<256))/\Q (.int (pcF 8 m:Nat))
theorem bA.mono:∀ws (Q Q':Hh->Prop),(∀d,Q d->Q' d)->bA ws Q->bA ws Q':=fun _ _ _ h_=>HA fun _=>Hn (Hn (h_ _))
theorem bA.len:∀ws (Q:Hh->Prop),bA ws Q->ws.length=1:=fun _ _ h_=>by obtain⟨_,e_,_⟩:=h_;subst e_;rfl
theorem bA.eq(m:Nat)(hm:m<256):bA [.d (.int (m:Int))]=VL.ret (.int (pcF 8 m:Nat):Hh):=by
 refine ah fun Q=>⟨?_,fun q_=>⟨m,rfl,hm,q_⟩⟩
 rintro⟨m',e_,_,q_⟩
 simp_arith only[cM,br,bv,aE,aH,bG,cS,dI,d8,dG,dY,dE,dU,and_assoc,Int.ofNat_inj]at e_
 obtain rfl:=e_
 exact q_
theorem jL:FnScope ["_law_bits", "_law_many"] ["_law_bits"] (defScope (Ee 50)):=⟨rfl,rfl,rfl,by decide +kernel,rfl,by decide +kernel,by decide +kernel⟩
theorem d__law_ones(Fn:FnIn K mg "_law_ones" (Ee 50) ["_law_bits"])(Z:Bz mg)    : Dfn P w K mg base rl "_law_ones" ["_law_bits"] 1 bA:=by
 have sc:=jL
 refine Dfn.of Fn sc (bA.mono) (bA.len) (fun cdv A outer s H E hr=>(af (al 1 sc.nd ac)
  (af (gh [] Ig (aA m_ mL (av _) (vn 0) ac) (af (al 0 sc.nd (v_band (vn 0) (v_sub (vn 0) ac)))
  (aj (al 1 sc.nd (v_add (vn 1) ac)))))
  (aj (ar (vn 1)))))) ?_
 rintro ws Q ⟨m,rfl,hm,hQ⟩
 refine az ?_
 simp_arith only[ag,ae]
 refine iQ (σ:=Nat×Nat) (fun s=>[some (.d (.int (s.1:Int))),some (.d (.int (s.2:Int)))]) (fun s=>decide (0<(s.1:Int))) (fun s=>(s.1 &&& (s.1-1),s.2+1)) (fun s=>s.1) (fun s=>s.1<256/\s.2+pcF 8 s.1=pcF 8 m) (m,0) rfl ⟨hm,by simp⟩ ?_ ?_ ?_
 · intro s _
   simp_arith only[ae]
 · rintro s ⟨h1,h2⟩ c
   have hc:0<(s.1:Int):=by simpa using c
   obtain⟨p1,p2⟩:=ve ⟨s.1,h1⟩ (by show s.1≠0;omega)
   have p1:s.1 &&& (s.1-1)<s.1:=p1
   have p2:pcF 8 (s.1 &&& (s.1-1))+1=pcF 8 s.1:=p2
   have e:Li (s.1:Int) ((s.1:Int)-1)=((s.1 &&& (s.1-1):Nat):Int):=by rw[show((s.1:Int)-1)=((s.1-1:Nat):Int) by omega];exact mH _ _
   refine⟨⟨by dsimp only;omega,by dsimp only;omega⟩,p1,_,?_,rfl⟩
   simp_arith only[ag,ae,e]
   rfl
 · rintro s ⟨h1,h2⟩ c
   have hc:¬0<(s.1:Int):=by simpa using c
   have hc:s.1=0:=by omega
   have:pcF 8 0=0:=by decide
   have e:s.2=pcF 8 m:=by rw[hc]at h2;omega
   simp_arith only[ag,ae,e]
   exact ax hQ
noncomputable def tpS(ss:List Sd):Int:=ss.foldl (fun t s=>t*(Es s).num) 1
noncomputable def btS(ss:List Sd):Int:=ss.foldl (fun t s=>t*((Es s).den:Int)) 1
theorem uu(ss:List Sd)(s:Sd):tpS (ss++[s])=tpS ss*(Es s).num:=by unfold tpS;rw[JD];rfl
theorem wn(ss:List Sd)(s:Sd):btS (ss++[s])=btS ss*((Es s).den:Int):=by unfold btS;rw[JD];rfl
theorem zr(q:Rat):((q.den:Int):Rat)≠0:=fun e=>by
 have z:(q.den:Int)=0:=by exact_mod_cast e
 have:=q.den_pos
 omega
theorem yH(q:Rat):(q.num:Rat)=q*((q.den:Int):Rat):=by have:=kQ q;have:=zr q;unfold qd at *;grind
noncomputable def zY(k:Nat)(ss:List Sd):Prop:=0<btS ss/\(tpS ss:Rat)=dv ss*(btS ss:Rat)/\(tpS ss).natAbs<2^k/\(btS ss).natAbs<2^k
theorem mR:∀(n:Nat)(ss:List Sd),ss.length=n->(∀s∈ss,s.Sm)->zY (1+190*n) ss
 | 0,ss,h,_=>by
   cases Mf.mp h
   exact⟨by decide,show((1:Int):Rat)=1*((1:Int):Rat) by decide +kernel,by decide,by decide⟩
 | n+1,ss,h,hs=>by
   obtain⟨b,s,rfl⟩:=oh h
   obtain⟨h1,h2,h3,h4⟩:=mR n b (by simpa using h) fun s ms=>hs s (JO _ ms)
   have z:=jE (hs s (HK _ Hy))
   unfold zY
   rw[uu,wn,jI]
   refine⟨M3 h1 (by have:=(Es s).den_pos;omega),?_,?_,?_⟩
   · rw[Ja,Ja,h2,yH (Es s)]
     grind
   · rw[Jv]
     exact Hr (bZ h3 z.1) (HF (by decide) (by omega))
   · rw[Jv,Iq]
     exact Hr (bZ h4 z.2) (HF (by decide) (by omega))
theorem zY.big(h:zY (1+190*n) ss)(h4:n<=4):G_ (tpS ss)/\G_ (btS ss)/\(tpS ss).natAbs<2^761/\(btS ss).natAbs<2^761:=by
 have a:=Hr h.2.2.1 (HF (by decide) (show 1+190*n<=761 by omega):2^(1+190*n)<=2^761)
 have b:=Hr h.2.2.2 (HF (by decide) (show 1+190*n<=761 by omega):2^(1+190*n)<=2^761)
 exact⟨Hr a (HF (by decide) (by decide)),Hr b (HF (by decide) (by decide)),a,b⟩
noncomputable def mkS(w:Str)(ps:List (List Rat))(ss:List Sd):Nat:=E6 (ps.map fun p=>Fv p ss w)
theorem yN{w:Str}{s:Sd}(hp:∀p∈ps,i<p.length)(hl:ss.length=i):mkS w ps ss &&& E6 (Ff w (colQ ps i) s)=mkS w ps (ss++[s]):=by
 unfold mkS Ff colQ
 rw[Jg,vA ps (fun p=>Fv p ss w)]
 congr 1
 exact JZ fun p mp=>(pA hl (hp p mp)).symm
theorem yP{w:Str}(h:ps.length<=8):mkS w ps ss<256:=by
 have:=tw (ps.map fun p=>Fv p ss w)
 rw[Hu]at this
 exact Hr this (HF (by decide) h:2^ps.length<=2^8)
theorem yO{w:Str}(h:ps.length<=8):pcF 8 (mkS w ps ss)=cntN ps ss w:=by
 unfold mkS
 rw[tj 8 _ (by rw[Hu];exact h),List.filter_map,Hu]
 rfl
theorem A2(w:Str)(ps:List (List Rat)):((mkS w ps []:Nat):Int)=1*2^ps.length-1:=by
 have e:ps.map (fun p=>Fv p [] w)=Ih ps.length true:=by
  refine List.eq_replicate_iff.mpr ⟨by simp,fun b mb=>?_⟩
  obtain⟨p,_,rfl⟩:=IA.mp mb
  simp[Fv]
 have:=vB ps.length
 unfold mkS
 rw[e]
 have h:((E6 (Ih ps.length true)+1:Nat):Int)=((2^ps.length:Nat):Int):=by rw[this]
 push_cast at h
 omega
noncomputable def EI(ps:List (List Rat))(ss:List Sd):Hh:=.tuple [df ss,.tuple [.int (tpS ss),.int (btS ss)],.int (mkS "shut" ps ss:Nat),.int (mkS "open" ps ss:Nat)]
abbrev GT:=Str×List Sd×Int×Int
noncomputable def Fa(t:GT):Hh:=.tuple [.str t.1,df t.2.1,.int t.2.2.1,.int t.2.2.2]
noncomputable def E8(ps:List (List Rat))(ss:List Sd):List GT:=[("over", ss,(cntN ps ss "shut" : Int)*btS ss-(ps.length:Int)*tpS ss,(ps.length:Int)*btS ss),("lack", ss,(ps.length:Int)*tpS ss-(cntN ps ss "open" : Int)*btS ss,(ps.length:Int)*btS ss)]
noncomputable def bD:List W->(Hh->Prop)->Prop:=fun ws Q=>∃(ps:List (List Rat))(f:Fin 3),ws=[.d (ptsQ ps),.d (.str (ck f))]/\((Gb f.val ps))/\Q (.list (((chP (rowsS f.val ps)).flatMap (E8 ps)).map Fa))
theorem bD.mono:∀ws (Q Q':Hh->Prop),(∀d,Q d->Q' d)->bD ws Q->bD ws Q':=fun _ _ _ h_=>HA fun _=>HA fun _=>Hn (Hn (h_ _))
theorem bD.len:∀ws (Q:Hh->Prop),bD ws Q->ws.length=2:=fun _ _ h_=>by obtain⟨_,_,e_,_⟩:=h_;subst e_;rfl
theorem bD.eq(ps:List (List Rat))(f:Fin 3)(hw:Gb f.val ps):bD [.d (ptsQ ps),.d (.str (ck f))]=VL.ret (.list (((chP (rowsS f.val ps)).flatMap (E8 ps)).map Fa):Hh):=by
 refine ah fun Q=>⟨?_,fun q_=>⟨ps,f,rfl,hw,q_⟩⟩
 rintro⟨ps',f',e_,_,q_⟩
 simp_arith only[cM,br,bv,aE,aH,bG,cS,dI,d8,dG,dY,dE,dU,and_assoc]at e_
 obtain⟨rfl,rfl⟩:=e_
 exact q_
theorem hJ:FnScope ["_law_points_here", "_law_family", "_law_every", "_law_rows", "_law_side", "_law_some", "_law_longer", "_law_box", "_law_size", "_law_shut", "_law_bare", "_law_one", "_law_more", "_law_a", "_law_b", "_law_found", "_law_bottom"] ["_law_points_here", "_law_family"] (defScope (Ee 51)):=⟨rfl,rfl,rfl,by decide +kernel,rfl,by decide +kernel,by decide +kernel⟩
theorem d__law_misses(Fn:FnIn K mg "_law_misses" (Ee 51) ["_law_points_here", "_law_family"])(Z:Bz mg)(d__law_side_rows:∀rl,Dfn P w K mg base rl "_law_side_rows" ["_law_points_here", "_law_side", "_law_family"] 3 aU)(d__law_ones:∀rl,Dfn P w K mg base rl "_law_ones" ["_law_bits"] 1 bA)   : Dfn P w K mg base rl "_law_misses" ["_law_points_here", "_law_family"] 4 bD:=by
 have sc:=hJ
 refine Dfn.of Fn sc (bD.mono) (bD.len) (fun cdv A outer s H E hr=>(af (al 2 sc.nd (v_sub (v_shl ac (ce Z.len_ (aa (vn 0) ab))) ac))
  (af (al 3 sc.nd (cf (aa (bp (aa (bp ab) (aa (bp (aa ac (aa ac ab))) (aa (vn 2) (aa (vn 2) ab))))) ab)))
  (af (bo [4,5,6,7,8,9,10,11,12,13,14] Ig rfl (bT Z.range_ (aa (ce Z.len_ (aa (aL (vn 0) ac) ab)) ab)) (ai 4 sc.nd) (af (al 5 sc.nd (ak (d__law_side_rows _) (hr.mono (by decide)) (aa (vn 0) (aa (vn 4) (aa (vn 1) ab)))))
  (af (d_ 6 sc.nd (cf ab))
  (af (bo [7,8,9,10,11,12,13,14] Ig rfl (aJ (vn 3)) (dq (n:=4) rfl (ay (ai 7 sc.nd) (ay (ai 8 sc.nd) (ay (ai 9 sc.nd) (ay (ai 10 sc.nd) cE))))) (aj (bo [11,12,13,14] Ig rfl (aJ (vn 5)) (dq (n:=4) rfl (ay (ai 11 sc.nd) (ay (ai 12 sc.nd) (ay (ai 13 sc.nd) (ay (ai 14 sc.nd) cE))))) (aj (fv 6 (aa (bp (aa (nQ (vn 7) (bp (aa (vn 11) ab))) (aa (bp (aa (v_mul (aL (vn 8) ac) (aL (vn 12) ac)) (aa (v_mul (aL (vn 8) ac) (aL (vn 12) ac)) ab))) (aa (v_band (vn 9) (vn 13)) (aa (v_band (vn 10) (vn 14)) ab))))) ab))))))
  (aj (ia 6 (al 3 sc.nd (vn 6))))))))
  (af (d_ 15 sc.nd (cf ab))
  (af (bo [7,8,9,10,16] Ig rfl (aJ (vn 3)) (dq (n:=4) rfl (ay (ai 7 sc.nd) (ay (ai 8 sc.nd) (ay (ai 9 sc.nd) (ay (ai 10 sc.nd) cE))))) (af (al 16 sc.nd (v_mul (ce Z.len_ (aa (vn 0) ab)) (aL (vn 8) ac)))
  (af (fv 15 (aa (bp (aa aD (aa (vn 7) (aa (v_sub (v_mul (ak (d__law_ones _) (hr.mono (by decide)) (aa (vn 9) ab)) (aL (vn 8) ac)) (v_mul (ce Z.len_ (aa (vn 0) ab)) (aL (vn 8) ac))) (aa (vn 16) ab))))) ab))
  (aj (fv 15 (aa (bp (aa aD (aa (vn 7) (aa (v_sub (v_mul (ce Z.len_ (aa (vn 0) ab)) (aL (vn 8) ac)) (v_mul (ak (d__law_ones _) (hr.mono (by decide)) (aa (vn 10) ab)) (aL (vn 8) ac))) (aa (vn 16) ab))))) ab))))))
  (aj (ia 15 (ar (vn 15)))))))))) ?_
 rintro ws Q ⟨ps,f,rfl,hw,hQ⟩
 refine az ?_
 have sz:=HM
 have hN:=hw.1
 have hP:=hN.1
 have h1:=hP.1
 have h8:=hw.2.1
 have hpl:∀p∈ps,p.length=dimP ps:=fun p mp=>(hP.2.2.1 p mp).1
 have d4:=hP.2.2.2.2
 have rl:=cH f.val ps
 have et0:atI ps 0=some (ps.headD []):=by
  cases ps with
  | nil=>simp at h1
  | cons p l=>exact cP (j:=0) rfl
 have ed:(ps.headD []).length=dimP ps:=rfl
 have gd : -(2^62)<=((dimP ps:Nat):Int)/\((dimP ps:Nat):Int)<2^62:=by omega
 have cp:tU 1 ((ps.length:Nat):Int):=⟨by omega,by omega,by decide⟩
 have ev:∀w:Str,(1:Int)*2^ps.length-1=((mkS w ps []:Nat):Int):=fun w=>(A2 w ps).symm
 have tn:((ps.length:Nat):Int).toNat=ps.length:=Ji _
 simp_arith only[ag,ae,Hd,et0,ed,cp,tn]
 refine jg (fun i ρ=>ρ=[some (.d (ptsQ ps)),some (.d (.str (ck f))),some (.d (.int ((1:Int)*2^ps.length-1))),some (.d (.list ((chP ((rowsS f.val ps).take i)).map (EI ps)))),none,none,none,none,none,none,none,none,none,none,none,none,none]) ?_ ?_ ?_
 · have r0:EI ps [] = .tuple [.tuple [],.tuple [.int 1,.int 1],.int ((1:Int)*2^ps.length-1),.int ((1:Int)*2^ps.length-1)]:=by unfold EI;rw[<- ev,<- ev];rfl
   have c0:chP ((rowsS f.val ps).take 0)=[[]]:=rfl
   rw[c0,List.map_singleton,r0]
 · rintro i hi ρ rfl K hK
   have hi1:i<(rowsS f.val ps).length:=by omega
   have i0:0<=0+(i:Int):=by omega
   have il:0+(i:Int)<dimP ps:=by omega
   have et:(0+(i:Int)).toNat=i:=by omega
   have tk:=qf hi1
   rw[i9 hi1]at tk
   have rl1:=hw.len (show i<=dimP ps by omega)
   have rl2:=hw.len (show i+1<=dimP ps by omega)
   rw[tk]at rl2
   have hsm:=hw.sm (show i<=dimP ps by omega)
   have hEs:=jH (f:=f.val) (hN.2 i hi)
   have hpi:∀p∈ps,i<p.length:=fun p mp=>by rw[hpl p mp];exact hi
   simp_arith only[ag,ae,Hd,aU.eq,et]
   generalize slS f.val (nuQ ps i)=E at tk rl2 hEs ⊢
   generalize chP ((rowsS f.val ps).take i)=C at tk rl1 rl2 hsm ⊢
   refine cy (xs:=C) (enc:=EI ps) (fun k ρ=>ρ=[some (.d (ptsQ ps)),some (.d (.str (ck f))),some (.d (.int ((1:Int)*2^ps.length-1))),some (.d (.list (C.map (EI ps)))),some (.d (.int (0+(i:Int)))),some (.d (.list (E.map (Ew (colQ ps i))))),some (.ml (((C.take k).flatMap fun ss=>E.map fun s=>ss++[s]).map (EI ps))),none,none,none,none,none,none,none,none,none,none]) rfl rfl ?_ ?_
   · rintro k hk ρ rfl K2 hK2
     obtain⟨sl,ssm⟩:=hsm _ (Iv hk)
     have fin:∀ρ,fo [7,8,9,10,11,12,13,14] ρ=[some (.d (ptsQ ps)),some (.d (.str (ck f))),some (.d (.int ((1:Int)*2^ps.length-1))),some (.d (.list (C.map (EI ps)))),some (.d (.int (0+(i:Int)))),some (.d (.list (E.map (Ew (colQ ps i))))),some (.ml (((C.take k).flatMap fun ss=>E.map fun s=>ss++[s]).map (EI ps)++(E.map fun s=>C[k]++[s]).map (EI ps))),none,none,none,none,none,none,none,none,none,none]->K2 (.nx ρ):=fun ρ e=>hK2 _ (bK (by rw[e,HI hk,JE,J3,Iu]))
     have hfl:∀l:List (List Sd),(l.flatMap fun b=>E.map fun t=>b++[t]).length=l.length*E.length:=fun l=>by
      induction l with
      | nil=>simp
      | cons x l ih=>rw[IB,HC,Hu,ih,HV,LL];omega
     have t4:((C.take k).flatMap fun b=>E.map fun t=>b++[t]).length+E.length<=3000:=by
      rw[hfl]at rl2
      rw[hfl,Iz,LI (by omega)]
      have:(k+1)*E.length<=C.length*E.length:=Lw _ hk
      rw[LL]at this
      omega
     generalize C[k]=ss at sl ssm fin ⊢
     generalize (C.take k).flatMap (fun ss=>E.map fun s=>ss++[s])=T at t4 fin ⊢
     have tb:=mR i ss sl ssm
     obtain⟨b1,b2,_,_⟩:=tb.big (by omega)
     have sl1:(ss.map EG).length+1<=sizeLine:=by rw[Hu];omega
     have tbx:tupD (df ss)=some (ss.map EG):=rfl
     simp_arith only[ag,ae,EI]
     refine CN ?_
     refine cy (xs:=E) (enc:=Ew (colQ ps i)) (fun m ρ=>ρ=[some (.d (ptsQ ps)),some (.d (.str (ck f))),some (.d (.int ((1:Int)*2^ps.length-1))),some (.d (.list (C.map (EI ps)))),some (.d (.int (0+(i:Int)))),some (.d (.list (E.map (Ew (colQ ps i))))),some (.ml (T.map (EI ps)++((E.take m).map fun s=>ss++[s]).map (EI ps))),some (.d (df ss)),some (.d (.tuple [.int (tpS ss),.int (btS ss)])),some (.d (.int (mkS "shut" ps ss:Nat))),some (.d (.int (mkS "open" ps ss:Nat))),none,none,none,none,none,none]) rfl (by simp) ?_ ?_
     · rintro m hm ρ rfl K3 hK3
       have es:=hEs _ (Iv hm)
       have fin2:∀ρ,fo [11,12,13,14] ρ=[some (.d (ptsQ ps)),some (.d (.str (ck f))),some (.d (.int ((1:Int)*2^ps.length-1))),some (.d (.list (C.map (EI ps)))),some (.d (.int (0+(i:Int)))),some (.d (.list (E.map (Ew (colQ ps i))))),some (.ml (T.map (EI ps)++((E.take m).map fun s=>ss++[s]).map (EI ps)++[EI ps (ss++[E[m]])])),some (.d (df ss)),some (.d (.tuple [.int (tpS ss),.int (btS ss)])),some (.d (.int (mkS "shut" ps ss:Nat))),some (.d (.int (mkS "open" ps ss:Nat))),none,none,none,none,none,none]->K3 (.nx ρ):=fun ρ e=>hK3 _ (bK (by rw[e,HI hm,Iu,Iu,<- KG];rfl))
       have m1:(T.map (EI ps)++((E.take m).map fun s=>ss++[s]).map (EI ps)).length<sizeLine:=by simp;omega
       generalize E[m]=s at es fin2 ⊢
       generalize T.map (EI ps)++((E.take m).map fun s=>ss++[s]).map (EI ps)=U at m1 fin2 ⊢
       have z:=(jE es).mono (show 190<=2000 by decide)
       have c1:aV (tpS ss) (Es s).num:=.bb b1 z.bn
       have c2:aV (btS ss) ((Es s).den:Int):=.bb b2 z.bd
       have n1:∀w:Str,Li ((mkS w ps ss:Nat):Int) ((E6 (Ff w (colQ ps i) s):Nat):Int)=((mkS w ps (ss++[s]):Nat):Int):=fun w=>by rw[mH,yN hpi sl]
       have eD:Io [.tuple (ss.map EG++[EG s]),.tuple [.int (tpS ss*(Es s).num),.int (btS ss*((Es s).den:Int))],.int (mkS "shut" ps (ss++[s]):Nat),.int (mkS "open" ps (ss++[s]):Nat)]=EI ps (ss++[s]):=by unfold EI df;rw[uu,wn,Iu];rfl
       simp_arith only[ag,ae,Hd,Ew,tbx,n1,eD]
       exact fin2 _ rfl
     · rintro ρ rfl
       rw[HE (Hs _)]
       exact fin _ rfl
   · rintro ρ rfl
     rw[HE (Hs _)]
     simp_arith only[ag,ae]
     exact hK _ (bK (by rw[tk];rfl))
 · rintro ρ rfl
   have len:=hw.len (Hs _)
   have hsm:=hw.sm (Hs _)
   rw[HE (by omega)]at len hsm ⊢
   generalize chP (rowsS f.val ps)=C at len hsm hQ ⊢
   simp_arith only[ag,ae]
   refine cy (xs:=C) (enc:=EI ps) (fun i ρ=>ρ=[some (.d (ptsQ ps)),some (.d (.str (ck f))),some (.d (.int ((1:Int)*2^ps.length-1))),some (.d (.list (C.map (EI ps)))),none,none,none,none,none,none,none,none,none,none,none,some (.ml (((C.take i).flatMap (E8 ps)).map Fa)),none]) rfl rfl ?_ ?_
   · rintro i hi ρ rfl K hK
     obtain⟨sl,ssm⟩:=hsm _ (Iv hi)
     have tl:∀l:List (List Sd),(l.flatMap (E8 ps)).length=2*l.length:=fun l=>by
      induction l with
      | nil=>rfl
      | cons x l ih=>rw[IB,HC,ih,HV];show 2+_=_;omega
     have tz:((C.take i).flatMap (E8 ps)).length+1<sizeLine:=by rw[tl,Iz];omega
     have tz0:((C.take i).flatMap (E8 ps)).length<sizeLine:=by omega
     have tz1:((C.take i).flatMap (E8 ps)).length+1<=sizeLine:=by omega
     have tk:(C.take (i+1)).flatMap (E8 ps)=(C.take i).flatMap (E8 ps)++E8 ps C[i]:=by rw[HI hi,JE];simp
     generalize C[i]=ss at sl ssm tk ⊢
     generalize (C.take i).flatMap (E8 ps)=T at tz tz0 tz1 tk ⊢
     have tb:=mR _ ss sl ssm
     obtain⟨b1,b2,_,_⟩:=tb.big (by omega)
     have p1:=fun w:Str=>yP (w:=w) (ps:=ps) (ss:=ss) h8
     have p2:=fun w:Str=>yO (w:=w) (ps:=ps) (ss:=ss) h8
     have n8:∀w:Str,cntN ps ss w<=8:=fun w=>HX (JJ ..) h8
     have o1:bA [.d (.int ((mkS "shut" ps ss:Nat):Int))]=VL.ret (.int (cntN ps ss "shut" : Nat):Hh):=by rw[bA.eq _ (p1 _),p2]
     have o2:bA [.d (.int ((mkS "open" ps ss:Nat):Int))]=VL.ret (.int (cntN ps ss "open" : Nat):Hh):=by rw[bA.eq _ (p1 _),p2]
     have c1:∀x:Int,aV ((cntN ps ss "shut" : Nat):Int) x:=fun x=>.lt (by have:=n8 "shut"; omega)
     have c2:∀x:Int,aV ((cntN ps ss "open" : Nat):Int) x:=fun x=>.lt (by have:=n8 "open"; omega)
     have c3:∀x:Int,aV ((ps.length:Nat):Int) x:=fun x=>.lt (by omega)
     simp_arith only[ag,ae,Hd,EI,o1,o2,c1,c2,c3]
     refine cj (by rw[HC,Hu];exact tz) (hK _ (bK ?_))
     rw[tk]
     simp[fo,Iu,E8,Fa]
   · rintro ρ rfl
     rw[HE (Hs _)]
     simp_arith only[ag,ae]
     exact ax hQ
theorem dM{d:Int}(h:0<d):(d:Rat)≠0:=fun e=>by
 have z:d=0:=by exact_mod_cast e
 omega
theorem kR{x b:Int}(hb:0<b)(h:(x:Rat)=q*(b:Rat)):qd x b=q:=by
 have:=dM hb
 unfold qd
 grind
theorem gA{a b c d:Int}(hb:0<b)(hd:0<d):a*d<c*b↔qd a b<qd c d:=by
 have e1:(a:Rat)=qd a b*(b:Rat):=by have:=dM hb;unfold qd;grind
 have e2:(c:Rat)=qd c d*(d:Rat):=by have:=dM hd;unfold qd;grind
 have z1:(0:Rat)<(b:Rat):=by exact_mod_cast hb
 have z2:(0:Rat)<(d:Rat):=by exact_mod_cast hd
 have z3:(0:Rat)<(b:Rat)*(d:Rat):=Rat.mul_pos z1 z2
 rw[<- Rat.intCast_lt_intCast,Ja,Ja,e1,e2]
 generalize qd a b=x
 generalize qd c d=y
 generalize (b:Rat)=u at *
 generalize (d:Rat)=v at *
 constructor
 · intro h
   by_cases c:x<y
   · exact c
   · have:=Rat.mul_nonneg (show 0<=x-y by grind) (Jl z3)
     grind
 · intro h
   have:=Rat.mul_pos (show 0<y-x by grind) z3
   grind
noncomputable def GR(t:GT)(u:Gh):Prop:=0<t.2.2.2/\qd t.2.2.1 t.2.2.2=u.1/\t.1=u.2.1/\t.2.1=u.2.2/\t.2.2.1.natAbs<2^800/\t.2.2.2.natAbs<2^800
noncomputable def FM(ts:List GT)(p:Int×Int):Int×Int:=ts.foldl (fun b t=>if b.1*t.2.2.2<t.2.2.1*b.2 then t.2.2 else b) p
theorem vY:∀(ts:List GT)(us:List Gh),IQ GR ts us->∀(p:Int×Int)(t0:Gh),0<p.2->qd p.1 p.2=t0.1->0<(FM ts p).2/\qd (FM ts p).1 (FM ts p).2=(FS us t0).1
 | [],[],_,p,t0,h,e=>⟨h,e⟩
 | t::ts,u::us,h,p,t0,hp,e=>by
   cases h with
   | cons r h =>
     obtain⟨r1,r2,_⟩:=r
     have i1:=gA (a:=p.1) (c:=t.2.2.1) hp r1
     have eg:FM (t::ts) p=FM ts (if p.1*t.2.2.2<t.2.2.1*p.2 then t.2.2 else p):=rfl
     have eu:FS (u::us) t0=FS us (if t0.1<u.1 then u else t0):=rfl
     rw[eg,eu]
     rw[e,r2]at i1
     by_cases c:t0.1<u.1
     · rw[if_pos (i1.mpr c),if_pos c]
       exact vY ts us h t.2.2 u r1 r2
     · rw[if_neg fun z=>c (i1.mp z),if_neg c]
       exact vY ts us h p t0 hp e
 | [],_::_,h,_,_,_,_=>by cases h
 | _::_,[],h,_,_,_,_=>by cases h
theorem vD(h1:1<=ps.length)(h8:ps.length<=8)(sl:ss.length=n)(n4:n<=4)(ssm:∀s∈ss,s.Sm):IQ GR (E8 ps ss) (E7 ps ss):=by
 have tb:=mR n ss sl ssm
 obtain⟨_,_,B1,B2⟩:=tb.big n4
 obtain⟨b0,et,_,_⟩:=tb
 have n8:∀w:Str,cntN ps ss w<=8:=fun w=>HX (JJ ..) h8
 have hN:(0:Int)<(ps.length:Int):=by omega
 have p0:0<(ps.length:Int)*btS ss:=M3 hN b0
 have rn:=dM hN
 have rb:=dM b0
 have m1:∀(c:Nat)(x:Int),c<=8->x.natAbs<2^761->((c:Int)*x).natAbs<2^770:=fun c x hc hx=>by
  rw[Jv,Iq]
  have:c*x.natAbs<=8*x.natAbs:=Lw _ hc
  omega
 have u1:=m1 ps.length (btS ss) h8 B2
 have u2:=m1 ps.length (tpS ss) h8 B1
 have u3:=m1 (cntN ps ss "shut") (btS ss) (n8 _) B2
 have u4:=m1 (cntN ps ss "open") (btS ss) (n8 _) B2
 have q:∀c:Nat,qd (c:Nat) ps.length*(((ps.length:Nat):Int):Rat)=((c:Int):Rat):=fun c=>by unfold qd;grind
 have q1:=q (cntN ps ss "shut")
 have q2:=q (cntN ps ss "open")
 refine .cons ⟨p0,?_,rfl,rfl,?_,?_⟩ (.cons ⟨p0,?_,rfl,rfl,?_,?_⟩ .nil)
 · refine kR p0 ?_
   show(((cntN ps ss "shut" : Int)*btS ss-(ps.length:Int)*tpS ss:Int):Rat)=ET ps ss*(((ps.length:Int)*btS ss:Int):Rat)
   unfold ET
   rw[MH,Ja,Ja,Ja,et,<- q1]
   grind
 · show((cntN ps ss "shut" : Int)*btS ss-(ps.length:Int)*tpS ss).natAbs<2^800
   omega
 · show((ps.length:Int)*btS ss).natAbs<2^800
   omega
 · refine kR p0 ?_
   show(((ps.length:Int)*tpS ss-(cntN ps ss "open" : Int)*btS ss:Int):Rat)=Fz ps ss*(((ps.length:Int)*btS ss:Int):Rat)
   unfold Fz
   rw[MH,Ja,Ja,Ja,et,<- q2]
   grind
 · show((ps.length:Int)*tpS ss-(cntN ps ss "open" : Int)*btS ss).natAbs<2^800
   omega
 · show((ps.length:Int)*btS ss).natAbs<2^800
   omega
theorem lN{α β:Type}{R:α->β->Prop}:∀{a:List α}{b:List β}{c:List α}{d:List β},IQ R a b->IQ R c d->IQ R (a++c) (b++d)
 | [],[],_,_,.nil,h=>h
 | _::_,_::_,_,_,.cons r h,g=>.cons r (lN h g)
theorem pe(hw:Gb f ps):IQ GR ((chP (rowsS f ps)).flatMap (E8 ps)) (msL f ps):=by
 have hsm:=hw.sm (Hs _)
 have el:=cH f ps
 rw[HE (by omega)]at hsm
 unfold msL
 generalize chP (rowsS f ps)=C at hsm
 induction C with
 | nil=>exact .nil
 | cons ss C ih =>
   rw[IB,IB]
   obtain⟨sl,sm⟩:=hsm ss Hy
   exact lN (vD hw.1.1.1 hw.2.1 sl hw.1.1.2.2.2.2 sm) (ih fun x mx=>hsm x (Ht _ mx))
theorem tQ(x y:Int):decide (FU x y<0)=decide (x<y):=by
 unfold FU
 by_cases h:y<x
 · have:¬x<y:=by omega
   simp[h,this]
 · by_cases h2:x<y<;>simp[h,h2]
theorem zu(x y:Int):(FU x y==0)=decide (x=y):=by
 unfold FU
 rcases Int.lt_trichotomy x y with h|h|h
 · have h1:¬y<x:=by omega
   have h2:¬x=y:=by omega
   simp[h,h1,h2]
 · subst h;simp
 · have h1:¬x<y:=by omega
   have h2:¬x=y:=by omega
   simp[h,h1,h2]
theorem aS.eqI(a b c d:Int)(h1:G_ a)(h2:G_ b)(h3:G_ c)(h4:G_ d):aS [.d (.tuple [.int a,.int b]),.d (.tuple [.int c,.int d])]=VL.ret (.int (FU (a*d) (c*b)):Hh):=aS.eq (a,b) (c,d) h1 h2 h3 h4
theorem sy(a b c d:Hh):VL.cutD [a,b,c,d] (some 2) none=[c,d]:=by
 have h:VL.cutD ([a,b,c,d].map id) (some 2) none=([a,b,c,d].drop (2:Int).toNat).map id:=jt [a,b,c,d] id (by decide)
 rw[M6,M6]at h
 exact h
noncomputable def miL(f:Nat)(ps:List (List Rat)):List GT:=(chP (rowsS f ps)).flatMap (E8 ps)
noncomputable def eqL(ts:List GT)(g:Int×Int):List Hh:=ts.filterMap fun t=>if decide (t.2.2.1*g.2=g.1*t.2.2.2)=true then some (.tuple [.str t.1,df t.2.1])else none
noncomputable def FN(f:Nat)(ps:List (List Rat)):Int×Int:=FM (miL f ps) ((miL f ps).headD ("", [],0,1)).2.2
theorem zf(hw:Gb f ps):∃t ts,miL f ps=t::ts/\(∀t∈miL f ps,G_ t.2.2.1/\G_ t.2.2.2/\0<t.2.2.2/\t.2.2.2.natAbs<2^8000)/\0<(FN f ps).2/\qd (FN f ps).1 (FN f ps).2=(DY f ps).1:=by
 have hp:=pe hw
 obtain⟨u,us,e⟩:=lR f ps
 have hb:∀t∈miL f ps,G_ t.2.2.1/\G_ t.2.2.2/\0<t.2.2.2/\t.2.2.2.natAbs<2^8000:=fun t mt=>by
  have key:∀{ts:List GT}{us:List Gh},IQ GR ts us->∀t∈ts,∃u,GR t u:=fun{ts us} h=>by
   induction ts generalizing us with
   | nil=>intro t mt;cases mt
   | cons x ts ih =>
     cases h with
     | cons r h =>
       intro t mt
       rcases HN.mp mt with rfl|m
       · exact⟨_,r⟩
       · exact ih h t m
  obtain⟨u,h1,_,_,_,h5,h6⟩:=key hp t mt
  exact⟨Hr h5 (HF (by decide) (by decide)),Hr h6 (HF (by decide) (by decide)),h1,Hr h6 (HF (by decide) (by decide))⟩
 have hp':IQ GR (miL f ps) (msL f ps):=hp
 unfold FN DY
 rw[e]at hp' ⊢
 cases et:miL f ps with
 | nil=>rw[et]at hp';cases hp'
 | cons t ts =>
   rw[et]at hp' hb
   have h0:GR t u:=by cases hp' with
    | cons r _=>exact r
   have g:=vY (t::ts) (u::us) hp' t.2.2 u h0.1 h0.2.1
   exact⟨t,ts,rfl,hb,g.1,g.2⟩
noncomputable def aR:List W->(Hh->Prop)->Prop:=fun ws Q=>∃(ps:List (List Rat))(f:Fin 3),ws=[.d (ptsQ ps),.d (.str (ck f))]/\((Gb f.val ps))/\Q (.tuple [fr (DY f.val ps).1,.list (eqL (miL f.val ps) (FN f.val ps))])
theorem aR.mono:∀ws (Q Q':Hh->Prop),(∀d,Q d->Q' d)->aR ws Q->aR ws Q':=fun _ _ _ h_=>HA fun _=>HA fun _=>Hn (Hn (h_ _))
theorem aR.len:∀ws (Q:Hh->Prop),aR ws Q->ws.length=2:=fun _ _ h_=>by obtain⟨_,_,e_,_⟩:=h_;subst e_;rfl
theorem aR.eq(ps:List (List Rat))(f:Fin 3)(hw:Gb f.val ps):aR [.d (ptsQ ps),.d (.str (ck f))]=VL.ret (.tuple [fr (DY f.val ps).1,.list (eqL (miL f.val ps) (FN f.val ps))]:Hh):=by
 refine ah fun Q=>⟨?_,fun q_=>⟨ps,f,rfl,hw,q_⟩⟩
 rintro⟨ps',f',e_,_,q_⟩
 simp_arith only[cM,br,bv,aE,aH,bG,cS,dI,d8,dG,dY,dE,dU,and_assoc]at e_
 obtain⟨rfl,rfl⟩:=e_
 exact q_
theorem fU:FnScope ["_law_points_here", "_law_family", "_law_rows", "_law_most", "_law_row"] ["_law_points_here", "_law_family"] (defScope (Ee 52)):=⟨rfl,rfl,rfl,by decide +kernel,rfl,by decide +kernel,by decide +kernel⟩
theorem d__law_greatest(Fn:FnIn K mg "_law_greatest" (Ee 52) ["_law_points_here", "_law_family"])(Z:Bz mg)(d__law_misses:∀rl,Dfn P w K mg base rl "_law_misses" ["_law_points_here", "_law_family"] 4 bD)(d__law_frac:∀rl,Dfn P w K mg base rl "_law_frac" ["_law_top", "_law_bottom"] 1 a_)(d__law_cmp:∀rl,Dfn P w K mg base rl "_law_cmp" ["_law_one", "_law_other"] 1 aS)   : Dfn P w K mg base rl "_law_greatest" ["_law_points_here", "_law_family"] 5 aR:=by
 have sc:=fU
 refine Dfn.of Fn sc (aR.mono) (aR.len) (fun cdv A outer s H E hr=>(af (al 2 sc.nd (ak (d__law_misses _) (hr.mono (by decide)) (aa (vn 0) (aa (vn 1) ab))))
  (af (al 3 sc.nd (mN (aL (vn 2) ac) (dQ ac) dR))
  (af (bo [4] Ig rfl (aJ (vn 2)) (ai 4 sc.nd) (aj (bO (aA gJ gl (av _) (ak (d__law_cmp _) (hr.mono (by decide)) (aa (vn 3) (aa (mN (vn 4) (dQ ac) dR) ab))) ac) (aj (al 3 sc.nd (mN (vn 4) (dQ ac) dR))) aK)))
  (aj (ar (bp (aa (ak (d__law_frac _) (hr.mono (by decide)) (aa (aL (vn 3) ac) (aa (aL (vn 3) ac) ab))) (aa (bc ["_law_row", "_law_most"] [none,some 3] rfl (aJ (vn 2)) (fun _=>(ai 0 (show Iy (["_law_row", "_law_most"]:List Str) by decide +kernel))) (fun _=>dJ (aA (dz hr.units) b9 (av _) (ak (d__law_cmp _) (hr.mono (by decide)) (aa (mN (vn 0) (dQ ac) dR) (aa (vn 1) ab))) ac)) (fun _=>(bp (aa (aL (vn 0) ac) (aa (aL (vn 0) ac) ab))))) ab))))))))) ?_
 rintro ws Q ⟨ps,f,rfl,hw,hQ⟩
 refine az ?_
 have sz:=HM
 have eqi:∀i j:Int,HQ (.int i) (.int j)=(i==j):=fun i j=>by simp[HQ]
 have em:((chP (rowsS f.val ps)).flatMap (E8 ps)).map Fa=(miL f.val ps).map Fa:=rfl
 obtain⟨t,ts,e,hb,g0,gq⟩:=zf hw
 have eg:FN f.val ps=FM (miL f.val ps) ((miL f.val ps).headD ("", [],0,1)).2.2:=rfl
 have len:(miL f.val ps).length<=6000:=by
  have:=hw.len (Hs _)
  have el:=cH f.val ps
  rw[HE (by omega)]at this
  have tl:∀l:List (List Sd),(l.flatMap (E8 ps)).length=2*l.length:=fun l=>by
   induction l with
   | nil=>rfl
   | cons x l ih=>rw[IB,HC,ih,HV];show 2+_=_;omega
  unfold miL
  rw[tl];omega
 have e0:atI ((miL f.val ps).map Fa) 0=some (Fa t):=by rw[e,cr,show(0:Int)=((0:Nat):Int)from rfl,cP (by rfl)];rfl
 rw[<- gq]at hQ
 have td:∀t:GT,tupD (Fa t)=some [.str t.1,df t.2.1,.int t.2.2.1,.int t.2.2.2]:=fun t=>rfl
 have i0:∀t:GT,itemAt (Fa t) 0=some (.str t.1):=fun t=>rfl
 have i1:∀t:GT,itemAt (Fa t) 1=some (df t.2.1):=fun t=>rfl
 rw[e,show((t::ts).headD ("", [],0,1)).2.2=t.2.2 from rfl]at eg
 simp_arith only[ag,ae,bD.eq,em,e0,td,sy]
 rw[e]at hb hQ len ⊢
 refine cy (xs:=t::ts) (enc:=Fa) (fun i ρ=>(∃u∈t::ts,FM ((t::ts).take i) t.2.2=u.2.2)/\ρ=[some (.d (ptsQ ps)),some (.d (.str (ck f))),some (.d (.list ((t::ts).map Fa))),some (.d (.tuple [.int (FM ((t::ts).take i) t.2.2).1,.int (FM ((t::ts).take i) t.2.2).2])),none]) rfl ⟨⟨t,Hy,rfl⟩,rfl⟩ ?_ ?_
 · rintro i hi ρ ⟨⟨u,mu,eu⟩,rfl⟩ K hK
   have mi:=Iv hi
   have tk:FM ((t::ts).take (i+1)) t.2.2=if(FM ((t::ts).take i) t.2.2).1*((t::ts)[i]).2.2.2<((t::ts)[i]).2.2.1*(FM ((t::ts).take i) t.2.2).2 then((t::ts)[i]).2.2 else FM ((t::ts).take i) t.2.2:=by
    unfold FM;rw[HI hi,JD];rfl
   have fin:∀ρ,fo [4] ρ=[some (.d (ptsQ ps)),some (.d (.str (ck f))),some (.d (.list ((t::ts).map Fa))),some (.d (.tuple [.int (FM ((t::ts).take (i+1)) t.2.2).1,.int (FM ((t::ts).take (i+1)) t.2.2).2])),none]->(∃u∈t::ts,FM ((t::ts).take (i+1)) t.2.2=u.2.2)->K (.nx ρ):=fun ρ e h=>hK _ (bK ⟨h,e⟩)
   rw[tk]at fin
   generalize (t::ts)[i]=r at mi fin ⊢
   rw[eu]at fin ⊢
   obtain⟨x1,x2,_⟩:=hb u mu
   obtain⟨y1,y2,_⟩:=hb r mi
   by_cases c:u.2.2.1*r.2.2.2<r.2.2.1*u.2.2.2
   · have d:=decide_eq_true c
     rw[if_pos c]at fin
     simp_arith only[ag,ae,td,sy,aS.eqI,tQ,d]
     exact fin _ rfl ⟨r,mi,rfl⟩
   · have d:=decide_eq_false c
     rw[if_neg c]at fin
     simp_arith only[ag,ae,td,sy,aS.eqI,tQ,d]
     exact fin _ rfl ⟨u,mu,rfl⟩
 · rintro ρ ⟨⟨u,mu,eu⟩,rfl⟩
   rw[HE (Hs _)]at eu ⊢
   rw[<- eg]at eu ⊢
   obtain⟨x1,x2,x3,x4⟩:=hb u mu
   rw[eu]at hQ ⊢
   simp_arith only[ag,ae,a_.eq]
   refine fN (xs:=t::ts) (enc:=Fa) (fun t=>if decide (t.2.2.1*u.2.2.2=u.2.2.1*t.2.2.2)=true then some (.tuple [.str t.1,df t.2.1])else none) rfl ?_ (by omega) ?_
   · intro r mr
     obtain⟨y1,y2,_⟩:=hb r mr
     simp_arith only[ag,ae,FB,td,i0,i1,sy,aS.eqI,eqi,zu]
     split<;>rfl
   · try simp_arith only[ag,ae]
     exact ax hQ
theorem qA{s:Nat}(h:Wd f s ps):Gb f ps:=by
 obtain⟨hd,hN,hm,hg⟩:=lz h
 obtain⟨hf,s1,s4,hn,_,h2,_⟩:=h
 have t:=(sR ⟨f,hf⟩ ⟨s,by omega⟩ s1 hn ⟨0,by omega⟩ (HS _)).2.1
 simp only at t
 exact⟨hN,by omega,fun j hj=>(hg j hj).1,fun i hi=>by have:=hm i (by omega);omega⟩
theorem AM(h:Gb f ps):Gx (ptsQ ps):=(Sm.seq (dp:=4) (bk:=12) (n:=8) (xs:=ps.map EQ) (fun d md=>by
 obtain⟨p,mp,rfl⟩:=IA.mp md
 have hp:=h.1.1.2.2.1 p mp
 exact(Sm.seq (dp:=2) (bk:=2) (n:=4) (xs:=p.map fr) (fun d md=>by
  obtain⟨q,mq,rfl⟩:=IA.mp md
  exact sa (hp.2 q mq).1 (by decide)) (by rw[Hu,hp.1];exact h.1.1.2.2.2.2)).1) (by rw[Hu];exact h.2.1)).1.shw (by decide) (by decide)
theorem zt{p:List Rat}{w:Str}(hi:i<ps.length)(e:ps[i]=p):(cntN (ps.take (i+1)) ss w:Int)=(cntN (ps.take i) ss w:Int)+(if Fv p ss w=true then 1 else 0):=by
 unfold cntN
 rw[HI hi,e]
 simp
 split<;>simp_all
theorem vF(h1:1<=ps.length)(tb:zY n ss)(w:Str):0<(ps.length:Int)*btS ss/\qd ((cntN ps ss w:Int)*btS ss-(ps.length:Int)*tpS ss) ((ps.length:Int)*btS ss)=qd (cntN ps ss w) ps.length-dv ss:=by
 obtain⟨b0,et,_,_⟩:=tb
 have hN:(0:Int)<(ps.length:Int):=by omega
 have p0:0<(ps.length:Int)*btS ss:=M3 hN b0
 have rn:=dM hN
 have rb:=dM b0
 have q1:qd (cntN ps ss w:Nat) ps.length*(((ps.length:Nat):Int):Rat)=(((cntN ps ss w:Nat):Int):Rat):=by unfold qd;grind
 refine⟨p0,kR p0 ?_⟩
 rw[MH,Ja,Ja,Ja,et,<- q1]
 grind
theorem tV{p:List Rat}(hl:p.length=ss.length)(w:Str):((Ip ss.length).map fun k=>Fg (ss.getD k (.to 0)) w (p.getD k 0)).all id=Fv p ss w:=by
 have e:(Ip ss.length).map (fun k=>(p.getD k 0,ss.getD k (.to 0)))=p.zip ss:=by
  refine Lr (by simp[hl]) fun i h1 h2=>?_
  have hi:i<ss.length:=by simpa using h1
  simp[Ir,HP hi,HP (show i<p.length by omega)]
 unfold Fv
 rw[<- e,Nt,Nt]
 rfl
noncomputable def FY(f:Nat)(ps:List (List Rat)):List Hh:=(msL f ps).filterMap fun t=>if t.1=(DY f ps).1 then some (.tuple [.str t.2.1,df t.2.2])else none
theorem zy{g:Int×Int}{w:Rat}(g0:0<g.2)(gq:qd g.1 g.2=w):∀{ts:List GT}{us:List Gh},IQ GR ts us->eqL ts g=us.filterMap fun t=>if t.1=w then some (.tuple [.str t.2.1,df t.2.2])else none
 | [],[],_=>rfl
 | t::ts,u::us,h=>by
   cases h with
   | cons r h =>
     obtain⟨r1,r2,r3,r4,_⟩:=r
     have ih:=zy g0 gq h
     unfold eqL at ih ⊢
     rw[IW,IW,ih,r3,r4]
     have key:t.2.2.1*g.2=g.1*t.2.2.2↔u.1=w:=by
      have i1:=gA (a:=t.2.2.1) (c:=g.1) r1 g0
      have i2:=gA (a:=g.1) (c:=t.2.2.1) g0 r1
      rw[r2,gq]at i1 i2
      constructor
      · intro e
        have h1:¬u.1<w:=fun z=>by have:=i1.mpr z;omega
        have h2:¬w<u.1:=fun z=>by have:=i2.mpr z;omega
        exact Rat.le_antisymm (Jx.mp h2) (Jx.mp h1)
      · intro e
        have h1:¬t.2.2.1*g.2<g.1*t.2.2.2:=fun z=>by have:=i1.mp z;rw[e]at this;exact KL this
        have h2:¬g.1*t.2.2.2<t.2.2.1*g.2:=fun z=>by have:=i2.mp z;rw[e]at this;exact KL this
        omega
     by_cases c:u.1=w
     · rw[if_pos (decide_eq_true (key.mpr c)),if_pos c]
     · rw[if_neg (by rw[decide_eq_true_eq];exact fun z=>c (key.mp z)),if_neg c]
 | [],_::_,h=>by cases h
 | _::_,[],h=>by cases h
theorem zx(hw:Gb f ps):eqL (miL f ps) (FN f ps)=FY f ps:=by
 obtain⟨_,_,_,_,g0,gq⟩:=zf hw
 exact zy g0 gq (pe hw)
noncomputable def ca:List W->(List Hh->Prop)->Prop:=fun ws Q=>∃(ps:List (List Rat))(f:Fin 3),ws=[.d (ptsQ ps),.d (.str (ck f))]/\((Gb f.val ps))/\Q (FY f.val ps)
theorem ca.mono:∀ws (Q Q':List Hh->Prop),(∀d,Q d->Q' d)->ca ws Q->ca ws Q':=fun _ _ _ h_=>HA fun _=>HA fun _=>Hn (Hn (h_ _))
theorem ca.len:∀ws (Q:List Hh->Prop),ca ws Q->ws.length=2:=fun _ _ h_=>by obtain⟨_,_,e_,_⟩:=h_;subst e_;rfl
theorem ca.eq(ps:List (List Rat))(f:Fin 3)(hw:Gb f.val ps):ca [.d (ptsQ ps),.d (.str (ck f))]=VL.ret (FY f.val ps:List Hh):=by
 refine ah fun Q=>⟨?_,fun q_=>⟨ps,f,rfl,hw,q_⟩⟩
 rintro⟨ps',f',e_,_,q_⟩
 simp_arith only[cM,br,bv,aE,aH,bG,cS,dI,d8,dG,dY,dE,dU,and_assoc]at e_
 obtain⟨rfl,rfl⟩:=e_
 exact q_
theorem jK:FnScope ["points", "family", "rows", "greatest"] ["points", "family"] (defScope (Ee 36)):=⟨rfl,rfl,rfl,by decide +kernel,rfl,by decide +kernel,by decide +kernel⟩
theorem d_all_worst(Fn:FnIn K mg "all_worst" (Ee 36) ["points", "family"])(Z:Bz mg)(d_misses:∀rl,Dfn P w K mg base rl "misses" ["points", "family"] 7 cK)(d_first_greatest:∀rl,Dfn P w K mg base rl "first_greatest" ["rows"] 2 aB)   : DfnL P w K mg base rl "all_worst" ["points", "family"] 8 ca:=by
 have sc:=jK
 refine DfnL.of Fn sc (ca.mono) (ca.len) (fun cdv A outer s H E hr=>(af (al 2 sc.nd (ak (d_misses _) (hr.mono (by decide)) (aa (vn 0) (aa (vn 1) ab))))
  (af (al 3 sc.nd (aL (ak (d_first_greatest _) (hr.mono (by decide)) (aa (vn 2) ab)) ac))
  (aj (ar (bc ["number", "way", "box", "greatest"] [none,none,none,some 3] rfl (aJ (vn 2)) (fun _=>(dq (n:=3) rfl (ay (ai 0 (show Iy (["number", "way", "box", "greatest"]:List Str) by decide +kernel)) (ay (ai 1 (show Iy (["number", "way", "box", "greatest"]:List Str) by decide +kernel)) (ay (ai 2 (show Iy (["number", "way", "box", "greatest"]:List Str) by decide +kernel)) cE))))) (fun _=>dJ (aA (dz hr.units) b9 (av _) (vn 0) (vn 3))) (fun _=>(bp (aa (vn 1) (aa (vn 2) ab)))))))))) ?_
 rintro ws Q ⟨ps,f,rfl,hw,hQ⟩
 refine qS ?_
 have sz:=HM
 have em:((chP (rowsS f.val ps)).flatMap (E7 ps)).map teD=(msL f.val ps).map teD:=rfl
 have hq:=fun t mt=>(tD hw t mt).mono (show 900<=2000 by decide)
 have ew:DY f.val ps=FS (msL f.val ps) ((msL f.val ps).headD (0, "", [])):=rfl
 have len:(msL f.val ps).length<=6000:=by
  have:=hw.len (Hs _)
  have el:=cH f.val ps
  rw[HE (by omega)]at this
  have tl:∀l:List (List Sd),(l.flatMap (E7 ps)).length=2*l.length:=fun l=>by
   induction l with
   | nil=>rfl
   | cons x l ih=>rw[IB,HC,ih,HV];show 2+_=_;omega
  unfold msL
  rw[tl];omega
 have i1:∀t:Gh,itemAt (teD t) 0=some (fr t.1):=fun t=>rfl
 have pf:aB [.d (.list ((msL f.val ps).map teD))]=VL.ret (teD (DY f.val ps):Hh):=by
  obtain⟨t,ts,e⟩:=lR f.val ps
  rw[e]at hq ew ⊢
  rw[ew]
  exact aB.eq t ts hq
 simp_arith only[ag,ae,cK.eq,em,pf,i1]
 have es:∀q r:Rat,HQ (fr q) (fr r)=decide (q=r):=fun q r=>mj q r
 have sh:∀q:Rat,HU (fr q)=true:=fun q=>cF q
 unfold FY at hQ
 refine fN (xs:=msL f.val ps) (enc:=teD) (fun t=>if t.1=(DY f.val ps).1 then some (.tuple [.str t.2.1,df t.2.2])else none) rfl ?_ (by omega) ?_
 · intro t mt
   simp_arith only[ag,ae,FB,teD,es,sh]
   by_cases c:t.1=(DY f.val ps).1<;>simp[c]
 · exact uJ hQ
noncomputable def aG:List W->(Hh->Prop)->Prop:=fun ws Q=>∃(ps:List (List Rat))(ss:List Sd)(b:Bool),ws=[.d (ptsQ ps),.d (df ss),.d (.int (DX b))]/\((1<=ps.length)/\(ps.length<=8)/\(ss.length<=4)/\(∀p∈ps,p.length=ss.length/\∀q∈p,Gd q)/\(∀s∈ss,s.Sm))/\Q (fr (qd (cntN ps ss (DW b)) ps.length-dv ss))
theorem aG.mono:∀ws (Q Q':Hh->Prop),(∀d,Q d->Q' d)->aG ws Q->aG ws Q':=fun _ _ _ h_=>HA fun _=>HA fun _=>HA fun _=>Hn (Hn (h_ _))
theorem aG.len:∀ws (Q:Hh->Prop),aG ws Q->ws.length=3:=fun _ _ h_=>by obtain⟨_,_,_,e_,_⟩:=h_;subst e_;rfl
theorem aG.eq(ps:List (List Rat))(ss:List Sd)(b:Bool)(h1:1<=ps.length)(h8:ps.length<=8)(s4:ss.length<=4)(hp:∀p∈ps,p.length=ss.length/\∀q∈p,Gd q)(hs:∀s∈ss,s.Sm):aG [.d (ptsQ ps),.d (df ss),.d (.int (DX b))]=VL.ret (fr (qd (cntN ps ss (DW b)) ps.length-dv ss):Hh):=by
 refine ah fun Q=>⟨?_,fun q_=>⟨ps,ss,b,rfl,⟨h1,h8,s4,hp,hs⟩,q_⟩⟩
 rintro⟨ps',ss',b',e_,_,q_⟩
 simp_arith only[cM,br,bv,aE,aH,bG,cS,dI,d8,dG,dY,dE,dU,and_assoc,wJ]at e_
 obtain⟨rfl,rfl,rfl⟩:=e_
 exact q_
theorem fV:FnScope ["_law_points_told", "_law_box", "_law_way", "_law_many", "_law_point", "_law_top", "_law_bottom", "_law_side", "_law_one"] ["_law_points_told", "_law_box", "_law_way"] (defScope (Ee 53)):=⟨rfl,rfl,rfl,by decide +kernel,rfl,by decide +kernel,by decide +kernel⟩
theorem d__law_box_miss(Fn:FnIn K mg "_law_box_miss" (Ee 53) ["_law_points_told", "_law_box", "_law_way"])(Z:Bz mg)(d__law_frac:∀rl,Dfn P w K mg base rl "_law_frac" ["_law_top", "_law_bottom"] 1 a_)(d__law_side_size:∀rl,Dfn P w K mg base rl "_law_side_size" ["_law_side"] 2 aI)(d__law_lies:∀rl,Dfn P w K mg base rl "_law_lies" ["_law_x", "_law_side", "_law_way"] 2 bY)   : Dfn P w K mg base rl "_law_box_miss" ["_law_points_told", "_law_box", "_law_way"] 3 aG:=by
 have sc:=fV
 refine Dfn.of Fn sc (aG.mono) (aG.len) (fun cdv A outer s H E hr=>(af (al 3 sc.nd ac)
  (af (bo [4] Ig rfl (dn (vn 0)) (ai 4 sc.nd) (aj (bO (cu (v_all Z.all_ (aa (bc ["_law_k", "_law_point", "_law_box", "_law_way"] [none,some 4,some 1,some 2] rfl (bT Z.range_ (aa (ce Z.len_ (aa (vn 1) ab)) ab)) (fun _=>(ai 0 (show Iy (["_law_k", "_law_point", "_law_box", "_law_way"]:List Str) by decide +kernel))) (fun _=>b8) (fun _=>(ak (d__law_lies _) (hr.mono (by decide)) (aa (aL (vn 1) (vn 0)) (aa (aL (vn 2) (vn 0)) (aa (vn 3) ab)))))) ab))) (aj (al 3 sc.nd (v_add (vn 3) ac))) aK)))
  (af (jy (bp (aa ac (aa ac ab))) (dq (n:=2) rfl (ay (ai 5 sc.nd) (ay (ai 6 sc.nd) cE))))
  (af (bo [7,8] Ig rfl (dn (vn 1)) (ai 7 sc.nd) (af (al 8 sc.nd (ak (d__law_side_size _) (hr.mono (by decide)) (aa (vn 7) ab)))
  (aj (lA 5 6 rfl sc.nd (aa (v_mul (vn 5) (aL (vn 8) ac)) (aa (v_mul (vn 6) (aL (vn 8) ac)) ab))))))
  (aj (ar (ak (d__law_frac _) (hr.mono (by decide)) (aa (v_sub (v_mul (vn 3) (vn 6)) (v_mul (ce Z.len_ (aa (vn 0) ab)) (vn 5))) (aa (v_mul (ce Z.len_ (aa (vn 0) ab)) (vn 6)) ab)))))))))) ?_
 rintro ws Q ⟨ps,ss,b,rfl,⟨h1,h8,s4,hp,hs⟩,hQ⟩
 refine az ?_
 have sz:=HM
 have tb:=mR ss.length ss rfl hs
 have bg:=tb.big s4
 have gn : -(2^62)<=((ss.length:Nat):Int)/\((ss.length:Nat):Int)<2^62:=by omega
 simp_arith only[ag,ae,Hd]
 refine cy (xs:=ps) (enc:=EQ) (fun i ρ=>ρ=[some (.d (ptsQ ps)),some (.d (df ss)),some (.d (.int (DX b))),some (.d (.int (cntN (ps.take i) ss (DW b):Nat))),none,none,none,none,none]) rfl rfl ?_ ?_
 · rintro i hi ρ rfl K hK
   obtain⟨pl,pg⟩:=hp _ (Iv hi)
   have cs:=zt (ss:=ss) (w:=DW b) hi rfl
   generalize ps[i]=p at pl pg cs ⊢
   simp_arith only[ag,ae,Hd]
   refine mB (fun k=>.bool (Fg (ss.getD k (.to 0)) (DW b) (p.getD k 0))) ?_ (by omega) ?_
   · intro k hk
     have e1:=eU (xs:=p) 0 (show(0:Int)<=0+(k:Int) by omega) (by omega)
     have e2:=eU (xs:=ss) (.to 0) (show(0:Int)<=0+(k:Int) by omega) (by omega)
     rw[show(0+(k:Int)).toNat=k by omega]at e1 e2
     have i2:itemAt (df ss) (0+(k:Int))=some (EG (ss.getD k (.to 0))):=by show atI (ss.map EG) _=_;rw[cr,e2];rfl
     have x1:EN 2000 (p.getD k 0):=((pg _ (getD_mem (by omega))).1).mono (by decide)
     have x2:Gv (ss.getD k (.to 0)):=oj (hs _ (getD_mem hk))
     simp_arith only[ag,ae,FB,Hd,e1,i2,bY.eq]
   have em:((Ip ss.length).map fun k=>IG (Fg (ss.getD k (.to 0)) (DW b) (p.getD k 0)))=((Ip ss.length).map fun k=>Fg (ss.getD k (.to 0)) (DW b) (p.getD k 0)).map .bool:=by rw[Jg];rfl
   rw[em]
   have za:=tV pl (DW b)
   simp_arith only[ag,ae,za]
   refine hK _ (bK ?_)
   rw[cs]
   split<;>rfl
 · rintro ρ rfl
   rw[HE (Hs _)]
   simp_arith only[ag,ae,Hd]
   refine cy (xs:=ss) (enc:=EG) (fun i ρ=>ρ=[some (.d (ptsQ ps)),some (.d (df ss)),some (.d (.int (DX b))),some (.d (.int (cntN ps ss (DW b):Nat))),none,some (.d (.int (tpS (ss.take i)))),some (.d (.int (btS (ss.take i)))),none,none]) rfl rfl ?_ ?_
   · rintro i hi ρ rfl K hK
     have es:=hs _ (Iv hi)
     have tbi:=mR i (ss.take i) (by rw[Iz];omega) fun s ms=>hs s (Ka ms)
     obtain⟨b1,b2,_,_⟩:=tbi.big (by omega)
     have t1:tpS (ss.take (i+1))=tpS (ss.take i)*(Es ss[i]).num:=by rw[HI hi,uu]
     have t2:btS (ss.take (i+1))=btS (ss.take i)*((Es ss[i]).den:Int):=by rw[HI hi,wn]
     generalize ss[i]=s at es t1 t2 ⊢
     have z:=(jE es).mono (show 190<=2000 by decide)
     have sc:=oj es
     have c1:aV (tpS (ss.take i)) (Es s).num:=.bb b1 z.bn
     have c2:aV (btS (ss.take i)) ((Es s).den:Int):=.bb b2 z.bd
     simp_arith only[ag,ae,Hd,aI.eq]
     refine hK _ (bK ?_)
     rw[t1,t2]
     rfl
   · rintro ρ rfl
     rw[HE (Hs _)]
     obtain⟨m0,mq⟩:=vF h1 tb (DW b)
     obtain⟨b1,b2,_,B2⟩:=bg
     have n8:cntN ps ss (DW b)<=8:=HX (JJ ..) h8
     have c1:aV ((cntN ps ss (DW b):Nat):Int) (btS ss):=.lt (by omega)
     have c3:∀x:Int,aV ((ps.length:Nat):Int) x:=fun x=>.lt (by omega)
     have hz:((ps.length:Int)*btS ss).natAbs<2^8000:=by
      rw[Jv,Iq]
      have:ps.length*(btS ss).natAbs<=8*(btS ss).natAbs:=Lw _ h8
      exact Hr (show _<2^770 by omega) (HF (by decide) (by decide))
     simp_arith only[ag,ae,Hd,a_.eq,c3,mq]
     exact ax hQ
theorem xS{A:Fl}{M:En->Mo Fl}{K:Fl->Prop}(h:sq (VL.ret A) M K):VL.ret A (fun a=>sq (fun Q=>Q a) M K):=h
theorem Ba(q:Rat):lY (fr q) "tuple" = true:=rfl
theorem yW(q:Rat):kB (fr q)=some 2:=rfl
theorem xr(q:Rat):tupD (fr q)=some [.int q.num,.int (q.den:Int)]:=rfl
theorem tH(i:Int):lY (.int i) "bool" = false:=rfl
theorem tG(i:Int):lY (.int i) "int" = true:=rfl
theorem an1:([IG false,IG false].any fun z=>z.eqv (.bool true))=false:=by simp[HQ]
theorem an2:([IG true,IG true].any fun z=>z.eqv (.bool false))=false:=by simp[HQ]
theorem an3:([IG true].any fun z=>z.eqv (.bool false))=false:=by simp[HQ]
theorem Fj:H_ [IG false,IG false]=true:=rfl
theorem Fi:H_ [IG true,IG true]=true:=rfl
theorem Fh:H_ [IG true]=true:=rfl
theorem si(i j:Int):HQ (.int i) (.int j)=(i==j):=by simp[HQ]
noncomputable def bE:List W->(Hh->Prop)->Prop:=fun ws Q=>∃(q:Rat),ws=[.d (fr q)]/\((-1<=q)/\(q<=1)/\(EN 60 q))/\Q (.bool true)
theorem bE.mono:∀ws (Q Q':Hh->Prop),(∀d,Q d->Q' d)->bE ws Q->bE ws Q':=fun _ _ _ h_=>HA fun _=>Hn (Hn (h_ _))
theorem bE.len:∀ws (Q:Hh->Prop),bE ws Q->ws.length=1:=fun _ _ h_=>by obtain⟨_,e_,_⟩:=h_;subst e_;rfl
theorem bE.eq(q:Rat)(h1 : -1<=q)(h2:q<=1)(hs:EN 60 q):bE [.d (fr q)]=VL.ret (.bool true:Hh):=by
 refine ah fun Q=>⟨?_,fun q_=>⟨q,rfl,⟨h1,h2,hs⟩,q_⟩⟩
 rintro⟨q',e_,_,q_⟩
 simp_arith only[cM,br,bv,aE,aH,bG,cS,dI,d8,dG,dY,dE,dU,and_assoc]at e_
 obtain rfl:=e_
 exact q_
theorem hU:FnScope ["_law_thing"] ["_law_thing"] (defScope (Ee 54)):=⟨rfl,rfl,rfl,by decide +kernel,rfl,by decide +kernel,by decide +kernel⟩
theorem d__law_is_end(Fn:FnIn K mg "_law_is_end" (Ee 54) ["_law_thing"])(Z:Bz mg)(d__law_frac:∀rl,Dfn P w K mg base rl "_law_frac" ["_law_top", "_law_bottom"] 1 a_)   : Dfn P w K mg base rl "_law_is_end" ["_law_thing"] 2 bE:=by
 have sc:=hU
 refine Dfn.of Fn sc (bE.mono) (bE.len) (fun cdv A outer s H E hr=>(af (bO (GN.pb (fQ (fx (cu (mO Z.isinstance_ (aa (vn 0) (aa (m7 Z.tuple_ (by rfl)) ab))))) (fQ (aA (dN hr.units) b9 (av _) (ce Z.len_ (aa (vn 0) ab)) ac) (gm (aA (oX hr.u65) jA (by with_unfolding_all rfl) dZ (bc ["_law_one"] [none] rfl (dn (vn 0)) (fun _=>(ai 0 (show Iy (["_law_one"]:List Str) by decide +kernel))) (fun _=>b8) (fun _=>(mO Z.isinstance_ (aa (vn 0) (aa (m7 Z.bool_ (by rfl)) ab)))))))))) (aj (ar dZ)) aK)
  (af (bO (GN.pb (fQ (aA (oX hr.u65) jA (by with_unfolding_all rfl) dZ (bc ["_law_one"] [none] rfl (dn (vn 0)) (fun _=>(ai 0 (show Iy (["_law_one"]:List Str) by decide +kernel))) (fun _=>b8) (fun _=>(mO Z.isinstance_ (aa (vn 0) (aa (m7 Z.int_ (by rfl)) ab)))))) (fQ (aA gJ gl (av _) (aL (vn 0) ac) ac) (gm (aA (dN hr.units) b9 (av _) (ak (d__law_frac _) (hr.mono (by decide)) (aa (aL (vn 0) ac) (aa (aL (vn 0) ac) ab))) (vn 0)))))) (aj (ar dZ)) aK)
  (aj (ar (uf rq rq (v_sub ac (aL (vn 0) ac)) (aL (vn 0) ac) (aL (vn 0) ac))))))) ?_
 rintro ws Q ⟨q,rfl,⟨h1,h2,hs⟩,hQ⟩
 refine az ?_
 have sz:=HM
 have dp:=q.den_pos
 have d1:decide ((q.den:Int)<1)=false:=decide_eq_false (by omega)
 have l1:decide (0-(q.den:Int)<=q.num)=true:=decide_eq_true (by rw[Rat.le_iff]at h1;simp at h1;omega)
 have l2:decide (q.num<=(q.den:Int))=true:=decide_eq_true (by rw[Rat.le_iff]at h2;simp at h2;omega)
 have hb:0<(q.den:Int):=by omega
 have hz:((q.den:Nat):Int).natAbs<2^8000:=by rw[Iq];exact Hr hs.2 (HF (by decide) (by decide))
 have qs:=kQ q
 have es:HQ (fr q) (fr q)=true:=by rw[mj];simp
 have sh:=cF q
 have e2:(((2:Nat):Int)==2)=true:=rfl
 simp_arith only[ag,ae,Hd,Ba,yW,xr,e2]
 refine Ey (bH (xs:=[q.num,(q.den:Int)]) (enc:=HB) (fun _=>IG false) rfl ?_ (by simp;omega) ?_)
 · intro i mi
   simp_arith only[ag,ae,FB,tH]
 simp_arith only[ag,ae,Hd,an1,Fj]
 refine Ey (bH (xs:=[q.num,(q.den:Int)]) (enc:=HB) (fun _=>IG true) rfl ?_ (by simp;omega) ?_)
 · intro i mi
   simp_arith only[ag,ae,FB,tG]
 simp_arith only[ag,ae,Hd,an2,Fi,d1,l1,l2,a_.eq,qs,es,sh]
 refine xS ?_
 simp_arith only[ag,ae,Hd,d1,l1,l2]
 exact ax hQ
noncomputable def GP(f:Fin 3)(s:Sd):Prop:=(f=0/\∃t,s = .to t)\/(f=1/\∃a b,s = .from a b)\/(f=2/\((∃a b,s = .from a b)\/∃a b,s = .round a b))
noncomputable def G9(f:Fin 3)(ss:List Sd):Prop:=ss.length<=4/\∀s∈ss,GP f s/\s.Sm/\s.In1
theorem fM(s:Sd):lY (EG s) "tuple" = true:=by cases s<;>rfl
theorem pJ(ss:List Sd):lY (df ss) "tuple" = true:=rfl
theorem fA(t:Rat):tupD (EG (.to t))=some [.str "to", fr t]:=rfl
theorem fC(a b:Rat):tupD (EG (.from a b))=some [.str "from", fr a,fr b]:=rfl
theorem fB(a b:Rat):tupD (EG (.round a b))=some [.str "round", fr a,fr b]:=rfl
theorem fH(t:Rat):kB (EG (.to t))=some 2:=rfl
theorem fJ(a b:Rat):kB (EG (.from a b))=some 3:=rfl
theorem fI(a b:Rat):kB (EG (.round a b))=some 3:=rfl
theorem j8(t:Rat):itemAt (EG (.to t)) 0=some (.str "to"):=rfl
theorem j_(a b:Rat):itemAt (EG (.from a b)) 0=some (.str "from"):=rfl
theorem j9(a b:Rat):itemAt (EG (.round a b)) 0=some (.str "round"):=rfl
noncomputable def bF:List W->(Hh->Prop)->Prop:=fun ws Q=>∃(n:Nat)(f:Fin 3)(ss:List Sd),ws=[.d (.int (n:Int)),.d (.str (ck f)),.d (df ss)]/\((ss.length=n)/\(G9 f ss))/\Q (.bool true)
theorem bF.mono:∀ws (Q Q':Hh->Prop),(∀d,Q d->Q' d)->bF ws Q->bF ws Q':=fun _ _ _ h_=>HA fun _=>HA fun _=>HA fun _=>Hn (Hn (h_ _))
theorem bF.len:∀ws (Q:Hh->Prop),bF ws Q->ws.length=3:=fun _ _ h_=>by obtain⟨_,_,_,e_,_⟩:=h_;subst e_;rfl
theorem bF.eq(n:Nat)(f:Fin 3)(ss:List Sd)(hl:ss.length=n)(hb:G9 f ss):bF [.d (.int (n:Int)),.d (.str (ck f)),.d (df ss)]=VL.ret (.bool true:Hh):=by
 refine ah fun Q=>⟨?_,fun q_=>⟨n,f,ss,rfl,⟨hl,hb⟩,q_⟩⟩
 rintro⟨n',f',ss',e_,_,q_⟩
 simp_arith only[cM,br,bv,aE,aH,bG,cS,dI,d8,dG,dY,dE,dU,and_assoc,Int.ofNat_inj]at e_
 obtain⟨rfl,rfl,rfl⟩:=e_
 exact q_
theorem hV:FnScope ["_law_s", "_law_family", "_law_thing", "_law_words", "_law_side"] ["_law_s", "_law_family", "_law_thing"] (defScope (Ee 55)):=⟨rfl,rfl,rfl,by decide +kernel,rfl,by decide +kernel,by decide +kernel⟩
theorem d__law_is_box(Fn:FnIn K mg "_law_is_box" (Ee 55) ["_law_s", "_law_family", "_law_thing"])(Z:Bz mg)(d__law_is_end:∀rl,Dfn P w K mg base rl "_law_is_end" ["_law_thing"] 2 bE)   : Dfn P w K mg base rl "_law_is_box" ["_law_s", "_law_family", "_law_thing"] 3 bF:=by
 have sc:=hV
 refine Dfn.of Fn sc (bF.mono) (bF.len) (fun cdv A outer s H E hr=>(af (al 3 sc.nd (nP (hr.mono (HS _)) (by decide +kernel) (cf (aa aD ab)) (cf (aa aD ab)) (cf (aa aD (aa aD ab))) (vn 1)))
  (af (bO (GN.pb (fQ (fx (cu (mO Z.isinstance_ (aa (vn 2) (aa (m7 Z.tuple_ (by rfl)) ab))))) (gm (aA (dN hr.units) b9 (av _) (ce Z.len_ (aa (vn 2) ab)) (vn 0))))) (aj (ar dZ)) aK)
  (af (bo [4] Ig rfl (dn (vn 2)) (ai 4 sc.nd) (af (bO (GN.pb (fQ (fx (cu (mO Z.isinstance_ (aa (vn 4) (aa (m7 Z.tuple_ (by rfl)) ab))))) (fQ (aA gJ gl (av _) (ce Z.len_ (aa (vn 4) ab)) ac) (gm (aA (jW hr.u65) jA (by with_unfolding_all rfl) (aL (vn 4) ac) (vn 3)))))) (aj (ar dZ)) aK)
  (aj (bO (GN.pb (fQ (aA (dN hr.units) b9 (av _) (ce Z.len_ (aa (vn 4) ab)) (v_add ac (ie Z.int_ (aa (eB oW jz (av _) (vn 1) aD) ab)))) (gm (aA (oX hr.u65) jA (by with_unfolding_all rfl) dZ (bc ["_law_one"] [none] rfl (dn (mN (vn 4) (dQ ac) dR)) (fun _=>(ai 0 (show Iy (["_law_one"]:List Str) by decide +kernel))) (fun _=>b8) (fun _=>(ak (d__law_is_end _) (hr.mono (by decide)) (aa (vn 0) ab)))))))) (aj (ar dZ)) aK))))
  (aj (ar dZ)))))) ?_
 rintro ws Q ⟨n,f,ss,rfl,⟨hl,hb⟩,hQ⟩
 have q1:decide (Hi "inner" = Hi "corner")=false:=by decide +kernel
 have q2:decide (Hi "round" = Hi "corner")=false:=by decide +kernel
 have q3:decide (Hi "round" = Hi "inner")=false:=by decide +kernel
 have q4:decide (Hi "corner" = Hi "corner")=true:=by decide +kernel
 have q5:decide (Hi "inner" = Hi "inner")=true:=by decide +kernel
 have q6:decide (Hi "corner" = Hi "round")=false:=by decide +kernel
 have q7:decide (Hi "inner" = Hi "round")=false:=by decide +kernel
 have q8:decide (Hi "round" = Hi "round")=true:=by decide +kernel
 have f0:ck 0=Hi "corner" := rfl
 have f1:ck 1=Hi "inner" := rfl
 have f2:ck 2=Hi "round" := rfl
 refine az ?_
 have sz:=HM
 have b1:(Hi "inner" == Hi "corner")=false:=by decide +kernel
 have b2:(Hi "round" == Hi "corner")=false:=by decide +kernel
 have b3:(Hi "round" == Hi "inner")=false:=by decide +kernel
 have lk0:∀a b c:Hh,JN (Hi "corner") [(Hi "corner", a),(Hi "inner", b),(Hi "round", c)]=some a:=fun a b c=>by simp[JN]
 have lk1:∀a b c:Hh,JN (Hi "inner") [(Hi "corner", a),(Hi "inner", b),(Hi "round", c)]=some b:=fun a b c=>by simp[JN,b1]
 have lk2:∀a b c:Hh,JN (Hi "round") [(Hi "corner", a),(Hi "inner", b),(Hi "round", c)]=some c:=fun a b c=>by simp[JN,b2,b3]
 have sl:((ss.length:Int)==(n:Int))=true:=by rw[hl];simp
 have sw1:HU (.str (Hi "to"))=true:=by decide +kernel
 have sw2:HU (.str (Hi "from"))=true:=by decide +kernel
 have sw3:HU (.str (Hi "round"))=true:=by decide +kernel
 have e22:(((2:Nat):Int)==2+0)=true:=rfl
 have e33:(((3:Nat):Int)==2+1)=true:=rfl
 have l22:decide (((2:Nat):Int)<2)=false:=rfl
 have l32:decide (((3:Nat):Int)<2)=false:=rfl
 have t3:(if(!false)=true then(1:Int)else 0)=1:=rfl
 have t2:(if(!true)=true then(1:Int)else 0)=0:=rfl
 obtain⟨h4,hb⟩:=hb
 obtain rfl|rfl|rfl:=zm f
 · simp_arith only[ag,ae,Hd,ge,f0,f1,f2,lk0,lk1,lk2,pJ,sl,si]
   refine li (xs:=ss) (enc:=EG) rfl ?_ ?_
   · intro s ms K hK
     obtain⟨hf,hsm,hin⟩:=hb s ms
     obtain⟨s1,s2⟩:=hsm
     obtain⟨i1,i2⟩:=hin
     obtain⟨_,t,rfl⟩|⟨z,_⟩|⟨z,_⟩:=hf
     · have aw:(([Iw (Hi "to")]:List Hh).any fun z=>z.eqv (.str (Hi "to")))=true:=by decide +kernel
       have lw:H_ [Iw (Hi "to")]=true:=by decide +kernel
       simp_arith only[ag,ae,Hd,fA,fC,fB,fH,fJ,fI,j8,j_,j9,gS,fM,an2,an3,Fi,Fh,f0,f1,f2,q4,q1,q2,si,aw,lw,sw1,sw2,sw3,e22,e33,l22,l32,t3,t2]
       refine bH (xs:=[t]) (enc:=fr) (fun _=>IG true) rfl ?_ (by simp;omega) ?_
       · intro q mq
         have hq : -1<=q/\q<=1/\EN 60 q:=by
          simp only[HN,JM,or_false]at mq
          subst mq
          exact⟨i2.1,i2.2,s2⟩
         obtain⟨g1,g2,g3⟩:=hq
         simp_arith only[ag,ae,FB,bE.eq]
       simp_arith only[ag,ae,Hd,fA,fC,fB,fH,fJ,fI,j8,j_,j9,gS,fM,an2,an3,Fi,Fh]
       exact hK _ (bK rfl)
     · exact absurd z (by decide)
     · exact absurd z (by decide)
   · simp_arith only[ag,ae]
     exact ax hQ
 · simp_arith only[ag,ae,Hd,ge,f0,f1,f2,lk0,lk1,lk2,pJ,sl,si]
   refine li (xs:=ss) (enc:=EG) rfl ?_ ?_
   · intro s ms K hK
     obtain⟨hf,hsm,hin⟩:=hb s ms
     obtain⟨s1,s2⟩:=hsm
     obtain⟨i1,i2⟩:=hin
     obtain⟨z,_⟩|⟨_,a,b,rfl⟩|⟨z,_⟩:=hf
     · exact absurd z (by decide)
     · have aw:(([Iw (Hi "from")]:List Hh).any fun z=>z.eqv (.str (Hi "from")))=true:=by decide +kernel
       have lw:H_ [Iw (Hi "from")]=true:=by decide +kernel
       simp_arith only[ag,ae,Hd,fA,fC,fB,fH,fJ,fI,j8,j_,j9,gS,fM,an2,an3,Fi,Fh,f0,f1,f2,q4,q1,q2,si,aw,lw,sw1,sw2,sw3,e22,e33,l22,l32,t3,t2]
       refine bH (xs:=[a,b]) (enc:=fr) (fun _=>IG true) rfl ?_ (by simp;omega) ?_
       · intro q mq
         have hq : -1<=q/\q<=1/\EN 60 q:=by
          simp only[HN,JM,or_false]at mq
          rcases mq with rfl|rfl
          · exact⟨i1.1,i1.2,s1⟩
          · exact⟨i2.1,i2.2,s2⟩
         obtain⟨g1,g2,g3⟩:=hq
         simp_arith only[ag,ae,FB,bE.eq]
       simp_arith only[ag,ae,Hd,fA,fC,fB,fH,fJ,fI,j8,j_,j9,gS,fM,an2,an3,Fi,Fh]
       exact hK _ (bK rfl)
     · exact absurd z (by decide)
   · simp_arith only[ag,ae]
     exact ax hQ
 · simp_arith only[ag,ae,Hd,ge,f0,f1,f2,lk0,lk1,lk2,pJ,sl,si]
   refine li (xs:=ss) (enc:=EG) rfl ?_ ?_
   · intro s ms K hK
     obtain⟨hf,hsm,hin⟩:=hb s ms
     obtain⟨s1,s2⟩:=hsm
     obtain⟨i1,i2⟩:=hin
     obtain⟨z,_⟩|⟨z,_⟩|⟨_,⟨a,b,rfl⟩|⟨a,b,rfl⟩⟩:=hf
     · exact absurd z (by decide)
     · exact absurd z (by decide)
     · have aw:(([Iw (Hi "from"),Iw (Hi "round")]:List Hh).any fun z=>z.eqv (.str (Hi "from")))=true:=by decide +kernel
       have lw:H_ [Iw (Hi "from"),Iw (Hi "round")]=true:=by decide +kernel
       simp_arith only[ag,ae,Hd,fA,fC,fB,fH,fJ,fI,j8,j_,j9,gS,fM,an2,an3,Fi,Fh,f0,f1,f2,q4,q1,q2,si,aw,lw,sw1,sw2,sw3,e22,e33,l22,l32,t3,t2]
       refine bH (xs:=[a,b]) (enc:=fr) (fun _=>IG true) rfl ?_ (by simp;omega) ?_
       · intro q mq
         have hq : -1<=q/\q<=1/\EN 60 q:=by
          simp only[HN,JM,or_false]at mq
          rcases mq with rfl|rfl
          · exact⟨i1.1,i1.2,s1⟩
          · exact⟨i2.1,i2.2,s2⟩
         obtain⟨g1,g2,g3⟩:=hq
         simp_arith only[ag,ae,FB,bE.eq]
       simp_arith only[ag,ae,Hd,fA,fC,fB,fH,fJ,fI,j8,j_,j9,gS,fM,an2,an3,Fi,Fh]
       exact hK _ (bK rfl)
     · have aw:(([Iw (Hi "from"),Iw (Hi "round")]:List Hh).any fun z=>z.eqv (.str (Hi "round")))=true:=by decide +kernel
       have lw:H_ [Iw (Hi "from"),Iw (Hi "round")]=true:=by decide +kernel
       simp_arith only[ag,ae,Hd,fA,fC,fB,fH,fJ,fI,j8,j_,j9,gS,fM,an2,an3,Fi,Fh,f0,f1,f2,q4,q1,q2,si,aw,lw,sw1,sw2,sw3,e22,e33,l22,l32,t3,t2]
       refine bH (xs:=[a,b]) (enc:=fr) (fun _=>IG true) rfl ?_ (by simp;omega) ?_
       · intro q mq
         have hq : -1<=q/\q<=1/\EN 60 q:=by
          simp only[HN,JM,or_false]at mq
          rcases mq with rfl|rfl
          · exact⟨i1.1,i1.2,s1⟩
          · exact⟨i2.1,i2.2,s2⟩
         obtain⟨g1,g2,g3⟩:=hq
         simp_arith only[ag,ae,FB,bE.eq]
       simp_arith only[ag,ae,Hd,fA,fC,fB,fH,fJ,fI,j8,j_,j9,gS,fM,an2,an3,Fi,Fh]
       exact hK _ (bK rfl)
   · simp_arith only[ag,ae]
     exact ax hQ
theorem zn(a b:Int)(q:Rat)(h:Io [.int a,.int b]=fr q):HQ (.tuple [.int a,.int b]) (fr q)=true/\HU (.tuple [.int a,.int b])=true:=by rw[h];exact⟨by rw[mj];simp,cF q⟩
theorem yl(q:Rat):Io [.int (q.num*1),.int (q.den:Int)]=fr q:=by rw[NB];rfl
theorem yI(q:Rat):Io [.int (q.num * -1),.int (q.den:Int)]=fr (-q):=by rw[Int.mul_neg,NB];rfl
noncomputable def aF:List W->(Hh->Prop)->Prop:=fun ws Q=>∃(ps:List (List Rat))(f:Fin 3)(t:Gh)(u:Rat),ws=[.d (ptsQ ps),.d (.str (ck f)),.d (teD t),.d (fr u)]/\((1<=ps.length)/\(ps.length<=8)/\(u=t.1)/\(∃ss,ss.length=dimP ps/\G9 f ss/\(∀p∈ps,p.length=ss.length/\∀q∈p,Gd q)/\t∈E7 ps ss))/\Q (.bool true)
theorem aF.mono:∀ws (Q Q':Hh->Prop),(∀d,Q d->Q' d)->aF ws Q->aF ws Q':=fun _ _ _ h_=>HA fun _=>HA fun _=>HA fun _=>HA fun _=>Hn (Hn (h_ _))
theorem aF.len:∀ws (Q:Hh->Prop),aF ws Q->ws.length=4:=fun _ _ h_=>by obtain⟨_,_,_,_,e_,_⟩:=h_;subst e_;rfl
theorem aF.eq(ps:List (List Rat))(f:Fin 3)(t:Gh)(u:Rat)(h1:1<=ps.length)(h8:ps.length<=8)(hu:u=t.1)(hb:∃ss,ss.length=dimP ps/\G9 f ss/\(∀p∈ps,p.length=ss.length/\∀q∈p,Gd q)/\t∈E7 ps ss):aF [.d (ptsQ ps),.d (.str (ck f)),.d (teD t),.d (fr u)]=VL.ret (.bool true:Hh):=by
 refine ah fun Q=>⟨?_,fun q_=>⟨ps,f,t,u,rfl,⟨h1,h8,hu,hb⟩,q_⟩⟩
 rintro⟨ps',f',t',u',e_,_,q_⟩
 simp_arith only[cM,br,bv,aE,aH,bG,cS,dI,d8,dG,dY,dE,dU,and_assoc]at e_
 obtain⟨rfl,rfl,rfl,rfl⟩:=e_
 exact q_
theorem dX:FnScope ["_law_pts", "_law_family", "_law_told", "_law_due", "_law_way", "_law_number_here"] ["_law_pts", "_law_family", "_law_told", "_law_due"] (defScope (Ee 56)):=⟨rfl,rfl,rfl,by decide +kernel,rfl,by decide +kernel,by decide +kernel⟩
theorem d__law_worst_right(Fn:FnIn K mg "_law_worst_right" (Ee 56) ["_law_pts", "_law_family", "_law_told", "_law_due"])(Z:Bz mg)(d__law_box_miss:∀rl,Dfn P w K mg base rl "_law_box_miss" ["_law_points_told", "_law_box", "_law_way"] 3 aG)(d__law_is_box:∀rl,Dfn P w K mg base rl "_law_is_box" ["_law_s", "_law_family", "_law_thing"] 3 bF)   : Dfn P w K mg base rl "_law_worst_right" ["_law_pts", "_law_family", "_law_told", "_law_due"] 4 aF:=by
 have sc:=dX
 refine Dfn.of Fn sc (aF.mono) (aF.len) (fun cdv A outer s H E hr=>(af (bO (GN.pb (fQ (fx (cu (mO Z.isinstance_ (aa (vn 2) (aa (m7 Z.tuple_ (by rfl)) ab))))) (fQ (aA (dN hr.units) b9 (av _) (ce Z.len_ (aa (vn 2) ab)) ac) (fQ (aA oW jz (av _) (lE (hr.mono (HS _)) Z.repr_ (aa (aL (vn 2) ac) ab)) (lE (hr.mono (HS _)) Z.repr_ (aa (vn 3) ab))) (gm (aA (jW hr.u65) jA (by with_unfolding_all rfl) (aL (vn 2) ac) (bp (aa aD (aa aD ab))))))))) (aj (ar dZ)) aK)
  (af (bO (fx (cu (ak (d__law_is_box _) (hr.mono (by decide)) (aa (ce Z.len_ (aa (aL (vn 0) ac) ab)) (aa (vn 1) (aa (aL (vn 2) ac) ab)))))) (aj (ar dZ)) aK)
  (af (al 4 sc.nd (qF hr.u65 (cf (aa aD (aa aD ab))) (aa (aL (vn 2) ac) ab)))
  (af (al 5 sc.nd (ak (d__law_box_miss _) (hr.mono (by decide)) (aa (vn 0) (aa (aL (vn 2) ac) (aa (v_add ac (vn 4)) ab)))))
  (aj (ar (eB (dz hr.units) b9 (av _) (bp (aa (v_mul (aL (vn 5) ac) (aL (cf (aa ac (aa (nN ac) ab))) (vn 4))) (aa (aL (vn 5) ac) ab))) (vn 3))))))))) ?_
 rintro ws Q ⟨ps,f,t,u,rfl,⟨h1,h8,hu,hb⟩,hQ⟩
 refine az ?_
 have sz:=HM
 obtain⟨ss,sl,hbx,hpp,h⟩:=hb
 subst hu
 have hsm:∀s∈ss,s.Sm:=fun s ms=>(hbx.2 s ms).2.1
 have e33:(((3:Nat):Int)==3)=true:=rfl
 have lyw:H_ [Iw (Hi "over"),Iw (Hi "lack")]=true:=by decide +kernel
 have ln2:[Iw (Hi "over"),Iw (Hi "lack")].length<=sizeLine:=by simp;omega
 have pb:=bF.eq (dimP ps) f ss sl hbx
 obtain⟨p0,pr,ep⟩:=Lo (show 0<ps.length by omega)
 have et0:itemAt (ptsQ ps) 0=some (EQ p0):=by rw[ep];show atI ((p0::pr).map EQ) ((0:Nat):Int)=_;exact cP rfl
 have ed:kB (EQ p0)=some (dimP ps):=by rw[ep];show some (p0.map fr).length=_;rw[Hu];rfl
 rcases HN.mp h with rfl|h
 · have ov:(([Iw (Hi "over"),Iw (Hi "lack")]:List Hh).any fun z=>z.eqv (.str (Hi "over")))=true:=by decide +kernel
   have sv:HU (.str (Hi "over"))=true:=by decide +kernel
   have fi:([Iw (Hi "over"),Iw (Hi "lack")].findIdx? fun z=>HQ z (.str (Hi "over")))=some 0:=by decide +kernel
   have i1:itemAt (teD (ET ps ss, "over", ss)) 1=some (.str (Hi "over")):=rfl
   have i0:itemAt (teD (ET ps ss, "over", ss)) 0=some (fr (ET ps ss)):=rfl
   have i2:itemAt (teD (ET ps ss, "over", ss)) 2=some (df ss):=rfl
   have isi:lY (teD (ET ps ss, "over", ss)) "tuple" = true:=rfl
   have ln:kB (teD (ET ps ss, "over", ss))=some 3:=rfl
   have bm:aG [.d (ptsQ ps),.d (df ss),.d (.int 1)]=VL.ret (fr (qd (cntN ps ss (DW true)) ps.length-dv ss)):=aG.eq ps ss true h1 h8 hbx.1 hpp hsm
   have eb:qd (cntN ps ss (DW true)) ps.length-dv ss=ET ps ss:=rfl
   rw[eb]at bm
   have ix:atI [HB 1,HB (-1)] 0=some (HB (1)):=rfl
   obtain⟨ep1,ep2⟩:=zn _ _ (ET ps ss) (yl _)
   have shq:=cF (ET ps ss)
   have sqh:Gx (fr (ET ps ss)):=(sa (oV h1 (by omega) hbx.1 hsm).1 (by decide)).shw (by decide) (by decide)
   have cm1:∀x,aV x (1):=fun x=>.rt (by decide)
   simp_arith only[ag,ae,Hd,i0,i1,i2,isi,ln,e33,ov,sv,lyw,et0,ed,si,pb,jY,fi,ln2,bm,ix,ep1,ep2,shq,cm1]
   exact ax hQ
 · have et:=Ie.mp h
   subst et
   have ov:(([Iw (Hi "over"),Iw (Hi "lack")]:List Hh).any fun z=>z.eqv (.str (Hi "lack")))=true:=by decide +kernel
   have sv:HU (.str (Hi "lack"))=true:=by decide +kernel
   have fi:([Iw (Hi "over"),Iw (Hi "lack")].findIdx? fun z=>HQ z (.str (Hi "lack")))=some 1:=by decide +kernel
   have i1:itemAt (teD (Fz ps ss, "lack", ss)) 1=some (.str (Hi "lack")):=rfl
   have i0:itemAt (teD (Fz ps ss, "lack", ss)) 0=some (fr (Fz ps ss)):=rfl
   have i2:itemAt (teD (Fz ps ss, "lack", ss)) 2=some (df ss):=rfl
   have isi:lY (teD (Fz ps ss, "lack", ss)) "tuple" = true:=rfl
   have ln:kB (teD (Fz ps ss, "lack", ss))=some 3:=rfl
   have bm:aG [.d (ptsQ ps),.d (df ss),.d (.int 2)]=VL.ret (fr (qd (cntN ps ss (DW false)) ps.length-dv ss)):=aG.eq ps ss false h1 h8 hbx.1 hpp hsm
   have eb:qd (cntN ps ss (DW false)) ps.length-dv ss = -(Fz ps ss):=by show qd (cntN ps ss "open") ps.length-dv ss=_;unfold Fz;grind
   rw[eb]at bm
   have ix:atI [HB 1,HB (-1)] 1=some (HB (-1)):=rfl
   obtain⟨ep1,ep2⟩:=zn _ _ (Fz ps ss) ((yI (-(Fz ps ss))).trans (by rw[Rat.neg_neg]))
   have shq:=cF (Fz ps ss)
   have sqh:Gx (fr (Fz ps ss)):=(sa (oV h1 (by omega) hbx.1 hsm).2 (by decide)).shw (by decide) (by decide)
   have cm1:∀x,aV x (-1):=fun x=>.rt (by decide)
   simp_arith only[ag,ae,Hd,i0,i1,i2,isi,ln,e33,ov,sv,lyw,et0,ed,si,pb,jY,fi,ln2,bm,ix,ep1,ep2,shq,cm1]
   exact ax hQ
theorem sQ{i:Int}(h:i.natAbs<2^45):(Hi (MM i)).length<=60:=by
 have h1:=PySem.int_text_length_le (a:=i) (k:=46) (by decide) (J6 (Hs _) (iH (Hr h (HF (by decide) (by decide))) (by decide)))
 have h2:(Hi (MM i)).length=(MM i).length:=PySem.ofString_length _
 omega
structure Sx (dp bk:Nat) (d:Hh):Prop where
 sm:Sm dp bk d
 sh:Jk 60 d=true
theorem vI:∀{xs:List Hh},(∀d∈xs,Jk 60 d=true)->J7 60 xs=true
 | [],_=>rfl
 | x::xs,h=>by simp only[J7,Lp];exact⟨h x Hy,vI fun d md=>h d (Ht _ md)⟩
theorem Sx.tup{dp bk n:Nat}{xs:List Hh}(h:∀d∈xs,Sx dp bk d)(hl:xs.length<=n):Sx (dp+2) ((bk+1)*n) (.tuple xs):=⟨(Sm.seq (fun d md=>(h d md).sm) hl).1,by simp only[Jk];exact vI fun d md=>(h d md).sh⟩
theorem Sx.lst{dp bk n:Nat}{xs:List Hh}(h:∀d∈xs,Sx dp bk d)(hl:xs.length<=n):Sx (dp+2) ((bk+1)*n) (.list xs):=⟨(Sm.seq (fun d md=>(h d md).sm) hl).2,by simp only[Jk];exact vI fun d md=>(h d md).sh⟩
theorem Sx.mono{dp bk dp' bk':Nat}{d:Hh}(h:Sx dp bk d)(h1:dp<=dp')(h2:bk<=bk'):Sx dp' bk' d:=⟨h.sm.mono h1 h2,h.sh⟩
theorem Sx.shs{dp bk:Nat}(h:Sx dp bk d)(h1:dp<=60)(h2:bk<=200000):Gy d:=by
 have q:=MP 60 (by decide) d h.sh
 have b:=h.sm.blk
 have e:sizeLine=16777216:=HM
 exact⟨h.sm.nice,HX h.sm.dep h1,by omega⟩
theorem v6(h:EN 45 q):Sx 2 6 (fr q):=by
 refine⟨(sa h (by decide)).mono (by decide) (by decide),?_⟩
 unfold fr
 simp only[Jk,J7,Lp,decide_eq_true_eq]
 exact⟨sQ h.1,sQ (by rw[Iq];exact h.2),trivial⟩
theorem sT(h:x = "to" \/ x = "from" \/ x = "round"):Sx 2 6 (.str x):=by
 rcases h with rfl|rfl|rfl<;>exact⟨⟨dL _,by decide +kernel,by decide +kernel⟩,by decide +kernel⟩
theorem Az(hg:∀q∈rs,Gd q):∀d∈sl f rs,Sx 4 21 d:=by
 have h1:EN 45 1:=⟨by decide,by decide⟩
 have h2:EN 45 (-1):=⟨by decide,by decide⟩
 have hE:∀q∈rs++[1],EN 45 q:=fun q mq=>by
  rcases Ik.mp mq with m|m
  · exact(hg q m).1
  · cases Ie.mp m;exact h1
 have hB:∀q∈(-1)::rs,EN 45 q:=fun q mq=>by
  rcases HN.mp mq with rfl|m
  · exact h2
  · exact(hg q m).1
 have k2:∀(x:Str)(a:Rat),(x = "to" \/ x = "from" \/ x = "round")->EN 45 a->Sx 4 21 (.tuple [.str x,fr a]):=fun x a hx ha=>Sx.tup (n:=3) (xs:=[.str x,fr a]) (fun d md=>by
  simp only[HN,JM,or_false]at md
  rcases md with rfl|rfl
  · exact sT hx
  · exact v6 ha) (by simp)
 have k3:∀(x:Str)(a b:Rat),(x = "to" \/ x = "from" \/ x = "round")->EN 45 a->EN 45 b->Sx 4 21 (.tuple [.str x,fr a,fr b]):=fun x a b hx ha hb=>Sx.tup (n:=3) (xs:=[.str x,fr a,fr b]) (fun d md=>by
  simp only[HN,JM,or_false]at md
  rcases md with rfl|rfl|rfl
  · exact sT hx
  · exact v6 ha
  · exact v6 hb) (by simp)
 have hF:∀d∈slF rs,Sx 4 21 d:=fun d md=>by
  obtain⟨a,ma,h⟩:=Jh.mp md
  obtain⟨b,mb,h⟩:=Jd.mp h
  split at h
  · cases h;exact k3 _ a b (.inr (.inl rfl)) (hB a ma) (hE b mb)
  · cases h
 have hR:∀d∈slR rs,Sx 4 21 d:=fun d md=>by
  obtain⟨a,ma,h⟩:=Jh.mp md
  obtain⟨b,mb,h⟩:=Jd.mp h
  split at h
  · cases h;exact k3 _ a b (.inr (.inr rfl)) (hE a ma) (hB b mb)
  · cases h
 intro d md
 unfold sl at md
 split at md
 · obtain⟨q,mq,rfl⟩:=IA.mp md
   exact k2 _ q (.inl rfl) (hE q mq)
 · split at md
   · exact hF d md
   · rcases Ik.mp md with m|m
     · exact hF d m
     · exact hR d m
theorem wL(h:x = "over" \/ x = "lack"):Sx 2 6 (.str x):=by
 rcases h with rfl|rfl<;>exact⟨⟨dL _,by decide +kernel,by decide +kernel⟩,by decide +kernel⟩
theorem vE(f:Nat)(ps:List (List Rat)):(msL f ps).length=2*(chP (rowsS f ps)).length:=by
 have tl:∀l:List (List Sd),(l.flatMap (E7 ps)).length=2*l.length:=fun l=>by
  induction l with
  | nil=>rfl
  | cons x l ih=>rw[IB,HC,ih,HV];show 2+_=_;omega
 exact tl _
theorem yL{t:Gh}(h:t∈E7 ps ss):(t.2.1 = "over" \/ t.2.1 = "lack")/\t.2.2=ss:=by
 rcases HN.mp h with rfl|h
 · exact⟨.inl rfl,rfl⟩
 · cases Ie.mp h
   exact⟨.inr rfl,rfl⟩
theorem zw(hw:Gb f ps)(ms:ss∈chP (rowsS f ps)):Sx 6 88 (df ss):=by
 obtain⟨b1,b2⟩:=mD (dimP ps) _ (cH f ps) ss ms
 have h4:=hw.1.1.2.2.2.2
 refine Sx.tup (dp:=4) (bk:=21) (n:=4) (xs:=ss.map EG) (fun d md=>?_) (by rw[Hu,b1];exact h4)
 obtain⟨s,mt,rfl⟩:=IA.mp md
 obtain⟨r,mr,hr⟩:=b2 s mt
 obtain⟨j,hj,rfl⟩:=IA.mp mr
 exact Az (f:=f) (hw.1.2 j (JU.mp hj)).2 _ (by rw[qO];exact List.mem_map_of_mem hr)
theorem zA(hw:Gb f ps)(hc:(chP (rowsS f ps)).length<=512):Gy (.list (FY f ps)):=by
 have len:(FY f ps).length<=1024:=by
  unfold FY
  refine HX (IK ..) ?_
  rw[vE]
  omega
 have:Sx 10 183296 (.list (FY f ps)):=Sx.lst (dp:=8) (bk:=178) (n:=1024) (fun d md=>by
  obtain⟨t,mt,e⟩:=Jd.mp md
  split at e
  · cases e
    obtain⟨ss,ms,h⟩:=Jh.mp mt
    obtain⟨hx,hs⟩:=yL h
    refine Sx.tup (dp:=6) (bk:=88) (n:=2) (xs:=[.str t.2.1,df t.2.2]) (fun d md=>?_) (by simp)
    rcases HN.mp md with rfl|md
    · exact(wL hx).mono (by decide) (by decide)
    · cases Ie.mp md
      rw[hs]
      exact zw hw ms
  · cases e) len
 exact this.shs (by decide) (by decide)
theorem xJ{F:Fin 3}(hg:∀q∈rs,Gd q):∀s∈slS F.val rs,GP F s/\s.In1:=by
 have hE:∀q∈rs++[1],-1<=q/\q<=1:=fun q mq=>by
  rcases Ik.mp mq with m|m
  · obtain⟨_,a,b⟩:=hg q m
    exact⟨Ln (by decide) a,Jl b⟩
  · cases Ie.mp m;exact⟨by decide,by decide⟩
 have hB:∀q∈(-1)::rs,-1<=q/\q<=1:=fun q mq=>by
  rcases HN.mp mq with rfl|m
  · exact⟨by decide,by decide⟩
  · exact hE q (JO _ m)
 have hF:∀s∈slFS rs,(∃a b,s = .from a b)/\s.In1:=fun s ms=>by
  obtain⟨a,ma,h1⟩:=Jh.mp ms
  obtain⟨b,mb,h2⟩:=Jd.mp h1
  split at h2
  · cases h2;exact⟨⟨a,b,rfl⟩,hB a ma,hE b mb⟩
  · cases h2
 have hR:∀s∈slRS rs,(∃a b,s = .round a b)/\s.In1:=fun s ms=>by
  obtain⟨a,ma,h1⟩:=Jh.mp ms
  obtain⟨b,mb,h2⟩:=Jd.mp h1
  split at h2
  · cases h2;exact⟨⟨a,b,rfl⟩,hE a ma,hB b mb⟩
  · cases h2
 intro s ms
 obtain rfl|rfl|rfl:=zm F
 · have ms:s∈(rs++[1]).map Sd.to:=ms
   obtain⟨t,mt,rfl⟩:=IA.mp ms
   exact⟨.inl ⟨rfl,t,rfl⟩,hE t mt,hE t mt⟩
 · have ms:s∈slFS rs:=ms
   obtain⟨h1,h2⟩:=hF s ms
   exact⟨.inr (.inl ⟨rfl,h1⟩),h2⟩
 · have ms:s∈slFS rs++slRS rs:=ms
   rcases Ik.mp ms with m|m
   · obtain⟨h1,h2⟩:=hF s m
     exact⟨.inr (.inr ⟨rfl,.inl h1⟩),h2⟩
   · obtain⟨h1,h2⟩:=hR s m
     exact⟨.inr (.inr ⟨rfl,.inr h1⟩),h2⟩
theorem AZ{F:Fin 3}(hw:Gb F.val ps){t:Gh}(mt:t∈msL F.val ps):∃ss,ss.length=dimP ps/\G9 F ss/\(∀p∈ps,p.length=ss.length/\∀q∈p,Gd q)/\t∈E7 ps ss:=by
 obtain⟨ss,ms,h⟩:=Jh.mp mt
 obtain⟨b1,b2⟩:=mD (dimP ps) _ (cH F.val ps) ss ms
 have h4:=hw.1.1.2.2.2.2
 refine⟨ss,b1,⟨by omega,fun s mt=>?_⟩,by rw[b1];exact hw.1.1.2.2.1,h⟩
 obtain⟨r,mr,hr⟩:=b2 s mt
 obtain⟨j,hj,rfl⟩:=IA.mp mr
 have hg:=hw.1.2 j (JU.mp hj)
 obtain⟨o,i⟩:=xJ hg.2 s hr
 exact⟨o,jH hg s hr,i⟩
theorem wK(f:Nat)(ps:List (List Rat)):DY f ps∈msL f ps:=by
 obtain⟨t,ts,e⟩:=lR f ps
 unfold DY
 rw[e]
 rcases pQ (t::ts) ((t::ts).headD (0, "", []))with z|z
 · rw[z];exact Hy
 · exact z
theorem xN:FnScope ["_law_script", "_law_feed_here", "_law_k", "_law_family", "_law_pts", "_law_kept", "_law_number_here", "_law_due", "_law_turn", "_law_found"] ["_law_script"] (defScope (Ee 57)):=⟨rfl,rfl,rfl,by decide +kernel,rfl,by decide +kernel,by decide +kernel⟩
theorem rL(Z:Bz mg)(d__law_feed:DfnR P w K mg base "_law_feed" ["_law_script"] 2 zH)(d__law_world:∀rl,Dfn P w K mg base rl "_law_world" ["_law_feed_here"] 4 bX)(d__law_greatest:∀rl,Dfn P w K mg base rl "_law_greatest" ["_law_points_here", "_law_family"] 5 aR)(d_all_worst:∀rl,DfnL P w K mg base rl "all_worst" ["points", "family"] 8 ca)(d__law_worst_right:∀rl,Dfn P w K mg base rl "_law_worst_right" ["_law_pts", "_law_family", "_law_told", "_law_due"] 4 aF)(d_worst:∀rl,Dfn P w K mg base rl "worst" ["points", "family"] 8 d0){f:Addr}(F:Fun K "law" "law" (Ee 57) f fd):FnOk P w K mg base G8 10 f fd ["_law_script"] (ip K):=by
 have sc:=xN
 refine vt F sc (fun cdv A outer s H E hr=>(t6 1 d__law_feed (hr.mono (by decide)) sc.nd (aa (vn 0) ab) (fun r _=>(af (bo [2,3,4,5,6,7,8,9] Ig rfl (bT Z.range_ (aa ac ab)) (ai 2 sc.nd) (af (jy (ak (d__law_world _) (hr.mono (by decide)) (aa (vn 1) ab)) (dq (n:=2) rfl (ay (ai 3 sc.nd) (ay (ai 4 sc.nd) cE))))
  (af (al 5 sc.nd (lE (hr.mono (HS _)) Z.repr_ (aa (vn 4) ab)))
  (af (jy (ak (d__law_greatest _) (hr.mono (by decide)) (aa (vn 4) (aa (vn 3) ab))) (dq (n:=2) rfl (ay (ai 6 sc.nd) (ay (ai 7 sc.nd) cE))))
  (af (bo [8,9] Ig rfl (bT Z.range_ (aa (v_add ac (ie Z.int_ (aa (eB (dz hr.units) b9 (av _) (ce Z.len_ (aa (aL (vn 4) ac) ab)) ac) ab))) ab)) (ai 8 sc.nd) (af (bO (fx (cu (ak (d__law_worst_right _) (hr.mono (by decide)) (aa (vn 4) (aa (vn 3) (aa (ak (d_worst _) (hr.mono (by decide)) (aa (vn 4) (aa (vn 3) ab))) (aa (vn 6) ab))))))) (aj (ar dZ)) aK)
  (af (d_ 9 sc.nd (ug (d_all_worst _) (hr.mono (by decide)) (aa (vn 4) (aa (vn 3) ab))))
  (af (bO (aA oW jz (av _) (nL (hr.mono (HS _)) Z.repr_ (aa (vn 9) ab)) (nL (hr.mono (HS _)) Z.repr_ (aa (vn 7) ab))) (aj (ar dZ)) aK)
  (aj (wM 9))))))
  (aj (bO (aA oW jz (av _) (lE (hr.mono (HS _)) Z.repr_ (aa (vn 4) ab)) (vn 5)) (aj (ar dZ)) aK)))))))
  (aj (ar dZ)))))) ?_
 intro ns hn
 have sz:=HM
 have pf:=zH.eq hn
 simp_arith only[ag,ae,cA,cB,bQ,cC,bR,aW,pf]
 refine mo ?_ ?_
 · intro i hi K hK
   simp_arith only[ag,ae,cA,cB,bQ,cC,bR,aW,bX.eq]
   (with_reducible (first|refine aP fun z hz=>?_|refine bh fun z hz=>?_))
   obtain⟨f,s,ps⟩:=z
   have hz:Wd f s ps:=hz
   have hw:=qA hz
   have hc:(chP (rowsS f ps)).length<=512:=by
    obtain⟨hd,_,hm,_⟩:=lz hz
    have e:=qh f ps hw.gd (dimP ps) (Hs _)
    have m:=hm (dimP ps) (by omega)
    have el:=cH f ps
    rw[oy,<- K5,qg,Hu,HE (by omega)]at e
    omega
   obtain⟨F,rfl⟩:∃F:Fin 3,F.val=f:=⟨⟨f,hz.1⟩,rfl⟩
   have ef:sg F.val=ck F:=rfl
   have eqi:∀i j:Int,HQ (.int i) (.int j)=(i==j):=fun i j=>by simp[HQ]
   have hlaw:∀ρ,fo [2,3,4,5,6,7,8,9] ρ=[some (.sc ns),some .reel,none,none,none,none,none,none,none,none]->K (.nx ρ):=fun ρ e=>hK _ (bK e)
   have sw:=AM hw
   have g1:aR [.d (ptsQ ps),.d (.str (ck F))]=VL.ret (Io [fr (DY F.val ps).1,.list (FY F.val ps)]):=by rw[<- zx hw];exact aR.eq ps F hw
   have wr:=aF.eq ps F (DY F.val ps) (DY F.val ps).1 hw.1.1.1 hw.2.1 rfl (AZ hw (wK F.val ps))
   have ss:=zA hw hc
   obtain⟨p0,pr,ep⟩:=Lo (show 0<ps.length from hw.1.1.1)
   have et0:itemAt (ptsQ ps) 0=some (EQ p0):=by rw[ep];show atI ((p0::pr).map EQ) ((0:Nat):Int)=_;exact cP rfl
   have ed:kB (EQ p0)=some (dimP ps):=by rw[ep];show some (p0.map fr).length=_;rw[Hu];rfl
   dsimp only
   rw[ef]
   simp_arith only[ag,ae,cA,cB,bQ,cC,bR,aW,Hd,g1,et0,ed,eqi]
   refine mo ?_ ?_
   · intro u hu K2 hK2
     simp_arith only[ag,ae,d0.eq,wr,ca.eq,rF,AA]
     exact hK2 _ (bK rfl)
   · simp_arith only[ag,ae,cA,cB,bQ,cC,bR,aW,Hd]
     exact hlaw _ rfl
 · simp_arith only[ag,ae]
   exact vN
structure Txt (K:Kk) (mg:Str->Option Hq):Prop where
 bz:Bz mg
 f__law_feed:FnIn K mg "_law_feed" (Ee 38) ["_law_script"]
 f__law_draw:FnIn K mg "_law_draw" (Ee 39) ["_law_feed_here", "_law_many"]
 f__law_frac:FnIn K mg "_law_frac" (Ee 40) ["_law_top", "_law_bottom"]
 f__law_cmp:FnIn K mg "_law_cmp" (Ee 41) ["_law_one", "_law_other"]
 f__law_number:FnIn K mg "_law_number" (Ee 42) ["_law_feed_here", "_law_seen", "_law_is_first"]
 f__law_points:FnIn K mg "_law_points" (Ee 43) ["_law_feed_here", "_law_s", "_law_most"]
 f__law_world:FnIn K mg "_law_world" (Ee 44) ["_law_feed_here"]
 f_common_divisor:FnIn K mg "common_divisor" (Ee 7) ["one", "other"]
 f_fraction:FnIn K mg "fraction" (Ee 8) ["top", "bottom"]
 f_plus:FnIn K mg "plus" (Ee 9) ["one", "other"]
 f_less:FnIn K mg "less" (Ee 10) ["one", "other"]
 f_times:FnIn K mg "times" (Ee 11) ["one", "other"]
 f_is_below:FnIn K mg "is_below" (Ee 12) ["one", "other"]
 f_lesser:FnIn K mg "lesser" (Ee 13) ["one", "other"]
 f_greater:FnIn K mg "greater" (Ee 14) ["one", "other"]
 f_in_size:FnIn K mg "in_size" (Ee 15) ["some"]
 f_sides_of:FnIn K mg "sides_of" (Ee 21) ["points"]
 f_numbers_at:FnIn K mg "numbers_at" (Ee 22) ["points", "side"]
 f__law_sorted:FnIn K mg "_law_sorted" (Ee 45) ["_law_some"]
 f_side_looks:FnIn K mg "side_looks" (Ee 26) ["numbers", "family"]
 f_many_side_looks:FnIn K mg "many_side_looks" (Ee 27) ["many", "family"]
 f_many_looks:FnIn K mg "many_looks" (Ee 28) ["points", "family"]
 f_looks_by_side:FnIn K mg "looks_by_side" (Ee 29) ["points", "family"]
 f__law_side_looks:FnIn K mg "_law_side_looks" (Ee 46) ["_law_numbers", "_law_family"]
 f_side_size:FnIn K mg "side_size" (Ee 17) ["side"]
 f_goes_ahead:FnIn K mg "goes_ahead" (Ee 18) ["one", "other", "may_meet"]
 f_lies:FnIn K mg "lies" (Ee 19) ["x", "side", "way"]
 f_marked:FnIn K mg "marked" (Ee 30) ["numbers", "look"]
 f_widened:FnIn K mg "widened" (Ee 31) ["row", "mark"]
 f_counted_looks:FnIn K mg "counted_looks" (Ee 32) ["points", "family"]
 f_misses:FnIn K mg "misses" (Ee 33) ["points", "family"]
 f_first_greatest:FnIn K mg "first_greatest" (Ee 34) ["rows"]
 f_worst:FnIn K mg "worst" (Ee 35) ["points", "family"]
 f__law_side_size:FnIn K mg "_law_side_size" (Ee 48) ["_law_side"]
 f__law_lies:FnIn K mg "_law_lies" (Ee 47) ["_law_x", "_law_side", "_law_way"]
 f__law_side_rows:FnIn K mg "_law_side_rows" (Ee 49) ["_law_points_here", "_law_side", "_law_family"]
 f__law_ones:FnIn K mg "_law_ones" (Ee 50) ["_law_bits"]
 f__law_misses:FnIn K mg "_law_misses" (Ee 51) ["_law_points_here", "_law_family"]
 f__law_greatest:FnIn K mg "_law_greatest" (Ee 52) ["_law_points_here", "_law_family"]
 f_all_worst:FnIn K mg "all_worst" (Ee 36) ["points", "family"]
 f__law_box_miss:FnIn K mg "_law_box_miss" (Ee 53) ["_law_points_told", "_law_box", "_law_way"]
 f__law_is_end:FnIn K mg "_law_is_end" (Ee 54) ["_law_thing"]
 f__law_is_box:FnIn K mg "_law_is_box" (Ee 55) ["_law_s", "_law_family", "_law_thing"]
 f__law_worst_right:FnIn K mg "_law_worst_right" (Ee 56) ["_law_pts", "_law_family", "_law_told", "_law_due"]
 g_ONE:GlD K mg "ONE" (pr 1 1)
 g_ZERO:GlD K mg "ZERO" (pr 0 1)
 g_BELOW_ALL:GlD K mg "BELOW_ALL" (.tuple [.int (-1),.int 1])
 g_MOST_LOOKS:GlD K mg "MOST_LOOKS" (.int 3000)
theorem yG{f:Addr}(F:Fun K "law" "law" (Ee 57) f fd)(T:Txt K mg)  : FnOk P w K mg base G8 10 f fd ["_law_script"] (ip K):=by
 have d__law_feed:DfnR P w K mg base "_law_feed" ["_law_script"] 2 zH:=K21.d__law_feed T.f__law_feed T.bz   
 have d__law_draw:∀rl,Dfn P w K mg base rl "_law_draw" ["_law_feed_here", "_law_many"] 1 bi:=fun rl=>K21.d__law_draw T.f__law_draw T.bz   
 have d__law_frac:∀rl,Dfn P w K mg base rl "_law_frac" ["_law_top", "_law_bottom"] 1 a_:=fun rl=>K21.d__law_frac T.f__law_frac T.bz   
 have d__law_cmp:∀rl,Dfn P w K mg base rl "_law_cmp" ["_law_one", "_law_other"] 1 aS:=fun rl=>K21.d__law_cmp T.f__law_cmp T.bz   
 have d__law_number:∀rl,Dfn P w K mg base rl "_law_number" ["_law_feed_here", "_law_seen", "_law_is_first"] 2 bC:=fun rl=>K21.d__law_number T.f__law_number T.bz d__law_draw d__law_frac  
 have d__law_points:∀rl,Dfn P w K mg base rl "_law_points" ["_law_feed_here", "_law_s", "_law_most"] 3 bx:=fun rl=>K21.d__law_points T.f__law_points T.bz d__law_draw d__law_number  
 have d__law_world:∀rl,Dfn P w K mg base rl "_law_world" ["_law_feed_here"] 4 bX:=fun rl=>K21.d__law_world T.f__law_world T.bz d__law_draw d__law_points  
 have d_common_divisor:∀rl,Dfn P w K mg base rl "common_divisor" ["one", "other"] 1 aT:=fun rl=>K21.d_common_divisor T.f_common_divisor T.bz   
 have d_fraction:∀rl,Dfn P w K mg base rl "fraction" ["top", "bottom"] 2 bM:=fun rl=>K21.d_fraction T.f_fraction T.bz d_common_divisor  
 have d_plus:∀rl,Dfn P w K mg base rl "plus" ["one", "other"] 3 gG:=fun rl=>K21.d_plus T.f_plus T.bz d_fraction  
 have d_less:∀rl,Dfn P w K mg base rl "less" ["one", "other"] 3 fG:=fun rl=>K21.d_less T.f_less T.bz d_fraction  
 have d_times:∀rl,Dfn P w K mg base rl "times" ["one", "other"] 3 d7:=fun rl=>K21.d_times T.f_times T.bz d_fraction  
 have d_is_below:∀rl,Dfn P w K mg base rl "is_below" ["one", "other"] 1 bq:=fun rl=>K21.d_is_below T.f_is_below T.bz   
 have d_lesser:∀rl,Dfn P w K mg base rl "lesser" ["one", "other"] 2 cY:=fun rl=>K21.d_lesser T.f_lesser T.bz d_is_below  
 have d_greater:∀rl,Dfn P w K mg base rl "greater" ["one", "other"] 2 cJ:=fun rl=>K21.d_greater T.f_greater T.bz d_is_below  
 have d_in_size:∀rl,Dfn P w K mg base rl "in_size" ["some"] 1 cv:=fun rl=>K21.d_in_size T.f_in_size T.bz   
 have d_sides_of:∀rl,Dfn P w K mg base rl "sides_of" ["points"] 1 cc:=fun rl=>K21.d_sides_of T.f_sides_of T.bz   
 have d_numbers_at:∀rl,Dfn P w K mg base rl "numbers_at" ["points", "side"] 2 bu:=fun rl=>K21.d_numbers_at T.f_numbers_at T.bz d_in_size  
 have d__law_sorted:∀rl,Dfn P w K mg base rl "_law_sorted" ["_law_some"] 2 bw:=fun rl=>K21.d__law_sorted T.f__law_sorted T.bz d__law_cmp  
 have d_side_looks:∀rl,Dfn P w K mg base rl "side_looks" ["numbers", "family"] 2 bU:=fun rl=>K21.d_side_looks T.f_side_looks T.bz d_is_below T.g_ONE T.g_BELOW_ALL 
 have d_many_side_looks:∀rl,Dfn P w K mg base rl "many_side_looks" ["many", "family"] 1 aM:=fun rl=>K21.d_many_side_looks T.f_many_side_looks T.bz   
 have d_many_looks:∀rl,Dfn P w K mg base rl "many_looks" ["points", "family"] 3 bV:=fun rl=>K21.d_many_looks T.f_many_looks T.bz d_sides_of d_many_side_looks d_numbers_at  
 have d_looks_by_side:∀rl,Dfn P w K mg base rl "looks_by_side" ["points", "family"] 4 aY:=fun rl=>K21.d_looks_by_side T.f_looks_by_side T.bz d_many_looks d_side_looks d_numbers_at d_sides_of T.g_MOST_LOOKS 
 have d__law_side_looks:∀rl,Dfn P w K mg base rl "_law_side_looks" ["_law_numbers", "_law_family"] 2 aN:=fun rl=>K21.d__law_side_looks T.f__law_side_looks T.bz d__law_cmp  
 have d_side_size:∀rl,Dfn P w K mg base rl "side_size" ["side"] 4 b_:=fun rl=>K21.d_side_size T.f_side_size T.bz d_greater d_less d_lesser d_plus T.g_ZERO T.g_ONE 
 have d_goes_ahead:∀rl,Dfn P w K mg base rl "goes_ahead" ["one", "other", "may_meet"] 2 bW:=fun rl=>K21.d_goes_ahead T.f_goes_ahead T.bz d_is_below  
 have d_lies:∀rl,Dfn P w K mg base rl "lies" ["x", "side", "way"] 3 gH:=fun rl=>K21.d_lies T.f_lies T.bz d_goes_ahead  
 have d_marked:∀rl,Dfn P w K mg base rl "marked" ["numbers", "look"] 5 cX:=fun rl=>K21.d_marked T.f_marked T.bz d_lies d_side_size  
 have d_widened:∀rl,Dfn P w K mg base rl "widened" ["row", "mark"] 4 cI:=fun rl=>K21.d_widened T.f_widened T.bz d_times  
 have d_counted_looks:∀rl,Dfn P w K mg base rl "counted_looks" ["points", "family"] 6 aZ:=fun rl=>K21.d_counted_looks T.f_counted_looks T.bz d_looks_by_side d_marked d_widened T.g_ONE 
 have d_misses:∀rl,Dfn P w K mg base rl "misses" ["points", "family"] 7 cK:=fun rl=>K21.d_misses T.f_misses T.bz d_counted_looks d_less d_fraction  
 have d_first_greatest:∀rl,Dfn P w K mg base rl "first_greatest" ["rows"] 2 aB:=fun rl=>K21.d_first_greatest T.f_first_greatest T.bz d_is_below  
 have d_worst:∀rl,Dfn P w K mg base rl "worst" ["points", "family"] 8 d0:=fun rl=>K21.d_worst T.f_worst T.bz d_first_greatest d_misses  
 have d__law_side_size:∀rl,Dfn P w K mg base rl "_law_side_size" ["_law_side"] 2 aI:=fun rl=>K21.d__law_side_size T.f__law_side_size T.bz d__law_frac  
 have d__law_lies:∀rl,Dfn P w K mg base rl "_law_lies" ["_law_x", "_law_side", "_law_way"] 2 bY:=fun rl=>K21.d__law_lies T.f__law_lies T.bz d__law_cmp  
 have d__law_side_rows:∀rl,Dfn P w K mg base rl "_law_side_rows" ["_law_points_here", "_law_side", "_law_family"] 3 aU:=fun rl=>K21.d__law_side_rows T.f__law_side_rows T.bz d__law_side_looks d__law_sorted d__law_side_size d__law_lies  
 have d__law_ones:∀rl,Dfn P w K mg base rl "_law_ones" ["_law_bits"] 1 bA:=fun rl=>K21.d__law_ones T.f__law_ones T.bz   
 have d__law_misses:∀rl,Dfn P w K mg base rl "_law_misses" ["_law_points_here", "_law_family"] 4 bD:=fun rl=>K21.d__law_misses T.f__law_misses T.bz d__law_side_rows d__law_ones  
 have d__law_greatest:∀rl,Dfn P w K mg base rl "_law_greatest" ["_law_points_here", "_law_family"] 5 aR:=fun rl=>K21.d__law_greatest T.f__law_greatest T.bz d__law_misses d__law_frac d__law_cmp  
 have d_all_worst:∀rl,DfnL P w K mg base rl "all_worst" ["points", "family"] 8 ca:=fun rl=>K21.d_all_worst T.f_all_worst T.bz d_misses d_first_greatest  
 have d__law_box_miss:∀rl,Dfn P w K mg base rl "_law_box_miss" ["_law_points_told", "_law_box", "_law_way"] 3 aG:=fun rl=>K21.d__law_box_miss T.f__law_box_miss T.bz d__law_frac d__law_side_size d__law_lies  
 have d__law_is_end:∀rl,Dfn P w K mg base rl "_law_is_end" ["_law_thing"] 2 bE:=fun rl=>K21.d__law_is_end T.f__law_is_end T.bz d__law_frac  
 have d__law_is_box:∀rl,Dfn P w K mg base rl "_law_is_box" ["_law_s", "_law_family", "_law_thing"] 3 bF:=fun rl=>K21.d__law_is_box T.f__law_is_box T.bz d__law_is_end  
 have d__law_worst_right:∀rl,Dfn P w K mg base rl "_law_worst_right" ["_law_pts", "_law_family", "_law_told", "_law_due"] 4 aF:=fun rl=>K21.d__law_worst_right T.f__law_worst_right T.bz d__law_box_miss d__law_is_box  
 exact rL T.bz d__law_feed d__law_world d__law_greatest d_all_worst d__law_worst_right d_worst   F
end
theorem C5(hl:us.length=0):us=[]:=Lv hl
theorem nW(hl:us.length=1):∃a0,us=[a0]:=by
 cases us with
 | nil=>cases hl
 | cons a0 t=>cases C5 (MI hl);exact⟨a0,rfl⟩
theorem fy(hl:us.length=2):∃a0 a1,us=[a0,a1]:=by
 cases us with
 | nil=>cases hl
 | cons a0 t=>obtain⟨a1,rfl⟩:=nW (MI hl);exact⟨a0,a1,rfl⟩
theorem qK(hl:us.length=3):∃a0 a1 a2,us=[a0,a1,a2]:=by
 cases us with
 | nil=>cases hl
 | cons a0 t=>obtain⟨a1,a2,rfl⟩:=fy (MI hl);exact⟨a0,a1,a2,rfl⟩
theorem C3(hl:us.length=4):∃a0 a1 a2 a3,us=[a0,a1,a2,a3]:=by
 cases us with
 | nil=>cases hl
 | cons a0 t=>obtain⟨a1,a2,a3,rfl⟩:=qK (MI hl);exact⟨a0,a1,a2,a3,rfl⟩
theorem aC{K:Kk}(X:K.In h)(G:h.Ns II mg){st:Stmt}{ps:List Str}{f:Addr}{oc kV dc pm cd ct:Hq}{od an:Option Addr}{sl:Array (Option Hq)}(a:Nw K II x=some (some (.ref f)))(l:K.lookup f=some ⟨oc,od,.func (Nx x x (defArgs st) (defBody st) (defScope st) .none kV dc pm an cd ct),sl⟩)(c:HG K cd x=true)(k:HH K (.ref f)=true)(hb:∀(kV doc pm:Hq)(an:Option Addr)(cdv ct:Hq)(us:List Hq),us.length=ps.length->bindArgs (Nx x x (defArgs st) (defBody st) (defScope st) .none kV doc pm an cdv ct) ⟨us,[]⟩=pure (ps.zip us)):FnIn K mg x st ps:=⟨⟨f,_,PySem.W.mg_of X G a,pO l c k,(pO l c k).binds hb⟩⟩
abbrev NI(K:Kk)(x:Str)(f:Addr):Prop:=Nw K II x=some (some (.ref f))
abbrev NZ(K:Kk)(x:Str):Prop:=Nw K II x=some none
abbrev LK(K:Kk)(x:Str)(st:Stmt)(f:Addr)(oc:Hq)(od:Option Addr)(kV dc pm:Hq)(an:Option Addr)(cd ct:Hq)(sl:Array (Option Hq)):Prop:=K.lookup f=some ⟨oc,od,.func (Nx x x (defArgs st) (defBody st) (defScope st) .none kV dc pm an cd ct),sl⟩
theorem all_mk{l:MJ}{w:IV}{K:Kk}{fa:Addr}(X:K.In h)(G:h.Ns II mg)(hfa:mg "law" = some (.ref fa))
 {f1 f2 f3 f4 f5 f6 f7 f8 f9 f10 f11 f12 f13 f14 f15 f16 f17 f18 f19 f20 f21 f22 f23 f24 f25 f26 f27 f28 f29 f30 f31 f32 f33 f34 f35 f36 f37 f38 f39 f40 f41 f42 f43 f44 f45:Addr}{od1 an1 od2 an2 od3 an3 od4 an4 od5 an5 od6 an6 od7 an7 od8 an8 od9 an9 od10 an10 od11 an11 od12 an12 od13 an13 od14 an14 od15 an15 od16 an16 od17 an17 od18 an18 od19 an19 od20 an20 od21 an21 od22 an22 od23 an23 od24 an24 od25 an25 od26 an26 od27 an27 od28 an28 od29 an29 od30 an30 od31 an31 od32 an32 od33 an33 od34 an34 od35 an35 od36 an36 od37 an37 od38 an38 od39 an39 od40 an40 od41 an41 od42 an42 od43 an43 od44 an44 od45 an45:Option Addr}{sl1 sl2 sl3 sl4 sl5 sl6 sl7 sl8 sl9 sl10 sl11 sl12 sl13 sl14 sl15 sl16 sl17 sl18 sl19 sl20 sl21 sl22 sl23 sl24 sl25 sl26 sl27 sl28 sl29 sl30 sl31 sl32 sl33 sl34 sl35 sl36 sl37 sl38 sl39 sl40 sl41 sl42 sl43 sl44 sl45:Array (Option Hq)}{oc1 kV1 dc1 pm1 cd1 ct1 oc2 kV2 dc2 pm2 cd2 ct2 oc3 kV3 dc3 pm3 cd3 ct3 oc4 kV4 dc4 pm4 cd4 ct4 oc5 kV5 dc5 pm5 cd5 ct5 oc6 kV6 dc6 pm6 cd6 ct6 oc7 kV7 dc7 pm7 cd7 ct7 oc8 kV8 dc8 pm8 cd8 ct8 oc9 kV9 dc9 pm9 cd9 ct9 oc10 kV10 dc10 pm10 cd10 ct10 oc11 kV11 dc11 pm11 cd11 ct11 oc12 kV12 dc12 pm12 cd12 ct12 oc13 kV13 dc13 pm13 cd13 ct13 oc14 kV14 dc14 pm14 cd14 ct14 oc15 kV15 dc15 pm15 cd15 ct15 oc16 kV16 dc16 pm16 cd16 ct16 oc17 kV17 dc17 pm17 cd17 ct17 oc18 kV18 dc18 pm18 cd18 ct18 oc19 kV19 dc19 pm19 cd19 ct19 oc20 kV20 dc20 pm20 cd20 ct20 oc21 kV21 dc21 pm21 cd21 ct21 oc22 kV22 dc22 pm22 cd22 ct22 oc23 kV23 dc23 pm23 cd23 ct23 oc24 kV24 dc24 pm24 cd24 ct24 oc25 kV25 dc25 pm25 cd25 ct25 oc26 kV26 dc26 pm26 cd26 ct26 oc27 kV27 dc27 pm27 cd27 ct27 oc28 kV28 dc28 pm28 cd28 ct28 oc29 kV29 dc29 pm29 cd29 ct29 oc30 kV30 dc30 pm30 cd30 ct30 oc31 kV31 dc31 pm31 cd31 ct31 oc32 kV32 dc32 pm32 cd32 ct32 oc33 kV33 dc33 pm33 cd33 ct33 oc34 kV34 dc34 pm34 cd34 ct34 oc35 kV35 dc35 pm35 cd35 ct35 oc36 kV36 dc36 pm36 cd36 ct36 oc37 kV37 dc37 pm37 cd37 ct37 oc38 kV38 dc38 pm38 cd38 ct38 oc39 kV39 dc39 pm39 cd39 ct39 oc40 kV40 dc40 pm40 cd40 ct40 oc41 kV41 dc41 pm41 cd41 ct41 oc42 kV42 dc42 pm42 cd42 ct42 oc43 kV43 dc43 pm43 cd43 ct43 oc44 kV44 dc44 pm44 cd44 ct44 oc45 kV45 dc45 pm45 cd45 ct45:Hq}
 (a1:NI K "_law_feed" f1)(l1:LK K "_law_feed" (Ee 38) f1 oc1 od1 kV1 dc1 pm1 an1 cd1 ct1 sl1)(c1:HG K cd1 "_law_feed" = true)(k1:HH K (.ref f1)=true)(a2:NI K "_law_draw" f2)(l2:LK K "_law_draw" (Ee 39) f2 oc2 od2 kV2 dc2 pm2 an2 cd2 ct2 sl2)(c2:HG K cd2 "_law_draw" = true)(k2:HH K (.ref f2)=true)(a3:NI K "_law_frac" f3)(l3:LK K "_law_frac" (Ee 40) f3 oc3 od3 kV3 dc3 pm3 an3 cd3 ct3 sl3)(c3:HG K cd3 "_law_frac" = true)(k3:HH K (.ref f3)=true)(a4:NI K "_law_cmp" f4)(l4:LK K "_law_cmp" (Ee 41) f4 oc4 od4 kV4 dc4 pm4 an4 cd4 ct4 sl4)(c4:HG K cd4 "_law_cmp" = true)(k4:HH K (.ref f4)=true)(a5:NI K "_law_number" f5)(l5:LK K "_law_number" (Ee 42) f5 oc5 od5 kV5 dc5 pm5 an5 cd5 ct5 sl5)(c5:HG K cd5 "_law_number" = true)(k5:HH K (.ref f5)=true)(a6:NI K "_law_points" f6)(l6:LK K "_law_points" (Ee 43) f6 oc6 od6 kV6 dc6 pm6 an6 cd6 ct6 sl6)(c6:HG K cd6 "_law_points" = true)(k6:HH K (.ref f6)=true)(a7:NI K "_law_world" f7)(l7:LK K "_law_world" (Ee 44) f7 oc7 od7 kV7 dc7 pm7 an7 cd7 ct7 sl7)(c7:HG K cd7 "_law_world" = true)(k7:HH K (.ref f7)=true)(a8:NI K "common_divisor" f8)(l8:LK K "common_divisor" (Ee 7) f8 oc8 od8 kV8 dc8 pm8 an8 cd8 ct8 sl8)(c8:HG K cd8 "common_divisor" = true)(k8:HH K (.ref f8)=true)(a9:NI K "fraction" f9)(l9:LK K "fraction" (Ee 8) f9 oc9 od9 kV9 dc9 pm9 an9 cd9 ct9 sl9)(c9:HG K cd9 "fraction" = true)(k9:HH K (.ref f9)=true)(a10:NI K "plus" f10)(l10:LK K "plus" (Ee 9) f10 oc10 od10 kV10 dc10 pm10 an10 cd10 ct10 sl10)(c10:HG K cd10 "plus" = true)(k10:HH K (.ref f10)=true)(a11:NI K "less" f11)(l11:LK K "less" (Ee 10) f11 oc11 od11 kV11 dc11 pm11 an11 cd11 ct11 sl11)(c11:HG K cd11 "less" = true)(k11:HH K (.ref f11)=true)(a12:NI K "times" f12)(l12:LK K "times" (Ee 11) f12 oc12 od12 kV12 dc12 pm12 an12 cd12 ct12 sl12)(c12:HG K cd12 "times" = true)(k12:HH K (.ref f12)=true)(a13:NI K "is_below" f13)(l13:LK K "is_below" (Ee 12) f13 oc13 od13 kV13 dc13 pm13 an13 cd13 ct13 sl13)(c13:HG K cd13 "is_below" = true)(k13:HH K (.ref f13)=true)(a14:NI K "lesser" f14)(l14:LK K "lesser" (Ee 13) f14 oc14 od14 kV14 dc14 pm14 an14 cd14 ct14 sl14)(c14:HG K cd14 "lesser" = true)(k14:HH K (.ref f14)=true)(a15:NI K "greater" f15)(l15:LK K "greater" (Ee 14) f15 oc15 od15 kV15 dc15 pm15 an15 cd15 ct15 sl15)(c15:HG K cd15 "greater" = true)(k15:HH K (.ref f15)=true)(a16:NI K "in_size" f16)(l16:LK K "in_size" (Ee 15) f16 oc16 od16 kV16 dc16 pm16 an16 cd16 ct16 sl16)(c16:HG K cd16 "in_size" = true)(k16:HH K (.ref f16)=true)(a17:NI K "sides_of" f17)(l17:LK K "sides_of" (Ee 21) f17 oc17 od17 kV17 dc17 pm17 an17 cd17 ct17 sl17)(c17:HG K cd17 "sides_of" = true)(k17:HH K (.ref f17)=true)(a18:NI K "numbers_at" f18)(l18:LK K "numbers_at" (Ee 22) f18 oc18 od18 kV18 dc18 pm18 an18 cd18 ct18 sl18)(c18:HG K cd18 "numbers_at" = true)(k18:HH K (.ref f18)=true)(a19:NI K "_law_sorted" f19)(l19:LK K "_law_sorted" (Ee 45) f19 oc19 od19 kV19 dc19 pm19 an19 cd19 ct19 sl19)(c19:HG K cd19 "_law_sorted" = true)(k19:HH K (.ref f19)=true)(a20:NI K "side_looks" f20)(l20:LK K "side_looks" (Ee 26) f20 oc20 od20 kV20 dc20 pm20 an20 cd20 ct20 sl20)(c20:HG K cd20 "side_looks" = true)(k20:HH K (.ref f20)=true)(a21:NI K "many_side_looks" f21)(l21:LK K "many_side_looks" (Ee 27) f21 oc21 od21 kV21 dc21 pm21 an21 cd21 ct21 sl21)(c21:HG K cd21 "many_side_looks" = true)(k21:HH K (.ref f21)=true)(a22:NI K "many_looks" f22)(l22:LK K "many_looks" (Ee 28) f22 oc22 od22 kV22 dc22 pm22 an22 cd22 ct22 sl22)(c22:HG K cd22 "many_looks" = true)(k22:HH K (.ref f22)=true)(a23:NI K "looks_by_side" f23)(l23:LK K "looks_by_side" (Ee 29) f23 oc23 od23 kV23 dc23 pm23 an23 cd23 ct23 sl23)(c23:HG K cd23 "looks_by_side" = true)(k23:HH K (.ref f23)=true)(a24:NI K "_law_side_looks" f24)(l24:LK K "_law_side_looks" (Ee 46) f24 oc24 od24 kV24 dc24 pm24 an24 cd24 ct24 sl24)(c24:HG K cd24 "_law_side_looks" = true)(k24:HH K (.ref f24)=true)(a25:NI K "side_size" f25)(l25:LK K "side_size" (Ee 17) f25 oc25 od25 kV25 dc25 pm25 an25 cd25 ct25 sl25)(c25:HG K cd25 "side_size" = true)(k25:HH K (.ref f25)=true)(a26:NI K "goes_ahead" f26)(l26:LK K "goes_ahead" (Ee 18) f26 oc26 od26 kV26 dc26 pm26 an26 cd26 ct26 sl26)(c26:HG K cd26 "goes_ahead" = true)(k26:HH K (.ref f26)=true)(a27:NI K "lies" f27)(l27:LK K "lies" (Ee 19) f27 oc27 od27 kV27 dc27 pm27 an27 cd27 ct27 sl27)(c27:HG K cd27 "lies" = true)(k27:HH K (.ref f27)=true)(a28:NI K "marked" f28)(l28:LK K "marked" (Ee 30) f28 oc28 od28 kV28 dc28 pm28 an28 cd28 ct28 sl28)(c28:HG K cd28 "marked" = true)(k28:HH K (.ref f28)=true)(a29:NI K "widened" f29)(l29:LK K "widened" (Ee 31) f29 oc29 od29 kV29 dc29 pm29 an29 cd29 ct29 sl29)(c29:HG K cd29 "widened" = true)(k29:HH K (.ref f29)=true)(a30:NI K "counted_looks" f30)(l30:LK K "counted_looks" (Ee 32) f30 oc30 od30 kV30 dc30 pm30 an30 cd30 ct30 sl30)(c30:HG K cd30 "counted_looks" = true)(k30:HH K (.ref f30)=true)(a31:NI K "misses" f31)(l31:LK K "misses" (Ee 33) f31 oc31 od31 kV31 dc31 pm31 an31 cd31 ct31 sl31)(c31:HG K cd31 "misses" = true)(k31:HH K (.ref f31)=true)(a32:NI K "first_greatest" f32)(l32:LK K "first_greatest" (Ee 34) f32 oc32 od32 kV32 dc32 pm32 an32 cd32 ct32 sl32)(c32:HG K cd32 "first_greatest" = true)(k32:HH K (.ref f32)=true)(a33:NI K "worst" f33)(l33:LK K "worst" (Ee 35) f33 oc33 od33 kV33 dc33 pm33 an33 cd33 ct33 sl33)(c33:HG K cd33 "worst" = true)(k33:HH K (.ref f33)=true)(a34:NI K "_law_side_size" f34)(l34:LK K "_law_side_size" (Ee 48) f34 oc34 od34 kV34 dc34 pm34 an34 cd34 ct34 sl34)(c34:HG K cd34 "_law_side_size" = true)(k34:HH K (.ref f34)=true)(a35:NI K "_law_lies" f35)(l35:LK K "_law_lies" (Ee 47) f35 oc35 od35 kV35 dc35 pm35 an35 cd35 ct35 sl35)(c35:HG K cd35 "_law_lies" = true)(k35:HH K (.ref f35)=true)(a36:NI K "_law_side_rows" f36)(l36:LK K "_law_side_rows" (Ee 49) f36 oc36 od36 kV36 dc36 pm36 an36 cd36 ct36 sl36)(c36:HG K cd36 "_law_side_rows" = true)(k36:HH K (.ref f36)=true)(a37:NI K "_law_ones" f37)(l37:LK K "_law_ones" (Ee 50) f37 oc37 od37 kV37 dc37 pm37 an37 cd37 ct37 sl37)(c37:HG K cd37 "_law_ones" = true)(k37:HH K (.ref f37)=true)(a38:NI K "_law_misses" f38)(l38:LK K "_law_misses" (Ee 51) f38 oc38 od38 kV38 dc38 pm38 an38 cd38 ct38 sl38)(c38:HG K cd38 "_law_misses" = true)(k38:HH K (.ref f38)=true)(a39:NI K "_law_greatest" f39)(l39:LK K "_law_greatest" (Ee 52) f39 oc39 od39 kV39 dc39 pm39 an39 cd39 ct39 sl39)(c39:HG K cd39 "_law_greatest" = true)(k39:HH K (.ref f39)=true)(a40:NI K "all_worst" f40)(l40:LK K "all_worst" (Ee 36) f40 oc40 od40 kV40 dc40 pm40 an40 cd40 ct40 sl40)(c40:HG K cd40 "all_worst" = true)(k40:HH K (.ref f40)=true)(a41:NI K "_law_box_miss" f41)(l41:LK K "_law_box_miss" (Ee 53) f41 oc41 od41 kV41 dc41 pm41 an41 cd41 ct41 sl41)(c41:HG K cd41 "_law_box_miss" = true)(k41:HH K (.ref f41)=true)(a42:NI K "_law_is_end" f42)(l42:LK K "_law_is_end" (Ee 54) f42 oc42 od42 kV42 dc42 pm42 an42 cd42 ct42 sl42)(c42:HG K cd42 "_law_is_end" = true)(k42:HH K (.ref f42)=true)(a43:NI K "_law_is_box" f43)(l43:LK K "_law_is_box" (Ee 55) f43 oc43 od43 kV43 dc43 pm43 an43 cd43 ct43 sl43)(c43:HG K cd43 "_law_is_box" = true)(k43:HH K (.ref f43)=true)(a44:NI K "_law_worst_right" f44)(l44:LK K "_law_worst_right" (Ee 56) f44 oc44 od44 kV44 dc44 pm44 an44 cd44 ct44 sl44)(c44:HG K cd44 "_law_worst_right" = true)(k44:HH K (.ref f44)=true)(a45:NI K "law" f45)(l45:LK K "law" (Ee 57) f45 oc45 od45 kV45 dc45 pm45 an45 cd45 ct45 sl45)(c45:HG K cd45 "law" = true)(k45:HH K (.ref f45)=true)
 (z_int:NZ K "int")(z_bool:NZ K "bool")(z_str:NZ K "str")(z_list:NZ K "list")(z_tuple:NZ K "tuple")(z_dict:NZ K "dict")(z_isinstance:NZ K "isinstance")(z_len:NZ K "len")(z_abs:NZ K "abs")(z_repr:NZ K "repr")(z_range:NZ K "range")(z_all:NZ K "all")(z_any:NZ K "any")(z_sum:NZ K "sum")(z_min:NZ K "min")(z_max:NZ K "max")(z_sorted:NZ K "sorted")(z_zip:NZ K "zip")(z_enumerate:NZ K "enumerate")(z_reversed:NZ K "reversed")(z_divmod:NZ K "divmod")(z_set:NZ K "set")(g_ONE:GlK K "ONE" (pr 1 1))(g_ZERO:GlK K "ZERO" (pr 0 1))(g_BELOW_ALL:GlK K "BELOW_ALL" (.tuple [.int (-1),.int 1]))(g_MOST_LOOKS:GlK K "MOST_LOOKS" (.int 3000))  :
 ∃fd:Ko,(∀(s:Hv)(v:Hq),ND s fd ⟨[v],[]⟩ [("_law_script", v)])/\∀base:Heap,K.In base->base.Ns II mg->FnOk l.prog w K mg base G8 10 fa fd ["_law_script"] (ip K):=by
 have e:=hfa.symm.trans (PySem.W.mg_of X G a45)
 cases e
 have B:Bz mg:=⟨HZ X G z_int,HZ X G z_bool,HZ X G z_str,HZ X G z_list,HZ X G z_tuple,HZ X G z_dict,HZ X G z_isinstance,HZ X G z_len,HZ X G z_abs,HZ X G z_repr,HZ X G z_range,HZ X G z_all,HZ X G z_any,HZ X G z_sum,HZ X G z_min,HZ X G z_max,HZ X G z_sorted,HZ X G z_zip,HZ X G z_enumerate,HZ X G z_reversed,HZ X G z_divmod,HZ X G z_set⟩
 have T:Txt K mg:=⟨B,(aC X G a1 l1 c1 k1 fun _ _ _ _ _ _ us hl=>(by obtain⟨_,rfl⟩:=nW hl;exact rfl)),(aC X G a2 l2 c2 k2 fun _ _ _ _ _ _ us hl=>(by obtain⟨_,_,rfl⟩:=fy hl;exact rfl)),(aC X G a3 l3 c3 k3 fun _ _ _ _ _ _ us hl=>(by obtain⟨_,_,rfl⟩:=fy hl;exact rfl)),(aC X G a4 l4 c4 k4 fun _ _ _ _ _ _ us hl=>(by obtain⟨_,_,rfl⟩:=fy hl;exact rfl)),(aC X G a5 l5 c5 k5 fun _ _ _ _ _ _ us hl=>(by obtain⟨_,_,_,rfl⟩:=qK hl;exact rfl)),(aC X G a6 l6 c6 k6 fun _ _ _ _ _ _ us hl=>(by obtain⟨_,_,_,rfl⟩:=qK hl;exact rfl)),(aC X G a7 l7 c7 k7 fun _ _ _ _ _ _ us hl=>(by obtain⟨_,rfl⟩:=nW hl;exact rfl)),(aC X G a8 l8 c8 k8 fun _ _ _ _ _ _ us hl=>(by obtain⟨_,_,rfl⟩:=fy hl;exact rfl)),(aC X G a9 l9 c9 k9 fun _ _ _ _ _ _ us hl=>(by obtain⟨_,_,rfl⟩:=fy hl;exact rfl)),(aC X G a10 l10 c10 k10 fun _ _ _ _ _ _ us hl=>(by obtain⟨_,_,rfl⟩:=fy hl;exact rfl)),(aC X G a11 l11 c11 k11 fun _ _ _ _ _ _ us hl=>(by obtain⟨_,_,rfl⟩:=fy hl;exact rfl)),(aC X G a12 l12 c12 k12 fun _ _ _ _ _ _ us hl=>(by obtain⟨_,_,rfl⟩:=fy hl;exact rfl)),(aC X G a13 l13 c13 k13 fun _ _ _ _ _ _ us hl=>(by obtain⟨_,_,rfl⟩:=fy hl;exact rfl)),(aC X G a14 l14 c14 k14 fun _ _ _ _ _ _ us hl=>(by obtain⟨_,_,rfl⟩:=fy hl;exact rfl)),(aC X G a15 l15 c15 k15 fun _ _ _ _ _ _ us hl=>(by obtain⟨_,_,rfl⟩:=fy hl;exact rfl)),(aC X G a16 l16 c16 k16 fun _ _ _ _ _ _ us hl=>(by obtain⟨_,rfl⟩:=nW hl;exact rfl)),(aC X G a17 l17 c17 k17 fun _ _ _ _ _ _ us hl=>(by obtain⟨_,rfl⟩:=nW hl;exact rfl)),(aC X G a18 l18 c18 k18 fun _ _ _ _ _ _ us hl=>(by obtain⟨_,_,rfl⟩:=fy hl;exact rfl)),(aC X G a19 l19 c19 k19 fun _ _ _ _ _ _ us hl=>(by obtain⟨_,rfl⟩:=nW hl;exact rfl)),(aC X G a20 l20 c20 k20 fun _ _ _ _ _ _ us hl=>(by obtain⟨_,_,rfl⟩:=fy hl;exact rfl)),(aC X G a21 l21 c21 k21 fun _ _ _ _ _ _ us hl=>(by obtain⟨_,_,rfl⟩:=fy hl;exact rfl)),(aC X G a22 l22 c22 k22 fun _ _ _ _ _ _ us hl=>(by obtain⟨_,_,rfl⟩:=fy hl;exact rfl)),(aC X G a23 l23 c23 k23 fun _ _ _ _ _ _ us hl=>(by obtain⟨_,_,rfl⟩:=fy hl;exact rfl)),(aC X G a24 l24 c24 k24 fun _ _ _ _ _ _ us hl=>(by obtain⟨_,_,rfl⟩:=fy hl;exact rfl)),(aC X G a25 l25 c25 k25 fun _ _ _ _ _ _ us hl=>(by obtain⟨_,rfl⟩:=nW hl;exact rfl)),(aC X G a26 l26 c26 k26 fun _ _ _ _ _ _ us hl=>(by obtain⟨_,_,_,rfl⟩:=qK hl;exact rfl)),(aC X G a27 l27 c27 k27 fun _ _ _ _ _ _ us hl=>(by obtain⟨_,_,_,rfl⟩:=qK hl;exact rfl)),(aC X G a28 l28 c28 k28 fun _ _ _ _ _ _ us hl=>(by obtain⟨_,_,rfl⟩:=fy hl;exact rfl)),(aC X G a29 l29 c29 k29 fun _ _ _ _ _ _ us hl=>(by obtain⟨_,_,rfl⟩:=fy hl;exact rfl)),(aC X G a30 l30 c30 k30 fun _ _ _ _ _ _ us hl=>(by obtain⟨_,_,rfl⟩:=fy hl;exact rfl)),(aC X G a31 l31 c31 k31 fun _ _ _ _ _ _ us hl=>(by obtain⟨_,_,rfl⟩:=fy hl;exact rfl)),(aC X G a32 l32 c32 k32 fun _ _ _ _ _ _ us hl=>(by obtain⟨_,rfl⟩:=nW hl;exact rfl)),(aC X G a33 l33 c33 k33 fun _ _ _ _ _ _ us hl=>(by obtain⟨_,_,rfl⟩:=fy hl;exact rfl)),(aC X G a34 l34 c34 k34 fun _ _ _ _ _ _ us hl=>(by obtain⟨_,rfl⟩:=nW hl;exact rfl)),(aC X G a35 l35 c35 k35 fun _ _ _ _ _ _ us hl=>(by obtain⟨_,_,_,rfl⟩:=qK hl;exact rfl)),(aC X G a36 l36 c36 k36 fun _ _ _ _ _ _ us hl=>(by obtain⟨_,_,_,rfl⟩:=qK hl;exact rfl)),(aC X G a37 l37 c37 k37 fun _ _ _ _ _ _ us hl=>(by obtain⟨_,rfl⟩:=nW hl;exact rfl)),(aC X G a38 l38 c38 k38 fun _ _ _ _ _ _ us hl=>(by obtain⟨_,_,rfl⟩:=fy hl;exact rfl)),(aC X G a39 l39 c39 k39 fun _ _ _ _ _ _ us hl=>(by obtain⟨_,_,rfl⟩:=fy hl;exact rfl)),(aC X G a40 l40 c40 k40 fun _ _ _ _ _ _ us hl=>(by obtain⟨_,_,rfl⟩:=fy hl;exact rfl)),(aC X G a41 l41 c41 k41 fun _ _ _ _ _ _ us hl=>(by obtain⟨_,_,_,rfl⟩:=qK hl;exact rfl)),(aC X G a42 l42 c42 k42 fun _ _ _ _ _ _ us hl=>(by obtain⟨_,rfl⟩:=nW hl;exact rfl)),(aC X G a43 l43 c43 k43 fun _ _ _ _ _ _ us hl=>(by obtain⟨_,_,_,rfl⟩:=qK hl;exact rfl)),(aC X G a44 l44 c44 k44 fun _ _ _ _ _ _ us hl=>(by obtain⟨_,_,_,_,rfl⟩:=C3 hl;exact rfl)),g_ONE.of X G,g_ZERO.of X G,g_BELOW_ALL.of X G,g_MOST_LOOKS.of X G⟩
 have FL:=pO (st:=Ee 57) l45 c45 k45
 exact⟨_,fun s v=>.of_eq rfl,fun base _ _=>yG FL T ⟩
theorem walk{l:MJ}{q:Ij}{YP:IV->Heap->Prop}{d:DefRec}{K:NO->Kk}(hn:l.most=some 63)(hdf:d.params.defaults=[])
 (hY:∀(w:IV)(h:Heap),YP w h->(K w.params).In h)
 (F:∀(w:IV)(mg:Str->Option Hq)(fa:Addr)(h:Heap),(K w.params).In h->h.Ns II mg->mg d.name=some (.ref fa) ->
  ∃fd:Ko,(∀(s:Hv)(u:Hq),ND s fd ⟨[u],[]⟩ [("_law_script", u)])/\∀base:Heap,(K w.params).In base->base.Ns II mg->FnOk l.prog w (K w.params) mg base G8 10 fa fd ["_law_script"] (ip (K w.params))) :
 PySem.W.WalkO q loose XP YP l.row.toRowW d [] (fun f vs=>PySem.call f vs) :=
 L2.walk_of (n:=63) (k:=10) (x := "_law_script") (CX:=fun _=>G8) (sp:=fun w=>ip (K w.params)) hn (by decide) hdf ⟨rfl,by decide,by decide,rfl⟩ hY F (fun _ _ a ns hl _ hS=>⟨a,ns,rfl,hS,hl,fun _=>rfl⟩) fun _ _ _ _ _ z=>z
end K21
noncomputable def PySem.W.Fast.tw16357015305988749579:PySem.Params->Kk:=K21.heapK
theorem PySem.W.Fast.te16357015305988749579:K21.heapK=PySem.W.Fast.tw16357015305988749579:=rfl
open PySem PySem.W PyProof.Rows
set_option maxRecDepth 100000 in
set_option maxHeartbeats 0 in
theorem PySem.Challenge.cw_evenpoints_k21_worst_boxes_holds : PySem.Challenge.rw_evenpoints_k21_worst_boxes.Holds := by
 refine(congrArg MJ.Holds K21.rw_eq).mpr ?_
 w_on;o_law
 refine holds_open (loose:=[]) (XP:=XL K21.zview []) (YP:=Hook.says (kHook K21.heapK K21.heapA K21.heapE)) K21.zleft
  (Hook.of _) (Hook.keeps _) (fun s e=>xl_of s (Hz.mp e).1)
  XL.keeps (by rfl) (by rfl) (by rfl) (fun s e=>recFacts_of (Hz.mp e).2) (by rfl)
  (by first|assumption|decide +kernel) (by decide +kernel) ⟨rfl,rfl,rfl,rfl,rfl,by decide +kernel⟩ ?hw ?hc
 (case hw=>w_witness2)
 k_fill
 refine K21.walk (l:=K21.rwN) rfl rfl (fun w h Y=>PySem.W.kIn_of (as:=K21.heapA) (e:=K21.heapE) Y) ?F
 case F =>
  intro w mg fa h KX G hmg
  refine' K21.all_mk KX G hmg ?a1 ?l1 ?c1 ?k1 ?a2 ?l2 ?c2 ?k2 ?a3 ?l3 ?c3 ?k3 ?a4 ?l4 ?c4 ?k4 ?a5 ?l5 ?c5 ?k5 ?a6 ?l6 ?c6 ?k6 ?a7 ?l7 ?c7 ?k7 ?a8 ?l8 ?c8 ?k8 ?a9 ?l9 ?c9 ?k9 ?a10 ?l10 ?c10 ?k10 ?a11 ?l11 ?c11 ?k11 ?a12 ?l12 ?c12 ?k12 ?a13 ?l13 ?c13 ?k13 ?a14 ?l14 ?c14 ?k14 ?a15 ?l15 ?c15 ?k15 ?a16 ?l16 ?c16 ?k16 ?a17 ?l17 ?c17 ?k17 ?a18 ?l18 ?c18 ?k18 ?a19 ?l19 ?c19 ?k19 ?a20 ?l20 ?c20 ?k20 ?a21 ?l21 ?c21 ?k21 ?a22 ?l22 ?c22 ?k22 ?a23 ?l23 ?c23 ?k23 ?a24 ?l24 ?c24 ?k24 ?a25 ?l25 ?c25 ?k25 ?a26 ?l26 ?c26 ?k26 ?a27 ?l27 ?c27 ?k27 ?a28 ?l28 ?c28 ?k28 ?a29 ?l29 ?c29 ?k29 ?a30 ?l30 ?c30 ?k30 ?a31 ?l31 ?c31 ?k31 ?a32 ?l32 ?c32 ?k32 ?a33 ?l33 ?c33 ?k33 ?a34 ?l34 ?c34 ?k34 ?a35 ?l35 ?c35 ?k35 ?a36 ?l36 ?c36 ?k36 ?a37 ?l37 ?c37 ?k37 ?a38 ?l38 ?c38 ?k38 ?a39 ?l39 ?c39 ?k39 ?a40 ?l40 ?c40 ?k40 ?a41 ?l41 ?c41 ?k41 ?a42 ?l42 ?c42 ?k42 ?a43 ?l43 ?c43 ?k43 ?a44 ?l44 ?c44 ?k44 ?a45 ?l45 ?c45 ?k45 ?zint ?zbool ?zstr ?zlist ?ztuple ?zdict ?zisinstance ?zlen ?zabs ?zrepr ?zrange ?zall ?zany ?zsum ?zmin ?zmax ?zsorted ?zzip ?zenumerate ?zreversed ?zdivmod ?zset ?gONE ?gZERO ?gBELOW_ALL ?gMOST_LOOKS 
  all_goals (try change _=_)
  (case a1=>k_is);(case l1=>k_is);(case c1=>k_is);(case k1=>k_is)
  (case a2=>k_is);(case l2=>k_is);(case c2=>k_is);(case k2=>k_is)
  (case a3=>k_is);(case l3=>k_is);(case c3=>k_is);(case k3=>k_is)
  (case a4=>k_is);(case l4=>k_is);(case c4=>k_is);(case k4=>k_is)
  (case a5=>k_is);(case l5=>k_is);(case c5=>k_is);(case k5=>k_is)
  (case a6=>k_is);(case l6=>k_is);(case c6=>k_is);(case k6=>k_is)
  (case a7=>k_is);(case l7=>k_is);(case c7=>k_is);(case k7=>k_is)
  (case a8=>k_is);(case l8=>k_is);(case c8=>k_is);(case k8=>k_is)
  (case a9=>k_is);(case l9=>k_is);(case c9=>k_is);(case k9=>k_is)
  (case a10=>k_is);(case l10=>k_is);(case c10=>k_is);(case k10=>k_is)
  (case a11=>k_is);(case l11=>k_is);(case c11=>k_is);(case k11=>k_is)
  (case a12=>k_is);(case l12=>k_is);(case c12=>k_is);(case k12=>k_is)
  (case a13=>k_is);(case l13=>k_is);(case c13=>k_is);(case k13=>k_is)
  (case a14=>k_is);(case l14=>k_is);(case c14=>k_is);(case k14=>k_is)
  (case a15=>k_is);(case l15=>k_is);(case c15=>k_is);(case k15=>k_is)
  (case a16=>k_is);(case l16=>k_is);(case c16=>k_is);(case k16=>k_is)
  (case a17=>k_is);(case l17=>k_is);(case c17=>k_is);(case k17=>k_is)
  (case a18=>k_is);(case l18=>k_is);(case c18=>k_is);(case k18=>k_is)
  (case a19=>k_is);(case l19=>k_is);(case c19=>k_is);(case k19=>k_is)
  (case a20=>k_is);(case l20=>k_is);(case c20=>k_is);(case k20=>k_is)
  (case a21=>k_is);(case l21=>k_is);(case c21=>k_is);(case k21=>k_is)
  (case a22=>k_is);(case l22=>k_is);(case c22=>k_is);(case k22=>k_is)
  (case a23=>k_is);(case l23=>k_is);(case c23=>k_is);(case k23=>k_is)
  (case a24=>k_is);(case l24=>k_is);(case c24=>k_is);(case k24=>k_is)
  (case a25=>k_is);(case l25=>k_is);(case c25=>k_is);(case k25=>k_is)
  (case a26=>k_is);(case l26=>k_is);(case c26=>k_is);(case k26=>k_is)
  (case a27=>k_is);(case l27=>k_is);(case c27=>k_is);(case k27=>k_is)
  (case a28=>k_is);(case l28=>k_is);(case c28=>k_is);(case k28=>k_is)
  (case a29=>k_is);(case l29=>k_is);(case c29=>k_is);(case k29=>k_is)
  (case a30=>k_is);(case l30=>k_is);(case c30=>k_is);(case k30=>k_is)
  (case a31=>k_is);(case l31=>k_is);(case c31=>k_is);(case k31=>k_is)
  (case a32=>k_is);(case l32=>k_is);(case c32=>k_is);(case k32=>k_is)
  (case a33=>k_is);(case l33=>k_is);(case c33=>k_is);(case k33=>k_is)
  (case a34=>k_is);(case l34=>k_is);(case c34=>k_is);(case k34=>k_is)
  (case a35=>k_is);(case l35=>k_is);(case c35=>k_is);(case k35=>k_is)
  (case a36=>k_is);(case l36=>k_is);(case c36=>k_is);(case k36=>k_is)
  (case a37=>k_is);(case l37=>k_is);(case c37=>k_is);(case k37=>k_is)
  (case a38=>k_is);(case l38=>k_is);(case c38=>k_is);(case k38=>k_is)
  (case a39=>k_is);(case l39=>k_is);(case c39=>k_is);(case k39=>k_is)
  (case a40=>k_is);(case l40=>k_is);(case c40=>k_is);(case k40=>k_is)
  (case a41=>k_is);(case l41=>k_is);(case c41=>k_is);(case k41=>k_is)
  (case a42=>k_is);(case l42=>k_is);(case c42=>k_is);(case k42=>k_is)
  (case a43=>k_is);(case l43=>k_is);(case c43=>k_is);(case k43=>k_is)
  (case a44=>k_is);(case l44=>k_is);(case c44=>k_is);(case k44=>k_is)
  (case a45=>k_is);(case l45=>k_is);(case c45=>k_is);(case k45=>k_is)
  (case zint=>k_is)
  (case zbool=>k_is)
  (case zstr=>k_is)
  (case zlist=>k_is)
  (case ztuple=>k_is)
  (case zdict=>k_is)
  (case zisinstance=>k_is)
  (case zlen=>k_is)
  (case zabs=>k_is)
  (case zrepr=>k_is)
  (case zrange=>k_is)
  (case zall=>k_is)
  (case zany=>k_is)
  (case zsum=>k_is)
  (case zmin=>k_is)
  (case zmax=>k_is)
  (case zsorted=>k_is)
  (case zzip=>k_is)
  (case zenumerate=>k_is)
  (case zreversed=>k_is)
  (case zdivmod=>k_is)
  (case zset=>k_is)
  (case gONE=>refine' L2.VL.GlK.pair ?h1 ?h2;(case h1=>k_is);(case h2=>k_is))
  (case gZERO=>refine' L2.VL.GlK.pair ?h1 ?h2;(case h1=>k_is);(case h2=>k_is))
  (case gBELOW_ALL=>refine' L2.VL.GlK.pair ?h1 ?h2;(case h1=>k_is);(case h2=>k_is))
  (case gMOST_LOOKS=>refine' L2.VL.GlK.int ?h1;(case h1=>k_is))
